import PyProof.Rows.All
import Wide.All
import OpenK.AllK
import Wide.FinOn
import Lean
import PyProof.EqAt
import PyProof.EqKinds
import PyProof.TupleCall
import PySem.Challenge.RW_gainstream_k37_whole_apart_and_together
set_option compiler.extract_closed false
theorem zL0:0<=PySem.sizeLine:=by decide
theorem zL1:1<=PySem.sizeLine:=by decide
theorem zL2:2<=PySem.sizeLine:=by decide
theorem zL3:3<=PySem.sizeLine:=by decide
theorem zL4:4<=PySem.sizeLine:=by decide
theorem zL5:5<=PySem.sizeLine:=by decide
theorem zI1:(0:Int)<1:=by decide
theorem zI1000:(0:Int)<1000:=by decide
theorem zI1000003:(0:Int)<1000003:=by decide
theorem zI11:(0:Int)<11:=by decide
theorem zI2:(0:Int)<2:=by decide
theorem zI20:(0:Int)<20:=by decide
theorem zI3:(0:Int)<3:=by decide
theorem zI4:(0:Int)<4:=by decide
theorem zI5:(0:Int)<5:=by decide
theorem zI6:(0:Int)<6:=by decide
theorem zI7:(0:Int)<7:=by decide
theorem zI8:(0:Int)<8:=by decide
theorem zI9:(0:Int)<9:=by decide
def kK.{u0,u1}:=@List.length_map.{u0,u1}
def kL.{u0}:=@List.getElem?_eq_some_iff.{u0}
def kM:=@Nat.le_refl
def kN.{u0}:=@List.mem_of_getElem?.{u0}
def kO.{u0,u1}:=@List.map_append.{u0,u1}
def kP.{u0,u1}:=@List.getElem?_map.{u0,u1}
def kQ.{u0,u1}:=@List.mem_map.{u0,u1}
def kR.{u0}:=@List.getElem?_eq_getElem.{u0}
def kS.{u0}:=@List.mem_singleton.{u0}
def kU.{u0}:=@List.mem_append.{u0}
def kW:=@Nat.le_trans
def kX.{u0}:=@List.take_add_one.{u0}
def kY:=@Nat.zero_le
def kZ.{u0}:=@List.take_length.{u0}
def k5.{u0}:=@List.length_append.{u0}
def k8.{u0}:=@List.length_take.{u0}
def lf.{u0}:=@List.mem_append_left.{u0}
def lj:=@PySem.PassesOwn.never
def lv.{u0}:=@List.mem_cons_of_mem.{u0}
def lx.{u0}:=@List.mem_cons.{u0}
def ly:=@PySem.Heap.get?_push_of_some
def lz:=@decide_eq_false
def lA.{u0}:=@List.not_mem_nil.{u0}
def lB.{u0}:=@Option.toList_some.{u0}
def lC:=@PySem.Heap.lt_size
def lD:=@decide_eq_true
def lE:=@Rat.mul_inv_cancel
def lF:=@Nat.pow_le_pow_right
def lG.{u0}:=@List.mem_cons_self.{u0}
def lH.{u0}:=@List.mem_append_right.{u0}
def lI:=@Rat.le_of_lt
def lJ.{u0}:=@Option.some.inj.{u0}
def lK.{u0,u1}:=@List.lookup_cons.{u0,u1}
def lL.{u0}:=@List.mem_iff_getElem?.{u0}
def lM:=@Bool.false_ne_true
def lN:=@Classical.byContradiction
def lO:=@Rat.div_def
def lP.{u0}:=@List.length_singleton.{u0}
def lQ:=@Nat.lt_of_le_of_lt
def lR.{u0}:=@List.length_cons.{u0}
def lS:=@PySem.Heap.get?_push_size
def lT:=@Int.natAbs_mul
def lU:=@Nat.mul_le_mul
def lV.{u0}:=@List.nodup_append.{u0}
def lW.{u0,u1}:=@congrArg.{u0,u1}
def lX:=@Nat.ne_of_lt
def lY.{u0,u1,u2}:=@List.map_map.{u0,u1,u2}
def lZ:=@PySem.boot_len
def l0:=@Nat.pow_add
def l6:=@Nat.lt_of_lt_of_le
def l7.{u0}:=@List.size_toArray.{u0}
def l9:=@PySem.wpAny_bind
def ma:=@Nat.mod_lt
def md.{u0,u1}:=@List.map_cons.{u0,u1}
def me.{u0}:=@List.nodup_cons.{u0}
def mf:=@Int.mul_comm
def mh.{u0}:=@List.getElem?_append_right.{u0}
def mi:=@PyProof.Rows.boot_list
def mj:=@Rat.mul_le_mul_of_nonneg_right
def ml.{u0,u1}:=@Option.map_some.{u0,u1}
def mo.{u0}:=@List.getElem?_inj.{u0}
def mq:=@Rat.intCast_mul
def mr:=@PySem.wpAny_pure
def mw:=@Rat.div_mul_cancel
def mx.{u0}:=@List.length_filter_le.{u0}
def mz.{u0}:=@List.append_nil.{u0}
def mB.{u0}:=@List.nodup_nil.{u0}
def mF:=@Nat.lt_irrefl
def mG:=@Int.dvd_trans
def mH:=@Rat.mul_le_mul_of_nonneg_left
def mK:=@Nat.mul_dvd_mul_left
def mN.{u0}:=@List.getElem?_append_left.{u0}
def mO.{u0}:=@List.getElem?_take.{u0}
def mP:=@PyProof.Rows.boot_isinstance
def mQ:=@PySem.F.slot_list_append
def mR:=@PySem.F.type_list_append
def mS:=@PySem.mem_of_lookup
def mT.{u0,u1}:=@List.foldl_append.{u0,u1}
def mU:=@Rat.divInt_eq_div
def mV:=@List.length_range
def mW:=@Int.eq_ofNat_of_zero_le
def mY:=@PySem.F.plainAttrs_list
def mZ.{u0}:=@List.filter_cons_of_pos.{u0}
def m5.{u0}:=@List.filter_cons_of_neg.{u0}
def m6.{u0}:=@List.mem_of_mem_take.{u0}
def m7:=@PySem.W.kia_one
def m9:=@Rat.add_zero
def nc:=@Rat.le_trans
def nh.{u0}:=@beq_eq_false_iff_ne.{u0}
def nj:=@Int.mul_assoc
def nv:=@Int.natAbs_natCast
def nC:=@Int.mul_pos
def nD:=@Nat.mul_le_mul_right
def nE:=@List.mem_range
def nF:=@PySem.wpAny_mono
def nG.{u0,u1}:=@List.map_nil.{u0,u1}
def nH.{u0}:=@List.mem_filter.{u0}
def nI.{u0,u1}:=@List.foldl_cons.{u0,u1}
def nJ:=@Int.gcd_dvd_left
def nK:=@Int.dvd_mul_left
def nL.{u0}:=@List.filter_append.{u0}
def nM:=@Rat.mul_assoc
def nN:=@Int.le_trans
def nO.{u0,u1}:=@Sum.inr.inj.{u0,u1}
def nP:=@Rat.le_refl
def nQ:=@Nat.mul_pos
def nR:=@or_false
set_option Elab.async false
set_option linter.all false
set_option maxRecDepth 100000
inductive yA3(a b c:Prop):Prop|mk(_:a)(_:b)(_:c)
inductive yA4(a b c d:Prop):Prop|mk(_:a)(_:b)(_:c)(_:d)
inductive yA5(a b c d e:Prop):Prop|mk(_:a)(_:b)(_:c)(_:d)(_:e)
inductive yA6(a b c d e f:Prop):Prop|mk(_:a)(_:b)(_:c)(_:d)(_:e)(_:f)
inductive yA7(a b c d e f g:Prop):Prop|mk(_:a)(_:b)(_:c)(_:d)(_:e)(_:f)(_:g)
inductive yA8(a b c d e f g h:Prop):Prop|mk(_:a)(_:b)(_:c)(_:d)(_:e)(_:f)(_:g)(_:h)
inductive yA9(a b c d e f g h i:Prop):Prop|mk(_:a)(_:b)(_:c)(_:d)(_:e)(_:f)(_:g)(_:h)(_:i)
inductive yA10(a b c d e f g h i j:Prop):Prop|mk(_:a)(_:b)(_:c)(_:d)(_:e)(_:f)(_:g)(_:h)(_:i)(_:j)
inductive yA11(a b c d e f g h i j k:Prop):Prop|mk(_:a)(_:b)(_:c)(_:d)(_:e)(_:f)(_:g)(_:h)(_:i)(_:j)(_:k)
inductive yA12(a b c d e f g h i j k l:Prop):Prop|mk(_:a)(_:b)(_:c)(_:d)(_:e)(_:f)(_:g)(_:h)(_:i)(_:j)(_:k)(_:l)
inductive yA13(a b c d e f g h i j k l m:Prop):Prop|mk(_:a)(_:b)(_:c)(_:d)(_:e)(_:f)(_:g)(_:h)(_:i)(_:j)(_:k)(_:l)(_:m)
inductive yA14(a b c d e f g h i j k l m n:Prop):Prop|mk(_:a)(_:b)(_:c)(_:d)(_:e)(_:f)(_:g)(_:h)(_:i)(_:j)(_:k)(_:l)(_:m)(_:n)
inductive yE1{α:Type}(p:α->Prop):Prop|mk(a:α)(_:p a)
inductive yE2{α β:Type}(p:α->β->Prop):Prop|mk(a:α)(b:β)(_:p a b)
inductive yE3{α β γ:Type}(p:α->β->γ->Prop):Prop|mk(a:α)(b:β)(c:γ)(_:p a b c)
inductive yE4{α β γ δ:Type}(p:α->β->γ->δ->Prop):Prop|mk(a:α)(b:β)(c:γ)(d:δ)(_:p a b c d)
inductive yE5{α β γ δ ε:Type}(p:α->β->γ->δ->ε->Prop):Prop|mk(a:α)(b:β)(c:γ)(d:δ)(e:ε)(_:p a b c d e)
inductive yE6{α β γ δ ε ζ:Type}(p:α->β->γ->δ->ε->ζ->Prop):Prop|mk(a:α)(b:β)(c:γ)(d:δ)(e:ε)(f:ζ)(_:p a b c d e f)
inductive yE7{α β γ δ ε ζ η:Type}(p:α->β->γ->δ->ε->ζ->η->Prop):Prop|mk(a:α)(b:β)(c:γ)(d:δ)(e:ε)(f:ζ)(g:η)(_:p a b c d e f g)
inductive yE10{α β γ δ ε ζ η θ ι κ:Type}(p:α->β->γ->δ->ε->ζ->η->θ->ι->κ->Prop):Prop|mk(a:α)(b:β)(c:γ)(d:δ)(e:ε)(f:ζ)(g:η)(h:θ)(i:ι)(j:κ)(_:p a b c d e f g h i j)
local macro_rules|`($a ×' $b)=>do
 let rec go (r:Lean.TSyntax `term):Nat->Array (Lean.TSyntax `term)
  |0=>#[r]
  |n+1=>match r with|`($x ×' $y)=>#[x]++go y n|_=>#[r]
 let xs:=#[a]++go b 20
 `($(Lean.mkIdent (.mkSimple ("yA"++toString xs.size))) $xs*)
namespace L2
open PySem PySem.Spec PyProof.Rows
noncomputable abbrev Key:=Sum Int Str
noncomputable def keyIs:Key->Value->Bool
 |.inl k,v=>Value.isInt k v
 |.inr x,v=>Value.isStrOf x v
noncomputable def keyH(w:World):Key->Int
 |.inl k=>hashInt k
 |.inr x=>hashStr w x
theorem cS:∀{k:Key}{v:Value},keyIs k v=true->(∃i t,k=Sum.inl i/\v=Value.int i t)∨(∃x t,k=Sum.inr x/\v=Value.str x t)
 |.inl i,v,h=>by
  obtain⟨t,e⟩:=Value.isInt_shape (k:=i) (v:=v) h;exact .inl ⟨i,t,rfl,e⟩
 |.inr x,v,h=>by
  obtain⟨t,e⟩:=Value.isStrOf_shape (x:=x) (v:=v) h;exact .inr ⟨x,t,rfl,e⟩
theorem keyIs_int(i:Int)(t:Tok):keyIs (.inl i) (.int i t)=true:=by simp[keyIs,Value.isInt]
theorem keyIs_str(x:Str)(t:Tok):keyIs (.inr x) (.str x t)=true:=by simp[keyIs,Value.isStrOf]
theorem key_ll(a b:Int):decide ((Sum.inl a:Key)=Sum.inl b)=(a==b):=by
 by_cases e:a=b
 ·subst e;simp
 ·have h:¬(Sum.inl a:Key)=Sum.inl b:=λq=>e (Sum.inl.inj q);rw[lz h];exact(nh.mpr e).symm
theorem key_rr(a b:Str):decide ((Sum.inr a:Key)=Sum.inr b)=decide (a=b):=by
 by_cases e:a=b
 ·subst e;simp
 ·have h:¬(Sum.inr a:Key)=Sum.inr b:=λq=>e (nO q);rw[lz h,lz e]
theorem key_lr(a:Int)(b:Str):decide ((Sum.inl a:Key)=Sum.inr b)=false:=lz (λq=>nomatch q)
theorem key_rl(a:Str)(b:Int):decide ((Sum.inr a:Key)=Sum.inl b)=false:=lz (λq=>nomatch q)
noncomputable def cJ(prog:Program)(w:World):PySem.KeyKind prog w Key where
 is:=keyIs
 hash:=keyH w
 inj:=λv a b ha hb=>by
  rcases cS ha with⟨i,t,rfl,rfl⟩|⟨x,t,rfl,rfl⟩
  ·rcases cS hb with⟨j,u,rfl,e⟩|⟨y,u,rfl,e⟩
   ·injection e with e1 _;rw[e1]
   ·exact nomatch e
  ·rcases cS hb with⟨j,u,rfl,e⟩|⟨y,u,rfl,e⟩
   ·exact nomatch e
   ·injection e with e1 _;rw[e1]
 byValue:=λk v h=>by
  rcases cS h with⟨i,t,rfl,rfl⟩|⟨x,t,rfl,rfl⟩<;>rfl
 pyHash:=λhv h=>by
  rcases cS hv with⟨i,t,rfl,rfl⟩|⟨x,t,rfl,rfl⟩
  ·exact wpAny_pyHash_int h
  ·exact wpAny_pyHash_str h
 eqBool:=λhu hv h=>by
  rcases cS hu with⟨i,t,rfl,rfl⟩|⟨x,t,rfl,rfl⟩
  ·rcases cS hv with⟨j,u,rfl,rfl⟩|⟨y,u,rfl,rfl⟩
   ·rw[key_ll]at h;exact wpAny_eqBool_int h
   ·rw[key_lr]at h;exact SeqAt.EqAt.int_str i t y u _ _ _ _ h
  ·rcases cS hv with⟨j,u,rfl,rfl⟩|⟨y,u,rfl,rfl⟩
   ·rw[key_rl]at h;exact SeqAt.EqAt.str_int x t j u _ _ _ _ h
   ·rw[key_rr]at h;exact wpAny_eqBool_str h
 «strs»:=λk x t v h=>by
  rcases cS h with⟨i,u,rfl,e⟩|⟨y,u,rfl,e⟩
  ·exact nomatch e
  ·injection e with e1 _
   subst e1
   cases v<;>rfl
theorem mixKind_int(prog:Program)(w:World)(i:Int)(t:Tok):(cJ prog w).is (.inl i) (.int i t)=true:=keyIs_int i t
theorem mixKind_str(prog:Program)(w:World)(x:Str)(t:Tok):(cJ prog w).is (.inr x) (.str x t)=true:=keyIs_str x t
inductive V where
 |non|bl(b:Bool)|int(i:Int)|str(x:Str)|byt(b:Array UInt8)|flt(b:UInt64)|ref(a:Addr)|ty(n:String)
 deriving DecidableEq
noncomputable def RelV:V->Value->Prop
 |.non,u=>u=Value.none
 |.bl b,u=>u=Value.bool b
 |.int i,u=>∃t,u=Value.int i t
 |.str x,u=>∃t,u=Value.str x t
 |.byt b,u=>∃t,u=Value.bytes b t
 |.flt b,u=>∃t,u=Value.float b t
 |.ref a,u=>u=Value.ref a
 |.ty n,u=>u=Value.type n
noncomputable abbrev Vals:List V->List Value->Prop:=Paired RelV
theorem Vals.length(r:Vals xs us):xs.length=us.length:=Paired.length r
theorem Vals.get:∀{xs:List V}{us:List Value}{i:Nat}{x:V},Vals xs us->xs[i]?=some x->∃u,us[i]?=some u/\RelV x u
 |_,_,_,_,.nil,e=>by simp at e
 |_,_,0,_,.cons r _,e=>by simp at e;subst e;exact⟨_,rfl,r⟩
 |_,_,i+1,x,.cons _ t,e=>by
  obtain⟨u,a,b⟩:=Vals.get (i:=i) (x:=x) t (by simpa using e);exact⟨u,by simpa using a,b⟩
theorem Vals.append:∀{xs ys:List V}{us ws:List Value},Vals xs us->Vals ys ws->Vals (xs++ys) (us++ws)
 |_,_,_,_,.nil,s=>s
 |_,_,_,_,.cons r t,s=>.cons r (Vals.append t s)
theorem Vals.take:∀{xs:List V}{us:List Value}(n:Nat),Vals xs us->Vals (xs.take n) (us.take n)
 |_,_,0,_=>.nil
 |_,_,_+1,.nil=>.nil
 |_,_,n+1,.cons r t=>.cons r (Vals.take n t)
theorem Vals.drop:∀{xs:List V}{us:List Value}(n:Nat),Vals xs us->Vals (xs.drop n) (us.drop n)
 |_,_,0,r=>r
 |_,_,_+1,.nil=>.nil
 |_,_,n+1,.cons _ t=>Vals.drop n t
noncomputable def RelO:Option V->Option Value->Prop
 |some v,some u=>RelV v u
 |none,none=>True
 |_,_=>False
noncomputable def KV{κ:Type}:List (κ×V)->List (κ×Value)->Prop:=Paired λ(p:κ×V)(q:κ×Value)=>p.1=q.1/\RelV p.2 q.2
noncomputable def kV:Key->V
 |.inl i=>.int i
 |.inr x=>.str x
inductive HO where
 |lst(xs:List V)
 |tup(xs:List V)
 |dK(kvs:List (Key×V))|dT(kvs:List (List Key×V))
 |set(S:Int->Bool)(n:Nat)
 |ins(C dx:Addr)(fs:List (Str×V))
 |own(x:Addr)
 |xd(fs:List (Str×V))
 |met(f x:Addr)
 |rng(lo hi:Int)
 |frz(o:Obj)(u:HO)
 |tbl(ps:Array Value)
 |ext(φ:Heap->Prop)
noncomputable abbrev Hp:=Addr->Option HO
noncomputable def upd(H:Hp)(a:Addr)(o:HO):Hp:=λb=>if b=a then some o else H b
theorem aE:upd H a o a=some o:=by unfold upd;rw[if_pos rfl]
theorem aG(h:b≠a):upd H a o b=H b:=by unfold upd;rw[if_neg h]
theorem jp:upd (upd H a o) a u=upd H a u:=by
 funext b;unfold upd;split<;>rfl
theorem bD{H:Hp}(h:H a=some o)(h':H b=some u)(d:o≠u):a≠b:=by
 intro e;subst e;rw[h]at h';exact d (lJ h')
theorem aN{H:Hp}(h:H a=some o)(h':H b=none):a≠b:=by
 intro e;subst e;rw[h]at h';cases h'
section
variable(P:Program)(w:World)
noncomputable def ObjOk(H:Hp)(h:Heap)(a:Addr):HO->Prop
 |.lst xs=>xs.length<=sizeLine/\∃(its:List Value)(n:Nat),Vals xs its/\h.get? a=some {cls:=.type "list",data:=.seq its.toArray n}
 |.tup xs=>xs.length<=sizeLine/\∃its:List Value,Vals xs its/\IsTup h a its.toArray
 |.dK kvs=>kvs.length<=sizeLine/\(a==sysModules)=false/\∃vs,KV kvs vs/\h.DictOf (cJ P w) a vs
 |.dT kvs=>kvs.length<=sizeLine/\(a==sysModules)=false/\∃xs:List (List Key×Addr×Value),
   Paired (λ(p:List Key×V)(q:List Key×Addr×Value)=>p.1=q.1/\H q.2.1=some (.tup (p.1.map kV))/\RelV p.2 q.2.2) kvs xs/\
   ∃o es ep,h.get? a=some o/\o.ExactDict/\o.data=.dict es ep/\es.toList=xs.map (entryOfKey (tupleKind (cJ P w)))/\(xs.map (·.1)).Nodup
 |.set S n=>h.SetOf (intKind P w) a S n
 |.ins C dx fs=>H dx=some (.own a)/\fs.length<=1000/\dx≠a/\h.get? a=some (PySem.W.instObj C dx)/\
   ∃mA,h.Ns1 dx mA/\(∀f,RelO (fs.lookup f) (mA f))/\PySem.Within mA (fs.map (·.1))
 |.own _=>∃o,h.get? a=some o
 |.xd fs=>∃mA,h.Ns1 a mA/\∀f,RelO (fs.lookup f) (mA f)
 |.rng lo hi=>∃t u v,h.get? a=some {cls:=.type "range",data:=.fields #[.int lo t,.int hi u,.int 1 v]}
 |.frz o u=>h.get? a=some o/\ObjOk H h a u
 |.tbl ps=>h.get? a=some {cls:=.none,data:=.fields ps}
 |.met f x=>h.get? a=some (PySem.W.methodObj (.ref f) (.ref x))
 |.ext φ=>φ h/\(∃o,h.get? a=some o)/\∀h1 h2:Heap,φ h1->(∀o,h1.get? a=some o->h2.get? a=some o)->φ h2
noncomputable def HOk(H:Hp)(h:Heap):Prop:=∀a o,H a=some o->ObjOk P w H h a o
end
section
variable{P:Program}{w:World}{H H':Hp}{h h':Heap}{a:Addr}{o:HO}
theorem ObjOk.lt(x:ObjOk P w H h a o):a<h.objs.size:=by
 cases o with
 |lst xs=>obtain⟨_,_,_,_,e⟩:=x;exact lC e
 |tup xs=>obtain⟨_,_,_,p⟩:=x;exact p.lt
 |dK kvs=>obtain⟨_,_,_,_,o,_,_,e,_⟩:=x;exact lC e
 |dT kvs=>obtain⟨_,_,_,_,o,_,_,e,_⟩:=x;exact lC e
 |set S n=>obtain⟨o,_,_,_,e,_⟩:=x;exact lC e
 |ins C dx fs=>obtain⟨_,_,_,e,_⟩:=x;exact lC e
 |own y=>obtain⟨_,e⟩:=x;exact lC e
 |xd fs=>obtain⟨_,⟨_,_,_,e,_⟩,_⟩:=x;exact lC e
 |rng lo hi=>obtain⟨_,_,_,e⟩:=x;exact lC e
 |frz ob u=>obtain⟨e,_⟩:=x;exact lC e
 |tbl ps=>exact lC (show h.get? a=some _ from x)
 |met f y=>exact lC (show h.get? a=some _ from x)
 |ext φ=>obtain⟨_,⟨_,e⟩,_⟩:=x;exact lC e
theorem Paired.mapP:∀{l₁:List α}{l₂:List β},Paired F l₁ l₂->(∀a b,F a b->G a b)->Paired G l₁ l₂
 |_,_,.nil,_=>.nil
 |_,_,.cons r t,f=>.cons (f _ _ r) (Paired.mapP t f)
theorem ObjOk.stay(x:ObjOk P w H h a o)(k:∀b u,(b=a∨H b=some (.own a))->h.get? b=some u->h'.get? b=some u)
  (ho:∀b,H b=some (.own a)->H' b=some (.own a))(ht:∀b xs,H b=some (.tup xs)->H' b=some (.tup xs)):ObjOk P w H' h' a o:=by
 induction o with
 |lst xs=>obtain⟨z,m,n,r,e⟩:=x;exact⟨z,m,n,r,k _ _ (.inl rfl) e⟩
 |tup xs=>obtain⟨z,m,r,i,e,c⟩:=x;exact⟨z,m,r,i,k _ _ (.inl rfl) e,c⟩
 |dK kvs=>obtain⟨z,y,D,r,i,j,l,e,c⟩:=x;exact⟨z,y,D,r,i,j,l,k _ _ (.inl rfl) e,c⟩
 |dT kvs=>
  obtain⟨z,y,xs,r,i,j,l,e,c⟩:=x;exact⟨z,y,xs,Paired.mapP r λp q z=>⟨z.1,ht _ _ z.2.1,z.2.2⟩,i,j,l,k _ _ (.inl rfl) e,c⟩
 |set S n=>obtain⟨i,j,l,t,e,c⟩:=x;exact⟨i,j,l,t,k _ _ (.inl rfl) e,c⟩
 |ins C dx fs=>
  obtain⟨d,z,ne,e,s,⟨A,j,l,E,c⟩,r⟩:=x;exact⟨ho _ d,z,ne,k _ _ (.inl rfl) e,s,⟨A,j,l,k _ _ (.inr d) E,c⟩,r⟩
 |own y=>obtain⟨i,e⟩:=x;exact⟨i,k _ _ (.inl rfl) e⟩
 |xd fs=>obtain⟨s,⟨A,j,l,e,c⟩,r⟩:=x;exact⟨s,⟨A,j,l,k _ _ (.inl rfl) e,c⟩,r⟩
 |rng lo hi=>obtain⟨t,u,v,e⟩:=x;exact⟨t,u,v,k _ _ (.inl rfl) e⟩
 |frz i u ih=>obtain⟨e,q⟩:=x;exact⟨k _ _ (.inl rfl) e,ih q⟩
 |tbl ps=>
  have e:h.get? a=some {cls:=.none,data:=.fields ps}:=x;show h'.get? a=some {cls:=.none,data:=.fields ps};exact k a _ (.inl rfl) e
 |met f y=>
  have e:h.get? a=some (PySem.W.methodObj (.ref f) (.ref y)):=x;show h'.get? a=some (PySem.W.methodObj (.ref f) (.ref y));exact k a _ (.inl rfl) e
 |ext φ=>obtain⟨p,⟨o,e⟩,B⟩:=x;exact⟨B _ _ p λo q=>k _ _ (.inl rfl) q,⟨o,k _ _ (.inl rfl) e⟩,B⟩
theorem HOk.lt(x:HOk P w H h)(e:H a=some o):a<h.objs.size:=(x a o e).lt
theorem HOk.fresh(x:HOk P w H h)(e:h.objs.size<=a):H a=none:=by
 cases q:H a with
 |none=>rfl
 |some u=>exact absurd (l6 (x.lt q) e) (mF _)
theorem HOk.kept(x:HOk P w H h)(k:∀b u,h.get? b=some u->h'.get? b=some u):HOk P w H h':=λa o e=>
 (x a o e).stay (λb u _ q=>k b u q) (λ_ q=>q) λ_ _ q=>q
theorem HOk.laid(x:HOk P w H h)(k:∀b u,h.get? b=some u->h'.get? b=some u)(hp:h.objs.size<=a)(new:ObjOk P w (upd H a o) h' a o):HOk P w (upd H a o) h':=λb u e=>by
 have i:=x.fresh hp;by_cases hb:b=a
 ·subst hb;rw[aE]at e;cases e;exact new
 ·rw[aG hb]at e;exact(x b u e).stay (λc v _ q=>k c v q) (λc q=>by rw[aG (aN q i)];exact q) λc j q=>by rw[aG (aN q i)];exact q
end
noncomputable def Rd(H:Hp)(a:Addr)(u:HO):Prop:=H a=some u∨∃o,H a=some (.frz o u)
theorem Rd.ok(r:Rd H a u)(x:HOk P w H h):ObjOk P w H h a u:=by
 rcases r with r|⟨o,r⟩
 ·exact x a u r
 ·obtain⟨_,q⟩:=x a _ r;exact q
noncomputable def Mut:Option HO->Prop
 |some (.lst _)=>True
 |some (.dK _)=>True
 |some (.dT _)=>True
 |some (.set _ _)=>True
 |some (.ins _ _ _)=>True
 |some (.ext _)=>True
 |_=>False
section
variable{P:Program}{w:World}{H:Hp}{h h':Heap}{x e:Addr}{o':HO}
theorem HOk.write(ok:HOk P w H h)(mu:Mut (H x))(he:e=x∨H e=some (.own x))(k:∀b u,b≠e->h.get? b=some u->h'.get? b=some u)(heo:∃u,h'.get? e=some u)
  (new:ObjOk P w (upd H x o') h' x o'):HOk P w (upd H x o') h':=λb u q=>by
 have a:∀c y,H c=some (.own y)->c≠x:=λc y r z=>by subst z;rw[r]at mu;exact mu
 have i:∀c l,H c=some (.tup l)->c≠x:=λc l r z=>by subst z;rw[r]at mu;exact mu
 by_cases hb:b=x
 ·subst hb;rw[aE]at q;cases q;exact new
 ·rw[aG hb]at q;by_cases hbe:b=e
  ·have m:H b=some (.own x):=by
    rcases he with z|z
    ·exact absurd (hbe.trans z) hb
    ·rw[hbe];exact z
   rw[q]at m;cases m;obtain⟨v,o⟩:=heo;exact⟨v,by rw[hbe];exact o⟩
  ·refine(ok b u q).stay (λc v j r=>k c v ?_ r) (λc r=>by rw[aG (a c b r)];exact r) λc l r=>by rw[aG (i c l r)];exact r
   rcases j with rfl|j
   ·exact hbe
   ·rintro rfl;rcases he with z|z
    ·exact a c b j z
    ·rw[j]at z;cases z;exact hb rfl
end
structure Un(fs ex:List Addr)(H H':Hp)(h h':Heap):Prop where
 keep:∀b o,h.get? b=some o->H b=none->b∉fs->b∉ex->h'.get? b=some o
 slot:∀b o,h.get? b=some o->H b=none->b∈fs->b∉ex->∃sl,h'.get? b=some {o with slots:=sl}
 free:∀b o,h.get? b=some o->H b=none->b∉ex->H' b=none
 there:∀b o,h.get? b=some o->b∉ex->∃o',h'.get? b=some o'
 tups:∀b xs,H b=some (.tup xs)->H' b=some (.tup xs)
 frzs:∀b o u,H b=some (.frz o u)->H' b=some (.frz o u)
 tbls:∀b ps,H b=some (.tbl ps)->∃more,H' b=some (.tbl (ps++more))
section
variable{fs fs' ex ex':List Addr}{H H1 H2:Hp}{h h1 h2 h':Heap}{a x e:Addr}{o:HO}
theorem Un.any(u:Un fs ex H H1 h h1)(q:h.get? b=some ob)(n:H b=none)(hx:b∉ex):∃sl,h1.get? b=some {ob with slots:=sl}:=by
 by_cases hb:b∈fs
 ·exact u.slot b ob q n hb hx
 ·exact⟨ob.slots,u.keep b ob q n hb hx⟩
theorem Un.kept(k:∀b u,h.get? b=some u->h'.get? b=some u):Un fs ex H H h h':=
 ⟨λb a q _ _ _=>k b a q,λb a q _ _ _=>⟨a.slots,k b a q⟩,λ_ _ _ n _=>n,λb a q _=>⟨a,k b a q⟩,λ_ _ q=>q,λ_ _ _ q=>q,λ_ ps q=>⟨#[],by rw[q];simp⟩⟩
theorem Un.refl:Un fs ex H H h h:=Un.kept λ_ _ q=>q
theorem Un.laid(k:∀b u,h.get? b=some u->h'.get? b=some u)(hp:h.objs.size<=a)(hn:H a=none):Un fs ex H (upd H a o) h h' where
 keep:=λb u q _ _ _=>k b u q
 slot:=λb u q _ _ _=>⟨u.slots,k b u q⟩
 free:=λb u q n _=>by rw[aG (lX (l6 (lC q) hp))];exact n
 there:=λb u q _=>⟨u,k b u q⟩
 tups:=λb c q=>by rw[aG (aN q hn)];exact q
 frzs:=λb u c q=>by rw[aG (aN q hn)];exact q
 tbls:=λb ps q=>⟨#[],by rw[aG (aN q hn),q];simp⟩
theorem Un.write(mu:Mut (H x))(he:e=x∨H e=some (.own x))(k:∀b u,b≠e->h.get? b=some u->h'.get? b=some u)(heo:∃u,h'.get? e=some u):Un fs ex H (upd H x o) h h':=by
 have i:∀b,H b=none->b≠x:=λb n z=>by subst z;rw[n]at mu;exact mu
 have c:∀b,H b=none->b≠e:=λb n z=>by
  subst z;rcases he with r|r
  ·exact i b n r
  ·rw[n]at r;cases r
 have a:∀b u,H b=some u->¬Mut (some u)->b≠x:=λb u q j z=>by subst z;rw[q]at mu;exact j mu
 refine⟨λb u q n _ _=>k b u (c b n) q,λb u q n _ _=>⟨u.slots,k b u (c b n) q⟩,λb u q n _=>by rw[aG (i b n)];exact n,λb u q _=>?_,
  λb l q=>by rw[aG (a b _ q λz=>z)];exact q,λb u l q=>by rw[aG (a b _ q λz=>z)];exact q,λb ps q=>⟨#[],by rw[aG (a b _ q λz=>z),q];simp⟩⟩
 by_cases hbe:b=e
 ·subst hbe;exact heo
 ·exact⟨u,k b u hbe q⟩
end
noncomputable def trk(h:Heap)(H:Hp):List Addr:=(List.range h.objs.size).filter λa=>(H a).isSome
noncomputable def hidT(h:Heap)(H:Hp):Heap:=PySem.W.hideAll h (trk h H)
theorem hidT_size(h:Heap)(H:Hp):(hidT h H).objs.size=h.objs.size:=PySem.W.hideAll_size _ _
theorem hidT_get(e:h.get? b=some o)(n:H b=none):(hidT h H).get? b=some o:=
 PySem.W.hideAll_get _ e λa=>by
  have q:(H b).isSome=true:=(nH.mp a).2;rw[n]at q;simp at q
theorem of_hidT(e:(hidT h H).get? b=some o):h.get? b=some o/\H b=none:=by
 have a:h.get? b=some o:=PySem.W.of_hideAll (trk h H) e;refine⟨a,?_⟩
 cases q:H b with
 |none=>rfl
 |some x=>
  have c:b∈trk h H:=nH.mpr ⟨nE.mpr (lC a),by simp[q]⟩;have z:(hidT h H).get? b=none:=PySem.W.hideAll_none (trk h H) c;rw[z]at e;cases e
noncomputable def allNews(g h:Heap)(L:Addr):List (Addr×Obj):=(List.range h.objs.size).filterMap λa=>if a=L∨(g.get? a).isSome=true then none else(h.get? a).map λo=>(a,o)
noncomputable def rest(g h:Heap)(L d:Addr):List (Addr×Obj):=(allNews g h L).filter λp=>decide (p.1≠d)
structure Mod(K:W.Frag)(mg:Str->Option Value)(base:Heap):Prop where
 kin:K.In base
 glob:base.Ns mainGlobals mg
 blt:∃mb,base.Ns builtinsNs mb/\∀x:Str,x≠"__name__"->mb x=bootBuiltins x
 nolimit:base.NoLimit
 seer:base.NoSeer
structure Cx where
 prog:Program
 w:World
 K:W.Frag
 mg:Str->Option Value
 base:Heap
 A:Around
 N:List Str
 s₀:Shared
 H₀:Hp
 env:Env
 outer:List Env
 stack:List Env
 ex:List Addr
 fn:Str->Bool
 calm:Bool
 pn:List (Addr×Obj)
 xe:Value->Shared->Prop
noncomputable def frs(l:List Env):List Addr:=l.filterMap (·.frame)
noncomputable abbrev Cx.fs(X:Cx):List Addr:=frs X.outer
noncomputable def Vis(sc:Scope)(x:Str):Prop:=sc.names.lookup x=some .local∨sc.names.lookup x=some .cell∨sc.names.lookup x=some .free
noncomputable def Loc(sc:Scope)(x:Str):Prop:=sc.names.lookup x=some .local∨sc.names.lookup x=some .cell
noncomputable def Look(env:Env)(h:Heap)(m:Str->Option Value)(x:Str)(u:Value):Prop:=
 (env.kindOf x=some .local/\m x=some u)∨((env.kindOf x=some .cell∨env.kindOf x=some .free)/\∃c,env.cells.lookup x=some c/\h.IsCell c (some u))
structure Cx.Ok(X:Cx):Prop where
 mod:Mod X.K X.mg X.base
 kind:X.env.scope.kind=.function
 glob:X.env.globals=mainGlobals
 blt:X.env.builtins=builtinsNs
 above:X.s₀.heap.objs.size<=X.env.locals
 inj:∀x y c,X.env.cells.lookup x=some c->X.env.cells.lookup y=some c->x=y
 has:∀x,(X.env.kindOf x=some .cell∨X.env.kindOf x=some .free)->∃c,X.env.cells.lookup x=some c
 cab:∀x c,X.fn x=true->X.env.cells.lookup x=some c->X.s₀.heap.objs.size<=c
 hd:X.calm=true->X.A.handled=none
 frames:X.A.frames=some X.stack
 stk:X.stack=X.outer∨(X.stack=X.env::X.outer/\X.env.frame=some X.env.locals)
 exf:∀b∈X.ex,b≠X.env.locals/\∀x c,X.env.cells.lookup x=some c->c≠b
 bs:∀b o,X.base.get? b=some o->X.s₀.heap.get? b=some o/\X.H₀ b=none
 bsz:X.base.objs.size<=X.s₀.heap.objs.size
 noex:∀b o,X.base.get? b=some o->b∉X.ex
 exfs:∀b∈X.ex,b∉X.fs
 funs:X.s₀.heap.FunFrames X.base X.outer
 frf:∀b∈X.fs,X.H₀ b=none
structure Inv(X:Cx)(pins:List (Addr×Obj))(σ:List (Option V))(H:Hp)(s:Shared):Prop where
 ok:X.Ok
 os:s.os=X.s₀.os
 bare:AllBare s.gens
 base:Un X.fs X.ex X.H₀ H X.s₀.heap s.heap
 loc:∃m,s.heap.Ns X.env.locals m/\∀(i:Nat)(x:Str)(v:V),X.N[i]?=some x->σ[i]?=some (some v)->Vis X.env.scope x->∃u,RelV v u/\Look X.env s.heap m x u
 cell:∀x c,X.env.cells.lookup x=some c->∃v,s.heap.IsCell c v
 free:H X.env.locals=none
 freeC:∀x c,X.env.cells.lookup x=some c->H c=none
 pin:∀p∈X.pn++pins,s.heap.get? p.1=some p.2/\H p.1=none/\p.1≠X.env.locals/\p.1∉X.fs/\∀v,p.2.data≠.cell v
 hok:HOk X.prog X.w H s.heap
 len:σ.length=X.N.length
section
variable{X:Cx}{pins:List (Addr×Obj)}{σ:List (Option V)}{H H':Hp}{s:Shared}{h':Heap}
theorem Cx.Ok.nofr(ok:X.Ok)(e:X.base.get? b=some o):b∉X.fs:=λa=>by
 have:=(ok.funs.mem a).1
 rw[e]at this;cases this
theorem Inv.bs(I:Inv X pins σ H s):∀b o,X.base.get? b=some o->s.heap.get? b=some o/\H b=none:=λb o e=>
 ⟨I.base.keep b o (I.ok.bs b o e).1 (I.ok.bs b o e).2 (I.ok.nofr e) (I.ok.noex b o e),I.base.free b o (I.ok.bs b o e).1 (I.ok.bs b o e).2 (I.ok.noex b o e)⟩
theorem Inv.bk(I:Inv X pins σ H s):∀b o,X.base.get? b=some o->s.heap.get? b=some o:=λb o e=>(I.bs b o e).1
theorem Inv.mod(I:Inv X pins σ H s):Mod X.K X.mg X.base:=I.ok.mod
theorem Inv.kIn(I:Inv X pins σ H s):X.K.In s.heap:=I.ok.mod.kin.keeps I.bk
theorem Inv.nolimit(I:Inv X pins σ H s):s.heap.NoLimit:=I.ok.mod.nolimit.keeps I.bk
theorem Inv.lt(I:Inv X pins σ H s):X.env.locals<s.heap.objs.size:=by
 obtain⟨_,hn,_⟩:=I.loc;exact hn.lt
theorem Inv.sz(I:Inv X pins σ H s):X.s₀.heap.objs.size<=s.heap.objs.size:=kW I.ok.above (Nat.le_of_lt I.lt)
theorem Inv.nofs(I:Inv X pins σ H s)(h:s.heap.objs.size<=a):a∉X.fs:=λc=>by
 obtain⟨_,o,b,_⟩:=I.ok.funs.mem c;exact absurd (l6 (lC b) (kW I.sz h)) (mF _)
theorem Inv.cne(I:Inv X pins σ H s):∀x c,X.env.cells.lookup x=some c->c≠X.env.locals:=λx c e z=>by
 obtain⟨v,o,h,i⟩:=I.cell x c e;obtain⟨m,⟨j,l,p,a,b,_⟩,_⟩:=I.loc;rw[z,a]at h;cases h;rw[b]at i;cases i
theorem Inv.funs(I:Inv X pins σ H s):s.heap.FunFrames X.base X.outer:=by
 have all:∀(l:List Env),(∀b∈frs l,b∈X.fs)->X.s₀.heap.FunFrames X.base l->s.heap.FunFrames X.base l:=by
  intro l
  induction l with
  |nil=>intro _ _;trivial
  |cons env r ih=>
   intro hs q;obtain⟨t,⟨L,o,h,m,i,p⟩,j⟩:=q;have a:L∈X.fs:=hs L (by unfold frs;rw[List.filterMap_cons,h];exact lG);obtain⟨w,e⟩:=I.base.slot L o i (I.ok.frf L a) a λz=>I.ok.exfs L z a;exact⟨t,⟨L,_,h,m,e,p⟩,ih (λb c=>hs b (by unfold frs;rw[List.filterMap_cons,h];exact lv _ c)) j⟩
 exact all X.outer (λ_ c=>c) I.ok.funs
theorem Inv.stack(I:Inv X pins σ H s):s.heap.FunFrames X.base X.stack:=by
 rcases I.ok.stk with e|⟨e,hf⟩
 ·rw[e];exact I.funs
 ·rw[e];obtain⟨m,a,_⟩:=I.loc;refine .cons (by rw[I.ok.kind];decide) hf a ?_ I.funs;exact Heap.get?_none_of_le (kW I.ok.bsz I.ok.above)
theorem Inv.stkSub(I:Inv X pins σ H s):∀b∈frs X.stack,b∈X.env.locals::X.fs:=λb a=>by
 rcases I.ok.stk with e|⟨e,hf⟩
 ·rw[e]at a;exact lv _ a
 ·rw[e]at a;unfold frs at a;rw[List.filterMap_cons,hf]at a;exact a
theorem Inv.stkFree(I:Inv X pins σ H s):∀b∈frs X.stack,H b=none:=λb a=>by
 rcases lx.mp (I.stkSub b a)with e|a
 ·rw[e];exact I.free
 ·obtain⟨_,o,c,_⟩:=I.ok.funs.mem a;exact I.base.free b o c (I.ok.frf b a) λz=>I.ok.exfs b z a
theorem Inv.step{ch:List Addr}(I:Inv X pins σ H s)
  (hch:∀b∈ch,(b∈X.ex∨X.s₀.heap.objs.size<=b)/\b≠X.env.locals/\(∀x c,X.env.cells.lookup x=some c->c≠b)/\∀p∈X.pn++pins,p.1≠b)
  (keep:∀b o,b≠X.env.locals->b∉X.fs->b∉ch->s.heap.get? b=some o->H b=none->h'.get? b=some o)
  (slot:∀b o,b≠X.env.locals->b∈X.fs->b∉ch->s.heap.get? b=some o->H b=none->∃sl,h'.get? b=some {o with slots:=sl})(free:∀b o,b∉ch->s.heap.get? b=some o->H b=none->H' b=none)
  (there:∀b o,b∉ch->s.heap.get? b=some o->∃o',h'.get? b=some o')
  (tups:∀b xs,H b=some (.tup xs)->H' b=some (.tup xs))(frzs:∀b o u,H b=some (.frz o u)->H' b=some (.frz o u))(tbls:∀b ps,H b=some (.tbl ps)->∃more,H' b=some (.tbl (ps++more)))
  (ns:∀m,s.heap.Ns X.env.locals m->h'.Ns X.env.locals m)(hok:HOk X.prog X.w H' h')(hg:AllBare g'):
  Inv X pins σ H' {s with heap:=h',gens:=g',drawn:=d',toks:=t'}:=by
 have D:∀b o,X.s₀.heap.get? b=some o->b≠X.env.locals:=λb o e=>lX (l6 (lC e) I.ok.above)
 have t:∀b o,X.s₀.heap.get? b=some o->b∉X.ex->b∉ch:=λb o e a y=>by
  rcases(hch b y).1 with z|z
  ·exact a z
  ·exact absurd (l6 (lC e) z) (mF _)
 have j:∀x c,X.env.cells.lookup x=some c->∀v,s.heap.IsCell c v->h'.IsCell c v:=λx c e v⟨o,A,E⟩=>by
  have h:c∉ch:=λz=>(hch c z).2.2.1 x c e rfl;by_cases hc:c∈X.fs
  ·obtain⟨sl,q⟩:=slot c o (I.cne x c e) hc h A (I.freeC x c e);exact⟨_,q,E⟩
  ·exact⟨o,keep c o (I.cne x c e) hc h A (I.freeC x c e),E⟩
 refine⟨I.ok,I.os,hg,⟨λb o e n y a=>?_,λb o e n y a=>?_,λb o e n a=>?_,λb o e a=>?_,λb xs e=>tups b xs (I.base.tups b xs e),λb o xs e=>frzs b o xs (I.base.frzs b o xs e),λb ps e=>?_⟩,?_,λx c e=>?_,?_,λx c e=>?_,λp G=>?_,hok,I.len⟩
 ·exact keep b o (D b o e) y (t b o e a) (I.base.keep b o e n y a) (I.base.free b o e n a)
 ·obtain⟨sl,w⟩:=I.base.slot b o e n y a;obtain⟨F,B⟩:=slot b _ (D b o e) y (t b o e a) w (I.base.free b o e n a);exact⟨F,B⟩
 ·obtain⟨o',w⟩:=I.base.there b o e a;exact free b o' (t b o e a) w (I.base.free b o e n a)
 ·obtain⟨o',w⟩:=I.base.there b o e a;exact there b o' (t b o e a) w
 ·obtain⟨N,w⟩:=I.base.tbls b ps e;obtain⟨L,B⟩:=tbls b _ w;exact⟨N++L,by rw[B,Array.append_assoc]⟩
 ·obtain⟨m,O,K⟩:=I.loc;refine⟨m,ns m O,λi x v w B M=>?_⟩;obtain⟨u,r,l⟩:=K i x v w B M;refine⟨u,r,?_⟩;rcases l with l|⟨k,c,e,z⟩
  ·exact .inl l
  ·exact .inr ⟨k,c,e,j x c e _ z⟩
 ·obtain⟨v,z⟩:=I.cell x c e;exact⟨v,j x c e v z⟩
 ·obtain⟨m,⟨o,_,_,A,_⟩,_⟩:=I.loc;exact free _ o (λz=>(hch _ z).2.1 rfl) A I.free
 ·obtain⟨v,o,A,E⟩:=I.cell x c e;exact free c o (λz=>(hch c z).2.2.1 x c e rfl) A (I.freeC x c e)
 ·obtain⟨e,n,ne,J,d⟩:=I.pin p G;have h:p.1∉ch:=λz=>(hch p.1 z).2.2.2 p G rfl;exact⟨keep p.1 p.2 ne J h e n,free p.1 p.2 h e n,ne,J,d⟩
theorem Inv.un(I:Inv X pins σ H s)(u:Un X.fs [] H H' s.heap h')(hok:HOk X.prog X.w H' h'):Inv X pins σ H' {s with heap:=h',toks:=t'}:=by
 obtain⟨m,⟨o,A,t,j,r⟩,_⟩:=id I.loc;obtain⟨x,q⟩:=u.any j I.free (by simp)
 exact I.step (g':=s.gens) (d':=s.drawn) (ch:=[]) (λ_ z=>nomatch z) (λb o _ h _ e n=>u.keep b o e n h (by simp)) (λb o _ h _ e n=>u.slot b o e n h (by simp)) (λb o _ e n=>u.free b o e n (by simp)) (λb o _ e=>u.there b o e (by simp)) u.tups u.frzs u.tbls (λy l=>by
  obtain⟨w,i,c,a,p⟩:=l;rw[j]at a;cases a;exact⟨_,i,c,q,p⟩) hok I.bare
theorem Inv.call(I:Inv X pins σ H s)(u:Un (frs X.stack) ch H H' s.heap h')(hok:HOk X.prog X.w H' h')(hg:AllBare g')
  (hch:∀b∈ch,(b∈X.ex∨X.s₀.heap.objs.size<=b)/\b≠X.env.locals/\(∀x c,X.env.cells.lookup x=some c->c≠b)/\∀p∈X.pn++pins,p.1≠b):
  Inv X pins σ H' {s with heap:=h',gens:=g',drawn:=d',toks:=t'}:=by
 obtain⟨m,⟨o,F,A,q,r⟩,_⟩:=id I.loc;obtain⟨D,j⟩:=u.any q I.free λz=>(hch _ z).2.1 rfl
 exact I.step (ch:=ch) hch (λb o j y a e n=>u.keep b o e n (λz=>(lx.mp (I.stkSub b z)).elim j y) a) (λb o _ _ a e n=>u.any e n a) (λb o a e n=>u.free b o e n a) (λb o a e=>u.there b o e a) u.tups u.frzs u.tbls (λE t=>by
  obtain⟨B,l,i,h,w⟩:=t;rw[q]at h;cases h;exact⟨_,l,i,j,w⟩) hok hg
theorem Inv.turned(I:Inv X pins σ H s)(k:∀b o,b≠it->s.heap.get? b=some o->h'.get? b=some o)(hn:H it=none)(hL:it≠X.env.locals)
  (h1:it∈X.ex∨X.s₀.heap.objs.size<=it)(h2:∀x c,X.env.cells.lookup x=some c->c≠it)(h3:∀p∈X.pn++pins,p.1≠it):Inv X pins σ H {s with heap:=h',toks:=t'}:=by
 have h:∀b u,H b=some u->b≠it:=λb u e z=>by rw[z,hn]at e;cases e
 refine I.step (g':=s.gens) (d':=s.drawn) (ch:=[it]) (λb w=>?_) (λb o _ _ a e _=>k b o (λz=>a (by simp[z])) e) (λb o _ _ a e _=>⟨o.slots,k b o (λz=>a (by simp[z])) e⟩) (λ_ _ _ _ n=>n)
  (λb o a e=>⟨o,k b o (λz=>a (by simp[z])) e⟩) (λ_ _ e=>e) (λ_ _ _ e=>e) (λb ps e=>⟨#[],by rw[e];simp⟩) (λm j=>?_) (λb u e=>?_) I.bare
 ·have e:b=it:=by simpa using w
  subst e;exact⟨h1,hL,h2,h3⟩
 ·obtain⟨o,t,i,l,r⟩:=j;exact⟨o,t,i,k _ o (Ne.symm hL) l,r⟩
 ·refine(I.hok b u e).stay (λc v a q=>k c v ?_ q) (λ_ q=>q) λ_ _ q=>q;rcases a with z|z
  ·rw[z];exact h b u e
  ·exact h c _ z
theorem Inv.tok(I:Inv X pins σ H s)(t:Nat):Inv X pins σ H {s with toks:=t}:=I.un (h':=s.heap) (t':=t) Un.refl I.hok
theorem Inv.kept(I:Inv X pins σ H s)(k:∀b u,s.heap.get? b=some u->h'.get? b=some u):Inv X pins σ H {s with heap:=h',toks:=t'}:=I.un (Un.kept k) (I.hok.kept k)
theorem Inv.laid(I:Inv X pins σ H s)(k:∀b u,s.heap.get? b=some u->h'.get? b=some u)(hp:s.heap.objs.size<=a)(new:ObjOk X.prog X.w (upd H a o) h' a o):
  Inv X pins σ (upd H a o) {s with heap:=h',toks:=t'}:=I.un (Un.laid k hp (I.hok.fresh hp)) (I.hok.laid k hp new)
theorem Inv.write(I:Inv X pins σ H s)(mu:Mut (H x))(he:e=x∨H e=some (.own x))(k:∀b u,b≠e->s.heap.get? b=some u->h'.get? b=some u)(heo:∃u,h'.get? e=some u)
  (new:ObjOk X.prog X.w (upd H x o) h' x o):Inv X pins σ (upd H x o) {s with heap:=h',toks:=t'}:=I.un (Un.write mu he k heo) (I.hok.write mu he k heo new)
theorem Inv.pins_of(I:Inv X pins σ H s)(h:∀p∈pins',s.heap.get? p.1=some p.2/\H p.1=none/\p.1≠X.env.locals/\p.1∉X.fs/\∀v,p.2.data≠.cell v):Inv X pins' σ H s:=
 ⟨I.ok,I.os,I.bare,I.base,I.loc,I.cell,I.free,I.freeC,λp a=>(kU.mp a).elim (λz=>I.pin p (lf _ z)) (h p),I.hok,I.len⟩
theorem nodup_ix{N:List Str}(hN:N.Nodup){i j:Nat}(a:N[i]?=some x)(b:N[j]?=some x):i=j:=by
 obtain⟨h,c⟩:=kL.mp a;obtain⟨l,e⟩:=kL.mp b;exact(List.getElem_inj hN).mp (c.trans e.symm)
theorem store_ok2(I:Inv X pins σ H s)(hN:X.N.Nodup)(hi:X.N[i]?=some x)(hx:Loc X.env.scope x)(r:RelV v u)
  (h:∀s',Inv X pins (σ.set i (some v)) H s'->(∃a,Heap.SameBut a s.heap s'.heap/\(a=X.env.locals∨X.env.cells.lookup x=some a))->Q () s')(hf:X.fn x=true∨X.env.scope.names.lookup x=some .local:=by first|exact .inl rfl|exact .inr rfl|assumption):wpAny M A (storeName X.env x u) Q E s:=by
 obtain⟨m,hn,hl⟩:=id I.loc;have O:(X.env.scope.kind==.class||(X.env.scope.kind==.module&&X.env.locals !=X.env.globals))=false:=by rw[I.ok.kind];rfl
 have L:i<σ.length:=by rw[I.len];exact(kL.mp hi).1
 have cne:=I.cne
 have l:∀{a:Addr}{K:Heap},(∃o,s.heap.get? a=some o/\H a=none)->Heap.SameBut a s.heap K->HOk X.prog X.w H K:=λ{a K}ha hs b ob e=>by
  obtain⟨_,_,D⟩:=ha;refine(I.hok b ob e).stay (λc T B q=>(hs.2 c ?_).trans q) (λ_ q=>q) λ_ _ q=>q;rintro rfl;rcases B with rfl|B
  ·rw[D]at e;cases e
  ·rw[D]at B;cases B
 rcases hx with hk|hk
 ·refine wpAny_storeName_local hk hn (λK aa hs=>?_) O;obtain⟨oL,_,_,ab,_⟩:=id hn;refine h _ ⟨I.ok,I.os,I.bare,⟨λb o e n J hx=>?_,λb o e n J hx=>?_,I.base.free,λb o e hx=>?_,I.base.tups,I.base.frzs,I.base.tbls⟩,⟨_,aa,λj y v' t F e3=>?_⟩,λy c e=>?_,I.free,I.freeC,λp Z=>?_,l ⟨oL,ab,I.free⟩ hs,by simpa using I.len⟩ ⟨_,hs,.inl rfl⟩
  ·exact(hs.2 b (lX (l6 (lC e) I.ok.above))).trans (I.base.keep b o e n J hx)
  ·obtain⟨sl,t⟩:=I.base.slot b o e n J hx;exact⟨sl,(hs.2 b (lX (l6 (lC e) I.ok.above))).trans t⟩
  ·obtain⟨o',t⟩:=I.base.there b o e hx;exact⟨o',(hs.2 b (lX (l6 (lC e) I.ok.above))).trans t⟩
  ·by_cases hj:j=i
   ·subst hj;rw[hi]at t;cases t;rw[List.getElem?_set_self L]at F
    cases F;exact⟨u,r,.inl ⟨hk,by simp⟩⟩
   ·rw[List.getElem?_set_ne (Ne.symm hj)]at F;obtain⟨U,Y,q⟩:=hl j y v' t F e3;refine⟨U,Y,?_⟩;rcases q with⟨k,e⟩|⟨k,c,e,z⟩
    ·refine .inl ⟨k,?_⟩
     have:y≠x:=λe=>hj (nodup_ix hN t (e▸hi))
     simp[this,e]
    ·exact .inr ⟨k,c,e,z.sameBut hs (cne y c e)⟩
  ·obtain⟨T,z⟩:=I.cell y c e;exact⟨T,z.sameBut hs (cne y c e)⟩
  ·obtain⟨e,n,ne,nf,d⟩:=I.pin p Z;exact⟨(hs.2 p.1 ne).trans e,n,ne,nf,d⟩
 ·have G:X.fn x=true:=by
   rcases hf with z|z
   ·exact z
   ·rw[z]at hk;cases hk
  obtain⟨c,B⟩:=I.ok.has x (.inl hk);obtain⟨T,z⟩:=I.cell x c B;refine wpAny_storeName_cell I.ok.kind hk B z (λK N hs=>?_);obtain⟨oc,R,P⟩:=id z;refine h {s with heap:=K} ⟨I.ok,I.os,I.bare,⟨λb o e n J hx=>?_,λb o e n J hx=>?_,I.base.free,λb o e hx=>?_,I.base.tups,I.base.frzs,I.base.tbls⟩,⟨m,hn.sameBut hs (Ne.symm (cne x c B)),λj y v' t F e3=>?_⟩,λy S e=>?_,I.free,I.freeC,λp Z=>?_,l ⟨oc,R,I.freeC x c B⟩ hs,by simpa using I.len⟩ ⟨c,hs,.inr B⟩
  ·exact(hs.2 b (lX (l6 (lC e) (I.ok.cab x c G B)))).trans (I.base.keep b o e n J hx)
  ·obtain⟨sl,t⟩:=I.base.slot b o e n J hx;exact⟨sl,(hs.2 b (lX (l6 (lC e) (I.ok.cab x c G B)))).trans t⟩
  ·obtain⟨o',t⟩:=I.base.there b o e hx;exact⟨o',(hs.2 b (lX (l6 (lC e) (I.ok.cab x c G B)))).trans t⟩
  ·by_cases hj:j=i
   ·subst hj;rw[hi]at t;cases t;rw[List.getElem?_set_self L]at F
    cases F;exact⟨u,r,.inr ⟨.inl hk,c,B,N⟩⟩
   ·rw[List.getElem?_set_ne (Ne.symm hj)]at F;obtain⟨U,Y,q⟩:=hl j y v' t F e3;refine⟨U,Y,?_⟩;rcases q with q|⟨k,S,e,z'⟩
    ·exact .inl q
    ·refine .inr ⟨k,S,e,z'.sameBut hs ?_⟩;rintro rfl;exact hj (nodup_ix hN t (I.ok.inj _ _ _ e B▸hi))
  ·by_cases hcc:S=c
   ·subst hcc;exact⟨_,N⟩
   ·obtain⟨w2,z2⟩:=I.cell y S e;exact⟨w2,z2.sameBut hs hcc⟩
  ·obtain⟨e,n,ne,nf,d⟩:=I.pin p Z;refine⟨(hs.2 p.1 ?_).trans e,n,ne,nf,d⟩;intro q;rw[q,R]at e;have q':oc=p.2:=lJ e;exact d T (by rw[<-q'];exact P)
theorem store_ok(I:Inv X pins σ H s)(hN:X.N.Nodup)(hi:X.N[i]?=some x)(hx:Loc X.env.scope x)(r:RelV v u)
  (h:∀s',Inv X pins (σ.set i (some v)) H s'->Q () s')(hf:X.fn x=true∨X.env.scope.names.lookup x=some .local:=by first|exact .inl rfl|exact .inr rfl|assumption):wpAny M A (storeName X.env x u) Q E s:=
 store_ok2 I hN hi hx r (λs' a _=>h s' a) hf
theorem Inv.call'(I:Inv X pins σ H s)(ho:s'.os=s.os)(u:Un (frs X.stack) ch H H' s.heap s'.heap)(hok:HOk X.prog X.w H' s'.heap)(hg:AllBare s'.gens)
  (hch:∀b∈ch,(b∈X.ex∨X.s₀.heap.objs.size<=b)/\b≠X.env.locals/\(∀x c,X.env.cells.lookup x=some c->c≠b)/\∀p∈X.pn++pins,p.1≠b):Inv X pins σ H' s':=by
 obtain⟨h,g',d',t',a⟩:=s';have e:a=s.os:=ho;subst e;exact I.call (g':=g') (t':=t') (d':=d') u hok hg hch
end
noncomputable abbrev XK:=Value->Option Addr->Hp->Prop
noncomputable abbrev St:=List (Option V)
noncomputable abbrev VK:=V->Hp->Prop
noncomputable abbrev TE:=St->Hp->VK->Prop
noncomputable abbrev TT:=St->Hp->(Bool->Hp->Prop)->Prop
noncomputable abbrev TA:=St->Hp->(List V->Hp->Prop)->Prop
structure Ends where
 nx:St->Hp->Prop
 rt:VK
 bk:St->Hp->Prop:=λ_ _=>False
 ct:St->Hp->Prop:=λ_ _=>False
noncomputable abbrev TS:=Ends->St->Hp->Prop
noncomputable def EP(X:Cx)(pins:List (Addr×Obj))(σ:St)(Q:VK)(u:Value)(s':Shared):Prop:=∃v H',Inv X pins σ H' s'/\RelV v u/\Q v H'
noncomputable def TP(X:Cx)(pins:List (Addr×Obj))(σ:St)(Q:Bool->Hp->Prop)(b:Bool)(s':Shared):Prop:=∃H',Inv X pins σ H' s'/\Q b H'
noncomputable def AP(X:Cx)(pins:List (Addr×Obj))(σ:St)(Q:List V->Hp->Prop)(us:List Value)(s':Shared):Prop:=∃vs H',Inv X pins σ H' s'/\Vals vs us/\Q vs H'
noncomputable def SP(X:Cx)(pins:List (Addr×Obj))(D:Ends)(f:Flow)(s':Shared):Prop:=
 match f with
 |.next=>∃σ' H',Inv X pins σ' H' s'/\D.nx σ' H'
 |.brk=>∃σ' H',Inv X pins σ' H' s'/\D.bk σ' H'
 |.cont=>∃σ' H',Inv X pins σ' H' s'/\D.ct σ' H'
 |.ret u=>∃v σ' H',Inv X pins σ' H' s'/\RelV v u/\D.rt v H'
noncomputable def PE(X:Cx)(e:Expr)(t:TE):Prop:=
 ∀(pins:List (Addr×Obj))(s:Shared)(σ:St)(H:Hp)(Q:VK),Inv X pins σ H s->t σ H Q->wpAny (model X.prog X.w) X.A (eval e X.env) (EP X pins σ Q) X.xe s
noncomputable def PT(X:Cx)(e:Expr)(t:TT):Prop:=
 ∀(pins:List (Addr×Obj))(s:Shared)(σ:St)(H:Hp)(Q:Bool->Hp->Prop),Inv X pins σ H s->t σ H Q->wpAny (model X.prog X.w) X.A (isTrue e X.env (eval e X.env)) (TP X pins σ Q) X.xe s
noncomputable def PW(X:Cx)(e:Expr)(t:TT):Prop:=
 ∀(whole:Sem Value)(pins:List (Addr×Obj))(s:Shared)(σ:St)(H:Hp)(Q:Bool->Hp->Prop),Inv X pins σ H s->t σ H Q->wpAny (model X.prog X.w) X.A (isTrue e X.env whole) (TP X pins σ Q) X.xe s
theorem PW.pt(h:PW X e t):PT X e t:=h _
noncomputable def PA(X:Cx)(es:List Expr)(t:TA):Prop:=
 ∀(pos:Pos)(pins:List (Addr×Obj))(s:Shared)(σ:St)(H:Hp)(Q:List V->Hp->Prop),Inv X pins σ H s->t σ H Q->wpAny (model X.prog X.w) X.A (spliced (backTo pos (starEach es X.env))) (AP X pins σ Q) X.xe s
noncomputable def PS(X:Cx)(st:Stmt)(t:TS):Prop:=
 ∀(pins:List (Addr×Obj))(s:Shared)(σ:St)(H:Hp)(D:Ends),Inv X pins σ H s->t D σ H->wpAny (model X.prog X.w) X.A (exec st X.env) (SP X pins D) X.xe s
noncomputable def PSs(X:Cx)(st:List Stmt)(t:TS):Prop:=
 ∀(pins:List (Addr×Obj))(s:Shared)(σ:St)(H:Hp)(D:Ends),Inv X pins σ H s->t D σ H->wpAny (model X.prog X.w) X.A (execs st X.env) (SP X pins D) X.xe s
theorem thn(h:wpAny M A t Q E s)(hQ:∀a s,Q a s->Q' a s):wpAny M A t Q' E s:=nF h hQ λ_ _ x=>x
section
variable{X:Cx}
inductive ItVar(i:Nat)(σ:St)(H:Hp)(Q:VK):Prop
 |mk(v:_)(h1:σ[i]?=some (some v))(h2:Q v H):ItVar i σ H Q
noncomputable def tVar(i:Nat):TE:=λσ H Q=>ItVar i σ H Q
noncomputable def tC(v:V):TE:=λ_ H Q=>Q v H
theorem pe_var(hN:X.N[i]?=some x)(hv:Vis X.env.scope x)(hd:(x==("__debug__":Str))=false:=by decide)(hcd:(x==("__classdict__":Str))=false:=by decide):PE X (.Name x pos) (tVar i):=by
 intro a s σ H Q I h;obtain⟨v,e,h⟩:=h;obtain⟨m,j,b⟩:=I.loc;obtain⟨u,r,l⟩:=b i x v hN e hv;have fin:EP X a σ Q u s:=⟨v,H,I,r,h⟩;rcases l with⟨hk,hm⟩|⟨hk,c,hc,hcell⟩
 ·exact wpAny_Name (wpAny_loadName_local I.ok.kind hk j hm fin) hd
 ·rcases hk with hk|hk
  ·exact wpAny_Name (wpAny_loadName_cell I.ok.kind hk hc hcell fin) hd
  ·exact wpAny_Name (wpAny_loadName_free I.ok.kind hk hc hcell fin hcd) hd
theorem aC:PE X (.Constant (.int i) j pos) (tC (.int i)):=λ_ _ _ H _ I h=>wpAny_Constant_int ⟨.int i,H,I.tok _,⟨_,rfl⟩,h⟩
theorem fk:PE X (.Constant (.bool b) j pos) (tC (.bl b)):=λ_ _ _ H _ I h=>Constant_bool ⟨.bl b,H,I,rfl,h⟩
theorem pe_non:PE X (.Constant .none j pos) (tC .non):=λ_ _ _ H _ I h=>Constant_none ⟨.non,H,I,rfl,h⟩
theorem pe_str:PE X (.Constant (.str x) j pos) (tC (.str x)):=λ_ _ _ H _ I h=>Calls.Constant_str ⟨.str x,H,I.tok _,⟨_,rfl⟩,h⟩
noncomputable def Gl(X:Cx)(x:Str):Prop:=X.env.kindOf x=some .globalImplicit
theorem kF(I:Inv X pins σ H s)(hg:Gl X x)(hm:X.mg x=some u)(h:Q u s)
  (hd:(x==("__debug__":Str))=false:=by decide):wpAny (model X.prog X.w) X.A (eval (.Name x pos) X.env) Q E s:=
 Calls.Name_function_global I.ok.kind hg (Calls.loadGlobal_global (by rw[I.ok.glob];exact I.mod.glob.keeps I.bk) hm h) hd
theorem ld_blt(I:Inv X pins σ H s)(hg:Gl X x)(hm:X.mg x=none)(hv:bootBuiltins x=some u)(h:Q u s)
  (hn:x≠"__name__":=by decide)(hd:(x==("__debug__":Str))=false:=by decide):wpAny (model X.prog X.w) X.A (eval (.Name x pos) X.env) Q E s:=by
 obtain⟨c,a,b⟩:=I.mod.blt;exact Calls.Name_function_global I.ok.kind hg (Calls.loadGlobal_builtin (by rw[I.ok.glob];exact I.mod.glob.keeps I.bk) hm (by rw[I.ok.blt];exact a.keeps I.bk) ((b x hn).trans hv) h) hd
theorem pe_glob(hg:Gl X x)(hm:X.mg x=some u)(r:RelV v u)(hd:(x==("__debug__":Str))=false:=by decide):PE X (.Name x pos) (tC v):=
 λ_ _ _ H _ I h=>kF I hg hm ⟨v,H,I,r,h⟩ hd
theorem pe_bltn(hg:Gl X x)(hm:X.mg x=none)(hv:bootBuiltins x=some u)(r:RelV v u)(hn:x≠"__name__":=by decide)(hd:(x==("__debug__":Str))=false:=by decide):PE X (.Name x pos) (tC v):=
 λ_ _ _ H _ I h=>ld_blt I hg hm hv ⟨v,H,I,r,h⟩ hn hd
noncomputable def t2I(ta tb:TE)(k:Int->Int->Hp->Prop):St->Hp->Prop:=λσ H=>ta σ H λx H1=>tb σ H1 λy H2=>∃i j,x=.int i/\y=.int j/\k i j H2
variable{a b:Expr}{ta tb:TE}{pos:Pos}
noncomputable def PC(X:Cx)(op:CmpOp)(a b:Expr)(t:TE):Prop:=
 ∀(pins:List (Addr×Obj))(s:Shared)(σ:St)(H:Hp)(Q:VK),Inv X pins σ H s->t σ H Q->
  wpAny (model X.prog X.w) X.A (eval a X.env) (λv s₁=>wpAny (model X.prog X.w) X.A (eval b X.env) (λu s₂=>wpAny (model X.prog X.w) X.A (compareOp op v u) (EP X pins σ Q) X.xe s₂) X.xe s₁) X.xe s
noncomputable def tCmp(p:Int->Int->Bool)(ta tb:TE):TE:=λσ H Q=>t2I ta tb (λi j H2=>Q (.bl (p i j)) H2) σ H
inductive ItB(Q:Bool->Hp->Prop)(x:V)(H1:Hp):Prop
 |mk(c:_)(h1:x=.bl c)(h2:Q c H1):ItB Q x H1
noncomputable def tB(t:TE):TT:=λσ H Q=>t σ H λx H1=>ItB Q x H1
theorem jb(h:PC X op a b t)(h1:behindInMarks op b=false:=by first|exact nobehind _ (by decide) (by decide)|rfl):PT X (.Compare a [op] [b] pos) (tB t):=by
 intro e s σ H Q I m;refine wpAny_isTrue_Compare1 (thn (h e s σ H _ I m) λv y h1=>thn h1 λu w p=>thn p λc r⟨x,j,l,o,i⟩=>?_) h1;obtain⟨d,rfl,q⟩:=i
 cases o;exact wpAny_truthy_bool ⟨j,l,q⟩
theorem eo(h:PE X e t)(he:∀whole,isTrue e X.env whole=(do let v<-whole;standAt e.pos;holding [v] (truthy v)):=by intro _;rfl):PT X e (tB t):=by
 intro a s σ H Q I i;refine isTrue_plain (thn (h a s σ H _ I i) λv m⟨x,l,b,j,c⟩=>?_) (he _);obtain⟨d,rfl,q⟩:=c
 cases j;exact wpAny_truthy_bool ⟨l,b,q⟩
variable{tA tB':TT}{rest:List Expr}
noncomputable def tAnd(t u:TT):TT:=λσ H Q=>t σ H λc H1=>if c=true then u σ H1 Q else Q false H1
noncomputable def tOr(t u:TT):TT:=λσ H Q=>t σ H λc H1=>if c=true then Q true H1 else u σ H1 Q
noncomputable def tNot(t:TT):TT:=λσ H Q=>t σ H λc H1=>Q (!c) H1
theorem fL(ha:PT X a tA):PW X (.BoolOp .And [a] pos) tA:=by
 intro i b s σ H Q I h;refine isTrue_and (thn (ha b s σ H Q I h) λc j e=>?_)
 cases c with
 |true=>exact isTrue_and_nil e
 |false=>exact e
theorem jR(ha:PT X a tA):PW X (.BoolOp .Or [a] pos) tA:=by
 intro i b s σ H Q I h;refine isTrue_or (thn (ha b s σ H Q I h) λc j e=>?_)
 cases c with
 |false=>exact isTrue_or_nil e
 |true=>exact e
theorem gJ(ha:PT X a tA)(hb:PW X (.BoolOp .And (b::rest) pos) tB'):PW X (.BoolOp .And (a::b::rest) pos) (tAnd tA tB'):=by
 intro m e s σ H Q I h;refine isTrue_and (thn (ha e s σ H _ I h) λc o⟨l,i,j⟩=>?_)
 cases c with
 |true=>exact hb m e o σ l Q i j
 |false=>exact⟨l,i,j⟩
theorem pw_or(ha:PT X a tA)(hb:PW X (.BoolOp .Or (b::rest) pos) tB'):PW X (.BoolOp .Or (a::b::rest) pos) (tOr tA tB'):=by
 intro m e s σ H Q I h;refine isTrue_or (thn (ha e s σ H _ I h) λc o⟨l,i,j⟩=>?_)
 cases c with
 |true=>exact⟨l,i,j⟩
 |false=>exact hb m e o σ l Q i j
theorem fV(ha:PT X a tA):PT X (.UnaryOp .Not a pos) (tNot tA):=by
 intro b s σ H Q I h;exact isTrue_not (ha b s σ H (λc e=>Q (!c) e) I h)
noncomputable def tAndV(ta tb:TE):TE:=λσ H Q=>ta σ H λx H1=>∃c,x=.bl c/\if c=true then tb σ H1 Q else Q (.bl false) H1
noncomputable def tOrV(ta tb:TE):TE:=λσ H Q=>ta σ H λx H1=>∃c,x=.bl c/\if c=true then Q (.bl true) H1 else tb σ H1 Q
theorem jS(h:PE X a t):PE X (.BoolOp op [a] pos) t:=λb s σ H Q I c=>BoolOp_one (h b s σ H Q I c)
theorem jc(ha:PE X a ta)(hb:PE X (.BoolOp .And (b::rest) pos) tb):PE X (.BoolOp .And (a::b::rest) pos) (tAndV ta tb):=by
 intro e s σ H Q I h;refine BoolOp_and (thn (ha e s σ H _ I h) λv o⟨x,l,j,m,i⟩=>?_);obtain⟨c,rfl,i⟩:=i
 cases m;refine wpAny_truthy_bool ?_
 cases c with
 |true=>exact hb e o σ l Q j i
 |false=>exact⟨.bl false,l,j,rfl,i⟩
theorem pe_or(ha:PE X a ta)(hb:PE X (.BoolOp .Or (b::rest) pos) tb):PE X (.BoolOp .Or (a::b::rest) pos) (tOrV ta tb):=by
 intro e s σ H Q I h;refine BoolOp_or (thn (ha e s σ H _ I h) λv o⟨x,l,j,m,i⟩=>?_);obtain⟨c,rfl,i⟩:=i
 cases m;refine wpAny_truthy_bool ?_
 cases c with
 |false=>exact hb e o σ l Q j i
 |true=>exact⟨.bl true,l,j,rfl,i⟩
noncomputable def tIf(t:TT)(ta tb:TE):TE:=λσ H Q=>t σ H λc H1=>if c=true then ta σ H1 Q else tb σ H1 Q
theorem pe_ifExp(hc:PT X c tA)(ha:PE X a ta)(hb:PE X b tb):PE X (.IfExp c a b pos) (tIf tA ta tb):=by
 intro e s σ H Q I h;refine wpAny_IfExp (thn (hc e s σ H _ I h) λd m⟨l,i,j⟩=>?_)
 cases d with
 |true=>exact ha e m σ l Q i j
 |false=>exact hb e m σ l Q i j
end
noncomputable def SqL(K:W.Frag)(H:Hp)(a:Addr)(xs:List V):Prop:=
 Rd H a (.lst xs)∨
  ∃(o:Obj)(its:Array Value)(n:Nat),K.lookup a=some o/\o.cls=.type "list"/\o.dict=none/\o.data=.seq its n/\its.size<=sizeLine/\Vals xs its.toList
noncomputable def SqT(K:W.Frag)(H:Hp)(a:Addr)(xs:List V):Prop:=
 Rd H a (.tup xs)∨
  ∃(o:Obj)(its:Array Value)(n:Nat),K.lookup a=some o/\o.cls=.type "tuple"/\o.data=.seq its n/\its.size<=sizeLine/\Vals xs its.toList
noncomputable def absV:Value->Option V
 |.none=>some .non
 |.bool b=>some (.bl b)
 |.int i _=>some (.int i)
 |.str x _=>some (.str x)
 |.bytes b _=>some (.byt b)
 |.float b _=>some (.flt b)
 |.ref a=>some (.ref a)
 |.type n=>some (.ty n)
 |_=>none
theorem RelV.abs(r:RelV x u):absV u=some x:=by
 cases x with
 |non=>cases r;rfl
 |bl _=>cases r;rfl
 |int _=>obtain⟨t,rfl⟩:=r;rfl
 |str _=>obtain⟨t,rfl⟩:=r;rfl
 |byt _=>obtain⟨t,rfl⟩:=r;rfl
 |flt _=>obtain⟨t,rfl⟩:=r;rfl
 |ref _=>cases r;rfl
 |ty _=>cases r;rfl
theorem RelV.inj(r:RelV x u)(q:RelV y u):x=y:=lJ (r.abs.symm.trans q.abs)
theorem Vals.inj:∀{xs ys:List V}{us:List Value},Vals xs us->Vals ys us->xs=ys
 |_,_,_,.nil,.nil=>rfl
 |_,_,_,.cons r t,.cons r' t'=>by rw[r.inj r',Vals.inj t t']
section
variable{X:Cx}{pins:List (Addr×Obj)}{σ:St}{H:Hp}{s:Shared}{a:Addr}{xs ys:List V}
theorem SqL.of{K:W.Frag}(h:H a=some (.lst xs)):SqL K H a xs:=.inl (.inl h)
theorem SqT.of{K:W.Frag}(h:H a=some (.tup xs)):SqT K H a xs:=.inl (.inl h)
theorem Inv.list(I:Inv X pins σ H s)(h:SqL X.K H a xs):∃its:List Value,Vals xs its/\PlainL s.heap a its.toArray/\xs.length<=sizeLine:=by
 rcases h with h|⟨o,its,n,hk,hc,hd,hs,hz,r⟩
 ·obtain⟨z,its,n,r,e⟩:=h.ok I.hok;exact⟨its,r,⟨_,n,e,rfl,rfl,rfl⟩,z⟩
 ·refine⟨its.toList,r,⟨o,n,I.kIn a o hk,hc,hd,by simpa using hs⟩,?_⟩;have e:=r.length;simp only[Array.length_toList]at e
  lia
theorem Inv.tuple(I:Inv X pins σ H s)(h:SqT X.K H a xs):∃its:List Value,Vals xs its/\IsTup s.heap a its.toArray/\xs.length<=sizeLine:=by
 rcases h with h|⟨o,its,n,hk,hc,hs,hz,r⟩
 ·obtain⟨z,its,r,p⟩:=h.ok I.hok;exact⟨its,r,p,z⟩
 ·refine⟨its.toList,r,⟨o,I.kIn a o hk,hc,n,by simpa using hs⟩,?_⟩;have e:=r.length;simp only[Array.length_toList]at e
  lia
theorem Inv.list_inj(I:Inv X pins σ H s)(h:SqL X.K H a xs)(h':SqL X.K H a ys):xs=ys:=by
 obtain⟨b,r,⟨o,n,e,_,_,d⟩,_⟩:=I.list h;obtain⟨its',j,⟨m,l,i,_,_,c⟩,_⟩:=I.list h';rw[e]at i;cases i;rw[d]at c;injection c with d1 _
 have:b=its':=by simpa using lW Array.toList d1
 subst this;exact r.inj j
theorem Inv.tuple_inj(I:Inv X pins σ H s)(h:SqT X.K H a xs)(h':SqT X.K H a ys):xs=ys:=by
 obtain⟨b,r,⟨o,e,_,n,d⟩,_⟩:=I.tuple h;obtain⟨its',j,⟨m,i,_,l,c⟩,_⟩:=I.tuple h';rw[e]at i;cases i;rw[d]at c;injection c with d1 _
 have:b=its':=by simpa using lW Array.toList d1
 subst this;exact r.inj j
end
noncomputable abbrev Cx.wish(X:Cx)(E:Value->Shared->Prop):Cx:={X with xe:=E}
noncomputable abbrev Cx.nox(X:Cx):Cx:=X.wish λ_ _=>False
theorem Cx.Ok.wish{X:Cx}(ok:X.Ok)(E:Value->Shared->Prop):(X.wish E).Ok:=
 ⟨ok.mod,ok.kind,ok.glob,ok.blt,ok.above,ok.inj,ok.has,ok.cab,ok.hd,ok.frames,ok.stk,ok.exf,ok.bs,ok.bsz,ok.noex,ok.exfs,ok.funs,ok.frf⟩
theorem Cx.Ok.unwish{X:Cx}(ok:(X.wish E).Ok):X.Ok:=
 ⟨ok.mod,ok.kind,ok.glob,ok.blt,ok.above,ok.inj,ok.has,ok.cab,ok.hd,ok.frames,ok.stk,ok.exf,ok.bs,ok.bsz,ok.noex,ok.exfs,ok.funs,ok.frf⟩
section
variable{X:Cx}{pins:List (Addr×Obj)}{σ:St}{H:Hp}{s:Shared}{E:Value->Shared->Prop}
theorem Inv.wish(I:Inv X pins σ H s)(E:Value->Shared->Prop):Inv (X.wish E) pins σ H s:=⟨I.ok.wish E,I.os,I.bare,I.base,I.loc,I.cell,I.free,I.freeC,I.pin,I.hok,I.len⟩
theorem Inv.unwish(I:Inv (X.wish E) pins σ H s):Inv X pins σ H s:=⟨I.ok.unwish,I.os,I.bare,I.base,I.loc,I.cell,I.free,I.freeC,I.pin,I.hok,I.len⟩
theorem SP.unwish(h:SP (X.wish E) pins D f s'):SP X pins D f s':=by
 cases f with
 |next=>obtain⟨a,b,I,q⟩:=h;exact⟨a,b,I.unwish,q⟩
 |brk=>obtain⟨a,b,I,q⟩:=h;exact⟨a,b,I.unwish,q⟩
 |cont=>obtain⟨a,b,I,q⟩:=h;exact⟨a,b,I.unwish,q⟩
 |ret u=>obtain⟨v,a,b,I,r,q⟩:=h;exact⟨v,a,b,I.unwish,r,q⟩
theorem PSs.nox{st:List Stmt}(h:PSs X.nox st t):PSs X st t:=λa s σ H D I b=>
 nF (h a s σ H D (I.wish _) b) (λ_ _ q=>q.unwish) λ_ _ z=>False.elim z
end
section
variable{X:Cx}{st:Stmt}{rest:List Stmt}{t u:TS}{e:Expr}{te:TE}{pos:Pos}
noncomputable def tNext:TS:=λD σ H=>D.nx σ H
noncomputable def tSeq(t u:TS):TS:=λD σ H=>t {D with nx:=u D} σ H
theorem aV:PSs X [] tNext:=λ_ _ σ H _ I h=>wpAny_execs_nil ⟨σ,H,I,h⟩
theorem aD(h1:PS X st t)(h2:PSs X rest u):PSs X (st::rest) (tSeq t u):=by
 intro a s σ H D I h;refine wpAny_execs_cons (thn (h1 a s σ H {D with nx:=u D} I h) λf e q=>?_)
 cases f with
 |next=>
  obtain⟨b,c,i,q⟩:=q;exact h2 a e b c D i q
 |ret v=>exact q
 |brk=>exact q
 |cont=>exact q
theorem aF(h1:PS X st t):PSs X [st] t:=by
 intro a s σ H D I h;refine wpAny_execs_cons (thn (h1 a s σ H D I h) λf b q=>?_)
 cases f with
 |next=>exact wpAny_execs_nil q
 |ret v=>exact q
 |brk=>exact q
 |cont=>exact q
theorem Inv.quiet(I:Inv X pins σ H s):interactive X.env=false:=by simp[interactive,I.ok.kind]
noncomputable def tDrop(te:TE):TS:=λD σ H=>te σ H λ_ H1=>D.nx σ H1
theorem bZ(he:PE X e te)(hs:swapsWith e none pos.line X.env=pure false:=by rfl):PS X (.Expr e pos) (tDrop te):=by
 intro a s σ H D I h;exact wpAny_Expr_any (thn (he a s σ H _ I h) (by rintro v l⟨x,i,b,j,c⟩;exact⟨σ,i,b,c⟩)) I.quiet hs
noncomputable def tRet(te:TE):TS:=λD σ H=>te σ H D.rt
theorem aO(he:PE X e te):PS X (.Return (some e) pos) (tRet te):=by
 intro a s σ H D I h;exact wpAny_Return_some (thn (he a s σ H _ I h) (by rintro v l⟨x,j,b,i,c⟩;exact⟨x,σ,j,b,i,c⟩))
noncomputable def tRetN:TS:=λD _ H=>D.rt .non H
theorem ps_retN:PS X (.Return none pos) tRetN:=λ_ _ σ H _ I h=>wpAny_Return_none ⟨.non,σ,H,I,rfl,h⟩
noncomputable def tIfS(c:TT)(t u:TS):TS:=λD σ H=>c σ H λb H1=>if b=true then t D σ H1 else u D σ H1
theorem bG(hc:PT X c tc)(ha:PSs X a t)(hb:PSs X b u):PS X (.If c a b pos) (tIfS tc t u):=by
 intro e s σ H D I h;refine wpAny_If (thn (hc e s σ H _ I h) λd m⟨l,i,j⟩=>?_)
 cases d with
 |true=>exact ha e m σ l D i j
 |false=>exact hb e m σ l D i j
noncomputable def tNever:TS:=λ_ _ _=>False
theorem cT:PS X st tNever:=λ_ _ _ _ _ _ h=>h.elim
end
noncomputable abbrev TG:=V->St->Hp->(St->Hp->Prop)->Prop
noncomputable abbrev TGs:=List V->St->Hp->(St->Hp->Prop)->Prop
noncomputable def PG(X:Cx)(target:Expr)(t:TG):Prop:=
 ∀(pins:List (Addr×Obj))(s:Shared)(σ:St)(H:Hp)(v:V)(u:Value)(Q:St->Hp->Prop),Inv X pins σ H s->RelV v u->t v σ H Q->
  wpAny (model X.prog X.w) X.A (assign target X.env u) (λ_ s'=>∃σ' H',Inv X pins σ' H' s'/\Q σ' H') X.xe s
noncomputable def PGs(X:Cx)(ts:List Expr)(t:TGs):Prop:=
 ∀(pins:List (Addr×Obj))(s:Shared)(σ:St)(H:Hp)(vs:List V)(us:List Value)(Q:St->Hp->Prop),Inv X pins σ H s->Vals vs us->t vs σ H Q->
  wpAny (model X.prog X.w) X.A (assignInOrder ((assignEach ts X.env).map (·.2)) us) (λ_ s'=>∃σ' H',Inv X pins σ' H' s'/\Q σ' H') X.xe s
noncomputable abbrev TSet:=V->V->V->Hp->(Hp->Prop)->Prop
noncomputable abbrev TIp:=V->V->Hp->VK->Prop
section
variable{X:Cx}{pos:Pos}
noncomputable def gName(i:Nat):TG:=λv σ H Q=>Q (σ.set i (some v)) H
theorem aQ(hN:X.N.Nodup)(hi:X.N[i]?=some x:=by rfl)(hx:Loc X.env.scope x:=by first|exact Or.inl rfl|exact Or.inr rfl)(hf:X.fn x=true∨X.env.scope.names.lookup x=some .local:=by first|exact .inl rfl|exact .inr rfl|assumption):PG X (.Name x pos) (gName i):=by
 intro a s σ H v u Q I r h;exact wpAny_assign_Name (store_ok I hN hi hx r (λc b=>⟨_,H,b,h⟩) hf)
noncomputable def gNil:TGs:=λvs σ H Q=>vs=[]/\Q σ H
inductive IgCons(t:TG)(u:TGs)(vs:List V)(σ:St)(H:Hp)(Q:St->Hp->Prop):Prop
 |mk(v:_)(r:_)(h1:vs=v::r)(h2:t v σ H λσ' H'=>u r σ' H' Q):IgCons t u vs σ H Q
noncomputable def gCons(t:TG)(u:TGs):TGs:=λvs σ H Q=>IgCons t u vs σ H Q
theorem fM:PGs X [] gNil:=by
 intro a s σ H c b Q I r h;obtain⟨e,h⟩:=h;subst e
 cases r;exact assignInOrder_nil ⟨σ,H,I,h⟩
theorem bY(h1:PG X e t)(h2:PGs X es u)
  (hs:(assignEach (e::es) X.env).map (·.2)=assign e X.env::(assignEach es X.env).map (·.2):=by rfl):PGs X (e::es) (gCons t u):=by
 intro a s σ H q p Q I r h;obtain⟨v,o,i,h⟩:=h;subst i
 cases r with
 |cons r rr=>
  rw[hs];refine assignInOrder_cons (thn (h1 a s σ H _ _ _ I r h) λ_ l⟨b,j,m,c⟩=>?_);exact h2 a l b j _ _ Q m rr c
inductive IgTup(K:W.Frag)(n:Nat)(t:TGs)(v:V)(σ:St)(H:Hp)(Q:St->Hp->Prop):Prop
 |mk(a:_)(xs:_)(h1:v=.ref a)(h2:SqT K H a xs)(h3:xs.length=n)(h4:t xs σ H Q):IgTup K n t v σ H Q
noncomputable def gTup(K:W.Frag)(n:Nat)(t:TGs):TG:=λv σ H Q=>IgTup K n t v σ H Q
theorem hV(hc:X.calm=true)(h:PGs X es t)
  (hn:(assignEach es X.env).length=n:=by rfl)(hst:(assignEach es X.env).findIdx? (·.1)=none:=by rfl):PG X (.Tuple es k pos) (gTup X.K n t):=by
 intro c s σ H v u Q I r i;obtain⟨a,z,m,y,A,i⟩:=i;subst m
 cases r;obtain⟨l,j,w,B⟩:=I.tuple y;refine assign_Tuple_tuple (I.ok.hd hc) w (by simp[hn,<-A,j.length]) hst λq p=>?_;have x:Inv X c σ H {s with heap:=q}:=I.kept (t':=s.toks) λb o e=>p b o (lX (lC e)) e;exact h c _ σ H z _ Q x (by simpa using j) i
noncomputable def tAsg(te:TE)(g:TG):TS:=λD σ H=>te σ H λx H1=>g x σ H1 D.nx
theorem aI(hN:X.N.Nodup)(he:PE X e te)(hi:X.N[i]?=some x:=by rfl)(hx:Loc X.env.scope x:=by first|exact Or.inl rfl|exact Or.inr rfl)(hs:swapsWith e (some (.Name x pos')) pos.line X.env=pure false:=by rfl)(hf:X.fn x=true∨X.env.scope.names.lookup x=some .local:=by first|exact .inl rfl|exact .inr rfl|assumption):
  PS X (.Assign [.Name x pos'] e pos) (tAsg te (gName i)):=by
 intro a s σ H D I h;refine wpAny_Assign_Name (thn (he a s σ H _ I h) λv p⟨y,m,c,l,j⟩=>?_) hs;exact store_ok c hN hi hx l (λo b=>⟨_,m,b,j⟩) hf
inductive ItPar(i:Nat)(j:Nat)(D:Ends)(σ:St)(vs:List V)(H1:Hp):Prop
 |mk(v:_)(w:_)(h1:vs=[v,w])(h2:D.nx ((σ.set i (some v)).set j (some w)) H1):ItPar i j D σ vs H1
end
section
variable{X:Cx}{pos:Pos}
noncomputable def tWhile(c:TT)(tb:TS):TS:=λD σ H=>∃W:Nat->St->Hp->Prop,(∃m,W m σ H)/\∀m σ H,W m σ H->
 c σ H λb H1=>if b=true then∃N:St->Hp->Prop,(∀σ' H',N σ' H'->∃m',m'<m/\W m' σ' H')/\tb {D with nx:=N,ct:=N,bk:=D.nx} σ H1 else D.nx σ H1
theorem ir(hp:PassesOwn (model X.prog X.w) X.A X.env X.xe)(hc:PT X c tc)(hb:PSs X body tb):PS X (.While c body [] pos) (tWhile tc tb):=by
 intro a s σ H D I h;obtain⟨W,⟨F,B⟩,e⟩:=h;refine wpAny_While (codeAny_whileLoop (λn J=>yE2 λσ' H'=>Inv X a σ' H' J/\W n σ' H') ?_ F ⟨σ,H,I,B⟩);rintro n G⟨l,y,K,L⟩;refine wpAny_passesOwn hp (thn (hc a G l y _ K (e n l y L)) λb E⟨z,A,o⟩=>?_)
 cases b with
 |true=>
  obtain⟨N,x,o⟩:=o;rw[if_pos rfl];refine wpAny_passesOwn hp (thn (hb a E l z _ A o) λf M m=>?_)
  cases f with
  |next=>
   obtain⟨i,j,p,r⟩:=m;obtain⟨t,q,w⟩:=x i j r;exact⟨t,q,i,j,p,w⟩
  |cont=>
   obtain⟨i,j,p,r⟩:=m;obtain⟨t,q,w⟩:=x i j r;exact⟨t,q,i,j,p,w⟩
  |brk=>exact m
  |ret v=>exact m
 |false=>
  rw[if_neg lM];exact wpAny_execs_nil ⟨l,z,A,o⟩
end
structure It where
 go:Nat->Hp->Prop
 yld:Nat->Hp->V->Hp->Prop
 stop:Nat->Hp->Prop
noncomputable def FpOk(X:Cx)(pins:List (Addr×Obj))(H:Hp)(b:Addr):Prop:=
 H b=none/\b≠X.env.locals/\b∉X.fs/\(b∈X.ex∨X.s₀.heap.objs.size<=b)/\(∀x c,X.env.cells.lookup x=some c->c≠b)/\∀p∈X.pn++pins,p.1≠b
theorem Inv.fpOk(I:Inv X pins σ H s)(hb:s.heap.objs.size<=b)(hn:H' b=none):FpOk X pins H' b:=by
 refine⟨hn,Nat.ne_of_gt (l6 I.lt hb),I.nofs hb,.inr (kW I.sz hb),λx c e z=>?_,λp a z=>?_⟩
 ·obtain⟨v,q⟩:=I.cell x c e;exact absurd (l6 q.lt (by rw[z];exact hb)) (mF _)
 ·exact absurd (l6 (lC (I.pin p a).1) (by rw[z];exact hb)) (mF _)
structure Turn(P:Program)(w:World)(K:W.Frag)(tg:Expr)(J:It)(fp:List Addr)(it:Addr)(tn:Nat->Heap->Prop):Prop where
 mem:it∈fp
 obj:∀i h,tn i h->∀b∈fp,∃o,h.get? b=some o/\∀v,o.data≠.cell v
 keep:∀i h h',tn i h->(∀b∈fp,∀o,h.get? b=some o->h'.get? b=some o)->tn i h'
 item:∀(X:Cx),X.prog=P->X.w=w->X.K=K->X.calm=true->∀(i:Nat)(pins:List (Addr×Obj))(s:Shared)(σ:St)(H:Hp)(E:Value->Shared->Prop),Inv X pins σ H s->(∀b∈fp,FpOk X pins H b)->tn i s.heap->J.go i H->
  wpAny (model P w) X.A (pyNext (.ref it)) (λr s1=>∃u,r=some u/\
   wpAny (model P w) X.A (letOwnedTupleGo tg (.ref it) u) (λ_ s2=>∃x H',Inv X pins σ H' s2/\RelV x u/\J.yld i H x H'/\tn (i+1) s2.heap/\∀b∈fp,H' b=none) E s1) E s
 done:∀(X:Cx),X.prog=P->X.w=w->X.K=K->X.calm=true->∀(i:Nat)(pins:List (Addr×Obj))(s:Shared)(σ:St)(H:Hp)(E:Value->Shared->Prop),Inv X pins σ H s->(∀b∈fp,FpOk X pins H b)->tn i s.heap->J.stop i H->
  wpAny (model P w) X.A (pyNext (.ref it)) (λr s1=>r=none/\Inv X pins σ H s1) E s
 self:∀(A:Around)(i:Nat)(s:Shared)(Q:Value->Shared->Prop)(E:Value->Shared->Prop),tn i s.heap->Q (.ref it) s->wpAny (model P w) A (pyIter (.ref it)) Q E s
noncomputable abbrev TI:=St->Hp->(It->Hp->Prop)->Prop
noncomputable def PIE(X:Cx)(pins:List (Addr×Obj))(σ:St)(tg:Expr)(R:It->Hp->Prop)(itv:Value)(s2:Shared):Prop:=
 ∃(it:Addr)(fp:List Addr)(tn:Nat->Heap->Prop)(J:It)(H':Hp),itv=.ref it/\Inv X pins σ H' s2/\Turn X.prog X.w X.K tg J fp it tn/\tn 0 s2.heap/\(∀b∈fp,FpOk X pins H' b)/\R J H'
noncomputable def PI(X:Cx)(tg iter:Expr)(wi:TI):Prop:=
 ∀(pins:List (Addr×Obj))(s:Shared)(σ:St)(H:Hp)(R:It->Hp->Prop),Inv X pins σ H s->wi σ H R->
  wpAny (model X.prog X.w) X.A (eval iter X.env) (λv s1=>wpAny (model X.prog X.w) X.A (pyIter v) (PIE X pins σ tg R) X.xe s1) X.xe s
theorem go_of(ho:s.heap.get? it=some o)(hc:o.cls=.type n)(hd:o.data=.fields vs)
    (hn:["enumerate","zip","dict_itemiterator","dict_reverseitemiterator","odict_iterator","itertools.zip_longest","itertools.pairwise"].contains n=false)(hQ:Q () s):wpAny M A (letOwnedTupleGo tg (.ref it) u) Q E s:=by
  unfold letOwnedTupleGo
  cases tg<;>first
    |exact mr hQ
    |(cases u<;>first
        |exact mr hQ
        | (refine l9 (wpAny_load ho ?_)
           rw[hc,hd];show wpAny M A (if(["enumerate","zip","dict_itemiterator","dict_reverseitemiterator","odict_iterator","itertools.zip_longest","itertools.pairwise"].contains n&&vs[0]?==some (rawInt _))=true then _ else _) Q E s;rw[if_neg (by intro h;rw[hn,Bool.false_and]at h;cases h)];exact mr hQ))
noncomputable def Itl(K:W.Frag)(a:Addr):It:=
 ⟨λi H=>∃xs x,SqL K H a xs/\xs[i]?=some x,λi H x H'=>H'=H/\∀xs,SqL K H a xs->xs[i]?=some x,λi H=>∃xs,SqL K H a xs/\xs.length<=i⟩
noncomputable def Itt(K:W.Frag)(a:Addr):It:=
 ⟨λi H=>∃xs x,SqT K H a xs/\xs[i]?=some x,λi H x H'=>H'=H/\∀xs,SqT K H a xs->xs[i]?=some x,λi H=>∃xs,SqT K H a xs/\xs.length<=i⟩
noncomputable def Itr(lo:Int)(n:Nat):It:=⟨λi _=>i<n,λi H x H'=>H'=H/\x=.int (lo+i),λi _=>n<=i⟩
theorem turn_list{K:W.Frag}(a it:Addr):Turn P w K tg (Itl K a) [it] it (λi h=>h.IsListIter it a i)where
 mem:=by simp
 obj:=λi h j b m=>by
  have e:b=it:=by simpa using m
  subst e;obtain⟨o,e,c,d⟩:=j;exact⟨o,e,λv z=>by rw[d]at z;cases z⟩
 keep:=λi h t j k=>j.at λo e=>k it (by simp) o e
 item:=by
  intro X O N A S i l s σ H E I r j R;subst O N A;obtain⟨xs,x,y,L⟩:=R;obtain⟨B,D,p,hz⟩:=I.list y;obtain⟨u,Z,ru⟩:=D.get L;obtain⟨F,G,U,Q,M,J⟩:=r it (by simp);refine wpAny_pyNext_list_item j p.isList (x:=u) (by simpa using Z) λt q T=>?_;have I1:Inv X l σ H {s with heap:=t}:=I.turned (t':=s.toks) (λb o m e=>(T.2 b m).trans e) F G Q M J;obtain⟨o,e,c,d⟩:=id q;exact⟨u,rfl,go_of (s:={s with heap:=t}) e c d (by decide) ⟨x,H,I1,ru,⟨rfl,λys hy=>by rw[I.list_inj hy y];exact L⟩,q,λb m=>(r b m).1⟩⟩
 done:=by
  intro X O N A S i l s σ H E I r j R;subst O N A;obtain⟨xs,y,L⟩:=R;obtain⟨B,D,p,hz⟩:=I.list y;obtain⟨F,G,U,Q,M,J⟩:=r it (by simp);have hl:=D.length;exact wpAny_pyNext_list_end (I.ok.hd S) j p.isList (by simp;lia) λt Y=>⟨rfl,I.turned (t':=s.toks) (λb o m e=>Y b o m e) F G Q M J⟩
 self:=λ_ _ _ _ _ j h=>wpAny_pyIter_listiter j h
theorem turn_tuple{K:W.Frag}(a it:Addr):Turn P w K tg (Itt K a) [it] it (λi h=>h.IsTupleIter it a i) where
 mem:=by simp
 obj:=λi h j b q=>by
  have e:b=it:=by simpa using q
  subst e;obtain⟨o,e,c,d⟩:=j;exact⟨o,e,λv z=>by rw[d]at z;cases z⟩
 keep:=λi h y j k=>j.at λo e=>k it (by simp) o e
 item:=by
  intro X O N B S i l s σ H E I t j R;subst O N B;obtain⟨xs,x,A,L⟩:=R;obtain⟨m,D,p,hz⟩:=I.tuple A;obtain⟨u,Z,ru⟩:=D.get L;obtain⟨F,G,U,Q,M,J⟩:=t it (by simp);refine wpAny_pyNext_tuple_item j (show s.heap.IsTuple a m.toArray from p) (x:=u) (by simpa using Z) λy r T=>?_;have I1:Inv X l σ H {s with heap:=y}:=I.turned (t':=s.toks) (λb o q e=>(T.2 b q).trans e) F G Q M J;obtain⟨o,e,c,d⟩:=id r;exact⟨u,rfl,go_of (s:={s with heap:=y}) e c d (by decide) ⟨x,H,I1,ru,⟨rfl,λys hy=>by rw[I.tuple_inj hy A];exact L⟩,r,λb q=>(t b q).1⟩⟩
 done:=by
  intro X O N B S i l s σ H E I t j R;subst O N B;obtain⟨xs,A,L⟩:=R;obtain⟨m,D,p,hz⟩:=I.tuple A;obtain⟨F,G,U,Q,M,J⟩:=t it (by simp);have hl:=D.length;exact wpAny_pyNext_tuple_end (I.ok.hd S) j (show s.heap.IsTuple a m.toArray from p) (by simp;lia) λy Y=>⟨rfl,I.turned (t':=s.toks) (λb o q e=>Y b o q e) F G Q M J⟩
 self:=λ_ _ _ _ _ j h=>wpAny_pyIter_tupleiter j h
theorem turn_range{K:W.Frag}(it:Addr)(lo:Int)(n:Nat):Turn P w K tg (Itr lo n) [it] it (λi h=>IsRangeIter h it (lo+(i:Nat)*1) ((n:Int)-(i:Nat)) 1) where
 mem:=by simp
 obj:=λi h a b j=>by
  have e:b=it:=by simpa using j
  subst e
  exact⟨_,a,λv z=>by
   have S:Data.fields _=Data.cell v:=z
   cases S⟩
 keep:=λi h p a k=>k it (by simp) _ a
 item:=by
  intro X F D q x i c s σ H E I m a J;subst F D q;obtain⟨r,y,M,G,B,A⟩:=m it (by simp);have W:=Walks.range (prog:=X.prog) (w:=X.w) (I.ok.hd x) it lo 1 n;refine W.item i s _ _ J a λv p L O l Q=>?_;obtain⟨t,rfl⟩:=O;have R:Inv X c σ H {s with heap:=p,toks:=L}:=I.turned (λb o j e=>Q b o (by simpa using j) e) r y G B A;refine⟨_,rfl,go_of (s:={s with heap:=p,toks:=L}) (n:="range_iterator") l rfl rfl (by decide) ⟨.int (lo+i),H,R,⟨t,?_⟩,⟨rfl,rfl⟩,l,λb j=>(m b j).1⟩⟩;rw[Int.mul_one]
 done:=by
  intro X F D q x i c s σ H E I m a J;subst F D q;obtain⟨r,y,M,G,B,A⟩:=m it (by simp);exact wpAny_pyNext_range_end (I.ok.hd x) a (by have:n<=i:=J;lia) λp N=>⟨rfl,I.turned (t':=s.toks) (λb o j e=>N b o j e) r y G B A⟩
 self:=λ_ _ _ _ _ a h=>wpAny_pyIter_rangeiter a h
section
variable{X:Cx}{tg:Expr}
inductive IiList(K:W.Frag)(R:It->Hp->Prop)(x:V)(H1:Hp):Prop
 |mk(a:_)(h1:x=.ref a)(h2:(∃xs,SqL K H1 a xs))(h3:R (Itl K a) H1):IiList K R x H1
noncomputable def iList(K:W.Frag)(tl:TE):TI:=λσ H R=>tl σ H λx H1=>IiList K R x H1
inductive IiTup(K:W.Frag)(R:It->Hp->Prop)(x:V)(H1:Hp):Prop
 |mk(a:_)(h1:x=.ref a)(h2:(∃xs,SqT K H1 a xs))(h3:R (Itt K a) H1):IiTup K R x H1
noncomputable def iTup(K:W.Frag)(tl:TE):TI:=λσ H R=>tl σ H λx H1=>IiTup K R x H1
theorem bW(hl:PE X l tl):PI X tg l (iList X.K tl):=by
 intro c s σ H R I h;refine thn (hl c s σ H _ I h) λv i⟨x,t,j,z,r⟩=>?_;obtain⟨a,e,⟨D,y⟩,q⟩:=r;subst e
 cases z;obtain⟨m,A,p,B⟩:=j.list y;refine wpAny_pyIter_list p.isList ?_;refine⟨i.heap.objs.size,[i.heap.objs.size],_,_,t,rfl,j.kept (t':=i.toks) λb o e=>ly _ e,turn_list a _,⟨_,lS _ rfl,rfl,rfl⟩,λb w=>?_,q⟩;have e:b=i.heap.objs.size:=by simpa using w
 subst e;exact j.fpOk (kM _) (j.hok.fresh (kM _))
theorem pi_tup(hl:PE X l tl):PI X tg l (iTup X.K tl):=by
 intro c s σ H R I h;refine thn (hl c s σ H _ I h) λv i⟨x,t,j,z,r⟩=>?_;obtain⟨a,e,⟨D,y⟩,q⟩:=r;subst e
 cases z;obtain⟨m,A,p,B⟩:=j.tuple y;refine wpAny_pyIter_tuple (show i.heap.IsTuple a m.toArray from p) ?_;refine⟨i.heap.objs.size,[i.heap.objs.size],_,_,t,rfl,j.kept (t':=i.toks) λb o e=>ly _ e,turn_tuple a _,⟨_,lS _ rfl,rfl,rfl⟩,λb w=>?_,q⟩;have e:b=i.heap.objs.size:=by simpa using w
 subst e;exact j.fpOk (kM _) (j.hok.fresh (kM _))
theorem range_it{lo hi:Int}(I:Inv X pins σ H s)(h1:-(2^62)<=lo)(h2:lo<2^62)(h3:-(2^62)<=hi)(h4:hi<2^62)
  (q:R (Itr lo (hi-lo).toNat) H):wpAny (model X.prog X.w) X.A (pyIter (.ref s.heap.objs.size)) (PIE X pins σ tg R) E {s with heap:=s.heap.push {cls:=.type "range",data:=.fields #[.int lo t,.int hi u,.int 1 v]},toks:=tk}:=by
 refine wpAny_pyIter_range (IsRange.new ..) (small_one h1 h2 h3 h4) ?_;have a:Inv X pins σ H {s with heap:=s.heap.push {cls:=.type "range",data:=.fields #[.int lo t,.int hi u,.int 1 v]},toks:=tk}:=I.kept λb o e=>ly _ e
 refine⟨(s.heap.push {cls:=.type "range",data:=.fields #[.int lo t,.int hi u,.int 1 v]}).objs.size,[(s.heap.push {cls:=.type "range",data:=.fields #[.int lo t,.int hi u,.int 1 v]}).objs.size],_,_,H,rfl,
  a.kept (t':=tk) λb o e=>ly _ e,turn_range _ lo (hi-lo).toNat,?_,λb i=>?_,q⟩
 ·have c:lo+((0:Nat):Int)*1=lo:=by simp
  have h:(((hi-lo).toNat:Nat):Int)-((0:Nat):Int)=Builtin.Range.rangeSize lo hi 1:=by rw[rangeSize_one];split<;>lia
  show IsRangeIter _ _ (lo+((0:Nat):Int)*1) ((((hi-lo).toNat:Nat):Int)-((0:Nat):Int)) 1;rw[c,h];exact lS _ rfl
 ·have e:b=(s.heap.push {cls:=.type "range",data:=.fields #[.int lo t,.int hi u,.int 1 v]}).objs.size:=by simpa using i
  subst e;exact a.fpOk (kM _) (a.hok.fresh (kM _))
noncomputable def iRng1(ta:TA):TI:=λσ H R=>ta σ H λvs H1=>∃j:Int,vs=[.int j]/\-(2^62)<=j/\j<2^62/\R (Itr 0 j.toNat) H1
theorem dM(hg:Gl X "range")(hm:X.mg "range"=none)(ha:PA X [a] ta)(hs:starEach [a] X.env=[(false,eval a X.env)]:=by rfl):PI X tg (.Call (.Name "range" p) [a] [] pos) (iRng1 ta):=by
 intro b s σ H R I h;refine Call_ (ld_blt I hg hm boot_range (PyProof.Rows.callWith_type1 (thn (ha pos b s σ H _ I h) λo y⟨w,x,l,m,c⟩=>?_) hs rfl));obtain⟨j,e,c,i,q⟩:=c;subst e
 cases m with
 |cons r rr=>
  cases rr;obtain⟨t,rfl⟩:=r;exact call_range_1 (range_it l (by lia) (by lia) c i (by simpa using q))
noncomputable def tFor(wi:TI)(g:TG)(tb:TS):TS:=λD σ H=>wi σ H λJ H1=>∃W:Nat->Nat->St->Hp->Prop,(∃m,W 0 m σ H1)/\∀i m σ H,W i m σ H->
 (J.stop i H/\D.nx σ H)∨(J.go i H/\∃N:St->Hp->Prop,(∀σ' H',N σ' H'->∃m',m'<m/\W (i+1) m' σ' H')/\∀x H',J.yld i H x H'->g x σ H' λσ2 H2=>tb {D with nx:=N,ct:=N,bk:=D.nx} σ2 H2)
noncomputable def pinsAt(fp:List Addr)(h:Heap):List (Addr×Obj):=fp.filterMap λb=>(h.get? b).map λo=>(b,o)
theorem fI(hb:b∈fp)(e:h.get? b=some o):(b,o)∈pinsAt fp h:=List.mem_filterMap.mpr ⟨b,hb,by rw[e];rfl⟩
theorem of_pinsAt(hp:p∈pinsAt fp h):p.1∈fp/\h.get? p.1=some p.2:=by
 obtain⟨b,a,e⟩:=List.mem_filterMap.mp hp
 cases q:h.get? b with
 |none=>rw[q]at e;cases e
 |some o=>
  rw[q]at e;have c:(b,o)=p:=lJ e;subst c;exact⟨a,q⟩
theorem Inv.pinned(I:Inv X pins σ H s)(hf:∀b∈fp,FpOk X pins H b)(ho:∀b∈fp,∃o,s.heap.get? b=some o/\∀v,o.data≠.cell v):Inv X (pins++pinsAt fp s.heap) σ H s:=
 I.pins_of λp j=>(kU.mp j).elim (λz=>I.pin p (lH _ z)) λz=>by
  obtain⟨a,e⟩:=of_pinsAt z;obtain⟨i,l,h,_⟩:=hf p.1 a;obtain⟨o,c,d⟩:=ho p.1 a;rw[e]at c;cases c;exact⟨e,i,l,h,d⟩
theorem Inv.unpinned(I:Inv X (pins++pl) σ H s):Inv X pins σ H s:=I.pins_of λp a=>I.pin p (lH _ (lf _ a))
theorem bR(hp:PassesOwn (model X.prog X.w) X.A X.env X.xe)(hc:X.calm=true)(hi:PI X tg iter wi)(hg:PG X tg g)(hb:PSs X body tb)
  (hs:∀x,foldedSetIterable iter X.env x=pure x:=by intro _;rfl):PS X (.For tg iter body [] pos) (tFor wi g tb):=by
 intro a s σ H D I h;refine wpAny_For (thn (hi a s σ H _ I h) λv s1 h1=>thn h1 λaa s2 h2=>?_) hs;obtain⟨it,A,tn,J,H2,e,I2,T,K,R,W,⟨m0,w0⟩,z⟩:=h2;subst e;have c:∀{H':Hp},(∀b∈A,H' b=none)->∀b∈A,FpOk X a H' b:=λhn b hb=>⟨hn b hb,(R b hb).2⟩;refine codeAny_forLoop_any (λn Z=>yE3 λi σ' H'=>Inv X a σ' H' Z×' tn i Z.heap×'(∀b∈A,H' b=none)×' W i n σ' H') ?_ m0 ⟨0,σ,H2,I2,K,λb hb=>(R b hb).1,w0⟩;rintro n Y⟨i,F,G,U,y,E,w3⟩;rcases z i n F G w3 with⟨stop,qn⟩|⟨go,N,hN,step⟩
 ·refine wpAny_passesOwn hp (thn (T.done X rfl rfl rfl hc i a Y F G X.xe U (c E) y stop) λr s4⟨M,I4⟩=>?_);subst M;exact wpAny_execs_nil ⟨F,G,I4,qn⟩
 ·refine wpAny_passesOwn hp (thn (T.item X rfl rfl rfl hc i a Y F G X.xe U (c E) y go) λr s4⟨u,M,h4⟩=>?_);subst M;refine wpAny_passesOwn hp (thn h4 λ_ Q⟨x,S,I5,r5,y5,w,L⟩=>?_);have O:=I5.pinned (c L) (T.obj _ _ w);refine wpAny_passesOwn hp (thn (hg _ Q F S x u _ O r5 (step x S y5)) λ_ s6⟨σ6,H6,I6,q6⟩=>?_);refine wpAny_passesOwn hp (thn (hb _ s6 σ6 H6 _ I6 q6) λf P t=>?_)
  have q:∀{l:St}{p:Hp},Inv X (a++pinsAt A Q.heap) l p P->N l p->∃m,m<n/\yE3 λi σ' H'=>Inv X a σ' H' P×' tn i P.heap×'(∀b∈A,H' b=none)×' W i m σ' H':=λ{l p}j B=>by
   obtain⟨m',hm,w7⟩:=hN l p B;refine⟨m',hm,i+1,l,p,j.unpinned,T.keep _ _ _ w λb hb o e=>(j.pin (b,o) (lH _ (lH _ (fI hb e)))).1,λb hb=>?_,w7⟩;obtain⟨o,e,d⟩:=T.obj _ _ w b hb;exact(j.pin (b,o) (lH _ (lH _ (fI hb e)))).2.1
  cases f with
  |next=>obtain⟨l,p,j,B⟩:=t;exact q j B
  |cont=>obtain⟨l,p,j,B⟩:=t;exact q j B
  |brk=>obtain⟨l,p,j,t⟩:=t;exact⟨l,p,j.unpinned,t⟩
  |ret v=>obtain⟨x7,l,p,j,r7,t⟩:=t;exact⟨x7,l,p,j.unpinned,r7,t⟩
end
theorem cF{K:W.Frag}{g:TG}{tb:TS}{D:Ends}(Pv:Nat->St->Hp->Prop)(h0:Pv 0 σ H)(hl:∀i σ H,i<=xs.length->Pv i σ H->SqL K H a xs)
  (hs:∀i x σ H,xs[i]?=some x->Pv i σ H->g x σ H λσ2 H2=>tb {D with nx:=Pv (i+1),ct:=Pv (i+1),bk:=D.nx} σ2 H2)(hd:∀σ H,Pv xs.length σ H->D.nx σ H):
  ∃W:Nat->Nat->St->Hp->Prop,(∃m,W 0 m σ H)/\∀i m σ H,W i m σ H->
   ((Itl K a).stop i H/\D.nx σ H)∨((Itl K a).go i H/\∃N:St->Hp->Prop,(∀σ' H',N σ' H'->∃m',m'<m/\W (i+1) m' σ' H')/\∀x H',(Itl K a).yld i H x H'->g x σ H' λσ2 H2=>tb {D with nx:=N,ct:=N,bk:=D.nx} σ2 H2):=by
 refine⟨λi m σ H=>m=xs.length-i×' i<=xs.length×' Pv i σ H,⟨xs.length,by simp,kY _,h0⟩,?_⟩;rintro i m σ H⟨rfl,b,p⟩;have q:=hl i σ H b p;by_cases hlt:i<xs.length
 ·refine .inr ⟨⟨xs,xs[i],q,by simp[hlt]⟩,Pv (i+1),λσ' H' c=>⟨xs.length-(i+1),by lia,rfl,hlt,c⟩,λx H' y=>?_⟩;obtain⟨e,y⟩:=y;subst e;exact hs i x σ _ (y xs q) p
 ·have e:i=xs.length:=by lia
  subst e;exact .inl ⟨⟨xs,q,kM _⟩,hd σ H p⟩
theorem for_tup{K:W.Frag}{g:TG}{tb:TS}{D:Ends}(Pv:Nat->St->Hp->Prop)(h0:Pv 0 σ H)(hl:∀i σ H,i<=xs.length->Pv i σ H->SqT K H a xs)
  (hs:∀i x σ H,xs[i]?=some x->Pv i σ H->g x σ H λσ2 H2=>tb {D with nx:=Pv (i+1),ct:=Pv (i+1),bk:=D.nx} σ2 H2)(hd:∀σ H,Pv xs.length σ H->D.nx σ H):
  ∃W:Nat->Nat->St->Hp->Prop,(∃m,W 0 m σ H)/\∀i m σ H,W i m σ H->
   ((Itt K a).stop i H/\D.nx σ H)∨((Itt K a).go i H/\∃N:St->Hp->Prop,(∀σ' H',N σ' H'->∃m',m'<m/\W (i+1) m' σ' H')/\∀x H',(Itt K a).yld i H x H'->g x σ H' λσ2 H2=>tb {D with nx:=N,ct:=N,bk:=D.nx} σ2 H2):=by
 refine⟨λi m σ H=>m=xs.length-i×' i<=xs.length×' Pv i σ H,⟨xs.length,by simp,kY _,h0⟩,?_⟩;rintro i m σ H⟨rfl,b,p⟩;have q:=hl i σ H b p;by_cases hlt:i<xs.length
 ·refine .inr ⟨⟨xs,xs[i],q,by simp[hlt]⟩,Pv (i+1),λσ' H' c=>⟨xs.length-(i+1),by lia,rfl,hlt,c⟩,λx H' y=>?_⟩;obtain⟨e,y⟩:=y;subst e;exact hs i x σ _ (y xs q) p
 ·have e:i=xs.length:=by lia
  subst e;exact .inl ⟨⟨xs,q,kM _⟩,hd σ H p⟩
theorem jw{lo:Int}{g:TG}{tb:TS}{D:Ends}(Pv:Nat->St->Hp->Prop)(h0:Pv 0 σ H)
  (hs:∀i σ H,i<n->Pv i σ H->g (.int (lo+i)) σ H λσ2 H2=>tb {D with nx:=Pv (i+1),ct:=Pv (i+1),bk:=D.nx} σ2 H2)(hd:∀σ H,Pv n σ H->D.nx σ H):
  ∃W:Nat->Nat->St->Hp->Prop,(∃m,W 0 m σ H)/\∀i m σ H,W i m σ H->
   ((Itr lo n).stop i H/\D.nx σ H)∨((Itr lo n).go i H/\∃N:St->Hp->Prop,(∀σ' H',N σ' H'->∃m',m'<m/\W (i+1) m' σ' H')/\∀x H',(Itr lo n).yld i H x H'->g x σ H' λσ2 H2=>tb {D with nx:=N,ct:=N,bk:=D.nx} σ2 H2):=by
 refine⟨λi m σ H=>m=n-i×' i<=n×' Pv i σ H,⟨n,by simp,kY _,h0⟩,?_⟩;rintro i m σ H⟨rfl,b,p⟩;by_cases hlt:i<n
 ·refine .inr ⟨hlt,Pv (i+1),λσ' H' a=>⟨n-(i+1),by lia,rfl,hlt,a⟩,λx H' y=>?_⟩;obtain⟨e,y⟩:=y;subst e y;exact hs i σ _ hlt p
 ·have e:i=n:=by lia
  subst e;exact .inl ⟨kM _,hd σ H p⟩
theorem while_by(Pv:St->Hp->Prop)(μ:St->Hp->Nat)(h0:Pv σ H)
  (hs:∀σ H,Pv σ H->c σ H λb H1=>if b=true then tb {D with nx:=λσ' H'=>Pv σ' H'/\μ σ' H'<μ σ H,ct:=λσ' H'=>Pv σ' H'/\μ σ' H'<μ σ H,bk:=D.nx} σ H1 else D.nx σ H1)
  (mono:∀σ H Q Q',(∀b H1,Q b H1->Q' b H1)->c σ H Q->c σ H Q'):tWhile c tb D σ H:=by
 refine⟨λm σ H=>m=μ σ H/\Pv σ H,⟨_,rfl,h0⟩,?_⟩;rintro m σ H⟨rfl,p⟩;refine mono σ H _ _ (λb H1 q=>?_) (hs σ H p)
 cases b with
 |true=>exact⟨_,(by rintro σ' H'⟨a,l⟩;exact⟨_,l,rfl,a⟩),q⟩
 |false=>exact q
noncomputable abbrev R2:=V->V->Hp->VK->Prop
noncomputable def OpR(X:Cx)(f:Value->Value->Sem Value)(r:R2):Prop:=
 ∀(pins:List (Addr×Obj))(s:Shared)(σ:St)(H:Hp)(x y:V)(v u:Value)(Q:VK),Inv X pins σ H s->RelV x v->RelV y u->r x y H Q->
  wpAny (model X.prog X.w) X.A (f v u) (EP X pins σ Q) X.xe s
noncomputable def UnR(X:Cx)(f:Value->Sem Value)(r:V->Hp->VK->Prop):Prop:=
 ∀(pins:List (Addr×Obj))(s:Shared)(σ:St)(H:Hp)(x:V)(v:Value)(Q:VK),Inv X pins σ H s->RelV x v->r x H Q->
  wpAny (model X.prog X.w) X.A (f v) (EP X pins σ Q) X.xe s
noncomputable def hO(X:Cx)(f:Value)(r:List V->Hp->VK->Prop):Prop:=
 ∀(pins:List (Addr×Obj))(s:Shared)(σ:St)(H:Hp)(xs:List V)(us:List Value)(Q:VK),Inv X pins σ H s->Vals xs us->r xs H Q->
  wpAny (model X.prog X.w) X.A (call f us) (EP X pins σ Q) X.xe s
noncomputable def tOp(r:R2)(ta tb:TE):TE:=λσ H Q=>ta σ H λx H1=>tb σ H1 λy H2=>r x y H2 Q
noncomputable def tUn(r:V->Hp->VK->Prop)(ta:TE):TE:=λσ H Q=>ta σ H λx H1=>r x H1 Q
noncomputable def rI(C:Int->Int->Prop)(g:Int->Int->V):R2:=λx y H Q=>∃i j,x=.int i/\y=.int j/\C i j/\Q (g i j) H
inductive IrI0(g:Int->Int->V)(x:V)(y:V)(H:Hp)(Q:VK):Prop
 |mk(i:_)(j:_)(h1:x=.int i)(h2:y=.int j)(h3:Q (g i j) H):IrI0 g x y H Q
noncomputable def rI0(g:Int->Int->V):R2:=λx y H Q=>IrI0 g x y H Q
inductive IrU(g:Int->V)(x:V)(H:Hp)(Q:VK):Prop
 |mk(i:_)(h1:x=.int i)(h2:Q (g i) H):IrU g x H Q
noncomputable def rU(g:Int->V):V->Hp->VK->Prop:=λx H Q=>IrU g x H Q
section
variable{X:Cx}{a b c:Expr}{ta tb tc:TE}{pos:Pos}
theorem binT(ha:PE X a ta)(hb:PE X b tb){R:V->V->Hp->Prop}(I:Inv X pins σ H s)
  (h:ta σ H λx H1=>tb σ H1 λy H2=>R x y H2){f:Value->Value->Sem Value}
  (hf:∀v u s2 x y H2,Inv X pins σ H2 s2->RelV x v->RelV y u->R x y H2->wpAny (model X.prog X.w) X.A (f v u) Q X.xe s2):
  wpAny (model X.prog X.w) X.A (eval a X.env) (λv s₁=>wpAny (model X.prog X.w) X.A (eval b X.env) (λu s₂=>wpAny (model X.prog X.w) X.A (f v u) Q X.xe s₂) X.xe s₁) X.xe s:=by
 refine thn (ha pins s σ H _ I h) λv o⟨x,H1,e,m,j⟩=>?_;refine thn (hb pins o σ H1 _ e j) λu s2⟨y,H2,c,l,i⟩=>?_;exact hf v u s2 x y H2 c m l i
theorem aK(ho:OpR X (binaryOp op) r)(ha:PE X a ta)(hb:PE X b tb):PE X (.BinOp a op b pos) (tOp r ta tb):=by
 intro c s σ H Q I h;exact wpAny_BinOp (binT ha hb I h λv u i x y m j e l q=>ho c i σ m x y v u Q j e l q)
theorem jL(ho:UnR X (unaryOp op) r)(ha:PE X a ta):PE X (.UnaryOp op a pos) (tUn r ta):=by
 intro b s σ H Q I h;exact UnaryOp_ (thn (ha b s σ H _ I h) (by rintro v l⟨x,j,c,i,e⟩;exact ho b l σ j x v Q c i e))
theorem opI{g:Int->Int->Int}
  (rule:∀(i j:Int)(t u:Tok)(s:Shared)(Q:Value->Shared->Prop)(E:Value->Shared->Prop),C i j->Q (.int (g i j) s.toks) {s with toks:=s.toks+1}->wpAny (model X.prog X.w) X.A (f (.int i t) (.int j u)) Q E s):
  OpR X f (rI C λi j=>.int (g i j)):=by
 intro a s σ H x y v u Q I e l h;obtain⟨i,j,rfl,rfl,c,q⟩:=h;obtain⟨t,rfl⟩:=e;obtain⟨b,rfl⟩:=l;exact rule i j t b s _ _ c ⟨.int (g i j),H,I.tok _,⟨_,rfl⟩,q⟩
theorem opI0{g:Int->Int->Int}
  (rule:∀(i j:Int)(t u:Tok)(s:Shared)(Q:Value->Shared->Prop)(E:Value->Shared->Prop),Q (.int (g i j) s.toks) {s with toks:=s.toks+1}->wpAny (model X.prog X.w) X.A (f (.int i t) (.int j u)) Q E s):
  OpR X f (rI0 λi j=>.int (g i j)):=by
 intro a s σ H x y v u Q I c e h;obtain⟨i,j,rfl,rfl,q⟩:=h;obtain⟨t,rfl⟩:=c;obtain⟨b,rfl⟩:=e;exact rule i j t b s _ _ ⟨.int (g i j),H,I.tok _,⟨_,rfl⟩,q⟩
theorem opB0{g:Int->Int->Bool}
  (rule:∀(i j:Int)(t u:Tok)(s:Shared)(Q:Value->Shared->Prop)(E:Value->Shared->Prop),Q (.bool (g i j)) s->wpAny (model X.prog X.w) X.A (f (.int i t) (.int j u)) Q E s):
  OpR X f (rI0 λi j=>.bl (g i j)):=by
 intro a s σ H x y v u Q I c e h;obtain⟨i,j,rfl,rfl,q⟩:=h;obtain⟨t,rfl⟩:=c;obtain⟨b,rfl⟩:=e;exact rule i j t b s _ _ ⟨.bl (g i j),H,I,rfl,q⟩
noncomputable def CDiv(i j:Int):Prop:=0<j/\j<1073741824
noncomputable def CPow(i j:Int):Prop:=0<=j/\j<=1000000/\i.natAbs<2^64
noncomputable def CMul(i j:Int):Prop:=(-(2^64)<i/\i<2^64)∨(-(2^64)<j/\j<2^64)
theorem CMul.ok(h:CMul i j):IntMulOk i j:=by
 rcases h with⟨h1,h2⟩|⟨h1,h2⟩
 ·exact .of_left (intBits_le_64 h1 h2)
 ·exact .of_right (intBits_le_64 h1 h2)
theorem bJ:OpR X (binaryOp .Add) (rI0 λi j=>.int (i+j)):=opI0 λ_ _ _ _ _ _ _ q=>add_int q
theorem eZ:OpR X (binaryOp .Sub) (rI0 λi j=>.int (i-j)):=opI0 λ_ _ _ _ _ _ _ q=>sub_int q
theorem op_mul:OpR X (binaryOp .Mult) (rI CMul λi j=>.int (i*j)):=opI λ_ _ _ _ _ _ _ a q=>mul_int q a.ok
theorem cA:OpR X (binaryOp .FloorDiv) (rI CDiv λi j=>.int (i/j)):=opI λi j _ _ _ _ _ a q=>by
 have b:(0:Int)<j:=a.1;have c:j<1073741824:=a.2;exact floordiv_int (by omega) (by rw[Int.fdiv_eq_ediv_of_nonneg i (by omega)];exact q) (.inl (PyProof.noPylong_small (by omega)))
theorem bC:OpR X (binaryOp .Mod) (rI (λ_ j=>0<j) λi j=>.int (i%j)):=opI λi j _ _ _ _ _ a q=>by
 have b:(0:Int)<j:=a;exact mod_int' (by lia) (by rw[Int.fmod_eq_emod_of_nonneg i (by lia)];exact q)
theorem op_pow:OpR X (binaryOp .Pow) (rI CPow λi j=>.int (i^j.toNat)):=opI λ_ _ _ _ _ _ _ a q=>pow_int_small a.1 a.2.1 a.2.2 q
theorem unI{g:Int->Int}
  (rule:∀(i:Int)(t:Tok)(s:Shared)(Q:Value->Shared->Prop)(E:Value->Shared->Prop),Q (.int (g i) s.toks) {s with toks:=s.toks+1}->wpAny (model X.prog X.w) X.A (f (.int i t)) Q E s):
  UnR X f (rU λi=>.int (g i)):=by
 intro a s σ H x v Q I b h;obtain⟨i,rfl,q⟩:=h;obtain⟨t,rfl⟩:=b;exact rule i t s _ _ ⟨.int (g i),H,I.tok _,⟨_,rfl⟩,q⟩
theorem hU:UnR X (unaryOp .USub) (rU λi=>.int (-i)):=unI λ_ _ _ _ _ q=>neg_int q
end
noncomputable def scal:V->V->Bool
 |.non,.non=>true|.non,.int _=>true|.int _,.non=>true|.non,.bl _=>true|.bl _,.non=>true|.non,.str _=>true|.str _,.non=>true
 |.int _,.int _=>true|.bl _,.bl _=>true|.str _,.str _=>true|.byt _,.byt _=>true
 |.int _,.str _=>true|.str _,.int _=>true|.bl _,.str _=>true|.str _,.bl _=>true
 |_,_=>false
noncomputable def rEq:R2:=λx y H Q=>scal x y=true/\Q (.bl (decide (x=y))) H
noncomputable def rNe:R2:=λx y H Q=>scal x y=true/\Q (.bl (!decide (x=y))) H
theorem dec_int:decide (V.int i=V.int j)=(i==j):=by
 rw[Bool.eq_iff_iff];simp
theorem dec_bl:decide (V.bl i=V.bl j)=(i==j):=by
 rw[Bool.eq_iff_iff];simp
theorem dec_str:decide (V.str i=V.str j)=(i==j):=by
 rw[Bool.eq_iff_iff];simp
theorem dec_byt:decide (V.byt i=V.byt j)=(i.toList==j.toList):=by
 rw[Bool.eq_iff_iff]
 cases i
 cases j;simp
section
variable{X:Cx}{a b c:Expr}{ta tb tc:TE}{pos:Pos}
theorem bV(I:Inv X pins σ H s)(q:Q (.bl k) H)(e:k=k'):EP X pins σ Q (.bool k') s:=by
 subst e;exact⟨.bl k,H,I,rfl,q⟩
theorem eJ:OpR X (compareOp .Eq) rEq:=by
 intro e s σ H x y v u Q I c a h;obtain⟨hs,q⟩:=h
 cases x with
 |non=>
  cases c
  cases y with
  |non=>cases a;exact PySem.EqNone.eq_none_none (bV I q (by simp))
  |bl j=>cases a;exact PySem.EqNone.eq_none_bool (bV I q (by simp))
  |int j=>obtain⟨b,rfl⟩:=a;exact PySem.EqNone.eq_none_int (bV I q (by simp))
  |str j=>obtain⟨b,rfl⟩:=a;exact PySem.EqNone.eq_none_str (bV I q (by simp))
  |_=>exact absurd (show false=true from hs) lM
 |bl i=>
  cases c
  cases y with
  |non=>cases a;exact PySem.EqNone.eq_bool_none (bV I q (by simp))
  |bl j=>cases a;exact eq_bool (bV I q dec_bl)
  |str j=>obtain⟨b,rfl⟩:=a;exact PySem.EqMixed.eq_bool_str (bV I q (by simp))
  |_=>exact absurd (show false=true from hs) lM
 |int i=>
  obtain⟨t,rfl⟩:=c
  cases y with
  |non=>cases a;exact PySem.EqNone.eq_int_none (bV I q (by simp))
  |int j=>obtain⟨b,rfl⟩:=a;exact eq_int (bV I q dec_int)
  |str j=>obtain⟨b,rfl⟩:=a;exact PySem.EqMixed.eq_int_str (bV I q (by simp))
  |_=>exact absurd (show false=true from hs) lM
 |str i=>
  obtain⟨t,rfl⟩:=c
  cases y with
  |non=>cases a;exact PySem.EqNone.eq_str_none (bV I q (by simp))
  |bl j=>cases a;exact PySem.EqMixed.eq_str_bool (bV I q (by simp))
  |int j=>obtain⟨b,rfl⟩:=a;exact PySem.EqMixed.eq_str_int (bV I q (by simp))
  |str j=>obtain⟨b,rfl⟩:=a;exact eq_str (bV I q dec_str)
  |_=>exact absurd (show false=true from hs) lM
 |byt i=>
  obtain⟨t,rfl⟩:=c
  cases y with
  |byt j=>obtain⟨b,rfl⟩:=a;exact PySem.W.eq_bytes (bV I q dec_byt)
  |_=>exact absurd (show false=true from hs) lM
 |_=>cases y<;>exact absurd (show false=true from hs) lM
theorem op_ne:OpR X (compareOp .NotEq) rNe:=by
 intro e s σ H x y v u Q I c a h;obtain⟨hs,q⟩:=h
 cases x with
 |non=>
  cases c
  cases y with
  |non=>cases a;exact PySem.EqNone.ne_none_none (bV I q (by simp))
  |bl j=>cases a;exact PySem.EqNone.ne_none_bool (bV I q (by simp))
  |int j=>obtain⟨b,rfl⟩:=a;exact PySem.EqNone.ne_none_int (bV I q (by simp))
  |str j=>obtain⟨b,rfl⟩:=a;exact PySem.EqNone.ne_none_str (bV I q (by simp))
  |_=>exact absurd (show false=true from hs) lM
 |bl i=>
  cases c
  cases y with
  |non=>cases a;exact PySem.EqNone.ne_bool_none (bV I q (by simp))
  |bl j=>cases a;exact ne_bool (bV I q (lW not dec_bl))
  |str j=>obtain⟨b,rfl⟩:=a;exact PySem.EqMixed.ne_bool_str (bV I q (by simp))
  |_=>exact absurd (show false=true from hs) lM
 |int i=>
  obtain⟨t,rfl⟩:=c
  cases y with
  |non=>cases a;exact PySem.EqNone.ne_int_none (bV I q (by simp))
  |int j=>obtain⟨b,rfl⟩:=a;exact ne_int (bV I q (lW not dec_int))
  |str j=>obtain⟨b,rfl⟩:=a;exact PySem.EqMixed.ne_int_str (bV I q (by simp))
  |_=>exact absurd (show false=true from hs) lM
 |str i=>
  obtain⟨t,rfl⟩:=c
  cases y with
  |non=>cases a;exact PySem.EqNone.ne_str_none (bV I q (by simp))
  |bl j=>cases a;exact PySem.EqMixed.ne_str_bool (bV I q (by simp))
  |int j=>obtain⟨b,rfl⟩:=a;exact PySem.EqMixed.ne_str_int (bV I q (by simp))
  |str j=>obtain⟨b,rfl⟩:=a;exact ne_str (bV I q (lW not dec_str))
  |_=>exact absurd (show false=true from hs) lM
 |byt i=>
  obtain⟨t,rfl⟩:=c
  cases y with
  |byt j=>obtain⟨b,rfl⟩:=a;exact PySem.W.ne_bytes (bV I q (lW not dec_byt))
  |_=>exact absurd (show false=true from hs) lM
 |_=>cases y<;>exact absurd (show false=true from hs) lM
theorem jd:OpR X (compareOp .Lt) (rI0 λi j=>.bl (decide (i<j))):=opB0 λ_ _ _ _ _ _ _ q=>lt_int q
theorem op_le:OpR X (compareOp .LtE) (rI0 λi j=>.bl (decide (i<=j))):=opB0 λ_ _ _ _ _ _ _ q=>le_int q
theorem op_gt:OpR X (compareOp .Gt) (rI0 λi j=>.bl (decide (j<i))):=opB0 λ_ _ _ _ _ _ _ q=>gt_int q
theorem op_ge:OpR X (compareOp .GtE) (rI0 λi j=>.bl (decide (j<=i))):=opB0 λ_ _ _ _ _ _ _ q=>ge_int q
theorem op_isN:OpR X (compareOp .Is) (λx y H Q=>y=.non/\Q (.bl (decide (x=.non))) H):=by
 intro a s σ H x y v u Q I b c h;obtain⟨rfl,q⟩:=h
 cases c;refine is_none_gen (bV I q ?_)
 cases x<;>first
  |(cases b;rfl)
  |(obtain⟨t,rfl⟩:=b;rfl)
theorem op_notN:OpR X (compareOp .IsNot) (λx y H Q=>y=.non/\Q (.bl (!decide (x=.non))) H):=by
 intro a s σ H x y v u Q I b c h;obtain⟨rfl,q⟩:=h
 cases c;refine isnot_none_gen (bV I q ?_)
 cases x<;>first
  |(cases b;rfl)
  |(obtain⟨t,rfl⟩:=b;rfl)
theorem nomark(b:Expr)(h:op≠.In:=by decide)(h2:op≠.NotIn:=by decide):behindInMarks op b=false:=by
 have a:(op==CmpOp.In)=false:=by cases op<;>first|rfl|exact absurd rfl h
 have c:(op==CmpOp.NotIn)=false:=by cases op<;>first|rfl|exact absurd rfl h2
 cases b<;>simp[behindInMarks,a,c]
theorem eQ(ho:OpR X (compareOp op) r)(ha:PE X a ta)(hb:PE X b tb)(hm:behindInMarks op b=false:=by exact nomark _):PE X (.Compare a [op] [b] pos) (tOp r ta tb):=by
 intro c s σ H Q I h;exact wpAny_Compare1 (binT ha hb I h λv u i x y m j e l q=>ho c i σ m x y v u Q j e l q) hm
inductive ItTest(Q:Bool->Hp->Prop)(x:V)(H':Hp):Prop
 |mk(k:_)(h1:x=.bl k)(h2:Q k H'):ItTest Q x H'
noncomputable def tTest(t:TE):TT:=λσ H Q=>t σ H λx H'=>ItTest Q x H'
theorem pt_cmpR(ho:OpR X (compareOp op) r)(ha:PE X a ta)(hb:PE X b tb)(hm:behindInMarks op b=false):PT X (.Compare a [op] [b] pos) (tTest (tOp r ta tb)):=by
 intro i s σ H Q I h
 refine wpAny_isTrue_Compare1 (thn (ha i s σ H _ I h) λv q⟨x,p,B,E,m⟩=>thn (hb i q σ p _ B m) λu o⟨y,F,w,D,t⟩=>
  thn (ho i o σ F x y v u _ w E D t) λc J⟨z,G,j,A,k,e,l⟩=>?_) hm
 subst e
 cases A;exact wpAny_truthy_bool ⟨G,j,l⟩
theorem aP(ho:OpR X (compareOp op) r)(ha:PE X a ta)(hb:PE X b tb)(hm:behindInMarks op b=false:=by exact nomark _):PT X (.Compare a [op] [b] pos) (tTest (tOp r ta tb)):=by
 intro i s σ H Q I h
 refine wpAny_isTrue_Compare1 (thn (ha i s σ H _ I h) λv q⟨x,p,B,E,m⟩=>thn (hb i q σ p _ B m) λu o⟨y,F,w,D,t⟩=>
  thn (ho i o σ F x y v u _ w E D t) λc J⟨z,G,j,A,k,e,l⟩=>?_) hm
 subst e
 cases A;exact wpAny_truthy_bool ⟨G,j,l⟩
theorem line63:(sizeLine:Nat)<2^63:=by rw[sizeLine_eq];decide
theorem op_add_str:OpR X (binaryOp .Add) (λx y H Q=>∃i j,x=.str i/\y=.str j/\i.length+j.length<=sizeLine/\Q (.str (i++j)) H):=by
 intro a s σ H x y v u Q I e l h;obtain⟨i,j,rfl,rfl,c,q⟩:=h;obtain⟨t,rfl⟩:=e;obtain⟨b,rfl⟩:=l;exact add_str (λb m=>⟨.str (i++j),H,I.tok _,⟨_,rfl⟩,q⟩) c
theorem jC(r:Vals [x] us):∃u,us=[u]/\RelV x u:=by
 cases r with
 |cons r1 r2=>cases r2;exact⟨_,rfl,r1⟩
theorem call_abs:hO X (.builtin "abs") (λxs H Q=>∃i,xs=[.int i]/\Q (.int (if i<0 then-i else i)) H):=by
 intro a s σ H xs c Q I r h;obtain⟨i,rfl,q⟩:=h;obtain⟨u,rfl,t,rfl⟩:=jC r;exact call_abs_int λu b=>⟨.int (if i<0 then-i else i),H,I.tok _,⟨_,rfl⟩,q⟩
end
structure ObjM(h:Heap)(x dx C:Addr)(mA:Str->Option Value):Prop where
 obj:h.get? x=some (PySem.W.instObj C dx)
 ns:h.Ns1 dx mA
 ne:dx≠x
theorem lookIn_ns{h:Heap}(n:h.Ns1 dx mA):∃od,h.get? dx=some od/\∀name,PySem.W.lookIn name od=some (mA name):=by
 obtain⟨o,c,s,m,p,r,_,j⟩:=n;refine⟨o,m,λname=>?_⟩;have e:=j name;unfold nsFind findBy at e;rw[<-Array.find?_toList]at e;unfold PySem.W.lookIn;rw[p];dsimp only
 split
 ·rename_i y q;rw[q]at e;exact lW some e
 ·rename_i q;rw[q]at e
  have a:c.toList.any (·.refKey)=false:=by
   rw[List.any_eq_false];intro y i;obtain⟨z,t,b⟩:=r y (Array.mem_toList_iff.mp i);simp[DictEntry.refKey,b]
  have l:¬c.toList.any (·.refKey)=true:=by rw[a];exact lM
  rw[if_neg l];exact lW some e
theorem ObjM.look(I:ObjM h x dx C mA):∃od,PySem.W.InstAt h x (PySem.W.instObj C dx) C (some od)/\∀name,PySem.W.lookIn name od=some (mA name):=
 let⟨od,ho,hl⟩:=lookIn_ns I.ns
 ⟨od,⟨I.obj,rfl,rfl,ho⟩,hl⟩
section
variable{prog:Program}{w:World}{A:Around}{E:Value->Shared->Prop}{s:Shared}{K:W.Frag}{x dx C f:Addr}{mA:Str->Option Value}{name:Str}{v:Value}
theorem get_map(X:K.In s.heap)(I:ObjM s.heap x dx C mA)(hg:PySem.W.plainGet K C name=true)(hh:PySem.W.hasDictIn K C=true)
  (ha:PySem.W.findIn K (.ref C) name=some none)(hv:mA name=some v)(hv':PySem.W.handedIn v=true)(h:Q v {s with toks:=s.toks+1}):
  wpAny (model prog w) A (getAttr (.ref x) name expr) Q E s:=by
 obtain⟨b,J,a⟩:=I.look;exact PySem.W.get_value X J (PySem.W.plainGet_of hg).1 (PySem.W.findObj_own hh ha rfl (by rw[a,hv])) hv' h
theorem get_meth(X:K.In s.heap)(I:ObjM s.heap x dx C mA)(hg:PySem.W.plainGet K C name=true)
  (hf:PySem.W.findIn K (.ref C) name=some (some (.ref f)))(ht:PySem.W.isFn K (.ref f)=true)(hv:mA name=none)(h:Q (.ref f,[.ref x]) s):
  wpAny (model prog w) A (getMethod (.ref x) name pl) Q E s:=by
 obtain⟨b,J,a⟩:=I.look;exact PySem.W.method_fn X J (PySem.W.plainGet_of hg).1 (PySem.W.plainGet_of hg).2 hf (beq_iff_eq.mp ht) (by show(PySem.W.lookIn name b).map (·.isSome)=some false;rw[a,hv];rfl) h
theorem set_map(X:K.In s.heap)(I:ObjM s.heap x dx C mA)
  (hs:PySem.W.findIn K (.ref C) "__setattr__"=some (some (.builtin "object.__setattr__")))(hp:PySem.W.plainOver K C=true)(ht:PySem.W.takerIn K C name=some none)(hh:PySem.W.hasDictIn K C=true)
  (hw:PySem.Within mA ns)(hsz:ns.length<=sizeLine)
  (h:∀h',ObjM h' x dx C (λy=>if y=name then some v else mA y)->Heap.SameBut dx s.heap h'->Q () {s with heap:=h',toks:=s.toks+2}):
  wpAny (model prog w) A (setAttr (.ref x) name v) Q E s:=by
 obtain⟨D,J,F⟩:=I.look;refine PySem.W.set_plain X J hs (PySem.W.osa_open (s:={s with toks:=s.toks+1}) (r:=none) X J hp ht λb=>?_);obtain⟨B,q,l⟩:=PySem.W.any_some hh;have t:s.heap.get? x=some ⟨.ref C,some dx,.plain,#[]⟩:=I.obj;refine l9 (mr (l9 (l9 (wpAny_loadPart t (l9 (PySem.W.Looks.here (s:={s with toks:=s.toks+1}) (PySem.W.looks_clsIn X q) ?_))))));rw[l];refine mr (a:=some dx) (l9 (mr (l9 ?_)));refine wpAny_nsSet1 (s:={s with toks:=s.toks+1}) I.ns λh' c e=>?_;obtain⟨z,p,o,i,j,m⟩:=c.count (PySem.Within.cons name v hw);refine l9 (wpAny_lookBehind i (by rw[j];exact pastItsLine_dict (kW m (by rw[lR];lia))) ?_);exact mr (h _ ⟨(e.2 _ (Ne.symm I.ne)).trans I.obj,c,I.ne⟩ e)
theorem make_map(X:K.In s.heap)(hm:PySem.W.makesIn K C=true)
  (hi:PySem.W.findIn K (.ref C) "__init__"=some (some (.ref f)))(hf:PySem.W.typeIn K (.ref f)=some (.type "function"))
  (h:codeAny (model prog w) (A.under (.builtin "type.__call__" ⟨.ref C::vs,kw⟩)) (.call (.ref f) ⟨.ref (s.heap.objs.size+1)::vs,kw⟩) (PySem.W.InitBack (s.heap.objs.size+1) R)
   {s with heap:=(s.heap.push PySem.W.emptyDict).push (PySem.W.instObj C s.heap.objs.size)}):
  codeAny (model prog w) A (.call (.ref C) ⟨vs,kw⟩) R s:=by
 obtain⟨b,g,d,t,c⟩:=s;exact PySem.W.make_core (PySem.W.makes_of X hm) (PySem.W.looks_findIn X hi) (λa=>PySem.W.bind_fn X a hf) (.inl rfl) h
end
noncomputable def cD(f:Str)(v:V):List (Str×V)->List (Str×V)
 |[]=>[(f,v)]
 |(g,x)::r=>if g=f then(g,v)::r else(g,x)::cD f v r
theorem fe(f g:Str)(v:V):∀fs:List (Str×V),(cD f v fs).lookup g=if g=f then some v else fs.lookup g
 |[]=>by
  show List.lookup g [(f,v)]=_;by_cases h:g=f
  ·have a:(g==f)=true:=beq_iff_eq.mpr h;simp only[List.lookup,a,if_pos h]
  ·have a:(g==f)=false:=nh.mpr h;simp only[List.lookup,a,if_neg h]
 |(k,x)::r=>by
  have b:=fe f g v r;rw[show cD f v ((k,x)::r)=(if k=f then(k,v)::r else(k,x)::cD f v r)from rfl];by_cases hk:k=f
  ·rw[if_pos hk];by_cases h:g=k
   ·have a:(g==k)=true:=beq_iff_eq.mpr h;simp only[List.lookup,a,if_pos (h.trans hk)]
   ·have a:(g==k)=false:=nh.mpr h;simp only[List.lookup,a,if_neg (λe:g=f=>h (e.trans hk.symm))]
  ·rw[if_neg hk];by_cases h:g=k
   ·have a:(g==k)=true:=beq_iff_eq.mpr h;simp only[List.lookup,a,if_neg (λe:g=f=>hk (h.symm.trans e))]
   ·have a:(g==k)=false:=nh.mpr h;simp only[List.lookup,a];exact b
theorem keys_putF(f:Str)(v:V):∀fs:List (Str×V),f∈(cD f v fs).map (·.1)/\∀g,g∈fs.map (·.1)->g∈(cD f v fs).map (·.1)
 |[]=>⟨by simp[cD],λg h=>by simp at h⟩
 |(k,x)::r=>by
  obtain⟨b,a⟩:=keys_putF f v r;rw[show cD f v ((k,x)::r)=(if k=f then(k,v)::r else(k,x)::cD f v r)from rfl];by_cases hk:k=f
  ·rw[if_pos hk];subst hk;exact⟨by simp,λg h=>by simpa using h⟩
  ·rw[if_neg hk];refine⟨?_,λg h=>?_⟩
   ·rw[md];exact lv _ b
   ·rw[md]at h⊢;rcases lx.mp h with e|e
    ·exact lx.mpr (.inl e)
    ·exact lv _ (a g e)
theorem dC(f:Str)(v:V):∀fs:List (Str×V),(cD f v fs).length<=fs.length+1
 |[]=>by simp[cD]
 |(k,x)::r=>by
  have a:=dC f v r;rw[show cD f v ((k,x)::r)=(if k=f then(k,v)::r else(k,x)::cD f v r)from rfl];by_cases hk:k=f
  ·rw[if_pos hk,lR,lR];omega
  ·rw[if_neg hk,lR,lR];omega
theorem RelO.some_of(r:RelO (some v) o):∃u,o=some u/\RelV v u:=by
 cases o with
 |none=>exact(show False from r).elim
 |some u=>exact⟨u,rfl,r⟩
theorem RelO.none_of(r:RelO none o):o=none:=by
 cases o with
 |none=>rfl
 |some u=>exact(show False from r).elim
theorem handed_of(r:RelV v u):PySem.W.handedIn u=true:=by
 cases v with
 |non=>cases(show u=Value.none from r);rfl
 |bl b=>cases(show u=Value.bool b from r);rfl
 |int i=>obtain⟨t,e⟩:=(show∃t,u=Value.int i t from r);cases e;rfl
 |str x=>obtain⟨t,e⟩:=(show∃t,u=Value.str x t from r);cases e;rfl
 |byt b=>obtain⟨t,e⟩:=(show∃t,u=Value.bytes b t from r);cases e;rfl
 |flt b=>obtain⟨t,e⟩:=(show∃t,u=Value.float b t from r);cases e;rfl
 |ref a=>cases(show u=Value.ref a from r);rfl
 |ty n=>cases(show u=Value.type n from r);rfl
section
variable{P:Program}{w:World}{H H':Hp}{h h':Heap}{a C dx:Addr}{fs fs':List (Str×V)}
theorem ins_get(hok:HOk P w H h)(e:H a=some (.ins C dx fs)):∃mA,ObjM h a dx C mA/\(∀f,RelO (fs.lookup f) (mA f))/\PySem.Within mA (fs.map (·.1))/\fs.length<=1000/\H dx=some (.own a):=by
 obtain⟨d,z,ne,b,mA,n,r,q⟩:=(show ObjOk P w H h a (.ins C dx fs)from hok a _ e);exact⟨mA,⟨b,n,ne⟩,r,q,z,d⟩
end
structure Cls(K:W.Frag)(C:Addr):Prop where
 pg:PySem.W.plainGet K C Str.empty=true
 hd:PySem.W.hasDictIn K C=true
 po:PySem.W.plainOver K C=true
 sa:PySem.W.findIn K (.ref C) "__setattr__"=some (some (.builtin "object.__setattr__"))
theorem Cls.get{K:W.Frag}(c:Cls K C)(f:Str):PySem.W.plainGet K C f=true:=c.pg
noncomputable def NoAttr(K:W.Frag)(C:Addr)(f:Str):Prop:=PySem.W.findIn K (.ref C) f=some none
theorem NoAttr.taker{K:W.Frag}(n:NoAttr K C f):PySem.W.takerIn K C f=some none:=by
 unfold PySem.W.takerIn;rw[show PySem.W.findIn K (.ref C) f=some none from n];rfl
structure Con(K:W.Frag)(C:Addr)(f:Str)(v:V)(u:Value):Prop where
 at_:PySem.W.findIn K (.ref C) f=some (some u)
 rel:RelV v u
 get:PySem.W.specialIn K u "__get__"=some none
 cp:PySem.W.copiedNames.contains f=false
structure Meth(K:W.Frag)(C:Addr)(m:Str)(f:Addr):Prop where
 at_:PySem.W.findIn K (.ref C) m=some (some (.ref f))
 fn:PySem.W.isFn K (.ref f)=true
 kp:PySem.W.keepIn K (.ref f)=true
section
variable{X:Cx}{pins:List (Addr×Obj)}{σ:St}{H:Hp}{s:Shared}{a C dx:Addr}{fs:List (Str×V)}{f:Str}{v:V}{A:Around}{E:Value->Shared->Prop}
theorem jY(I:Inv X pins σ H s)(e:H a=some (.ins C dx fs))(c:Cls X.K C)(n:NoAttr X.K C f)(l:fs.lookup f=some v)
  (h:∀u s',Inv X pins σ H s'->RelV v u->Q u s'):wpAny (model X.prog X.w) A (getAttr (.ref a) f b) Q E s:=by
 obtain⟨j,O,r,_,_,_⟩:=ins_get I.hok e;obtain⟨u,m,i⟩:=RelO.some_of (v:=v) (o:=j f) (by rw[<-l];exact r f);exact get_map I.kIn O (c.get f) c.hd n m (handed_of i) (h u _ (I.tok _) i)
theorem iK(I:Inv X pins σ H s)(e:H a=some (.ins C dx fs))(c:Cls X.K C)(k:Meth X.K C m g)(l:fs.lookup m=none)
  (h:Q (.ref g,[.ref a]) s):wpAny (model X.prog X.w) A (getMethod (.ref a) m pl) Q E s:=by
 obtain⟨b,O,r,_,_,_⟩:=ins_get I.hok e;have i:b m=none:=RelO.none_of (by rw[<-l];exact r m);exact get_meth I.kIn O (c.get m) k.at_ k.fn i h
theorem setattr_ok(I:Inv X pins σ H s)(e:H a=some (.ins C dx fs))(c:Cls X.K C)(n:NoAttr X.K C f)(hl:fs.length<1000)(ry:RelV y u)
  (h:∀s',Inv X pins σ (upd H a (.ins C dx (cD f y fs))) s'->Q () s'):wpAny (model X.prog X.w) A (setAttr (.ref a) f u) Q E s:=by
 obtain⟨j,O,r,m,_,l⟩:=ins_get I.hok e;have t:(fs.map (·.1)).length<=sizeLine:=by rw[kK,sizeLine_eq];lia
 refine set_map I.kIn O c.sa c.po n.taker c.hd m t λF i p=>h _ ?_;have D:∃o,F.get? dx=some o:=let⟨o,_,_,e',_⟩:=i.ns;⟨o,e'⟩
 refine I.write (x:=a) (e:=dx) (by rw[e];exact True.intro) (.inr l) (λb q B z=>(p.2 b B).trans z) D ?_;refine⟨by rw[aG O.ne];exact l,?_,O.ne,i.obj,_,i.ns,λg=>?_,λg w=>?_⟩
 ·have:=dC f y fs;lia
 ·show RelO ((cD f y fs).lookup g) (if g=f then some u else j g);rw[fe];by_cases q:g=f
  ·rw[if_pos q,if_pos q];exact ry
  ·rw[if_neg q,if_neg q];exact r g
 ·by_cases q:g=f
  ·rw[q];exact(keys_putF f y fs).1
  ·refine(keys_putF f y fs).2 g (m g λz=>w ?_);show(if g=f then some u else j g)=none;rw[if_neg q];exact z
theorem Inv.made(I:Inv X pins σ H s):Inv X pins σ (upd (upd H s.heap.objs.size (.own (s.heap.objs.size+1))) (s.heap.objs.size+1) (.ins C s.heap.objs.size []))
  {s with heap:=(s.heap.push PySem.W.emptyDict).push (PySem.W.instObj C s.heap.objs.size)}:=by
 have c:(s.heap.push PySem.W.emptyDict).get? s.heap.objs.size=some PySem.W.emptyDict:=lS s.heap rfl
 have m:((s.heap.push PySem.W.emptyDict).push (PySem.W.instObj C s.heap.objs.size)).get? (s.heap.objs.size+1)=some (PySem.W.instObj C s.heap.objs.size):=by
  have:=lS (s.heap.push PySem.W.emptyDict) (o:=PySem.W.instObj C s.heap.objs.size) rfl
  rwa[Heap.size_push]at this
 have j:(s.heap.push PySem.W.emptyDict).Ns s.heap.objs.size (λ_=>none):=⟨PySem.W.emptyDict,#[],_,c,rfl,(λe i=>absurd i (by simp)),λ_=>rfl⟩;have l:=I.laid (a:=s.heap.objs.size) (o:=.own (s.heap.objs.size+1)) (h':=s.heap.push PySem.W.emptyDict) (t':=s.toks) (λb u q=>ly _ q) (kM _) ⟨_,c⟩;refine l.laid (a:=s.heap.objs.size+1) (o:=.ins C s.heap.objs.size []) (t':=s.toks) (λb u q=>ly _ q) (Nat.le_of_eq (Heap.size_push _ _)) ?_;have ne:s.heap.objs.size≠s.heap.objs.size+1:=lX (Nat.lt_succ_self _);refine⟨by rw[aG ne,aE],kY _,ne,m,λ_=>none,(Heap.Ns1.of_empty j).at λo q=>ly _ q,λ_=>True.intro,λy h=>absurd rfl h⟩
theorem attr_of(hb:attributeBase e f env (eval e env)=eval e env)
  (h:wpAny (model prog w) A (eval e env) (λo s₁=>wpAny (model prog w) A (getAttr o f true) Q E s₁) E s):wpAny (model prog w) A (eval (.Attribute e f pos) env) Q E s:=
 Attribute_any_ h (by rw[arm_eval_Attribute,hb])
end
inductive ItFld(K:W.Frag)(f:Str)(Q:VK)(x:V)(H1:Hp):Prop
 |mk(a:_)(C:_)(dx:_)(fs:_)(v:_)(h1:x=.ref a)(h2:H1 a=some (.ins C dx fs))(h3:Cls K C)(h4:NoAttr K C f)(h5:fs.lookup f=some v)(h6:Q v H1):ItFld K f Q x H1
noncomputable def tFld(K:W.Frag)(ta:TE)(f:Str):TE:=λσ H Q=>ta σ H λx H1=>ItFld K f Q x H1
noncomputable def sFld(K:W.Frag)(ta tv:TE)(f:Str):TS:=λD σ H=>tv σ H λy H1=>ta σ H1 λx H2=>∃a C dx fs,x=.ref a/\H2 a=some (.ins C dx fs)/\Cls K C/\NoAttr K C f/\fs.length<1000/\
 D.nx σ (upd H2 a (.ins C dx (cD f y fs)))
section
variable{X:Cx}{o e value:Expr}{f:Str}{pos pos' tpos:Pos}{ta tv:TE}
theorem aY(he:PE X e ta)(hb:attributeBase e f X.env (eval e X.env)=eval e X.env):PE X (.Attribute e f pos) (tFld X.K ta f):=by
 intro b s σ H Q I h;refine attr_of hb (thn (he b s σ H _ I h) λu z⟨x,j,o,i,a,C,y,fs,v,ex,r,c,n,l,q⟩=>?_);subst ex;obtain rfl:u=Value.ref a:=i;exact jY o r c n l λt w m p=>⟨v,j,m,p,q⟩
theorem cP(ha:PE X o ta)(hv:PE X value tv)(hs:swapsWith value (some (.Attribute o f pos')) pos.line X.env=pure false):PS X (.Assign [.Attribute o f pos'] value pos) (sFld X.K ta tv f):=by
 intro b s σ H D I h;refine plainObj_wpAny_Assign_Attribute (thn (hv b s σ H _ I h) λu p⟨y,m,z,w,q⟩=>thn (ha b p σ m _ z q) λi E⟨x,G,t,j,a,C,F,fs,ex,A,c,n,l,r⟩=>?_) hs;subst ex;obtain rfl:i=Value.ref a:=j;exact setattr_ok t A c n l w λB e=>⟨σ,_,e,r⟩
end
section
variable{X:Cx}{pins:List (Addr×Obj)}{σ:St}{H:Hp}{s:Shared}{A:Around}{E:Value->Shared->Prop}{Q:Value->Shared->Prop}{c:Value}{b:Bool}
inductive TyOf(K:W.Frag)(H:Hp):V->Value->Prop where
 |non:TyOf K H .non (.type "NoneType")
 |bl(x:Bool):TyOf K H (.bl x) (.type "bool")
 |int(i:Int):TyOf K H (.int i) (.type "int")
 |str(x:Str):TyOf K H (.str x) (.type "str")
 |flt(x:UInt64):TyOf K H (.flt x) (.type "float")
 |lst{a:Addr}{xs:List V}(e:H a=some (.lst xs)):TyOf K H (.ref a) (.type "list")
 |frz{a:Addr}{o:Obj}{xs:List V}(e:H a=some (.frz o (.lst xs))):TyOf K H (.ref a) (.type "list")
 |tup{a:Addr}{xs:List V}(e:H a=some (.tup xs)):TyOf K H (.ref a) (.type "tuple")
 |dK{a:Addr}{kvs:List (Key×V)}(e:H a=some (.dK kvs)):TyOf K H (.ref a) (.type "dict")
 |dT{a:Addr}{kvs:List (List Key×V)}(e:H a=some (.dT kvs)):TyOf K H (.ref a) (.type "dict")
 |ins{a C dx:Addr}{fs:List (Str×V)}(e:H a=some (.ins C dx fs))(cl:Cls K C)(ha:PySem.W.findIn K (.ref C) "__class__"=some (some (.builtin "object.__class__")))
   (hn:PySem.W.specialIn K (.builtin "object.__class__") "__get__"=some (some (.builtin "getset_descriptor.__get__")))(htk:PySem.W.takesIn K (.builtin "object.__class__")=some true)
   (hm:PySem.W.mroIn K C (.type "object")=some true):TyOf K H (.ref a) (.ref C)
theorem isinst_ok(I:Inv X pins σ H s)(rx:RelV x u)(ty:TyOf X.K H x t)(e:PySem.W.kitOne X.K t c=some b)(h:∀tk,Q (.bool b) {s with toks:=tk}):
  wpAny (model X.prog X.w) A (call (.builtin "isinstance") [u,c]) Q E s:=by
 cases ty with
 |non=>cases(show u=Value.none from rx);exact m7 PySem.W.kitx_none I.kIn True.intro e (λz=>nomatch z) h
 |bl y=>cases(show u=Value.bool y from rx);exact m7 PySem.W.kitx_bool I.kIn True.intro e (λz=>nomatch z) h
 |int i=>obtain⟨t,q⟩:=(show∃t,u=Value.int i t from rx);cases q;exact m7 PySem.W.kitx_int I.kIn True.intro e (λz=>nomatch z) h
 |str y=>obtain⟨t,q⟩:=(show∃t,u=Value.str y t from rx);cases q;exact m7 PySem.W.kitx_str I.kIn True.intro e (λz=>nomatch z) h
 |flt y=>obtain⟨t,q⟩:=(show∃t,u=Value.float y t from rx);cases q;exact m7 PySem.W.kitx_float I.kIn True.intro e (λz=>nomatch z) h
 |@lst a l ea=>
  cases(show u=Value.ref a from rx);obtain⟨_,_,n,_,j⟩:=(show ObjOk X.prog X.w H s.heap a (.lst l) from I.hok a _ ea);exact m7 PySem.W.kitx_list I.kIn ⟨_,j,rfl⟩ e (λz=>nomatch z) h
 |@frz a ob l ea=>
  cases(show u=Value.ref a from rx);obtain⟨_,_,_,n,_,j⟩:=(show ObjOk X.prog X.w H s.heap a (.frz ob (.lst l)) from I.hok a _ ea);exact m7 PySem.W.kitx_list I.kIn ⟨_,j,rfl⟩ e (λz=>nomatch z) h
 |@tup a l ea=>
  cases(show u=Value.ref a from rx);obtain⟨_,_,_,p⟩:=(show ObjOk X.prog X.w H s.heap a (.tup l) from I.hok a _ ea);obtain⟨o,j,m,_⟩:=p;exact m7 PySem.W.kitx_tuple I.kIn ⟨o,j,m⟩ e (λz=>nomatch z) h
 |@dK a kvs ea=>
  cases(show u=Value.ref a from rx);obtain⟨_,_,F,_,p⟩:=(show ObjOk X.prog X.w H s.heap a (.dK kvs) from I.hok a _ ea);obtain⟨o,B,r,j,m,_⟩:=p;exact m7 PySem.W.kitx_dict I.kIn ⟨o,j,m.1⟩ e (λz=>nomatch z) h
 |@dT a kvs ea=>
  cases(show u=Value.ref a from rx);obtain⟨_,_,l,_,o,B,r,j,m,_⟩:=(show ObjOk X.prog X.w H s.heap a (.dT kvs) from I.hok a _ ea);exact m7 PySem.W.kitx_dict I.kIn ⟨o,j,m.1⟩ e (λz=>nomatch z) h
 |@ins a C dx fs ea cl ha hn htk hm=>
  cases(show u=Value.ref a from rx);obtain⟨D,O,_⟩:=ins_get I.hok ea;obtain⟨G,J,_⟩:=O.look;exact m7 (PySem.W.kitx_own (cl.get _) cl.hd ha hn htk hm) I.kIn J e (λz=>nomatch z) h
end
structure Room(k:Nat)(A:Around):Prop where
 hd:A.handled=none
 dp:A.depth+3*k+105<recursionLimit
 un:A.units+16*k+200<cLine
theorem Room.mono(r:Room k A)(h:j<=k):Room j A:=⟨r.hd,by have:=r.dp;lia,by have:=r.un;lia⟩
theorem Room.deeper(r:Room (k+1) A)(env:Env):Room k (A.deeper env):=
 ⟨r.hd,by have:=r.dp;show A.depth+1+3*k+105<_;lia,by have:=r.un;show A.units+3+16*k+200<_;lia⟩
theorem make_depth{A:Around}:(A.under (.builtin "type.__call__" ⟨.ref C::us,kw⟩)).depth=A.depth+1:=by
 first|rfl|simp[Around.under,Code.weight,Code.isCreation,Code.isGuard,Code.isCaller,Code.frames,Code.isFrame,guardIds]
theorem make_units{A:Around}:(A.under (.builtin "type.__call__" ⟨.ref C::us,kw⟩)).units=A.units+1:=by
 first|rfl|simp[Around.under,Code.cUnits,Code.frames,Code.isFrame]
theorem Room.make(r:Room (k+1) A)(C:Addr)(us:List Value)(kw:List (Str×Value)):Room k (A.under (.builtin "type.__call__" ⟨.ref C::us,kw⟩)):=
 ⟨r.hd,by have:=r.dp;rw[make_depth];lia,by have:=r.un;rw[make_units];lia⟩
theorem Room.depth(r:Room k A):A.depth<recursionLimit:=by have:=r.dp;lia
theorem Room.units(r:Room k A):A.units+64<cLine:=by have:=r.un;lia
theorem Room.units0(r:Room k A):A.units<cLine:=by have:=r.un;lia
noncomputable def tNil:TA:=λ_ H Q=>Q [] H
noncomputable def tCons(ta:TE)(tr:TA):TA:=λσ H Q=>ta σ H λx H1=>tr σ H1 λxs H2=>Q (x::xs) H2
section
variable{X:Cx}{e:Expr}{es:List Expr}{te:TE}{t:TA}{pos:Pos}
theorem aB:PA X [] tNil:=λ_ _ _ _ H Q I h=>Calls.spliced_nil ⟨[],H,I,.nil,h⟩
theorem aA(ha:PE X e te)(hr:PA X es t)(hs:starEach (e::es) X.env=(false,eval e X.env)::starEach es X.env:=by rfl):PA X (e::es) (tCons te t):=by
 intro b a s σ H Q I h;rw[hs];show wpAny _ _ (spliced ((false,eval e X.env)::backTo b (starEach es X.env))) _ _ s;refine Calls.spliced_cons (thn (ha a s σ H _ I h) λu j⟨x,i,o,q,c⟩=>?_);exact thn (hr b a j σ i _ o c) (by rintro y z⟨r,w,m,p,l⟩;exact⟨x::r,w,m,.cons q p,l⟩)
noncomputable def tTup(t:TA):TE:=λσ H Q=>t σ H λxs H1=>xs.length<=sizeLine/\∀p,H1 p=none->Q (.ref p) (upd H1 p (.tup xs))
noncomputable def tLst(t:TA):TE:=λσ H Q=>t σ H λxs H1=>xs.length<=sizeLine/\∀p,H1 p=none->Q (.ref p) (upd H1 p (.lst xs))
theorem cE(h:PA X es t):PE X (.Tuple es x1 pos) (tTup t):=by
 intro a s σ H Q I o;refine wpAny_Tuple_spliced (thn (h pos a s σ H _ I o) λl c⟨p,i,j,r,z,q⟩=>⟨by rw[<-r.length];exact z,?_⟩);have m:i c.heap.objs.size=none:=j.hok.fresh (kM _);refine⟨.ref c.heap.objs.size,upd i c.heap.objs.size (.tup p),j.laid (t':=c.toks) (λb u e=>ly _ e) (kM _) ?_,rfl,q _ m⟩;exact⟨z,l,r,⟨_,lS _ rfl,rfl,_,rfl⟩⟩
theorem bK(h:PA X es t):PE X (.List es pos) (tLst t):=by
 intro a s σ H Q I o;refine wpAny_List_spliced (thn (h pos a s σ H _ I o) λl c⟨p,i,j,r,z,q⟩=>⟨by rw[<-r.length];exact z,?_⟩);have m:i c.heap.objs.size=none:=j.hok.fresh (kM _);refine⟨.ref c.heap.objs.size,upd i c.heap.objs.size (.lst p),j.laid (t':=c.toks) (λb u e=>ly _ e) (kM _) ?_,rfl,q _ m⟩;exact⟨z,l,0,r,lS _ rfl⟩
end
noncomputable abbrev Sp:=List V->Hp->VK->XK->Prop
noncomputable abbrev CXT:=List Env->Hp->Shared->XK->Value->Shared->Prop
structure Env0(P:Program)(w:World)(K:W.Frag)(mg:Str->Option Value)(base:Heap)(A:Around)(outer:List Env)(s:Shared)(H:Hp):Prop where
 frames:A.frames=some outer
 mod:Mod K mg base
 bs:∀b o,base.get? b=some o->s.heap.get? b=some o/\H b=none
 bsz:base.objs.size<=s.heap.objs.size
 funs:s.heap.FunFrames base outer
 frf:∀b∈frs outer,H b=none
 hok:HOk P w H s.heap
 bare:AllBare s.gens
noncomputable def CE(outer:List Env)(P:Program)(w:World)(H:Hp)(s:Shared)(Q:VK)(u:Value)(s':Shared):Prop:=
 ∃v H',s'.os=s.os/\AllBare s'.gens/\Un (frs outer) [] H H' s.heap s'.heap/\HOk P w H' s'.heap/\RelV v u/\Q v H'
noncomputable def CR(CX:CXT)(outer:List Env)(P:Program)(w:World)(H:Hp)(s:Shared)(Q:VK)(E:XK)(r:Result)(s':Shared):Prop:=
 match r with
 |.ok (.ret u)=>CE outer P w H s Q u s'
 |.ok _=>False
 |.error e=>CX outer H s E e s'
structure FnOk(P:Program)(w:World)(K:W.Frag)(mg:Str->Option Value)(base:Heap)(CX:CXT)(k:Nat)(f:Addr)(fd:FuncData)(ps:List Str)(sp:Sp):Prop where
 len:∀vs H Q E,sp vs H Q E->vs.length=ps.length
 run:∀(A:Around)(outer:List Env)(s:Shared)(H:Hp)(args:Args)(us:List Value)(vs:List V)(Q:VK)(E:XK),Room k A->Env0 P w K mg base A outer s H->BindsTo s fd args (ps.zip us)->Vals vs us->sp vs H Q E->
  codeAny (model P w) A (.call (.ref f) args) (CR CX outer P w H s Q E) s
theorem FnOk.imp{K:W.Frag}(F:FnOk P w K mg base CX k f fd ps sp)
  (h:∀vs H Q E,sp' vs H Q E->sp vs H Q E):FnOk P w K mg base CX k f fd ps sp':=
 ⟨λvs H Q E q=>F.len vs H Q E (h _ _ _ _ q),λA a s H b e vs Q E i c j l hs=>F.run A a s H b e vs Q E i c j l (h _ _ _ _ hs)⟩
theorem Env0.make{K:W.Frag}(e:Env0 P w K mg base A outer s H)(C:Addr)(us:List Value)(kw:List (Str×Value)):
  Env0 P w K mg base (A.under (.builtin "type.__call__" ⟨.ref C::us,kw⟩)) outer s H:=⟨by first|exact e.frames|(simpa[Around.under,Code.envs,Code.isFrame,pushEnvs]using e.frames),e.mod,e.bs,e.bsz,e.funs,e.frf,e.hok,e.bare⟩
section
variable{X:Cx}{pins:List (Addr×Obj)}{σ:St}{H:Hp}{s s':Shared}
theorem Inv.env0(I:Inv X pins σ H s):Env0 X.prog X.w X.K X.mg X.base X.A X.stack s H:=
 ⟨I.ok.frames,I.ok.mod,I.bs,kW I.ok.bsz I.sz,I.stack,I.stkFree,I.hok,I.bare⟩
theorem Inv.after(I:Inv X pins σ H s)(h:CE X.stack X.prog X.w H s Q u s'):EP X pins σ Q u s':=by
 obtain⟨v,j,os,a,un,e,r,q⟩:=h;obtain⟨i,g,d,t,c⟩:=s';obtain rfl:c=s.os:=os;exact⟨v,j,I.call (h':=i) (g':=g) (d':=d) (t':=t) (ch:=[]) un e a (λb z=>absurd z (by simp)),r,q⟩
end
noncomputable def tCall(sp:Sp)(dvs:List V)(E:XK)(t:TA):TE:=λσ H Q=>t σ H λvs H1=>sp (vs++dvs) H1 Q E
inductive ItMeth(C:Addr)(m:Str)(sp:Sp)(dvs:List V)(E:XK)(t:TA)(σ:St)(Q:VK)(x:V)(H1:Hp):Prop
 |mk(a:_)(dx:_)(fs:_)(h1:x=.ref a)(h2:H1 a=some (.ins C dx fs))(h3:fs.lookup m=none)(h4:t σ H1 λvs H2=>sp (x::(vs++dvs)) H2 Q E):ItMeth C m sp dvs E t σ Q x H1
noncomputable def tMake(C:Addr)(sp:Sp)(dvs:List V)(E:XK)(t:TA):TE:=λσ H Q=>t σ H λvs H1=>∀x dx,H1 x=none->H1 dx=none->dx≠x->
 sp (.ref x::(vs++dvs)) (upd (upd H1 dx (.own x)) x (.ins C dx [])) (λv H2=>v=.non/\Q (.ref x) H2) E
noncomputable def Binds(K:W.Frag)(fd:FuncData)(ps:List Str)(ds:List Value):Prop:=
 ∀(s:Shared)(us:List Value),K.In s.heap->(us++ds).length=ps.length->BindsTo s fd ⟨us,[]⟩ (ps.zip (us++ds))
theorem Binds.all{K:W.Frag}(h:∀us:List Value,us.length=ps.length->bindArgs fd ⟨us,[]⟩=pure (ps.zip us)):Binds K fd ps []:=λs us _ a=>by
 rw[mz]at a⊢;exact .of_eq (h us a)
noncomputable def fB(CX:CXT)(X:Cx)(E:XK):Prop:=∀(pins:List (Addr×Obj))(σ:St)(H:Hp)(s:Shared)(e:Value)(s':Shared),Inv X pins σ H s->CX X.stack H s E e s'->X.xe e s'
section
variable{X:Cx}{CX:CXT}{k:Nat}{f C:Addr}{fd:FuncData}{ps:List Str}{sp:Sp}{dvs:List V}{ds:List Value}{E:XK}{x m:Str}{p pos apos:Pos}{e o:Expr}{es:List Expr}{ta:TE}{t:TA}
theorem run_fn(F:FnOk X.prog X.w X.K X.mg X.base CX k f fd ps sp)(hr:Room k X.A)(hb:Binds X.K fd ps ds)(hd:Vals dvs ds)(hx:fB CX X E)
  (I:Inv X pins σ H s)(r:Vals vs us)(h:sp (vs++dvs) H Q E):wpAny (model X.prog X.w) X.A (call (.ref f) us) (EP X pins σ Q) X.xe s:=by
 have b:Vals (vs++dvs) (us++ds):=r.append hd;have i:(us++ds).length=ps.length:=by rw[<-b.length];exact F.len _ _ _ _ h
 refine wpAny_call (codeAny_mono (F.run X.A X.stack s H ⟨us,[]⟩ (us++ds) (vs++dvs) Q E hr I.env0 (hb s us I.kIn i) b h) λr c a=>?_)
 cases r with
 |error e=>exact hx pins σ H s e c I a
 |ok fl=>
  cases fl with
  |ret u=>exact I.after a
  |next=>exact False.elim a
  |brk=>exact False.elim a
  |cont=>exact False.elim a
theorem pe_call(F:FnOk X.prog X.w X.K X.mg X.base CX k f fd ps sp)(hr:Room k X.A)(hg:Gl X x)(hm:X.mg x=some (.ref f))(hk:PySem.W.keepIn X.K (.ref f)=true)(hb:Binds X.K fd ps ds)(hd:Vals dvs ds)(hx:fB CX X E)
  (ha:PA X (e::es) t)(hdb:(x==("__debug__":Str))=false:=by decide)(he:starEach (e::es) X.env=(false,eval e X.env)::starEach es X.env:=by rfl)(hpl:(backTo pos (starEach es X.env)).any (·.1)=false:=by rfl):
  PE X (.Call (.Name x p) (e::es) [] pos) (tCall sp dvs E t):=by
 intro a s σ H Q I h;refine wpAny_Call_Name_kw (kF I hg hm ?_ hdb);refine PySem.W.callWith_K (h₀:=X.base) I.ok.mod.kin hk (thn (ha pos a s σ H _ I h) λc l⟨i,j,b,r,q⟩=>⟨b.kIn,?_⟩) he hpl;exact run_fn F hr hb hd hx b r q
structure Mk(K:W.Frag)(C f:Addr):Prop where
 makes:PySem.W.makesIn K C=true
 init:PySem.W.findIn K (.ref C) "__init__"=some (some (.ref f))
 fn:PySem.W.isFn K (.ref f)=true
 kp:PySem.W.keepIn K (.ref C)=true
theorem run_make(M:Mk X.K C f)(F:FnOk X.prog X.w X.K X.mg X.base CX k f fd ps sp)(hr:Room (k+1) X.A)(hb:Binds X.K fd ps ds)(hd:Vals dvs ds)
  (hx:fB CX X E)(I:Inv X pins σ H s)(r:Vals vs us)
  (h:∀x dx,H x=none->H dx=none->dx≠x->sp (.ref x::(vs++dvs)) (upd (upd H dx (.own x)) x (.ins C dx [])) (λv H2=>v=.non/\Q (.ref x) H2) E):
  wpAny (model X.prog X.w) X.A (call (.ref C) us) (EP X pins σ Q) X.xe s:=by
 have i:=h (s.heap.objs.size+1) s.heap.objs.size (I.hok.fresh (Nat.le_succ _)) (I.hok.fresh (kM _)) (lX (Nat.lt_succ_self _));have b:=Inv.made (C:=C) I;have c:Vals (V.ref (s.heap.objs.size+1)::(vs++dvs)) (Value.ref (s.heap.objs.size+1)::(us++ds)):=.cons rfl (r.append hd)
 have q:(Value.ref (s.heap.objs.size+1)::us++ds).length=ps.length:=by
  have e:=c.length;rw[F.len _ _ _ _ i]at e;exact e.symm
 refine wpAny_call (make_map (f:=f) I.kIn M.makes M.init (beq_iff_eq.mp M.fn) (codeAny_mono (F.run _ X.stack _ _ ⟨Value.ref (s.heap.objs.size+1)::us,[]⟩ (Value.ref (s.heap.objs.size+1)::(us++ds)) _ _ E (hr.make C us [])
  (b.env0.make C us []) (hb _ (Value.ref (s.heap.objs.size+1)::us) b.kIn q) c i) λr o a=>?_))
 cases r with
 |error e=>exact hx pins σ _ _ e o b a
 |ok fl=>
  cases fl with
  |ret u=>
   obtain⟨v,p,j,l,ev,m⟩:=b.after a;subst ev;exact⟨l,⟨V.ref (s.heap.objs.size+1),p,j,rfl,m⟩⟩
  |next=>exact False.elim a
  |brk=>exact False.elim a
  |cont=>exact False.elim a
theorem pe_make(M:Mk X.K C f)(F:FnOk X.prog X.w X.K X.mg X.base CX k f fd ps sp)(hr:Room (k+1) X.A)(hg:Gl X x)(hm:X.mg x=some (.ref C))(hb:Binds X.K fd ps ds)(hd:Vals dvs ds)(hx:fB CX X E)
  (ha:PA X (e::es) t)(hdb:(x==("__debug__":Str))=false:=by decide)(he:starEach (e::es) X.env=(false,eval e X.env)::starEach es X.env:=by rfl)(hpl:(backTo pos (starEach es X.env)).any (·.1)=false:=by rfl):
  PE X (.Call (.Name x p) (e::es) [] pos) (tMake C sp dvs E t):=by
 intro a s σ H Q I h;refine wpAny_Call_Name_kw (kF I hg hm ?_ hdb);refine PySem.W.callWith_K (h₀:=X.base) I.ok.mod.kin M.kp (thn (ha pos a s σ H _ I h) λc l⟨i,j,b,r,q⟩=>⟨b.kIn,?_⟩) he hpl;exact run_make M F hr hb hd hx b r q
end
structure FnScope(N P:List Str)(sc:Scope):Prop where
 kind:sc.kind=.function
 co:sc.isCoroutine=false
 gen:sc.isGenerator=false
 nd:N.Nodup
 pre:N.take P.length=P
 par:∀x∈P,sc.names.lookup x=some .local∨sc.names.lookup x=some .cell
 nofree:∀y∈sc.names,y.2≠.free
theorem bindL_out{kindOf:Str->Option NameKind}:∀{binds:List (Str×Value)}{m:Str->Option Value},(∀v,(x,v)∉binds)->bindL kindOf binds m x=m x
 |[],_,_=>rfl
 |(n,v)::r,m,h=>by
  unfold bindL;rw[bindL_out λw a=>h w (lv _ a)]
  split
  ·have:x≠n:=by rintro rfl;exact h v lG
   simp[this]
  ·rfl
theorem bindC_out{kindOf:Str->Option NameKind}:∀{binds:List (Str×Value)}{m:Str->Option Value},(∀v,(x,v)∉binds)->bindC kindOf binds m x=m x
 |[],_,_=>rfl
 |(n,v)::r,m,h=>by
  unfold bindC;rw[bindC_out λw a=>h w (lv _ a)]
  split
  ·rfl
  ·have:x≠n:=by rintro rfl;exact h v lG
   simp[this]
theorem bindL_get{kindOf:Str->Option NameKind}:∀{P:List Str}{vs:List Value}{i:Nat}{m:Str->Option Value},P.Nodup->P[i]?=some x->vs[i]?=some v->kindOf x=some .local->
  bindL kindOf (P.zip vs) m x=some v
 |[],_,_,_,_,h,_,_=>by simp at h
 |_::_,[],_,_,_,_,h,_=>by simp at h
 |p::P,w::vs,0,m,nd,h1,h2,hk=>by
  simp at h1 h2;subst h1;subst h2;show bindL kindOf ((p,w)::P.zip vs) m p=_;unfold bindL;rw[bindL_out λv a=>(me.mp nd).1 (List.of_mem_zip a).1,if_pos hk];simp
 |p::P,w::vs,i+1,m,nd,h1,h2,hk=>by
  show bindL kindOf ((p,w)::P.zip vs) m x=_;unfold bindL;exact bindL_get (i:=i) (me.mp nd).2 (by simpa using h1) (by simpa using h2) hk
theorem bindC_get{kindOf:Str->Option NameKind}:∀{P:List Str}{vs:List Value}{i:Nat}{m:Str->Option Value},P.Nodup->P[i]?=some x->vs[i]?=some v->kindOf x≠some .local->
  bindC kindOf (P.zip vs) m x=some v
 |[],_,_,_,_,h,_,_=>by simp at h
 |_::_,[],_,_,_,_,h,_=>by simp at h
 |p::P,w::vs,0,m,nd,h1,h2,hk=>by
  simp at h1 h2;subst h1;subst h2;show bindC kindOf ((p,w)::P.zip vs) m p=_;unfold bindC;rw[bindC_out λv a=>(me.mp nd).1 (List.of_mem_zip a).1,if_neg hk];simp
 |p::P,w::vs,i+1,m,nd,h1,h2,hk=>by
  show bindC kindOf ((p,w)::P.zip vs) m x=_;unfold bindC;exact bindC_get (i:=i) (me.mp nd).2 (by simpa using h1) (by simpa using h2) hk
noncomputable def gX(N:List Str)(vs:List V):St:=vs.map some++List.replicate (N.length-vs.length) none
noncomputable def cxOf(CX:CXT)(P:Program)(w:World)(K:W.Frag)(mg:Str->Option Value)(base:Heap)(N:List Str)(qual:Str)(scope:Scope)(f:Addr)(cd:Value)(A:Around)(outer:List Env)(s:Shared)(H:Hp)(E:XK):Cx where
 prog:=P
 w:=w
 K:=K
 mg:=mg
 base:=base
 A:=A.deeper (envOfC qual scope s.heap.objs.size f cd)
 N:=N
 s₀:=s
 H₀:=H
 env:=envOfC qual scope s.heap.objs.size f cd
 outer:=outer
 stack:=envOfC qual scope s.heap.objs.size f cd::outer
 ex:=[]
 calm:=true
 fn:=λ_=>true
 pn:=[]
 xe:=λe s'=>wpAny (model P w) (A.deeper (envOfC qual scope s.heap.objs.size f cd)) (leaving (envOfC qual scope s.heap.objs.size f cd) e) (λ_ s''=>CX outer H s E e s'') (λe' s''=>CX outer H s E e' s'') s'
theorem cell_has{sc:Scope}(h:sc.names.lookup x=some .cell):∃c,(cellsFrom n sc.names []).lookup x=some c:=by
 have q:=PySem.W.cellsFrom_some sc.names n [] (.inl h);exact Option.isSome_iff_exists.mp q
theorem inv_start{K:W.Frag}
  (S:FnScope N ps scope)(hd:A.handled=none)(e0:Env0 P w K mg base A outer s H)(hl:vs.length=ps.length)(r:Vals vs us)
  (x:InCallC s s.heap.objs.size (bindL (envOfC qual scope s.heap.objs.size f cd).kindOf (ps.zip us) λ_=>none) (cellsFrom (s.heap.objs.size+1) scope.names []) (bindC (envOfC qual scope s.heap.objs.size f cd).kindOf (ps.zip us) λ_=>none) s1):
  Inv (cxOf CX P w K mg base N qual scope f cd A outer s H E) [] (gX N vs) H s1:=by
 have L:ps.length<=N.length:=by have:=lW List.length S.pre;rw[k8]at this;lia
 obtain⟨D,O,rfl,G⟩:=x.done;have l:∀b:Addr,b∉(cxOf CX P w K mg base N qual scope f cd A outer s H E).ex:=λb z=>absurd (show b∈([]:List Addr) from z) (by simp)
 refine⟨⟨e0.mod,S.kind,rfl,rfl,kM _,λy z c D j=>?_,λy m=>?_,λy c _ h=>?_,λ_=>hd,Around.frames_deeper e0.frames,.inr ⟨rfl,rfl⟩,λb z=>absurd z (l b),e0.bs,e0.bsz,λb _ _=>l b,λb z=>absurd z (l b),e0.funs,e0.frf⟩,
  rfl,e0.bare,Un.kept G,⟨_,x.toInCall.ns,λi y v D j M=>?_⟩,λy c h=>⟨_,x.cell y c h⟩,e0.hok.fresh (kM _),λy c h=>?_,λp t=>absurd (show p∈([]:List (Addr×Obj)) from t) (by simp),e0.hok.kept G,?_⟩
 ·exact name_of_addr x.apart (mS D) (mS j)
 ·have m:scope.names.lookup y=some .cell∨scope.names.lookup y=some .free:=m;rcases m with m|m
  ·exact cell_has m
  ·exact absurd rfl (S.nofree _ (mS m))
 ·exact Nat.le_of_lt (x.above y c (mS h))
 ·have B:i<vs.length:=by
   unfold gX at j;by_cases B:i<vs.length
   ·exact B
   ·rw[mh (by simpa using B)]at j;rw[List.getElem?_replicate]at j
    split at j<;>cases j
  have J:vs[i]?=some v:=by
   unfold gX at j;rw[mN (by simpa using B),kP]at j
   cases e:vs[i]? with
   |none=>rw[e]at j;cases j
   |some a=>rw[e]at j;cases j;rfl
  obtain⟨u,F,I⟩:=r.get J
  have t:ps[i]?=some y:=by
   rw[<-S.pre,List.getElem?_take_of_lt (by lia)];exact D
  have o:ps.Nodup:=by rw[<-S.pre];exact S.nd.sublist (List.take_sublist _ _)
  refine⟨u,I,?_⟩;rcases S.par y (kN t) with k|k
  ·exact .inl ⟨k,bindL_get o t F k⟩
  ·obtain⟨c,e⟩:=cell_has (n:=s.heap.objs.size+1) k;refine .inr ⟨.inl k,c,e,?_⟩;have q:=x.cell y c e;rw[bindC_get o t F (by show scope.names.lookup y≠_;rw[k];decide)]at q;exact q
 ·exact e0.hok.fresh (Nat.le_of_lt (x.above y c (mS h)))
 ·unfold gX;show _=N.length;rw[k5,kK,List.length_replicate]
  lia
theorem fn_of{K:W.Frag}{dV kV doc pm cdv ct oc:Value}
  (lk:K.lookup f=some ⟨oc,od,.func (PySem.W.fnOf name qual params body scope dV kV doc pm an cdv ct),osl⟩)(hcd:PySem.W.codeIn K cdv qual=true)(S:FnScope N ps scope)
  (len:∀vs H Q E,sp vs H Q E->vs.length=ps.length)
  (hbody:∀(A:Around)(outer:List Env)(s:Shared)(H:Hp)(vs:List V)(Q:VK)(E:XK),Room k (A.deeper (envOfC qual scope s.heap.objs.size f cdv))->sp vs H Q E->
   ∃t,PSs (cxOf CX P w K mg base N qual scope f cdv A outer s H E) body t/\t {nx:=λ_ H'=>Q .non H',rt:=Q} (gX N vs) H):
  FnOk P w K mg base CX (k+1) f (PySem.W.fnOf name qual params body scope dV kV doc pm an cdv ct) ps sp:=by
 refine⟨len,λA outer s H D G vs Q E l h R r c=>?_⟩;have M:=len _ _ _ _ c;have z:K.In s.heap:=h.mod.kin.keeps λb o e=>(h.bs b o e).1;have m:s.heap.NoLimit:=h.mod.nolimit.keeps λb o e=>(h.bs b o e).1
 have a:∀y∈ps.zip G,scope.names.lookup y.1=some .local∨(scope.names.lookup y.1=some .cell/\((cellsFrom (s.heap.objs.size+1) scope.names []).lookup y.1).isSome=true):=λ⟨n,v⟩T=>by
  rcases S.par n (List.of_mem_zip T).1 with q|q
  ·exact .inl q
  ·exact .inr ⟨q,PySem.W.cellsFrom_some _ _ _ (.inl q)⟩
 refine codeAny_call_function l.depth (z _ _ lk) rfl S.co S.gen rfl (PySem.W.codeRec_of z hcd) (R _ _ _ _ ?_);refine wpAny_newFunctionEnv_cells S.kind a λF O B x=>?_;subst O;refine⟨m.keeps x.toInCall.keep,codeAny_func ?_⟩;obtain⟨t,U,X⟩:=hbody A outer s H vs Q E (l.deeper _) c;have I:Inv (cxOf CX P w K mg base N qual scope f cdv A outer s H E) [] (gX N vs) H B:=inv_start S l.hd h M r x;refine nF (U [] B (gX N vs) H _ I X) (λL p hs=>?_) λe p hs=>hs
 have fin:∀{i:St}{H':Hp}{v:V}{u:Value},Inv (cxOf CX P w K mg base N qual scope f cdv A outer s H E) [] i H' p->RelV v u->Q v H'->CE outer P w H s Q u p:=
  λ{i H' v u}J j q=>⟨v,H',J.os,J.bare,J.base,J.hok,j,q⟩
 cases L with
 |ret u=>
  obtain⟨v,i,H',J,j,q⟩:=hs;exact fin J j q
 |next=>
  obtain⟨i,H',J,q⟩:=hs;exact fin (v:=V.non) (u:=Value.none) J rfl q
 |brk=>
  obtain⟨_,_,_,q⟩:=hs;exact False.elim q
 |cont=>
  obtain⟨_,_,_,q⟩:=hs;exact False.elim q
section
variable{X:Cx}{x:Str}{p pos:Pos}{e:Expr}{es:List Expr}{t:TA}{id T:String}{r:List V->Hp->VK->Prop}
noncomputable def tCB(r:List V->Hp->VK->Prop)(t:TA):TE:=λσ H Q=>t σ H λvs H1=>r vs H1 Q
theorem bH(hc:hO X (.builtin id) r)(hg:Gl X x)(hm:X.mg x=none)(hv:bootBuiltins x=some (.builtin id))(ha:PA X (e::es) t)(hn:x≠"__name__":=by decide)(hdb:(x==("__debug__":Str))=false:=by decide)
  (he:starEach (e::es) X.env=(false,eval e X.env)::starEach es X.env:=by rfl)(hpl:(backTo pos (starEach es X.env)).any (·.1)=false:=by rfl):PE X (.Call (.Name x p) (e::es) [] pos) (tCB r t):=by
 intro a s σ H Q I h;refine wpAny_Call_Name_kw (ld_blt I hg hm hv ?_ hn hdb);exact PyProof.Rows.callWith_builtin1 (thn (ha pos a s σ H _ I h) (by rintro c o⟨j,l,b,m,i⟩;exact hc a o σ l j c Q b m i)) he hpl
theorem dN(hc:hO X (.type T) r)(hg:Gl X x)(hm:X.mg x=none)(hv:bootBuiltins x=some (.type T))(ha:PA X (e::es) t)(hn:x≠"__name__":=by decide)(hdb:(x==("__debug__":Str))=false:=by decide)
  (he:starEach (e::es) X.env=(false,eval e X.env)::starEach es X.env:=by rfl)(hpl:(backTo pos (starEach es X.env)).any (·.1)=false:=by rfl):PE X (.Call (.Name x p) (e::es) [] pos) (tCB r t):=by
 intro a s σ H Q I h;refine wpAny_Call_Name_kw (ld_blt I hg hm hv ?_ hn hdb);exact PyProof.Rows.callWith_type1 (thn (ha pos a s σ H _ I h) (by rintro c o⟨j,l,b,m,i⟩;exact hc a o σ l j c Q b m i)) he hpl
end
end L2
namespace HT
open PySem PyProof.Rows
noncomputable def lexLt:List Int->List Int->Bool
 |[],[]=>false
 |[],_::_=>true
 |_::_,[]=>false
 |x::xs,y::ys=>if x=y then lexLt xs ys else decide (x<y)
section
variable{prog:Program}{w:World}{A:Around}{E:Value->Shared->Prop}{s:Shared}
noncomputable def sIx(n d:Nat):Option Int->Nat
 |none=>d
 |some v=>if v<0 then(v+(n:Int)).toNat else min v.toNat n
theorem sIx_none(n d:Nat):sIx n d none=d:=rfl
theorem sIx_nat(n d k:Nat):sIx n d (some (k:Int))=min k n:=by
 show(if(k:Int)<0 then((k:Int)+(n:Int)).toNat else min (k:Int).toNat n)=min k n;rw[if_neg (by lia),Int.toNat_natCast]
end
end HT
namespace L2
open PySem PySem.Spec PyProof.Rows
noncomputable abbrev TO:=St->Hp->(Option Int->Hp->Prop)->Prop
noncomputable def PO(X:Cx)(e:Option Expr)(t:TO):Prop:=
 ∀(pins:List (Addr×Obj))(s:Shared)(σ:St)(H:Hp)(Q:Option Int->Hp->Prop),Inv X pins σ H s->t σ H Q->
  wpAny (model X.prog X.w) X.A (evalPart e X.env) (λu s'=>∃o H',Inv X pins σ H' s'/\IsPart u o/\Q o H') X.xe s
noncomputable def tNoPart:TO:=λ_ H Q=>Q none H
noncomputable def tPart(t:TE):TO:=λσ H Q=>t σ H λx H1=>∃i,x=.int i/\Q (some i) H1
section
variable{X:Cx}{e:Expr}{te:TE}{lo hi:Option Expr}{tl th:TO}{pos p2:Pos}
theorem iH:PO X none tNoPart:=by
 intro a s σ H Q I h;rw[evalPart_none];exact mr ⟨none,H,I,.none,h⟩
theorem iG(h:PE X e te):PO X (some e) (tPart te):=by
 intro a s σ H Q I j;rw[evalPart_some];refine thn (h a s σ H _ I j) λu o⟨x,m,b,l,c⟩=>?_;obtain⟨i,rfl,q⟩:=c;obtain⟨t,rfl⟩:=l;exact⟨some i,m,b,.int i t,q⟩
noncomputable def SlR(X:Cx)(r:V->Option Int->Option Int->Hp->VK->Prop):Prop:=
 ∀(pins:List (Addr×Obj))(s:Shared)(σ:St)(H:Hp)(x:V)(v vl vu:Value)(lo hi:Option Int)(sl:Addr)(Q:VK),Inv X pins σ H s->RelV x v->s.heap.IsSliceOf sl vl vu .none->IsPart vl lo->IsPart vu hi->r x lo hi H Q->
  ∃T id,typeLookup (.type T) "__getitem__"=pure (some (.builtin id))/\s.TypeIs v T/\wpAny (model X.prog X.w) X.A (getItem v (.ref sl)) (EP X pins σ Q) X.xe s
noncomputable def tSl(r:V->Option Int->Option Int->Hp->VK->Prop)(te:TE)(tl th:TO):TE:=λσ H Q=>te σ H λx H1=>tl σ H1 λl H2=>th σ H2 λu H3=>r x l u H3 Q
theorem gL(hr:SlR X r)(he:PE X e te)(hl:PO X lo tl)(hu:PO X hi th):PE X (.Subscript e (.Slice lo hi none p2) pos) (tSl r te tl th):=by
 intro a s σ H Q I h;refine Subscript_ (thn (he a s σ H _ I h) λv D⟨x,B,K,M,t⟩=>?_);refine wpAny_Slice (thn (hl a D σ B _ K t) λvl y⟨l,O,G,o,E⟩=>thn (hu a y σ O _ G E) λi c⟨u,j,m,N,p⟩=>?_);rw[evalPart_none];refine mr ?_;have F:Inv X a σ j {c with heap:=c.heap.push {cls:=.type "slice",data:=.fields #[vl,i,.none]}}:=m.kept (t':=c.toks) λb P q=>ly _ q;obtain⟨T,id,z,J,L⟩:=hr a {c with heap:=c.heap.push {cls:=.type "slice",data:=.fields #[vl,i,.none]}} σ j x v vl i l u c.heap.objs.size Q F M (Heap.IsSliceOf.new ..) o N p;show wpAny (model X.prog X.w) X.A (subscriptTail e (.Slice lo hi none p2) v (.ref c.heap.objs.size)) (EP X a σ Q) X.xe {c with heap:=c.heap.push {cls:=.type "slice",data:=.fields #[vl,i,.none]}};exact tail_any (ops:=[.ref c.heap.objs.size,v]) J z L (by with_unfolding_all rfl)
noncomputable def cutV(xs:List V)(lo hi:Option Int):List V:=(xs.drop (HT.sIx xs.length 0 lo)).take (HT.sIx xs.length xs.length hi-HT.sIx xs.length 0 lo)
theorem cutV_length(xs:List V)(lo hi:Option Int):(cutV xs lo hi).length<=xs.length:=by
 unfold cutV;rw[k8,List.length_drop]
 lia
end
noncomputable def ixN(n:Nat)(i:Int):Option Nat:=if 0<=i then(if i<n then some i.toNat else none)else if-(n:Int)<=i then some (i+n).toNat else none
noncomputable def atI{α:Type}(xs:List α)(i:Int):Option α:=(ixN xs.length i).bind λj=>xs[j]?
theorem ixN_seq(h:ixN n i=some j):seqIndex? i n=some j/\j<n/\-(n:Int)<=i/\i<n:=by
 unfold ixN at h;by_cases h0:0<=i
 ·rw[if_pos h0]at h;by_cases h1:i<n
  ·rw[if_pos h1]at h;have e:i.toNat=j:=lJ h;exact⟨by rw[seqIndex_of h0 h1,e],by lia,by lia,h1⟩
  ·rw[if_neg h1]at h;cases h
 ·rw[if_neg h0]at h;by_cases h1:-(n:Int)<=i
  ·rw[if_pos h1]at h;have e:(i+n).toNat=j:=lJ h;exact⟨by rw[seqIndex_neg (by lia) h1,e],by lia,h1,by lia⟩
  ·rw[if_neg h1]at h;cases h
theorem atI_get(h:atI xs i=some v):∃j,seqIndex? i xs.length=some j/\xs[j]?=some v/\j<xs.length/\-(xs.length:Int)<=i/\i<xs.length:=by
 unfold atI at h
 cases e:ixN xs.length i with
 |none=>rw[e]at h;cases h
 |some j=>
  rw[e]at h;obtain⟨b,l,a,c⟩:=ixN_seq e;exact⟨j,b,h,l,a,c⟩
theorem atI_nat{j:Nat}(h:xs[j]?=some v):atI xs (j:Int)=some v:=by
 have a:j<xs.length:=(kL.mp h).1
 have e:ixN xs.length (j:Int)=some j:=by
  unfold ixN;rw[if_pos (by lia),if_pos (by lia)];simp
 unfold atI;rw[e];exact h
theorem atI_last(xs:List α)(v:α):atI (xs++[v]) (-1)=some v:=by
 have a:(xs++[v]).length=xs.length+1:=by simp
 have e:ixN (xs++[v]).length (-1)=some xs.length:=by
  unfold ixN;rw[a,if_neg (by decide),if_pos (by lia)]
  congr 1
  lia
 unfold atI;rw[e];show(xs++[v])[xs.length]?=some v;simp
noncomputable def PlainIx(b:Expr):Prop:=∀o i,subscripted b false o i=operate [o,i] (getItem o i)
noncomputable def IxR(X:Cx)(r:R2):Prop:=
 ∀(value slice:Expr)(pins:List (Addr×Obj))(s:Shared)(σ:St)(H:Hp)(x y:V)(v u:Value)(Q:VK),Inv X pins σ H s->RelV x v->RelV y u->r x y H Q->
  subscripted slice false v u=operate [v,u] (getItem v u)->wpAny (model X.prog X.w) X.A (subscriptTail value slice v u) (EP X pins σ Q) X.xe s
noncomputable def MtR(X:Cx)(id:String)(r:V->List V->Hp->VK->Prop):Prop:=
 ∀(pins:List (Addr×Obj))(s:Shared)(σ:St)(H:Hp)(x:V)(xs:List V)(v:Value)(us:List Value)(Q:VK),Inv X pins σ H s->RelV x v->Vals xs us->r x xs H Q->
  wpAny (model X.prog X.w) X.A (call (.builtin id) (v::us)) (EP X pins σ Q) X.xe s
section
variable{X:Cx}{a b:Expr}{ta tb:TE}{pos:Pos}
theorem aL(hr:IxR X r)(ha:PE X a ta)(hb:PE X b tb)(hs:PlainIx b:=by exactλ_ _=>rfl):PE X (.Subscript a b pos) (tOp r ta tb):=by
 intro c s σ H Q I h;exact Subscript_ (binT ha hb I h λv u i x y m j e l q=>hr a b c i σ m x y v u Q j e l q (hs _ _))
inductive IrIxL(K:W.Frag)(x:V)(y:V)(H:Hp)(Q:VK):Prop
 |mk(p:_)(xs:_)(i:_)(v:_)(h1:x=.ref p)(h2:y=.int i)(h3:SqL K H p xs)(h4:atI xs i=some v)(h5:Q v H):IrIxL K x y H Q
noncomputable def rIxL(K:W.Frag):R2:=λx y H Q=>IrIxL K x y H Q
inductive IrIxT(K:W.Frag)(x:V)(y:V)(H:Hp)(Q:VK):Prop
 |mk(p:_)(xs:_)(i:_)(v:_)(h1:x=.ref p)(h2:y=.int i)(h3:SqT K H p xs)(h4:atI xs i=some v)(h5:Q v H):IrIxT K x y H Q
noncomputable def rIxT(K:W.Frag):R2:=λx y H Q=>IrIxT K x y H Q
noncomputable def rIxS:R2:=λx y H Q=>∃z i c,x=.str z/\y=.int i/\z.length<=sizeLine/\atI z.cps.toList i=some c/\Q (.str ⟨#[c]⟩) H
theorem aX:IxR X (rIxL X.K):=by
 intro l A a s σ H x y v u Q I K F h hs;obtain⟨p,O,i,z,rfl,rfl,M,J,q⟩:=h
 cases K;obtain⟨t,rfl⟩:=F;obtain⟨c,r,m,R⟩:=I.list M;obtain⟨j,b,N,P,D,E⟩:=atI_get J;obtain⟨w,B,o⟩:=r.get N;have G:=r.length;have S:=line63;have fin:EP X a σ Q w s:=⟨z,H,I,o,q⟩;by_cases h0:0<=i
 ·have e:i.toNat=j:=by
   rw[seqIndex_of h0 E]at b;exact lJ b
  exact item_listR m.isList h0 (by lia) (by rw[e];simpa using B) fin hs
 ·have e:(i+(c.toArray.size:Int)).toNat=j:=by
   rw[seqIndex_neg (by lia) D]at b;rw[l7,<-G];exact lJ b
  exact subscriptTail_builtinR (x:=w) m.isList.typeIs slot_list_getitem.lookup
   (wpAny_getItem_list_neg (Q:=λr L=>r=w/\EP X a σ Q r L) m.isList (by lia) (by rw[l7]<;>lia) (by lia) (by rw[e];simpa using B) ⟨rfl,fin⟩) hs
theorem aT:IxR X (rIxT X.K):=by
 intro b e a s σ H x y v u Q I F A h hs;obtain⟨p,N,i,z,rfl,rfl,J,D,q⟩:=h
 cases F;obtain⟨t,rfl⟩:=A;obtain⟨m,r,l,P⟩:=I.tuple J;obtain⟨j,E,K,O,L,M⟩:=atI_get D;obtain⟨w,o,c⟩:=r.get K;have B:=r.length;have R:=line63;have fin:EP X a σ Q w s:=⟨z,H,I,c,q⟩
 exact subscriptTail_builtinR (x:=w) l.typeIs slot_tuple_getitem.lookup
  (getItem_tuple (j:=j) (Q:=λr G=>r=w/\EP X a σ Q r G) l (by lia) (by lia) (by rw[l7,<-B];exact E) (by simpa using o) ⟨rfl,fin⟩) hs
theorem ix_str:IxR X rIxS:=by
 intro a b e s σ H x y v u Q I o A h hs;obtain⟨z,i,c,rfl,rfl,J,m,q⟩:=h;obtain⟨t,rfl⟩:=o;obtain⟨F,rfl⟩:=A;obtain⟨j,l,E,G,r,w⟩:=atI_get m;have D:z.cps.toList.length=z.length:=by simp[Str.length]
 rw[D]at l r w;have K:=line63
 exact tail_any (typeIs_str s z t) slot_str_getitem.lookup (getItem_str (c:=c) (by
  have p:decide (i< -(2^63:Int))=false:=lz (by lia);have B:decide (i≥2^63)=false:=lz (by lia);rw[p,B,Bool.or_false]) (by rw[l];simpa using E) ⟨.str ⟨#[c]⟩,H,I.tok _,⟨_,rfl⟩,q⟩) hs
theorem slice_bounds(lo hi:Option Int)(n:Nat):(sliceBounds lo hi none n).1=((HT.sIx n 0 lo:Nat):Int)/\(sliceBounds lo hi none n).2.1=((HT.sIx n n hi:Nat):Int)/\(sliceBounds lo hi none n).2.2=1:=by
 refine⟨?_,?_,rfl⟩
 ·cases lo with
  |none=>simp[sliceBounds,HT.sIx]
  |some i=>
   simp only[sliceBounds,HT.sIx,Option.getD_none,show(1:Int)>0 by decide,if_true];by_cases h:i<0
   ·simp only[h,if_true]<;>lia
   ·simp only[h,if_false]<;>lia
 ·cases hi with
  |none=>simp[sliceBounds,HT.sIx]
  |some i=>
   simp only[sliceBounds,HT.sIx,Option.getD_none,show(1:Int)>0 by decide,if_true];by_cases h:i<0
   ·simp only[h,if_true]<;>lia
   ·simp only[h,if_false]<;>lia
theorem slicePick_cut(its:List Value)(lo hi:Option Int):slicePick its.toArray lo hi none=((its.drop (HT.sIx its.length 0 lo)).take (HT.sIx its.length its.length hi-HT.sIx its.length 0 lo)).toArray:=by
 obtain⟨b,c,a⟩:=slice_bounds lo hi its.toArray.size;unfold slicePick;rw[b,c,a];simp only[sliceRange_one,pick_run,l7]<;>rfl
inductive IrSlL(K:W.Frag)(x:V)(lo:Option Int)(hi:Option Int)(H:Hp)(Q:VK):Prop
 |mk(a:_)(xs:_)(h1:x=.ref a)(h2:SqL K H a xs)(h3:∀p,H p=none->Q (.ref p) (upd H p (.lst (cutV xs lo hi)))):IrSlL K x lo hi H Q
noncomputable def rSlL(K:W.Frag):V->Option Int->Option Int->Hp->VK->Prop:=λx lo hi H Q=>IrSlL K x lo hi H Q
theorem j9:SlR X (rSlL X.K):=by
 intro l s σ H x v vl D i j B Q I y hs t A h;obtain⟨a,c,rfl,z,q⟩:=h
 cases y;obtain⟨p,r,m,w⟩:=I.list z;have e:=r.length;refine⟨"list",_,slot_list_getitem.lookup,m.isList.typeIs,?_⟩;refine wpAny_getItem_list_slice m.isList hs t A .none (by simp) ?_ (by rw[l7]<;>lia);rw[slicePick_cut,<-e];refine⟨.ref s.heap.objs.size,_,I.laid (t':=s.toks) (o:=.lst (cutV c i j)) (λb E q=>ly _ q) (kM _) ?_,rfl,q _ (I.hok.fresh (kM _))⟩;exact⟨kW (cutV_length c i j) w,_,0,(r.drop (HT.sIx c.length 0 i)).take (HT.sIx c.length c.length j-HT.sIx c.length 0 i),lS _ rfl⟩
noncomputable def hJ:V->Bool
 |.non=>true
 |.bl _=>true
 |.int _=>true
 |.str _=>true
 |_=>false
noncomputable def eqV:V->V->Bool
 |.non,.non=>true
 |.bl a,.bl b=>a==b
 |.bl a,.int b=>(if a then 1 else 0)==b
 |.int a,.bl b=>a==(if b then 1 else 0)
 |.int a,.int b=>a==b
 |.str a,.str b=>a==b
 |_,_=>false
theorem eqAt_V(ry:RelV y u)(rx:RelV x v)(fy:hJ y=true)(fx:hJ x=true):SeqAt.EqAt A s u v (eqV y x):=by
 cases y with
 |non=>
  cases ry
  cases x with
  |non=>cases rx;exact SeqAt.EqAt.same _
  |bl b=>cases rx;exact SeqAt.EqAt.none_bool b
  |int b=>obtain⟨t,rfl⟩:=rx;exact SeqAt.EqAt.none_int b t
  |str b=>obtain⟨t,rfl⟩:=rx;exact SeqAt.EqAt.none_str b t
  |_=>exact absurd (show false=true from fx) lM
 |bl a=>
  cases ry
  cases x with
  |non=>cases rx;exact SeqAt.EqAt.bool_none a
  |bl b=>cases rx;exact SeqAt.EqAt.bool_bool a b
  |int b=>obtain⟨t,rfl⟩:=rx;exact SeqAt.EqAt.bool_int a b t
  |str b=>obtain⟨t,rfl⟩:=rx;exact SeqAt.EqAt.bool_str a b t
  |_=>exact absurd (show false=true from fx) lM
 |int a=>
  obtain⟨c,rfl⟩:=ry
  cases x with
  |non=>cases rx;exact SeqAt.EqAt.int_none a c
  |bl b=>cases rx;exact SeqAt.EqAt.int_bool a c b
  |int b=>obtain⟨t,rfl⟩:=rx;exact SeqAt.EqAt.int_int a c b t
  |str b=>obtain⟨t,rfl⟩:=rx;exact SeqAt.EqAt.int_str a c b t
  |_=>exact absurd (show false=true from fx) lM
 |str a=>
  obtain⟨c,rfl⟩:=ry
  cases x with
  |non=>cases rx;exact SeqAt.EqAt.str_none a c
  |bl b=>cases rx;exact SeqAt.EqAt.str_bool a c b
  |int b=>obtain⟨t,rfl⟩:=rx;exact SeqAt.EqAt.str_int a c b t
  |str b=>obtain⟨t,rfl⟩:=rx;exact SeqAt.EqAt.str_str a c b t
  |_=>exact absurd (show false=true from fx) lM
 |_=>exact absurd (show false=true from fy) lM
noncomputable def eqU(x:V)(u:Value):Bool:=match u with
 |.none=>eqV .non x
 |.bool b=>eqV (.bl b) x
 |.int i _=>eqV (.int i) x
 |.str z _=>eqV (.str z) x
 |_=>false
theorem eqU_of(r:RelV y u)(f:hJ y=true):eqU x u=eqV y x:=by
 cases y with
 |non=>cases r;rfl
 |bl b=>cases r;rfl
 |int i=>obtain⟨t,rfl⟩:=r;rfl
 |str z=>obtain⟨t,rfl⟩:=r;rfl
 |_=>exact absurd (show false=true from f) lM
theorem any_eqU:∀{xs:List V}{us:List Value},Vals xs us->xs.all hJ=true->us.any (eqU x)=xs.any λy=>eqV y x
 |_,_,.nil,_=>rfl
 |y::xs,u::us,.cons r t,f=>by
  rw[List.all_cons,Bool.and_eq_true]at f;rw[List.any_cons,List.any_cons,eqU_of r f.1,any_eqU t f.2]
theorem mem_eqAt(rx:RelV x v)(fx:hJ x=true):∀{xs:List V}{us:List Value},Vals xs us->xs.all hJ=true->∀u∈us,SeqAt.EqAt A s u v (eqU x u)
 |_,_,.nil,_=>λu a=>by cases a
 |y::xs,u::us,.cons r t,f=>λb a=>by
  rw[List.all_cons,Bool.and_eq_true]at f;rcases lx.mp a with rfl|a
  ·rw[eqU_of r f.1];exact eqAt_V r rx f.1 fx
  ·exact mem_eqAt rx fx t f.2 b a
noncomputable def inV(x:V)(xs:List V):Bool:=xs.any λy=>eqV y x
noncomputable def rIn(K:W.Frag)(neg:Bool):R2:=λx y H Q=>∃p xs,y=.ref p/\(SqL K H p xs∨SqT K H p xs)/\hJ x=true/\xs.all hJ=true/\Q (.bl (if neg then !inV x xs else inV x xs)) H
theorem op_notIn_seq:OpR X (compareOp .NotIn) (rIn X.K true):=by
 intro i s σ H x y v u Q I j o h;obtain⟨p,t,rfl,b,l,fs,q⟩:=h
 cases o;rcases b with b|b
 ·obtain⟨a,r,c,m⟩:=I.list b;refine SeqAt.notIn_listAt (eqU x) c.isList (λw e=>mem_eqAt j l r fs w (by simpa using e)) ⟨.bl _,H,I,rfl,?_⟩;rw[show a.toArray.any (eqU x)=a.any (eqU x) by simp,any_eqU r fs];exact q
 ·obtain⟨a,r,c,m⟩:=I.tuple b;refine SeqAt.notIn_tupleAt (eqU x) c (λw e=>mem_eqAt j l r fs w (by simpa using e)) ⟨.bl _,H,I,rfl,?_⟩;rw[show a.toArray.any (eqU x)=a.any (eqU x) by simp,any_eqU r fs];exact q
theorem call_len_seq:hO X (.builtin "len") (λxs H Q=>∃p ys,xs=[.ref p]/\(SqL X.K H p ys∨SqT X.K H p ys)/\Q (.int ys.length) H):=by
 intro j s σ H xs o Q I r h;obtain⟨p,ys,rfl,b,q⟩:=h;obtain⟨u,rfl,m⟩:=jC r
 cases m;have t:=line63;rcases b with b|b
 ·obtain⟨c,i,e,l⟩:=I.list b;have a:=i.length;exact Calls.call_len_list e.isList (by simp only[l7]<;>lia) ⟨.int ys.length,H,I.tok _,⟨s.toks+1,by rw[l7,a]⟩,q⟩
 ·obtain⟨c,i,e,l⟩:=I.tuple b;have a:=i.length;exact len_tuple e (by simp only[l7]<;>lia) ⟨.int ys.length,H,I.tok _,⟨s.toks+1,by rw[l7,a]⟩,q⟩
theorem call_len_str:hO X (.builtin "len") (λxs H Q=>∃z,xs=[.str z]/\z.length<=sizeLine/\Q (.int z.length) H):=by
 intro a s σ H xs c Q I r h;obtain⟨z,rfl,b,q⟩:=h;obtain⟨u,rfl,t,rfl⟩:=jC r;have e:=line63;exact len_str (by lia) ⟨.int z.length,H,I.tok _,⟨_,rfl⟩,q⟩
theorem fA:hO X (.type "list") (λxs H Q=>∃p ys,xs=[.ref p]/\(SqL X.K H p ys∨SqT X.K H p ys)/\∀l,H l=none->Q (.ref l) (upd H l (.lst ys))):=by
 intro t s σ H xs F Q I r h;obtain⟨p,ys,rfl,y,q⟩:=h;obtain⟨u,rfl,E⟩:=jC r
 cases E
 have fin:∀(a:List Value),Vals ys a->ys.length<=sizeLine->∀(c:Heap)(j:Nat),(∀b o',s.heap.get? b=some o'->c.get? b=some o')->
   c.get? s.heap.objs.size=some {cls:=.type "list",dict:=none,data:=.seq a.toArray j,slots:=#[]}->EP X t σ Q (.ref s.heap.objs.size) {s with heap:=c}:=λa i m c j kp e=>
  ⟨.ref s.heap.objs.size,_,I.laid (t':=s.toks) kp (kM _) (show ObjOk X.prog X.w _ c _ (.lst ys) from⟨m,a,j,i,e⟩),rfl,q _ (I.hok.fresh (kM _))⟩
 rcases y with y|y
 ·obtain⟨a,i,z,m⟩:=I.list y;have x:=i.length;obtain⟨o,B,A,n,D⟩:=z.isList;exact call_list_seq p (.inl rfl) B A D (λc j kp e=>fin a i m c j kp e) (by simp only[l7]<;>lia)
 ·obtain⟨a,i,z,m⟩:=I.tuple y;have x:=i.length;obtain⟨o,B,A,n,D⟩:=z;exact call_list_seq p (.inr rfl) B A D (λc j kp e=>fin a i m c j kp e) (by simp only[l7]<;>lia)
noncomputable def tyV(K:W.Frag)(T:String)(x:V)(H:Hp):Prop:=match x with
 |.str _=>T="str"
 |.int _=>T="int"
 |.ref p=>(T="list"/\∃xs,SqL K H p xs)∨(T="tuple"/\∃o,K.lookup p=some o/\o.cls=.type "tuple"/\o.dict=none)∨
   (T="dict"/\((∃kvs,H p=some (.dK kvs))∨∃kvs,H p=some (.dT kvs)))∨(T="set"/\∃S n,H p=some (.set S n))
 |_=>False
theorem tyV_is(I:Inv X pins σ H s)(r:RelV x v)(ty:tyV X.K T x H):
  s.TypeIs v T/\∀a,v=.ref a->∃ob,s.heap.get? a=some ob/\ob.dict=none:=by
 cases x with
 |str z=>
  obtain⟨t,rfl⟩:=r
  cases(show T="str"from ty);exact⟨typeIs_str s z t,λ_ e=>nomatch e⟩
 |int i=>
  obtain⟨t,rfl⟩:=r
  cases(show T="int"from ty);exact⟨typeIs_int s i t,λ_ e=>nomatch e⟩
 |ref p=>
  cases r;rcases ty with⟨rfl,xs,hq⟩|⟨rfl,o,hk,hc,b⟩|⟨rfl,hk⟩|⟨rfl,S,n,hk⟩
  ·obtain⟨l,_,j,_⟩:=I.list hq;refine⟨j.isList.typeIs,λa e=>?_⟩
   cases e;obtain⟨o,n,e,c,b,_⟩:=j;exact⟨o,e,b⟩
  ·refine⟨⟨o,I.kIn p o hk,hc⟩,λa e=>?_⟩
   cases e;exact⟨o,I.kIn _ o hk,b⟩
  ·have z:∃o,s.heap.get? p=some o/\o.ExactDict:=by
    rcases hk with⟨kvs,hk⟩|⟨kvs,hk⟩
    ·obtain⟨_,_,_,_,o,_,_,e,ex,_⟩:=I.hok p _ hk;exact⟨o,e,ex⟩
    ·obtain⟨_,_,_,_,o,_,_,e,ex,_⟩:=I.hok p _ hk;exact⟨o,e,ex⟩
   obtain⟨o,e,ex⟩:=z;refine⟨⟨o,e,ex.1⟩,λa h=>?_⟩
   cases h;exact⟨o,e,ex.2.1⟩
  ·obtain⟨o,_,_,_,e,ex,_⟩:=I.hok p _ hk;refine⟨⟨o,e,ex.1⟩,λa h=>?_⟩
   cases h;exact⟨o,e,ex.2.1⟩
 |_=>exact False.elim ty
noncomputable def tBM0(K:W.Frag)(T:String)(r:V->List V->Hp->VK->Prop)(to:TE):TE:=λσ H Q=>to σ H λx H1=>tyV K T x H1/\r x [] H1 Q
noncomputable def tBM(K:W.Frag)(T:String)(r:V->List V->Hp->VK->Prop)(to:TE)(t:TA):TE:=λσ H Q=>to σ H λx H1=>tyV K T x H1/\t σ H1 λxs H2=>r x xs H2 Q
variable{o e:Expr}{es:List Expr}{to:TE}{t:TA}{name:Str}{apos cpos:Pos}{T id:String}{r:V->List V->Hp->VK->Prop}
theorem pe_bm0(pa:PlainAttrs T)(slot:Slot T name id)(hty:typeOf (.builtin id)=pure (.type "method_descriptor"))(hm:MtR X id r)(ho:PE X o to)
  (hbase:attributeBase o name X.env (eval o X.env)=eval o X.env:=by rfl)(hline:(apos.endLine==cpos.line)=true:=by rfl):PE X (.Call (.Attribute o name apos) [] [] cpos) (tBM0 X.K T r to):=by
 intro a s σ H Q I h;refine wpAny_Call_method0_late hbase hline (thn (ho a s σ H _ I h) λv l⟨x,j,b,c,ty,i⟩=>?_);obtain⟨e,m⟩:=tyV_is b c ty;exact⟨T,id,pa,slot,hty,e,m,Calls.callWith_builtin rfl (PySem.evalArgs_none (hm a l σ j x [] v [] Q b c .nil i))⟩
theorem pe_bm(pa:PlainAttrs T)(slot:Slot T name id)(hty:typeOf (.builtin id)=pure (.type "method_descriptor"))(hm:MtR X id r)(ho:PE X o to)(ha:PA X (e::es) t)
  (hbase:attributeBase o name X.env (eval o X.env)=eval o X.env:=by rfl)
  (hfew:((backTo cpos (starEach (e::es) X.env)).all (λx=>!x.1)&&(backToKw cpos (keywordEach [] X.env)).all (λx=>x.1.isSome)
   &&decide ((e::es).length+([]:List Keyword).length+(if([]:List Keyword).isEmpty then 0 else 1)<30))=true:=by rfl)
  (hline:(apos.endLine==cpos.line)=true:=by rfl)(hs:starEach (e::es) X.env=(false,eval e X.env)::starEach es X.env:=by rfl)(hplain:(backTo cpos (starEach es X.env)).any (·.1)=false:=by rfl):
  PE X (.Call (.Attribute o name apos) (e::es) [] cpos) (tBM X.K T r to t):=by
 intro a s σ H Q I h;refine wpAny_Call_method_late hbase hfew hline rfl (thn (ho a s σ H _ I h) λv y⟨x,w,c,i,ty,m⟩=>?_);obtain⟨j,E⟩:=tyV_is c i ty;refine⟨T,id,pa,slot,hty,j,E,?_⟩;have b:=ha cpos a y σ w _ c m;rw[hs]at b⊢;refine Calls.callWith_builtin (by show(false||(backTo cpos (starEach es X.env)).any (·.1))=false;rw[hplain]<;>rfl) (Calls.evalArgs_plain ?_);exact thn b (by rintro l p⟨q,D,A,B,z⟩;exact hm a p σ D x q v l Q A i B z)
end
noncomputable def MtM(X:Cx)(id:String)(r:V->List V->Hp->VK->Prop):Prop:=
 ∀(pins:List (Addr×Obj))(s:Shared)(σ:St)(H:Hp)(x:V)(xs:List V)(v:Value)(us:List Value)(Q:VK),Inv X pins σ H s->RelV x v->Vals xs us->r x xs H Q->
  wpAny (model X.prog X.w) X.A (call (.builtin id) (v::us)) (EP X pins σ Q) X.xe s
theorem Vals.one:∀{x:V}{us:List Value},Vals [x] us->∃u,us=[u]/\RelV x u
 |_,_,.cons r .nil=>⟨_,rfl,r⟩
section
variable{X:Cx}{pins:List (Addr×Obj)}{σ:St}{H:Hp}{s:Shared}{l b:Addr}{xs ys zs:List V}
theorem Inv.lset{its its':List Value}(I:Inv X pins σ H s)(hH:H l=some (.lst xs))
  (e:s.heap.get? l=some {cls:=.type "list",data:=.seq its.toArray n})(hf:f its.toArray=its'.toArray)(hv:Vals ys its')(hz:ys.length<=sizeLine):
  Inv X pins σ (upd H l (.lst ys)) {s with heap:=s.heap.update l (Obj.mapSeq f),toks:=t'}:=by
 have q:=PySem.IsL.update e f;rw[hf]at q;refine I.write (x:=l) (e:=l) (by rw[hH];exact trivial) (.inl rfl) (λc u a b=>(Heap.get?_update_other s.heap (Obj.mapSeq f) (Ne.symm a)).trans b) ⟨_,q⟩ ?_;exact⟨hz,its',_,hv,q⟩
theorem Inv.lnew(I:Inv X pins σ H s)(hv:Vals ys its)(hz:ys.length<=sizeLine):
  Inv X pins σ (upd H s.heap.objs.size (.lst ys)) {s with heap:=s.heap.push {cls:=.type "list",data:=.seq its.toArray},toks:=t'}:=
 I.laid (λ_ _ q=>ly _ q) (kM _) ⟨hz,its,0,hv,lS _ rfl⟩
theorem Inv.fresh(I:Inv X pins σ H s):H s.heap.objs.size=none:=I.hok.fresh (kM _)
theorem Inv.lstM(I:Inv X pins σ H s)(hH:H l=some (.lst xs)):xs.length<=sizeLine/\∃(its:List Value)(n:Nat),Vals xs its/\xs.length=its.length/\s.heap.get? l=some {cls:=.type "list",data:=.seq its.toArray n}:=by
 obtain⟨z,its,n,r,e⟩:=I.hok l _ hH;exact⟨z,its,n,r,r.length,e⟩
end
section
variable{X:Cx}
inductive IrAppend(x:V)(vs:List V)(H:Hp)(Q:VK):Prop
 |mk(l:_)(xs:_)(y:_)(h1:x=.ref l)(h2:vs=[y])(h3:H l=some (.lst xs))(h4:xs.length<sizeLine)(h5:Q .non (upd H l (.lst (xs++[y])))):IrAppend x vs H Q
noncomputable def rAppend:V->List V->Hp->VK->Prop:=λx vs H Q=>IrAppend x vs H Q
theorem fc:MtM X "list.append" rAppend:=by
 intro b s σ H x t v p Q I j i h;obtain⟨l,w,y,rfl,rfl,c,o,q⟩:=h
 cases j;obtain⟨u,rfl,m⟩:=i.one;obtain⟨z,a,n,r,A,e⟩:=I.lstM c;refine call_meets F.slot_list_append ⟨_,e,rfl⟩ F.entry_list_append (F.args_list_append_2 _ _) (PySem.list_append l a.toArray n u (by rw[l7];lia)) ⟨e,?_⟩;refine⟨.non,_,I.lset (its':=a++[u]) c e (by simp) (r.append (.cons m .nil)) ?_,rfl,q⟩;rw[k5,lP]
 lia
inductive IrCat(x:V)(y:V)(H:Hp)(Q:VK):Prop
 |mk(l:_)(b:_)(xs:_)(zs:_)(h1:x=.ref l)(h2:y=.ref b)(h3:H l=some (.lst xs))(h4:H b=some (.lst zs))(h5:xs.length+zs.length<=sizeLine)(h6:∀p,H p=none->Q (.ref p) (upd H p (.lst (xs++zs)))):IrCat x y H Q
noncomputable def rCat:R2:=λx y H Q=>IrCat x y H Q
theorem op_cat:OpR X (binaryOp .Add) rCat:=by
 intro i s σ H x y v u Q I m t h;obtain⟨l,b,J,E,rfl,rfl,p,j,D,q⟩:=h
 cases m
 cases t;obtain⟨z,c,n,r,K,e⟩:=I.lstM p;obtain⟨G,a,F,w,o,A⟩:=I.lstM j;refine PySem.P.add_list e A ?_ (by rw[l7,l7];lia);have B:c.toArray++a.toArray=(c++a).toArray:=by simp
 rw[B];exact⟨.ref _,_,I.lnew (t':=s.toks) (r.append w) (by rw[k5];lia),rfl,q _ I.fresh⟩
end
end L2
namespace Att
open PySem PySem.W PySem.Calls PyProof.Rows
theorem ints_of_wellAll:∀(ns:List Int)(vs:List Value),WellAll P h vs (ns.map WData.int)->IntsAre vs ns:=by
 intro ns
 induction ns with
 |nil=>
  intro vs w;rw[nG]at w
  cases w;exact .nil
 |cons n ns ih=>
  intro vs w;rw[md]at w
  cases w with
  |cons a b=>
   cases a;exact .cons _ _ (ih _ b)
theorem script_of{l:OpenLaw}(hn:l.most=some n)
  (hpre:l.row.toRowW.claim.pre args=true)(hwl:WellAll P h vals args):
  ∃a vs ns,vals=[Value.ref a]/\args=[WData.list (ns.map WData.int)]/\h.get? a=some {cls:=.type "list",data:=.seq vs.toArray}/\IntsAre vs ns/\ns.length<=n:=by
 have i:WShape.hasAll [] args [.list .int]=true:=(pre_splitW hpre).1;have j:l.pre.holds [] {args:=args}=true:=(pre_splitW hpre).2;obtain⟨d,r,rfl,p,s⟩:=hasAllW_cons i;obtain rfl:=hasAllW_nil s;obtain⟨t,rfl,m⟩:=hasW_list p;obtain⟨ns,rfl⟩:=items_int m
 have b:ns.length<=n:=by
  unfold OpenLaw.pre at j
  have e:(WTm.not (.lt (.lit (.int (n:Int))) (.len (.arg 0)))).holds [] {args:=[.list (ns.map .int)]}=true:=by
   have e:=(holds_andW j).1;rw[hn]at e;exact e
  have c:=condW_of e (w_not (w_lt w_lit (w_len_list (w_arg rfl))));rw[kK]at c;refine Nat.le_of_not_lt λq=>?_;have o:(n:Int)<((ns.length:Nat):Int):=by omega
  first
   |(rw[lD o]at c;exact absurd c (by decide))
   |(simp at c;lia)
 cases hwl with
 |cons w1 w2=>
  cases w2
  cases w1 with
  |list ho hall=>exact⟨_,_,ns,rfl,rfl,ho,ints_of_wellAll ns _ hall,b⟩
theorem post_true(l:OpenLaw)(args:List WData):l.row.toRowW.claim.post args (.bool true) args=true:=
 postW_of (r:=l.row.toRowW) (X:=(true==true))
  (show WShape.has [] (.bool true) .bool=true by first|rfl|decide|simp[WShape.has,WShape.arms,WShape.armsAll])
  (show(WTm.eq .res (.lit (.bool true))).value [] {args:=args,res:=some (.bool true),after:=args}=some (.bool (true==true)) from w_eq_bool (w_res rfl) w_lit) rfl
end Att
namespace L2
open PySem PySem.Spec PyProof.Rows
theorem vals_ints:∀{vs:List Value}{ns:List Int},IntsAre vs ns->Vals (ns.map V.int) vs
 |_,_,.nil=>.nil
 |_,_,.cons n t h=>.cons ⟨t,rfl⟩ (vals_ints h)
noncomputable def Only(H:Hp):Prop:=∀b,H b=none∨∃o xs,H b=some (.frz o (.lst xs))
theorem law_call{K:W.Frag}
  (KX:K.In s₁.heap)(hns:s₁.heap.Ns mainGlobals mg)(hb:s₁.heap.Ns builtinsNs mb)(hbb:∀x:Str,x≠"__name__"->mb x=bootBuiltins x)(hlim:s₁.heap.NoLimit)(hsr:s₁.heap.NoSeer)(hg:s₁.gens=#[])
  (ha:s₁.heap.get? a=some {cls:=.type "list",data:=.seq vs.toArray})(hi:IntsAre vs ns)(hl:ns.length<=sizeLine)(hr:Room k callerA)
  (F:∀base:Heap,K.In base->base.Ns mainGlobals mg->FnOk P w K mg base CX k fa fd [x] sp)(hbind:∀(s:Shared)(u:Value),BindsTo s fd ⟨[u],[]⟩ [(x,u)])
  (hsp:∀H:Hp,Only H->SqL K H a (ns.map V.int)->sp [.ref a] H (λv _=>v=.bl true) λ_ _ _=>False)
  (hCX:∀H e s',CX [] H s₁ (λ_ _ _=>False) e s'->False):
  codeAny (model P w) callerA (.call (.ref fa) ⟨[.ref a],[]⟩) (λr s'=>r=.ok (.ret (.bool true))/\OldK s₁.heap s'.heap/\s'.os=s₁.os/\AllBare s'.gens) s₁:=by
 have L:=vals_ints hi;have l:=hi.length
 have j:∀H:Hp,Only H->SqL K H a (ns.map V.int)->HOk P w H s₁.heap->(∀b,H b≠none->b=a)->(H a≠none->K.lookup a=none)->
   codeAny (model P w) callerA (.call (.ref fa) ⟨[.ref a],[]⟩) (λr s'=>r=.ok (.ret (.bool true))/\OldK s₁.heap s'.heap/\s'.os=s₁.os/\AllBare s'.gens) s₁:=by
  intro H M Z A J O;have c:∀{b:Addr}{o:Obj},s₁.heap.get? b=some o->H b=none->(hidT s₁.heap H).get? b=some o:=λe n=>hidT_get e n
  have I:∀{b:Addr}{o:Obj}{y:Array DictEntry}{p:Nat},s₁.heap.get? b=some o->o.data=.dict y p->H b=none:=λ{b o y p}e d=>by
   cases q:H b with
   |none=>rfl
   |some u=>
    have G:b=a:=J b (by rw[q];simp);subst G;rw[ha]at e;cases e;have S:Data.seq vs.toArray _=Data.dict y p:=d
    cases S
  have i:∀{b:Addr}{m:Str->Option Value},s₁.heap.Ns b m->(hidT s₁.heap H).Ns b m:=λ{b m}⟨o,y,p,e,d,r⟩=>⟨o,y,p,c e (I e d),d,r⟩
  have B:K.In (hidT s₁.heap H):=λb o e=>c (KX b o e) (by
   cases q:H b with
   |none=>rfl
   |some u=>
    have G:b=a:=J b (by rw[q];simp);subst G;rw[O (by rw[q];simp)]at e;cases e)
  have X:Mod K mg (hidT s₁.heap H):=⟨B,i hns,⟨mb,i hb,hbb⟩,let⟨mc,h1,h2⟩:=hlim;⟨mc,i h1,h2⟩,⟨let⟨mc,h1,h2⟩:=hsr.statics;⟨mc,i h1,h2⟩,let⟨mc,h1,h2⟩:=hsr.mods;⟨mc,i h1,h2⟩,let⟨mc,h1,h2⟩:=hsr.imp;⟨mc,i h1,h2⟩,let⟨mc,bm,ob,h1,h2,h3,h4,h5⟩:=hsr.main;⟨mc,bm,ob,i h1,h2,c h3 (by
   cases q:H bm with
   |none=>rfl
   |some u=>
    have G:bm=a:=J bm (by rw[q];simp);subst G;rw[ha]at h3;cases h3;injection h4 with z;exact absurd z (by decide)),h4,h5⟩⟩⟩
  have T:Env0 P w K mg (hidT s₁.heap H) callerA [] s₁ H:=⟨rfl,X,λb o e=>of_hidT e,Nat.le_of_eq (hidT_size _ _),trivial,λb hb=>absurd (show b∈([]:List Addr) from hb) (by simp),A,.of_eq hg⟩;refine codeAny_mono ((F _ B (i hns)).run callerA [] s₁ H ⟨[.ref a],[]⟩ [.ref a] [.ref a] _ _ hr T (hbind s₁ (.ref a)) (.cons rfl .nil) (hsp H M Z)) λr s' h=>?_
  cases r with
  |error e=>exact(hCX H e s' h).elim
  |ok fl=>
   cases fl with
   |next=>exact False.elim h
   |brk=>exact False.elim h
   |cont=>exact False.elim h
   |ret u=>
    obtain⟨v,H',U,E,un,t,R,q⟩:=h;have Q:v=.bl true:=q;subst Q;obtain rfl:u=Value.bool true:=R;refine⟨rfl,OldK.of_keep λb o e=>?_,U,E⟩
    cases q:H b with
    |none=>exact un.keep b o e q (by intro z;exact absurd (show b∈([]:List Addr) from z) (by simp)) (by simp)
    |some u=>
     rcases M b with z|⟨ob,xs,z⟩
     ·rw[q]at z;cases z
     ·have z2:=un.frzs b ob _ z;obtain⟨N,_⟩:=A b _ z;obtain⟨Y,_⟩:=t b _ z2;rw[e]at N;cases N;exact Y
 cases hk:K.lookup a with
 |some o=>
  have e:=KX a o hk;rw[ha]at e
  cases e;refine j (λ_=>none) (λ_=>.inl rfl) (.inr ⟨_,vs.toArray,_,hk,rfl,rfl,rfl,by rw[l7,l];exact hl,by simpa using L⟩) (λb u z=>by have D:(none:Option HO)=some u:=z;cases D) (λb z=>absurd rfl z) λz=>absurd rfl z
 |none=>
  refine j (λb=>if b=a then some (.frz {cls:=.type "list",data:=.seq vs.toArray} (.lst (ns.map V.int))) else none) (λb=>?_) (.inl (.inr ⟨{cls:=.type "list",data:=.seq vs.toArray},if_pos rfl⟩)) (λb u z=>?_) (λb z=>?_) λ_=>hk
  ·by_cases hb:b=a
   ·exact .inr ⟨_,_,if_pos hb⟩
   ·exact .inl (if_neg hb)
  ·by_cases hb:b=a
   ·have D:=(if_pos hb).symm.trans z
    cases D;subst hb;exact⟨ha,by rw[kK];exact hl,vs,_,L,ha⟩
   ·have D:=(if_neg hb).symm.trans z
    cases D
  ·by_cases hb:b=a
   ·exact hb
   ·exact absurd (if_neg hb) z
noncomputable def bQ(s:Stmt)(j:Nat):Stmt:=match s with
 |.ClassDef _ _ _ body _ _ _ _ _ _ _=>body.getD j (.Pass ⟨0,0,0,0⟩)
 |_=>.Pass ⟨0,0,0,0⟩
noncomputable def fw(s:Stmt):Arguments:=match s with
 |.FunctionDef _ a _ _ _ _ _ _ _ _=>a
 |_=>{posonlyargs:=[],args:=[],vararg:=none,kwonlyargs:=[],kw_defaults:=[],kwarg:=none,defaults:=[]}
noncomputable def cX(s:Stmt):List Stmt:=match s with
 |.FunctionDef _ _ b _ _ _ _ _ _ _=>b
 |_=>[]
noncomputable def aH(s:Stmt):Scope:=match s with
 |.FunctionDef _ _ _ _ _ _ sc _ _ _=>sc
 |_=>{kind:=.function,names:=[],isGenerator:=false,isCoroutine:=false}
noncomputable abbrev CX0:CXT:=λ_ _ _ _ _ _=>False
noncomputable abbrev E0:XK:=λ_ _ _=>False
theorem aJ:fB CX0 X E0:=λ_ _ _ _ _ _ _ h=>h.elim
structure Fun(K:W.Frag)(x qual:Str)(st:Stmt)(f:Addr)(fd:FuncData):Prop where
 ex:∃(oc:Value)(od:Option Addr)(kV doc pm:Value)(an:Option Addr)(cdv ct:Value)(osl:Array (Option Value)),
  fd=PySem.W.fnOf x qual (fw st) (cX st) (aH st) .none kV doc pm an cdv ct/\K.lookup f=some ⟨oc,od,.func fd,osl⟩/\PySem.W.codeIn K cdv qual=true
 kp:PySem.W.keepIn K (.ref f)=true
section
variable{P:Program}{w:World}{K:W.Frag}{mg:Str->Option Value}{base:Heap}
theorem Fun.okA{st:Stmt}(F:Fun K x qual st f fd)(S:FnScope N ps (aH st))
  (hbody:∀(cdv:Value)(A:Around)(outer:List Env)(s:Shared)(H:Hp)(vs:List V)(Q:VK)(E:XK),Room k (A.deeper (envOfC qual (aH st) s.heap.objs.size f cdv))->sp vs H Q E->
   ∃t,PSs (cxOf CX0 P w K mg base N qual (aH st) f cdv A outer s H E).nox (cX st) t/\t {nx:=λ_ H'=>Q .non H',rt:=Q} (gX N vs) H)(len:∀vs H Q E,sp vs H Q E->vs.length=ps.length:=by intro _ _ _ _ h;cases h;subst_vars;rfl):FnOk P w K mg base CX0 (k+1) f fd ps sp:=by
 obtain⟨l,p,kV,j,o,r,cdv,m,e,rfl,i,a⟩:=F.ex;refine fn_of i a S len λA outer s H vs Q E c b=>?_;obtain⟨t,h,q⟩:=hbody cdv A outer s H vs Q E c b;exact⟨t,h.nox,q⟩
theorem Fun.binds{st:Stmt}(F:Fun K x qual st f fd)
  (h:∀(kV doc pm:Value)(an:Option Addr)(cdv ct:Value)(us:List Value),us.length=ps.length->bindArgs (PySem.W.fnOf x qual (fw st) (cX st) (aH st) .none kV doc pm an cdv ct) ⟨us,[]⟩=pure (ps.zip us)):Binds K fd ps []:=by
 obtain⟨e,i,kV,doc,pm,an,cdv,ct,b,rfl,c,a⟩:=F.ex;exact .all (h kV doc pm an cdv ct)
theorem fun_mk{st:Stmt}{kV doc pm cdv ct:Value}(l:K.lookup f=some ⟨oc,od,.func (PySem.W.fnOf x qual (fw st) (cX st) (aH st) .none kV doc pm an cdv ct),osl⟩)
  (c:PySem.W.codeIn K cdv qual=true)(k:PySem.W.keepIn K (.ref f)=true):Fun K x qual st f (PySem.W.fnOf x qual (fw st) (cX st) (aH st) .none kV doc pm an cdv ct):=⟨⟨oc,od,kV,doc,pm,an,cdv,ct,osl,rfl,l,c⟩,k⟩
end
theorem bS(hr:Room k A):A.units+1<cLine:=lQ (Nat.add_le_add_left (by decide:1<=64) _) hr.units
theorem aU(h:n<=1000):n<sizeLine:=lQ h (by decide)
section
variable{X:Cx}
theorem pv(i:Nat)(hN:X.N[i]?=some x:=by rfl)(hv:Vis X.env.scope x:=by first|exact Or.inl rfl|exact Or.inr (Or.inl rfl)|exact Or.inr (Or.inr rfl))(hd:(x==("__debug__":Str))=false:=by decide)
  (hcd:(x==("__classdict__":Str))=false:=by decide):PE X (.Name x pos) (tVar i):=pe_var hN hv hd hcd
end
theorem iteF{A B:Prop}(h:B):if false=true then A else B:=by
 rw[if_neg lM];exact h
theorem iteT{A B:Prop}(h:A):if true=true then A else B:=by
 rw[if_pos rfl];exact h
theorem iteNS{c A B:Prop}[Decidable c](hc:c)(h:B):if(!decide c)=true then A else B:=by
 rw[lD hc];exact iteF h
noncomputable def Same(H H':Hp):Prop:=∀b o,H b=some o->H' b=some o
theorem Same.refl(H:Hp):Same H H:=λ_ _ h=>h
theorem Same.trans(a:Same H H1)(b:Same H1 H2):Same H H2:=λc o h=>b c o (a c o h)
theorem Same.free(e:Same H H')(h:H' l=Option.none):H l=Option.none:=by
 cases q:H l with
 |none=>rfl
 |some o=>
  rw[e l o q]at h
  cases h
theorem Same.seq{K:W.Frag}(e:Same H H')(h:SqL K H a xs):SqL K H' a xs:=by
 rcases h with(h|⟨o,h⟩)|h
 ·exact .inl (.inl (e _ _ h))
 ·exact .inl (.inr ⟨o,e _ _ h⟩)
 ·exact .inr h
end L2
set_option maxHeartbeats 4000000
set_option exponentiation.threshold 300
namespace L2
open PySem PySem.Spec PyProof.Rows
theorem mulOk_bitsP(h:Builtin.Int.intBits i+Builtin.Int.intBits j<=2^27):IntMulOk i j:=by
 have:Builtin.Int.intTooBig (Builtin.Int.intBits i+Builtin.Int.intBits j)=false:=by
  unfold Builtin.Int.intTooBig bitsLine;exact lz (by lia)
 unfold IntMulOk;rw[this];simp
section
variable{X:Cx}
theorem bits_le(h:k.natAbs<2^n):Builtin.Int.intBits k<=n:=by
 unfold Builtin.Int.intBits
 split
 ·exact kY _
 ·rename_i a
  have b:k.natAbs≠0:=by
   intro z;apply a
   have:k=0:=by lia
   simp[this]
  have:k.natAbs.log2<n:=(Nat.log2_lt b).mpr h
  lia
noncomputable def CMulB(i j:Int):Prop:=i.natAbs<2^16000000/\j.natAbs<2^16000000
theorem CMulB.ok(h:CMulB i j):IntMulOk i j:=by
 exact mulOk_bitsP (by have:=bits_le h.1;have:=bits_le h.2;lia)
theorem cI:OpR X (binaryOp .Mult) (rI CMulB λi j=>.int (i*j)):=opI λ_ _ _ _ _ _ _ a q=>mul_int q a.ok
noncomputable def CDivB(_ j:Int):Prop:=j≠0/\j.natAbs<2^16000000
theorem cN(hr:Room k X.A)(ht:X.prog.given.tree=none)(hs:X.stack=X.env::X.outer:=by rfl)(hg:X.env.scope.isGenerator=false:=by rfl)(hco:X.env.scope.isCoroutine=false:=by rfl):OpR X (binaryOp .FloorDiv) (rI CDivB λi j=>.int (i.fdiv j)):=by
 intro a s σ H x y v u Q I c e h;obtain⟨i,j,rfl,rfl,b,q⟩:=h;obtain⟨t,rfl⟩:=c;obtain⟨l,rfl⟩:=e;exact floordiv_int b.1 ⟨.int _,H,I.tok _,⟨_,rfl⟩,q⟩ (.inr (PylongRoom.of I.nolimit (by have:=hr.dp;show X.A.depth+100<_;lia) (SeerAt.of (I.mod.seer.keeps I.bk) ht (I.ok.frames.trans (by rw[hs])) hg hco I.ok.blt I.ok.glob)))
inductive IrIsI(K:W.Frag)(c:Value)(vs:List V)(H:Hp)(Q:VK):Prop
 |mk(x:_)(y:_)(t:_)(b:_)(h1:vs=[x,y])(h2:(∀u,RelV y u->u=c))(h3:TyOf K H x t)(h4:PySem.W.kitOne K t c=some b)(h5:Q (.bl b) H):IrIsI K c vs H Q
noncomputable def rIsI(K:W.Frag)(c:Value):List V->Hp->VK->Prop:=λvs H Q=>IrIsI K c vs H Q
theorem iA:hO X (.builtin "isinstance") (rIsI X.K c):=by
 intro a s σ H m l Q I r h;obtain⟨x,y,t,b,rfl,i,ty,e,q⟩:=h
 cases r with
 |cons r1 r2=>
  cases r2 with
  |cons r3 r4=>
   cases r4
   have:=i _ r3
   subst this;exact isinst_ok I r1 ty e λj=>⟨.bl b,H,I.tok j,rfl,q⟩
end
section
variable{X:Cx}
noncomputable def dZ(X:Cx)(pins:List (Addr×Obj))(N':List Str)(scope:Scope)(cl:List (Str×Addr))(C:Addr)(fp:List Addr)(s:Shared)(H:Hp):Cx:=
 {X with N:=N',s₀:=s,H₀:=H,env:=compEnvC scope cl C X.env,outer:=X.stack,stack:=X.stack,ex:=fp,fn:=λ_=>false,pn:=X.pn++pins,xe:=λ_ _=>False}
structure Clos(X:Cx)(scope:Scope)(cl:List (Str×Addr)):Prop where
 clos:closureFor scope X.env=pure cl
 sub:∀y c,cl.lookup y=some c->X.env.cells.lookup y=some c
 has:∀y,((relabel scope X.env).names.lookup y=some .cell∨(relabel scope X.env).names.lookup y=some .free)->∃c,cl.lookup y=some c
theorem relabel_none(hf:∀x∈scope.names,x.2≠.free):relabel scope env=scope:=by
 unfold relabel
 have:(scope.names.map λ(n,k)=>if(k==NameKind.free&&env.scope.kind==.function&&env.kindOf n==some .cell)then(n,NameKind.cell)else(n,k))=scope.names:=by
  refine map_eq_self λx a=>?_;obtain⟨n,k⟩:=x;have b:(k==NameKind.free)=false:=by simpa using hf _ a
  simp[b]
 rw[this]
theorem Clos.none(hf:∀x∈scope.names,x.2≠.free)(hc:∀x∈scope.names,x.2≠.cell):Clos X scope []:=by
 refine⟨closureFor_none hf,λy c h=>by simp at h,λy h=>?_⟩;rw[relabel_none hf]at h;rcases h with h|h
 ·exact absurd rfl (hc _ (mS h))
 ·exact absurd rfl (hf _ (mS h))
noncomputable def Reads(X:Cx)(scope:Scope)(rest:List Str)(sel:St->St):Prop:=
 ∀σ,(sel σ).length=rest.length/\∀(i:Nat)(y:Str)(v:V),rest[i]?=some y->(sel σ)[i]?=some (some v)->∃j:Nat,X.N[j]?=some y/\σ[j]?=some (some v)/\X.env.scope.names.lookup y=some .cell/\(relabel scope X.env).names.lookup y=some .cell
end
theorem ifV{A B:Prop}(h1:k=m->A)(h2:k≠m->B):if decide (V.int k=V.int m)=true then A else B:=by
 by_cases h:k=m
 ·rw[if_pos (by rw[h];exact lD rfl)];exact h1 h
 ·rw[if_neg (by rw[lz (by intro z;exact h (V.int.inj z))];decide)];exact h2 h
theorem ifB{c A B:Prop}[Decidable c](h1:c->A)(h2:¬c->B):if decide c=true then A else B:=by
 by_cases h:c
 ·rw[if_pos (lD h)];exact h1 h
 ·rw[if_neg (by rw[lz h];decide)];exact h2 h
theorem kG{A B:Prop}(h:c=true)(a:A):if c=true then A else B:=by
 rw[if_pos h];exact a
theorem gV{A B:Prop}(h:c=false)(b:B):if c=true then A else B:=by
 rw[if_neg (by rw[h];decide)];exact b
theorem neV(h:k≠m):decide (V.int k=V.int m)=false:=lz (by intro z;exact h (V.int.inj z))
section
variable{X:Cx}{st:Stmt}{rest:List Stmt}{t u:TS}
noncomputable def jP(t u:TS):TS:=λD σ H=>∃M:St->Hp->Prop,t {D with nx:=M} σ H/\∀σ' H',M σ' H'->u D σ' H'
theorem bB(h1:PS X st t)(h2:PSs X rest u):PSs X (st::rest) (jP t u):=by
 intro a s σ H D I⟨M,h,e⟩;refine wpAny_execs_cons (thn (h1 a s σ H {D with nx:=M} I h) λf i q=>?_)
 cases f with
 |next=>
  obtain⟨b,c,j,q⟩:=q;exact h2 a i b c D j (e b c q)
 |ret v=>exact q
 |brk=>exact q
 |cont=>exact q
end
theorem dP(M:St->Hp->Prop)(h1:t {D with nx:=M} σ H)(h2:∀U:TS,U=u->∀σ' H',M σ' H'->U D σ' H'):jP t u D σ H:=⟨M,h1,h2 u rfl⟩
theorem iw{p:Prop}(h:p):p:=h
noncomputable def rLen(K:W.Frag):List V->Hp->VK->Prop:=λxs H Q=>∃p ys,xs=[.ref p]/\(SqL K H p ys∨SqT K H p ys)/\Q (.int ys.length) H
theorem bX:hO X (.builtin "len") (rLen X.K):=call_len_seq
end L2
namespace L2
open PySem
noncomputable def Trail(h:Heap)(e:Addr)(vs:Array Value):Option Addr->Prop
 |none=>vs[1]?=some .none
 |some T=>vs[1]?=some (.ref T)/\T≠e/\∃oT ts,h.get? T=some oT/\oT.data=.fields ts/\ts[3]?=some .none
end L2
namespace L2
open PySem PySem.Spec PyProof.Rows
section
variable{X:Cx}{pins:List (Addr×Obj)}{σ:St}{H H':Hp}{s s':Shared}{h':Heap}
noncomputable def Off(X:Cx)(pins:List (Addr×Obj))(b:Addr):Prop:=
 X.s₀.heap.get? b=none/\b≠X.env.locals/\b∉X.fs/\(∀x c,X.env.cells.lookup x=some c->c≠b)/\∀p∈X.pn++pins,p.1≠b
noncomputable def XFly(X:Cx)(pins:List (Addr×Obj))(H:Hp)(h:Heap)(x:Addr)(cls:Value)(d:Option Addr):Prop:=
 H x=none/\Off X pins x/\∃vs sl tr,h.get? x=some ⟨cls,d,.fields vs,sl⟩/\Trail h x vs tr/\∀T,tr=some T->H T=none/\Off X pins T
noncomputable def XP(X:Cx)(pins:List (Addr×Obj))(σ:St)(E:XK)(e:Value)(s':Shared):Prop:=∃x cls d H',e=.ref x/\Inv X pins σ H' s'/\XFly X pins H' s'.heap x cls d/\E cls d H'
noncomputable def Fly(g:Heap)(H:Hp)(h:Heap)(x:Addr)(cls:Value)(d:Option Addr):Prop:=
 g.get? x=none/\H x=none/\∃vs sl tr,h.get? x=some ⟨cls,d,.fields vs,sl⟩/\Trail h x vs tr/\∀T,tr=some T->g.get? T=none/\H T=none
noncomputable def CX1(P:Program)(w:World):CXT:=λouter H s E e s'=>∃x cls d H',e=.ref x/\s'.os=s.os/\AllBare s'.gens/\Un (frs outer) [] H H' s.heap s'.heap/\HOk P w H' s'.heap/\Fly s.heap H' s'.heap x cls d/\E cls d H'
end
abbrev bmV:List Value:=[.type "ValueError",.type "Exception",.type "BaseException",.type "object"]
section
variable{X:Cx}
noncomputable abbrev Cx.hnd(X:Cx)(x:Addr):Cx:={X with A:=X.A.mark (some (.ref x)),calm:=false,xe:=λ_ _=>False}
variable{pins:List (Addr×Obj)}{σ:St}{H:Hp}{s:Shared}{x:Addr}
noncomputable def XO(x C:Addr)(d:Option Addr):HO:=.ext λh=>∃vs sl,h.get? x=some ⟨.ref C,d,.fields vs,sl⟩
noncomputable def XHeld(X:Cx)(pins:List (Addr×Obj))(H:Hp)(h:Heap)(x:Addr)(cls:Value)(d:Option Addr):Prop:=
 H x=none/\Off X pins x/\∃vs sl T,h.get? x=some ⟨cls,d,.fields vs,sl⟩/\Trail h x vs (some T)/\H T=none/\Off X pins T
noncomputable abbrev TH:=Ends->St->Value->Option Addr->Hp->Prop
end
noncomputable def FnB(P:Program)(w:World)(K:W.Frag)(mg:Str->Option Value)(base:Heap)(CX:CXT)(x:Str)(k:Nat)(ps:List Str)(sp:Sp):Prop:=
 ∃f fd,mg x=some (.ref f)/\PySem.W.keepIn K (.ref f)=true/\Binds K fd ps []/\FnOk P w K mg base CX k f fd ps sp
noncomputable def MtB(P:Program)(w:World)(K:W.Frag)(mg:Str->Option Value)(base:Heap)(CX:CXT)(C:Addr)(m:Str)(k:Nat)(ps:List Str)(sp:Sp):Prop:=
 ∃f fd,Meth K C m f/\Binds K fd ps []/\FnOk P w K mg base CX k f fd ps sp
noncomputable def MkB(P:Program)(w:World)(K:W.Frag)(mg:Str->Option Value)(base:Heap)(CX:CXT)(C:Addr)(k:Nat)(ps:List Str)(dvs:List V)(sp:Sp):Prop:=
 ∃f fd ds,Mk K C f/\Binds K fd ps ds/\Vals dvs ds/\FnOk P w K mg base CX k f fd ps sp
section
variable{P:Program}{w:World}{K:W.Frag}{mg:Str->Option Value}{base:Heap}{CX:CXT}{x m:Str}{C:Addr}{k:Nat}{ps:List Str}{sp:Sp}{dvs:List V}
theorem FnB.imp(h:FnB P w K mg base CX x k ps sp)(i:∀vs H Q E,sp' vs H Q E->sp vs H Q E):FnB P w K mg base CX x k ps sp':=by
 obtain⟨f,fd,a,b,c,d⟩:=h;exact⟨f,fd,a,b,c,d.imp i⟩
end
section
variable{X:Cx}{CX:CXT}{k j:Nat}{C:Addr}{ps:List Str}{sp:Sp}{dvs:List V}{E:XK}{x m:Str}{p pos apos:Pos}{e o:Expr}{es:List Expr}{ta:TE}{t:TA}
theorem aR(F:FnB X.prog X.w X.K X.mg X.base CX x k ps sp)(hr:Room j X.A)(hx:fB CX X E)(ha:PA X (e::es) t)(hj:k<=j:=by decide)(hg:Gl X x:=by rfl)(hdb:(x==("__debug__":Str))=false:=by decide)
  (he:starEach (e::es) X.env=(false,eval e X.env)::starEach es X.env:=by rfl)(hpl:(backTo pos (starEach es X.env)).any (·.1)=false:=by rfl):PE X (.Call (.Name x p) (e::es) [] pos) (tCall sp [] E t):=by
 obtain⟨f,h,a,b,c,d⟩:=F;exact pe_call d (hr.mono hj) hg a b c .nil hx ha hdb he hpl
theorem pe_mk(F:MkB X.prog X.w X.K X.mg X.base CX C k ps dvs sp)(hr:Room j X.A)(hm:X.mg x=some (.ref C))(hx:fB CX X E)(ha:PA X (e::es) t)(hj:k+1<=j:=by decide)(hg:Gl X x:=by rfl)(hdb:(x==("__debug__":Str))=false:=by decide)
  (he:starEach (e::es) X.env=(false,eval e X.env)::starEach es X.env:=by rfl)(hpl:(backTo pos (starEach es X.env)).any (·.1)=false:=by rfl):PE X (.Call (.Name x p) (e::es) [] pos) (tMake C sp dvs E t):=by
 obtain⟨f,i,h,a,b,c,d⟩:=F;exact pe_make a d (hr.mono hj) hg hm b c hx ha hdb he hpl
end
noncomputable def FDe(K:W.Frag)(mg:Str->Option Value)(x:Str)(st:Stmt)(ps:List Str):Prop:=∃f fd,Fun K x x st f fd/\mg x=some (.ref f)/\Binds K fd ps []
noncomputable def MDe(K:W.Frag)(C:Addr)(x qual:Str)(st:Stmt)(ps:List Str):Prop:=∃f fd,Fun K x qual st f fd/\Meth K C x f/\Binds K fd ps []
section
variable{P:Program}{w:World}{K:W.Frag}{mg:Str->Option Value}{base:Heap}{x qual:Str}{C:Addr}{st:Stmt}{N ps:List Str}{k:Nat}{sp:Sp}
theorem FDe.okA(F:FDe K mg x st ps)(S:FnScope N ps (aH st))
  (hbody:∀(f:Addr)(cdv:Value)(A:Around)(outer:List Env)(s:Shared)(H:Hp)(vs:List V)(Q:VK)(E:XK),Room k (A.deeper (envOfC x (aH st) s.heap.objs.size f cdv))->sp vs H Q E->
   ∃t,PSs (cxOf CX0 P w K mg base N x (aH st) f cdv A outer s H E).nox (cX st) t/\t {nx:=λ_ H'=>Q .non H',rt:=Q} (gX N vs) H)(len:∀vs H Q E,sp vs H Q E->vs.length=ps.length:=by intro _ _ _ _ h;cases h;subst_vars;rfl):FnB P w K mg base CX0 x (k+1) ps sp:=
 let⟨f,fd,a,b,c⟩:=F
 ⟨f,fd,b,a.kp,c,a.okA S (hbody f) len⟩
theorem MDe.okA(F:MDe K C x qual st ps)(S:FnScope N ps (aH st))
  (hbody:∀(f:Addr)(cdv:Value)(A:Around)(outer:List Env)(s:Shared)(H:Hp)(vs:List V)(Q:VK)(E:XK),Room k (A.deeper (envOfC qual (aH st) s.heap.objs.size f cdv))->sp vs H Q E->
   ∃t,PSs (cxOf CX0 P w K mg base N qual (aH st) f cdv A outer s H E).nox (cX st) t/\t {nx:=λ_ H'=>Q .non H',rt:=Q} (gX N vs) H)(len:∀vs H Q E,sp vs H Q E->vs.length=ps.length:=by intro _ _ _ _ h;cases h;subst_vars;rfl):MtB P w K mg base CX0 C x (k+1) ps sp:=
 let⟨f,fd,a,b,c⟩:=F
 ⟨f,fd,b,c,a.okA S (hbody f) len⟩
end
noncomputable def FunG(K:W.Frag)(x qual:Str)(st:Stmt)(f:Addr)(fd:FuncData):Prop:=∃(oc:Value)(od:Option Addr)(dV kV doc pm:Value)(an:Option Addr)(cdv ct:Value)(osl:Array (Option Value)),
  fd=PySem.W.fnOf x qual (fw st) (cX st) (aH st) dV kV doc pm an cdv ct/\K.lookup f=some ⟨oc,od,.func fd,osl⟩/\PySem.W.codeIn K cdv qual=true
structure FunD(K:W.Frag)(x qual:Str)(st:Stmt)(f:Addr)(fd:FuncData)(ds:Array Value):Prop where
 ex:∃(oc:Value)(od:Option Addr)(T:Addr)(kV doc pm:Value)(an:Option Addr)(cdv ct:Value)(osl:Array (Option Value))(o:Obj)(n:Nat),
  fd=PySem.W.fnOf x qual (fw st) (cX st) (aH st) (.ref T) kV doc pm an cdv ct/\K.lookup f=some ⟨oc,od,.func fd,osl⟩/\PySem.W.codeIn K cdv qual=true/\K.lookup T=some o/\o.data=.seq ds n
section
variable{P:Program}{w:World}{K:W.Frag}{mg:Str->Option Value}{base:Heap}{x qual:Str}{C:Addr}{st:Stmt}{f:Addr}{fd:FuncData}{ds:Array Value}{N ps:List Str}{k:Nat}{sp:Sp}
theorem FunD.gen(F:FunD K x qual st f fd ds):FunG K x qual st f fd:=by
 obtain⟨oc,od,T,kV,doc,pm,an,cdv,ct,osl,_,_,e,l,c,_⟩:=F.ex;exact⟨oc,od,.ref T,kV,doc,pm,an,cdv,ct,osl,e,l,c⟩
theorem Fun.gen(F:Fun K x qual st f fd):FunG K x qual st f fd:=by
 obtain⟨oc,od,kV,doc,pm,an,cdv,ct,osl,e,l,c⟩:=F.ex;exact⟨oc,od,.none,kV,doc,pm,an,cdv,ct,osl,e,l,c⟩
theorem FunD.binds(F:FunD K x qual st f fd ds)
  (h:∀(T:Addr)(kV doc pm:Value)(an:Option Addr)(cdv ct:Value)(us:List Value),(us++es).length=ps.length->∃k,bindArgs (PySem.W.fnOf x qual (fw st) (cX st) (aH st) (.ref T) kV doc pm an cdv ct) ⟨us,[]⟩=seqItems? (.ref T)>>=k/\k (some ds)=pure (ps.zip (us++es))):Binds K fd ps es:=by
 obtain⟨m,q,T,kV,doc,pm,an,cdv,ct,c,o,n,rfl,p,a,lt,e⟩:=F.ex;intro s us j i;obtain⟨k,b,l⟩:=h T kV doc pm an cdv ct us i;exact PySem.W.binds_K j rfl lt e b l
theorem funD_mk{kV doc pm cdv ct:Value}(l:K.lookup f=some ⟨oc,od,.func (PySem.W.fnOf x qual (fw st) (cX st) (aH st) (.ref T) kV doc pm an cdv ct),osl⟩)
  (c:PySem.W.codeIn K cdv qual=true)(t:K.lookup T=some o)(hd:o.data=.seq ds n):FunD K x qual st f (PySem.W.fnOf x qual (fw st) (cX st) (aH st) (.ref T) kV doc pm an cdv ct) ds:=⟨⟨oc,od,T,kV,doc,pm,an,cdv,ct,osl,o,n,rfl,l,c,t,hd⟩⟩
theorem FunG.okA(F:FunG K x qual st f fd)(S:FnScope N ps (aH st))
  (hbody:∀(cdv:Value)(A:Around)(outer:List Env)(s:Shared)(H:Hp)(vs:List V)(Q:VK)(E:XK),Room k (A.deeper (envOfC qual (aH st) s.heap.objs.size f cdv))->sp vs H Q E->
   ∃t,PSs (cxOf CX0 P w K mg base N qual (aH st) f cdv A outer s H E).nox (cX st) t/\t {nx:=λ_ H'=>Q .non H',rt:=Q} (gX N vs) H)(len:∀vs H Q E,sp vs H Q E->vs.length=ps.length:=by intro _ _ _ _ h;cases h;subst_vars;rfl):FnOk P w K mg base CX0 (k+1) f fd ps sp:=by
 obtain⟨l,p,y,kV,j,o,r,cdv,m,e,rfl,i,a⟩:=F;refine fn_of i a S len λA outer s H vs Q E c b=>?_;obtain⟨t,h,q⟩:=hbody cdv A outer s H vs Q E c b;exact⟨t,h.nox,q⟩
noncomputable def IDe(K:W.Frag)(C:Addr)(qual:Str)(st:Stmt)(ps:List Str)(dvss:List (List V)):Prop:=∃f fd,FunG K "__init__" qual st f fd/\Mk K C f/\∀dvs∈dvss,∃es,Vals dvs es/\Binds K fd ps es
theorem IDe.okA(F:IDe K C qual st ps dvss)(S:FnScope N ps (aH st))
  (hbody:∀(f:Addr)(cdv:Value)(A:Around)(outer:List Env)(s:Shared)(H:Hp)(vs:List V)(Q:VK)(E:XK),Room k (A.deeper (envOfC qual (aH st) s.heap.objs.size f cdv))->sp vs H Q E->
   ∃t,PSs (cxOf CX0 P w K mg base N qual (aH st) f cdv A outer s H E).nox (cX st) t/\t {nx:=λ_ H'=>Q .non H',rt:=Q} (gX N vs) H)(len:∀vs H Q E,sp vs H Q E->vs.length=ps.length:=by intro _ _ _ _ h;cases h;subst_vars;rfl):∀dvs∈dvss,MkB P w K mg base CX0 C (k+1) ps dvs sp:=λdvs e=>
 let⟨f,fd,a,b,c⟩:=F
 let⟨es,v,d⟩:=c dvs e
 ⟨f,fd,es,b,d,v,a.okA S (hbody f) len⟩
end
end L2
namespace L2
open PySem PySem.Spec PyProof.Rows PySem.W PySem.Calls
theorem weight_mem:∀(ns:List Int)(n:Int),n∈ns->Builtin.Int.intBits n<=WData.weightAll (ns.map WData.int)
 |m::r,n,h=>by
  rw[md];show Builtin.Int.intBits n<=WData.weight (.int m)+1+WData.weightAll (r.map WData.int);rcases lx.mp h with z|z
  ·subst z
   have:WData.weight (.int n)=Builtin.Int.intBits n:=by
    simp only[WData.weight,Builtin.Int.intBits]
   omega
  ·have:=weight_mem r n z
   omega
theorem bits_of_lay{ns:List Int}(h:WData.layableAll [WData.list (ns.map WData.int)]=true):∀n∈ns,Builtin.Int.intBits n<=2^20:=λn b=>by
 have c:(WData.list (ns.map WData.int)).layable=true:=by
  unfold WData.layableAll at h;simpa using h
 have e:=(layableW_iff.mp c).2.2;have a:=weight_mem ns n b;exact kW a e
theorem walk_ofB{l:PySem.W.OpenLaw}{XP:(Str->Option Value)->Heap->Prop}{K:Params->W.Frag}{CX:World->CXT}{sp:World->Sp}
  (hn:l.most=some n)(hn2:n<=sizeLine)(hdf:d.params.defaults=[])(hi:importsNone q=true)(hr:Room k callerA)
  (hY:∀(w:World)(h:Heap),YP w h->(K w.params).In h)
  (F:∀(w:World)(mg:Str->Option Value)(fa:Addr)(h:Heap),(K w.params).In h->h.Ns mainGlobals mg->mg d.name=some (.ref fa)->
   ∃fd:FuncData,(∀(s:Shared)(u:Value),BindsTo s fd ⟨[u],[]⟩ [(x,u)])/\
    ∀base:Heap,(K w.params).In base->base.Ns mainGlobals mg->FnOk l.prog w (K w.params) mg base (CX w) k fa fd [x] (sp w))
  (hsp:∀(w:World)(H:Hp)(a:Addr)(ns:List Int),ns.length<=n->(∀i∈ns,Builtin.Int.intBits i<=2^20)->Only H->SqL (K w.params) H a (ns.map V.int)->sp w [.ref a] H (λv _=>v=.bl true) λ_ _ _=>False)
  (hCX:∀(w:World)(H:Hp)(s:Shared)(e:Value)(s':Shared),CX w [] H s (λ_ _ _=>False) e s'->False):
  PySem.W.WalkO q loose XP YP l.row.toRowW d [] (λf vs=>PySem.call f vs):=by
 intro w s₀ Z mg mb G Y fa o pm cd aa P kV ho hd J B A hg I D as t y X z O;obtain rfl:P=.none:=Dflts.none B hdf;obtain rfl:kV=.none:=Dflts.noKw B;obtain⟨a,vs,ns,rfl,rfl,p,m,c⟩:=Att.script_of hn t z;have j:=bits_of_lay y;have E:=hY w _ Y;obtain⟨fd,U,L⟩:=F w mg fa _ E G.T.g A;refine enter_call (codeAny_mono (law_call E G.T.g G.T.b G.T.builtins G.T.nolimit (G.T.seer hi) hg p m (kW c hn2) hr L U (λH M S=>hsp w H a ns c j M S) λH e s'=>hCX w H Z e s') λr s' hq=>?_);obtain⟨rfl,h2,Q,N⟩:=hq;exact⟨.inl ⟨.bool true,.bool true,[],rfl,λ_=>rfl,.bool true,Att.post_true l _,λ_=>⟨List.Pairwise.nil,λ_ R=>(nomatch R)⟩⟩,h2,Q,N⟩
section
variable{X:Cx}
theorem gj:OpR X (binaryOp .Mult) (rI IntMulOk λi j=>.int (i*j)):=opI λ_ _ _ _ _ _ _ a q=>mul_int q a
end
theorem mulOk_bits(h:Builtin.Int.intBits i+Builtin.Int.intBits j<=2^27):IntMulOk i j:=by
 have:Builtin.Int.intTooBig (Builtin.Int.intBits i+Builtin.Int.intBits j)=false:=by
  unfold Builtin.Int.intTooBig bitsLine;exact lz (by lia)
 unfold IntMulOk;rw[this];simp
end L2
namespace L2
open PySem PySem.Spec PyProof.Rows
section
variable{prog:Program}{w:World}{A:Around}{E:Value->Shared->Prop}{s:Shared}{K:W.Frag}{x D:Addr}{ox:Obj}{od:Option Obj}{name:Str}
structure ExA(K:W.Frag)(D:Addr):Prop where
 ga:PySem.W.findIn K (.ref D) "__getattribute__"=some (some (.builtin "BaseException.__getattribute__"))
 gh:PySem.W.findIn K (.ref D) "__getattr__"=some none
 be:PySem.W.mroIn K D (.type "BaseException")=some true
 ca:PySem.W.findIn K (.ref D) "__class__"=some (some (.builtin "object.__class__"))
 gs:PySem.W.specialIn K (.builtin "object.__class__") "__get__"=some (some (.builtin "getset_descriptor.__get__"))
 tk:PySem.W.takesIn K (.builtin "object.__class__")=some true
 ob:PySem.W.mroIn K D (.type "object")=some true
 cl:∃cd,PySem.W.clsIn K D=some cd
end
section
variable{X:Cx}
noncomputable def XAt(H:Hp)(x D:Addr):Prop:=H x=some (XO x D none)
noncomputable def eqVs:List V->List V->Bool
 |[],[]=>true
 |x::xs,y::ys=>eqV x y&&eqVs xs ys
 |_,_=>false
theorem eqVs_len:∀{xs ys:List V},xs.length≠ys.length->eqVs xs ys=false
 |[],[],h=>absurd rfl h
 |[],_::_,_=>rfl
 |_::_,[],_=>rfl
 |x::xs,y::ys,h=>by
  show(eqV x y&&eqVs xs ys)=false;rw[eqVs_len (λz=>h (lW (·+1) z)),Bool.and_false]
noncomputable def eqAtJ(xs ys:List V)(j:Nat):Bool:=match xs[j]?,ys[j]? with|some x,some y=>eqV x y|_,_=>true
theorem eqVs_all:∀{xs ys:List V},xs.length=ys.length->(List.range xs.length).all (eqAtJ xs ys)=eqVs xs ys
 |[],[],_=>rfl
 |x::xs,y::ys,h=>by
  rw[lR,List.range_succ_eq_map,List.all_cons,List.all_map];show(eqV x y&&_)=(eqV x y&&eqVs xs ys);rw[<-eqVs_all (Nat.succ.inj h)];rfl
theorem vals_at(r:Vals xs us):∀{j:Nat}{x:V}{u:Value},xs[j]?=some x->us[j]?=some u->RelV x u:=by
 induction r with
 |nil=>intro j x u h;cases h
 |cons r1 _ ih=>
  intro j x u a b
  cases j with
  |zero=>cases a;cases b;exact r1
  |succ j=>exact ih a b
inductive IrEqL(K:W.Frag)(x:V)(y:V)(H:Hp)(Q:VK):Prop
 |mk(p:_)(q:_)(xs:_)(ys:_)(h1:x=.ref p)(h2:y=.ref q)(h3:SqL K H p xs)(h4:SqL K H q ys)(h5:xs.all hJ=true)(h6:ys.all hJ=true)(h7:Q (.bl (eqVs xs ys)) H):IrEqL K x y H Q
end
inductive ItMethD(P:Program)(w:World)(K:W.Frag)(mg:Str->Option Value)(base:Heap)(CX:CXT)(m:Str)(j:Nat)(E:XK)(t:TA)(σ:St)(Q:VK)(x:V)(H1:Hp):Prop
 |mk(a:_)(C:_)(dx:_)(fs:_)(k:_)(ps:_)(sp:_)(h1:x=.ref a)(h2:H1 a=some (.ins C dx fs))(h3:fs.lookup m=none)(h4:Cls K C)(h5:k<=j)(h6:MtB P w K mg base CX C m k ps sp)(h7:t σ H1 λvs H2=>sp ((.ref a::vs)++[]) H2 Q E):ItMethD P w K mg base CX m j E t σ Q x H1
noncomputable def tMethD(P:Program)(w:World)(K:W.Frag)(mg:Str->Option Value)(base:Heap)(CX:CXT)(m:Str)(j:Nat)(E:XK)(ta:TE)(t:TA):TE:=λσ H Q=>ta σ H λx H1=>ItMethD P w K mg base CX m j E t σ Q x H1
structure ClsRd(K:W.Frag)(C:Addr):Prop where
 rd:PySem.W.readsIn K C (.type "type")=true
 sg:PySem.W.specialIn K (.ref C) "__getattribute__"=some (some (.builtin "type.__getattribute__"))
noncomputable def CfB(P:Program)(w:World)(K:W.Frag)(mg:Str->Option Value)(base:Heap)(CX:CXT)(C:Addr)(m:Str)(k:Nat)(ps:List Str)(sp:Sp):Prop:=
 ∃f fd,ClsRd K C/\PySem.W.findCls K (.ref C) (.type "type") m=some (.val (.ref f))/\PySem.W.keepIn K (.ref f)=true/\Binds K fd ps []/\FnOk P w K mg base CX k f fd ps sp
section
variable{X:Cx}{CX:CXT}{k j:Nat}{C:Addr}{ps:List Str}{sp:Sp}{E:XK}{x m:Str}{p pos apos:Pos}{e o:Expr}{es:List Expr}{ta:TE}{t:TA}
theorem eY(he:PE X o ta)(hr:Room j X.A)(hx:fB CX X E)(ha:PA X (e::es) t)
  (hst:starEach (e::es) X.env=(false,eval e X.env)::starEach es X.env:=by rfl)(hpl:(backTo pos (starEach es X.env)).any (·.1)=false:=by rfl)
  (ht:eval (.Call (.Attribute o m apos) (e::es) [] pos) X.env=(do
   let ov<-eval o X.env
   standAt apos.atName
   let(f,first)<-holding [ov] (getMethod ov m pl)
   callWith pos f first (backTo pos (starEach (e::es) X.env)) (backToKw pos (keywordEach [] X.env))):=by rfl):PE X (.Call (.Attribute o m apos) (e::es) [] pos) (tMethD X.prog X.w X.K X.mg X.base CX m j E ta t):=by
 intro b s σ H Q I h;refine PySem.W.methodCall_KW (pl:=pl) (thn (he b s σ H _ I h) λu D⟨x,y,p,A,a,C,M,fs,k,ps,K,ex,J,l,c,z,⟨f,O,w,B,F⟩,q⟩=>?_) ht;subst ex;obtain rfl:u=Value.ref a:=A;refine iK p J c w l ?_;refine PySem.W.callWith_K (first:=[.ref a]) (h₀:=X.base) I.ok.mod.kin w.kp (thn (ha pos b D σ y _ p q) λus L⟨vs,N,i,r,G⟩=>⟨i.kIn,?_⟩) hst hpl;exact run_fn (us:=.ref a::us) (vs:=.ref a::vs) F (hr.mono z) B .nil hx i (.cons rfl r) G
theorem pe_mtD0(he:PE X o ta)(hr:Room j X.A)(hx:fB CX X E)
  (ht:eval (.Call (.Attribute o m apos) [] [] pos) X.env=(do
   let ov<-eval o X.env
   standAt apos.atName
   let(f,first)<-holding [ov] (getMethod ov m pl)
   callWith pos f first (backTo pos (starEach [] X.env)) (backToKw pos (keywordEach [] X.env))):=by rfl):PE X (.Call (.Attribute o m apos) [] [] pos) (tMethD X.prog X.w X.K X.mg X.base CX m j E ta tNil):=by
 intro b s σ H Q I h;refine PySem.W.methodCall_KW (pl:=pl) (thn (he b s σ H _ I h) λu D⟨x,z,e,r,a,C,A,fs,k,ps,y,ex,w,l,c,p,⟨f,B,i,t,F⟩,q⟩=>?_) ht;subst ex;obtain rfl:u=Value.ref a:=r;refine iK e w c i l ?_;exact PySem.W.callWith_K0 (first:=[.ref a]) e.kIn i.kp (run_fn (us:=[.ref a]) (vs:=[.ref a]) F (hr.mono p) t .nil hx e (.cons rfl .nil) q)
theorem pe_cf(F:CfB X.prog X.w X.K X.mg X.base CX C m k ps sp)(hr:Room j X.A)(hm:X.mg x=some (.ref C))(hx:fB CX X E)(ha:PA X (e::es) t)(hj:k<=j:=by decide)(hg:Gl X x:=by rfl)(hdb:(x==("__debug__":Str))=false:=by decide)
  (hst:starEach (e::es) X.env=(false,eval e X.env)::starEach es X.env:=by rfl)(hpl:(backTo pos (starEach es X.env)).any (·.1)=false:=by rfl)
  (ht:eval (.Call (.Attribute (.Name x np) m apos) (e::es) [] pos) X.env=(do
   let ov<-eval (.Name x np) X.env
   standAt apos.atName
   let(f,first)<-holding [ov] (getMethod ov m pl)
   callWith pos f first (backTo pos (starEach (e::es) X.env)) (backToKw pos (keywordEach [] X.env))):=by rfl):PE X (.Call (.Attribute (.Name x np) m apos) (e::es) [] pos) (tCall sp [] E t):=by
 intro a s σ H Q I h;obtain⟨f,w,c,o,q,i,F⟩:=F;refine PySem.W.methodCall_KW (pl:=pl) (kF I hg hm ?_ hdb) ht;refine PySem.W.method_cls I.kIn c.sg (PySem.W.cls_value I.kIn c.rd o rfl ?_);have p:=I.tok (s.toks+1);refine PySem.W.callWith_K (first:=[]) (h₀:=X.base) I.ok.mod.kin q (thn (ha pos a _ σ H _ p h) λus y⟨vs,z,b,r,l⟩=>⟨b.kIn,?_⟩) hst hpl;exact run_fn (us:=us) (vs:=vs) F (hr.mono hj) i .nil hx b r l
noncomputable def rRepS:R2:=λx y H Q=>∃z n,x=.str z/\y=.int n/\z.length=1/\n.natAbs<1000/\Q (.str (Txt.mul z n)) H
theorem op_rep_str:OpR X (binaryOp .Mult) rRepS:=by
 intro b s σ H x y v u Q I i j h;obtain⟨z,n,rfl,rfl,a,l,q⟩:=h;obtain⟨t,rfl⟩:=i;obtain⟨c,rfl⟩:=j;refine SB.mul ⟨?_,λe _=>?_,λe _=>?_⟩ λc m=>⟨.str _,H,I.tok _,⟨_,rfl⟩,q⟩
 ·simp;omega
 ·rw[a]
  have:(1:Int)<=(2^63-1)/n:=Int.le_ediv_of_mul_le (by omega) (by omega)
  omega
 ·rw[a];unfold Builtin.Str.tooLong;simp only[PySem.sizeLine_eq,gt_iff_lt,decide_eq_false_iff_not];omega
end
section
variable{P:Program}{w:World}{K:W.Frag}{mg:Str->Option Value}{base:Heap}{x qual:Str}{C:Addr}{st:Stmt}{N ps:List Str}{k:Nat}{sp:Sp}
noncomputable def CDe(K:W.Frag)(C:Addr)(qual:Str)(st:Stmt)(ps:List Str):Prop:=∃f fd,FunG K "__init__" qual st f fd/\ClsRd K C/\PySem.W.findCls K (.ref C) (.type "type") "__init__"=some (.val (.ref f))/\PySem.W.keepIn K (.ref f)=true/\Binds K fd ps []
theorem CDe.okA(F:CDe K C qual st ps)(S:FnScope N ps (aH st))
  (hbody:∀(f:Addr)(cdv:Value)(A:Around)(outer:List Env)(s:Shared)(H:Hp)(vs:List V)(Q:VK)(E:XK),Room k (A.deeper (envOfC qual (aH st) s.heap.objs.size f cdv))->sp vs H Q E->
   ∃t,PSs (cxOf CX0 P w K mg base N qual (aH st) f cdv A outer s H E).nox (cX st) t/\t {nx:=λ_ H'=>Q .non H',rt:=Q} (gX N vs) H)(len:∀vs H Q E,sp vs H Q E->vs.length=ps.length:=by intro _ _ _ _ h;cases h;subst_vars;rfl):CfB P w K mg base CX0 C "__init__" (k+1) ps sp:=
 let⟨f,fd,a,b,c,d,e⟩:=F
 ⟨f,fd,b,c,d,e,a.okA S (hbody f) len⟩
end
noncomputable def BodyOk(P:Program)(w:World)(K:W.Frag)(mg:Str->Option Value)(base:Heap)(qual:Str)(st:Stmt)(N:List Str)(k:Nat)(sp:Sp):Prop:=
 ∀(f:Addr)(cdv:Value)(A:Around)(outer:List Env)(s:Shared)(H:Hp)(vs:List V)(Q:VK)(E:XK),Room k (A.deeper (envOfC qual (aH st) s.heap.objs.size f cdv))->sp vs H Q E->
  ∃t,PSs (cxOf CX0 P w K mg base N qual (aH st) f cdv A outer s H E).nox (cX st) t/\t {nx:=λ_ H'=>Q .non H',rt:=Q} (gX N vs) H
section
variable{X:Cx}
theorem isPart_of(h:IsPart v i):∃l:Option (Int×Tok),v=partValue l/\l.map (·.1)=i:=by
 cases h with
 |none=>exact⟨none,rfl,rfl⟩
 |int i t=>exact⟨some (i,t),rfl,rfl⟩
noncomputable def rSlS:V->Option Int->Option Int->Hp->VK->Prop:=λx lo hi H Q=>∃z,x=.str z/\z.length<=sizeLine/\Q (.str (Txt.slice z lo hi)) H
theorem sl_str:SlR X rSlS:=by
 intro a s σ H x v vl B w y A Q I j hs c r h;obtain⟨z,rfl,e,q⟩:=h;obtain⟨t,rfl⟩:=j;obtain⟨l,rfl,rfl⟩:=isPart_of c;obtain⟨u,rfl,rfl⟩:=isPart_of r;obtain⟨o,m,i,p⟩:=hs
 exact⟨"str",_,F.slot_str_getitem.lookup,typeIs_str _ _ _,wpAny_getItem_str_slice (l:=l) (u:=u) (st:=none) ⟨o,m,i,p⟩ rfl
  (post_val_or_str ⟨kW (Txt.slice_le z _ _) e,λb k=>⟨.str (Txt.slice z (l.map (·.1)) (u.map (·.1))),H,I.tok k,⟨b,rfl⟩,q⟩⟩)⟩
theorem pe_gi(h:∃tk,X.mg x=some (.int i tk))(hg:Gl X x:=by rfl)(hd:(x==("__debug__":Str))=false:=by decide):PE X (.Name x pos) (tC (.int i)):=by
 obtain⟨tk,h⟩:=h;exact pe_glob hg h ⟨tk,rfl⟩ hd
inductive IrEqN(K:W.Frag)(x:V)(y:V)(H:Hp)(Q:VK):Prop
 |mk(p:_)(q:_)(xs:_)(h1:x=.ref p)(h2:y=.ref q)(h3:SqL K H p xs)(h4:SqL K H q [])(h5:Q (.bl xs.isEmpty) H):IrEqN K x y H Q
noncomputable def rEqN(K:W.Frag):R2:=λx y H Q=>IrEqN K x y H Q
inductive IrNeN(K:W.Frag)(x:V)(y:V)(H:Hp)(Q:VK):Prop
 |mk(p:_)(q:_)(xs:_)(h1:x=.ref p)(h2:y=.ref q)(h3:SqL K H p xs)(h4:SqL K H q [])(h5:Q (.bl (!xs.isEmpty)) H):IrNeN K x y H Q
noncomputable def rNeN(K:W.Frag):R2:=λx y H Q=>IrNeN K x y H Q
theorem jT(hu:X.A.units<cLine):OpR X (compareOp .Eq) (rEqN X.K):=by
 intro c s σ H x y v u Q I l t h;obtain⟨p,q,E,rfl,rfl,i,z,k⟩:=h
 cases l
 cases t;obtain⟨B,r,b,A⟩:=I.list i;obtain⟨D,m,a,o⟩:=I.list z
 cases m
 cases r with
 |nil=>exact SeqAt.eq_listAt (e:=λ_=>true) b.isList a.isList rfl hu (λj w _=>absurd w (by simp)) ⟨.bl true,H,I,rfl,k⟩
 |cons=>exact SeqAt.eq_list_lengthsAt b.isList a.isList (by simp) hu ⟨.bl false,H,I,rfl,k⟩
theorem fX(hu:X.A.units<cLine):OpR X (compareOp .NotEq) (rNeN X.K):=by
 intro c s σ H x y v u Q I l t h;obtain⟨p,q,F,rfl,rfl,i,A,k⟩:=h
 cases l
 cases t;obtain⟨D,r,b,B⟩:=I.list i;obtain⟨E,m,a,o⟩:=I.list A
 cases m
 cases r with
 |nil=>exact SeqAt.RcNeAt.lists (e:=λ_=>true) b.isList a.isList rfl hu (λj z _=>absurd z (by simp)) X.prog X.w X.xe _ ⟨.bl false,H,I,rfl,k⟩
 |cons=>exact SeqAt.RcNeAt.lists_lengths b.isList a.isList (by simp) hu X.prog X.w X.xe _ ⟨.bl true,H,I,rfl,k⟩
theorem kA{K:W.Frag}(hK:X.K=K)(h:PE X o ta)(hb:attributeBase o f X.env (eval o X.env)=eval o X.env):PE X (.Attribute o f pos) (tFld K ta f):=by
 subst hK;exact aY h hb
end
section
variable{κ:Type}[DecidableEq κ]
noncomputable def dF(kvs:List (κ×V))(k:κ):Option V:=(kvs.find? λkv=>decide (kv.1=k)).map (·.2)
noncomputable def cY(kvs:List (κ×V))(k:κ)(v:V):List (κ×V):=
 if(kvs.any λkv=>decide (kv.1=k))=true then kvs.map (λkv=>if kv.1=k then(kv.1,v)else kv)else kvs++[(k,v)]
noncomputable def dropK(kvs:List (κ×V))(k:κ):List (κ×V):=kvs.filter λkv=>decide (kv.1≠k)
theorem dI{k:κ}(e:p.1=k):dF (p::r) k=some p.2:=by simp[dF,List.find?_cons,e]
theorem dJ{k:κ}(e:¬p.1=k):dF (p::r) k=dF r k:=by simp[dF,List.find?_cons,e]
theorem fO(k:κ):∀kvs:List (κ×V),(kvs.any λkv=>decide (kv.1=k))=(dF kvs k).isSome
 |[]=>rfl
 |p::r=>by
  rw[List.any_cons];by_cases e:p.1=k
  ·simp only[dI e,lD e,Bool.true_or,Option.isSome_some]
  ·rw[dJ e,lz e,Bool.false_or];exact fO k r
theorem valV_map(k j:κ)(y:V):∀kvs:List (κ×V),dF (kvs.map λkv=>if kv.1=k then(kv.1,y) else kv) j=(dF kvs j).map λx=>if j=k then y else x
 |[]=>rfl
 |p::r=>by
  have a:=valV_map k j y r;rw[md];by_cases h:p.1=k
  ·rw[if_pos h];by_cases e:p.1=j
   ·rw[dI (p:=(p.1,y)) e,dI e,ml,if_pos (e.symm.trans h)]
   ·rw[dJ (p:=(p.1,y)) e,dJ e,a]
  ·rw[if_neg h];by_cases e:p.1=j
   ·rw[dI (p:=p) e,dI e,ml,if_neg (λz=>h (e.trans z))]
   ·rw[dJ (p:=p) e,dJ e,a]
theorem valV_snoc(k j:κ)(y:V):∀kvs:List (κ×V),dF kvs k=none->dF (kvs++[(k,y)]) j=if j=k then some y else dF kvs j
 |[],_=>by
  by_cases e:k=j
  ·rw[if_pos e.symm];exact dI (p:=(k,y)) e
  ·rw[if_neg (λz=>e z.symm)];exact dJ (p:=(k,y)) e
 |p::r,hn=>by
  rw[List.cons_append];have a:¬p.1=k:=λz=>by rw[dI z]at hn;cases hn
  rw[dJ a]at hn;have b:=valV_snoc k j y r hn;by_cases e:p.1=j
  ·rw[dI e,dI e,if_neg (λz=>a (e.trans z))]
  ·rw[dJ e,dJ e,b]
theorem valV_put(kvs:List (κ×V))(k j:κ)(y:V):dF (cY kvs k y) j=if j=k then some y else dF kvs j:=by
 unfold cY;by_cases a:(kvs.any λc=>decide (c.1=k))=true
 ·rw[if_pos a,valV_map];rw[fO]at a;by_cases e:j=k
  ·obtain⟨x,b⟩:=Option.isSome_iff_exists.mp a;rw[if_pos e,e,b,ml,if_pos rfl]
  ·rw[if_neg e]
   cases dF kvs j with
   |none=>rfl
   |some x=>rw[ml,if_neg e]
 ·rw[if_neg a];refine valV_snoc k j y kvs ?_;rw[fO]at a
  cases q:dF kvs k with
  |none=>rfl
  |some x=>rw[q]at a;exact(a rfl).elim
theorem ji(kvs:List (κ×V))(k:κ)(v:V):(cY kvs k v).length<=kvs.length+1:=by
 unfold cY
 split
 ·rw[kK];lia
 ·rw[k5,lR,List.length_nil];lia
theorem im{k:κ}(v:V)(h:dF kvs k=none):cY kvs k v=kvs++[(k,v)]:=by
 unfold cY;rw[fO,h];exact if_neg (by decide)
theorem RelO.isSome_eq(r:RelO o u):o.isSome=u.isSome:=by
 cases o with
 |none=>cases u with
  |none=>rfl
  |some _=>exact(show False from r).elim
 |some _=>cases u with
  |none=>exact(show False from r).elim
  |some _=>rfl
theorem RelO.getD(r:RelO o u)(rd:RelV d d'):RelV (o.getD d) (u.getD d'):=by
 cases o with
 |none=>cases u with
  |none=>exact rd
  |some _=>exact(show False from r).elim
 |some _=>cases u with
  |none=>exact(show False from r).elim
  |some _=>exact r
theorem KV.val(r:KV kvs vs)(k:κ):RelO (dF kvs k) (valueAt vs k):=by
 unfold KV at r
 induction r with
 |nil=>exact True.intro
 |@cons p q ps qs h t ih=>
  obtain⟨c,i⟩:=h;by_cases e:p.1=k
  ·have a:q.1=k:=c.symm.trans e;have b:valueAt (q::qs) k=some q.2:=by simp[valueAt,List.find?_cons,a]
   rw[dI e,b];exact i
  ·have a:¬q.1=k:=λz=>e (c.trans z);have b:valueAt (q::qs) k=valueAt qs k:=by simp[valueAt,List.find?_cons,a]
   rw[dJ e,b];exact ih
theorem KV.any(r:KV kvs vs)(k:κ):(kvs.any λkv=>decide (kv.1=k))=vs.any λkv=>decide (kv.1=k):=by
 unfold KV at r
 induction r with
 |nil=>rfl
 |cons h t ih=>rw[List.any_cons,List.any_cons,ih,h.1]
theorem KV.repl(r:KV kvs vs)(k:κ)(ry:RelV y u):
  KV (kvs.map λkv=>if kv.1=k then(kv.1,y)else kv) (vs.map λkv=>if kv.1=k then(kv.1,u)else kv):=by
 unfold KV at r⊢
 induction r with
 |nil=>exact .nil
 |@cons p q ps qs h t ih=>
  rw[md,md];refine .cons ?_ ih;obtain⟨a,b⟩:=h;by_cases e:p.1=k
  ·rw[if_pos e,if_pos (a.symm.trans e)];exact⟨a,ry⟩
  ·rw[if_neg e,if_neg (λz=>e (a.trans z))];exact⟨a,b⟩
theorem KV.put(r:KV kvs vs)(k:κ)(ry:RelV y u):KV (cY kvs k y) (stored vs k u):=by
 unfold cY stored;rw[r.any k];by_cases e:(vs.any λa=>decide (a.1=k))=true
 ·rw[if_pos e,if_pos e];exact r.repl k ry
 ·rw[if_neg e,if_neg e];exact Paired.snoc r ⟨rfl,ry⟩
theorem KV.length{vs:List (κ×Value)}(r:KV kvs vs):kvs.length=vs.length:=Paired.length r
end
theorem kV_is(r:RelV (kV k) u):(cJ P w).is k u=true:=by
 cases k with
 |inl i=>obtain⟨t,e⟩:=(show∃t,u=Value.int i t from r);subst e;exact mixKind_int P w i t
 |inr x=>obtain⟨t,e⟩:=(show∃t,u=Value.str x t from r);subst e;exact mixKind_str P w x t
theorem kV_inj(e:kV a=kV b):a=b:=by
 cases a with
 |inl i=>cases b with
  |inl j=>have c:V.int i=V.int j:=e;injection c with c;rw[c]
  |inr y=>exact nomatch(show V.int i=V.str y from e)
 |inr x=>cases b with
  |inl j=>exact nomatch(show V.str x=V.int j from e)
  |inr y=>have c:V.str x=V.str y:=e;injection c with c;rw[c]
theorem items_are:∀{ks:List Key}{us:List Value},Vals (ks.map kV) us->ItemsAre (cJ P w) ks us
 |[],_,r=>by rw[nG]at r;cases r;exact .nil
 |k::ks,_,r=>by
  rw[md]at r
  cases r with
  |cons h t=>exact .cons (kV_is h) (items_are t)
noncomputable abbrev KT(H:Hp):List (List Key×V)->List (List Key×Addr×Value)->Prop:=Paired λp q=>p.1=q.1/\H q.2.1=some (.tup (p.1.map kV))/\RelV p.2 q.2.2
theorem KT.val(r:KT H kvs xs)(k:List Key):RelO (dF kvs k) ((atKey xs k).map (·.2)):=by
 induction r with
 |nil=>exact True.intro
 |@cons p q ps qs h t ih=>
  obtain⟨c,_,i⟩:=h;by_cases e:p.1=k
  ·have a:q.1=k:=c.symm.trans e;have b:atKey (q::qs) k=some q.2:=by simp[atKey,List.find?_cons,a]
   rw[dI e,b];exact i
  ·have a:¬q.1=k:=λz=>e (c.trans z);have b:atKey (q::qs) k=atKey qs k:=by simp[atKey,List.find?_cons,a]
   rw[dJ e,b];exact ih
theorem KT.repl(r:KT H kvs xs)(k:List Key)(ry:RelV y u):
  KT H (kvs.map λkv=>if kv.1=k then(kv.1,y)else kv) (xs.map (putAt k u)):=by
 induction r with
 |nil=>exact .nil
 |@cons p q ps qs h t ih=>
  rw[md,md];refine .cons ?_ ih;obtain⟨a,b,c⟩:=h;unfold putAt;by_cases e:p.1=k
  ·rw[if_pos e,if_pos (a.symm.trans e)];exact⟨a,b,ry⟩
  ·rw[if_neg e,if_neg (λz=>e (a.trans z))];exact⟨a,b,c⟩
theorem KT.put(r:KT H kvs xs)(k:List Key)(hb:H b=some (.tup (k.map kV)))(ry:RelV y u):
  KT H (cY kvs k y) (storedH xs k b u):=by
 have e:(kvs.any λa=>decide (a.1=k))=(atKey xs k).isSome:=by
  rw[fO,(r.val k).isSome_eq,Option.isSome_map]
 unfold cY storedH;rw[e];by_cases q:(atKey xs k).isSome=true
 ·rw[if_pos q,if_pos q];exact r.repl k ry
 ·rw[if_neg q,if_neg q];exact Paired.snoc r ⟨rfl,hb,ry⟩
theorem KT.keeps(r:KT H kvs xs)(ht:∀b ys,H b=some (.tup ys)->H' b=some (.tup ys)):KT H' kvs xs:=
 Paired.mapP r λ_ _ z=>⟨z.1,ht _ _ z.2.1,z.2.2⟩
section
variable{P:Program}{w:World}{H:Hp}{h:Heap}{a:Addr}
theorem rd_of(ok:HOk P w H h)(e:Rd H a u):ObjOk P w H h a u:=e.ok ok
theorem iT(ok:HOk P w H h)(e:Rd H a (.dK kvs)):kvs.length<=sizeLine/\(a==sysModules)=false/\∃vs,KV kvs vs/\h.DictOf (cJ P w) a vs:=
 show ObjOk P w H h a (.dK kvs) from rd_of ok e
theorem dk_of(ok:HOk P w H h)(e:H a=some (.dK kvs)):kvs.length<=sizeLine/\(a==sysModules)=false/\∃vs,KV kvs vs/\h.DictOf (cJ P w) a vs:=iT ok (.inl e)
theorem key_of(ok:HOk P w H h)(e:H a=some (.tup (ks.map kV))):(tupleKind (cJ P w)).is h ks a:=by
 obtain⟨_,b,r,o,i,j,n,c⟩:=(show ObjOk P w H h a (.tup (ks.map kV))from ok a _ e);exact⟨o,b.toArray,n,i,j,c,by simpa using items_are r⟩
theorem dt_rd(ok:HOk P w H h)(e:Rd H a (.dT kvs)):kvs.length<=sizeLine/\(a==sysModules)=false/\
  ∃xs,KT H kvs xs/\h.DictOfH (tupleKind (cJ P w)) a xs:=by
 obtain⟨z,y,xs,r,o,s,i,j,D,c,A,B⟩:=(show ObjOk P w H h a (.dT kvs)from rd_of ok e);refine⟨z,y,xs,r,o,s,i,j,D,c,A,λx b=>?_,B⟩
 have all:∀{l:List (List Key×V)}{m:List (List Key×Addr×Value)},KT H l m->∀x∈m,(tupleKind (cJ P w)).is h x.1 x.2.1:=by
  intro l m q
  induction q with
  |nil=>intro x b;exact nomatch b
  |@cons p q ps qs hq t ih=>
   intro x b;rcases lx.mp b with e|b
   ·subst e;exact key_of ok (by rw[<-hq.1];exact hq.2.1)
   ·exact ih x b
 exact all r x b
theorem dt_of(ok:HOk P w H h)(e:H a=some (.dT kvs)):kvs.length<=sizeLine/\(a==sysModules)=false/\
  ∃xs,KT H kvs xs/\h.DictOfH (tupleKind (cJ P w)) a xs:=dt_rd ok (.inl e)
end
noncomputable def DGet(H:Hp)(a:Addr)(y:V)(r:Option V):Prop:=
 (∃kvs k,Rd H a (.dK kvs)/\y=kV k/\r=dF kvs k)∨∃kvs k b,Rd H a (.dT kvs)/\y=.ref b/\H b=some (.tup (k.map kV))/\r=dF kvs k
noncomputable def DPut(H:Hp)(a:Addr)(y v:V)(H':Hp):Prop:=
 (∃kvs k,H a=some (.dK kvs)/\y=kV k/\kvs.length<sizeLine/\H'=upd H a (.dK (cY kvs k v)))∨
 ∃kvs k b,H a=some (.dT kvs)/\y=.ref b/\H b=some (.tup (k.map kV))/\kvs.length<sizeLine/\H'=upd H a (.dT (cY kvs k v))
theorem DGet.k{k:Key}(e:H a=some (.dK kvs)):DGet H a (kV k) (dF kvs k):=.inl ⟨kvs,k,.inl e,rfl,rfl⟩
theorem DPut.k{k:Key}(e:H a=some (.dK kvs))(hl:kvs.length<sizeLine):DPut H a (kV k) v (upd H a (.dK (cY kvs k v))):=.inl ⟨kvs,k,e,rfl,hl,rfl⟩
section
variable{X:Cx}{pins:List (Addr×Obj)}{σ:St}{H:Hp}{s:Shared}{a:Addr}{y v:V}{u r:Value}{o:Option V}{A:Around}{E:Value->Shared->Prop}
theorem Inv.big(I:Inv X pins σ H s):sysModules<s.heap.objs.size:=by
 have h:mainGlobals<s.heap.objs.size:=(I.mod.glob.keeps I.bk).lt;exact Nat.lt_trans (by decide) h
theorem d_getItem(hu:A.units+1<cLine)(I:Inv X pins σ H s)(g:DGet H a y (some v))(ry:RelV y u)(h:∀w' s',Inv X pins σ H s'->RelV v w'->Q w' s'):
  wpAny (model X.prog X.w) A (getItem (.ref a) u) Q E s:=by
 rcases g with⟨kvs,k,e,ey,l⟩|⟨kvs,k,b,e,ey,eb,l⟩
 ·subst ey;obtain⟨z,x,t,i,j⟩:=iT I.hok e;obtain⟨w',q,c⟩:=RelO.some_of (v:=v) (o:=valueAt t k) (by rw[l];exact i.val k);exact wpAny_getItem_of (kV_is ry) j.mapOf q (h w' _ (I.tok _) c)
 ·subst ey
  cases(show u=Value.ref b from ry);obtain⟨z,x,w,i,j⟩:=dt_rd I.hok e;obtain⟨w',q,c⟩:=RelO.some_of (v:=v) (o:=(atKey w k).map (·.2)) (by rw[l];exact i.val k);obtain⟨p,r,m⟩:=Option.map_eq_some_iff.mp q;refine wpAny_getItem_heap (tupleKind_room_in1 hu) (key_of I.hok eb) j r ?_;rw[m];exact h w' _ (I.tok _) c
theorem d_in(hu:A.units+1<cLine)(I:Inv X pins σ H s)(g:DGet H a y o)(ry:RelV y u)(h:∀s',Inv X pins σ H s'->Q (.bool o.isSome) s'):
  wpAny (model X.prog X.w) A (compareOp .In u (.ref a)) Q E s:=by
 rcases g with⟨kvs,k,e,ey,l⟩|⟨kvs,k,b,e,ey,eb,l⟩
 ·subst ey;obtain⟨z,j,m,c,i⟩:=iT I.hok e;refine wpAny_in_of (kV_is ry) j i.mapOf ?_;rw[<-(c.val k).isSome_eq,<-l];exact h _ (I.tok _)
 ·subst ey
  cases(show u=Value.ref b from ry);obtain⟨z,j,p,c,i⟩:=dt_rd I.hok e;refine wpAny_in_heap (tupleKind_room_in1 hu) (key_of I.hok eb) j i ?_;have q:=(c.val k).isSome_eq;rw[Option.isSome_map]at q;rw[<-q,<-l];exact h _ (I.tok _)
theorem d_notIn(hu:A.units+1<cLine)(I:Inv X pins σ H s)(g:DGet H a y o)(ry:RelV y u)(h:∀s',Inv X pins σ H s'->Q (.bool (!o.isSome)) s'):
  wpAny (model X.prog X.w) A (compareOp .NotIn u (.ref a)) Q E s:=by
 rcases g with⟨kvs,k,e,ey,l⟩|⟨kvs,k,b,e,ey,eb,l⟩
 ·subst ey;obtain⟨z,j,m,c,i⟩:=iT I.hok e;refine wpAny_notIn_of (kV_is ry) j i.mapOf ?_;rw[<-(c.val k).isSome_eq,<-l];exact h _ (I.tok _)
 ·subst ey
  cases(show u=Value.ref b from ry);obtain⟨z,j,p,c,i⟩:=dt_rd I.hok e;refine wpAny_notIn_heap (tupleKind_room_in1 hu) (key_of I.hok eb) j i ?_;have q:=(c.val k).isSome_eq;rw[Option.isSome_map]at q;rw[<-q,<-l];exact h _ (I.tok _)
theorem d_write(I:Inv X pins σ H s)(mu:Mut (H a))(hs:Heap.SameBut a s.heap h')(he:∃q,h'.get? a=some q)(new:ObjOk X.prog X.w (upd H a ob) h' a ob):
  Inv X pins σ (upd H a ob) {s with heap:=h',toks:=t'}:=
 I.write (x:=a) (e:=a) mu (.inl rfl) (λb q c z=>(hs.2 b c).trans z) he new
theorem dk_new(z:kvs.length<=sizeLine)(hd:(a==sysModules)=false)(rel:KV kvs vs)(dd:h'.DictOf (cJ P w) a vs):
  ObjOk P w H' h' a (.dK kvs):=⟨z,hd,vs,rel,dd⟩
theorem d_setItem(hu:A.units+1<cLine)(I:Inv X pins σ H s)(g:DPut H a y v H')(ry:RelV y u)(rv:RelV v r)(h:∀s',Inv X pins σ H' s'->Q () s'):
  wpAny (model X.prog X.w) A (setItem (.ref a) u r) Q E s:=by
 rcases g with⟨kvs,k,e,ey,l,eH⟩|⟨kvs,k,b,e,ey,eb,l,eH⟩
 ·subst ey eH;obtain⟨z,t,J,i,o⟩:=dk_of I.hok e;have p:J.length<=sizeLine:=by rw[<-i.length];exact z
  have w:(cY kvs k v).length<=sizeLine:=by have:=ji kvs k v;lia
  refine wpAny_setItem_pairs (hsz:=p) (kV_is ry) o λB j hs=>h _ ?_;have F:∃q,B.get? a=some q:=let⟨q,_,_,m,_⟩:=j;⟨q,m⟩
  exact d_write I (by rw[e];exact True.intro) hs F (dk_new w t (i.put k rv) j)
 ·subst ey eH
  cases(show u=Value.ref b from ry);obtain⟨z,t,M,i,o⟩:=dt_of I.hok e;have p:M.length<=sizeLine:=by rw[<-Paired.length i];exact z
  have w:(cY kvs k v).length<=sizeLine:=by have:=ji kvs k v;lia
  refine wpAny_setItem_heap (hsz:=p) (tupleKind_room_in1 hu) (key_of I.hok eb) o λB j hs=>h _ ?_;obtain⟨q,G,N,m,O,D,K,_,L⟩:=j;refine d_write I (by rw[e];exact True.intro) hs ⟨q,m⟩ ⟨w,t,_,(i.put k eb rv).keeps λc P x=>?_,q,G,N,m,O,D,K,L⟩;rw[aG (bD x e (λz=>nomatch z))];exact x
end
section
variable{X:Cx}{pins:List (Addr×Obj)}{σ:St}{H:Hp}{s:Shared}{a:Addr}{kvs:List (Key×V)}{k:Key}{u:Value}{A:Around}{E:Value->Shared->Prop}
theorem d_len(I:Inv X pins σ H s)(e:Rd H a (.dK kvs))(h:∀t s',Inv X pins σ H s'->Q (.int kvs.length t) s'):wpAny (model X.prog X.w) A (call (.builtin "len") [.ref a]) Q E s:=by
 obtain⟨z,i,j,b,c⟩:=iT I.hok e;refine call_len_dict i c (by rw[<-b.length];rw[sizeLine_eq]at z;lia) ?_;rw[<-b.length];exact h _ _ (I.tok _)
end
noncomputable def NoSl(i:Expr):Prop:=∀ov iv,subscripted i false ov iv=operate [ov,iv] (getItem ov iv)
theorem subD_of{T id:String}
  (hl:typeLookup (.type T) "__getitem__"=pure (some (.builtin id)))(hs:NoSl slice)
  (h:wpAny (model prog w) A (eval value env) (λo s₁=>wpAny (model prog w) A (eval slice env) (λi s₂=>s₂.TypeIs o T/\wpAny (model prog w) A (getItem o i) Q E s₂) E s₁) E s):
  wpAny (model prog w) A (eval (.Subscript value slice pos) env) Q E s:=by
 refine Subscript_ (nF h (λo s₁ j=>nF j (λi s₂ a=>?_) λ_ _ x=>x) λ_ _ x=>x);obtain⟨c,a⟩:=a;unfold subscriptTail;refine l9 ?_;rw[getitemInPython_of_ne c.not_modules];refine l9 (wpAny_specialOf c hl ?_)
 have fin:wpAny (model prog w) A (subscripted slice false o i) (λr b=>wpAny (model prog w) A (letTemporaryGo value o r>>=λ_=>pure r) Q E b) E s₂:=by
  rw[hs o i];exact wpAny_operating (nF a (λr b e=>l9 (wpAny_letTemporaryGo (mr e))) λ_ _ x=>x)
 first
  |exact mr (l9 fin)
  |exact l9 (mr (l9 fin))
  |exact l9 fin
theorem dict_typeIs(I:Inv X pins σ H s)(g:DGet H a y o):s.TypeIs (.ref a) "dict":=by
 rcases g with⟨kvs,k,e,_,_⟩|⟨kvs,k,b,e,_,_,_⟩
 ·obtain⟨_,_,h,_,c⟩:=iT I.hok e;exact c.typeIs
 ·obtain⟨_,_,i,_,c⟩:=dt_rd I.hok e;exact c.typeIs
inductive ItDGet(Q:VK)(x:V)(y:V)(H2:Hp):Prop
 |mk(a:_)(v:_)(h1:x=.ref a)(h2:DGet H2 a y (some v))(h3:Q v H2):ItDGet Q x y H2
noncomputable def tDGet(td ty:TE):TE:=λσ H Q=>td σ H λx H1=>ty σ H1 λy H2=>ItDGet Q x y H2
noncomputable def tDIn(ty td:TE):TE:=λσ H Q=>ty σ H λy H1=>td σ H1 λx H2=>∃a o,x=.ref a/\DGet H2 a y o/\Q (.bl o.isSome) H2
noncomputable def tDNotIn(ty td:TE):TE:=λσ H Q=>ty σ H λy H1=>td σ H1 λx H2=>∃a o,x=.ref a/\DGet H2 a y o/\Q (.bl (!o.isSome)) H2
noncomputable def sDPut(td ty tv:TE):TS:=λD σ H=>tv σ H λv H1=>td σ H1 λx H2=>ty σ H2 λy H3=>∃a H4,x=.ref a/\DPut H3 a y v H4/\D.nx σ H4
section
variable{X:Cx}{o i e value:Expr}{pos pos' tpos:Pos}{td ty tv:TE}
theorem cQ(hu:X.A.units+1<cLine)(ho:PE X o td)(hi:PE X i ty)(hs:NoSl i):PE X (.Subscript o i pos) (tDGet td ty):=by
 intro b s σ H Q I h;refine subD_of PySem.F.slot_dict_getitem.lookup hs (thn (ho b s σ H _ I h) λu q⟨x,p,w,l,m⟩=>thn (hi b q σ p _ w m) λA D⟨y,z,e,t,a,v,ex,g,r⟩=>?_);subst ex;obtain rfl:u=Value.ref a:=l;exact⟨dict_typeIs e g,d_getItem hu e g t λE B j c=>⟨v,z,j,c,r⟩⟩
theorem pc_din(hu:X.A.units+1<cLine)(hi:PE X i ty)(ho:PE X o td):PC X .In i o (tDIn ty td):=by
 intro b s σ H Q I h;refine thn (hi b s σ H _ I h) λA p⟨y,m,w,t,l⟩=>thn (ho b p σ m _ w l) λu D⟨x,z,r,j,a,e,ex,g,q⟩=>?_;subst ex;obtain rfl:u=Value.ref a:=j;exact d_in hu r g t λB c=>⟨.bl e.isSome,z,c,rfl,q⟩
theorem jt(hu:X.A.units+1<cLine)(hi:PE X i ty)(ho:PE X o td):PC X .NotIn i o (tDNotIn ty td):=by
 intro b s σ H Q I h;refine thn (hi b s σ H _ I h) λA p⟨y,m,w,t,l⟩=>thn (ho b p σ m _ w l) λu D⟨x,z,r,j,a,e,ex,g,q⟩=>?_;subst ex;obtain rfl:u=Value.ref a:=j;exact d_notIn hu r g t λB c=>⟨.bl (!e.isSome),z,c,rfl,q⟩
theorem cW(hu:X.A.units+1<cLine)(ho:PE X o td)(hi:PE X i ty)(hv:PE X value tv)(hs:swapsWith value (some (.Subscript o i pos')) pos.line X.env=pure false):
  PS X (.Assign [.Subscript o i pos'] value pos) (sDPut td ty tv):=by
 intro b s σ H D I h;refine wpAny_Assign_Subscript (thn (hv b s σ H _ I h) λr w⟨v,t,F,e,q⟩=>thn (ho b w σ t _ F q) λu p⟨x,G,A,m,z⟩=>thn (hi b p σ G _ A z) λJ K⟨y,M,c,E,a,j,ex,g,l⟩=>?_) hs;subst ex;obtain rfl:u=Value.ref a:=m;exact d_setItem hu c g E e λL B=>⟨σ,j,B,l⟩
end
theorem dk_empty(h:Heap)(hb:sysModules<h.objs.size):ObjOk P w H (h.push {cls:=.type "dict",data:=.dict #[]}) h.objs.size (.dK []):=
 ⟨kY _,nh.mpr (Ne.symm (lX hb)),[],.nil,Heap.DictOf.new h⟩
noncomputable def tDNewK:TE:=λ_ H Q=>∀p,H p=none->Q (.ref p) (upd H p (.dK []))
section
variable{X:Cx}{pos:Pos}
theorem cU:PE X (.Dict [] [] pos) tDNewK:=λb s σ H Q I h=>
 wpAny_Dict_empty ⟨.ref s.heap.objs.size,_,I.laid (a:=s.heap.objs.size) (o:=.dK []) (t':=s.toks) (λ_ _ q=>ly _ q) (kM _) (dk_empty s.heap I.big),rfl,h _ (I.hok.fresh (kM _))⟩
end
noncomputable def tPairs:List (TE×TE)->St->Hp->(List (V×V)->Hp->Prop)->Prop
 |[],_,H,Q=>Q [] H
 |(tk,tv)::r,σ,H,Q=>tk σ H λx H1=>tv σ H1 λy H2=>tPairs r σ H2 λps H3=>Q ((x,y)::ps) H3
noncomputable abbrev VV:List (V×V)->List (Value×Value)->Prop:=Paired λp q=>RelV p.1 q.1/\RelV p.2 q.2
noncomputable def mergeK(kvs more:List (Key×V)):List (Key×V):=more.foldl (λacc kv=>cY acc kv.1 kv.2) kvs
structure M1(X:Cx)(o:Expr)(m:Str)(apos:Pos)(e:Expr)(cpos:Pos):Prop where
 base:attributeBase o m X.env (eval o X.env)=eval o X.env
 few:((backTo cpos (starEach [e] X.env)).all (λx=>!x.1)&&(backToKw cpos (keywordEach [] X.env)).all (λx=>x.1.isSome)
  &&decide (([e]:List Expr).length+([]:List Keyword).length+(if([]:List Keyword).isEmpty then 0 else 1)<30))=true
 line:(apos.endLine==cpos.line)=true
 trees:backTo cpos (starEach [e] X.env)=[(false,eval e X.env)]
structure M2(X:Cx)(o:Expr)(m:Str)(apos:Pos)(e f:Expr)(cpos:Pos):Prop where
 base:attributeBase o m X.env (eval o X.env)=eval o X.env
 few:((backTo cpos (starEach [e,f] X.env)).all (λx=>!x.1)&&(backToKw cpos (keywordEach [] X.env)).all (λx=>x.1.isSome)
  &&decide (([e,f]:List Expr).length+([]:List Keyword).length+(if([]:List Keyword).isEmpty then 0 else 1)<30))=true
 line:(apos.endLine==cpos.line)=true
 trees:backTo cpos (starEach [e,f] X.env)=[(false,eval e X.env),(false,eval f X.env)]
noncomputable def IsD(H:Hp)(a:Addr):Prop:=(∃kvs,Rd H a (.dK kvs))∨∃kvs,Rd H a (.dT kvs)
theorem isD_at(I:Inv X pins σ H s)(d:IsD H a):
  s.TypeIs (.ref a) "dict"/\(∀b,Value.ref a=.ref b->∃ob,s.heap.get? b=some ob/\ob.dict=none)/\(a==sysModules)=false:=by
 rcases d with⟨kvs,e⟩|⟨kvs,e⟩
 ·obtain⟨_,i,l,_,c⟩:=iT I.hok e;refine⟨c.typeIs,λb q=>?_,i⟩
  cases q;obtain⟨ob,_,_,h,j,_⟩:=c;exact⟨ob,h,j.2.1⟩
 ·obtain⟨_,i,m,_,c⟩:=dt_rd I.hok e;refine⟨c.typeIs,λb q=>?_,i⟩
  cases q;obtain⟨ob,_,_,h,j,_⟩:=c;exact⟨ob,h,j.2.1⟩
section
variable{X:Cx}{pins:List (Addr×Obj)}{σ:St}{H:Hp}{s:Shared}{a:Addr}{y d:V}{u r:Value}{o:Option V}{A:Around}{E:Value->Shared->Prop}
theorem d_get2(hu:A.units+1<cLine)(I:Inv X pins σ H s)(g:DGet H a y o)(ry:RelV y u)(rd:RelV d r)(h:∀w' s',Inv X pins σ H s'->RelV (o.getD d) w'->Q w' s'):
  wpAny (model X.prog X.w) A (call (.builtin "dict.get") [.ref a,u,r]) Q E s:=by
 rcases g with⟨kvs,k,e,ey,l⟩|⟨kvs,k,b,e,ey,eb,l⟩
 ·subst ey;obtain⟨z,j,p,c,i⟩:=iT I.hok e;refine call_meetsIn PySem.F.slot_dict_get i.typeIs PySem.F.entry_dict_get (PySem.F.args_dict_get_3 _ _ _) (meets_dict_get_default (cJ X.prog X.w) a (kV_is ry) j r) ⟨_,i.mapOf,h _ _ (I.tok _) ?_⟩;rw[l];exact(c.val k).getD rd
 ·subst ey
  cases(show u=Value.ref b from ry);obtain⟨z,j,m,c,i⟩:=dt_rd I.hok e;refine call_meetsIn PySem.F.slot_dict_get i.typeIs PySem.F.entry_dict_get (PySem.F.args_dict_get_3 _ _ _) (meetsH_dict_get_default (tupleKind (cJ X.prog X.w)) a b j r) ⟨tupleKind_room_in1 hu,k,m,key_of I.hok eb,i,h _ _ (I.tok _) ?_⟩;rw[l];exact(c.val k).getD rd
end
noncomputable def tDGet2(td ty tx:TE):TE:=λσ H Q=>td σ H λx H1=>∃a,x=.ref a/\IsD H1 a/\ty σ H1 λy H2=>tx σ H2 λz H3=>∃o,DGet H3 a y o/\Q (o.getD z) H3
section
variable{X:Cx}{o e f:Expr}{apos cpos:Pos}{td ty tx:TE}
theorem pe_dget2(hu:X.A.units+1<cLine)(ho:PE X o td)(he:PE X e ty)(hf:PE X f tx)(m:M2 X o "get" apos e f cpos):PE X (.Call (.Attribute o "get" apos) [e,f] [] cpos) (tDGet2 td ty tx):=by
 intro b s σ H Q I h;refine wpAny_Call_method m.base m.few m.line PySem.F.plainAttrs_dict PySem.F.slot_dict_get PySem.F.type_dict_get (thn (ho b s σ H _ I h) λu K⟨x,p,i,G,a,ex,d,l⟩=>?_);subst ex;obtain rfl:u=Value.ref a:=G;obtain⟨A,J,_⟩:=isD_at i d;refine⟨A,J,?_⟩;rw[m.trees]
 refine Calls.callWith_builtin rfl (Calls.evalArgs_plain (Calls.spliced_cons (thn (he b K σ p _ i l) λS q⟨y,B,r,w,L⟩=>
  Calls.spliced_cons (thn (hf b q σ B _ r L) λR T⟨z,D,E,M,N,g,j⟩=>Calls.spliced_nil ?_))))
 exact d_get2 hu E g w M λP O t c=>⟨_,D,t,c,j⟩
end
section
variable{X:Cx}{pins:List (Addr×Obj)}{σ:St}{H:Hp}{s:Shared}{a:Addr}{kvs:List (Key×V)}{A:Around}{E:Value->Shared->Prop}
theorem d_copyOf(I:Inv X pins σ H s)(e:Rd H a (.dK kvs))(h:∀p s',H p=none->Inv X pins σ (upd H p (.dK kvs)) s'->Q (.ref p) s'):wpAny (model X.prog X.w) A (call (.type "dict") [.ref a]) Q E s:=by
 obtain⟨z,m,r,c,l⟩:=iT I.hok e;refine kt_call_dict m l (by rw[<-c.length];exact z) λt i hs=>?_;refine h _ _ (I.hok.fresh (kM _)) (I.laid (a:=s.heap.objs.size) (o:=.dK kvs) (t':=s.toks) (λb q j=>?_) (kM _) (dk_new z (nh.mpr (Ne.symm (lX I.big))) c i));exact(hs.2 b (lX (lC j))).trans (ly _ j)
end
section
variable{X:Cx}
theorem call_lenD:hO X (.builtin "len") (λxs H Q=>∃a kvs,xs=[V.ref a]/\H a=some (.dK kvs)/\Q (.int kvs.length) H):=by
 intro b s σ H xs j Q I r h;obtain⟨a,kvs,rfl,c,q⟩:=h;obtain⟨u,rfl,i⟩:=jC r
 cases i;exact d_len I (.inl c) λt l e=>⟨.int kvs.length,H,e,⟨t,rfl⟩,q⟩
end
section
variable{κ:Type}[DecidableEq κ]
theorem valV_not{k:κ}(h:dF kvs k=none):¬k∈kvs.map (·.1):=by
 intro m;obtain⟨p,b,e⟩:=kQ.mp m;have q:(kvs.any λa=>decide (a.1=k))=true:=List.any_eq_true.mpr ⟨p,b,lD e⟩;rw[fO,h]at q;exact absurd q (by simp)
theorem valV_in{k:κ}(h:dF kvs k=some v):k∈kvs.map (·.1):=by
 have q:(kvs.any λa=>decide (a.1=k))=true:=by
  rw[fO,h]
  all_goals rfl
 obtain⟨p,b,e⟩:=List.any_eq_true.mp q;exact kQ.mpr ⟨p,b,of_decide_eq_true e⟩
theorem dropK_pos{k:κ}(e:p.1=k):dropK (p::r) k=dropK r k:=by
 unfold dropK;rw[List.filter_cons,if_neg (by simp[e])]
theorem dropK_neg{k:κ}(e:¬p.1=k):dropK (p::r) k=p::dropK r k:=by
 unfold dropK;rw[List.filter_cons,if_pos (by simp[e])]
theorem dropK_no:∀{kvs:List (κ×V)}{k:κ},¬k∈kvs.map (·.1)->dropK kvs k=kvs
 |[],_,_=>rfl
 |p::r,k,h=>by
  have b:¬k∈r.map (·.1):=λm=>by
   obtain⟨q,a,e⟩:=kQ.mp m;exact h (kQ.mpr ⟨q,lx.mpr (Or.inr a),e⟩)
  rw[dropK_neg λe=>h (kQ.mpr ⟨p,lx.mpr (Or.inl rfl),e⟩),dropK_no b]
theorem dropK_mem{p:κ×V}(h:p∈dropK kvs k):p∈kvs:=(nH.mp h).1
end
section
variable{X:Cx}
noncomputable def PTs(X:Cx)(ifs:List Expr)(t:TT):Prop:=
 ∀(pins:List (Addr×Obj))(s:Shared)(σ:St)(H:Hp)(Q:Bool->Hp->Prop),Inv X pins σ H s->t σ H Q->
  wpAny (model X.prog X.w) X.A (forIn ifs true λc r=>if r=true then do let ok<-isTrue c X.env (eval c X.env);pure (ForInStep.yield ok) else pure (ForInStep.yield r)) (TP X pins σ Q) X.xe s
noncomputable def tYes:TT:=λ_ H Q=>Q true H
theorem dQ:PTs X [] tYes:=λa s σ H Q I h=>wpAny_tests_nil ⟨H,I,h⟩
theorem pts_one(h:PT X c t):PTs X [c] t:=λa s σ H Q I q=>wpAny_tests_one (h a s σ H Q I q)
noncomputable def ClSub(X:Cx):List (Str×Addr)->Prop
 |[]=>True
 |p::r=>X.env.cells.lookup p.1=some p.2/\ClSub X r
theorem ClSub.at:∀{cl:List (Str×Addr)},ClSub X cl->∀y c,cl.lookup y=some c->X.env.cells.lookup y=some c
 |[],_,y,c,e=>by simp at e
 |(z,d)::r,h,y,c,e=>by
  by_cases q:y=z
  ·subst q;simp at e;subst e;exact h.1
  ·rw[lK,nh.mpr q]at e;exact ClSub.at h.2 y c e
theorem lookup_has{cl:List (Str×Addr)}:y∈cl.map (·.1)->∃c,cl.lookup y=some c:=by
 induction cl with
 |nil=>intro h;simp at h
 |cons p r ih=>
  intro h;by_cases q:y=p.1
  ·subst q;exact⟨p.2,by cases p;simp⟩
  ·obtain⟨c,e⟩:=ih (by
    rcases lx.mp h with z|z
    ·exact absurd z q
    ·exact z)
   exact⟨c,by rw[lK,nh.mpr q];exact e⟩
theorem jK(h:(z,k)∈(relabel scope env).names)(hk:k=.cell∨k=.free):(z,NameKind.cell)∈scope.names∨(z,NameKind.free)∈scope.names:=by
 unfold relabel at h;obtain⟨⟨n,b⟩,a,e⟩:=kQ.mp h;dsimp only at e
 split at e
 ·rename_i c
  cases e
  have:b=.free:=by
   have:=(Bool.and_eq_true_iff.mp (Bool.and_eq_true_iff.mp c).1).1
   simpa using this
  subst this;exact .inr a
 ·cases e;rcases hk with rfl|rfl
  ·exact .inl a
  ·exact .inr a
theorem Clos.many(h:closureFor scope X.env=pure cl)(hs:ClSub X cl)(hy:cl.map (·.1)=ys)
  (hr:∀p∈scope.names,(p.2=.cell∨p.2=.free)->p.1∈ys):Clos X scope cl:=by
 refine⟨h,λy c e=>hs.at y c e,λy a=>lookup_has ?_⟩;rw[hy];rcases a with q|q
 ·rcases jK (mS q) (.inl rfl)with m|m
  ·exact hr _ m (.inl rfl)
  ·exact hr _ m (.inr rfl)
 ·rcases jK (mS q) (.inr rfl)with m|m
  ·exact hr _ m (.inl rfl)
  ·exact hr _ m (.inr rfl)
noncomputable def RdAll(X:Cx)(scope:Scope):List Str->List Nat->Prop
 |[],[]=>True
 |y::ys,j::js=>(X.N[j]?=some y/\X.env.scope.names.lookup y=some .cell/\(relabel scope X.env).names.lookup y=some .cell)/\RdAll X scope ys js
 |_,_=>False
theorem RdAll.len:∀{ys:List Str}{js:List Nat},RdAll X scope ys js->js.length=ys.length
 |[],[],_=>rfl
 |y::ys,j::js,h=>by rw[lR,lR,RdAll.len h.2]
theorem RdAll.at:∀{ys:List Str}{js:List Nat},RdAll X scope ys js->∀(i:Nat)(y:Str)(j:Nat),ys[i]?=some y->js[i]?=some j->X.N[j]?=some y/\X.env.scope.names.lookup y=some .cell/\(relabel scope X.env).names.lookup y=some .cell
 |[],[],_,i,y,j,e,_=>by simp at e
 |y'::ys,j'::js,h,0,y,j,e1,e2=>by
  simp at e1 e2;subst e1 e2;exact h.1
 |y'::ys,j'::js,h,i+1,y,j,e1,e2=>RdAll.at h.2 i y j (by simpa using e1) (by simpa using e2)
theorem Reads.many(h:RdAll X scope ys js):Reads X scope ys (λσ=>js.map λj=>σ.getD j Option.none):=by
 refineλσ=>⟨by rw[kK,h.len],λi y v l b=>?_⟩;rw[kP]at b
 cases q:js[i]? with
 |none=>rw[q]at b;cases b
 |some j=>
  rw[q]at b;obtain⟨e,m,c⟩:=h.at i y j l q;refine⟨j,e,?_,m,c⟩;have a:σ.getD j Option.none=some v:=lJ b;rw[List.getD_eq_getElem?_getD]at a
  cases z:σ[j]? with
  |none=>rw[z]at a;cases a
  |some o=>rw[z]at a;exact lW some a
noncomputable def tCompG(k:Nat)(wi:TI)(g:TG)(tc:TT)(te:TE)(sel:St->St):TE:=λσ H Q=>wi σ H λJ H1=>∀l,H1 l=none->∃W:Nat->Nat->Hp->Prop,(∃m,W 0 m (upd H1 l (.lst [])))/\∀i m H,W i m H->
 (J.stop i H/\Q (.ref l) H)∨(J.go i H/\∀x H',J.yld i H x H'->∀zs:St,zs.length=k->g x (zs++sel σ) H' λσ2 H2=>(∃zs':St,zs'.length=k/\σ2=zs'++sel σ)/\tc σ2 H2 λb H3=>if b=true then te σ2 H3 λy H4=>∃ys,H4 l=some (.lst ys)/\ys.length<sizeLine/\∃m',m'<m/\W (i+1) m' (upd H4 l (.lst (ys++[y])))else∃m',m'<m/\W (i+1) m' H3)
theorem iW{prog:Program}{w:World}{A:Around}{R:Result->Shared->Prop}{s:Shared}{elt target iter:Expr}{ifs:List Expr}{scope:Scope}{pos:Pos}{it acc:Value}{env:Env}(I:Nat->Shared->Prop)
  (turn:∀n s,I n s->wpAny (model prog w) A (pyNext it) (λr s₁=>match r with
   |none=>R (.ok .next) s₁
   |some v=>wpAny (model prog w) A (letOwnedTupleGo target it v) (λ_ s₁'=>wpAny (model prog w) A (assign target env v) (λ_ s₂=>
     wpAny (model prog w) A (forIn ifs true λc r=>if r=true then do let ok<-isTrue c env (eval c env);pure (ForInStep.yield ok)else pure (ForInStep.yield r)) (λok s₃=>if ok=true then wpAny (model prog w) A (eval elt env) (λx s₄=>
      wpAny (model prog w) A (call (.builtin "list.append") [acc,x]) (λ_ s₅=>∃m,m<n/\I m s₅) (λ_ _=>False) s₄) (λ_ _=>False) s₃ else∃m,m<n/\I m s₃) (λ_ _=>False) s₂) (λ_ _=>False) s₁') (λ_ _=>False) s₁) (λ_ _=>False) s)
  (n:Nat)(h:I n s):
  codeAny (model prog w) A (.compLoop (.ListComp elt [⟨target,iter,ifs,0⟩] scope pos) 0 it acc env) R s:=by
 refine codeAny_loop rfl I (λn s j=>?_) n h;show wpAny _ _ ((compTurn (.ListComp elt [⟨target,iter,ifs,0⟩] scope pos) 0 it acc env).onRaise (λx=>do noteFrame x env;theTreesLotGoes x)) _ _ s;refine wpAny_noted ?_;rw[compTurn_list];refine l9 (wpAny_standAt (l9 (nF (turn n s j) (λr s₁ e=>?_) λ_ _ a=>a.elim)))
 cases r with
 |none=>exact mr e
 |some v=>
  refine l9 (nF e (λ_ s₁' b=>?_) λ_ _ a=>a.elim);refine l9 (nF b (λ_ s₂ l=>l9 (nF l (λok s₃ i=>?_) λ_ _ a=>a.elim)) λ_ _ a=>a.elim)
  cases ok with
  |false=>exact mr ⟨rfl,i⟩
  |true=>exact l9 (l9 (nF i (λx s₄ o=>l9 (nF o (λ_ s₅ p=>mr (mr ⟨rfl,p⟩)) λ_ _ a=>a.elim)) λ_ _ a=>a.elim))
theorem comp_blockG{rest:List Str}{Q:VK}
  {RR:Value->Addr->Result->Shared->Prop}
  (hcalm:X.calm=true)(hkind:scope.kind=.function)(hcell:∀z∈scope.names,z.2≠.cell)(hc:Clos X scope cl)(hr:Reads X scope rest sel)
  (hg:∀(C:Addr)(s:Shared)(H:Hp),PG (dZ X pins (xs++rest) scope cl C fp s H) tg g)(ht:∀(C:Addr)(s:Shared)(H:Hp),PTs (dZ X pins (xs++rest) scope cl C fp s H) ifs tc)
  (he:∀(C:Addr)(s:Shared)(H:Hp),PE (dZ X pins (xs++rest) scope cl C fp s H) elt te)
  (I:Inv X pins σ H s)(T:Turn X.prog X.w X.K tg J fp it tn)(t0:tn 0 s.heap)(hf:∀b∈fp,FpOk X pins H b)
  (h:∀l,H l=none->∃W:Nat->Nat->Hp->Prop,(∃m,W 0 m (upd H l (.lst [])))/\∀i m H,W i m H->
   (J.stop i H/\Q (.ref l) H)∨(J.go i H/\∀x H',J.yld i H x H'->∀zs:St,zs.length=xs.length->g x (zs++sel σ) H' λσ2 H2=>(∃zs':St,zs'.length=xs.length/\σ2=zs'++sel σ)/\tc σ2 H2 λb H3=>if b=true then te σ2 H3 λy H4=>∃ys,H4 l=some (.lst ys)/\ys.length<sizeLine/\∃m',m'<m/\W (i+1) m' (upd H4 l (.lst (ys++[y]))) else∃m',m'<m/\W (i+1) m' H3))
  (hRR:∀(D C:Addr)(H':Hp)(s':Shared),Inv X pins σ H' s'->FpOk X pins H' C->(∃m,s'.heap.Ns C m)->Q (.ref D) H'->RR (.ref D) C (.ok .next) s'):
  wpAny (model X.prog X.w) X.A (newList []) (λacc s₃=>wpAny (model X.prog X.w) X.A (newFunctionEnv scope X.env.globals cl [] X.env.qual none .none (some X.env)) (λcenv s₄=>
   codeAny (model X.prog X.w) X.A (.compStart (.ListComp elt [⟨tg,iter,ifs,0⟩] scope pos) 0 (.ref it) acc {cenv with scope:=relabel scope X.env}) (RR acc cenv.locals) s₄) E s₃) E s:=by
 have hD:H s.heap.objs.size=none:=I.hok.fresh (kM _);obtain⟨W,⟨m0,w0⟩,Y⟩:=h _ hD;refine wpAny_newObj_type ?_
 have F:Inv X pins σ (upd H s.heap.objs.size (.lst [])) {s with heap:=s.heap.push {cls:=.type "list",dict:=none,data:=.seq ([]:List Value).toArray}}:=
  I.laid (t':=s.toks) (λb u e=>ly _ e) (kM _) ⟨kY _,[],0,.nil,lS _ rfl⟩
 generalize ad:({s with heap:=s.heap.push {cls:=.type "list",dict:=none,data:=.seq ([]:List Value).toArray}}:Shared)=t at F⊢;have M:∀b o,s.heap.get? b=some o->t.heap.get? b=some o:=λb o e=>by rw[<-ad];exact ly _ e
 refine wpAny_newFunctionEnv hcell (by intro y hy;simp at hy) (λh1 ab Z=>?_) hkind;have B:∀b o,t.heap.get? b=some o->h1.get? b=some o:=λb o e=>Z.extBut b o (lX (lC e)) (ly _ e)
 have fD:∀b∈fp,b≠s.heap.objs.size:=λb a z=>by
  obtain⟨o,e,_⟩:=T.obj 0 _ t0 b a;exact absurd (lC e) (by rw[z];exact mF _)
 have af:∀b∈fp,FpOk X pins (upd H s.heap.objs.size (.lst [])) b:=λb a=>⟨by rw[aG (fD b a)];exact(hf b a).1,(hf b a).2⟩
 have fC:∀b∈fp,b≠t.heap.objs.size:=λb a z=>by
  obtain⟨o,e,_⟩:=T.obj 0 _ t0 b a;exact absurd (lC (M b o e)) (by rw[z];exact mF _)
 have cC:∀y c,cl.lookup y=some c->c≠t.heap.objs.size:=λy c e z=>by
  obtain⟨v,q⟩:=F.cell y c (hc.sub y c e);exact absurd q.lt (by rw[z];exact mF _)
 have N:∀b∈fp,b∉frs X.stack:=λb a z=>(lx.mp (F.stkSub b z)).elim (hf b a).2.1 (hf b a).2.2.1
 have ok:(dZ X pins (xs++rest) scope cl t.heap.objs.size fp t (upd H s.heap.objs.size (.lst []))).Ok:=by
  refine⟨I.ok.mod,hkind,I.ok.glob,I.ok.blt,kM _,λy z c S K=>I.ok.inj y z c (hc.sub y c S) (hc.sub z c K),λy hy=>hc.has y hy,λy c e=>(nomatch e),I.ok.hd,I.ok.frames,.inl rfl,λb a=>⟨fC b a,λy c e=>(hf b a).2.2.2.2.1 y c (hc.sub y c e)⟩,
   F.bs,kW I.ok.bsz F.sz,λb o e a=>?_,N,F.stack,F.stkFree⟩
  rcases(hf b a).2.2.2.1 with z|z
  ·exact I.ok.noex b o e z
  ·exact absurd (l6 (lC e) I.ok.bsz) (Nat.not_lt.mpr z)
 have I4:Inv (dZ X pins (xs++rest) scope cl t.heap.objs.size fp t (upd H s.heap.objs.size (.lst []))) [] (xs.map (λ_=>none)++sel σ) (upd H s.heap.objs.size (.lst [])) {t with heap:=h1,toks:=t.toks+([]:List (Str×Value)).length}:=by
  refine⟨ok,rfl,F.bare,Un.kept B,⟨_,ab,λi y v S K e3=>?_⟩,λy c e=>?_,F.hok.fresh (kM _),λy c e=>F.freeC y c (hc.sub y c e),λp hp=>?_,F.hok.kept B,?_⟩
  ·have aa:xs.length<=i:=by
    apply lN
    intro an;rw[mN (by rw[kK];lia),kP]at K
    cases q:xs[i]? with
    |none=>rw[q]at K;cases K
    |some z=>rw[q]at K;cases K
   have ah:rest[i-xs.length]?=some y:=by
    have S:(xs++rest)[i]?=some y:=S;rw[mh aa]at S;exact S
   have ai:(sel σ)[i-xs.length]?=some (some v):=by
    rw[mh (by rw[kK];exact aa),kK]at K;exact K
   obtain⟨j,q1,q2,q3,q4⟩:=(hr σ).2 _ y v ah ai;obtain⟨m,hn,hl⟩:=F.loc;obtain⟨u,r,l⟩:=hl j y v q1 q2 (.inr (.inl q3));refine⟨u,r,.inr ⟨.inl q4,?_⟩⟩;obtain⟨c,ec⟩:=hc.has y (.inl q4);refine⟨c,ec,?_⟩;rcases l with⟨k,_⟩|⟨_,c',e',z⟩
   ·have k':X.env.scope.names.lookup y=some .local:=k;rw[q3]at k';cases k'
   ·rw[hc.sub y c ec]at e'
    cases e';obtain⟨o,ho,hd⟩:=z;exact⟨o,B c o ho,hd⟩
  ·obtain⟨v,o,ho,hd⟩:=F.cell y c (hc.sub y c e);exact⟨v,o,B c o ho,hd⟩
  ·have ae:p∈X.pn++pins:=by simpa[dZ]using hp
   obtain⟨e,n,ne,nf,d⟩:=F.pin p ae;exact⟨B _ _ e,n,lX (lC e),λz=>(lx.mp (F.stkSub _ z)).elim ne nf,d⟩
  ·show(xs.map (λ_=>none)++sel σ).length=(xs++rest).length;rw[k5,k5,kK,(hr σ).1]
 have G:∀{H':Hp},(∀b∈fp,H' b=none)->∀b∈fp,FpOk (dZ X pins (xs++rest) scope cl t.heap.objs.size fp t (upd H s.heap.objs.size (.lst []))) [] H' b:=λhn b a=>
  ⟨hn b a,fC b a,N b a,.inl a,λy c e=>(hf b a).2.2.2.2.1 y c (hc.sub y c e),λp hp=>(hf b a).2.2.2.2.2 p (by simpa[dZ]using hp)⟩
 have t4:tn 0 h1:=T.keep _ _ _ t0 λb a o e=>B b o (M b o e)
 have L:∀s4:Shared,s4={t with heap:=h1,toks:=t.toks+([]:List (Str×Value)).length}->
   codeAny (model X.prog X.w) X.A (.compLoop (.ListComp elt [⟨tg,iter,ifs,0⟩] scope pos) 0 (.ref it) (.ref s.heap.objs.size) (compEnvC scope cl t.heap.objs.size X.env)) (RR (.ref s.heap.objs.size) t.heap.objs.size) s4:=by
  rintro s4 rfl
  refine iW (λn s'=>yE3 λi zs H'=>zs.length=xs.length×' Inv (dZ X pins (xs++rest) scope cl t.heap.objs.size fp t (upd H s.heap.objs.size (.lst []))) [] (zs++sel σ) H' s'×' tn i s'.heap×'(∀b∈fp,H' b=none)×' W i n H') ?_ m0
   ⟨0,_,_,kK _,I4,t4,λb a=>(af b a).1,w0⟩
  rintro n s5⟨i,zs,H5,ag,I5,t5,f5,w5⟩;rcases Y i n H5 w5 with⟨stop,qn⟩|⟨go,step⟩
  ·refine thn (T.done (dZ X pins (xs++rest) scope cl t.heap.objs.size fp t (upd H s.heap.objs.size (.lst []))) rfl rfl rfl hcalm i [] s5 _ H5 _ I5 (G f5) t5 stop) λr s6⟨er,P⟩=>?_;subst er;have J6:Inv X pins σ H5 s6:=F.call' (ch:=fp) P.os P.base P.hok P.bare λb a=>⟨(hf b a).2.2.2.1,(hf b a).2.1,(hf b a).2.2.2.2.1,(hf b a).2.2.2.2.2⟩;exact hRR _ _ H5 s6 J6 (F.fpOk (kM _) P.free) (let⟨m,hn,_⟩:=P.loc;⟨m,hn⟩) qn
  ·refine thn (T.item (dZ X pins (xs++rest) scope cl t.heap.objs.size fp t (upd H s.heap.objs.size (.lst []))) rfl rfl rfl hcalm i [] s5 _ H5 _ I5 (G f5) t5 go) λr s6⟨u,er,h6⟩=>?_;subst er;refine thn h6 λ_ s7⟨y,H7,I7,r7,y7,t7,f7⟩=>?_;have aj:=I7.pinned (G f7) (T.obj _ _ t7);refine thn (hg _ _ _ _ s7 _ H7 y u _ aj r7 (step y H7 y7 zs ag)) λ_ s8⟨σ8,H8,I8,⟨zs',U,e8⟩,q8⟩=>?_;subst e8;refine thn (ht _ _ _ _ s8 _ H8 _ I8 q8) λb s9⟨H9,R,q9⟩=>?_
   cases b with
   |false=>
    rw[if_neg lM]at q9⊢;obtain⟨m',hm,w9⟩:=q9;refine⟨m',hm,i+1,zs',_,U,R.unpinned,T.keep _ _ _ t7 λb a o e=>(R.pin (b,o) (lH _ (lH _ (fI a e)))).1,λb a=>?_,w9⟩;obtain⟨o,e,d⟩:=T.obj _ _ t7 b a;exact(R.pin (b,o) (lH _ (lH _ (fI a e)))).2.1
   |true=>
    rw[if_pos rfl]at q9⊢;refine thn (he _ _ _ _ s9 _ H9 _ R q9) λz s9⟨yv,H9,R,r9,ys,hl,hz,m',hm,w9⟩=>?_
    refine thn (fc (X:=dZ X pins (xs++rest) scope cl t.heap.objs.size fp t (upd H s.heap.objs.size (.lst []))) _ s9 _ H9 (.ref s.heap.objs.size) [yv] (.ref s.heap.objs.size) [z]
     (λv H'=>H'=upd H9 s.heap.objs.size (.lst (ys++[yv]))) R rfl (.cons r9 .nil) ⟨_,ys,yv,rfl,rfl,hl,hz,rfl⟩) λ_ am⟨ak,al,O,_,ac⟩=>?_
    subst ac;refine⟨m',hm,i+1,zs',_,U,O.unpinned,T.keep _ _ _ t7 λb a o e=>(O.pin (b,o) (lH _ (lH _ (fI a e)))).1,λb a=>?_,w9⟩;obtain⟨o,e,d⟩:=T.obj _ _ t7 b a;exact(O.pin (b,o) (lH _ (lH _ (fI a e)))).2.1
 exact codeAny_compStart_list (L _ rfl) (T.self _ 0 _ _ _ t4 (L _ rfl))
theorem fR{rest:List Str}
  (hcalm:X.calm=true)(hi:PI X tg iter wi)(hg:∀(pins:List (Addr×Obj))(fp:List Addr)(C:Addr)(s:Shared)(H:Hp),PG (dZ X pins (xs++rest) scope cl C fp s H) tg g)(ht:∀(pins:List (Addr×Obj))(fp:List Addr)(C:Addr)(s:Shared)(H:Hp),PTs (dZ X pins (xs++rest) scope cl C fp s H) ifs tc)
  (he:∀(pins:List (Addr×Obj))(fp:List Addr)(C:Addr)(s:Shared)(H:Hp),PE (dZ X pins (xs++rest) scope cl C fp s H) elt te)
  (hc:Clos X scope cl)(hr:Reads X scope rest sel)(hkind:scope.kind=.function:=by rfl)(hcell:∀z∈scope.names,z.2≠.cell:=by decide+kernel)(hnames:∀z∈scope.names,z.2=.local->scope.names.lookup z.1=some .local:=by decide+kernel)
  (hs:∀x,foldedSetIterable iter X.env x=pure x:=by intro _;rfl):
  PE X (.ListComp elt [⟨tg,iter,ifs,0⟩] scope pos) (tCompG xs.length wi g tc te sel):=by
 intro pins s σ H Q I h;rw[eval_ListComp];refine wpAny_comprehension_free (use:=none) rfl hs hc.clos hkind hnames (thn (hi pins s σ H _ I h) λv O r=>thn r λt M L=>?_);obtain⟨P,fp,tn,J,N,rfl,p,T,y,j,F⟩:=L;refine comp_blockG (RR:=λc C=>compPost (model X.prog X.w) X.A X.xe none (EP X pins σ Q) c C) hcalm hkind hcell hc hr (hg pins fp) (ht pins fp) (he pins fp) p T y j F λD C l K G a⟨m,E⟩q=>?_;exact⟨m,E,λR i=>⟨.ref D,l,G.turned (t':=K.toks) (λb o B e=>(i.2 b B).trans e) a.1 a.2.1 a.2.2.2.1 a.2.2.2.2.1 a.2.2.2.2.2,rfl,q⟩⟩
theorem eP{rest:List Str}
  (hNX:X.N.Nodup)(hi':X.N[i]?=some y)(hy:X.env.scope.names.lookup y=some .local)
  (hcalm:X.calm=true)(hi:PI X tg iter wi)(hg:∀(pins:List (Addr×Obj))(fp:List Addr)(C:Addr)(s:Shared)(H:Hp),PG (dZ X pins (xs++rest) scope cl C fp s H) tg g)(ht:∀(pins:List (Addr×Obj))(fp:List Addr)(C:Addr)(s:Shared)(H:Hp),PTs (dZ X pins (xs++rest) scope cl C fp s H) ifs tc)
  (he:∀(pins:List (Addr×Obj))(fp:List Addr)(C:Addr)(s:Shared)(H:Hp),PE (dZ X pins (xs++rest) scope cl C fp s H) elt te)
  (hc:Clos X scope cl)(hr:Reads X scope rest sel)(hkind:scope.kind=.function:=by rfl)(hcell:∀z∈scope.names,z.2≠.cell:=by decide+kernel)(hnames:∀z∈scope.names,z.2=.local->scope.names.lookup z.1=some .local:=by decide+kernel)
  (hs:∀x,foldedSetIterable iter X.env x=pure x:=by intro _;rfl)
  (hsw:swapsWith (.ListComp elt [⟨tg,iter,ifs,0⟩] scope pos) (some (.Name y py)) spos.line X.env=pure true:=by rfl):
  PS X (.Assign [.Name y py] (.ListComp elt [⟨tg,iter,ifs,0⟩] scope pos) spos) (tAsg (tCompG xs.length wi g tc te sel) (gName i)):=by
 intro pins s σ H D I h;rw[exec_Assign_Name_used _ _ _ _ hsw];refine l9 (wpAny_standAt (l9 ?_));show wpAny _ X.A (do let _<-comprehension (.ListComp elt [⟨tg,iter,ifs,0⟩] scope pos) scope X.env _ (newList []) false (eval iter X.env) (some (assign (.Name y py) X.env))) _ _ s
 refine l9 (nF (wpAny_comprehension_free (use:=some (assign (.Name y py) X.env)) (Q:=λ_ j=>SP X pins D .next j) rfl hs hc.clos hkind hnames
  (thn (hi pins s σ H _ I h) λv s1 O=>thn O λP B h2=>?_)) (λ_ j hq=>mr (mr hq)) λ_ _ e=>e)
 obtain⟨it,fp,tn,J,H2,rfl,N,T,R,F,Y⟩:=h2;refine comp_blockG (Q:=λx M=>gName i x σ M D.nx) (RR:=λt C=>compPost (model X.prog X.w) X.A X.xe (some (assign (.Name y py) X.env)) (λ_ j=>SP X pins D .next j) t C) hcalm hkind hcell hc hr (hg pins fp) (ht pins fp) (he pins fp) N T R F Y λL C G j Z c⟨m,U⟩q=>?_;show wpAny _ X.A (assign (.Name y py) X.env (.ref L)) _ _ _;refine wpAny_assign_Name (store_ok2 Z hNX hi' (.inl hy) (v:=.ref L) rfl (λB l⟨a,E,K⟩=>?_) (.inr hy))
 have r:C≠a:=λz=>by
  rcases K with z'|z'
  ·exact c.2.1 (z.trans z')
  ·exact c.2.2.2.2.1 y a z' z.symm
 exact⟨m,U.sameBut E r,λh' p=>⟨_,G,l.turned (t':=B.toks) (λb o S e=>(p.2 b S).trans e) c.1 c.2.1 c.2.2.2.1 c.2.2.2.2.1 c.2.2.2.2.2,q⟩⟩
end
section
variable{X:Cx}{pins:List (Addr×Obj)}{σ:St}{H:Hp}{s:Shared}{a:Addr}{o:Obj}{u:HO}
theorem Inv.freeze(I:Inv X pins σ H s)(ha:H a=some u)(mu:Mut (some u))(ho:s.heap.get? a=some o):Inv X pins σ (upd H a (.frz o u)) s:=by
 have b:Mut (H a):=by rw[ha];exact mu
 have h:∀c y,H c=some (.own y)->c≠a:=λc y r z=>by subst z;rw[r]at b;exact b
 have i:∀c j,H c=some (.tup j)->c≠a:=λc j r z=>by subst z;rw[r]at b;exact b
 refine I.un (t':=s.toks) (Un.write (x:=a) (e:=a) b (.inl rfl) (λ_ _ _ q=>q) ⟨o,ho⟩) (I.hok.write (x:=a) (e:=a) b (.inl rfl) (λ_ _ _ q=>q) ⟨o,ho⟩ ⟨ho,?_⟩);exact(I.hok a u ha).stay (λ_ _ _ q=>q) (λc r=>by rw[aG (h c a r)];exact r) λc j r=>by rw[aG (i c j r)];exact r
theorem Inv.thaw(I:Inv X pins σ H s)(ha:H a=some (.frz o u))(h0:∀o' u',X.H₀ a≠some (.frz o' u')):Inv X pins σ (upd H a u) s:=by
 have j:∀c y,H c=some (.own y)->c≠a:=λc y r z=>by subst z;rw[r]at ha;cases ha
 have h:∀c i,H c=some (.tup i)->c≠a:=λc i r z=>by subst z;rw[r]at ha;cases ha
 have nn:∀c,H c=none->c≠a:=λc r z=>by subst z;rw[r]at ha;cases ha
 have up:∀c,H c=none->upd H a u c=none:=λc r=>by rw[aG (nn c r)];exact r
 refine⟨I.ok,I.os,I.bare,⟨I.base.keep,I.base.slot,λb l e n B=>up b (I.base.free b l e n B),I.base.there,λb i e=>?_,λb l z e=>?_,λb ps e=>?_⟩,I.loc,I.cell,up _ I.free,λx c e=>up _ (I.freeC x c e),λp A=>?_,λb l e=>?_,I.len⟩
 ·have q:=I.base.tups b i e;rw[aG (h b i q)];exact q
 ·have q:=I.base.frzs b l z e;have t:b≠a:=λw=>by subst w;exact h0 _ _ e
  rw[aG t];exact q
 ·obtain⟨m,q⟩:=I.base.tbls b ps e;have t:b≠a:=λw=>by subst w;rw[q]at ha;cases ha
  exact⟨m,by rw[aG t];exact q⟩
 ·obtain⟨e,n,r⟩:=I.pin p A;exact⟨e,up _ n,r⟩
 ·by_cases hb:b=a
  ·subst hb;rw[aE]at e
   cases e;obtain⟨_,q⟩:=I.hok b _ ha;exact q.stay (λ_ _ _ q=>q) (λc r=>by rw[aG (j c b r)];exact r) λc i r=>by rw[aG (h c i r)];exact r
  ·rw[aG hb]at e;exact(I.hok b l e).stay (λ_ _ _ q=>q) (λc r=>by rw[aG (j c b r)];exact r) λc i r=>by rw[aG (h c i r)];exact r
theorem Inv.nofrz(I:Inv X pins σ H s)(ha:H a=some u)(nu:∀o' u',u≠.frz o' u'):∀o' u',X.H₀ a≠some (.frz o' u'):=λo' u' e=>by
 have q:=I.base.frzs a o' u' e;rw[ha]at q;exact nu _ _ (lJ q)
noncomputable def tThaw(t:TE):TE:=λσ H Q=>∃a u,H a=some u/\(∀o' u',u≠.frz o' u')/\t σ H λv H'=>∃o,H' a=some (.frz o u)/\Q v (upd H' a u)
theorem pe_thaw(h:PE X e t):PE X e (tThaw t):=by
 intro b s σ H Q I q;obtain⟨a,u,c,j,q⟩:=q;exact thn (h b s σ H _ I q) (by rintro v w⟨x,r,m,p,o,l,i⟩;exact⟨x,_,m.thaw l (I.nofrz c j),p,i⟩)
noncomputable def tThawS(t:TS):TS:=λD σ H=>∃a u,H a=some u/\(∀o' u',u≠.frz o' u')/\t {D with nx:=λσ' H'=>∃o,H' a=some (.frz o u)/\D.nx σ' (upd H' a u),rt:=λv H'=>∃o,H' a=some (.frz o u)/\D.rt v (upd H' a u),ct:=λσ' H'=>∃o,H' a=some (.frz o u)/\D.ct σ' (upd H' a u),bk:=λσ' H'=>∃o,H' a=some (.frz o u)/\D.bk σ' (upd H' a u)} σ H
theorem gi{st:Stmt}(h:PS X st t):PS X st (tThawS t):=by
 intro j s σ H D I q;obtain⟨a,u,r,w,q⟩:=q;have m:=I.nofrz r w;refine thn (h j s σ H _ I q) λf z l=>?_
 cases f with
 |next=>obtain⟨b,p,i,o,c,e⟩:=l;exact⟨b,_,i.thaw c m,e⟩
 |cont=>obtain⟨b,p,i,o,c,e⟩:=l;exact⟨b,_,i.thaw c m,e⟩
 |brk=>obtain⟨b,p,i,o,c,e⟩:=l;exact⟨b,_,i.thaw c m,e⟩
 |ret v=>obtain⟨x,b,p,i,y,o,c,e⟩:=l;exact⟨x,b,_,i.thaw c m,y,e⟩
noncomputable def Itd(a:Addr)(o:Obj)(kvs:List (Key×V)):It:=
 ⟨λi H=>H a=some (.frz o (.dK kvs))/\i<kvs.length,λi H x H'=>H'=H/\∃kv,kvs[i]?=some kv/\x=kV kv.1,λi H=>H a=some (.frz o (.dK kvs))/\kvs.length<=i⟩
theorem KV.get:∀{kvs:List (κ×V)}{vs:List (κ×Value)}{i:Nat}{kv:κ×V},KV kvs vs->kvs[i]?=some kv->∃v,vs[i]?=some (kv.1,v)/\RelV kv.2 v
 |_,_,_,_,.nil,e=>by simp at e
 |_,_,0,kv,.cons (b:=b) r t,e=>by
  simp at e;subst e;exact⟨b.2,by simp[r.1],r.2⟩
 |_,_,i+1,kv,.cons r t,e=>by
  obtain⟨v,c,a⟩:=KV.get (i:=i) t (by simpa using e);exact⟨v,by simpa using c,a⟩
theorem is_kV{u:Value}(h:(cJ P w).is k u=true):RelV (kV k) u:=by
 rcases cS (show keyIs k u=true from h) with⟨i,t,rfl,rfl⟩|⟨x,t,rfl,rfl⟩
 ·exact⟨t,rfl⟩
 ·exact⟨t,rfl⟩
theorem turn_dict{K:W.Frag}(a it:Addr)(o:Obj)(kvs:List (Key×V))(hd:o.data=.dict es ep):Turn P w K tg (Itd a o kvs) [it] it (λi h=>h.IsKeyIter it a i kvs.length ep)where
 mem:=by simp
 obj:=λi h j b q=>by
  have e:b=it:=by simpa using q
  subst e;obtain⟨o,e,c,d⟩:=j;exact⟨o,e,λv z=>by rw[d]at z;cases z⟩
 keep:=λi h B j k=>j.at λo e=>k it (by simp) o e
 item:=by
  intro X U R D hc i l s σ H E I A j hg;subst U R D;obtain⟨G,T⟩:=hg;obtain⟨x,hz,hs,vs,r,o',N,Y,y,S,t,Q,e5,Z⟩:=I.hok a _ G;rw[x]at y;cases y;rw[hd]at t;cases t;have hx:kvs[i]?=some kvs[i]:=kR T;obtain⟨v,hv,rv⟩:=KV.get r hx;obtain⟨F,J,f2,f3,M,L⟩:=A it (by simp);have p:s.heap.IsKeyIter it a i vs.length ep:=by rw[<-r.length];exact j
  refine wpAny_pyNext_dict_item p ⟨o,es,x,S,hd,Q,e5,Z⟩ hv λO B hk m sb=>?_;rw[<-r.length]at m;have I1:Inv X l σ H {s with heap:=B}:=I.turned (t':=s.toks) (λb o q e=>(sb.2 b q).trans e) F J f3 M L;obtain⟨oi,e,c,d⟩:=id m;exact⟨O,rfl,go_of (s:={s with heap:=B}) e c d (by decide) ⟨kV (kvs[i]).1,H,I1,is_kV hk,⟨rfl,_,hx,rfl⟩,m,λb q=>(A b q).1⟩⟩
 done:=by
  intro X U R D hc i l s σ H E I A j hg;subst U R D;obtain⟨G,T⟩:=hg;obtain⟨x,hz,hs,vs,r,o',N,Y,y,S,t,Q,e5,Z⟩:=I.hok a _ G;rw[x]at y;cases y;rw[hd]at t;cases t;obtain⟨F,J,f2,f3,M,L⟩:=A it (by simp);have p:s.heap.IsKeyIter it a i vs.length ep:=by rw[<-r.length];exact j
  exact wpAny_pyNext_dict_end (I.ok.hd hc) p ⟨o,es,x,S,hd,Q,e5,Z⟩ (List.getElem?_eq_none (by rw[<-r.length];exact T)) λB eb=>⟨rfl,I.turned (t':=s.toks) (λb o q e=>eb b o q e) F J f3 M L⟩
 self:=λ_ _ _ _ _ j h=>wpAny_pyIter_keyiter j h
noncomputable def iDic(tl:TE):TI:=λσ H R=>tl σ H λx H1=>∃a kvs,x=.ref a/\H1 a=some (.dK kvs)/\∀o,R (Itd a o kvs) (upd H1 a (.frz o (.dK kvs)))
theorem jr(hl:PE X l tl):PI X tg l (iDic tl):=by
 intro c s σ H R I h;refine thn (hl c s σ H _ I h) λv j⟨x,D,y,K,B⟩=>?_;obtain⟨a,i,e,t,q⟩:=B;subst e
 cases K;obtain⟨L,hs,M,r,o,A,N,w,J,p,G,F,z⟩:=dk_of y.hok t;have m:Inv X c σ (upd D a (.frz o (.dK i))) j:=y.freeze t True.intro w;refine wpAny_pyIter_dict hs ⟨o,A,w,J,p,G,F,z⟩ ?_;refine⟨j.heap.objs.size,[j.heap.objs.size],_,_,_,rfl,m.kept (t':=j.toks) λb o e=>ly _ e,turn_dict a _ o i p,⟨_,lS _ rfl,rfl,by rw[r.length];rfl⟩,λb E=>?_,q o⟩;have e:b=j.heap.objs.size:=by simpa using E
 subst e;exact m.fpOk (kM _) (m.hok.fresh (kM _))
end
theorem for_dict{g:TG}{tb:TS}{D:Ends}(Pv:Nat->St->Hp->Prop)(h0:Pv 0 σ H)(hl:∀i σ H,i<=kvs.length->Pv i σ H->H a=some (.frz o (.dK kvs)))
  (hs:∀i kv σ H,kvs[i]?=some kv->Pv i σ H->g (kV kv.1) σ H λσ2 H2=>tb {D with nx:=Pv (i+1),ct:=Pv (i+1),bk:=D.nx} σ2 H2)(hd:∀σ H,Pv kvs.length σ H->D.nx σ H):
  ∃W:Nat->Nat->St->Hp->Prop,(∃m,W 0 m σ H)/\∀i m σ H,W i m σ H->
   ((Itd a o kvs).stop i H/\D.nx σ H)∨((Itd a o kvs).go i H/\∃N:St->Hp->Prop,(∀σ' H',N σ' H'->∃m',m'<m/\W (i+1) m' σ' H')/\∀x H',(Itd a o kvs).yld i H x H'->g x σ H' λσ2 H2=>tb {D with nx:=N,ct:=N,bk:=D.nx} σ2 H2):=by
 refine⟨λi m σ H=>m=kvs.length-i×' i<=kvs.length×' Pv i σ H,⟨kvs.length,by simp,kY _,h0⟩,?_⟩;rintro i m σ H⟨rfl,c,p⟩;have q:=hl i σ H c p;by_cases hlt:i<kvs.length
 ·refine .inr ⟨⟨q,hlt⟩,Pv (i+1),λσ' H' h=>⟨kvs.length-(i+1),by lia,rfl,hlt,h⟩,λx H' y=>?_⟩;obtain⟨e,kv,b,ex⟩:=y;subst e ex;exact hs i kv σ _ b p
 ·have e:i=kvs.length:=by lia
  subst e;exact .inl ⟨⟨q,kM _⟩,hd σ H p⟩
noncomputable def jo(n:Nat)(Pv:Nat->Hp->Prop)(i:Nat)(H:Hp):Prop:=∃m',m'<n-i/\m'=n-(i+1)/\i+1<=n/\Pv (i+1) H
theorem eU(hi:i<n)(h:Pv (i+1) H):jo n Pv i H:=⟨n-(i+1),by omega,rfl,hi,h⟩
section
variable{l:Addr}{k:Nat}{g:TG}{tc:TT}{te:TE}{ρ:St}{R:Hp->Prop}{H₀:Hp}
theorem kJ{J:It}(Pv:Nat->Hp->Prop)(h0:Pv 0 (upd H₀ l (.lst [])))(hgo:∀i H,i<n->Pv i H->J.go i H)(hst:∀H,Pv n H->J.stop n H)
  (hs:∀i x H H',i<n->J.yld i H x H'->Pv i H->∀zs:St,zs.length=k->g x (zs++ρ) H' λσ2 H2=>(∃zs':St,zs'.length=k/\σ2=zs'++ρ)/\tc σ2 H2 λb H3=>if b=true then te σ2 H3 λy H4=>∃ys,H4 l=some (.lst ys)/\ys.length<sizeLine/\jo n Pv i (upd H4 l (.lst (ys++[y]))) else jo n Pv i H3)
  (hd:∀H,Pv n H->R H):
  ∃W:Nat->Nat->Hp->Prop,(∃m,W 0 m (upd H₀ l (.lst [])))/\∀i m H,W i m H->
   (J.stop i H/\R H)∨(J.go i H/\∀x H',J.yld i H x H'->∀zs:St,zs.length=k->g x (zs++ρ) H' λσ2 H2=>(∃zs':St,zs'.length=k/\σ2=zs'++ρ)/\tc σ2 H2 λb H3=>if b=true then te σ2 H3 λy H4=>∃ys,H4 l=some (.lst ys)/\ys.length<sizeLine/\∃m',m'<m/\W (i+1) m' (upd H4 l (.lst (ys++[y]))) else∃m',m'<m/\W (i+1) m' H3):=by
 refine⟨λi m H=>m=n-i/\i<=n/\Pv i H,⟨n,by simp,kY _,h0⟩,?_⟩;rintro i m H⟨rfl,a,p⟩;by_cases hlt:i<n
 ·exact .inr ⟨hgo i H hlt p,λx H' y=>hs i x H H' hlt y p⟩
 ·have e:i=n:=by lia
  subst e;exact .inl ⟨hst H p,hd H p⟩
theorem e7{K:W.Frag}(Pv:Nat->Hp->Prop)(h0:Pv 0 (upd H₀ l (.lst [])))(hl:∀i H,Pv i H->SqL K H a xs)
  (hs:∀i x H,xs[i]?=some x->Pv i H->∀zs:St,zs.length=k->g x (zs++ρ) H λσ2 H2=>(∃zs':St,zs'.length=k/\σ2=zs'++ρ)/\tc σ2 H2 λb H3=>if b=true then te σ2 H3 λy H4=>∃ys,H4 l=some (.lst ys)/\ys.length<sizeLine/\jo xs.length Pv i (upd H4 l (.lst (ys++[y]))) else jo xs.length Pv i H3)
  (hd:∀H,Pv xs.length H->R H):
  ∃W:Nat->Nat->Hp->Prop,(∃m,W 0 m (upd H₀ l (.lst [])))/\∀i m H,W i m H->
   ((Itl K a).stop i H/\R H)∨((Itl K a).go i H/\∀x H',(Itl K a).yld i H x H'->∀zs:St,zs.length=k->g x (zs++ρ) H' λσ2 H2=>(∃zs':St,zs'.length=k/\σ2=zs'++ρ)/\tc σ2 H2 λb H3=>if b=true then te σ2 H3 λy H4=>∃ys,H4 l=some (.lst ys)/\ys.length<sizeLine/\∃m',m'<m/\W (i+1) m' (upd H4 l (.lst (ys++[y]))) else∃m',m'<m/\W (i+1) m' H3):=
 kJ (n:=xs.length) Pv h0 (λi H c p=>⟨xs,xs[i],hl i H p,kR c⟩) (λH p=>⟨xs,hl _ H p,kM _⟩) (λi x H H' c y p=>by
  obtain⟨e,y⟩:=y;subst e;exact hs i x _ (y xs (hl i _ p)) p) hd
theorem eF{lo:Int}(Pv:Nat->Hp->Prop)(h0:Pv 0 (upd H₀ l (.lst [])))
  (hs:∀i H,i<n->Pv i H->∀zs:St,zs.length=k->g (.int (lo+i)) (zs++ρ) H λσ2 H2=>(∃zs':St,zs'.length=k/\σ2=zs'++ρ)/\tc σ2 H2 λb H3=>if b=true then te σ2 H3 λy H4=>∃ys,H4 l=some (.lst ys)/\ys.length<sizeLine/\jo n Pv i (upd H4 l (.lst (ys++[y]))) else jo n Pv i H3)
  (hd:∀H,Pv n H->R H):
  ∃W:Nat->Nat->Hp->Prop,(∃m,W 0 m (upd H₀ l (.lst [])))/\∀i m H,W i m H->
   ((Itr lo n).stop i H/\R H)∨((Itr lo n).go i H/\∀x H',(Itr lo n).yld i H x H'->∀zs:St,zs.length=k->g x (zs++ρ) H' λσ2 H2=>(∃zs':St,zs'.length=k/\σ2=zs'++ρ)/\tc σ2 H2 λb H3=>if b=true then te σ2 H3 λy H4=>∃ys,H4 l=some (.lst ys)/\ys.length<sizeLine/\∃m',m'<m/\W (i+1) m' (upd H4 l (.lst (ys++[y]))) else∃m',m'<m/\W (i+1) m' H3):=
 kJ (n:=n) Pv h0 (λi H a p=>a) (λH p=>kM _) (λi x H H' a y p=>by
  obtain⟨e,y⟩:=y;subst e y;exact hs i _ a p) hd
theorem j3(Pv:Nat->Hp->Prop)(h0:Pv 0 (upd H₀ l (.lst [])))(hl:∀i H,Pv i H->H a=some (.frz o (.dK kvs)))
  (hs:∀i kv H,kvs[i]?=some kv->Pv i H->∀zs:St,zs.length=k->g (kV kv.1) (zs++ρ) H λσ2 H2=>(∃zs':St,zs'.length=k/\σ2=zs'++ρ)/\tc σ2 H2 λb H3=>if b=true then te σ2 H3 λy H4=>∃ys,H4 l=some (.lst ys)/\ys.length<sizeLine/\jo kvs.length Pv i (upd H4 l (.lst (ys++[y])))else jo kvs.length Pv i H3)
  (hd:∀H,Pv kvs.length H->R H):
  ∃W:Nat->Nat->Hp->Prop,(∃m,W 0 m (upd H₀ l (.lst [])))/\∀i m H,W i m H->
   ((Itd a o kvs).stop i H/\R H)∨((Itd a o kvs).go i H/\∀x H',(Itd a o kvs).yld i H x H'->∀zs:St,zs.length=k->g x (zs++ρ) H' λσ2 H2=>(∃zs':St,zs'.length=k/\σ2=zs'++ρ)/\tc σ2 H2 λb H3=>if b=true then te σ2 H3 λy H4=>∃ys,H4 l=some (.lst ys)/\ys.length<sizeLine/\∃m',m'<m/\W (i+1) m' (upd H4 l (.lst (ys++[y])))else∃m',m'<m/\W (i+1) m' H3):=
 kJ (n:=kvs.length) Pv h0 (λi H h p=>⟨hl i H p,h⟩) (λH p=>⟨hl _ H p,kM _⟩) (λi x H H' h y p=>by
  obtain⟨e,kv,c,ex⟩:=y;subst e ex;exact hs i kv _ c p) hd
end
theorem g1(h:Q (some v::ρ) H):∀zs:St,zs.length=1->gName 0 v (zs++ρ) H Q:=λzs a=>by
 match zs,a with
 |[z],_=>exact h
theorem yes{A B:Hp->Prop}(h:A H):tYes σ H (λb H3=>if b=true then A H3 else B H3):=by
 show if true=true then A H else B H
 rw[if_pos rfl];exact h
section
variable{X:Cx}
noncomputable def Iti(a:Addr)(o:Obj)(kvs:List (Key×V)):It:=
 ⟨λi H=>H a=some (.frz o (.dK kvs))/\i<kvs.length,λi H x H'=>∃kv t,kvs[i]?=some kv/\H t=none/\x=.ref t/\H'=upd H t (.tup [kV kv.1,kv.2]),λi H=>H a=some (.frz o (.dK kvs))/\kvs.length<=i⟩
theorem jB:entryFor table "dict_itemiterator.__iter__"=some Builtin.«dict_keyiterator.__iter__»:=entryFor_alias (id':="dict_keyiterator.__iter__") (by kernel_rfl) rfl (by decide+kernel) (by kernel_rfl)
theorem Inv.trackI(I:Inv X pins σ H s)(h0:X.s₀.heap.objs.size<=t)(hn:H t=none)(hL:t≠X.env.locals)(hc:∀x c,X.env.cells.lookup x=some c->c≠t)(hp:∀p∈X.pn++pins,p.1≠t)(hok:HOk X.prog X.w (upd H t o) s.heap):Inv X pins σ (upd H t o) s:=by
 have up:∀c,c≠t->H c=none->upd H t o c=none:=λc n r=>by rw[aG n];exact r
 refine⟨I.ok,I.os,I.bare,⟨I.base.keep,I.base.slot,λb h e n i=>up b (lX (l6 (lC e) h0)) (I.base.free b h e n i),I.base.there,λb j e=>?_,λb h z e=>?_,λb ps e=>?_⟩,I.loc,I.cell,up _ hL.symm I.free,λx c e=>up _ (hc x c e) (I.freeC x c e),λp a=>?_,hok,I.len⟩
 ·have q:=I.base.tups b j e;rw[aG (aN q hn)];exact q
 ·have q:=I.base.frzs b h z e;rw[aG (aN q hn)];exact q
 ·obtain⟨m,q⟩:=I.base.tbls b ps e;exact⟨m,by rw[aG (aN q hn)];exact q⟩
 ·obtain⟨e,n,r⟩:=I.pin p a;exact⟨e,up _ (hp p a) n,r⟩
theorem turn_items{K:W.Frag}(a it:Addr)(o:Obj)(kvs:List (Key×V))(hd:o.data=.dict es ep):
  Turn P w K (.Tuple elts x1 tpos) (Iti a o kvs) [it] it (λi h=>∃ok ov,IsItemIter h it a i kvs.length ep ok ov) where
 mem:=by simp
 obj:=λi h j b l=>by
  have e:b=it:=by simpa using l
  subst e;obtain⟨ok,ov,e⟩:=j
  exact⟨_,e,λv z=>by
   have z':Data.fields _=Data.cell v:=z
   cases z'⟩
 keep:=λi h h' j k=>let⟨ok,ov,e⟩:=j;⟨ok,ov,k it (by simp) _ e⟩
 item:=by
  intro X Y hw N hc i y s σ H E I Q j hg;subst Y hw N;obtain⟨ha,U⟩:=hg;obtain⟨J,hz,hs,vs,r,o',ab,Z,G,T,D,S,e5,e6⟩:=I.hok a _ ha;rw[J]at G;cases G;rw[hd]at D;cases D;have hx:kvs[i]?=some kvs[i]:=kR U;obtain⟨v,hv,rv⟩:=KV.get r hx;obtain⟨L,f1,f2,f3,O,f5⟩:=Q it (by simp);obtain⟨ok,ov,j⟩:=j;have m:IsItemIter s.heap it a i vs.length ep ok ov:=by rw[<-r.length];exact j
  refine wpAny_pyNext_items_item m ⟨o,es,J,T,hd,S,e5,e6⟩ hv λB h' hk A ht ad kk=>?_;rw[<-r.length]at A;refine⟨_,rfl,?_⟩;refine wpAny_letOwnedTupleGo_items (s:={s with heap:=h'}) A λh2 R sb=>?_;have nt:s.heap.objs.size≠it:=Nat.ne_of_gt (lC m);have I1:Inv X y σ H {s with heap:=h2,toks:=s.toks}:=I.turned (t':=s.toks) (λb o l e=>(sb.2 b l).trans (kk b o l e)) L f1 f3 O f5;have M:H s.heap.objs.size=none:=I.hok.fresh (kM _);have ac:h2.get? s.heap.objs.size=some {cls:=.type "tuple",data:=.seq #[B,v]}:=(sb.2 _ nt).trans ht
  have aa:HOk X.prog X.w (upd H s.heap.objs.size (.tup [kV (kvs[i]).1,(kvs[i]).2])) h2:=λb u e=>by
   by_cases l:b=s.heap.objs.size
   ·subst l;rw[aE]at e
    cases e;exact⟨zL2,[B,v],.cons (is_kV hk) (.cons rv .nil),_,ac,rfl,_,rfl⟩
   ·rw[aG l]at e;exact(I1.hok b u e).stay (λ_ _ _ q=>q) (λc q=>by rw[aG (aN q M)];exact q) λc xs q=>by rw[aG (aN q M)];exact q
  have I2:=I1.trackI (t:=s.heap.objs.size) I.sz M (Nat.ne_of_gt I.lt) (λx c e z=>by
   obtain⟨v,q⟩:=I.cell x c e;exact absurd q.lt (by rw[z];exact mF _)) (λp hp z=>absurd (lC (I.pin p hp).1) (by rw[z];exact mF _)) aa
  refine⟨.ref s.heap.objs.size,_,I2,rfl,⟨_,_,hx,M,rfl,rfl⟩,⟨_,_,R⟩,λb l=>?_⟩;have e:b=it:=by simpa using l
  subst e;rw[aG nt.symm];exact L
 done:=by
  intro X Y hw N hc i y s σ H E I Q j hg;subst Y hw N;obtain⟨ha,U⟩:=hg;obtain⟨J,hz,hs,vs,r,o',ab,Z,G,T,D,S,e5,e6⟩:=I.hok a _ ha;rw[J]at G;cases G;rw[hd]at D;cases D;obtain⟨L,f1,f2,f3,O,f5⟩:=Q it (by simp);obtain⟨ok,ov,j⟩:=j;have m:IsItemIter s.heap it a i vs.length ep ok ov:=by rw[<-r.length];exact j
  exact wpAny_pyNext_items_end (I.ok.hd hc) m ⟨o,es,J,T,hd,S,e5,e6⟩ (List.getElem?_eq_none (by rw[<-r.length];exact U)) λh' eb=>⟨rfl,I.turned (t':=s.toks) (λb o l e=>eb b o l e) L f1 f3 O f5⟩
 self:=λ_ _ _ _ _ j h=>by
  obtain⟨ok,ov,j⟩:=j;have hT:Shared.TypeIs _ (.ref it) "dict_itemiterator":=⟨_,j,rfl⟩;refine wpAny_pyIter_slot hT F.slot_dict_itemiterator_iter (wpAny_call_entry F.slot_dict_itemiterator_iter hT jB ?_ (F.args_dict_itemiterator_iter_1 _));show wpAny _ _ (ret (.ref it)) _ _ _;exact mr ⟨_,rfl,"dict_itemiterator",_,hT,F.slot_dict_itemiterator_next.lookup,h⟩
noncomputable def iItems(to:TE):TI:=λσ H R=>to σ H λx H1=>∃a kvs,x=.ref a/\H1 a=some (.dK kvs)/\∀o,R (Iti a o kvs) (upd H1 a (.frz o (.dK kvs)))
theorem gK(ho:PE X o to)(hbase:attributeBase o "items" X.env (eval o X.env)=eval o X.env:=by rfl)(hline:(apos.endLine==cpos.line)=true:=by rfl):
  PI X (.Tuple elts x1 tpos) (.Call (.Attribute o "items" apos) [] [] cpos) (iItems to):=by
 intro c s σ H R I h;refine wpAny_Call_method0_late hbase hline (thn (ho c s σ H _ I h) λv i⟨x,z,l,N,a,kvs,e,j,q⟩=>?_);subst e
 cases N;obtain⟨P,hs,y,r,o,G,ep,t,B,p,A,J,E⟩:=dk_of l.hok j;have D:i.heap.DictOf (cJ X.prog X.w) a y:=⟨o,G,ep,t,B,p,A,J,E⟩;obtain⟨L,O⟩:=tyV_is (T:="dict") l (x:=.ref a) rfl (.inr (.inr (.inl ⟨rfl,.inl ⟨kvs,j⟩⟩)));refine⟨"dict","dict.items",F.plainAttrs_dict,F.slot_dict_items,F.type_dict_items,L,O,?_⟩;have K:Inv X c σ (upd z a (.frz o (.dK kvs))) i:=l.freeze j True.intro t;refine method_meetsIn F.slot_dict_items F.entry_dict_items rfl (PySem.evalArgs_none ⟨rfl,D.typeIs,F.args_dict_items_1 _,_,meets_dict_items (cJ X.prog X.w) a hs,⟨y,D⟩,?_⟩);have m:Inv X c σ (upd z a (.frz o (.dK kvs))) {i with heap:=i.heap.push {cls:=.type "dict_items",data:=.fields #[.ref a]}}:=K.kept (t':=i.toks) λb o e=>ly _ e;refine wpAny_pyIter_items (knd:=cJ X.prog X.w) (d:=a) (kvs:=y) (ep:=ep) ⟨_,lS _ rfl,rfl,rfl⟩ ⟨o,G,ly _ t,B,p,A,J,E⟩ ?_;refine⟨_,[_],_,_,_,rfl,m.kept (t':=i.toks) λb o e=>ly _ e,turn_items a _ o kvs p,⟨.none,.none,?_⟩,λb M=>?_,q o⟩
 ·rw[r.length];exact lS _ rfl
 ·have e:=kS.mp M;subst e;exact m.fpOk (kM _) (m.hok.fresh (kM _))
end
theorem gx{g:TG}{tb:TS}{D:Ends}(Pv:Nat->St->Hp->Prop)(h0:Pv 0 σ H)(hl:∀i σ H,i<=kvs.length->Pv i σ H->H a=some (.frz o (.dK kvs)))
  (hs:∀i kv t σ H,kvs[i]?=some kv->H t=none->Pv i σ H->g (.ref t) σ (upd H t (.tup [kV kv.1,kv.2])) λσ2 H2=>tb {D with nx:=Pv (i+1),ct:=Pv (i+1),bk:=D.nx} σ2 H2)(hd:∀σ H,Pv kvs.length σ H->D.nx σ H):
  ∃W:Nat->Nat->St->Hp->Prop,(∃m,W 0 m σ H)/\∀i m σ H,W i m σ H->
   ((Iti a o kvs).stop i H/\D.nx σ H)∨((Iti a o kvs).go i H/\∃N:St->Hp->Prop,(∀σ' H',N σ' H'->∃m',m'<m/\W (i+1) m' σ' H')/\∀x H',(Iti a o kvs).yld i H x H'->g x σ H' λσ2 H2=>tb {D with nx:=N,ct:=N,bk:=D.nx} σ2 H2):=by
 refine⟨λi m σ H=>m=kvs.length-i×' i<=kvs.length×' Pv i σ H,⟨kvs.length,by simp,kY _,h0⟩,?_⟩;rintro i m σ H⟨rfl,c,p⟩;have q:=hl i σ H c p;by_cases hlt:i<kvs.length
 ·refine .inr ⟨⟨q,hlt⟩,Pv (i+1),λσ' H' j=>⟨kvs.length-(i+1),by lia,rfl,hlt,j⟩,λx H' y=>?_⟩;obtain⟨kv,t,b,h,ex,l⟩:=y;subst ex l;exact hs i kv t σ _ b h p
 ·have e:i=kvs.length:=by lia
  subst e;exact .inl ⟨⟨q,kM _⟩,hd σ H p⟩
theorem vals_idx:∀{xs:List V}{us:List Value},xs.length=us.length->(∀(j:Nat)(x:V)(u:Value),xs[j]?=some x->us[j]?=some u->RelV x u)->Vals xs us
 |[],[],_,_=>.nil
 |[],_::_,h,_=>by cases h
 |_::_,[],h,_=>by cases h
 |x::xs,u::us,h,k=>.cons (k 0 x u rfl rfl) (vals_idx (Nat.succ.inj h) λj y w a b=>k (j+1) y w (by simpa using a) (by simpa using b))
section
variable{X:Cx}
theorem gQ(hh:X.A.handled=none):hO X (.type "list") (λxs H Q=>∃p kvs,xs=[.ref p]/\Rd H p (.dK kvs)/\∀l,H l=none->Q (.ref l) (upd H l (.lst (kvs.map λkv=>kV kv.1)))):=by
 intro D s σ H xs S Q I r h;obtain⟨p,kvs,rfl,F,q⟩:=h;obtain⟨u,rfl,M⟩:=jC r
 cases M;obtain⟨B,hs,O,kv,G⟩:=iT I.hok F;obtain⟨ep,o⟩:=G.dictAt;have E:=kv.length;refine PySem.W.kdl_call (PySem.W.kdl_dict (knd:=cJ X.prog X.w) (kvs:=O) (ep:=ep) hs) hh o (by rw[<-E];exact B) λP R t c m A i=>?_;obtain⟨N,K⟩:=i;refine⟨.ref s.heap.objs.size,_,I.laid (t':=R) m (kM _) (show ObjOk X.prog X.w _ P _ (.lst (kvs.map λkv=>kV kv.1)) from⟨by rw[kK];exact B,t.toList,c,vals_idx (by rw[kK,E,<-N];simp) λj x w a b=>?_,by simpa using A⟩),rfl,q _ (I.hok.fresh (kM _))⟩;rw[kP]at a
 cases e:kvs[j]? with
 |none=>rw[e]at a;cases a
 |some z=>
  rw[e]at a
  cases a;obtain⟨v,J,_⟩:=KV.get kv e;obtain⟨k,y,m,L⟩:=K j w (by simpa using b);rw[J]at m
  cases m;exact is_kV L
noncomputable def ViewO(v d:Addr):HO:=.ext λh=>h.IsValuesView v d
noncomputable def rValues:V->List V->Hp->VK->Prop:=λx vs H Q=>∃a kvs,x=.ref a/\vs=[]/\Rd H a (.dK kvs)/\∀v,H v=none->Q (.ref v) (upd H v (ViewO v a))
theorem mt_values:MtM X "dict.values" rValues:=by
 intro i s σ H x E v B Q I r l h;obtain⟨a,t,rfl,rfl,p,q⟩:=h
 cases r
 cases l;obtain⟨A,hs,y,G,j⟩:=iT I.hok p;refine call_meetsIn PySem.F.slot_dict_values j.typeIs PySem.F.entry_dict_values (PySem.F.args_dict_values_1 _) (meets_dict_values (cJ X.prog X.w) a hs) ⟨⟨y,j⟩,?_⟩;have e:(s.heap.push {cls:=.type "dict_values",data:=.fields #[.ref a]}).get? s.heap.objs.size=some {cls:=.type "dict_values",data:=.fields #[.ref a]}:=lS _ rfl;refine⟨.ref s.heap.objs.size,_,I.laid (t':=s.toks) (λb o e=>ly _ e) (kM _) (show ObjOk X.prog X.w _ _ _ (ViewO _ a) from⟨⟨_,e,rfl,rfl⟩,⟨_,e⟩,λD J z k=>?_⟩),rfl,q _ (I.hok.fresh (kM _))⟩;obtain⟨o,m,c⟩:=z;exact⟨o,k _ m,c⟩
theorem call_list_vals(hh:X.A.handled=none):hO X (.type "list") (λxs H Q=>∃v a kvs,xs=[.ref v]/\H v=some (ViewO v a)/\Rd H a (.dK kvs)/\∀l,H l=none->Q (.ref l) (upd H l (.lst (kvs.map (·.2))))):=by
 intro F s σ H xs Y Q I r h;obtain⟨v,p,kvs,rfl,L,J,q⟩:=h;obtain⟨u,rfl,O⟩:=jC r
 cases O;obtain⟨E,hs,R,D,K⟩:=iT I.hok J;obtain⟨ep,t⟩:=K.dictAt;obtain⟨i,_⟩:=(show ObjOk X.prog X.w H s.heap v (ViewO v p) from I.hok v _ L);have G:=D.length;refine PySem.W.kdl_call (PySem.W.kdl_values (knd:=cJ X.prog X.w) (kvs:=R) (ep:=ep)) hh ⟨i,t⟩ (by rw[<-G];exact E) λS U A c o B m=>?_;obtain⟨P,N⟩:=m;refine⟨.ref s.heap.objs.size,_,I.laid (t':=U) o (kM _) (show ObjOk X.prog X.w _ S _ (.lst (kvs.map (·.2))) from⟨by rw[kK];exact E,A.toList,c,vals_idx (by rw[kK,G,<-P];simp) λj x w a b=>?_,by simpa using B⟩),rfl,q _ (I.hok.fresh (kM _))⟩;rw[kP]at a
 cases e:kvs[j]? with
 |none=>rw[e]at a;cases a
 |some z=>
  rw[e]at a
  cases a;obtain⟨y,T,M⟩:=KV.get D e;obtain⟨k,o⟩:=N j w (by simpa using b);rw[T]at o
  cases o;exact M
end
section
variable{X:Cx}
theorem call_dict_copy:hO X (.type "dict") (λxs H Q=>∃p kvs,xs=[.ref p]/\Rd H p (.dK kvs)/\∀l,H l=none->Q (.ref l) (upd H l (.dK kvs))):=by
 intro a s σ H xs j Q I r h;obtain⟨p,kvs,rfl,b,q⟩:=h;obtain⟨u,rfl,c⟩:=jC r
 cases c;exact d_copyOf I b λl m e i=>⟨.ref l,_,i,rfl,q l e⟩
end
section
variable{l:Addr}{k:Nat}{g:TG}{tc:TT}{te:TE}{ρ:St}{R:Hp->Prop}{H₀:Hp}
theorem compG_items(Pv:Nat->Hp->Prop)(h0:Pv 0 (upd H₀ l (.lst [])))(hl:∀i H,Pv i H->H a=some (.frz o (.dK kvs)))
  (hs:∀i kv t H,kvs[i]?=some kv->H t=none->Pv i H->∀zs:St,zs.length=k->g (.ref t) (zs++ρ) (upd H t (.tup [kV kv.1,kv.2])) λσ2 H2=>(∃zs':St,zs'.length=k/\σ2=zs'++ρ)/\tc σ2 H2 λb H3=>if b=true then te σ2 H3 λy H4=>∃ys,H4 l=some (.lst ys)/\ys.length<sizeLine/\jo kvs.length Pv i (upd H4 l (.lst (ys++[y]))) else jo kvs.length Pv i H3)
  (hd:∀H,Pv kvs.length H->R H):
  ∃W:Nat->Nat->Hp->Prop,(∃m,W 0 m (upd H₀ l (.lst [])))/\∀i m H,W i m H->
   ((Iti a o kvs).stop i H/\R H)∨((Iti a o kvs).go i H/\∀x H',(Iti a o kvs).yld i H x H'->∀zs:St,zs.length=k->g x (zs++ρ) H' λσ2 H2=>(∃zs':St,zs'.length=k/\σ2=zs'++ρ)/\tc σ2 H2 λb H3=>if b=true then te σ2 H3 λy H4=>∃ys,H4 l=some (.lst ys)/\ys.length<sizeLine/\∃m',m'<m/\W (i+1) m' (upd H4 l (.lst (ys++[y]))) else∃m',m'<m/\W (i+1) m' H3):=
 kJ (n:=kvs.length) Pv h0 (λi H e p=>⟨hl i H p,e⟩) (λH p=>⟨hl _ H p,kM _⟩) (λi x H H' e y p=>by
  obtain⟨kv,t,c,h,ex,j⟩:=y;subst ex j;exact hs i kv t _ c h p) hd
end
section
variable{X:Cx}{CX:CXT}{j:Nat}{E:XK}{m:Str}{pos apos:Pos}{e o:Expr}{es:List Expr}{ta:TE}{t:TA}
theorem pe_mtDK{K:W.Frag}(hP:X.prog=P)(hw:X.w=w)(hK:X.K=K)(hmg:X.mg=mg)(hb:X.base=base)(he:PE X o ta)(hr:Room j X.A)(hx:fB CX X E)(ha:PA X (e::es) t)
  (hst:starEach (e::es) X.env=(false,eval e X.env)::starEach es X.env:=by rfl)(hpl:(backTo pos (starEach es X.env)).any (·.1)=false:=by rfl)
  (ht:eval (.Call (.Attribute o m apos) (e::es) [] pos) X.env=(do
   let ov<-eval o X.env
   standAt apos.atName
   let(f,first)<-holding [ov] (getMethod ov m pl)
   callWith pos f first (backTo pos (starEach (e::es) X.env)) (backToKw pos (keywordEach [] X.env))):=by rfl):PE X (.Call (.Attribute o m apos) (e::es) [] pos) (tMethD P w K mg base CX m j E ta t):=by
 subst hP hw hK hmg hb;exact eY he hr hx ha hst hpl ht
theorem pg_tupK{K:W.Frag}{t:TGs}(hK:X.K=K)(hc:X.calm=true)(h:PGs X es t)
  (hn:(assignEach es X.env).length=n:=by rfl)(hst:(assignEach es X.env).findIdx? (·.1)=none:=by rfl):PG X (.Tuple es k pos) (gTup K n t):=by
 subst hK;exact hV hc h hn hst
end
theorem eqV_str(x y:Str):eqV (.str x) (.str y)=decide (x=y):=by
 unfold eqV;by_cases h:x=y
 ·subst h;simp
 ·simp[h]
section
variable{prog:Program}{w:World}{A:Around}
variable{E:Value->Shared->Prop}{s:Shared}
noncomputable def dU(led:Bool):Obj:={cls:=.type "set",dict:=none,data:=.set #[] 0 (.fresh 0 0 led)}
end
section
variable{X:Cx}
inductive IrNeL(K:W.Frag)(x:V)(y:V)(H:Hp)(Q:VK):Prop
 |mk(p:_)(q:_)(xs:_)(ys:_)(h1:x=.ref p)(h2:y=.ref q)(h3:SqL K H p xs)(h4:SqL K H q ys)(h5:xs.all hJ=true)(h6:ys.all hJ=true)(h7:Q (.bl (!eqVs xs ys)) H):IrNeL K x y H Q
noncomputable def rNeL(K:W.Frag):R2:=λx y H Q=>IrNeL K x y H Q
theorem op_neL(hu:X.A.units<cLine):OpR X (compareOp .NotEq) (rNeL X.K):=by
 intro o s σ H x y v u Q I J E h;obtain⟨p,q,a,b,rfl,rfl,z,N,D,F,k⟩:=h
 cases J
 cases E;obtain⟨A,r,l,_⟩:=I.list z;obtain⟨M,i,c,_⟩:=I.list N;have L:=r.length;have P:=i.length;by_cases hl:a.length=b.length
 ·refine SeqAt.RcNeAt.lists (e:=eqAtJ a b) l.isList c.isList (by simp;lia) hu (λj G O=>?_) X.prog X.w X.xe _ ⟨.bl _,H,I,rfl,?_⟩
  ·have B:j<A.length:=by simpa using G
   have K:j<M.length:=by simpa using O
   have t:a[j]?=some (a[j]'(by lia)):=kR _;have m:b[j]?=some (b[j]'(by lia)):=kR _
   have:eqAtJ a b j=eqV (a[j]'(by lia)) (b[j]'(by lia)):=by unfold eqAtJ;rw[t,m]
   rw[this,List.getElem_toArray,List.getElem_toArray];exact eqAt_V (vals_at r t (kR B)) (vals_at i m (kR K)) (List.all_eq_true.mp D _ (List.getElem_mem _)) (List.all_eq_true.mp F _ (List.getElem_mem _))
  ·rw[l7,<-L,eqVs_all hl];exact k
 ·refine SeqAt.RcNeAt.lists_lengths l.isList c.isList (by simp;lia) hu X.prog X.w X.xe _ ⟨.bl _,H,I,rfl,?_⟩;rw[eqVs_len hl]at k;exact k
end
noncomputable def dput(acc:List Str)(x:Str):List Str:=if x∈acc then acc else acc++[x]
noncomputable def gW(ts:List Str):List Str:=ts.foldl dput []
theorem dset_snoc(ts:List Str)(x:Str):gW (ts++[x])=if x∈gW ts then gW ts else gW ts++[x]:=by
 unfold gW;rw[mT];rfl
theorem dgo_mem:∀{ts acc:List Str},x∈ts.foldl dput acc↔x∈acc∨x∈ts
 |[],acc=>by simp
 |t::ts,acc=>by
  rw[nI,dgo_mem,lx];unfold dput
  split
  ·rename_i h;constructor
   ·exactλz=>z.imp id .inr
   ·rintro(z|rfl|z)
    ·exact .inl z
    ·exact .inl h
    ·exact .inr z
  ·rw[kU,kS,or_assoc]
theorem mem_dset:x∈gW ts↔x∈ts:=by
 unfold gW;rw[dgo_mem];simp
theorem dgo_len:∀(ts acc:List Str),(ts.foldl dput acc).length<=acc.length+ts.length/\((ts.foldl dput acc).length=acc.length+ts.length↔ts.Nodup/\∀x∈ts,¬x∈acc)
 |[],acc=>by simp
 |t::ts,acc=>by
  rw[nI,lR,me];obtain⟨c,b⟩:=dgo_len ts (dput acc t);unfold dput at c b⊢;by_cases m:t∈acc
  ·rw[if_pos m]at c b⊢;exact⟨by omega,λz=>by omega,λz=>absurd m (z.2 t lG)⟩
  ·rw[if_neg m]at c b⊢;rw[k5]at c b;simp only[lP]at c b;refine⟨by omega,λz=>?_,λz=>?_⟩
   ·obtain⟨h,e⟩:=b.mp (by omega);refine⟨⟨λq=>e t q (lH _ (kS.mpr rfl)),h⟩,λx a q=>?_⟩;rcases lx.mp a with rfl|a
    ·exact m q
    ·exact e x a (lf _ q)
   ·have:=b.mpr ⟨z.1.2,λx a q=>?_⟩
    ·omega
    ·rcases kU.mp q with q|q
     ·exact z.2 x (lv _ a) q
     ·rw[kS.mp q]at a;exact z.1.1 a
theorem dset_len(ts:List Str):(gW ts).length<=ts.length:=by
 have:=(dgo_len ts []).1
 unfold gW;simpa using this
theorem dset_nodup(ts:List Str):(gW ts).length=ts.length↔ts.Nodup:=by
 have:=(dgo_len ts []).2
 unfold gW;simpa using this
section
variable{prog:Program}{w:World}{A:Around}
theorem setD_loop{St:Nat->Shared->Prop}(W:WalksS prog w A.in1 it fp wr G ts.length Pv St)
  (hv:∀i v,Pv i v->∃x t,ts[i]?=some x/\v=.str x t)(hb:ts.length+1<scanBound)(hp:p∉fp):
  ∀(k i:Nat)(s:Shared),i+k=ts.length->St i s->s.heap.SetOf (PySem.strKind prog w) p (λx=>decide (x∈ts.take i)) (gW (ts.take i)).length->
   (∀s',Moved (p::wr) G s s'->s'.heap.SetOf (PySem.strKind prog w) p (λx=>decide (x∈ts)) (gW ts).length->R (.ok (.ret .none)) s')->
   codeAny (model prog w) A (.builtin "set.update.loop" ⟨[.ref p,.ref it],[]⟩) R s
 |0,i,s,hk,st,hS,hR=>by
  have K:i=ts.length:=by omega
  refine codeAny_builtin PyProof.Rows.F.entry_set_update_loop ?_;rw[Around.under_plainId PyProof.Rows.F.plain_set_update_loop _];show wpAny _ A.in1 (pyNext (.ref it)>>=_) _ _ s;rw[K]at st;refine l9 (W.done s _ _ st λs' a=>?_);show wpAny _ A.in1 (ret Value.none) _ _ s';refine mr (hR s' (a.mono λb h=>lv _ h) ?_);rw[K,kZ]at hS;obtain⟨o,r,D,t,l,c⟩:=hS;exact⟨o,r,D,t,a.heap p _ (λh=>hp (W.sub _ h)) l,c⟩
 |k+1,i,s,hk,st,hS,hR=>by
  refine codeAny_builtin PyProof.Rows.F.entry_set_update_loop ?_;rw[Around.under_plainId PyProof.Rows.F.plain_set_update_loop _];show wpAny _ A.in1 (pyNext (.ref it)>>=_) _ _ s;refine l9 (W.item i s _ _ (by omega) st λv j L B a=>?_);obtain⟨x,t,ex,rfl⟩:=hv i v L
  have I:j.heap.SetOf (PySem.strKind prog w) p (λx=>decide (x∈ts.take i)) (gW (ts.take i)).length:=by
   obtain⟨o,r,D,t,l,c⟩:=hS;exact⟨o,r,D,t,a.heap p _ (λh=>hp (W.sub _ h)) l,c⟩
  have N:=dset_len (ts.take i);rw[k8]at N;show wpAny _ A.in1 (holding [Value.str x t] (setAdd p (.str x t))>>=_) _ _ j;refine l9 (wpAny_holding ?_);unfold setAdd;refine wpAny_holding (l9 ((PySem.strKind prog w).pyHash (k:=x) (PySem.strKind_is _ _ _ _) ?_));refine wpAny_setAddHashed_of (knd:=PySem.strKind prog w) (s:={j with toks:=j.toks+1}) (PySem.strKind_is _ _ _ _) rfl I (by omega) λO J y=>?_
  have q:O.SetOf (PySem.strKind prog w) p (λx=>decide (x∈ts.take (i+1))) (gW (ts.take (i+1))).length:=by
   refine PyProof.Rows.SetOf_congr y (λz=>?_) ?_
   ·rw[kX,ex,lB,Bool.eq_iff_iff];simp
   ·rw[kX,ex,lB,dset_snoc];by_cases m:x∈ts.take i
    ·rw[if_pos (lD m),if_pos (mem_dset.mpr m)]
    ·rw[if_neg (by rw[lz m];decide),if_neg (λz=>m (mem_dset.mp z)),k5];rfl
  refine mr ⟨plainId_quiet PyProof.Rows.F.plain_set_update_loop _,setD_loop W hv hb hp k (i+1) _ (by omega) (W.frame _ j _ _ B (Nat.le_succ _) λb hb o e=>?_) q λM E H=>?_⟩
  ·rw[J.2 b λz=>hp (z▸hb)];exact e
  ·refine hR M (Moved.trans W.gtrans ((a.mono λb h=>lv _ h).then_heap (Nat.le_succ _) λb o hb e=>?_) E) H;rw[J.2 b λz=>hb (z▸lG)];exact e
variable{E:Value->Shared->Prop}{s:Shared}
theorem init_setD(hh:A.handled=none)(hl:s.heap.IsList l its.toArray)(hv:Vals (ts.map V.str) its)(hb:ts.length+1<scanBound)
  {R:Value->Shared->Prop}(h:∀(h':Heap)(tk:Nat),h'.SetOf (PySem.strKind prog w) s.heap.objs.size (λx=>decide (x∈ts)) (gW ts).length->(∀b o,s.heap.get? b=some o->h'.get? b=some o)->R .none {s with heap:=h',toks:=tk}):
  wpAny (model prog w) A (Builtin.«set.__init__» ⟨[.ref s.heap.objs.size,.ref l],[]⟩) (λfin s'=>∃r,fin=.done (.ret r)/\R r s') E {s with heap:=s.heap.push (dU led)}:=by
 obtain⟨⟨Y,dd,K,sl⟩,M,I,n,J⟩:=id hl;simp only at I J;subst I J;have p:(s.heap.push (dU led)).get? l=some _:=ly _ M;have z1:=PySem.F.sub_list_set;have z2:=PySem.F.sub_list_frozenset;have z3:(Value.type "list"==Value.type "dict")=false:=by decide
 unfold Builtin.«set.__init__»noKeywords Builtin.Frozenset.updateFrom;generalize y:pyIter=PI
 wp_walk
 subst y;have lt:=lC M;have a:(s.heap.push (dU led)).IsList l its.toArray:=⟨_,p,rfl,n,rfl⟩;have X:(s.heap.push (dU led)).get? s.heap.objs.size=some (dU led):=lS _ rfl;refine wpAny_pyIter_list a (l9 (wpAny_runValue ?_));have B:=hv.length;rw[kK]at B;have N:l≠(s.heap.push (dU led)).objs.size:=by rw[Heap.size_push];exact lX (Nat.lt_succ_of_lt lt)
 have Q:s.heap.objs.size∉[(s.heap.push (dU led)).objs.size,l]:=by
  rw[Heap.size_push];intro m;rcases lx.mp m with z|z
  ·exact absurd z (lX (Nat.lt_succ_self _))
  ·exact absurd (kS.mp z) (Nat.ne_of_gt lt)
 have T:its.toArray.size=ts.length:=by rw[l7,B]
 have W:=(Walks.list (prog:=prog) (w:=w) (A:=A.in1) (by simpa using hh) (s.heap.push (dU led)).objs.size l N its.toArray).toS;rw[T]at W;refine setD_loop W (λi v D=>?_) hb Q ts.length 0 _ (by lia) ⟨⟨_,lS _ rfl,rfl,rfl⟩,a.push _⟩ ?_ λs' c G=>?_
 ·have g:its[i]?=some v:=by simpa using D
  have L:i<ts.length:=by rw[B];exact(kL.mp g).1
  have g1:(ts.map V.str)[i]?=some (.str ts[i]):=by rw[kP,kR L];rfl
  obtain⟨t,e⟩:=vals_at hv g1 g;exact⟨_,t,kR L,e⟩
 ·exact PyProof.Rows.SetOf_congr ((PyProof.Rows.setObjOf_fresh (knd:=PySem.strKind prog w) led).setOf (ly _ X) (by unfold scanBound;lia)) (λ_=>by simp) rfl
 ·obtain⟨h',S,P,j,q⟩:=s';have Z:S=s.gens:=c.gens;have O:P=s.drawn:=c.drawn;have U:q=s.os:=c.os;subst Z O U;show wpAny _ _ _ _ _ _;refine mr ?_;show wpAny _ _ (ret Value.none) _ _ _;refine mr ⟨_,rfl,h h' j G λb o e=>?_⟩;have H:=lC e;refine c.heap b o (λm=>?_) (ly _ (ly _ e));rcases lx.mp m with z|z
  ·exact absurd z (lX H)
  ·refine absurd (kS.mp z) (lX ?_);rw[Heap.size_push];exact Nat.lt_succ_of_lt H
theorem call_set_strsD(hh:A.handled=none)(hl:s.heap.IsList l its.toArray)(hv:Vals (ts.map V.str) its)(hb:ts.length+1<scanBound)
  (h:∀(h':Heap)(tk:Nat),h'.SetOf (PySem.strKind prog w) s.heap.objs.size (λx=>decide (x∈ts)) (gW ts).length->(∀b o,s.heap.get? b=some o->h'.get? b=some o)->Q (.ref s.heap.objs.size) {s with heap:=h',toks:=tk}):
  wpAny (model prog w) A (call (.type "set") [.ref l]) Q E s:=by
 obtain⟨c,L,D⟩:=F.called_set.mro;have O:=F.called_set.made;have J:=F.called_set.sub;have H:=F.called_set.notType;have N:=F.called_set.canCreate;have G:=PySem.F.typeCall_set_1 (.ref l);refine wpAny_call (codeAny_of_tree ?_);show wpAny _ _ (callAny (.type "set") _) _ _ _;refine mr ⟨Code.quiet_builtin _ (by decide+kernel),codeAny_builtin F.entry_type_call ?_⟩;rw[Around.under_plain (weight_type_call_type "set" [.ref l] []) rfl]
 repeat(any_goals(first|assumption|wp_step))
 refine codeAny_mono (code_set_new_1 (.ref l) (E:=E) (Q₁:=λv q=>∃led:Bool,v=.ref s.heap.objs.size/\q={s with heap:=s.heap.push (dU led)}) λled=>⟨led,rfl,rfl⟩) λr q m=>?_
 cases r with
 |error e=>exact m
 |ok fl=>
  cases fl with
  |ret v=>
   obtain⟨led,rfl,rfl⟩:=m;have t:(s.heap.push (dU led)).get? s.heap.objs.size=some (dU led):=lS _ rfl;have y:Shared.TypeIs {s with heap:=s.heap.push (dU led)} (.ref s.heap.objs.size) "set":=⟨_,t,rfl⟩;have I:=F.called_set.init.lookup;have K:=F.called_set.init.bind (.ref s.heap.objs.size)
   repeat(any_goals(first|assumption|wp_step))
   refine codeAny_mono (codeAny_call_builtin (R:=wants (λr i=>r=.none/\yE2 λh' tk=>i={s with heap:=h',toks:=tk}×' h'.SetOf (PySem.strKind prog w) s.heap.objs.size (λx=>decide (x∈ts)) (gW ts).length×'(∀b o,s.heap.get? b=some o->h'.get? b=some o)) E) F.called_set.init.plain F.entry_set_init (check_set_init_1 y ?_)) λB i a=>?_
   ·refine nF (init_setD (prog:=prog) (w:=w) (A:=A.in1.in1) (E:=E) (led:=led) (R:=λr i=>r=.none/\yE2 λh' tk=>i={s with heap:=h',toks:=tk}×' h'.SetOf (PySem.strKind prog w) s.heap.objs.size (λx=>decide (x∈ts)) (gW ts).length×'(∀b o,s.heap.get? b=some o->h'.get? b=some o)) (by simpa using hh) hl hv hb λh' tk p j=>⟨rfl,h',tk,rfl,p,j⟩) (λfin M⟨r,e,z⟩=>?_) λ_ _ x=>x;subst e;exact z
   ·cases B with
    |error e=>exact a
    |ok fl2=>
     cases fl2 with
     |ret r=>
      obtain⟨rfl,h',tk,rfl,p,j⟩:=a
      repeat(any_goals(first|assumption|wp_step))
      exact h _ _ p j
     |_=>exact a.elim
  |_=>exact m.elim
end
section
variable{X:Cx}
noncomputable def SetD(P:Program)(w:World)(p:Addr)(ts:List Str):HO:=.ext λh=>h.SetOf (PySem.strKind P w) p (λx=>decide (x∈ts)) (gW ts).length
theorem call_setD(hh:X.A.handled=none):hO X (.type "set") (λxs H Q=>∃(p:Addr)(ts:List Str),xs=[.ref p]/\SqL X.K H p (ts.map V.str)/\ts.length<=1000/\∀l,H l=none->Q (.ref l) (upd H l (SetD X.prog X.w l ts))):=by
 intro a s σ H xs K Q I r h;obtain⟨p,ts,rfl,E,L,q⟩:=h;obtain⟨u,rfl,y⟩:=jC r
 cases y;obtain⟨i,x,j,G⟩:=I.list E;refine call_set_strsD hh j.isList x (by unfold scanBound;lia) λB D b m=>?_;refine⟨.ref s.heap.objs.size,_,I.laid (t':=D) m (kM _) (show ObjOk X.prog X.w _ B _ (SetD X.prog X.w _ ts)from⟨b,?_,λJ M z k=>?_⟩),rfl,q _ (I.hok.fresh (kM _))⟩
 ·obtain⟨o,_,_,_,e,_⟩:=b;exact⟨o,e⟩
 ·obtain⟨o,A,F,t,e,c⟩:=z;exact⟨o,A,F,t,k _ e,c⟩
theorem call_len_setD:hO X (.builtin "len") (λxs H Q=>∃(p:Addr)(ts:List Str),xs=[.ref p]/\H p=some (SetD X.prog X.w p ts)/\ts.length<=1000/\Q (.int (gW ts).length) H):=by
 intro b s σ H xs w Q I r h;obtain⟨p,ts,rfl,c,z,q⟩:=h;obtain⟨u,rfl,i⟩:=jC r
 cases i;obtain⟨⟨o,x,A,t,e,a,l,_,_,_,m,j⟩,_⟩:=I.hok p _ c;have y:=dset_len ts;refine PySem.call_len_set e a l m (by lia) ⟨.int _,H,I.tok _,⟨_,rfl⟩,?_⟩;rw[j];exact q
end
section
variable{X:Cx}
theorem Inv.turnedL{its:List Addr}(I:Inv X pins σ H s)(k:∀b o,b∉its->s.heap.get? b=some o->h'.get? b=some o)(hf:∀b∈its,FpOk X pins H b):Inv X pins σ H {s with heap:=h',toks:=t'}:=by
 have h:∀b u,H b=some u->b∉its:=λb u e z=>by rw[(hf b z).1]at e;cases e
 have w:X.env.locals∉its:=λz=>(hf _ z).2.1 rfl
 refine I.step (g':=s.gens) (d':=s.drawn) (ch:=its) (λb y=>?_) (λb o _ _ a e _=>k b o a e) (λb o _ _ a e _=>⟨o.slots,k b o a e⟩) (λ_ _ _ _ n=>n)
  (λb o a e=>⟨o,k b o a e⟩) (λ_ _ e=>e) (λ_ _ _ e=>e) (λb ps e=>⟨#[],by rw[e];simp⟩) (λm l=>?_) (λb u e=>?_) I.bare
 ·obtain⟨_,p,_,i,A,B⟩:=hf b y;exact⟨i,p,A,B⟩
 ·obtain⟨o,x,j,t,r⟩:=l;exact⟨o,x,j,k _ o w t,r⟩
 ·refine(I.hok b u e).stay (λc v a q=>k c v ?_ q) (λ_ q=>q) λ_ _ q=>q;rcases a with z|z
  ·rw[z];exact h b u e
  ·exact h c _ z
noncomputable def Itz(K:W.Frag)(a b:Addr)(xs ys:List V):It:=
 ⟨λi H=>SqL K H a xs/\SqL K H b ys/\i<xs.length/\i<ys.length,λi H v H'=>∃x y t,xs[i]?=some x/\ys[i]?=some y/\H t=none/\v=.ref t/\H'=upd H t (.tup [x,y]),λi H=>SqL K H a xs/\SqL K H b ys/\(xs.length<=i∨ys.length<=i)⟩
theorem j6:∀{xs:List V}{us:List Value},Vals xs us->∀{i:Nat}{x:V},xs[i]?=some x->∃u,us[i]?=some u/\RelV x u
 |_,_,.nil,i,x,e=>by simp at e
 |_,_,.cons r t,0,x,e=>by
  simp at e;subst e;exact⟨_,rfl,r⟩
 |_,_,.cons r t,i+1,x,e=>by
  obtain⟨u,a,b⟩:=j6 t (i:=i) (x:=x) (by simpa using e);exact⟨u,by simpa using a,b⟩
theorem turn_zip{K:W.Frag}{z TI TO i1 i2 a b:Addr}(D:ZipApart z TI TO i1 i2 a b)(xs ys:List V):
  Turn P w K (.Tuple elts x1 tpos) (Itz K a b xs ys) [z,TI,TO,i1,i2] z (λi h=>∃p q,IsZip h z TI TO .none/\IsPair h TI (.ref i1) (.ref i2)/\IsPair h TO p q/\h.IsListIter i1 a i/\h.IsListIter i2 b i) where
 mem:=by simp
 obj:=λi h m c j=>by
  obtain⟨p,q,l,y,A,⟨o4,N,_,d4⟩,⟨o5,Q,_,d5⟩⟩:=m;simp only[lx,lA,nR]at j;rcases j with rfl|rfl|rfl|rfl|rfl
  ·exact⟨_,l,λv z=>by have O:Data.fields _=Data.cell v:=z;cases O⟩
  ·exact⟨_,y,λv z=>by have O:Data.seq _=Data.cell v:=z;cases O⟩
  ·exact⟨_,A,λv z=>by have O:Data.seq _=Data.cell v:=z;cases O⟩
  ·exact⟨_,N,λv z=>by rw[d4]at z;cases z⟩
  ·exact⟨_,Q,λv z=>by rw[d5]at z;cases z⟩
 keep:=λi h h' m k=>by
  obtain⟨p,q,l,y,A,⟨o4,N,r4⟩,⟨o5,Q,r5⟩⟩:=m;exact⟨p,q,k z (by simp) _ l,k TI (by simp) _ y,k TO (by simp) _ A,⟨o4,k i1 (by simp) _ N,r4⟩,⟨o5,k i2 (by simp) _ Q,r5⟩⟩
 item:=by
  intro X hP hw Z j i B s σ H E I S m hg;subst hP hw Z;obtain⟨ha,L,hx,hy⟩:=hg;obtain⟨p,q,l,y,A,R,U⟩:=m;obtain⟨us,ru,pu,_⟩:=I.list ha;obtain⟨ws,G,pw,_⟩:=I.list L;have ex:xs[i]?=some xs[i]:=kR hx;have ey:ys[i]?=some ys[i]:=kR hy;obtain⟨u,eu,ac⟩:=j6 ru ex;obtain⟨v,ev,ab⟩:=j6 G ey;refine wpAny_pyNext_zip_item D l y A R U pu.isList pw.isList (by simpa using eu) (by simpa using ev) λh' a1 a2 a3 a4 a5 a6 T=>?_;refine⟨_,rfl,?_⟩;refine wpAny_letOwnedTupleGo_zip (s:={s with heap:=h'}) a1 λF z2 J=>?_;have nt:s.heap.objs.size≠z:=Nat.ne_of_gt (lC l)
  have I1:Inv X B σ H {s with heap:=F,toks:=s.toks}:=I.turnedL (its:=[z,TI,TO,i1,i2]) (t':=s.toks) (λc o j e=>by
   simp only[lx,lA,nR,not_or]at j;exact(J.2 c j.1).trans (T c o j.1 j.2.2.1 j.2.2.2.1 j.2.2.2.2 e)) S
  have Y:H s.heap.objs.size=none:=I.hok.fresh (kM _);have ad:F.get? s.heap.objs.size=some {cls:=.type "tuple",data:=.seq #[u,v]}:=(J.2 _ nt).trans a5
  have aa:HOk X.prog X.w (upd H s.heap.objs.size (.tup [xs[i],ys[i]])) F:=λc o e=>by
   by_cases L:c=s.heap.objs.size
   ·subst L;rw[aE]at e
    cases e;exact⟨zL2,[u,v],.cons ac (.cons ab .nil),_,ad,rfl,_,rfl⟩
   ·rw[aG L]at e;exact(I1.hok c o e).stay (λ_ _ _ q=>q) (λc q=>by rw[aG (aN q Y)];exact q) λc xs q=>by rw[aG (aN q Y)];exact q
  have I2:=I1.trackI (t:=s.heap.objs.size) I.sz Y (Nat.ne_of_gt I.lt) (λx c e z=>by
   obtain⟨v,q⟩:=I.cell x c e;exact absurd q.lt (by rw[z];exact mF _)) (λp hp z=>absurd (lC (I.pin p hp).1) (by rw[z];exact mF _)) aa
  refine⟨.ref s.heap.objs.size,_,I2,rfl,⟨_,_,_,ex,ey,Y,rfl,rfl⟩,⟨u,v,z2,(J.2 _ D.TIz).trans (T _ _ D.TIz D.TITO D.TIi1 D.TIi2 y),(J.2 _ D.TOz).trans a2,?_,?_⟩,λc j=>?_⟩
  ·obtain⟨o,e,r⟩:=a3;exact⟨o,(J.2 _ D.i1z).trans e,r⟩
  ·obtain⟨o,e,r⟩:=a4;exact⟨o,(J.2 _ D.i2z).trans e,r⟩
  ·have:c≠s.heap.objs.size:=by
    obtain⟨o4,N,_⟩:=R;obtain⟨o5,Q,_⟩:=U;simp only[lx,lA,nR]at j;rcases j with rfl|rfl|rfl|rfl|rfl
    ·exact lX (lC l)
    ·exact lX (lC y)
    ·exact lX (lC A)
    ·exact lX (lC N)
    ·exact lX (lC Q)
   rw[aG this];exact(S c j).1
 done:=by
  intro X hP hw Z j i B s σ H E I S m hg;subst hP hw Z;obtain⟨ha,L,M⟩:=hg;obtain⟨p,q,l,y,A,R,U⟩:=m;obtain⟨us,ru,pu,_⟩:=I.list ha;obtain⟨ws,G,pw,_⟩:=I.list L;have lu:=ru.length;have lw:=G.length
  refine wpAny_pyNext_zip_end (I.ok.hd j) D l y A R U pu.isList pw.isList (M.imp (λh=>by simp;lia) (λh=>by simp;lia)) λh' T=>⟨rfl,I.turnedL (its:=[z,TI,TO,i1,i2]) (t':=s.toks) (λc o j e=>by
   simp only[lx,lA,nR,not_or]at j;exact T c o j.1 j.2.2.1 j.2.2.2.1 j.2.2.2.2 e) S⟩
 self:=λ_ _ _ _ _ m h=>by
  obtain⟨p,q,l,_⟩:=m;exact wpAny_pyIter_zip l h
noncomputable def iZip(K:W.Frag)(ta:TA):TI:=λσ H R=>ta σ H λvs H1=>∃a b xs ys,vs=[.ref a,.ref b]/\SqL K H1 a xs/\SqL K H1 b ys/\R (Itz K a b xs ys) H1
theorem pi_zip(hg:Gl X "zip")(hm:X.mg "zip"=none)(ha:PA X [a,b] ta)(hs:starEach [a,b] X.env=[(false,eval a X.env),(false,eval b X.env)]:=by rfl)(hs2:starEach [b] X.env=[(false,eval b X.env)]:=by rfl):
  PI X (.Tuple elts x1 tpos) (.Call (.Name "zip" p) [a,b] [] pos) (iZip X.K ta):=by
 intro j s σ H R I h;refine Call_ (ld_blt I hg hm boot_zip (PyProof.Rows.callWith_type1 (thn (ha pos j s σ H _ I h) λE i⟨vs,J,l,U,F⟩=>?_) (by rw[hs,hs2]) (by rw[hs2];rfl)));obtain⟨y,t,M,Y,e,N,Z,q⟩:=F;subst e
 cases U with
 |cons r rr=>
  cases rr with
  |cons r' rr=>
   cases rr
   cases r
   cases r';obtain⟨E,ru,A,_⟩:=l.list N;obtain⟨ws,O,z,_⟩:=l.list Z;have L:y<i.heap.objs.size:=by obtain⟨o,n,e,_⟩:=A;exact lC e
   have Q:t<i.heap.objs.size:=by obtain⟨o,n,e,_⟩:=z;exact lC e
   refine call_zip_2 A.isList z.isList λS w T B P G z6 D=>?_;have K:Inv X j σ J {i with heap:=S}:=l.kept (t':=i.toks) D;refine wpAny_pyIter_zip w ⟨_,[i.heap.objs.size+4,i.heap.objs.size+2,i.heap.objs.size+3,i.heap.objs.size,i.heap.objs.size+1],_,_,_,rfl,K,turn_zip (PySem.W.ktu_apart i.heap.objs.size y t L Q) M Y,⟨.none,.none,w,T,B,P,G⟩,λc m=>?_,q⟩
   have x:i.heap.objs.size<=c:=by
    simp only[lx,lA,nR]at m;rcases m with rfl|rfl|rfl|rfl|rfl
    ·exact Nat.le_add_right _ _
    ·exact Nat.le_add_right _ _
    ·exact Nat.le_add_right _ _
    ·exact kM _
    ·exact Nat.le_add_right _ _
   exact l.fpOk x (l.hok.fresh x)
end
theorem for_zip{K:W.Frag}{g:TG}{tb:TS}{D:Ends}(Pv:Nat->St->Hp->Prop)(h0:Pv 0 σ H)(hl:∀i σ H,Pv i σ H->SqL K H a xs/\SqL K H b ys)
  (hs:∀i x y t σ H,xs[i]?=some x->ys[i]?=some y->H t=none->Pv i σ H->g (.ref t) σ (upd H t (.tup [x,y])) λσ2 H2=>tb {D with nx:=Pv (i+1),ct:=Pv (i+1),bk:=D.nx} σ2 H2)(hd:∀σ H,Pv (min xs.length ys.length) σ H->D.nx σ H):
  ∃W:Nat->Nat->St->Hp->Prop,(∃m,W 0 m σ H)/\∀i m σ H,W i m σ H->
   ((Itz K a b xs ys).stop i H/\D.nx σ H)∨((Itz K a b xs ys).go i H/\∃N:St->Hp->Prop,(∀σ' H',N σ' H'->∃m',m'<m/\W (i+1) m' σ' H')/\∀x H',(Itz K a b xs ys).yld i H x H'->g x σ H' λσ2 H2=>tb {D with nx:=N,ct:=N,bk:=D.nx} σ2 H2):=by
 refine⟨λi m σ H=>m=min xs.length ys.length-i×' i<=min xs.length ys.length×' Pv i σ H,⟨min xs.length ys.length,by simp,kY _,h0⟩,?_⟩;rintro i m σ H⟨rfl,s,p⟩;obtain⟨c,h⟩:=hl i σ H p;by_cases hlt:i<min xs.length ys.length
 ·refine .inr ⟨⟨c,h,by lia,by lia⟩,Pv (i+1),λσ' H' q=>⟨min xs.length ys.length-(i+1),by lia,rfl,hlt,q⟩,λv H' y=>?_⟩;obtain⟨x,y,t,j,l,o,ev,r⟩:=y;subst ev r;exact hs i x y t σ _ j l o p
 ·have e:i=min xs.length ys.length:=by lia
  subst e;exact .inl ⟨⟨c,h,by lia⟩,hd σ H p⟩
section
variable{X:Cx}
inductive EqD(K:W.Frag)(H:Hp):Nat->V->V->Prop
 |flat{n:Nat}{v:V}(h:hJ v=true):EqD K H n v v
 |lst{n:Nat}{p q:Addr}{xs ys:List V}(hp:SqL K H p xs)(hq:SqL K H q ys)(hl:xs.length=ys.length)(h:∀(j:Nat)(x y:V),xs[j]?=some x->ys[j]?=some y->EqD K H n x y):EqD K H (n+1) (.ref p) (.ref q)
 |tup{n:Nat}{p q:Addr}{xs ys:List V}(hp:SqT K H p xs)(hq:SqT K H q ys)(hl:xs.length=ys.length)(h:∀(j:Nat)(x y:V),xs[j]?=some x->ys[j]?=some y->EqD K H n x y):EqD K H (n+1) (.ref p) (.ref q)
end
section
variable{X:Cx}
noncomputable def Ite(K:W.Frag)(a:Addr)(xs:List V):It:=
 ⟨λi H=>SqL K H a xs/\i<xs.length,λi H v H'=>∃x t,xs[i]?=some x/\H t=none/\v=.ref t/\H'=upd H t (.tup [.int i,x]),λi H=>SqL K H a xs/\xs.length<=i⟩
theorem turn_enum{K:W.Frag}(ne:e≠it)(xs:List V):
  Turn P w K (.Tuple elts x1 tpos) (Ite K a xs) [e,it] e (λi h=>(∃old,IsEnum h e it i old)/\h.IsListIter it a i) where
 mem:=by simp
 obj:=λi h l c b=>by
  obtain⟨⟨old,j⟩,⟨Z,A,_,d4⟩⟩:=l;simp only[lx,lA,nR]at b;rcases b with rfl|rfl
  ·exact⟨_,j,λv z=>by have z':Data.fields _=Data.cell v:=z;cases z'⟩
  ·exact⟨_,A,λv z=>by rw[d4]at z;cases z⟩
 keep:=λi h R l k=>by
  obtain⟨⟨old,j⟩,⟨Z,A,r4⟩⟩:=l;exact⟨⟨old,k e (by simp) _ j⟩,⟨Z,k it (by simp) _ A,r4⟩⟩
 item:=by
  intro X O N J b i m s σ H E I D l T;subst O N J;obtain⟨L,hx⟩:=T;obtain⟨⟨old,j⟩,B⟩:=l;obtain⟨us,S,Y,_⟩:=I.list L;have ex:xs[i]?=some xs[i]:=kR hx;obtain⟨u,eu,U⟩:=j6 S ex;refine wpAny_pyNext_enum_item j B Y.isList (by simpa using eu) ne λR a1 a2 a3 a4 a5=>?_;refine⟨_,rfl,?_⟩;refine wpAny_letOwnedTupleGo_enum (s:={s with heap:=R,toks:=s.toks+1}) a1 λy z2 G=>?_;have nt:s.heap.objs.size≠e:=Nat.ne_of_gt (lC j)
  have I1:Inv X m σ H {s with heap:=y,toks:=s.toks+1}:=I.turnedL (its:=[e,it]) (t':=s.toks+1) (λc o b q=>by
   simp only[lx,lA,nR,not_or]at b;exact(G.2 c b.1).trans (a5 c o b.1 b.2 q)) D
  have F:H s.heap.objs.size=none:=I.hok.fresh (kM _);have M:y.get? s.heap.objs.size=some {cls:=.type "tuple",data:=.seq #[.int i s.toks,u]}:=(G.2 _ nt).trans a3
  have Q:HOk X.prog X.w (upd H s.heap.objs.size (.tup [.int i,xs[i]])) y:=λc o q=>by
   by_cases hb:c=s.heap.objs.size
   ·subst hb;rw[aE]at q
    cases q;exact⟨zL2,[.int i s.toks,u],.cons ⟨_,rfl⟩ (.cons U .nil),_,M,rfl,_,rfl⟩
   ·rw[aG hb]at q;exact(I1.hok c o q).stay (λ_ _ _ q=>q) (λc q=>by rw[aG (aN q F)];exact q) λc xs q=>by rw[aG (aN q F)];exact q
  have I2:=I1.trackI (t:=s.heap.objs.size) I.sz F (Nat.ne_of_gt I.lt) (λx c e z=>by
   obtain⟨v,q⟩:=I.cell x c e;exact absurd q.lt (by rw[z];exact mF _)) (λp hp z=>absurd (lC (I.pin p hp).1) (by rw[z];exact mF _)) Q
  refine⟨.ref s.heap.objs.size,_,I2,rfl,⟨_,_,ex,F,rfl,rfl⟩,⟨⟨_,z2⟩,?_⟩,λc b=>?_⟩
  ·obtain⟨o,q,r⟩:=a2;exact⟨o,(G.2 _ ne.symm).trans q,r⟩
  ·have:c≠s.heap.objs.size:=by
    obtain⟨Z,A,_⟩:=B;simp only[lx,lA,nR]at b;rcases b with rfl|rfl
    ·exact lX (lC j)
    ·exact lX (lC A)
   rw[aG this];exact(D c b).1
 done:=by
  intro X O N J b i m s σ H E I D l T;subst O N J;obtain⟨L,aa⟩:=T;obtain⟨⟨old,j⟩,B⟩:=l;obtain⟨us,S,Y,_⟩:=I.list L;have lu:=S.length
  refine wpAny_pyNext_enum_end (I.ok.hd b) j B Y.isList (by simp;lia) λR a7=>⟨rfl,I.turnedL (its:=[e,it]) (t':=s.toks) (λc o b q=>by
   simp only[lx,lA,nR,not_or]at b;exact a7 c o b.2 q) D⟩
 self:=λ_ _ _ _ _ l h=>by
  obtain⟨⟨old,j⟩,_⟩:=l;exact wpAny_pyIter_enum j h
noncomputable def iEnum(K:W.Frag)(ta:TA):TI:=λσ H R=>ta σ H λvs H1=>∃a xs,vs=[.ref a]/\SqL K H1 a xs/\R (Ite K a xs) H1
theorem pi_enum(hg:Gl X "enumerate")(hm:X.mg "enumerate"=none)(ha:PA X [a] ta)(hs:starEach [a] X.env=[(false,eval a X.env)]:=by rfl):PI X (.Tuple elts x1 tpos) (.Call (.Name "enumerate" p) [a] [] pos) (iEnum X.K ta):=by
 intro b s σ H R I h;refine Call_ (ld_blt I hg hm boot_enumerate (PyProof.Rows.callWith_type1 (thn (ha pos b s σ H _ I h) λw i⟨K,y,j,F,x⟩=>?_) hs rfl));obtain⟨L,D,e,t,q⟩:=x;subst e
 cases F with
 |cons r rr=>
  cases rr
  cases r;obtain⟨w,M,E,_⟩:=j.list t;refine call_enumerate_list E.isList λz o B J G=>?_;have A:Inv X b σ y {i with heap:=z}:=j.kept (t':=i.toks) G;refine wpAny_pyIter_enum o ⟨_,[i.heap.objs.size+1,i.heap.objs.size],_,_,_,rfl,A,turn_enum (Nat.succ_ne_self _) D,⟨⟨_,o⟩,B⟩,λc l=>?_,q⟩
  have m:i.heap.objs.size<=c:=by
   simp only[lx,lA,nR]at l;rcases l with rfl|rfl
   ·exact Nat.le_add_right _ _
   ·exact kM _
  exact j.fpOk m (j.hok.fresh m)
theorem for_enum{K:W.Frag}{g:TG}{tb:TS}{D:Ends}(Pv:Nat->St->Hp->Prop)(h0:Pv 0 σ H)(hl:∀i σ H,Pv i σ H->SqL K H a xs)
  (hs:∀i x t σ H,xs[i]?=some x->H t=none->Pv i σ H->g (.ref t) σ (upd H t (.tup [.int i,x])) λσ2 H2=>tb {D with nx:=Pv (i+1),ct:=Pv (i+1),bk:=D.nx} σ2 H2)(hd:∀σ H,Pv xs.length σ H->D.nx σ H):
  ∃W:Nat->Nat->St->Hp->Prop,(∃m,W 0 m σ H)/\∀i m σ H,W i m σ H->
   ((Ite K a xs).stop i H/\D.nx σ H)∨((Ite K a xs).go i H/\∃N:St->Hp->Prop,(∀σ' H',N σ' H'->∃m',m'<m/\W (i+1) m' σ' H')/\∀x H',(Ite K a xs).yld i H x H'->g x σ H' λσ2 H2=>tb {D with nx:=N,ct:=N,bk:=D.nx} σ2 H2):=by
 refine⟨λi m σ H=>m=xs.length-i×' i<=xs.length×' Pv i σ H,⟨xs.length,by simp,kY _,h0⟩,?_⟩;rintro i m σ H⟨rfl,o,p⟩;have b:=hl i σ H p;by_cases hlt:i<xs.length
 ·refine .inr ⟨⟨b,hlt⟩,Pv (i+1),λσ' H' j=>⟨xs.length-(i+1),by lia,rfl,hlt,j⟩,λv H' y=>?_⟩;obtain⟨x,t,c,h,ev,l⟩:=y;subst ev l;exact hs i x t σ _ c h p
 ·have e:i=xs.length:=by lia
  subst e;exact .inl ⟨⟨b,kM _⟩,hd σ H p⟩
end
section
variable{X:Cx}
theorem op_notB:OpR X (compareOp .IsNot) (λx y H Q=>∃a b:Bool,x=.bl a/\y=.bl b/\Q (.bl (!decide (a=b))) H):=by
 intro c s σ H x y v u Q I i e h;obtain⟨a,b,rfl,rfl,q⟩:=h
 cases i
 cases e;exact wpAny_isNot_plain rfl (bV I q (by cases a<;>cases b<;>rfl))
end
end L2
namespace G
noncomputable def gcd(a b:Int):Int:=(Int.gcd a b:Int)
theorem gcd_nonneg(a b:Int):0<=gcd a b:=Int.natCast_nonneg _
theorem gcd_zero(a:Int)(h:0<=a):gcd a 0=a:=by
 unfold gcd;rw[Int.gcd_zero_right];lia
theorem gcd_abs(a b:Int):gcd (if a<0 then-a else a) (if b<0 then-b else b)=gcd a b:=by
 unfold gcd;congr 1
 split<;>split<;>simp[Int.neg_gcd,Int.gcd_neg]
theorem gcd_step(a b:Int)(hb:0<b):gcd b (a%b)=gcd a b:=by
 unfold gcd;congr 1;rw[Int.gcd_comm b];have e:a=a%b+(a/b)*b:=by have:=Int.emod_add_mul_ediv a b;rw[mf]at this;lia
 have h:=Int.gcd_add_mul_right_left b (a%b) (a/b);rw[<-e]at h;exact h.symm
theorem iz(a b:Nat):(a:Int).fdiv (b:Int)=((a/b:Nat):Int):=by
 rw[Int.fdiv_eq_ediv_of_nonneg _ (Int.natCast_nonneg _)];rfl
theorem den_pos(x:Rat):(0:Int)<(x.den:Int):=by have:=x.den_nz;lia
theorem gcd_den(x:Rat):gcd x.num x.den=1:=by
 have h:=x.reduced;have e:Int.gcd x.num x.den=1:=h;unfold gcd;rw[e];rfl
theorem init_spec(a b:Int)(hb:b≠0):a.fdiv (if b<0 then-(gcd a b) else gcd a b)=(Rat.divInt a b).num/\b.fdiv (if b<0 then-(gcd a b) else gcd a b)=((Rat.divInt a b).den:Int):=by
 have gp:0<Int.gcd a b:=Int.gcd_pos_of_ne_zero_right a hb;obtain⟨k,e⟩:=nJ a b;obtain⟨m,c⟩:=Int.gcd_dvd_right a b;have i:(Int.gcd a b:Int)≠0:=by lia
 rw[Rat.num_divInt,Rat.den_divInt,if_neg hb,Int.gcd_comm b a];unfold gcd;generalize q:Int.gcd a b=g at*;have l:∀z:Int,(g*z).fdiv g=z:=λz=>by rw[mf,Int.mul_fdiv_cancel _ i]
 have o:∀z:Int,(g*z).fdiv (-(g:Int))=-z:=λz=>by
  have:(g:Int)*z=(-z)*(-(g:Int)):=by rw[Int.neg_mul_neg,mf]
  rw[this,Int.mul_fdiv_cancel _ (by lia)]
 by_cases hs:b<0
 ·rw[if_pos hs,Int.sign_eq_neg_one_of_neg hs];constructor
  ·conv=>lhs;rw[e,o]
   have:-1*a=-k*g:=by rw[e,mf (g:Int) k,Int.neg_mul,Int.neg_mul,Int.one_mul]
   rw[this,Int.mul_ediv_cancel _ i]
  ·conv=>lhs;rw[c,o]
   have p:m<0:=by
    rcases Int.lt_trichotomy m 0 with h|h|h
    ·exact h
    ·rw[h]at c;lia
    ·have:=nC (show(0:Int)<g by lia) h;lia
   have:b.natAbs=m.natAbs*g:=by rw[c,lT,nv,Nat.mul_comm]
   rw[this,Nat.mul_div_cancel _ gp];lia
 ·rw[if_neg hs,Int.sign_eq_one_of_pos (by lia)];constructor
  ·conv=>lhs;rw[e,l]
   have:1*a=k*g:=by rw[e,mf (g:Int) k,Int.one_mul]
   rw[this,Int.mul_ediv_cancel _ i]
  ·conv=>lhs;rw[c,l]
   have j:0<m:=by
    rcases Int.lt_trichotomy m 0 with h|h|h
    ·have:=Int.mul_neg_of_pos_of_neg (show(0:Int)<g by lia) h;lia
    ·rw[h]at c;lia
    ·exact h
   have:b.natAbs=m.natAbs*g:=by rw[c,lT,nv,Nat.mul_comm]
   rw[this,Nat.mul_div_cancel _ gp];lia
theorem j0{a:Int}{g:Nat}(h:(g:Int)∣a):a.fdiv (g:Int)=a.tdiv g:=by
 rw[Int.fdiv_eq_ediv_of_nonneg _ (Int.natCast_nonneg _),Int.tdiv_eq_ediv_of_dvd h]
theorem add_spec(x y:Rat):
  let g:=gcd x.den y.den
  let a:=(x.den:Int).fdiv g
  let top:=x.num*((y.den:Int).fdiv g)+y.num*a
  let left:=gcd top g
  top.fdiv left=(x+y).num/\a*((y.den:Int).fdiv left)=((x+y).den:Int):=by
 have q:=x.den_nz;have p:=y.den_nz;have h:gcd x.den y.den=((x.den.gcd y.den:Nat):Int):=by unfold gcd;rw[Int.gcd_natCast_natCast]
 have i:0<x.den.gcd y.den:=Nat.gcd_pos_of_pos_left _ (by lia);intro g a top left;have c:a=((x.den/x.den.gcd y.den:Nat):Int):=by show(x.den:Int).fdiv (gcd x.den y.den)=_;rw[h,iz]
 have b:top=x.num*((y.den/x.den.gcd y.den:Nat):Int)+y.num*((x.den/x.den.gcd y.den:Nat):Int):=by
  show x.num*((y.den:Int).fdiv (gcd x.den y.den))+y.num*a=_;rw[c,h,iz]
 have e:left=((top.natAbs.gcd (x.den.gcd y.den):Nat):Int):=by
  show((Int.gcd top (gcd x.den y.den):Nat):Int)=_;rw[h];rfl
 have m:x+y=Rat.add x y:=rfl;rw[m];delta Rat.add;dsimp only;rw[e,c]
 split
 ·rename_i j;rw[b];simp only[j,Nat.div_one,Nat.gcd_one_right,iz];simp
 ·rename_i j;rw[Rat.maybeNormalize_eq];dsimp only;simp only[Int.divExact_eq_tdiv];rw[<-b];have l:((top.natAbs.gcd (x.den.gcd y.den):Nat):Int)∣top:=Int.ofNat_dvd_left.2 (Nat.gcd_dvd_left _ _);have o:(top.natAbs.gcd (x.den.gcd y.den):Nat)∣y.den:=Nat.dvd_trans (Nat.gcd_dvd_right _ _) (Nat.gcd_dvd_right _ _);refine⟨?_,?_⟩
  ·rw[j0 l]
  ·rw[iz,<-Int.natCast_mul,Nat.mul_div_assoc _ o]
theorem mul_spec(x y:Rat):
  let first:=gcd x.num y.den
  let a:=gcd y.num x.den
  x.num.fdiv first*y.num.fdiv a=(x*y).num/\(x.den:Int).fdiv a*(y.den:Int).fdiv first=((x*y).den:Int):=by
 intro first a
 have b:x*y=Rat.mul x y:=rfl;rw[b];delta Rat.mul;dsimp only;have c:first=((x.num.natAbs.gcd y.den:Nat):Int):=rfl
 have e:a=((y.num.natAbs.gcd x.den:Nat):Int):=rfl;rw[c,e];simp only[Int.divExact_eq_tdiv,Nat.divExact_eq_div];rw[j0 (Int.ofNat_dvd_left.2 (Nat.gcd_dvd_left _ _)),j0 (Int.ofNat_dvd_left.2 (Nat.gcd_dvd_left _ _)),iz,iz];exact⟨rfl,by rw[Int.natCast_mul]⟩
theorem inv_pos_spec(y:Rat)(h:0<y.num):(y⁻¹).num=y.den/\((y⁻¹).den:Int)=y.num:=by
 rw[Rat.num_inv,Rat.den_inv,Int.sign_eq_one_of_pos h,if_neg (by lia)];constructor<;>lia
theorem inv_neg_spec(y:Rat)(h:y.num<0):(y⁻¹).num=-y.den/\((y⁻¹).den:Int)=-y.num:=by
 rw[Rat.num_inv,Rat.den_inv,Int.sign_eq_neg_one_of_neg h,if_neg (by lia)];constructor<;>lia
end G
namespace G
noncomputable def Bd(n:Nat)(x:Rat):Prop:=x.num.natAbs<=2^n/\x.den<=2^n
theorem pow_le(h:m<=n):2^m<=2^n:=lF (by decide) h
theorem Bd.mono(b:Bd m x)(h:m<=n):Bd n x:=⟨kW b.1 (pow_le h),kW b.2 (pow_le h)⟩
theorem gO(a:Int)(d:Nat):(a/(d:Int)).natAbs<=a.natAbs:=by
 rcases Nat.eq_zero_or_pos d with h|h
 ·subst h;simp
 ·have b:(0:Int)<d:=by omega
  rcases Int.le_total 0 a with ha|ha
  ·have e:=Int.ediv_nonneg ha (Int.le_of_lt b);have i:=Int.ediv_le_self (d:Int) ha;omega
  ·have e:a/(d:Int)<=0:=Int.ediv_nonpos_of_nonpos_of_neg ha b
   have i:a<=a/(d:Int):=by
    rw[Int.le_ediv_iff_mul_le b];have c:0<=(-a)*((d:Int)-1):=Int.mul_nonneg (by lia) (by lia);rw[Int.neg_mul,Int.mul_sub,Int.mul_one]at c;omega
   omega
theorem Bd.divInt{a b:Int}(ha:a.natAbs<=2^n)(hb:b.natAbs<=2^n):Bd n (Rat.divInt a b):=by
 constructor
 ·rw[Rat.num_divInt];refine kW (gO _ _) ?_;rw[lT]
  have:b.sign.natAbs<=1:=by
   rcases Int.lt_trichotomy b 0 with h|h|h
   ·rw[Int.sign_eq_neg_one_of_neg h];decide
   ·rw[h];decide
   ·rw[Int.sign_eq_one_of_pos h];decide
  calc b.sign.natAbs*a.natAbs<=1*a.natAbs:=nD _ this
   _<=2^n:=by lia
 ·rw[Rat.den_divInt]
  split
  ·exact Nat.one_le_two_pow
  ·exact kW (Nat.div_le_self _ _) hb
theorem eD{a b m n:Nat}(ha:a<=2^m)(hb:b<=2^n):a*b<=2^(m+n):=by
 rw[l0];exact lU ha hb
theorem Bd.add(hx:Bd m x)(hy:Bd n y):Bd (m+n+1) (x+y):=by
 constructor
 ·rw[Rat.num_add];refine kW (gO _ _) ?_;have c:=eD hx.1 hy.2;have e:=eD hx.2 hy.1;have a:(x.num*(y.den:Int)).natAbs=x.num.natAbs*y.den:=by rw[lT,nv]
  have b:(y.num*(x.den:Int)).natAbs=x.den*y.num.natAbs:=by rw[lT,nv,Nat.mul_comm]
  have:=Int.natAbs_add_le (x.num*(y.den:Int)) (y.num*(x.den:Int))
  rw[a,b]at this;rw[Nat.pow_succ];lia
 ·rw[Rat.den_add];refine kW (Nat.div_le_self _ _) (kW (eD hx.2 hy.2) (pow_le (by lia)))
theorem Bd.neg(hx:Bd m x):Bd m (-x):=⟨by rw[Rat.neg_num,Int.natAbs_neg];exact hx.1,hx.2⟩
theorem Bd.sub(hx:Bd m x)(hy:Bd n y):Bd (m+n+1) (x-y):=by
 rw[Rat.sub_eq_add_neg];exact hx.add hy.neg
theorem Bd.mul(hx:Bd m x)(hy:Bd n y):Bd (m+n) (x*y):=by
 constructor
 ·rw[Rat.num_mul];refine kW (gO _ _) ?_;rw[lT];exact eD hx.1 hy.1
 ·rw[Rat.den_mul];exact kW (Nat.div_le_self _ _) (eD hx.2 hy.2)
theorem Bd.inv(hx:Bd m x):Bd m x⁻¹:=by
 constructor
 ·rw[Rat.num_inv,lT,nv]
  have:x.num.sign.natAbs<=1:=by
   rcases Int.lt_trichotomy x.num 0 with h|h|h
   ·rw[Int.sign_eq_neg_one_of_neg h];decide
   ·rw[h];decide
   ·rw[Int.sign_eq_one_of_pos h];decide
  calc x.num.sign.natAbs*x.den<=1*x.den:=nD _ this
   _<=2^m:=by have:=hx.2;lia
 ·rw[Rat.den_inv];split
  ·exact Nat.one_le_two_pow
  ·exact hx.1
theorem Bd.div(hx:Bd m x)(hy:Bd n y):Bd (m+n) (x/y):=by
 rw[lO];exact hx.mul hy.inv
theorem Bd.zero:Bd 0 0:=⟨by decide,by decide⟩
theorem Bd.one:Bd 0 1:=⟨by decide,by decide⟩
end G
namespace G
theorem divInt_nn(n:Int)(h:0<d):0<=Rat.divInt n d↔0<=n:=Rat.divInt_nonneg_iff_of_pos_right h
theorem lt_div{a b c d:Int}(hb:0<b)(hd:0<d):Rat.divInt a b<Rat.divInt c d↔a*d<c*b:=by
 rw[<-Rat.not_le,Rat.le_iff_sub_nonneg,Rat.divInt_sub_divInt _ _ (by lia) (by lia),divInt_nn _ (nC hb hd)]
 lia
end G
namespace G
open PySem
theorem str_ext{x y:Str}(h:x.cps.toList=y.cps.toList):x=y:=by
 cases x;cases y;exact lW Str.mk (Array.toList_inj.mp h)
theorem cps_app(x y:Str):(x++y).cps.toList=x.cps.toList++y.cps.toList:=by
 show(x.cps++y.cps).toList=_;exact Array.toList_append
theorem app_left{x y z:Str}(h:x++y=x++z):y=z:=by
 have:=lW (λu:Str=>u.cps.toList) h
 simp only[cps_app]at this;exact str_ext (List.append_cancel_left this)
theorem app_right{x y z:Str}(h:x++y=z++y):x=z:=by
 have:=lW (λu:Str=>u.cps.toList) h
 simp only[cps_app]at this;exact str_ext (List.append_cancel_right this)
theorem rep_cps(c n:Nat):((List.replicate n #[c]).foldl (·++·) (#[]:Array Nat)).toList=List.replicate n c:=by
 have:∀(n:Nat)(a:Array Nat),((List.replicate n #[c]).foldl (·++·) a).toList=a.toList++List.replicate n c:=by
  intro n
  induction n with
  |zero=>intro a;simp
  |succ n ih=>
   intro a;rw[List.replicate_succ,nI,ih];simp[List.replicate_succ]
 simpa using this n #[]
theorem mul_cps(c:Nat)(n:Int):(Txt.mul ⟨#[c]⟩ n).cps.toList=List.replicate n.toNat c:=by
 unfold Txt.mul;by_cases h1:n<1
 ·rw[if_pos h1,show n.toNat=0 by lia];rfl
 ·rw[if_neg h1];by_cases h2:n=1
  ·subst h2;rfl
  ·rw[if_neg (by simp[h2,Str.length])];exact rep_cps c n.toNat
theorem len_cps(x:Str):x.length=x.cps.toList.length:=by show x.cps.size=_;rw[Array.length_toList]
noncomputable def sgs:Str:="abcdefghijklmnopqrstuvwxyz0123456789."
noncomputable def sgAt(i:Int):Nat:=sgs.cps.toList.getD i.toNat 0
noncomputable def turnK(k c:Int):Int:=(k*(1+c/5%36)+c/180)%37
theorem sgs_list:sgs.cps.toList=[97,98,99,100,101,102,103,104,105,106,107,108,109,110,111,112,113,114,115,116,117,118,119,120,121,122,48,49,50,51,52,53,54,55,56,57,46]:=by decide+kernel
theorem sgAt_some(h0:0<=i)(h1:i<37):L2.atI sgs.cps.toList i=some (sgAt i):=by
 obtain⟨n,rfl⟩:=mW h0;have a:n<37:=by lia
 refine L2.atI_nat ?_;unfold sgAt;rw[sgs_list,List.getD_eq_getElem?_getD,Int.toNat_natCast];rw[kR (by simpa using a)];rfl
theorem sgAt_inj:∀i<37,∀j<37,sgs.cps.toList.getD i 0=sgs.cps.toList.getD j 0->i=j:=by
 rw[sgs_list];decide+kernel
end G
namespace G
noncomputable def Cop(a b:Int):Prop:=∀d:Int,d∣a->d∣b->d∣1
theorem Cop.one{a b:Int}(h:gcd a b=1):Cop a b:=λd c e=>by
 have:=Int.dvd_coe_gcd c e
 rw[show((Int.gcd a b:Nat):Int)=1 from h]at this;exact this
theorem Cop.gcd{a b:Int}(h:Cop a b):Int.gcd a b=1:=by
 have c:=Int.eq_one_of_dvd_one (Int.natCast_nonneg _) (h _ (nJ a b) (Int.gcd_dvd_right a b))
 lia
theorem Cop.gauss(h:Cop d m)(hd:d∣m*n):d∣n:=by
 have e:=h.gcd;rw[<-Int.natAbs_dvd_natAbs]at hd⊢;rw[lT]at hd;exact Nat.Coprime.dvd_of_dvd_mul_left e hd
theorem Cop.quot(hc:c=G.gcd B b)(c0:c≠0)(hB:B=c*u)(hb:b=c*v):Cop u v:=λd h i=>by
 have k:c*d∣c:=by
  have:=Int.dvd_coe_gcd (a:=B) (b:=b) (c:=c*d) (by rw[hB];exact Int.mul_dvd_mul_left c h) (by rw[hb];exact Int.mul_dvd_mul_left c i)
  rw[show((Int.gcd B b:Nat):Int)=c from hc.symm]at this;exact this
 obtain⟨z,e⟩:=k;refine⟨z,?_⟩
 have:c*(d*z)=c*1:=by rw[<-nj,<-e,Int.mul_one]
 exact(Int.eq_of_mul_eq_mul_left c0 this).symm
theorem den_ne'(x:Rat):(x.den:Int)≠0:=by have:=x.den_nz;lia
structure TInv(x:Rat)(T B s:Int):Prop where
 pB:0<B
 ps:0<s
 r:∃r,B=s*r/\Cop T r
 v:Rat.divInt T B=x
theorem TInv.zero:TInv 0 0 1 1:=⟨by decide,by decide,⟨1,by decide,λd _ h=>h⟩,by rw[Rat.zero_divInt]⟩
theorem fdiv_mul{c k:Int}(h:c≠0):(c*k).fdiv c=k:=by rw[mf,Int.mul_fdiv_cancel _ h]
theorem TInv.step(I:TInv x T B s):
  TInv (x+y) (T*(y.den:Int).fdiv (gcd B y.den)+y.num*B.fdiv (gcd B y.den)) (B*(y.den:Int).fdiv (gcd B y.den)) (s*(gcd B y.den).fdiv (gcd s (gcd B y.den))):=by
 obtain⟨pB,ps,⟨r,R,U⟩,hv⟩:=I;have yp:=den_pos y
 have A:0<gcd B y.den:=by
  have:=Int.gcd_pos_of_ne_zero_left (y.den:Int) (show B≠0 by lia)
  unfold gcd;lia
 generalize G:gcd B y.den=c at A⊢;have D:=G.symm;have dB:c∣B:=by rw[D];exact nJ _ _
 have S:c∣(y.den:Int):=by rw[D];exact Int.gcd_dvd_right _ _
 obtain⟨u,t⟩:=dB;obtain⟨v,h⟩:=S;have F:c≠0:=by lia
 have J:Cop u v:=Cop.quot D F t h;have Y:(y.den:Int).fdiv c=v:=by rw[h,fdiv_mul F]
 have eB:B.fdiv c=u:=by rw[t,fdiv_mul F]
 have up:0<u:=Int.pos_of_mul_pos_left (by rw[mf,<-t];exact pB) A;have N:0<v:=Int.pos_of_mul_pos_left (by rw[mf,<-h];exact yp) A;rw[Y,eB]
 have gp:0<gcd s c:=by
  have:=Int.gcd_pos_of_ne_zero_left c (show s≠0 by lia)
  unfold gcd;lia
 generalize L:gcd s c=g at gp⊢;have K:=L.symm;have d1:g∣s:=by rw[K];exact nJ _ _
 have d2:g∣c:=by rw[K];exact Int.gcd_dvd_right _ _
 obtain⟨q,o⟩:=d1;obtain⟨j,i⟩:=d2;have H:g≠0:=by lia
 have cs:Cop q j:=Cop.quot K H o i;have ec:c.fdiv g=j:=by rw[i,fdiv_mul H]
 rw[ec];have E:0<j:=Int.pos_of_mul_pos_left (by rw[mf,<-i];exact A) gp;have aa:0<q:=Int.pos_of_mul_pos_left (by rw[mf,<-o];exact ps) gp
 have Q:j*u=q*r:=by
  apply Int.eq_of_mul_eq_mul_left H
  rw[<-nj,<-nj,<-i,<-o,<-t,R]
 have k1:j∣r:=Cop.gauss (d:=j) (m:=q) (λd a b=>cs d b a) ⟨u,Q.symm⟩;obtain⟨z,l⟩:=k1
 have e2:u=q*z:=by
  apply Int.eq_of_mul_eq_mul_left (show j≠0 by lia)
  rw[Q,l,<-nj,<-nj,mf q j]
 refine⟨nC pB N,nC ps E,⟨z*v,?_,?_⟩,?_⟩
 ·rw[R,l];simp only[nj]
 ·intro d P h2
  have w:Cop d v:=λe he p=>by
   have O:e∣y.num*u:=by
    have:=Int.dvd_sub (mG he P) (mG p (nK T v))
    rw[Int.add_comm,Int.add_sub_cancel]at this;exact this
   rw[mf]at O;have z2:e∣y.num:=Cop.gauss (λf h3 Z=>J f Z (mG h3 p)) O;exact Cop.one (gcd_den y) e z2 (by rw[h];exact mG p (nK c v))
  have M:d∣z:=Cop.gauss w (by rw[mf];exact h2);have z4:d∣u:=by rw[e2];exact mG M (nK q z)
  have X:d∣v*T:=by
   have:=Int.dvd_sub P (mG z4 (nK y.num u))
   rw[Int.add_sub_cancel,mf]at this;exact this
  exact U d (Cop.gauss w X) (by rw[l];exact mG M (nK j z))
 ·rw[<-hv]
  conv=>rhs;rw[<-Rat.num_divInt_den y]
  rw[Rat.divInt_add_divInt _ _ (show B≠0 by lia) (den_ne' y),Rat.divInt_eq_divInt_iff (show B*v≠0 by have:=nC pB N;lia) (Int.mul_ne_zero (by lia) (den_ne' y)),h,t];grind
theorem TInv.fin(I:TInv x T B s):T.fdiv (gcd T s)=x.num/\B.fdiv (gcd T s)=(x.den:Int):=by
 obtain⟨pB,ps,⟨r,c,j⟩,h⟩:=I
 have e:gcd T s=gcd T B:=by
  refine Int.dvd_antisymm (gcd_nonneg _ _) (gcd_nonneg _ _) (Int.dvd_coe_gcd (nJ _ _) (mG (Int.gcd_dvd_right _ _) ⟨r,c⟩)) (Int.dvd_coe_gcd (nJ _ _) ?_);refine Cop.gauss (m:=r) (λd i l=>j d (mG i (nJ _ _)) l) ?_;rw[mf,<-c];exact Int.gcd_dvd_right _ _
 obtain⟨b,a⟩:=init_spec T B (by lia);rw[if_neg (by lia),h]at b a;rw[e];exact⟨b,a⟩
end G
namespace G
open PySem L2
theorem sum_snoc(xs:List Rat)(a:Rat):(xs++[a]).sum=xs.sum+a:=by
 induction xs with
 |nil=>simp;grind
 |cons x xs ih=>rw[List.cons_append,List.sum_cons,List.sum_cons,ih];grind
noncomputable def addK(ks:List Str)(n:Str):List Str:=if n∈ks then ks else ks++[n]
noncomputable def cB(ns:List Str):List Str:=ns.foldl addK []
theorem jj(ns:List Str)(n:Str):cB (ns++[n])=addK (cB ns) n:=by unfold cB;rw[mT];rfl
theorem mem_addK:m∈addK ks n↔m∈ks∨m=n:=by
 unfold addK
 split
 ·exact⟨.inl,λh=>h.elim id λe=>by rw[e];assumption⟩
 ·simp
theorem nodup_addK(h:ks.Nodup):(addK ks n).Nodup:=by
 unfold addK
 split
 ·exact h
 ·rename_i b;exact lV.mpr ⟨h,by simp,λx c y a e=>b (by rw[kS.mp a]at e;rw[<-e];exact c)⟩
theorem len_addK(ks:List Str)(n:Str):(addK ks n).length<=ks.length+1:=by
 unfold addK
 split
 ·lia
 ·simp
theorem mem_fold{ns:List Str}:∀{ks:List Str}{m:Str},m∈ns.foldl addK ks↔m∈ks∨m∈ns:=by
 induction ns with
 |nil=>intro ks m;simp
 |cons n ns ih=>intro ks m;rw[nI,ih,mem_addK,lx,or_assoc]
theorem mem_keysOf:m∈cB ns↔m∈ns:=by unfold cB;rw[mem_fold];simp
theorem nodup_fold{ns:List Str}:∀{ks:List Str},ks.Nodup->(ns.foldl addK ks).Nodup:=by
 induction ns with
 |nil=>intro ks h;exact h
 |cons n ns ih=>intro ks h;exact ih (nodup_addK h)
theorem gm(ns:List Str):(cB ns).Nodup:=nodup_fold mB
theorem len_fold{ns:List Str}:∀{ks:List Str},(ns.foldl addK ks).length<=ks.length+ns.length:=by
 induction ns with
 |nil=>intro ks;exact kM _
 |cons n ns ih=>intro ks;have a:=ih (ks:=addK ks n);have b:=len_addK ks n;rw[nI,lR];lia
theorem fJ(ns:List Str):(cB ns).length<=ns.length:=by unfold cB;have:=len_fold (ns:=ns) (ks:=[]);simpa using this
noncomputable def upf{α:Type}(f:Str->α)(n:Str)(y:α):Str->α:=λm=>if m=n then y else f m
theorem upf_same:upf f n y n=y:=if_pos rfl
theorem upf_ne(h:m≠n):upf f n y m=f m:=if_neg h
structure Tab{α:Type}(R:Hp->V->α->Prop)(H:Hp)(kvs:List (Key×V))(ks:List Str)(f:Str->α):Prop where
 keys:kvs.map (·.1)=ks.map (λn=>(Sum.inr n:Key))
 vals:∀n∈ks,∃v,dF kvs (Sum.inr n:Key)=some v/\R H v (f n)
section
variable{α:Type}{R:Hp->V->α->Prop}{H H':Hp}{kvs:List (Key×V)}{ks:List Str}{f:Str->α}{n:Str}{v:V}{y:α}
theorem Tab.mono(t:Tab R H kvs ks f)(h:∀v x,R H v x->R H' v x):Tab R H' kvs ks f:=⟨t.keys,λn a=>let⟨v,e,r⟩:=t.vals n a;⟨v,e,h _ _ r⟩⟩
theorem Tab.congr(t:Tab R H kvs ks f)(h:∀n∈ks,f n=g n):Tab R H kvs ks g:=⟨t.keys,λn a=>let⟨v,e,r⟩:=t.vals n a;⟨v,e,by rw[<-h n a];exact r⟩⟩
theorem Tab.nil:Tab R H [] [] f:=⟨rfl,λn h=>absurd h lA⟩
theorem inr_in:(Sum.inr n:Key)∈ks.map (λn=>(Sum.inr n:Key))↔n∈ks:=by
 constructor
 ·intro h;obtain⟨y,a,e⟩:=kQ.mp h;rw[<-nO e];exact a
 ·exactλh=>kQ.mpr ⟨n,h,rfl⟩
theorem Tab.none(t:Tab R H kvs ks f)(h:¬n∈ks):dF kvs (Sum.inr n:Key)=none:=by
 cases e:dF kvs (Sum.inr n:Key)with
 |none=>rfl
 |some v=>
  have:=valV_in e
  rw[t.keys]at this;exact absurd (inr_in.mp this) h
theorem Tab.len(t:Tab R H kvs ks f):kvs.length=ks.length:=by have:=lW List.length t.keys;rwa[kK,kK]at this
theorem Tab.put(t:Tab R H kvs ks f)(r:R H v y):Tab R H (cY kvs (Sum.inr n:Key) v) (addK ks n) (upf f n y):=by
 refine⟨?_,λm b=>?_⟩
 ·by_cases hn:n∈ks
  ·obtain⟨u,e,_⟩:=t.vals n hn;unfold cY addK;rw[fO,e,if_pos (show(some u).isSome=true from rfl),if_pos hn,<-t.keys,lY];refine List.map_congr_left λa _=>?_;show(if a.1=_ then _ else _:Key×V).1=a.1
   split<;>rfl
  ·rw[im _ (t.none hn)];unfold addK;rw[if_neg hn,kO,kO,t.keys];rfl
 ·rw[valV_put];by_cases e:m=n
  ·subst e;rw[if_pos rfl,upf_same];exact⟨v,rfl,r⟩
  ·rw[if_neg λz=>e (nO z),upf_ne e];exact t.vals m ((mem_addK.mp b).resolve_right e)
theorem val_idx[DecidableEq κ]:∀{kvs:List (κ×V)}{i:Nat}{kv:κ×V},(kvs.map (·.1)).Nodup->kvs[i]?=some kv->dF kvs kv.1=some kv.2
 |[],_,_,_,e=>by simp at e
 |p::r,0,kv,_,e=>by
  simp at e;subst e;exact dI rfl
 |p::r,i+1,kv,nd,e=>by
  have e:r[i]?=some kv:=by simpa using e
  obtain⟨a,b⟩:=me.mp (show(p.1::r.map (·.1)).Nodup from nd);rw[dJ λz=>a (by rw[z];exact kQ.mpr ⟨kv,kN e,rfl⟩)];exact val_idx b e
theorem Tab.at_{i:Nat}(t:Tab R H kvs ks f)(nd:ks.Nodup)(e:kvs[i]?=some kv):∃n,ks[i]?=some n/\kv.1=Sum.inr n/\dF kvs (Sum.inr n:Key)=some kv.2/\R H kv.2 (f n):=by
 have a:i<ks.length:=by rw[<-t.len];exact(kL.mp e).1
 have c:kv.1=Sum.inr ks[i]:=by
  have g:=lW (λl=>l[i]?) t.keys;simp only[kP,e,kR a,ml]at g;exact lJ g
 have b:(kvs.map (·.1)).Nodup:=by
  rw[t.keys];exact nd.map _ (λu v h e=>h (nO e))
 have ev:=val_idx b e;rw[c]at ev;obtain⟨v,j,r⟩:=t.vals _ (List.getElem_mem a);rw[ev]at j
 cases j;exact⟨ks[i],kR a,c,ev,r⟩
end
theorem gr{ks:List Str}(nd:ks.Nodup)(e:ks[i]?=some n):ks.take (i+1)=ks.take i++[n]/\¬n∈ks.take i:=by
 have c:=(kL.mp e).1;refine⟨by rw[kX,e];rfl,λm=>?_⟩;obtain⟨j,a⟩:=lL.mp m
 have b:j<i:=by
  have:=(kL.mp a).1
  rw[k8]at this
  lia
 rw[mO,if_pos b]at a
 have:=(mo (by lia) nd).mp (a.trans e.symm)
 lia
theorem gS(h:¬n∈ks):addK ks n=ks++[n]:=if_neg h
noncomputable def KeepD(H H':Hp):Prop:=∀b ob,H b=some ob->(∀kvs,ob≠.dK kvs)->(∀o u,ob≠.frz o u)->H' b=some ob
theorem KeepD.of(s:Same H H'):KeepD H H':=λb a e _ _=>s b a e
theorem KeepD.trans(s:KeepD H H')(t:KeepD H' H''):KeepD H H'':=λb c e a h=>t b c (s b c e a h) a h
theorem KeepD.put(hd:H d=some (.dK kvs)):KeepD H (upd H d o):=λb c e a _=>by
 have:b≠d:=λz=>by rw[z,hd]at e;exact a kvs (lJ e).symm
 rw[aG this];exact e
theorem KeepD.frz(hd:H d=some (.frz ob u)):KeepD H (upd H d o):=λb a e _ c=>by
 have:b≠d:=λz=>by rw[z,hd]at e;exact c _ _ (lJ e).symm
 rw[aG this];exact e
noncomputable def occ(zs:List (Str×Rat))(n:Str):List Rat:=(zs.filter (λz=>decide (z.1=n))).map (·.2)
theorem occ_snoc(zs:List (Str×Rat))(m n:Str)(y:Rat):occ (zs++[(m,y)]) n=if m=n then occ zs n++[y]else occ zs n:=by
 unfold occ;rw[nL,kO];by_cases h:m=n
 ·rw[if_pos h];simp[h]
 ·rw[if_neg h];simp[h]
theorem occ_none(h:¬n∈zs.map (·.1)):occ zs n=[]:=by
 unfold occ;rw[List.filter_eq_nil_iff.mpr,nG];intro z a e;exact h (kQ.mpr ⟨z,a,of_decide_eq_true e⟩)
inductive BdS:List Rat->Nat->Prop
 |nil:BdS [] 0
 |snoc{xs:List Rat}{N m:Nat}{x:Rat}:BdS xs N->Bd m x->BdS (xs++[x]) (N+(m+1))
theorem BdS.fn(h:BdS xs N):∃S:Nat->Nat,S 0=0/\(∀i,i<=xs.length->S i<=N)/\∀i y,xs[i]?=some y->∃m,Bd m y/\S i+(m+1)<=S (i+1):=by
 induction h with
 |nil=>exact⟨λ_=>0,rfl,λ_ _=>kY _,λi y e=>by simp at e⟩
 |@snoc xs N m x _ b ih=>
  obtain⟨S,o,l,s⟩:=ih;refine⟨λj=>if j<=xs.length then S j else N+(m+1),by simp[o],λi c=>?_,λi y e=>?_⟩
  ·show(if i<=xs.length then S i else N+(m+1))<=_
   split
   ·rename_i h
    have:=l i h
    lia
   ·exact kM _
  ·show∃a,Bd a y/\(if i<=xs.length then S i else N+(m+1))+(a+1)<=(if i+1<=xs.length then S (i+1)else N+(m+1));have c:=(kL.mp e).1;rw[k5,lR,List.length_nil]at c;by_cases hl:i<xs.length
   ·rw[mN hl]at e;obtain⟨a,r,q⟩:=s i y e;exact⟨a,r,by rw[if_pos (by lia),if_pos (by lia)];exact q⟩
   ·have p:i=xs.length:=by lia
    subst p;rw[mh (kM _),Nat.sub_self]at e
    have:x=y:=by simpa using e
    subst this;refine⟨m,b,?_⟩;rw[if_pos (kM _),if_neg (by lia)]
    have:=l _ (kM _)
    lia
end G
namespace G
open PySem L2
noncomputable def Sm(i:Int):Prop:=i.natAbs<2^16000000
noncomputable def SmR(x:Rat):Prop:=Sm x.num/\Sm (x.den:Int)
theorem Sm.le{a b:Int}(h:Sm b)(l:a.natAbs<=b.natAbs):Sm a:=lQ l h
theorem fN(a:Int)(hb:0<b)(ha:0<=a):(a.fdiv b).natAbs<=a.natAbs:=by
 rw[Int.fdiv_eq_ediv_of_nonneg a (Int.le_of_lt hb)];have c:=Int.ediv_nonneg ha (Int.le_of_lt hb);have e:=Int.ediv_le_self b ha
 lia
theorem fdiv_le'(a:Int)(hb:0<b)(hd:b∣a):(a.fdiv b).natAbs<=a.natAbs:=by
 obtain⟨k,rfl⟩:=hd;have e:(b*k).fdiv b=k:=by rw[mf,Int.mul_fdiv_cancel _ (by omega)]
 rw[e,lT];exact Nat.le_mul_of_pos_left _ (by omega)
theorem eI(a:Int)(h:b≠0):0<gcd a b:=by
 have:=Int.gcd_pos_of_ne_zero_right a h
 unfold gcd;lia
theorem gcd_le_r(a:Int)(h:b≠0):(gcd a b).natAbs<=b.natAbs:=by
 have:=Int.gcd_le_natAbs_right a h
 unfold gcd;omega
theorem gcd_dvd_l(a b:Int):gcd a b∣a:=nJ a b
theorem Sm.gcd_r(a:Int)(h:b≠0)(s:Sm b):Sm (gcd a b):=s.le (gcd_le_r a h)
theorem jm(x:Rat):(x.den:Int)≠0:=by have:=x.den_nz;lia
theorem tb:¬(("top":Str)="bottom"):=by decide+kernel
noncomputable def ff(t b:Int):List (Str×V):=[("top",.int t),("bottom",.int b)]
theorem ff_T(t b:Int):(ff t b).lookup ("top":Str)=some (.int t):=rfl
theorem ff_B(t b:Int):(ff t b).lookup ("bottom":Str)=some (.int b):=by
 have h:(("bottom":Str)=="top")=false:=by decide+kernel
 show List.lookup ("bottom":Str) [(("top":Str),V.int t),("bottom",V.int b)]=_;rw[lK,h];rfl
theorem ff_no(t b:Int){m:Str}(h1:(m=="top")=false)(h2:(m=="bottom")=false):(ff t b).lookup m=none:=by
 show List.lookup m [(("top":Str),V.int t),("bottom",V.int b)]=_;rw[lK,h1,lK,h2];rfl
theorem ff_new(t b:Int):cD "bottom" (.int b) (cD "top" (.int t) [])=ff t b:=by
 show(if("top":Str)="bottom"then _ else(("top":Str),V.int t)::[(("bottom":Str),V.int b)])=ff t b;rw[if_neg tb];rfl
theorem ff_put(a c t b:Int):cD "bottom" (.int b) (cD "top" (.int t) (ff a c))=ff t b:=by
 show cD "bottom" (.int b) (if("top":Str)="top"then(("top":Str),V.int t)::[(("bottom":Str),V.int c)]else _)=ff t b;rw[if_pos rfl];show(if("top":Str)="bottom"then _ else(("top":Str),V.int t)::(if("bottom":Str)="bottom"then(("bottom":Str),V.int b)::[]else _))=ff t b;rw[if_neg tb,if_pos rfl];rfl
noncomputable def FrAt(C:Addr)(H:Hp)(p:Addr)(x:Rat):Prop:=∃dx,H p=some (.ins C dx (ff x.num x.den))
theorem FrAt.mono(h:FrAt C H p x)(s:Same H H'):FrAt C H' p x:=by
 obtain⟨dx,e⟩:=h;exact⟨dx,s _ _ e⟩
theorem FrAt.up(s:Same H H')(h:FrAt C H p x):FrAt C H' p x:=h.mono s
structure FrC(K:W.Frag)(C:Addr):Prop where
 cl:Cls K C
 nT:NoAttr K C "top"
 nB:NoAttr K C "bottom"
 c1:PySem.W.findIn K (.ref C) "__class__"=some (some (.builtin "object.__class__"))
 c2:PySem.W.specialIn K (.builtin "object.__class__") "__get__"=some (some (.builtin "getset_descriptor.__get__"))
 c3:PySem.W.takesIn K (.builtin "object.__class__")=some true
 c4:PySem.W.mroIn K C (.type "object")=some true
theorem FrAt.ty{K:W.Frag}(F:FrC K C)(h:FrAt C H p x):TyOf K H (.ref p) (.ref C):=by
 obtain⟨_,e⟩:=h;exact TyOf.ins e F.cl F.c1 F.c2 F.c3 F.c4
noncomputable def tTop(C:Addr)(ta:TE):TE:=λσ H Q=>ta σ H λv H1=>∃p x,v=.ref p/\FrAt C H1 p x/\Q (.int x.num) H1
noncomputable def tBot(C:Addr)(ta:TE):TE:=λσ H Q=>ta σ H λv H1=>∃p x,v=.ref p/\FrAt C H1 p x/\Q (.int x.den) H1
section
variable{X:Cx}{C:Addr}{e o:Expr}{ta:TE}{pos:Pos}
theorem dY(F:FrC X.K C)(he:PE X e ta)(hb:attributeBase e "top" X.env (eval e X.env)=eval e X.env:=by rfl):PE X (.Attribute e "top" pos) (tTop C ta):=by
 intro a s σ H Q I h;refine attr_of hb (thn (he a s σ H _ I h) λu t⟨v,i,l,r,p,x,e,⟨o,b⟩,q⟩=>?_);subst e;obtain rfl:u=Value.ref p:=r;exact jY l b F.cl F.nT (ff_T _ _) λm w j c=>⟨_,i,j,c,q⟩
theorem dR(F:FrC X.K C)(he:PE X e ta)(hb:attributeBase e "bottom" X.env (eval e X.env)=eval e X.env:=by rfl):PE X (.Attribute e "bottom" pos) (tBot C ta):=by
 intro a s σ H Q I h;refine attr_of hb (thn (he a s σ H _ I h) λu t⟨v,i,l,r,p,x,e,⟨o,b⟩,q⟩=>?_);subst e;obtain rfl:u=Value.ref p:=r;exact jY l b F.cl F.nB (ff_B _ _) λm w j c=>⟨_,i,j,c,q⟩
noncomputable def tFrM(C:Addr)(sp:Sp)(E:XK)(ta:TE)(t:TA):TE:=λσ H Q=>ta σ H λv H1=>∃p x,v=.ref p/\FrAt C H1 p x/\t σ H1 λvs H2=>sp (v::vs) H2 Q E
variable{CX:CXT}{k j:Nat}{ps:List Str}{sp:Sp}{E:XK}{m:Str}{p apos:Pos}{es:List Expr}{t:TA}
theorem cM(F:FrC X.K C)(he:PE X o ta)(M:MtB X.prog X.w X.K X.mg X.base CX C m k ps sp)(hr:Room j X.A)(hx:fB CX X E)(ha:PA X (e::es) t)(hj:k<=j:=by decide)(h1:(m=="top")=false:=by decide+kernel)(h2:(m=="bottom")=false:=by decide+kernel)
  (hst:starEach (e::es) X.env=(false,eval e X.env)::starEach es X.env:=by rfl)(hpl:(backTo pos (starEach es X.env)).any (·.1)=false:=by rfl)
  (ht:eval (.Call (.Attribute o m apos) (e::es) [] pos) X.env=(do
   let ov<-eval o X.env
   standAt apos.atName
   let(f,first)<-holding [ov] (getMethod ov m pl)
   callWith pos f first (backTo pos (starEach (e::es) X.env)) (backToKw pos (keywordEach [] X.env))):=by rfl):PE X (.Call (.Attribute o m apos) (e::es) [] pos) (tFrM C sp E ta t):=by
 obtain⟨f,D,i,b,d⟩:=M;intro c s σ H Q I h;refine PySem.W.methodCall_KW (pl:=pl) (thn (he c s σ H _ I h) λu z⟨v,y,p,w,a,x,ex,⟨J,B⟩,q⟩=>?_) ht;subst ex;obtain rfl:u=Value.ref a:=w;refine iK p B F.cl i (ff_no _ _ h1 h2) ?_;refine PySem.W.callWith_K (first:=[.ref a]) (h₀:=X.base) I.ok.mod.kin i.kp (thn (ha pos c z σ y _ p q) λus G⟨vs,K,l,r,A⟩=>⟨l.kIn,?_⟩) hst hpl;exact run_fn (us:=.ref a::us) (vs:=.ref a::vs) (dvs:=[]) d (hr.mono hj) b .nil hx l (.cons rfl r) (by simpa using A)
theorem eV(F:FrC X.K C)(he:PE X o ta)(M:MtB X.prog X.w X.K X.mg X.base CX C m k ps sp)(hr:Room j X.A)(hx:fB CX X E)(hj:k<=j:=by decide)(h1:(m=="top")=false:=by decide+kernel)(h2:(m=="bottom")=false:=by decide+kernel)
  (ht:eval (.Call (.Attribute o m apos) [] [] pos) X.env=(do
   let ov<-eval o X.env
   standAt apos.atName
   let(f,first)<-holding [ov] (getMethod ov m pl)
   callWith pos f first (backTo pos (starEach [] X.env)) (backToKw pos (keywordEach [] X.env))):=by rfl):PE X (.Call (.Attribute o m apos) [] [] pos) (tFrM C sp E ta tNil):=by
 obtain⟨f,r,i,b,d⟩:=M;intro c s σ H Q I h;refine PySem.W.methodCall_KW (pl:=pl) (thn (he c s σ H _ I h) λu y⟨v,t,e,l,a,x,ex,⟨w,p⟩,q⟩=>?_) ht;subst ex;obtain rfl:u=Value.ref a:=l;refine iK e p F.cl i (ff_no _ _ h1 h2) ?_;exact PySem.W.callWith_K0 (first:=[.ref a]) e.kIn i.kp (run_fn (us:=[.ref a]) (vs:=[.ref a]) (dvs:=[]) d (hr.mono hj) b .nil hx e (.cons rfl .nil) q)
noncomputable def spDiv:Sp:=λvs H Q _=>∃a b:Int,vs=[.int a,.int b]/\Q (.int (gcd a b)) H
noncomputable def spInit(C:Addr):Sp:=λvs H Q _=>∃(p dx:Addr)(a b:Int),vs=[.ref p,.int a,.int b]/\H p=some (.ins C dx [])/\b≠0/\Sm b/\∀H',H'=upd H p (.ins C dx (ff (Rat.divInt a b).num (Rat.divInt a b).den))->Q .non H'
noncomputable def NewFr(C:Addr)(H:Hp)(Q:VK)(x:Rat):Prop:=∀(r:Addr)(H':Hp),H r=none->Same H H'->FrAt C H' r x->Q (.ref r) H'
noncomputable def spLow(C:Addr):Sp:=λvs H Q _=>∃t b:Int,vs=[.int t,.int b]/\∀(r dx:Addr)(H':Hp),H r=none->Same H H'->H' r=some (.ins C dx (ff t b))->Q (.ref r) H'
noncomputable def spR2(C:Addr)(f:Rat->Rat->Rat)(pre:Rat->Rat->Prop):Sp:=λvs H Q _=>∃(p q:Addr)(x y:Rat),vs=[.ref p,.ref q]/\FrAt C H p x/\FrAt C H q y/\SmR x/\SmR y/\pre x y/\NewFr C H Q (f x y)
theorem mk_fr{a b:Int}(nx:H x=none)(nd:H dx=none)(hb:b≠0)(hs:Sm b)(k:∀H':Hp,Same H H'->FrAt C H' x (Rat.divInt a b)->Q .non H'):
  spInit C [.ref x,.int a,.int b] (upd (upd H dx (.own x)) x (.ins C dx [])) Q E:=by
 refine⟨x,dx,a,b,rfl,aE,hb,hs,λH' e=>?_⟩;subst e;refine k _ (λc o e=>?_) ⟨dx,aE⟩;rw[aG (aN e nx),aG (aN e nx),aG (aN e nd)];exact e
noncomputable def tMkFr(C:Addr)(dvs:List V)(t:TA):TE:=λσ H Q=>t σ H λvs H1=>∃a b:Int,vs++dvs=[.int a,.int b]/\b≠0/\Sm b/\NewFr C H1 Q (Rat.divInt a b)
theorem cL(F:MkB X.prog X.w X.K X.mg X.base CX C k ["self","top","bottom"] dvs (spInit C))(hr:Room j X.A)(hm:X.mg x=some (.ref C))(hx:fB CX X E)(ha:PA X (e::es) t)(hj:k+1<=j:=by decide)(hg:Gl X x:=by rfl)(hdb:(x==("__debug__":Str))=false:=by decide)
  (he:starEach (e::es) X.env=(false,eval e X.env)::starEach es X.env:=by rfl)(hpl:(backTo pos (starEach es X.env)).any (·.1)=false:=by rfl):PE X (.Call (.Name x p) (e::es) [] pos) (tMkFr C dvs t):=by
 obtain⟨f,D,B,M,b,c,d⟩:=F;intro a s σ H Q I h;refine wpAny_Call_Name_kw (kF I hg hm ?_ hdb);refine PySem.W.callWith_K (h₀:=X.base) I.ok.mod.kin M.kp (thn (ha pos a s σ H _ I h) λG O⟨J,K,l,r,P,L,ev,w,hs,q⟩=>⟨l.kIn,?_⟩) he hpl;refine run_make M d (hr.mono hj) b c hx l r λy N i z _=>?_;rw[ev];exact mk_fr i z w hs λo A m=>⟨rfl,q y o i A m⟩
end
end G
namespace G
open PySem L2
noncomputable def bI(i:Nat):Stmt:=PySem.Challenge.pw_gainstream_k37_whole_apart_and_together.main.body.getD i (.Pass ⟨0,0,0,0⟩)
noncomputable abbrev s_divisor:Stmt:=bI 12
noncomputable abbrev gZ:Stmt:=bI 14
noncomputable abbrev s_total:Stmt:=bI 15
noncomputable abbrev s_amount:Stmt:=bI 17
noncomputable abbrev gY:Stmt:=bI 18
noncomputable abbrev fQ:Stmt:=bI 19
noncomputable abbrev gC:Stmt:=bI 20
noncomputable abbrev s_sums:Stmt:=bI 21
noncomputable abbrev s_together:Stmt:=bI 22
noncomputable abbrev s_scaled:Stmt:=bI 23
noncomputable abbrev kh:Stmt:=bI 25
noncomputable abbrev s_ways_of:Stmt:=bI 27
noncomputable abbrev s_places_of:Stmt:=bI 28
noncomputable abbrev s_gain_of:Stmt:=bI 29
noncomputable abbrev ku:Stmt:=bI 30
noncomputable abbrev s_is_path:Stmt:=bI 31
noncomputable abbrev s_is_ring:Stmt:=bI 32
noncomputable abbrev s_sent:Stmt:=bI 33
noncomputable abbrev s_is_walk:Stmt:=bI 35
noncomputable abbrev s_growth:Stmt:=bI 36
noncomputable abbrev i6:Stmt:=bI 37
noncomputable abbrev s_is_round:Stmt:=bI 38
noncomputable abbrev ki:Stmt:=bI 39
noncomputable abbrev s_is_road:Stmt:=bI 40
noncomputable abbrev s_is_strand:Stmt:=bI 41
noncomputable abbrev s_head_plan:Stmt:=bI 42
noncomputable abbrev s_tail_plan:Stmt:=bI 43
noncomputable abbrev s_road_plan:Stmt:=bI 44
noncomputable abbrev jE:Stmt:=bI 45
noncomputable abbrev i3:Stmt:=bI 48
noncomputable abbrev s_least:Stmt:=bI 49
noncomputable abbrev s_by_start:Stmt:=bI 50
noncomputable abbrev s_ring_in:Stmt:=bI 51
noncomputable abbrev kj:Stmt:=bI 52
noncomputable abbrev s_less:Stmt:=bI 53
noncomputable abbrev jD:Stmt:=bI 55
noncomputable abbrev i4:Stmt:=bI 56
noncomputable abbrev iN:Stmt:=bI 65
noncomputable abbrev s_check_way:Stmt:=bI 66
noncomputable abbrev iZ:Stmt:=bI 67
noncomputable abbrev jI:Stmt:=bI 70
noncomputable abbrev s_law_names:Stmt:=bI 71
noncomputable abbrev s_law_gain:Stmt:=bI 72
noncomputable abbrev kr:Stmt:=bI 73
noncomputable abbrev s_law_way:Stmt:=bI 74
noncomputable abbrev s_law_plus:Stmt:=bI 75
noncomputable abbrev s_law_times:Stmt:=bI 76
noncomputable abbrev s_law_ways:Stmt:=bI 77
noncomputable abbrev iO:Stmt:=bI 78
noncomputable abbrev i5:Stmt:=bI 79
noncomputable abbrev s_law_net:Stmt:=bI 80
noncomputable abbrev s_law_ring:Stmt:=bI 81
noncomputable abbrev km:Stmt:=bI 82
noncomputable abbrev jF:Stmt:=bI 83
noncomputable abbrev kq:Stmt:=bI 84
noncomputable abbrev jG:Stmt:=bI 85
noncomputable abbrev s_law_send:Stmt:=bI 86
noncomputable abbrev jH:Stmt:=bI 87
noncomputable abbrev s_law_is:Stmt:=bI 88
noncomputable abbrev s_law_plan:Stmt:=bI 89
noncomputable abbrev ib:Stmt:=bI 90
noncomputable abbrev s_law:Stmt:=bI 91
noncomputable abbrev iS:Stmt:=bQ (bI 13) 0
noncomputable abbrev iQ:Stmt:=bQ (bI 13) 1
noncomputable abbrev ij:Stmt:=bQ (bI 13) 2
noncomputable abbrev ii:Stmt:=bQ (bI 13) 3
noncomputable abbrev iR:Stmt:=bQ (bI 13) 4
noncomputable abbrev ig:Stmt:=bQ (bI 13) 5
noncomputable abbrev iP:Stmt:=bQ (bI 13) 7
noncomputable abbrev s_End_init:Stmt:=bQ (bI 47) 0
noncomputable abbrev jJ:Stmt:=bQ (bI 54) 0
noncomputable abbrev ie:Stmt:=bQ (bI 54) 1
noncomputable abbrev gF:Stmt:=bQ (bI 54) 2
noncomputable abbrev ic:Stmt:=bQ (bI 54) 3
noncomputable abbrev gD:Stmt:=bQ (bI 54) 4
noncomputable abbrev gG:Stmt:=bQ (bI 54) 5
noncomputable abbrev iF:Stmt:=bQ (bI 58) 0
noncomputable abbrev s_Way_may_stay:Stmt:=bQ (bI 58) 1
noncomputable abbrev s_Way_gain:Stmt:=bQ (bI 58) 2
noncomputable abbrev gw:Stmt:=bQ (bI 58) 3
noncomputable abbrev gI:Stmt:=bQ (bI 59) 0
noncomputable abbrev i8:Stmt:=bQ (bI 59) 1
noncomputable abbrev gH:Stmt:=bQ (bI 60) 0
noncomputable abbrev fj:Stmt:=bQ (bI 60) 1
noncomputable abbrev s_Store_init:Stmt:=bQ (bI 61) 0
noncomputable abbrev s_Store_may_stay:Stmt:=bQ (bI 61) 1
noncomputable abbrev s_Net_init:Stmt:=bQ (bI 68) 0
noncomputable abbrev s_Net_names:Stmt:=bQ (bI 68) 1
noncomputable abbrev s_Net_want:Stmt:=bQ (bI 68) 2
noncomputable abbrev s_Net_way:Stmt:=bQ (bI 68) 3
noncomputable abbrev i7:Stmt:=bQ (bI 68) 4
structure Ad where
 Fraction:Addr
 End:Addr
 Taking:Addr
 Way:Addr
 Growing:Addr
 Leaking:Addr
 Store:Addr
 Net:Addr
 GainError:Addr
 NoNumber:Addr
 TooMany:Addr
 NoStrand:Addr
 NoWay:Addr
 Broken:Addr
 Twice:Addr
 NoPlace:Addr
 OverBound:Addr
structure TX(K:W.Frag)(mg:Str->Option Value)(a:Ad):Prop where
 d_divisor:FDe K mg "divisor" s_divisor ["one","other"]
 d_in_lowest_terms:FDe K mg "in_lowest_terms" gZ ["top","bottom"]
 d_total:FDe K mg "total" s_total ["some"]
 d_amount:FDe K mg "amount" s_amount ["plan","name"]
 d_without_noughts:FDe K mg "without_noughts" gY ["plan"]
 d_refuse_other_names:FDe K mg "refuse_other_names" fQ ["net","plan"]
 d_sums_of_own_ways:FDe K mg "sums_of_own_ways" gC ["net","plan"]
 d_sums:FDe K mg "sums" s_sums ["net","plan"]
 d_together:FDe K mg "together" s_together ["one","other"]
 d_scaled:FDe K mg "scaled" s_scaled ["plan","number"]
 d_ring_along:FDe K mg "ring_along" kh ["pointers","place"]
 d_ways_of:FDe K mg "ways_of" s_ways_of ["net","walk"]
 d_places_of:FDe K mg "places_of" s_places_of ["net","walk"]
 d_gain_of:FDe K mg "gain_of" s_gain_of ["net","walk"]
 d_all_unlike:FDe K mg "all_unlike" ku ["names"]
 d_is_path:FDe K mg "is_path" s_is_path ["net","walk"]
 d_is_ring:FDe K mg "is_ring" s_is_ring ["net","walk"]
 d_sent:FDe K mg "sent" s_sent ["net","walk","amount"]
 d_is_walk:FDe K mg "is_walk" s_is_walk ["net","names"]
 d_growth:FDe K mg "growth" s_growth ["net","walk"]
 d_is_ring_with:FDe K mg "is_ring_with" i6 ["net","walk","wanted"]
 d_is_round:FDe K mg "is_round" s_is_round ["net","head","path","tail"]
 d_parts_meet:FDe K mg "parts_meet" ki ["net","parts"]
 d_is_road:FDe K mg "is_road" s_is_road ["net","head","path","tail"]
 d_is_strand:FDe K mg "is_strand" s_is_strand ["net","strand"]
 d_head_plan:FDe K mg "head_plan" s_head_plan ["net","head","amount"]
 d_tail_plan:FDe K mg "tail_plan" s_tail_plan ["net","tail","amount"]
 d_road_plan:FDe K mg "road_plan" s_road_plan ["net","head","path","tail","amount"]
 d_strand_plan:FDe K mg "strand_plan" jE ["net","strand"]
 d_refuse_unfit:FDe K mg "refuse_unfit" i3 ["net","plan"]
 d_least:FDe K mg "least" s_least ["numbers"]
 d_by_start:FDe K mg "by_start" s_by_start ["ways"]
 d_ring_in:FDe K mg "ring_in" s_ring_in ["net","plan"]
 d_most_along:FDe K mg "most_along" kj ["plan","unit"]
 d_less:FDe K mg "less" s_less ["plan","unit","amount"]
 d_taken_apart:FDe K mg "taken_apart" jD ["net","plan"]
 d_put_together:FDe K mg "put_together" i4 ["net","strands"]
 d_wants_by_name:FDe K mg "wants_by_name" iN ["places"]
 d_check_way:FDe K mg "check_way" s_check_way ["way","ahead","wants"]
 d_ways_by_name:FDe K mg "ways_by_name" iZ ["ways","wants"]
 d_law_cell_at:FDe K mg "_law_cell_at" jI ["_law_script","_law_k"]
 d_law_names:FDe K mg "_law_names" s_law_names ["_law_cell","_law_count"]
 d_law_gain:FDe K mg "_law_gain" s_law_gain ["_law_cell"]
 d_law_factor:FDe K mg "_law_factor" kr ["_law_cell","_law_equal"]
 d_law_way:FDe K mg "_law_way" s_law_way ["_law_name","_law_parts"]
 d_law_plus:FDe K mg "_law_plus" s_law_plus ["_law_one","_law_other"]
 d_law_times:FDe K mg "_law_times" s_law_times ["_law_one","_law_other"]
 d_law_ways:FDe K mg "_law_ways" s_law_ways ["_law_script","_law_spots","_law_labels"]
 d_law_free_ways:FDe K mg "_law_free_ways" iO ["_law_script","_law_spots","_law_labels"]
 d_law_free_due:FDe K mg "_law_free_due" i5 ["_law_script","_law_ways_here"]
 d_law_net:FDe K mg "_law_net" s_law_net ["_law_spots","_law_ways_here"]
 d_law_ring:FDe K mg "_law_ring" s_law_ring ["_law_ways_here","_law_around","_law_begin","_law_size","_law_name","_law_gain_here","_law_kind"]
 d_law_strand:FDe K mg "_law_strand" km ["_law_ways_here","_law_labels","_law_count","_law_which","_law_cells"]
 d_law_strands:FDe K mg "_law_strands" jF ["_law_script","_law_ways_here","_law_labels","_law_count","_law_many"]
 d_law_handed:FDe K mg "_law_handed" kq ["_law_strand_here"]
 d_law_product:FDe K mg "_law_product" jG ["_law_ways_here","_law_walk"]
 d_law_send:FDe K mg "_law_send" s_law_send ["_law_due","_law_ways_here","_law_walk","_law_put"]
 d_law_planned:FDe K mg "_law_planned" jH ["_law_due","_law_ways_here","_law_strand_here"]
 d_law_is:FDe K mg "_law_is" s_law_is ["_law_found","_law_due"]
 d_law_plan:FDe K mg "_law_plan" s_law_plan ["_law_found","_law_due"]
 d_law_comes_back:FDe K mg "_law_comes_back" ib ["_law_net_here","_law_plan_here","_law_due"]
 d_law:FDe K mg "law" s_law ["_law_script"]
 cl_Fraction:Cls K a.Fraction
 mg_Fraction:mg "Fraction"=some (.ref a.Fraction)
 na_Fraction_top:NoAttr K a.Fraction "top"
 na_Fraction_bottom:NoAttr K a.Fraction "bottom"
 i_Fraction:IDe K a.Fraction "Fraction.__init__" iS ["self","top","bottom"] [[],[V.int 1]]
 m_Fraction_plus:MDe K a.Fraction "plus" "Fraction.plus" iQ ["self","other"]
 m_Fraction_minus:MDe K a.Fraction "minus" "Fraction.minus" ij ["self","other"]
 m_Fraction_times:MDe K a.Fraction "times" "Fraction.times" ii ["self","other"]
 m_Fraction_over:MDe K a.Fraction "over" "Fraction.over" iR ["self","other"]
 m_Fraction_under:MDe K a.Fraction "under" "Fraction.under" ig ["self","other"]
 m_Fraction_sign:MDe K a.Fraction "sign" "Fraction.sign" iP ["self"]
 c1_Fraction:PySem.W.findIn K (.ref a.Fraction) "__class__"=some (some (.builtin "object.__class__"))
 c4_Fraction:PySem.W.mroIn K a.Fraction (.type "object")=some true
 cl_End:Cls K a.End
 mg_End:mg "End"=some (.ref a.End)
 na_End_place:NoAttr K a.End "place"
 na_End_ring:NoAttr K a.End "ring"
 na_End_rest:NoAttr K a.End "rest"
 i_End:IDe K a.End "End.__init__" s_End_init ["self","place","ring","rest"] [[]]
 cl_Taking:Cls K a.Taking
 mg_Taking:mg "Taking"=some (.ref a.Taking)
 na_Taking_on:NoAttr K a.Taking "on"
 na_Taking_rest:NoAttr K a.Taking "rest"
 na_Taking_strands:NoAttr K a.Taking "strands"
 na_Taking_sources:NoAttr K a.Taking "sources"
 na_Taking_sinks:NoAttr K a.Taking "sinks"
 i_Taking:IDe K a.Taking "Taking.__init__" jJ ["self","net","plan"] [[]]
 m_Taking_add_end:MDe K a.Taking "add_end" "Taking.add_end" ie ["self","place","ring","come"]
 m_Taking_take_ring:MDe K a.Taking "take_ring" "Taking.take_ring" gF ["self","ring"]
 m_Taking_sink_at:MDe K a.Taking "sink_at" "Taking.sink_at" ic ["self","place"]
 m_Taking_take_road:MDe K a.Taking "take_road" "Taking.take_road" gD ["self","source"]
 m_Taking_take_path:MDe K a.Taking "take_path" "Taking.take_path" gG ["self","source","path","sink"]
 cl_Way:Cls K a.Way
 mg_Way:mg "Way"=some (.ref a.Way)
 na_Way_name:NoAttr K a.Way "name"
 na_Way_start:NoAttr K a.Way "start"
 na_Way_goal:NoAttr K a.Way "goal"
 na_Way_high:NoAttr K a.Way "high"
 na_Way_cost:NoAttr K a.Way "cost"
 i_Way:IDe K a.Way "Way.__init__" iF ["self","name","start","goal","high","cost"] [[],[V.non,V.non]]
 c_Way:CDe K a.Way "Way.__init__" iF ["self","name","start","goal","high","cost"]
 m_Way_gain:MDe K a.Way "gain" "Way.gain" s_Way_gain ["self"]
 m_Way_out:MDe K a.Way "out" "Way.out" gw ["self","amount"]
 c1_Way:PySem.W.findIn K (.ref a.Way) "__class__"=some (some (.builtin "object.__class__"))
 c4_Way:PySem.W.mroIn K a.Way (.type "object")=some true
 cl_Growing:Cls K a.Growing
 mg_Growing:mg "Growing"=some (.ref a.Growing)
 na_Growing_rate:NoAttr K a.Growing "rate"
 na_Growing_name:NoAttr K a.Growing "name"
 na_Growing_start:NoAttr K a.Growing "start"
 na_Growing_goal:NoAttr K a.Growing "goal"
 na_Growing_high:NoAttr K a.Growing "high"
 na_Growing_cost:NoAttr K a.Growing "cost"
 i_Growing:IDe K a.Growing "Growing.__init__" gI ["self","name","start","goal","rate","high","cost"] [[],[V.non,V.non]]
 m_Growing_gain:MDe K a.Growing "gain" "Growing.gain" i8 ["self"]
 m_Growing_out:MDe K a.Growing "out" "Way.out" gw ["self","amount"]
 c1_Growing:PySem.W.findIn K (.ref a.Growing) "__class__"=some (some (.builtin "object.__class__"))
 c4_Growing:PySem.W.mroIn K a.Growing (.type "object")=some true
 cl_Leaking:Cls K a.Leaking
 mg_Leaking:mg "Leaking"=some (.ref a.Leaking)
 na_Leaking_loss:NoAttr K a.Leaking "loss"
 na_Leaking_name:NoAttr K a.Leaking "name"
 na_Leaking_start:NoAttr K a.Leaking "start"
 na_Leaking_goal:NoAttr K a.Leaking "goal"
 na_Leaking_high:NoAttr K a.Leaking "high"
 na_Leaking_cost:NoAttr K a.Leaking "cost"
 i_Leaking:IDe K a.Leaking "Leaking.__init__" gH ["self","name","start","goal","loss","high","cost"] [[],[V.non,V.non]]
 m_Leaking_gain:MDe K a.Leaking "gain" "Leaking.gain" fj ["self"]
 m_Leaking_out:MDe K a.Leaking "out" "Way.out" gw ["self","amount"]
 c1_Leaking:PySem.W.findIn K (.ref a.Leaking) "__class__"=some (some (.builtin "object.__class__"))
 c4_Leaking:PySem.W.mroIn K a.Leaking (.type "object")=some true
 cl_Store:Cls K a.Store
 mg_Store:mg "Store"=some (.ref a.Store)
 na_Store_loss:NoAttr K a.Store "loss"
 na_Store_name:NoAttr K a.Store "name"
 na_Store_start:NoAttr K a.Store "start"
 na_Store_goal:NoAttr K a.Store "goal"
 na_Store_high:NoAttr K a.Store "high"
 na_Store_cost:NoAttr K a.Store "cost"
 m_Store_gain:MDe K a.Store "gain" "Leaking.gain" fj ["self"]
 m_Store_out:MDe K a.Store "out" "Way.out" gw ["self","amount"]
 c1_Store:PySem.W.findIn K (.ref a.Store) "__class__"=some (some (.builtin "object.__class__"))
 c4_Store:PySem.W.mroIn K a.Store (.type "object")=some true
 cl_Net:Cls K a.Net
 mg_Net:mg "Net"=some (.ref a.Net)
 na_Net_wants:NoAttr K a.Net "wants"
 na_Net_ways:NoAttr K a.Net "ways"
 i_Net:IDe K a.Net "Net.__init__" s_Net_init ["self","places","ways"] [[]]
 m_Net_names:MDe K a.Net "names" "Net.names" s_Net_names ["self"]
 m_Net_way:MDe K a.Net "way" "Net.way" s_Net_way ["self","name"]
 m_Net_all_ways:MDe K a.Net "all_ways" "Net.all_ways" i7 ["self"]
 no_Net_times:PySem.W.findIn K (.ref a.Net) "times"=some none
 no_Net_out:PySem.W.findIn K (.ref a.Net) "out"=some none
 c2:PySem.W.specialIn K (.builtin "object.__class__") "__get__"=some (some (.builtin "getset_descriptor.__get__"))
 c3:PySem.W.takesIn K (.builtin "object.__class__")=some true
 mg_GainError:mg "GainError"=some (.ref a.GainError)
 mg_NoNumber:mg "NoNumber"=some (.ref a.NoNumber)
 mg_TooMany:mg "TooMany"=some (.ref a.TooMany)
 mg_NoStrand:mg "NoStrand"=some (.ref a.NoStrand)
 mg_NoWay:mg "NoWay"=some (.ref a.NoWay)
 mg_Broken:mg "Broken"=some (.ref a.Broken)
 mg_Twice:mg "Twice"=some (.ref a.Twice)
 mg_NoPlace:mg "NoPlace"=some (.ref a.NoPlace)
 mg_OverBound:mg "OverBound"=some (.ref a.OverBound)
 k_Fraction_Fraction:PySem.W.kitOne K (.ref a.Fraction) (.ref a.Fraction)=some true
 k_Way_Store:PySem.W.kitOne K (.ref a.Way) (.ref a.Store)=some false
 k_Growing_Store:PySem.W.kitOne K (.ref a.Growing) (.ref a.Store)=some false
 k_Leaking_Store:PySem.W.kitOne K (.ref a.Leaking) (.ref a.Store)=some false
 k_int_bool:PySem.W.kitOne K (.type "int") (.type "bool")=some false
 k_dict_dict:PySem.W.kitOne K (.type "dict") (.type "dict")=some true
 k_int_int:PySem.W.kitOne K (.type "int") (.type "int")=some true
 k_list_list:PySem.W.kitOne K (.type "list") (.type "list")=some true
 gi_MOST_PLACES:∃tk,mg "MOST_PLACES"=some (.int 12 tk)
 gi_MOST_WAYS:∃tk,mg "MOST_WAYS"=some (.int 24 tk)
 z_abs:mg "abs"=none
 z_bool:mg "bool"=none
 z_dict:mg "dict"=none
 z_enumerate:mg "enumerate"=none
 z_int:mg "int"=none
 z_isinstance:mg "isinstance"=none
 z_len:mg "len"=none
 z_list:mg "list"=none
 z_range:mg "range"=none
 z_set:mg "set"=none
 z_zip:mg "zip"=none
open PySem L2 in
local macro_rules | `(tactic| walk_at "sc") => `(tactic| exact ⟨rfl, rfl, rfl, by decide +kernel, rfl, by decide +kernel, by decide +kernel⟩)
structure Bt(i:Int):Prop where
 le:Builtin.Int.intBits i<=2^20
inductive IspLaw(K:W.Frag)(vs:List V)(H:Hp)(Q:VK):Prop
 |mk(l:Addr)(ns:List Int)(h1:vs=[.ref l])(h2:SqL K H l (ns.map V.int))(h3:ns.length<=63)(h4:(∀i∈ns,Bt i))(h5:∀H',Q (.bl true) H'):IspLaw K vs H Q
noncomputable def spLaw(K:W.Frag):Sp:=λvs H Q _=>IspLaw K vs H Q
structure Zz where
 P:Program
 w:World
 K:W.Frag
 mg:Str->Option Value
 base:Heap
 a:Ad
noncomputable def ZzB(z:Zz):Prop:=z.P.given.tree=none->TX z.K z.mg z.a->∀f fd,Fun z.K "law" "law" s_law f fd->FnOk z.P z.w z.K z.mg z.base CX0 20 f fd ["_law_script"] (spLaw z.K)
theorem Zz.ex:∃z:Zz,z.P.given.tree=none/\(ZzB z->∀z,ZzB z):=by
 by_cases h:∃z,¬ZzB z
 ·obtain⟨z,a⟩:=h;exact⟨z,lN λq=>a λe=>absurd e q,λk=>absurd k a⟩
 ·exact⟨⟨default,⟨λ_ _=>0,⟨λ_=>0,λ_=>0,λt=>t,λ_=>0,λ_ _=>0,λ_=>false,λ_=>0,.refcount,.text,λ_=>0,λ_=>none,λ_=>false,λ_ _ _=>true,λ_ _ _=>true,true,λ_=>false,λ_=>none,λ_=>none,λ_ _ _=>0,λ_ _=>none,λ_=>none,λ_=>(0,false,Str.ofString ""),λ_=>none,λd=>d,λ_=>false⟩⟩,[],λ_=>none,default,⟨0,0,0,0,0,0,0,0,0,0,0,0,0,0,0,0,0⟩⟩,rfl,λ_ z=>lN λk=>h ⟨z,k⟩⟩
@[irreducible]noncomputable def zz:Zz:=Classical.choose Zz.ex
@[irreducible]noncomputable def P:Program:=zz.P
@[irreducible]noncomputable def w:World:=zz.w
@[irreducible]noncomputable def K:W.Frag:=zz.K
@[irreducible]noncomputable def mg:Str->Option Value:=zz.mg
@[irreducible]noncomputable def base:Heap:=zz.base
@[irreducible]noncomputable def a:Ad:=zz.a
theorem zz_all(h:TX K mg a->∀f fd,Fun K "law" "law" s_law f fd->FnOk P w K mg base CX0 20 f fd ["_law_script"] (spLaw K)):∀z,ZzB z:=by
 unfold K mg a P w base zz at h;exact(Classical.choose_spec Zz.ex).2 λ_=>h
theorem tn:P.given.tree=none:=by
 unfold P zz;exact(Classical.choose_spec Zz.ex).1
section
theorem sc_divisor:FnScope ["one","other","rest"] ["one","other"] (aH s_divisor):=by walk_at"sc"
theorem sc_in_lowest_terms:FnScope ["top","bottom","made"] ["top","bottom"] (aH gZ):=by walk_at"sc"
theorem sc_total:FnScope ["some","top","bottom","shared","number","common","own","left"] ["some"] (aH s_total):=by walk_at"sc"
theorem sc_amount:FnScope ["plan","name"] ["plan","name"] (aH s_amount):=by walk_at"sc"
theorem sc_without_noughts:FnScope ["plan","kept","name","part"] ["plan"] (aH gY):=by walk_at"sc"
theorem sc_refuse_other_names:FnScope ["net","plan","name"] ["net","plan"] (aH fQ):=by walk_at"sc"
theorem sc_sums_of_own_ways:FnScope ["net","plan","result","place","way","part"] ["net","plan"] (aH gC):=by walk_at"sc"
theorem sc_sums:FnScope ["net","plan"] ["net","plan"] (aH s_sums):=by walk_at"sc"
theorem sc_together:FnScope ["one","other","added","name","part"] ["one","other"] (aH s_together):=by walk_at"sc"
theorem sc_scaled:FnScope ["plan","number","result","name","part"] ["plan","number"] (aH s_scaled):=by walk_at"sc"
theorem sc_ring_along:FnScope ["pointers","place","seen","ring"] ["pointers","place"] (aH kh):=by walk_at"sc"
theorem sc_ways_of:FnScope ["net","walk","ways","name","way"] ["net","walk"] (aH s_ways_of):=by walk_at"sc"
theorem sc_places_of:FnScope ["net","walk","ways"] ["net","walk"] (aH s_places_of):=by walk_at"sc"
theorem sc_gain_of:FnScope ["net","walk","gain","way"] ["net","walk"] (aH s_gain_of):=by walk_at"sc"
theorem sc_all_unlike:FnScope ["names"] ["names"] (aH ku):=by walk_at"sc"
theorem sc_is_path:FnScope ["net","walk"] ["net","walk"] (aH s_is_path):=by walk_at"sc"
theorem sc_is_ring:FnScope ["net","walk","places"] ["net","walk"] (aH s_is_ring):=by walk_at"sc"
theorem sc_sent:FnScope ["net","walk","amount","parts","going","way","plan","name","some"] ["net","walk","amount"] (aH s_sent):=by walk_at"sc"
theorem sc_is_walk:FnScope ["net","names"] ["net","names"] (aH s_is_walk):=by walk_at"sc"
theorem sc_growth:FnScope ["net","walk"] ["net","walk"] (aH s_growth):=by walk_at"sc"
theorem sc_is_ring_with:FnScope ["net","walk","wanted"] ["net","walk","wanted"] (aH i6):=by walk_at"sc"
theorem sc_is_round:FnScope ["net","head","path","tail"] ["net","head","path","tail"] (aH s_is_round):=by walk_at"sc"
theorem sc_parts_meet:FnScope ["net","parts","met","ahead","behind"] ["net","parts"] (aH ki):=by walk_at"sc"
theorem sc_is_road:FnScope ["net","head","path","tail"] ["net","head","path","tail"] (aH s_is_road):=by walk_at"sc"
theorem sc_is_strand:FnScope ["net","strand","head","path","tail","names"] ["net","strand"] (aH s_is_strand):=by walk_at"sc"
theorem sc_head_plan:FnScope ["net","head","amount","more"] ["net","head","amount"] (aH s_head_plan):=by walk_at"sc"
theorem sc_tail_plan:FnScope ["net","tail","amount","less"] ["net","tail","amount"] (aH s_tail_plan):=by walk_at"sc"
theorem sc_road_plan:FnScope ["net","head","path","tail","amount","plan","left"] ["net","head","path","tail","amount"] (aH s_road_plan):=by walk_at"sc"
theorem sc_strand_plan:FnScope ["net","strand","head","path","tail"] ["net","strand"] (aH jE):=by walk_at"sc"
theorem sc_refuse_unfit:FnScope ["net","plan","name","part"] ["net","plan"] (aH i3):=by walk_at"sc"
theorem sc_least:FnScope ["numbers","found","number"] ["numbers"] (aH s_least):=by walk_at"sc"
theorem sc_by_start:FnScope ["ways","found","way"] ["ways"] (aH s_by_start):=by walk_at"sc"
theorem sc_ring_in:FnScope ["net","plan","ways","onward","kept"] ["net","plan"] (aH s_ring_in):=by walk_at"sc"
theorem sc_most_along:FnScope ["plan","unit"] ["plan","unit"] (aH kj):=by walk_at"sc"
theorem sc_less:FnScope ["plan","unit","amount"] ["plan","unit","amount"] (aH s_less):=by walk_at"sc"
theorem sc_taken_apart:FnScope ["net","plan","taking","ring","source"] ["net","plan"] (aH jD):=by walk_at"sc"
theorem sc_put_together:FnScope ["net","strands","plan","strand"] ["net","strands"] (aH i4):=by walk_at"sc"
theorem sc_wants_by_name:FnScope ["places","wants","name","want"] ["places"] (aH iN):=by walk_at"sc"
theorem sc_check_way:FnScope ["way","ahead","wants","place"] ["way","ahead","wants"] (aH s_check_way):=by walk_at"sc"
theorem sc_ways_by_name:FnScope ["ways","wants","ahead","way"] ["ways","wants"] (aH iZ):=by walk_at"sc"
theorem sc_law_cell_at:FnScope ["_law_script","_law_k"] ["_law_script","_law_k"] (aH jI):=by walk_at"sc"
theorem sc_law_names:FnScope ["_law_cell","_law_count","_law_signs","_law_fill","_law_at"] ["_law_cell","_law_count"] (aH s_law_names):=by walk_at"sc"
theorem sc_law_gain:FnScope ["_law_cell"] ["_law_cell"] (aH s_law_gain):=by walk_at"sc"
theorem sc_law_factor:FnScope ["_law_cell","_law_equal"] ["_law_cell","_law_equal"] (aH kr):=by walk_at"sc"
theorem sc_law_way:FnScope ["_law_name","_law_parts","_law_gain_here"] ["_law_name","_law_parts"] (aH s_law_way):=by walk_at"sc"
theorem sc_law_plus:FnScope ["_law_one","_law_other"] ["_law_one","_law_other"] (aH s_law_plus):=by walk_at"sc"
theorem sc_law_times:FnScope ["_law_one","_law_other"] ["_law_one","_law_other"] (aH s_law_times):=by walk_at"sc"
theorem sc_law_ways:FnScope ["_law_script","_law_spots","_law_labels","_law_count","_law_ways_here","_law_k","_law_goal","_law_cell"] ["_law_script","_law_spots","_law_labels"] (aH s_law_ways):=by walk_at"sc"
theorem sc_law_free_ways:FnScope ["_law_script","_law_spots","_law_labels","_law_count","_law_ways_here","_law_k","_law_cell","_law_start","_law_goal"] ["_law_script","_law_spots","_law_labels"] (aH iO):=by walk_at"sc"
theorem sc_law_free_due:FnScope ["_law_script","_law_ways_here","_law_due","_law_k","_law_name","_law_cell"] ["_law_script","_law_ways_here"] (aH i5):=by walk_at"sc"
theorem sc_law_net:FnScope ["_law_spots","_law_ways_here"] ["_law_spots","_law_ways_here"] (aH s_law_net):=by walk_at"sc"
theorem sc_law_ring:FnScope ["_law_ways_here","_law_around","_law_begin","_law_size","_law_name","_law_gain_here","_law_kind","_law_names_here","_law_product_here","_law_label"] ["_law_ways_here","_law_around","_law_begin","_law_size","_law_name","_law_gain_here","_law_kind"] (aH s_law_ring):=by walk_at"sc"
theorem sc_law_strand:FnScope ["_law_ways_here","_law_labels","_law_count","_law_which","_law_cells","_law_kind","_law_start","_law_size","_law_ahead","_law_behind","_law_more","_law_less","_law_many","_law_head","_law_last","_law_tail","_law_path","_law_put"] ["_law_ways_here","_law_labels","_law_count","_law_which","_law_cells"] (aH km):=by walk_at"sc"
theorem sc_law_strands:FnScope ["_law_script","_law_ways_here","_law_labels","_law_count","_law_many","_law_strands_here","_law_k","_law_cells"] ["_law_script","_law_ways_here","_law_labels","_law_count","_law_many"] (aH jF):=by walk_at"sc"
theorem sc_law_handed:FnScope ["_law_strand_here"] ["_law_strand_here"] (aH kq):=by walk_at"sc"
theorem sc_law_product:FnScope ["_law_ways_here","_law_walk","_law_gain_here","_law_name"] ["_law_ways_here","_law_walk"] (aH jG):=by walk_at"sc"
theorem sc_law_send:FnScope ["_law_due","_law_ways_here","_law_walk","_law_put","_law_name"] ["_law_due","_law_ways_here","_law_walk","_law_put"] (aH s_law_send):=by walk_at"sc"
theorem sc_law_planned:FnScope ["_law_due","_law_ways_here","_law_strand_here","_law_put","_law_gain_here","_law_out"] ["_law_due","_law_ways_here","_law_strand_here"] (aH jH):=by walk_at"sc"
theorem sc_law_is:FnScope ["_law_found","_law_due","_law_number"] ["_law_found","_law_due"] (aH s_law_is):=by walk_at"sc"
theorem sc_law_plan:FnScope ["_law_found","_law_due","_law_name"] ["_law_found","_law_due"] (aH s_law_plan):=by walk_at"sc"
theorem sc_law_comes_back:FnScope ["_law_net_here","_law_plan_here","_law_due","_law_found","_law_strand_here","_law_back"] ["_law_net_here","_law_plan_here","_law_due"] (aH ib):=by walk_at"sc"
theorem sc_law:FnScope ["_law_script","_law_cell","_law_spots","_law_labels","_law_ways_here","_law_due","_law_plan_here","_law_name","_law_strands_here","_law_net_here","_law_strand_here","_law_some","_law_k"] ["_law_script"] (aH s_law):=by walk_at"sc"
theorem sc_Fraction_init:FnScope ["self","top","bottom","common"] ["self","top","bottom"] (aH iS):=by walk_at"sc"
theorem sc_Fraction_plus:FnScope ["self","other","common","own","top","left"] ["self","other"] (aH iQ):=by walk_at"sc"
theorem kf:FnScope ["self","other"] ["self","other"] (aH ij):=by walk_at"sc"
theorem sc_Fraction_times:FnScope ["self","other","first","second","top"] ["self","other"] (aH ii):=by walk_at"sc"
theorem sc_Fraction_over:FnScope ["self","other"] ["self","other"] (aH iR):=by walk_at"sc"
theorem ke:FnScope ["self","other"] ["self","other"] (aH ig):=by walk_at"sc"
theorem sc_Fraction_sign:FnScope ["self"] ["self"] (aH iP):=by walk_at"sc"
theorem sc_End_init:FnScope ["self","place","ring","rest"] ["self","place","ring","rest"] (aH s_End_init):=by walk_at"sc"
theorem sc_Taking_init:FnScope ["self","net","plan","place","come"] ["self","net","plan"] (aH jJ):=by walk_at"sc"
theorem kc:FnScope ["self","place","ring","come"] ["self","place","ring","come"] (aH ie):=by walk_at"sc"
theorem sc_Taking_take_ring:FnScope ["self","ring","unit","amount","eaten"] ["self","ring"] (aH gF):=by walk_at"sc"
theorem sc_Taking_sink_at:FnScope ["self","place","end"] ["self","place"] (aH ic):=by walk_at"sc"
theorem sc_Taking_take_road:FnScope ["self","source","onward","path","place"] ["self","source"] (aH gD):=by walk_at"sc"
theorem sc_Taking_take_path:FnScope ["self","source","path","sink","unit","gain","amount"] ["self","source","path","sink"] (aH gG):=by walk_at"sc"
theorem sc_Way_init:FnScope ["self","name","start","goal","high","cost"] ["self","name","start","goal","high","cost"] (aH iF):=by walk_at"sc"
theorem sc_Way_gain:FnScope ["self"] ["self"] (aH s_Way_gain):=by walk_at"sc"
theorem iE:FnScope ["self","amount"] ["self","amount"] (aH gw):=by walk_at"sc"
theorem sc_Growing_init:FnScope ["self","name","start","goal","rate","high","cost"] ["self","name","start","goal","rate","high","cost"] (aH gI):=by walk_at"sc"
theorem sc_Growing_gain:FnScope ["self"] ["self"] (aH i8):=by walk_at"sc"
theorem sc_Leaking_init:FnScope ["self","name","start","goal","loss","high","cost"] ["self","name","start","goal","loss","high","cost"] (aH gH):=by walk_at"sc"
theorem iM:FnScope ["self"] ["self"] (aH fj):=by walk_at"sc"
theorem sc_Net_init:FnScope ["self","places","ways"] ["self","places","ways"] (aH s_Net_init):=by walk_at"sc"
theorem sc_Net_names:FnScope ["self"] ["self"] (aH s_Net_names):=by walk_at"sc"
theorem sc_Net_way:FnScope ["self","name"] ["self","name"] (aH s_Net_way):=by walk_at"sc"
theorem sc_Net_all_ways:FnScope ["self"] ["self"] (aH i7):=by walk_at"sc"
end
end G
local macro_rules | `(tactic| walk_at "q") => `(tactic| try dsimp only [L2.cxOf, L2.Cx.nox, L2.Cx.wish])
open PySem L2 in
local macro_rules | `(tactic| walk_at "kit") => `(tactic| first | exact G.TX.k_Fraction_Fraction (by assumption) | exact G.TX.k_Way_Store (by assumption) | exact G.TX.k_Growing_Store (by assumption) | exact G.TX.k_Leaking_Store (by assumption) | exact G.TX.k_int_bool (by assumption) | exact G.TX.k_dict_dict (by assumption) | exact G.TX.k_int_int (by assumption) | exact G.TX.k_list_list (by assumption))
open PySem L2 in
local macro_rules | `(tactic| walk_at "sm") => `(tactic| first | assumption | (refine And.left (?_ : G.SmR _); assumption) | (refine And.right (?_ : G.SmR _); assumption))
open PySem L2 in
local macro_rules | `(tactic| walk_at "fa") => `(tactic| first | rfl | assumption | exact True.intro | exact (fun _ h => h) | ((with_reducible show L2.TyOf _ _ _ _); first | exact TyOf.int _ | exact TyOf.str _ | exact TyOf.bl _ | exact TyOf.non | exact G.FrAt.ty (G.TX.fr (by assumption)) (by walk_at "fa")) | ((with_reducible show PySem.W.kitOne _ _ _ = _); walk_at "kit") | ((with_reducible show G.FrAt _ _ _ _); apply G.FrAt.up; assumption; walk_at "fa") | ((with_reducible show L2.SqL _ _ _ _); apply Same.seq; assumption; walk_at "fa") | (show (0 : Int) < _; decide) | (refine (And.intro ?_ ?_ : CDiv _ _) <;> decide) | (refine (And.intro ?_ (And.intro ?_ ?_) : CPow _ _) <;> decide) | exact (PySem.IntMulOk.of_right (by decide)) | exact (PySem.IntMulOk.of_left (by decide)) | (refine (And.intro ?_ ?_ : CMulB _ _) <;> walk_at "sm"))
open PySem L2 in
local macro_rules | `(tactic| walk_at "rd") => `(tactic| repeat (first | refine L2.ItVar.mk _ (by walk_at "fa") ?_ | refine L2.ItB.mk _ (by walk_at "fa") ?_ | refine L2.ItTest.mk _ (by walk_at "fa") ?_ | refine L2.IrU.mk _ (by walk_at "fa") ?_ | refine L2.IrI0.mk _ _ (by walk_at "fa") (by walk_at "fa") ?_ | refine L2.IrIxL.mk _ _ _ _ (by walk_at "fa") (by walk_at "fa") (by walk_at "fa") (by walk_at "fa") ?_ | refine L2.IrIxT.mk _ _ _ _ (by walk_at "fa") (by walk_at "fa") (by walk_at "fa") (by walk_at "fa") ?_ | refine L2.ItFld.mk _ _ _ _ _ (by walk_at "fa") (by walk_at "fa") (by walk_at "fa") (by walk_at "fa") (by walk_at "fa") ?_ | apply @Exists.intro V | apply @Exists.intro Int | apply @Exists.intro Addr | apply @Exists.intro Rat | apply @Exists.intro Bool | apply @Exists.intro Value | apply @Exists.intro (List V) | apply @Exists.intro (List (Str × V)) | apply @Exists.intro Str | apply @Exists.intro (List Int) | refine And.intro (by walk_at "fa") ?_ | refine L2.iteT ?_ | refine L2.iteF ?_))
namespace G
open PySem L2
section
theorem TX.fr(T:TX K mg a):FrC K a.Fraction:=⟨T.cl_Fraction,T.na_Fraction_top,T.na_Fraction_bottom,T.c1_Fraction,T.c2,T.c3,T.c4_Fraction⟩
theorem gcd_turn{a b n m:Int}(h:gcd n m=gcd a b)(hm:0<=m)(p:m≠0):0<=n%m/\n%m<m/\gcd m (n%m)=gcd a b:=
 ⟨Int.emod_nonneg n p,Int.emod_lt_of_pos n (by lia),by rw[gcd_step n m (by lia),h]⟩
theorem ew(T:TX K mg a):FnB P w K mg base CX0 "divisor" 1 ["one","other"] spDiv:=by
 refine T.d_divisor.okA sc_divisor (λf G A l s H B Q E N h=>?_) (λB H Q E h=>?_)
 rotate_left
 ·obtain⟨a,b,rfl,_⟩:=h;rfl
 ·obtain⟨a,b,rfl,k⟩:=h
  refine⟨_,(aD (aI (i:=0) sc_divisor.nd (bH call_abs (by rfl) T.z_abs PyProof.Rows.boot_abs (aA (pv 0) aB)))
   (aD (aI (i:=1) sc_divisor.nd (bH call_abs (by rfl) T.z_abs PyProof.Rows.boot_abs (aA (pv 1) aB)))
   (aD (ir lj (aP op_ne (pv 1) aC) (aD (aI (i:=2) sc_divisor.nd (aK bC (pv 0) (pv 1)))
   (aD (aI (i:=0) sc_divisor.nd (pv 1))
   (aF (aI (i:=1) sc_divisor.nd (pv 2))))))
   (aF (aO (pv 0)))))),?_⟩
  walk_at"q"
  refine⟨_,rfl,_,rfl,_,rfl,_,rfl,?_⟩;refine while_by (λσ j=>yE3 λ(n m:Int)(r:Option V)=>σ=[some (.int n),some (.int m),r]×' j=H×' 0<=n×' 0<=m×' gcd n m=gcd a b) (λσ _=>match σ with|[_,some (.int m),_]=>m.toNat|_=>0) ?_ ?_ ?_
  ·refine⟨_,_,_,rfl,rfl,?_,?_,gcd_abs a b⟩<;>split<;>lia
  ·rintro σ j⟨n,m,r,rfl,rfl,D,p,o⟩;refine⟨_,rfl,rfl,_,rfl,?_⟩;by_cases z:m=0
   ·subst z;refine iteNS rfl ?_;refine⟨_,rfl,?_⟩;rw[gcd_zero n D]at o;rw[o];exact k
   ·refine kG (by rw[neV z];rfl) ?_;obtain⟨g1,J,t⟩:=gcd_turn o p z;refine⟨_,rfl,_,rfl,_,_,rfl,rfl,(by show(0:Int)<m;lia),_,rfl,_,rfl,⟨_,_,_,rfl,rfl,p,g1,t⟩,?_⟩;show(n%m).toNat<m.toNat
    lia
  ·rintro σ j M L I⟨v,e,F,c,y,q⟩;exact⟨v,e,F,c,y,I _ _ q⟩
theorem ok_init(T:TX K mg a):∀dvs∈[[],[V.int 1]],MkB P w K mg base CX0 a.Fraction 2 ["self","top","bottom"] dvs (spInit a.Fraction):=by
 refine T.i_Fraction.okA sc_Fraction_init (λf J A t s H I Q E o h=>?_) (λI H Q E h=>?_)
 rotate_left
 ·obtain⟨p,q,n,b,rfl,_⟩:=h;rfl
 ·obtain⟨p,q,n,b,rfl,D,l,B,k⟩:=h
  refine⟨_,(aD (bG (aP eJ (pv 2) aC) (aF cT) aV)
   (aD (aI (i:=3) sc_Fraction_init.nd (aR (ew T) o aJ (aA (pv 1) (aA (pv 2) aB))))
   (aD (bG (aP jd (pv 2) aC) (aF (aI (i:=3) sc_Fraction_init.nd (jL hU (pv 3)))) aV)
   (aD (cP (pv 0) (aK (cN o tn) (pv 1) (pv 3)) rfl)
   (aF (cP (pv 0) (aK (cN o tn) (pv 2) (pv 3)) rfl)))))),?_⟩
  walk_at"q"
  refine⟨_,rfl,rfl,_,rfl,?_⟩;refine gV (neV l) ?_;refine⟨_,rfl,_,rfl,n,b,rfl,?_⟩;refine⟨_,rfl,_,_,rfl,rfl,_,rfl,?_⟩;obtain⟨e,m⟩:=init_spec n b l;have gp:=eI n l;have z:=Sm.gcd_r n l B
  have fin:∀c:Int,c≠0->Sm c->n.fdiv c=(Rat.divInt n b).num->b.fdiv c=((Rat.divInt n b).den:Int)->
    tSeq (sFld K (tVar 0) (tOp (rI CDivB λi j=>.int (i.fdiv j)) (tVar 1) (tVar 3)) "top") (sFld K (tVar 0) (tOp (rI CDivB λi j=>.int (i.fdiv j)) (tVar 2) (tVar 3)) "bottom") {nx:=λ_ F=>Q .non F,rt:=Q} [some (.ref p),some (.int n),some (.int b),some (.int c)] H:=by
   intro c y hs G L;refine⟨_,rfl,_,rfl,_,_,rfl,rfl,⟨y,hs⟩,_,rfl,p,a.Fraction,q,_,rfl,D,T.cl_Fraction,T.na_Fraction_top,(by show 0<1000;decide),?_⟩;refine⟨_,rfl,_,rfl,_,_,rfl,rfl,⟨y,hs⟩,_,rfl,p,a.Fraction,q,_,rfl,aE,T.cl_Fraction,T.na_Fraction_bottom,(by show 1<1000;decide),?_⟩;refine k _ ?_;rw[jp];dsimp only;rw[G,L,ff_new]
  refine ifB (λr=>?_) (λr=>?_)
  ·rw[if_pos r]at e m;refine⟨_,rfl,_,rfl,?_⟩;exact fin _ (by lia) (z.le (by lia)) e m
  ·rw[if_neg r]at e m;exact fin _ (by lia) z e m
theorem sm1:Sm 1:=Nat.one_lt_two_pow (by decide)
theorem mk2(T:TX K mg a):MkB P w K mg base CX0 a.Fraction 2 ["self","top","bottom"] [] (spInit a.Fraction):=ok_init T _ (by simp)
theorem mk1(T:TX K mg a):MkB P w K mg base CX0 a.Fraction 2 ["self","top","bottom"] [.int 1] (spInit a.Fraction):=ok_init T _ (by simp)
theorem cK(T:TX K mg a):FnB P w K mg base CX0 "in_lowest_terms" 4 ["top","bottom"] (spLow a.Fraction):=by
 refine T.d_in_lowest_terms.okA sc_in_lowest_terms (λf y A l s H p Q E m h=>?_) (λp H Q E h=>?_)
 rotate_left
 ·obtain⟨t,b,rfl,_⟩:=h;rfl
 ·obtain⟨t,b,rfl,k⟩:=h
  refine⟨_,(aD (aI (i:=2) sc_in_lowest_terms.nd (cL (mk1 T) m T.mg_Fraction aJ (aA aC aB)))
   (aD (cP (pv 2) (pv 0) rfl)
   (aD (cP (pv 2) (pv 1) rfl)
   (aF (aO (pv 2)))))),?_⟩
  walk_at"q"
  refine⟨0,1,rfl,by decide,sm1,λx z nx r⟨j,q⟩=>?_⟩;refine⟨_,rfl,_,rfl,x,a.Fraction,j,_,rfl,q,T.cl_Fraction,T.na_Fraction_top,(by show 2<1000;decide),?_⟩;refine⟨_,rfl,_,rfl,x,a.Fraction,j,_,rfl,aE,T.cl_Fraction,T.na_Fraction_bottom,(by show 2<1000;decide),?_⟩;refine⟨_,rfl,?_⟩;refine k x j _ nx (λc o e=>?_) ?_
  ·rw[aG (aN e nx),aG (aN e nx)];exact r _ _ e
  ·rw[aE,ff_put]
noncomputable abbrev always:Rat->Rat->Prop:=λ_ _=>True
theorem ok_plus(T:TX K mg a):MtB P w K mg base CX0 a.Fraction "plus" 5 ["self","other"] (spR2 a.Fraction (λx y=>x+y) always):=by
 refine T.m_Fraction_plus.okA sc_Fraction_plus (λf U A o s H R Q E c h=>?_) (λR H Q E h=>?_)
 rotate_left
 ·obtain⟨p,q,x,y,rfl,_⟩:=h;rfl
 ·obtain⟨p,q,x,y,rfl,m,j,M,e,_,k⟩:=h
  refine⟨_,(aD (aI (i:=2) sc_Fraction_plus.nd (aR (ew T) c aJ (aA (dR T.fr (pv 0)) (aA (dR T.fr (pv 1)) aB))))
   (aD (aI (i:=3) sc_Fraction_plus.nd (aK (cN c tn) (dR T.fr (pv 0)) (pv 2)))
   (aD (aI (i:=4) sc_Fraction_plus.nd (aK bJ (aK cI (dY T.fr (pv 0)) (aK (cN c tn) (dR T.fr (pv 1)) (pv 2))) (aK cI (dY T.fr (pv 1)) (pv 3))))
   (aD (aI (i:=5) sc_Fraction_plus.nd (aR (ew T) c aJ (aA (pv 4) (aA (pv 2) aB))))
   (aF (aO (aR (cK T) c aJ (aA (aK (cN c tn) (pv 4) (pv 5)) (aA (aK cI (pv 3) (aK (cN c tn) (dR T.fr (pv 1)) (pv 5))) aB))))))))),?_⟩
  walk_at"q"
  have X:=jm x;have L:=jm y;have Z:=den_pos x;have Y:=den_pos y;have gp:=eI (x.den:Int) L;have t:=Sm.gcd_r (x.den:Int) L e.2;have gn:gcd x.den y.den≠0:=by lia
  have J:Sm ((x.den:Int).fdiv (gcd x.den y.den)):=M.2.le (fN _ gp (by lia));have l:Sm ((y.den:Int).fdiv (gcd x.den y.den)):=e.2.le (fN _ gp (by lia));refine⟨_,rfl,p,x,rfl,m,_,rfl,q,y,rfl,j,_,_,rfl,?_⟩;refine⟨_,rfl,p,x,rfl,m,_,rfl,_,_,rfl,rfl,⟨by lia,t⟩,?_⟩;refine⟨_,rfl,p,x,rfl,m,_,rfl,q,y,rfl,j,_,rfl,_,_,rfl,rfl,⟨by lia,t⟩,_,_,rfl,rfl,⟨M.1,l⟩,_,rfl,q,y,rfl,j,_,rfl,_,_,rfl,rfl,⟨e.1,J⟩,_,_,rfl,rfl,?_⟩;refine⟨_,rfl,_,rfl,_,_,rfl,?_⟩;generalize b:x.num*(y.den:Int).fdiv (gcd x.den y.den)+y.num*(x.den:Int).fdiv (gcd x.den y.den)=top;have N:=eI top gn;have D:=Sm.gcd_r top gn t;refine⟨_,rfl,_,rfl,_,_,rfl,rfl,⟨by lia,D⟩,_,rfl,_,rfl,q,y,rfl,j,_,rfl,_,_,rfl,rfl,⟨by lia,D⟩,_,_,rfl,rfl,⟨J,e.2.le (fN _ N (by lia))⟩,_,_,rfl,?_⟩;intro r G F O S I;obtain⟨B,z⟩:=add_spec x y;try dsimp only at B z
  rw[b]at B z;refine k r F O S ⟨G,?_⟩;show F r=some (.ins a.Fraction G (ff (x+y).num (x+y).den));try rw[b]at I
  rw[I,<-B,<-z]
theorem eR(T:TX K mg a):MtB P w K mg base CX0 a.Fraction "minus" 6 ["self","other"] (spR2 a.Fraction (λx y=>x-y) always):=by
 refine T.m_Fraction_minus.okA kf (λf L A e s H F Q E l h=>?_) (λF H Q E h=>?_)
 rotate_left
 ·obtain⟨p,q,x,y,rfl,_⟩:=h;rfl
 ·obtain⟨p,q,x,y,rfl,i,o,M,m,_,k⟩:=h;refine⟨_,(aF (aO (cM T.fr (pv 0) (ok_plus T) l aJ (aA (aR (cK T) l aJ (aA (jL hU (dY T.fr (pv 1))) (aA (dR T.fr (pv 1)) aB))) aB)))),?_⟩;walk_at"q"
  refine⟨_,rfl,p,x,rfl,i,_,rfl,q,y,rfl,o,_,rfl,_,rfl,q,y,rfl,o,_,_,rfl,λr I G N c B=>?_⟩;have J:FrAt a.Fraction G r (-y):=⟨I,B⟩;refine⟨p,r,x,-y,rfl,i.mono c,J,M,⟨by show Sm (-y.num);exact m.1.le (by omega),m.2⟩,trivial,λj t b D z=>?_⟩;refine k j t (c.free b) (c.trans D) ?_;show FrAt a.Fraction t j (x-y);rw[Rat.sub_eq_add_neg];exact z
theorem gM(T:TX K mg a):MtB P w K mg base CX0 a.Fraction "times" 5 ["self","other"] (spR2 a.Fraction (λx y=>x*y) always):=by
 refine T.m_Fraction_times.okA sc_Fraction_times (λf Y A l s H X Q E b h=>?_) (λX H Q E h=>?_)
 rotate_left
 ·obtain⟨p,q,x,y,rfl,_⟩:=h;rfl
 ·obtain⟨p,q,x,y,rfl,c,j,o,m,_,k⟩:=h
  refine⟨_,(aD (aI (i:=2) sc_Fraction_times.nd (aR (ew T) b aJ (aA (dY T.fr (pv 0)) (aA (dR T.fr (pv 1)) aB))))
   (aD (aI (i:=3) sc_Fraction_times.nd (aR (ew T) b aJ (aA (dY T.fr (pv 1)) (aA (dR T.fr (pv 0)) aB))))
   (aD (aI (i:=4) sc_Fraction_times.nd (aK cI (aK (cN b tn) (dY T.fr (pv 0)) (pv 2)) (aK (cN b tn) (dY T.fr (pv 1)) (pv 3))))
   (aF (aO (aR (cK T) b aJ (aA (pv 4) (aA (aK cI (aK (cN b tn) (dR T.fr (pv 0)) (pv 3)) (aK (cN b tn) (dR T.fr (pv 1)) (pv 2))) aB)))))))),?_⟩
  walk_at"q"
  have D:=jm x;have G:=jm y;have xp:=den_pos x;have Z:=den_pos y;have F:=eI x.num G;have I:=eI y.num D;have e:=Sm.gcd_r x.num G m.2;have z:=Sm.gcd_r y.num D o.2;have M:Sm (x.num.fdiv (gcd x.num y.den)):=o.1.le (fdiv_le' _ F (gcd_dvd_l _ _));have S:Sm (y.num.fdiv (gcd y.num x.den)):=m.1.le (fdiv_le' _ I (gcd_dvd_l _ _));have O:Sm ((x.den:Int).fdiv (gcd y.num x.den)):=o.2.le (fN _ I (by lia));have J:Sm ((y.den:Int).fdiv (gcd x.num y.den)):=m.2.le (fN _ F (by lia));refine⟨_,rfl,p,x,rfl,c,_,rfl,q,y,rfl,j,_,_,rfl,?_⟩;refine⟨_,rfl,q,y,rfl,j,_,rfl,p,x,rfl,c,_,_,rfl,?_⟩;refine⟨_,rfl,p,x,rfl,c,_,rfl,_,_,rfl,rfl,⟨by lia,e⟩,_,rfl,q,y,rfl,j,_,rfl,_,_,rfl,rfl,⟨by lia,z⟩,_,_,rfl,rfl,⟨M,S⟩,?_⟩;refine⟨_,rfl,_,rfl,p,x,rfl,c,_,rfl,_,_,rfl,rfl,⟨by lia,z⟩,_,rfl,q,y,rfl,j,_,rfl,_,_,rfl,rfl,⟨by lia,e⟩,_,_,rfl,rfl,⟨O,J⟩,_,_,rfl,?_⟩;intro r B t L e R;obtain⟨U,N⟩:=mul_spec x y;refine k r t L e ⟨B,?_⟩;show t r=some (.ins a.Fraction B (ff (x*y).num (x*y).den));rw[R,<-U,<-N]
end
end G
namespace G
open PySem L2
section
noncomputable def spB2(C:Addr)(f:Rat->Rat->Bool):Sp:=λvs H Q _=>∃(p q:Addr)(x y:Rat),vs=[.ref p,.ref q]/\FrAt C H p x/\FrAt C H q y/\SmR x/\SmR y/\Q (.bl (f x y)) H
theorem ok_under(T:TX K mg a):MtB P w K mg base CX0 a.Fraction "under" 1 ["self","other"] (spB2 a.Fraction λx y=>decide (x<y)):=by
 refine T.m_Fraction_under.okA ke (λf e A b s H c Q E j h=>?_) (λc H Q E h=>?_)
 rotate_left
 ·obtain⟨p,q,x,y,rfl,_⟩:=h;rfl
 ·obtain⟨p,q,x,y,rfl,i,m,o,l,k⟩:=h;refine⟨_,(aF (aO (eQ jd (aK cI (dY T.fr (pv 0)) (dR T.fr (pv 1))) (aK cI (dY T.fr (pv 1)) (dR T.fr (pv 0)))))),?_⟩;walk_at"q"
  walk_at"rd"
  show Q (.bl (decide (x.num*↑y.den<y.num*↑x.den))) H;rw[decide_eq_decide.mpr (Rat.lt_iff x y).symm];exact k
noncomputable def sgn(x:Rat):Int:=if 0<x.num then 1 else if x.num<0 then-1 else 0
theorem eX(T:TX K mg a):MtB P w K mg base CX0 a.Fraction "sign" 1 ["self"] (λvs H Q _=>∃(p:Addr)(x:Rat),vs=[.ref p]/\FrAt a.Fraction H p x/\Q (.int (sgn x)) H):=by
 refine T.m_Fraction_sign.okA sc_Fraction_sign (λf i A c s H vs Q E l h=>?_) (λvs H Q E h=>?_)
 rotate_left
 ·obtain⟨p,x,rfl,_⟩:=h;rfl
 ·obtain⟨p,x,rfl,j,k⟩:=h
  refine⟨_,(aD (bG (aP op_gt (dY T.fr (pv 0)) aC) (aF (aO aC)) aV)
   (aD (bG (aP jd (dY T.fr (pv 0)) aC) (aF (aO (jL hU aC))) aV)
   (aF (aO aC)))),?_⟩
  walk_at"q"
  walk_at"rd"
  refine ifB (λb=>?_) (λb=>?_)
  ·rw[show sgn x=1 from if_pos b]at k;exact k
  ·walk_at"rd"
   refine ifB (λe=>?_) (λe=>?_)
   ·rw[show sgn x=-1 from(if_neg b).trans (if_pos e)]at k;walk_at"rd"
    exact k
   ·rw[show sgn x=0 from(if_neg b).trans (if_neg e)]at k;exact k
end
end G
namespace G
open PySem L2
section
structure WayC(K:W.Frag)(C:Addr):Prop where
 cl:Cls K C
 n1:NoAttr K C "name"
 n2:NoAttr K C "start"
 n3:NoAttr K C "goal"
 n4:NoAttr K C "high"
 n5:NoAttr K C "cost"
theorem TX.wW(T:TX K mg a):WayC K a.Way:=⟨T.cl_Way,T.na_Way_name,T.na_Way_start,T.na_Way_goal,T.na_Way_high,T.na_Way_cost⟩
theorem TX.wG(T:TX K mg a):WayC K a.Growing:=⟨T.cl_Growing,T.na_Growing_name,T.na_Growing_start,T.na_Growing_goal,T.na_Growing_high,T.na_Growing_cost⟩
theorem TX.wL(T:TX K mg a):WayC K a.Leaking:=⟨T.cl_Leaking,T.na_Leaking_name,T.na_Leaking_start,T.na_Leaking_goal,T.na_Leaking_high,T.na_Leaking_cost⟩
theorem TX.wS(T:TX K mg a):WayC K a.Store:=⟨T.cl_Store,T.na_Store_name,T.na_Store_start,T.na_Store_goal,T.na_Store_high,T.na_Store_cost⟩
structure W5(fs:List (Str×V))(n s g:Str)(vh vc:V):Prop where
 nm:fs.lookup ("name":Str)=some (.str n)
 st:fs.lookup ("start":Str)=some (.str s)
 go:fs.lookup ("goal":Str)=some (.str g)
 hi:fs.lookup ("high":Str)=some vh
 co:fs.lookup ("cost":Str)=some vc
 ga:fs.lookup ("gain":Str)=none
 ou:fs.lookup ("out":Str)=none
 len:fs.length<=10
theorem W5.new:W5 (cD "cost" vc (cD "high" vh (cD "goal" (.str g) (cD "start" (.str s) (cD "name" (.str n) []))))) n s g vh vc:=by
 refine⟨?_,?_,?_,?_,?_,?_,?_,?_⟩
 iterate 7
  simp only[fe]
  (repeat rw[if_neg (by decide+kernel)])
  try rw[if_pos rfl]
  try rfl
 ·have c:=dC "cost" vc (cD "high" vh (cD "goal" (.str g) (cD "start" (.str s) (cD "name" (.str n) []))));have h:=dC "high" vh (cD "goal" (.str g) (cD "start" (.str s) (cD "name" (.str n) [])));have b:=dC "goal" (.str g) (cD "start" (.str s) (cD "name" (.str n) []));have e:=dC "start" (.str s) (cD "name" (.str n) []);have a:=dC "name" (.str n) [];simp only[List.length_nil]at a
  lia
theorem W5.put(h:W5 fs n s g vh vc)(hf:f∈(["rate","loss"]:List Str))(hl:fs.length<=5):W5 (cD f v fs) n s g vh vc:=by
 have e:∀x∈(["name","start","goal","high","cost","gain","out"]:List Str),x≠f:=by
  intro x a z;subst z
  revert a hf
  simp only[lx,lA,nR];rintro(rfl|rfl|rfl|rfl|rfl|rfl|rfl)(h|h)<;>exact absurd h (by decide+kernel)
 have l:=dC f v fs;refine⟨?_,?_,?_,?_,?_,?_,?_,by lia⟩<;>rw[fe,if_neg (e _ (by simp))]
 ·exact h.nm
 ·exact h.st
 ·exact h.go
 ·exact h.hi
 ·exact h.co
 ·exact h.ga
 ·exact h.ou
theorem cH(h:fs.length<=m):(cD f v fs).length<=m+1:=kW (dC f v fs) (Nat.succ_le_succ h)
theorem sgn_nn(h:0<=x.num):¬sgn x<0:=by
 unfold sgn
 repeat' split
 all_goals lia
theorem sgn_p(h:0<x.num):¬sgn x<=0:=by
 unfold sgn;rw[if_pos h];decide
noncomputable def HiOk(C:Addr)(H:Hp)(v:V):Prop:=v=.non∨∃(q:Addr)(x:Rat),v=.ref q/\FrAt C H q x/\0<=x.num
theorem HiOk.mono(h:HiOk C H v)(s:Same H H'):HiOk C H' v:=h.imp id (by rintro⟨q,x,e,f,z⟩;exact⟨q,x,e,f.mono s,z⟩)
noncomputable def CoIs(C:Addr)(H:Hp)(p:Addr)(vc vc':V):Prop:=(vc≠.non/\vc'=vc)∨(vc=.non/\∃q,vc'=.ref q/\q≠p/\FrAt C H q (Rat.divInt 0 1))
theorem CoIs.upd{C p:Addr}{H:Hp}{vc vc':V}{o:HO}(h:CoIs C H p vc vc'):CoIs C (upd H p o) p vc vc':=h.imp id λ⟨e,q,b,ne,a,f⟩=>⟨e,q,b,ne,a,by rw[aG ne];exact f⟩
inductive IspWayN(K:W.Frag)(a:Ad)(vs:List V)(H:Hp)(Q:VK):Prop
 |mk(p C dx:Addr)(n s g:Str)(vh vc:V)(h1:vs=[.ref p,.str n,.str s,.str g,vh,vc])(h2:H p=some (.ins C dx []))(h3:WayC K C)(h4:s≠g)(h5:HiOk a.Fraction H vh)(h6:∀H' fs vc',W5 fs n s g vh vc'->fs.length<=5->CoIs a.Fraction H' p vc vc'->(∀b o,H b=some o->b≠p->H' b=some o)->H' p=some (.ins C dx fs)->Q .non H'):IspWayN K a vs H Q
noncomputable def spWayN(K:W.Frag)(a:Ad):Sp:=λvs H Q _=>IspWayN K a vs H Q
theorem b_Way(T:TX K mg a):BodyOk P w K mg base "Way.__init__" iF ["self","name","start","goal","high","cost"] 3 (spWayN K a):=by
 intro f S A D X H Y Q E F h;obtain⟨p,C,i,n,s,g,I,t,rfl,M,c,O,N,k⟩:=h
 refine⟨_,(bB (bG (PW.pt (gJ (aP eJ (pv 2) (pv 3)) (fL (fV (eo (pe_mtD0 (CX:=CX0) (pv 0) F aJ)))))) (aF cT) aV)
   (bB (bG (PW.pt (gJ (aP op_notN (pv 4) pe_non) (fL (aP jd (eV T.fr (pv 4) (eX T) F aJ) aC)))) (aF cT) aV)
   (aD (cP (pv 0) (pv 1) rfl)
   (aD (cP (pv 0) (pv 2) rfl)
   (aD (cP (pv 0) (pv 3) rfl)
   (aD (cP (pv 0) (pv 4) rfl)
   (aF (cP (pv 0) (pe_ifExp (aP op_isN (pv 5) pe_non) (cL (mk1 T) F T.mg_Fraction aJ (aA aC aB)) (pv 5)) rfl)))))))),?_⟩
 walk_at"q"
 refine dP (λj y=>j=[some (.ref p),some (.str n),some (.str s),some (.str g),some I,some t]/\y=H) ?_ ?_
 ·walk_at"rd"
  refine gV (lz λz=>O (V.str.inj z)) ?_;walk_at"rd"
  first|exact⟨rfl,rfl⟩|exact rfl
 rintro Z G j y⟨rfl,rfl⟩;subst G;refine⟨λj l=>j=[some (.ref p),some (.str n),some (.str s),some (.str g),some I,some t]/\l=y,?_,?_⟩
 ·rcases N with rfl|⟨q,x,rfl,fq,hx⟩
  ·walk_at"rd"
   first|exact⟨rfl,rfl⟩|exact rfl
  ·walk_at"rd"
   refine gV (lz (sgn_nn hx)) ?_;first|exact⟨rfl,rfl⟩|exact rfl
 rintro j l⟨rfl,rfl⟩;refine⟨_,rfl,_,rfl,p,C,i,[],rfl,M,c.cl,c.n1,by decide,?_⟩;refine⟨_,rfl,_,rfl,p,C,i,_,rfl,aE,c.cl,c.n2,lQ (cH (kM 0)) (by decide),?_⟩;refine⟨_,rfl,_,rfl,p,C,i,_,rfl,aE,c.cl,c.n3,lQ (cH (cH (kM 0))) (by decide),?_⟩;refine⟨_,rfl,_,rfl,p,C,i,_,rfl,aE,c.cl,c.n4,lQ (cH (cH (cH (kM 0)))) (by decide),?_⟩;simp only[jp];walk_at"rd"
 by_cases hc:t=.non
 ·refine kG (lD hc) ?_;walk_at"rd"
  refine⟨by decide,sm1,λq U L J B=>?_⟩;refine⟨_,rfl,p,C,i,_,rfl,J _ _ aE,c.cl,c.n5,lQ (cH (cH (cH (cH (kM 0))))) (by decide),?_⟩;have m:q≠p:=λz=>by rw[z,aE]at L;cases L
  obtain⟨R,B⟩:=B;refine k _ _ (.ref q) W5.new (cH (cH (cH (cH (cH (kM 0)))))) (.inr ⟨hc,q,rfl,m,R,by rw[aG m];exact B⟩) (λb o e r=>?_) aE;rw[aG r];refine J _ _ ?_;rw[aG r];exact e
 ·refine gV (lz hc) ?_;refine⟨_,rfl,_,rfl,p,C,i,_,rfl,aE,c.cl,c.n5,lQ (cH (cH (cH (cH (kM 0))))) (by decide),?_⟩;rw[jp];refine k _ _ t W5.new (cH (cH (cH (cH (cH (kM 0)))))) (.inl ⟨hc,rfl⟩) (λb o e r=>?_) aE;rw[aG r];exact e
theorem len_WayN:∀vs H Q E,spWayN K a vs H Q E->vs.length=(["self","name","start","goal","high","cost"]:List Str).length:=λvs H Q E h=>by
 obtain⟨_,_,_,_,_,_,_,_,rfl,_⟩:=h;rfl
theorem mk_WayN(T:TX K mg a):∀dvs∈[[],[V.non,V.non]],MkB P w K mg base CX0 a.Way 4 ["self","name","start","goal","high","cost"] dvs (spWayN K a):=T.i_Way.okA sc_Way_init (b_Way T) len_WayN
theorem mk_Way2(T:TX K mg a):MkB P w K mg base CX0 a.Way 4 ["self","name","start","goal","high","cost"] [.non,.non] (spWayN K a):=mk_WayN T _ (by simp)
theorem cf_Way(T:TX K mg a):CfB P w K mg base CX0 a.Way "__init__" 4 ["self","name","start","goal","high","cost"] (spWayN K a):=T.c_Way.okA sc_Way_init (b_Way T) len_WayN
inductive IspPartN(K:W.Frag)(a:Ad)(f:Str)(ok:Rat->Prop)(vs:List V)(H:Hp)(Q:VK):Prop
 |mk(p C dx:Addr)(n s g:Str)(vh vc:V)(q:Addr)(x:Rat)(h1:vs=[.ref p,.str n,.str s,.str g,.ref q,vh,vc])(h2:H p=some (.ins C dx []))(h3:WayC K C)(h4:NoAttr K C f)(h5:s≠g)(h6:FrAt a.Fraction H q x)(h7:ok x)(h8:HiOk a.Fraction H vh)(h9:∀H' fs vc',W5 fs n s g vh vc'->fs.lookup f=some (.ref q)->CoIs a.Fraction H' p vc vc'->(∀b o,H b=some o->b≠p->H' b=some o)->H' p=some (.ins C dx fs)->Q .non H'):IspPartN K a f ok vs H Q
noncomputable def gc(K:W.Frag)(a:Ad)(f:Str)(ok:Rat->Prop):Sp:=λvs H Q _=>IspPartN K a f ok vs H Q
theorem len_PartN:∀vs H Q E,gc K a f ok vs H Q E->vs.length=(["self","name","start","goal",z,"high","cost"]:List Str).length:=λvs H Q E h=>by
 obtain⟨_,_,_,_,_,_,_,_,_,_,rfl,_⟩:=h;rfl
noncomputable abbrev growOk:Rat->Prop:=λx=>0<x.num
noncomputable abbrev leakOk:Rat->Prop:=λx=>0<=x.num/\x<1/\SmR x
theorem b_Growing(T:TX K mg a):BodyOk P w K mg base "Growing.__init__" gI ["self","name","start","goal","rate","high","cost"] 4 (gc K a "rate" growOk):=by
 intro f J A i O H S Q E r h;obtain⟨p,C,l,n,s,g,F,L,q,x,rfl,t,c,D,I,N,y,z,k⟩:=h
 refine⟨_,(aD (bG (aP op_le (eV T.fr (pv 4) (eX T) r aJ) aC) (aF cT) aV)
   (aD (bZ (pe_cf (cf_Way T) r T.mg_Way aJ (aA (pv 0) (aA (pv 1) (aA (pv 2) (aA (pv 3) (aA (pv 5) (aA (pv 6) aB))))))))
   (aF (cP (pv 0) (pv 4) rfl)))),?_⟩
 walk_at"q"
 walk_at"rd"
 refine gV (lz (sgn_p y)) ?_;refine⟨_,rfl,_,rfl,_,rfl,_,rfl,_,rfl,_,rfl,p,C,l,n,s,g,F,L,rfl,t,c,I,z,λR fs j B m M hs G=>?_⟩;refine⟨_,rfl,_,rfl,p,C,l,fs,rfl,G,c.cl,D,lQ m (by decide),?_⟩;refine k _ _ j (B.put (by simp) m) ?_ M.upd (λb o e ne=>?_) aE
 ·rw[fe,if_pos rfl]
 ·rw[aG ne];exact hs b o e ne
theorem mk_GrowingN(T:TX K mg a):∀dvs∈[[],[V.non,V.non]],MkB P w K mg base CX0 a.Growing 5 ["self","name","start","goal","rate","high","cost"] dvs (gc K a "rate" growOk):=T.i_Growing.okA sc_Growing_init (b_Growing T) len_PartN
theorem mk_Growing2(T:TX K mg a):MkB P w K mg base CX0 a.Growing 5 ["self","name","start","goal","rate","high","cost"] [.non,.non] (gc K a "rate" growOk):=mk_GrowingN T _ (by simp)
theorem b_Leaking(T:TX K mg a):BodyOk P w K mg base "Leaking.__init__" gH ["self","name","start","goal","loss","high","cost"] 4 (gc K a "loss" leakOk):=by
 intro f Z A j s₀ H vs Q E i h;obtain⟨p,C,B,n,s,g,G,I,q,x,rfl,J,c,R,X,fq,⟨M,l,sx⟩,N,k⟩:=h
 refine⟨_,(bB (bG (PW.pt (pw_or (aP jd (eV T.fr (pv 4) (eX T) i aJ) aC) (jR (fV (eo (cM T.fr (pv 4) (ok_under T) i aJ (aA (cL (mk1 T) i T.mg_Fraction aJ (aA aC aB)) aB))))))) (aF cT) aV)
   (aD (bZ (pe_cf (cf_Way T) i T.mg_Way aJ (aA (pv 0) (aA (pv 1) (aA (pv 2) (aA (pv 3) (aA (pv 5) (aA (pv 6) aB))))))))
   (aF (cP (pv 0) (pv 4) rfl)))),?_⟩
 walk_at"q"
 refine dP (λF z=>F=[some (.ref p),some (.str n),some (.str s),some (.str g),some (.ref q),some G,some I]/\Same H z) ?_ ?_
 ·walk_at"rd"
  refine gV (lz (sgn_nn M)) ?_;walk_at"rd"
  refine⟨by decide,sm1,λr H1 nr Y L=>?_⟩;have U:Rat.divInt 1 1=1:=rfl;rw[U]at L;have s2:SmR (1:Rat):=⟨sm1,sm1⟩;walk_at"rd"
  refine gV (by dsimp only;rw[lD l];rfl) ?_;exact⟨rfl,Y⟩
 rintro zU m F z⟨rfl,y⟩;subst m;refine⟨_,rfl,_,rfl,_,rfl,_,rfl,_,rfl,_,rfl,p,C,B,n,s,g,G,I,rfl,y _ _ J,c,X,N.mono y,λH2 fs t O D co hs S=>?_⟩;refine⟨_,rfl,_,rfl,p,C,B,fs,rfl,S,c.cl,R,lQ D (by decide),?_⟩;refine k _ _ t (O.put (by simp) D) ?_ co.upd (λb o e ne=>?_) aE
 ·rw[fe,if_pos rfl]
 ·rw[aG ne];exact hs b o (y _ _ e) ne
theorem mk_LeakingN(T:TX K mg a):∀dvs∈[[],[V.non,V.non]],MkB P w K mg base CX0 a.Leaking 5 ["self","name","start","goal","loss","high","cost"] dvs (gc K a "loss" leakOk):=T.i_Leaking.okA sc_Leaking_init (b_Leaking T) len_PartN
theorem mk_Leaking2(T:TX K mg a):MkB P w K mg base CX0 a.Leaking 5 ["self","name","start","goal","loss","high","cost"] [.non,.non] (gc K a "loss" leakOk):=mk_LeakingN T _ (by simp)
inductive Kd where
 |way
 |gro
 |lea
 |sto
noncomputable def Kd.n:Kd->Int
 |.way=>0
 |.gro=>1
 |.lea=>2
 |.sto=>3
noncomputable def Kd.C(a:Ad):Kd->Addr
 |.way=>a.Way
 |.gro=>a.Growing
 |.lea=>a.Leaking
 |.sto=>a.Store
noncomputable def Kd.f:Kd->Str
 |.gro=>"rate"
 |_=>"loss"
noncomputable def Kd.ok:Kd->Rat->Prop
 |.way=>λ_=>True
 |.gro=>growOk
 |_=>leakOk
noncomputable def aW:Kd->Rat->Rat
 |.way=>λ_=>1
 |.gro=>λx=>x
 |_=>λx=>1-x
structure WayAt(a:Ad)(H:Hp)(p:Addr)(kd:Kd)(n s g:Str)(vh vc:V)(q:Addr)(x:Rat):Prop where
 ob:∃dx fs,H p=some (.ins (kd.C a) dx fs)/\W5 fs n s g vh vc/\(kd≠.way->fs.lookup kd.f=some (.ref q))
 fq:kd≠.way->FrAt a.Fraction H q x
noncomputable def Stays(a:Ad)(H H':Hp):Prop:=∀b C dx fs,(C=a.Fraction∨∃kd:Kd,C=kd.C a)->H b=some (.ins C dx fs)->H' b=some (.ins C dx fs)
theorem Stays.of{a:Ad}(s:Same H H'):Stays a H H':=λb C c fs _ e=>s _ _ e
theorem Stays.fr{a:Ad}(k:Stays a H H')(h:FrAt a.Fraction H q x):FrAt a.Fraction H' q x:=by
 obtain⟨dq,f⟩:=h;exact⟨dq,k _ _ _ _ (.inl rfl) f⟩
theorem WayAt.keep{a:Ad}(h:WayAt a H p kd n s g vh vc q x)(k:Stays a H H'):WayAt a H' p kd n s g vh vc q x:=
 ⟨let⟨dx,fs,e,r⟩:=h.ob;⟨dx,fs,k _ _ _ _ (.inr ⟨kd,rfl⟩) e,r⟩,λz=>k.fr (h.fq z)⟩
theorem WayAt.mono{a:Ad}(h:WayAt a H p kd n s g vh vc q x)(ss:Same H H'):WayAt a H' p kd n s g vh vc q x:=h.keep (.of ss)
theorem Stays.put{a:Ad}(hd:H d=some o)(ho:∀C dx fs,o≠.ins C dx fs):Stays a H (upd H d o'):=λb C dx fs _ e=>by rw[aG (bD e hd (ho C dx fs).symm)];exact e
theorem cR(T:TX K mg a)(kd:Kd):WayC K (kd.C a):=by
 cases kd
 ·exact T.wW
 ·exact T.wG
 ·exact T.wL
 ·exact T.wS
noncomputable def NewWay(a:Ad)(H:Hp)(Q:VK)(kd:Kd)(n s g:Str)(vh vc:V)(x:Rat):Prop:=∀p H' vc' q,H p=none->Same H H'->WayAt a H' p kd n s g vh vc' q x->CoIs a.Fraction H' p vc vc'->Q (.ref p) H'
theorem ia(h1:H x=none)(h2:H dx=none)(h:∀b o,(upd (upd H dx (.own x)) x (.ins C dx [])) b=some o->b≠x->H' b=some o):Same H H':=by
 intro b o e;have a:=aN e h1;refine h b o ?_ a;rw[aG a,aG (aN e h2)];exact e
theorem kg(h1:H x=none)(h2:H dx=none):Same H (upd (upd H dx (.own x)) x (.ins C dx [])):=by
 intro b o e;rw[aG (aN e h1),aG (aN e h2)];exact e
theorem mkW(T:TX K mg a)(sg:s≠g)(hh:HiOk a.Fraction H vh)(k:NewWay a H Q .way n s g vh vc x)(p dx:Addr)(h1:H p=none)(h2:H dx=none)(_:dx≠p):
  spWayN K a [.ref p,.str n,.str s,.str g,vh,vc] (upd (upd H dx (.own p)) p (.ins a.Way dx [])) (λv H2=>v=.non/\Q (.ref p) H2) E0:=by
 have i:=kg (C:=a.Way) h1 h2;refine⟨p,_,dx,n,s,g,vh,vc,rfl,aE,T.wW,sg,hh.mono i,λm fs b c l j hs e=>⟨rfl,?_⟩⟩;have h:=ia h1 h2 hs;exact k p _ b p h1 h ⟨⟨dx,fs,e,c,λz=>absurd rfl z⟩,λz=>absurd rfl z⟩ j
theorem mkG(T:TX K mg a)(sg:s≠g)(fq:FrAt a.Fraction H q x)(hx:growOk x)(hh:HiOk a.Fraction H vh)(k:NewWay a H Q .gro n s g vh vc x)(p dx:Addr)(h1:H p=none)(h2:H dx=none)(_:dx≠p):
  gc K a "rate" growOk [.ref p,.str n,.str s,.str g,.ref q,vh,vc] (upd (upd H dx (.own p)) p (.ins a.Growing dx [])) (λv H2=>v=.non/\Q (.ref p) H2) E0:=by
 have e:=kg (C:=a.Growing) h1 h2;refine⟨p,_,dx,n,s,g,vh,vc,q,x,rfl,aE,T.wG,T.na_Growing_rate,sg,fq.mono e,hx,hh.mono e,λm fs b h i l hs j=>⟨rfl,?_⟩⟩;have c:=ia h1 h2 hs;exact k p _ b q h1 c ⟨⟨dx,fs,j,h,λ_=>i⟩,λ_=>fq.mono c⟩ l
theorem mkL(T:TX K mg a)(sg:s≠g)(fq:FrAt a.Fraction H q x)(hx:leakOk x)(hh:HiOk a.Fraction H vh)(k:NewWay a H Q .lea n s g vh vc x)(p dx:Addr)(h1:H p=none)(h2:H dx=none)(_:dx≠p):
  gc K a "loss" leakOk [.ref p,.str n,.str s,.str g,.ref q,vh,vc] (upd (upd H dx (.own p)) p (.ins a.Leaking dx [])) (λv H2=>v=.non/\Q (.ref p) H2) E0:=by
 have e:=kg (C:=a.Leaking) h1 h2;refine⟨p,_,dx,n,s,g,vh,vc,q,x,rfl,aE,T.wL,T.na_Leaking_loss,sg,fq.mono e,hx,hh.mono e,λm fs b h i l hs j=>⟨rfl,?_⟩⟩;have c:=ia h1 h2 hs;exact k p _ b q h1 c ⟨⟨dx,fs,j,h,λ_=>i⟩,λ_=>fq.mono c⟩ l
inductive IspGain(a:Ad)(kd:Kd)(vs:List V)(H:Hp)(Q:VK):Prop
 |mk(p:Addr)(n s g:Str)(vh vc:V)(q:Addr)(x:Rat)(h1:vs=[.ref p])(h2:WayAt a H p kd n s g vh vc q x)(h3:SmR x)(h4:∀r H',Same H H'->FrAt a.Fraction H' r (aW kd x)->Q (.ref r) H'):IspGain a kd vs H Q
noncomputable def iX(a:Ad)(kd:Kd):Sp:=λvs H Q _=>IspGain a kd vs H Q
theorem kD:∀vs H Q E,iX a kd vs H Q E->vs.length=(["self"]:List Str).length:=λvs H Q E h=>by
 obtain⟨_,_,_,_,_,_,_,_,rfl,_⟩:=h;rfl
theorem gain_Way(T:TX K mg a):MtB P w K mg base CX0 a.Way "gain" 7 ["self"] (iX a .way):=by
 refine T.m_Way_gain.okA sc_Way_gain (λf l A b y H o Q E c h=>?_) kD;obtain⟨p,n,s,g,m,t,q,x,rfl,W,z,k⟩:=h;refine⟨_,(aF (aO (cL (mk1 T) c T.mg_Fraction aJ (aA aC aB)))),?_⟩;walk_at"q"
 walk_at"rd"
 exact⟨by decide,sm1,λr e _ j i=>k r e j i⟩
theorem gain_Growing(T:TX K mg a):MtB P w K mg base CX0 a.Growing "gain" 7 ["self"] (iX a .gro):=by
 refine T.m_Growing_gain.okA sc_Growing_gain (λf i A b y H o Q E m h=>?_) kD;obtain⟨p,n,s,g,l,t,q,x,rfl,W,z,k⟩:=h;refine⟨_,(aF (aO (aY (pv 0) rfl))),?_⟩;walk_at"q"
 obtain⟨e,fs,c,r,j⟩:=W.ob;exact⟨_,rfl,p,_,e,fs,_,rfl,c,T.wG.cl,T.na_Growing_rate,j (by nofun),k q H (Same.refl _) (W.fq (by nofun))⟩
theorem b_gainL(T:TX K mg a)(kd:Kd)(C:Addr)(hC:kd.C a=C)(hk:kd≠.way)(hf:kd.f="loss")(hg:∀x,aW kd x=1-x)(cl:Cls K C)(nl:NoAttr K C "loss"):BodyOk P w K mg base "Leaking.gain" fj ["self"] 6 (iX a kd):=by
 intro f F A b O H S Q E l h;obtain⟨p,n,s,g,R,U,q,x,rfl,W,X,k⟩:=h;refine⟨_,(aF (aO (cM T.fr (cL (mk1 T) l T.mg_Fraction aJ (aA aC aB)) (eR T) l aJ (aA (aY (pv 0) rfl) aB)))),?_⟩;walk_at"q"
 obtain⟨L,fs,j,M,c⟩:=W.ob;have c:=c hk;rw[hf]at c;rw[hC]at j;walk_at"rd"
 refine⟨by decide,sm1,λr J N i o=>?_⟩;have B:Rat.divInt 1 1=1:=rfl;rw[B]at o;have I:SmR (1:Rat):=⟨sm1,sm1⟩;have t:=i _ _ j;have D:=(W.fq hk).mono i;walk_at"rd"
 intro y z G e m;refine k y z (i.trans e) ?_;rw[hg];exact m
theorem gain_Leaking(T:TX K mg a):MtB P w K mg base CX0 a.Leaking "gain" 7 ["self"] (iX a .lea):=T.m_Leaking_gain.okA iM (b_gainL T .lea _ rfl (by nofun) rfl (λ_=>rfl) T.wL.cl T.na_Leaking_loss) kD
theorem gain_Store(T:TX K mg a):MtB P w K mg base CX0 a.Store "gain" 7 ["self"] (iX a .sto):=T.m_Store_gain.okA iM (b_gainL T .sto _ rfl (by nofun) rfl (λ_=>rfl) T.wS.cl T.na_Store_loss) kD
theorem gain_any(T:TX K mg a)(kd:Kd):MtB P w K mg base CX0 (kd.C a) "gain" 7 ["self"] (iX a kd):=by
 cases kd
 ·exact gain_Way T
 ·exact gain_Growing T
 ·exact gain_Leaking T
 ·exact gain_Store T
inductive IspOut(a:Ad)(kd:Kd)(vs:List V)(H:Hp)(Q:VK):Prop
 |mk(p r:Addr)(n s g:Str)(vh vc:V)(q:Addr)(x y:Rat)(h1:vs=[.ref p,.ref r])(h2:WayAt a H p kd n s g vh vc q x)(h3:FrAt a.Fraction H r y)(h4:SmR x)(h5:SmR y)(h6:SmR (aW kd x))(h7:∀r' H',Same H H'->FrAt a.Fraction H' r' (y*aW kd x)->Q (.ref r') H'):IspOut a kd vs H Q
noncomputable def spOut(a:Ad)(kd:Kd):Sp:=λvs H Q _=>IspOut a kd vs H Q
theorem len_Out:∀vs H Q E,spOut a kd vs H Q E->vs.length=(["self","amount"]:List Str).length:=λvs H Q E h=>by
 obtain⟨_,_,_,_,_,_,_,_,_,_,rfl,_⟩:=h;rfl
theorem b_out(T:TX K mg a)(kd:Kd):BodyOk P w K mg base "Way.out" gw ["self","amount"] 7 (spOut a kd):=by
 intro f I A b O H S Q E c h;obtain⟨p,r,n,s,g,B,L,q,x,y,rfl,W,fr,M,G,F,k⟩:=h;refine⟨_,(aF (aO (cM T.fr (pv 1) (gM T) c aJ (aA (pe_mtD0 (CX:=CX0) (pv 0) c aJ) aB)))),?_⟩;walk_at"q"
 obtain⟨l,fs,D,o,R⟩:=W.ob;refine⟨_,rfl,r,y,rfl,fr,_,rfl,p,kd.C a,l,fs,7,["self"],iX a kd,rfl,D,o.ga,(cR T kd).cl,by decide,gain_any T kd,p,n,s,g,B,L,q,x,rfl,W,M,λJ N e m=>?_⟩;exact⟨r,J,y,_,rfl,fr.mono e,m,G,F,trivial,λt z _ j i=>k t z (e.trans j) i⟩
theorem out_any(T:TX K mg a)(kd:Kd):MtB P w K mg base CX0 (kd.C a) "out" 8 ["self","amount"] (spOut a kd):=by
 cases kd
 ·exact T.m_Way_out.okA iE (b_out T _) len_Out
 ·exact T.m_Growing_out.okA iE (b_out T _) len_Out
 ·exact T.m_Leaking_out.okA iE (b_out T _) len_Out
 ·exact T.m_Store_out.okA iE (b_out T _) len_Out
end
end G
namespace G
open PySem L2
section
structure WD where
 nm:Str
 st:Str
 go:Str
 kd:Kd
 x:Rat
noncomputable def WayIs(a:Ad)(H:Hp)(v:V)(d:WD):Prop:=∃p vh vc q,v=.ref p/\WayAt a H p d.kd d.nm d.st d.go vh vc q d.x/\d.kd≠.sto
theorem WayIs.mono(h:WayIs a H v d)(s:Same H H'):WayIs a H' v d:=by
 obtain⟨p,vh,vc,q,e,W,k⟩:=h;exact⟨p,vh,vc,q,e,W.mono s,k⟩
noncomputable def RowAt{α:Type}(R:Hp->V->α->Prop)(H:Hp)(ts:List V)(xs:List α):Prop:=ts.length=xs.length/\∀(i:Nat)(t:V)(x:α),ts[i]?=some t->xs[i]?=some x->R H t x
theorem RowAt.mono(hR:∀v x,R H v x->R H' v x)(h:RowAt R H ts xs):RowAt R H' ts xs:=⟨h.1,λi t x a b=>hR t x (h.2 i t x a b)⟩
theorem RowAt.nil:RowAt R H [] []:=⟨rfl,λi t x h=>by simp at h⟩
theorem RowAt.snoc(d:RowAt R H ts xs)(hf:R H t x):RowAt R H (ts++[t]) (xs++[x]):=by
 refine⟨by rw[k5,k5,d.1];rfl,λi u z a b=>?_⟩;by_cases hi:i<ts.length
 ·rw[mN hi]at a;rw[mN (by rw[<-d.1];exact hi)]at b;exact d.2 i u z a b
 ·rw[mh (by lia)]at a;rw[mh (by rw[<-d.1];lia),<-d.1]at b
  have c:i-ts.length=0:=by
   have:=(kL.mp a).1
   simp at this
   lia
  rw[c]at a b;simp at a b;subst a b;exact hf
theorem RowAt.get{i:Nat}(d:RowAt R H ts xs)(h:ts[i]?=some t):∃x,xs[i]?=some x/\R H t x:=by
 have a:i<xs.length:=by rw[<-d.1];exact(kL.mp h).1
 exact⟨xs[i],kR a,d.2 i t _ h (kR a)⟩
theorem RowAt.get'{i:Nat}(d:RowAt R H ts xs)(h:xs[i]?=some x):∃t,ts[i]?=some t/\R H t x:=by
 have a:i<ts.length:=by rw[d.1];exact(kL.mp h).1
 exact⟨ts[i],kR a,d.2 i _ x (kR a) h⟩
noncomputable def PlIs(a:Ad)(H:Hp)(v:V)(p:Str×Rat):Prop:=∃t q,v=.ref t/\H t=some (.tup [.str p.1,.ref q])/\FrAt a.Fraction H q p.2
theorem PlIs.mono(h:PlIs a H v p)(s:Same H H'):PlIs a H' v p:=by
 obtain⟨t,q,e,h1,h2⟩:=h;exact⟨t,q,e,s _ _ h1,h2.mono s⟩
theorem aS(h:H d=none):Same H (upd H d o):=λb u e=>by rw[aG (aN e h)];exact e
theorem uG{H:Hp}{e:Addr}{o:HO}(n:H e=none):∃H',upd H e o=H'/\Same H H'/\H' e=some o:=⟨_,rfl,aS n,aE⟩
theorem aZ(h:H d=none)(s:Same H H'):Same H (upd H' d o):=λb u e=>by rw[aG (aN e h)];exact s _ _ e
theorem gA[DecidableEq κ]{k:κ}(h:¬k∈kvs.map (·.1)):dF kvs k=none:=by
 cases e:dF kvs k with
 |none=>rfl
 |some v=>exact absurd (valV_in e) h
theorem val_some[DecidableEq κ]{k:κ}(h:k∈kvs.map (·.1)):∃v,dF kvs k=some v:=by
 cases e:dF kvs k with
 |none=>exact absurd h (valV_not e)
 |some v=>exact⟨v,rfl⟩
noncomputable def WantsAt(a:Ad)(H:Hp)(d:Addr)(ps:List (Str×Rat)):Prop:=∃kvs,H d=some (.dK kvs)/\kvs.map (·.1)=ps.map (λp=>Sum.inr p.1)/\RowAt (λH v x=>∃q,v=.ref q/\FrAt a.Fraction H q x) H (kvs.map (·.2)) (ps.map (·.2))
theorem WantsAt.mono(h:WantsAt a H d ps)(s:Same H H'):WantsAt a H' d ps:=
 let⟨kvs,h1,h2,h3⟩:=h;⟨kvs,s _ _ h1,h2,h3.mono (by rintro v x⟨q,e,f⟩;exact⟨q,e,f.mono s⟩)⟩
inductive IspWants(K:W.Frag)(a:Ad)(vs:List V)(H:Hp)(Q:VK):Prop
 |mk(l:Addr)(ts:List V)(ps:List (Str×Rat))(h1:vs=[.ref l])(h2:SqL K H l ts)(h3:RowAt (PlIs a) H ts ps)(h4:(ps.map (·.1)).Nodup)(h5:ps.length<=1000)(h6:∀d H',H d=none->Same H H'->WantsAt a H' d ps->Q (.ref d) H'):IspWants K a vs H Q
noncomputable def spWants(K:W.Frag)(a:Ad):Sp:=λvs H Q _=>IspWants K a vs H Q
theorem ok_wants_by_name(T:TX K mg a):FnB P w K mg base CX0 "wants_by_name" 1 ["places"] (spWants K a):=by
 refine T.d_wants_by_name.okA sc_wants_by_name λf ab A J s H vs Q E hr h=>?_;obtain⟨l,ts,ps,rfl,Z,R,nd,aa,k⟩:=h
 refine⟨_,(aD (aI (i:=1) sc_wants_by_name.nd cU)
  (aD (bR lj rfl (bW (pv 0)) (hV (n:=2) rfl (bY (aQ (i:=2) sc_wants_by_name.nd) (bY (aQ (i:=3) sc_wants_by_name.nd) fM))) (aD (bG (jb (pc_din (bS hr) (pv 2) (pv 1))) (aF cT) aV)
  (aF (cW (bS hr) (pv 1) (pv 2) (pv 3) rfl))))
  (aF (aO (pv 1))))),?_⟩
 walk_at"q"
 intro d c;have U:Same H (upd H d (.dK [])):=aS c;refine⟨_,rfl,l,rfl,⟨_,U.seq Z⟩,cF (K:=K) (a:=l) (xs:=ts) (λi σ y=>i<=ps.length/\yE2 λN D=>σ=[some (.ref l),some (.ref d),N,D]×' Same H y×' WantsAt a y d (ps.take i)) ⟨kY _,_,_,rfl,U,[],aE,rfl,RowAt.nil⟩ ((by rintro i σ y _⟨_,_,_,_,r,_⟩;exact r.seq Z)) ?_ ?_⟩
 ·rintro i t σ y ht⟨hi,N,D,rfl,r,b,F,O,hv⟩;obtain⟨p,B,t',q,rfl,h1,h2⟩:=R.get ht;have M:i<ps.length:=(kL.mp B).1
  have S:¬(Sum.inr p.1:Key)∈b.map (·.1):=by
   rw[O];intro m;obtain⟨p',L,e⟩:=kQ.mp m;have e:p'.1=p.1:=nO e;obtain⟨j,G⟩:=lL.mp L
   have I:j<i:=by
    have:=(kL.mp G).1
    rw[k8]at this
    lia
   rw[mO,if_pos I]at G;have g1:(ps.map (·.1))[j]?=some p.1:=by rw[kP,G,ml,e]
   have g2:(ps.map (·.1))[i]?=some p.1:=by rw[kP,B,ml]
   have:=(mo (by rw[kK];lia) nd).mp (g1.trans g2.symm)
   lia
  refine⟨t',[.str p.1,.ref q],rfl,SqT.of (r _ _ h1),rfl,.str p.1,[.ref q],rfl,⟨.ref q,[],rfl,⟨rfl,?_⟩⟩⟩;refine⟨_,rfl,_,rfl,d,_,rfl,DGet.k (k:=Sum.inr p.1) F,_,rfl,?_⟩;rw[gA S];refine iteF ?_
  have hl:b.length=i:=by
   have:=lW List.length O
   rw[kK,kK,k8]at this
   lia
  refine⟨_,rfl,_,rfl,_,rfl,d,_,rfl,DPut.k (k:=Sum.inr p.1) F (aU (by lia)),?_⟩;rw[im _ (gA S)];have Y:=aZ (o:=.dK (b++[(Sum.inr p.1,.ref q)])) c r;refine⟨M,_,_,rfl,Y,b++[(Sum.inr p.1,.ref q)],aE,?_,?_⟩
  ·rw[kO,O,kX,B,lB,kO];rfl
  ·rw[kO,kX,B,lB,kO];refine RowAt.snoc (hv.mono λv x⟨q',e,dq,f⟩=>⟨q',e,dq,?_⟩) ⟨q,rfl,h2.mono Y⟩;rw[aG (bD f F (by intro z;cases z))];exact f
 ·rintro σ y⟨_,N,D,rfl,r,X⟩;rw[R.1,kZ]at X;exact⟨_,rfl,k d y c r X⟩
inductive IspCheck(a:Ad)(vs:List V)(H:Hp)(Q:VK):Prop
 |mk(v:V)(d:WD)(da dw:Addr)(ka kw:List (Key×V))(h1:vs=[v,.ref da,.ref dw])(h2:WayIs a H v d)(h3:H da=some (.dK ka))(h4:H dw=some (.dK kw))(h5:¬(Sum.inr d.nm:Key)∈ka.map (·.1))(h6:(Sum.inr d.st:Key)∈kw.map (·.1))(h7:(Sum.inr d.go:Key)∈kw.map (·.1))(h8:∀H',Same H H'->Q .non H'):IspCheck a vs H Q
noncomputable def spCheck(a:Ad):Sp:=λvs H Q _=>IspCheck a vs H Q
theorem noStore(T:TX K mg a){kd:Kd}(h:kd≠.sto):PySem.W.kitOne K (.ref (kd.C a)) (.ref a.Store)=some false:=by
 cases kd
 ·exact T.k_Way_Store
 ·exact T.k_Growing_Store
 ·exact T.k_Leaking_Store
 ·exact absurd rfl h
theorem tyWay(T:TX K mg a){kd:Kd}(h:H p=some (.ins (kd.C a) dx fs)):TyOf K H (.ref p) (.ref (kd.C a)):=by
 have c:=(cR T kd).cl
 cases kd
 ·exact TyOf.ins h c T.c1_Way T.c2 T.c3 T.c4_Way
 ·exact TyOf.ins h c T.c1_Growing T.c2 T.c3 T.c4_Growing
 ·exact TyOf.ins h c T.c1_Leaking T.c2 T.c3 T.c4_Leaking
 ·exact TyOf.ins h c T.c1_Store T.c2 T.c3 T.c4_Store
theorem ok_check_way(T:TX K mg a):FnB P w K mg base CX0 "check_way" 1 ["way","ahead","wants"] (spCheck a):=by
 refine T.d_check_way.okA sc_check_way λf X A B s H vs Q E G h=>?_;obtain⟨v,d,F,D,ka,Y,rfl,⟨p,vh,vc,q,rfl,W,Z⟩,L,R,J,N,S,k⟩:=h
 refine⟨_,(aD (bG (eo (bH (iA (c:=.ref a.Store)) (by rfl) T.z_isinstance mP (aA (pv 0) (aA (pe_glob (v:=.ref a.Store) (by rfl) T.mg_Store rfl) aB)))) (aF cT) aV)
  (aD (bG (jb (pc_din (bS G) (aY (pv 0) rfl) (pv 1))) (aF cT) aV)
  (aF (bR lj rfl (pi_tup (cE (aA (aY (pv 0) rfl) (aA (aY (pv 0) rfl) aB)))) (aQ (i:=3) sc_check_way.nd) (aF (bG (jb (jt (bS G) (pv 3) (pv 2))) (aF cT) aV)))))),?_⟩
 walk_at"q"
 obtain⟨m,fs,l,r,_⟩:=W.ob;have c:=cR T d.kd;refine⟨_,rfl,_,_,_,_,rfl,(λu h=>h),tyWay T l,noStore T Z,_,rfl,iteF ?_⟩;refine⟨_,rfl,p,_,m,fs,_,rfl,l,c.cl,c.n1,r.nm,_,rfl,F,_,rfl,DGet.k (k:=Sum.inr d.nm) L,_,rfl,?_⟩;rw[gA J];refine iteF ?_;refine⟨_,rfl,p,_,m,fs,_,rfl,l,c.cl,c.n2,r.st,_,rfl,p,_,m,fs,_,rfl,l,c.cl,c.n3,r.go,zL2,λt O=>?_⟩;have I:=aS (o:=.tup [.str d.st,.str d.go]) O;refine⟨t,rfl,⟨_,SqT.of aE⟩,for_tup (K:=K) (a:=t) (xs:=[.str d.st,.str d.go]) (λi σ j=>∃z,σ=[some (.ref p),some (.ref F),some (.ref D),z]/\j=upd H t (.tup [.str d.st,.str d.go])) ⟨_,rfl,rfl⟩ ((by rintro i σ j _⟨_,_,e⟩;exact by rw[e];exact SqT.of aE)) ?_ ?_⟩
 ·rintro i x σ j b⟨z,rfl,rfl⟩
  have b:∃y,x=.str y/\(Sum.inr y:Key)∈Y.map (·.1):=by
   match i,b with
   |0,b=>exact⟨d.st,(lJ b).symm,N⟩
   |1,b=>exact⟨d.go,(lJ b).symm,S⟩
   |i+2,b=>simp at b
  obtain⟨y,rfl,U⟩:=b;obtain⟨u,M⟩:=val_some U;refine⟨_,rfl,_,rfl,D,_,rfl,DGet.k (k:=Sum.inr y) (I _ _ R),_,rfl,?_⟩;rw[M];exact iteF ⟨_,rfl,rfl⟩
 ·rintro σ j⟨z,rfl,rfl⟩;exact k _ I
noncomputable def WaysAt(a:Ad)(H:Hp)(d:Addr)(ds:List WD):Prop:=∃kvs,H d=some (.dK kvs)/\kvs.map (·.1)=ds.map (λx=>Sum.inr x.nm)/\RowAt (WayIs a) H (kvs.map (·.2)) ds
theorem WaysAt.mono(h:WaysAt a H d ds)(s:Same H H'):WaysAt a H' d ds:=
 let⟨kvs,h1,h2,h3⟩:=h;⟨kvs,s _ _ h1,h2,h3.mono λv x z=>z.mono s⟩
inductive IspWaysBy(K:W.Frag)(a:Ad)(vs:List V)(H:Hp)(Q:VK):Prop
 |mk(l dw:Addr)(ts:List V)(ds:List WD)(ps:List (Str×Rat))(h1:vs=[.ref l,.ref dw])(h2:SqL K H l ts)(h3:RowAt (WayIs a) H ts ds)(h4:WantsAt a H dw ps)(h5:(ds.map (·.nm)).Nodup)(h6:ds.length<=1000)(h7:(∀d∈ds,d.st∈ps.map (·.1)/\d.go∈ps.map (·.1)))(h8:∀d H',H d=none->Same H H'->WaysAt a H' d ds->Q (.ref d) H'):IspWaysBy K a vs H Q
noncomputable def spWaysBy(K:W.Frag)(a:Ad):Sp:=λvs H Q _=>IspWaysBy K a vs H Q
theorem WayIs.keep(h:WayIs a H v x)(k:Stays a H H'):WayIs a H' v x:=by
 obtain⟨p,vh,vc,q,e,W,hk⟩:=h;exact⟨p,vh,vc,q,e,W.keep k,hk⟩
theorem WayIs.put(h:WayIs a H v x)(hd:H d=some (.dK kvs)):WayIs a (upd H d o) v x:=h.keep (.put hd (by intro _ _ _ z;cases z))
theorem nodup_take{α β:Type}{xs:List α}{f:α->β}{x:α}(nd:(xs.map f).Nodup)(e:xs[i]?=some x):¬f x∈(xs.take i).map f:=by
 intro m;obtain⟨y,c,h⟩:=kQ.mp m;obtain⟨j,a⟩:=lL.mp c;have o:=(kL.mp e).1
 have b:j<i:=by
  have:=(kL.mp a).1
  rw[k8]at this
  lia
 rw[mO,if_pos b]at a;have g1:(xs.map f)[j]?=some (f x):=by rw[kP,a,ml,h]
 have l:(xs.map f)[i]?=some (f x):=by rw[kP,e,ml]
 have:=(mo (by rw[kK];lia) nd).mp (g1.trans l.symm)
 lia
theorem inr_mem{ns:List Str}:(Sum.inr n:Key)∈ns.map (λx=>(Sum.inr x:Key))↔n∈ns:=by
 constructor
 ·intro h;obtain⟨y,a,e⟩:=kQ.mp h;rw[<-nO e];exact a
 ·exactλh=>kQ.mpr ⟨n,h,rfl⟩
theorem ok_ways_by_name(T:TX K mg a):FnB P w K mg base CX0 "ways_by_name" 2 ["ways","wants"] (spWaysBy K a):=by
 refine T.d_ways_by_name.okA sc_ways_by_name λf ab A R s H vs Q E hr h=>?_;obtain⟨l,dw,ts,M,ps,rfl,hS,X,hw,nd,aa,O,k⟩:=h
 refine⟨_,(aD (aI (i:=2) sc_ways_by_name.nd cU)
  (aD (bR lj rfl (bW (pv 0)) (aQ (i:=3) sc_ways_by_name.nd) (aD (bZ (aR (ok_check_way T) hr aJ (aA (pv 3) (aA (pv 2) (aA (pv 1) aB)))))
  (aF (cW (bS hr) (pv 2) (aY (pv 3) rfl) (pv 3) rfl))))
  (aF (aO (pv 2))))),?_⟩
 walk_at"q"
 intro d r;have s0:Same H (upd H d (.dK [])):=aS r;refine⟨_,rfl,l,rfl,⟨_,s0.seq hS⟩,cF (K:=K) (a:=l) (xs:=ts) (λi σ D=>i<=M.length/\yE1 λJ=>σ=[some (.ref l),some (.ref dw),some (.ref d),J]×' Same H D×' WaysAt a D d (M.take i)) ⟨kY _,_,rfl,s0,[],aE,rfl,RowAt.nil⟩ ((by rintro i σ D _⟨_,_,_,j,_⟩;exact j.seq hS)) ?_ ?_⟩
 ·rintro i t σ D ht⟨hi,J,rfl,j,b,hd,U,hv⟩;obtain⟨x,ex,Z⟩:=X.get ht;have S:i<M.length:=(kL.mp ex).1
  have Y:¬(Sum.inr x.nm:Key)∈b.map (·.1):=by
   rw[U]
   have:=nodup_take (f:=λz:WD=>(Sum.inr z.nm:Key)) (by
    rw[show(λz:WD=>(Sum.inr z.nm:Key))=(λn=>(Sum.inr n:Key))∘(λz:WD=>z.nm) from rfl,<-lY];exact nd.map _ (λu v h e=>h (nO e))) ex
   exact this
  obtain⟨kw,L,N,_⟩:=hw.mono j;obtain⟨i1,i2⟩:=O x (kN ex);have m:kw.map (·.1)=(ps.map (·.1)).map (λn=>(Sum.inr n:Key)):=by rw[N,lY];rfl
  refine⟨_,rfl,_,rfl,_,rfl,t,x,d,dw,b,kw,rfl,Z.mono j,hd,L,Y,by rw[m];exact inr_mem.mpr i1,by rw[m];exact inr_mem.mpr i2,λH3 I=>?_⟩;have B:=I _ _ hd;have F:=Z.mono (j.trans I);obtain⟨p,vh,vc,q,rfl,W,ac⟩:=id F;obtain⟨dx,fs,ho,h5,_⟩:=W.ob;have c:=cR T x.kd
  have hl:b.length=i:=by
   have:=lW List.length U
   rw[kK,kK,k8]at this
   lia
  refine⟨_,rfl,_,rfl,_,rfl,p,_,dx,fs,_,rfl,ho,c.cl,c.n1,h5.nm,d,_,rfl,DPut.k (k:=Sum.inr x.nm) B (aU (by lia)),?_⟩;rw[im _ (gA Y)];have s4:=aZ (o:=.dK (b++[(Sum.inr x.nm,.ref p)])) r (j.trans I);refine⟨S,_,rfl,s4,b++[(Sum.inr x.nm,.ref p)],aE,?_,?_⟩
  ·rw[kO,U,kX,ex,lB,kO];rfl
  ·rw[kO,kX,ex,lB];exact RowAt.snoc (hv.mono λv y z=>(z.mono I).put B) (F.put B)
 ·rintro σ D⟨_,J,rfl,j,G⟩;rw[X.1,kZ]at G;exact⟨_,rfl,k d D r j G⟩
noncomputable def fsN(dw dy:Addr):List (Str×V):=[("wants",.ref dw),("ways",.ref dy)]
theorem fsN_new(dw dy:Addr):cD "ways" (.ref dy) (cD "wants" (.ref dw) [])=fsN dw dy:=by
 show(if("wants":Str)="ways"then _ else(("wants":Str),V.ref dw)::[(("ways":Str),V.ref dy)])=fsN dw dy;rw[if_neg (by decide+kernel)];rfl
theorem fsN_w(dw dy:Addr):(fsN dw dy).lookup ("wants":Str)=some (.ref dw):=rfl
theorem fsN_y(dw dy:Addr):(fsN dw dy).lookup ("ways":Str)=some (.ref dy):=by
 show List.lookup ("ways":Str) [(("wants":Str),V.ref dw),("ways",V.ref dy)]=_;rw[lK,show(("ways":Str)=="wants")=false by decide+kernel];rfl
theorem jk(dw dy:Addr){m:Str}(h1:(m=="wants")=false)(h2:(m=="ways")=false):(fsN dw dy).lookup m=none:=by
 show List.lookup m [(("wants":Str),V.ref dw),("ways",V.ref dy)]=_;rw[lK,h1,lK,h2];rfl
noncomputable def NetAt(a:Ad)(H:Hp)(p:Addr)(ps:List (Str×Rat))(ds:List WD):Prop:=∃dx dw dy,H p=some (.ins a.Net dx (fsN dw dy))/\WantsAt a H dw ps/\WaysAt a H dy ds
theorem NetAt.mono(h:NetAt a H p ps ds)(s:Same H H'):NetAt a H' p ps ds:=by
 obtain⟨dx,dw,dy,e,h1,h2⟩:=h;exact⟨dx,dw,dy,s _ _ e,h1.mono s,h2.mono s⟩
structure NetOk(ps:List (Str×Rat))(ds:List WD):Prop where
 np:(ps.map (·.1)).Nodup
 lp:ps.length<=12
 nd:(ds.map (·.nm)).Nodup
 ld:ds.length<=24
 io:∀d∈ds,d.st∈ps.map (·.1)/\d.go∈ps.map (·.1)
inductive IspNetI(K:W.Frag)(a:Ad)(vs:List V)(H:Hp)(Q:VK):Prop
 |mk(p dx lp lw:Addr)(tp tw:List V)(ps:List (Str×Rat))(ds:List WD)(h1:vs=[.ref p,.ref lp,.ref lw])(h2:H p=some (.ins a.Net dx []))(h3:SqL K H lp tp)(h4:RowAt (PlIs a) H tp ps)(h5:SqL K H lw tw)(h6:RowAt (WayIs a) H tw ds)(h7:NetOk ps ds)(h8:∀H',(∀b o,H b=some o->b≠p->H' b=some o)->NetAt a H' p ps ds->Q .non H'):IspNetI K a vs H Q
theorem WantsAt.ins(h:WantsAt a H d ps)(hp:H p=some (.ins C dx fs))(hC:C≠a.Fraction):WantsAt a (upd H p (.ins C dx gs)) d ps:=by
 obtain⟨b,c,l,i⟩:=h;refine⟨b,by rw[aG (bD c hp (by intro z;cases z))];exact c,l,i.mono λv x⟨q,e,j,f⟩=>⟨q,e,j,?_⟩⟩;rw[aG (bD f hp (by intro z;cases z;exact hC rfl))];exact f
theorem Stays.ins(hp:H p=some (.ins C dx fs))(hC:C≠a.Fraction/\∀kd:Kd,C≠kd.C a):Stays a H (upd H p (.ins C dx gs)):=λb l i j h e=>by
 rw[aG (bD e hp λz=>?_)]
 ·exact e
 ·have c:=(HO.ins.inj z).1;rcases h with rfl|⟨kd,rfl⟩
  ·exact hC.1 c.symm
  ·exact hC.2 kd c.symm
theorem WaysAt.ins(h:WaysAt a H d ds)(hp:H p=some (.ins C dx fs))(hC:C≠a.Fraction/\∀kd:Kd,C≠kd.C a):WaysAt a (upd H p (.ins C dx gs)) d ds:=by
 obtain⟨b,c,i,e⟩:=h;exact⟨b,by rw[aG (bD c hp (by intro z;cases z))];exact c,i,e.mono λv x z=>z.keep (.ins hp hC)⟩
theorem netC(T:TX K mg a):a.Net≠a.Fraction/\∀kd:Kd,a.Net≠kd.C a:=by
 have i:a.Net≠a.Fraction:=λe=>by
  have h:=T.na_Fraction_top;have c:=T.m_Fraction_times;rw[<-e]at c;obtain⟨f,b,_,⟨m,_,_⟩,_⟩:=c
  cases T.no_Net_times.symm.trans m
 refine⟨i,λkd e=>?_⟩
 have:=T.no_Net_out
 cases kd
 ·obtain⟨f,b,_,⟨m,_,_⟩,_⟩:=T.m_Way_out;rw[show a.Way=a.Net from e.symm]at m
  cases this.symm.trans m
 ·obtain⟨f,b,_,⟨m,_,_⟩,_⟩:=T.m_Growing_out;rw[show a.Growing=a.Net from e.symm]at m
  cases this.symm.trans m
 ·obtain⟨f,b,_,⟨m,_,_⟩,_⟩:=T.m_Leaking_out;rw[show a.Leaking=a.Net from e.symm]at m
  cases this.symm.trans m
 ·obtain⟨f,b,_,⟨m,_,_⟩,_⟩:=T.m_Store_out;rw[show a.Store=a.Net from e.symm]at m
  cases this.symm.trans m
theorem WaysAt.get(h:WaysAt a H dy ds)(nd:(ds.map (·.nm)).Nodup)(hd:d∈ds):∃kvs v,H dy=some (.dK kvs)/\dF kvs (Sum.inr d.nm)=some v/\WayIs a H v d:=by
 obtain⟨kvs,x,s,w⟩:=h;obtain⟨i,o⟩:=lL.mp hd;obtain⟨t,l,F⟩:=w.get' o;have B:=(kL.mp o).1;rw[kP]at l
 cases e:kvs[i]? with
 |none=>rw[e]at l;cases l
 |some b=>
  rw[e]at l;have E:b.2=t:=lJ l
  have r:b.1=Sum.inr d.nm:=by
   have g1:(kvs.map (·.1))[i]?=some b.1:=by rw[kP,e];rfl
   rw[s,kP,o]at g1;exact(lJ g1).symm
  refine⟨kvs,t,x,?_,F⟩;obtain⟨v,c⟩:=val_some (kvs:=kvs) (k:=(Sum.inr d.nm:Key)) (kQ.mpr ⟨b,kN e,r⟩);rw[c];unfold dF at c
  cases f:kvs.find? (λb=>decide (b.1=(Sum.inr d.nm:Key))) with
  |none=>rw[f]at c;cases c
  |some kv'=>
   rw[f]at c;have y:=List.find?_some f;have m:=List.mem_of_find?_eq_some f;obtain⟨j,p⟩:=lL.mp m;have D:kv'.1=Sum.inr d.nm:=of_decide_eq_true y
   have q:(kvs.map (·.1)).Nodup:=by
    rw[s,show(λz:WD=>(Sum.inr z.nm:Key))=(λn=>(Sum.inr n:Key))∘(λz:WD=>z.nm) from rfl,<-lY];exact nd.map _ (λu v h e=>h (nO e))
   have g1:(kvs.map (·.1))[j]?=some (Sum.inr d.nm):=by rw[kP,p,ml,D]
   have A:(kvs.map (·.1))[i]?=some (Sum.inr d.nm):=by rw[kP,e,ml,r]
   have G:=(mo (by rw[kK];exact(kL.mp p).1) q).mp (g1.trans A.symm);subst G;rw[p]at e
   cases e;rw[<-E];exact c.symm
inductive IspNetWay(a:Ad)(vs:List V)(H:Hp)(Q:VK):Prop
 |mk(p:Addr)(ps:List (Str×Rat))(ds:List WD)(d:WD)(h1:vs=[.ref p,.str d.nm])(h2:NetAt a H p ps ds)(h3:(ds.map (·.nm)).Nodup)(h4:d∈ds)(h5:∀v,WayIs a H v d->Q v H):IspNetWay a vs H Q
noncomputable def gB(a:Ad):Sp:=λvs H Q _=>IspNetWay a vs H Q
theorem fH(T:TX K mg a):MtB P w K mg base CX0 a.Net "way" 1 ["self","name"] (gB a):=by
 refine T.m_Net_way.okA sc_Net_way λf z A b s H F Q E j h=>?_;obtain⟨p,ps,B,d,rfl,⟨l,D,e,c,G,y⟩,q,t,k⟩:=h
 refine⟨_,(aD (bG (jb (jt (bS j) (pv 1) (aY (pv 0) rfl))) (aF cT) aV)
  (aF (aO (cQ (bS j) (aY (pv 0) rfl) (pv 1) (λ_ _=>rfl))))),?_⟩
 walk_at"q"
 obtain⟨r,v,i,m,o⟩:=y.get q t;refine⟨_,rfl,_,rfl,p,_,l,_,_,rfl,c,T.cl_Net,T.na_Net_ways,fsN_y _ _,e,_,rfl,DGet.k (k:=Sum.inr d.nm) i,_,rfl,?_⟩;rw[m];refine iteF ?_;refine⟨_,rfl,p,_,l,_,_,rfl,c,T.cl_Net,T.na_Net_ways,fsN_y _ _,_,rfl,e,v,rfl,?_,k v o⟩;rw[<-m];exact DGet.k (k:=Sum.inr d.nm) i
end
end G
namespace G
open PySem L2
section
noncomputable def Chain(ds:List WD):Prop:=∀(i:Nat)(x y:WD),ds[i]?=some x->ds[i+1]?=some y->x.go=y.st
theorem WayIs.lst(h:WayIs a H v x)(hl:H l=some (.lst us)):WayIs a (upd H l (.lst zs)) v x:=h.keep (.put hl (by intro _ _ _ z;cases z))
structure OnNet(K:W.Frag)(a:Ad)(H:Hp)(p l:Addr)(ps:List (Str×Rat))(ns ds:List WD):Prop where
 net:NetAt a H p ps ns
 nd:(ns.map (·.nm)).Nodup
 sq:SqL K H l (ds.map λd=>.str d.nm)
 sub:∀d∈ds,d∈ns
 ch:Chain ds
 len:ds.length<=900
theorem OnNet.mono(h:OnNet K a H p l ps ns ds)(s:Same H H'):OnNet K a H' p l ps ns ds:=⟨h.net.mono s,h.nd,s.seq h.sq,h.sub,h.ch,h.len⟩
theorem last_of{α:Type}{xs:List α}(h:xs≠[]):∃ys y,xs=ys++[y]:=⟨xs.dropLast,xs.getLast h,(List.dropLast_concat_getLast h).symm⟩
theorem Bd.smr(b:Bd n x)(hn:n<16000000):SmR x:=⟨lQ b.1 (Nat.pow_lt_pow_right (by decide) hn),by show Sm _;unfold Sm;rw[nv];exact lQ b.2 (Nat.pow_lt_pow_right (by decide) hn)⟩
inductive IspWaysOf(K:W.Frag)(a:Ad)(vs:List V)(H:Hp)(Q:VK):Prop
 |mk(p l:Addr)(ps:List (Str×Rat))(ns ds:List WD)(h1:vs=[.ref p,.ref l])(h2:OnNet K a H p l ps ns ds)(h3:∀r H' ts,H r=none->Same H H'->H' r=some (.lst ts)->RowAt (WayIs a) H' ts ds->Q (.ref r) H'):IspWaysOf K a vs H Q
noncomputable def spWaysOf(K:W.Frag)(a:Ad):Sp:=λvs H Q _=>IspWaysOf K a vs H Q
theorem jU(T:TX K mg a):FnB P w K mg base CX0 "ways_of" 2 ["net","walk"] (spWaysOf K a):=by
 refine T.d_ways_of.okA sc_ways_of λf ao A ai s H vs Q E hr h=>?_;obtain⟨p,l,ps,ns,B,rfl,O,k⟩:=h
 refine⟨_,(aD (aI (i:=2) sc_ways_of.nd (bK aB))
  (aD (bR lj rfl (bW (pv 1)) (aQ (i:=3) sc_ways_of.nd) (aD (aI (i:=4) sc_ways_of.nd (eY (CX:=CX0) (pv 0) hr aJ (aA (pv 3) aB)))
  (aD (bG (PW.pt (gJ (aP (fX hr.units0) (pv 2) (bK aB)) (fL (aP op_ne (aY (aL aX (pv 2) (jL hU aC)) rfl) (aY (pv 4) rfl))))) (aF cT) aV)
  (aF (bZ (pe_bm mY mQ mR fc (pv 2) (aA (pv 4) aB)))))))
  (aF (aO (pv 2))))),?_⟩
 walk_at"q"
 refine⟨by decide,λr nr=>?_⟩;have s0:Same H (upd H r (.lst [])):=aS nr;refine⟨_,rfl,l,rfl,⟨_,s0.seq O.sq⟩,cF (K:=K) (a:=l) (xs:=B.map λd=>.str d.nm) (λi σ m=>i<=B.length/\yE3 λM Y c=>σ=[some (.ref p),some (.ref l),some (.ref r),M,Y]×' Same H m×' m r=some (.lst c)×' RowAt (WayIs a) m c (B.take i)) ⟨kY _,_,_,[],rfl,s0,aE,RowAt.nil⟩ ((by rintro i σ m _⟨_,_,_,_,_,I,_⟩;exact I.seq O.sq)) ?_ ?_⟩
 ·rintro i t σ m N⟨hi,M,Y,c,rfl,I,j,U⟩;rw[kP]at N
  cases ex:B[i]? with
  |none=>rw[ex]at N;cases N
  |some x=>
   rw[ex]at N
   cases N;have aj:i<B.length:=(kL.mp ex).1;obtain⟨dx,dw,dy,hp,hw,hy⟩:=O.net.mono I;have L:c.length=i:=by rw[U.1,k8];lia
   refine⟨_,rfl,p,a.Net,dx,_,1,["self","name"],gB a,rfl,hp,jk _ _ (by decide+kernel) (by decide+kernel),T.cl_Net,by decide,fH T,_,rfl,p,ps,ns,x,rfl,⟨dx,dw,dy,hp,hw,hy⟩,O.nd,O.sub _ (kN ex),λv hx=>?_⟩;refine⟨_,rfl,by decide,λe ne=>?_⟩;have J:=aS (o:=.lst []) ne;refine⟨r,e,c,rfl,rfl,SqL.of (J _ _ j),SqL.of aE,_,rfl,?_⟩;have b:=J _ _ j;have D:=hx.mono J;have G:=U.mono λv y z=>z.mono J;have X:=I.trans J;generalize upd m e (.lst [])=H3 at J b D G X⊢;obtain⟨Z,vh,vc,q,rfl,W,hk⟩:=id D;obtain⟨ac,ag,ad,ah,_⟩:=W.ob;have c':=cR T x.kd
   have nx:i+1<=B.length/\yE3 λM Y R=>([some (.ref p),some (.ref l),some (.ref r),some (.str x.nm),some (.ref Z)]:St)=[some (.ref p),some (.ref l),some (.ref r),M,Y]×' Same H (upd H3 r (.lst (c++[.ref Z])))×' upd H3 r (.lst (c++[.ref Z])) r=some (.lst R)×' RowAt (WayIs a) (upd H3 r (.lst (c++[.ref Z]))) R (B.take (i+1)):=by
    refine⟨aj,_,_,_,rfl,aZ nr X,aE,?_⟩;rw[kX,ex,lB];exact RowAt.snoc (G.mono λv y z=>z.lst b) (D.lst b)
   by_cases hz:c=[]
   ·subst hz;refine iteF ?_;exact⟨_,rfl,.inl ⟨rfl,_,SqL.of b⟩,_,rfl,r,_,_,rfl,rfl,b,by decide,nx⟩
   ·have af:(!c.isEmpty)=true:=by cases c with|nil=>exact absurd rfl hz|cons _ _=>rfl
    rw[af];refine iteT ?_
    have am:0<i:=by
     cases i with
     |zero=>exact absurd (List.length_eq_zero_iff.mp L) hz
     |succ i=>exact Nat.succ_pos i
    have S:c[i-1]?=some c[i-1]:=kR (by omega);generalize c[i-1]=u at S;obtain⟨y,ey,p2,al,an,q2,rfl,W2,ap⟩:=G.get S;rw[mO,if_pos (by omega)]at ey;obtain⟨ae,ab,ak,aa,_⟩:=W2.ob;have c2:=cR T y.kd;have eg:y.go=x.st:=O.ch (i-1) y x ey (by rw[show i-1+1=i by omega];exact ex)
    have lst:atI c (-1)=some (.ref p2):=by
     obtain⟨R,u,rfl⟩:=last_of hz
     have:R.length=i-1:=by simp at L;omega
     rw[<-this,mh (kM _)]at S;simp at S;rw[S];exact atI_last R _
    refine⟨_,rfl,_,rfl,r,_,_,_,rfl,rfl,SqL.of b,lst,p2,_,ae,ab,_,rfl,ak,c2.cl,c2.n3,aa.go,_,rfl,Z,_,ac,ag,_,rfl,ad,c'.cl,c'.n2,ah.st,rfl,_,rfl,?_⟩;rw[eg];refine iteNS rfl ?_;exact⟨_,rfl,.inl ⟨rfl,_,SqL.of b⟩,_,rfl,r,_,_,rfl,rfl,b,aU (by have:=O.len;lia),nx⟩
 ·rintro σ m⟨_,M,Y,c,rfl,I,j,U⟩;rw[kK,kZ]at U;exact⟨_,rfl,k r m c nr I j U⟩
noncomputable def bO:List WD->List Str
 |[]=>[]
 |d::r=>d.st::(d::r).map (·.go)
inductive IspPlacesOf(K:W.Frag)(a:Ad)(vs:List V)(H:Hp)(Q:VK):Prop
 |mk(p l:Addr)(ps:List (Str×Rat))(ns ds:List WD)(h1:vs=[.ref p,.ref l])(h2:OnNet K a H p l ps ns ds)(h3:∀r H',H r=none->Same H H'->H' r=some (.lst ((bO ds).map V.str))->Q (.ref r) H'):IspPlacesOf K a vs H Q
noncomputable def spPlacesOf(K:W.Frag)(a:Ad):Sp:=λvs H Q _=>IspPlacesOf K a vs H Q
theorem gk(T:TX K mg a):FnB P w K mg base CX0 "places_of" 3 ["net","walk"] (spPlacesOf K a):=by
 refine T.d_places_of.okA sc_places_of λf af A ad s H vs Q E hr h=>?_;obtain⟨p,l,ps,ns,ds,rfl,O,k⟩:=h
 refine⟨_,(aD (aI (i:=2) sc_places_of.nd (aR (jU T) hr aJ (aA (pv 0) (aA (pv 1) aB))))
  (aD (bG (aP (jT hr.units0) (pv 2) (bK aB)) (aF (aO (bK aB))) aV)
  (aF (aO (aK op_cat (bK (aA (aY (aL aX (pv 2) aC) rfl) aB)) (fR (xs:=["way"]) (rest:=[]) rfl (bW (pv 2))
  (λF fp C' s' H'=>(aQ (i:=0) (show(["way"]:List Str).Nodup by decide+kernel))) (λF fp C' s' H'=>dQ)
  (λF fp C' s' H'=>(kA (K:=K) rfl (pv 0) rfl))
  (Clos.none (by decide+kernel) (by decide+kernel)) (Reads.many (ys:=[]) (js:=[]) True.intro))))))),?_⟩
 walk_at"q"
 refine⟨_,rfl,_,rfl,p,l,ps,ns,ds,rfl,O,λr H1 ts nr s1 ab M=>?_⟩;refine⟨_,rfl,by decide,λe ne=>?_⟩;have S:=aS (o:=.lst []) ne;have m:=S _ _ ab;refine⟨r,e,ts,rfl,rfl,SqL.of m,SqL.of aE,_,rfl,?_⟩;have G:=M.mono λv y z=>z.mono S;have B:=s1.trans S;generalize upd H1 e (.lst [])=H2 at S m G B⊢
 cases ds with
 |nil=>
  have:ts=[]:=List.length_eq_zero_iff.mp M.1
  subst this;refine iteT ⟨by decide,λz nz=>?_⟩;exact k z _ (B.free nz) (B.trans (aS nz)) aE
 |cons d0 dr=>
  cases ts with
  |nil=>cases M.1
  |cons t0 tr=>
   refine iteF ?_;obtain⟨y,U,p0,vh,vc,q,rfl,W,hk⟩:=G.get (i:=0) (t:=t0) rfl
   cases U;obtain⟨dx,fs,ho,h5,_⟩:=W.ob;have c:=cR T d0.kd;refine⟨_,rfl,r,_,_,_,rfl,rfl,SqL.of m,atI_nat (j:=0) rfl,p0,_,dx,fs,_,rfl,ho,c.cl,c.n2,h5.st,zL1,λz1 n1=>?_⟩;have N:=aS (o:=.lst [.str d0.st]) n1;generalize Z:upd H2 z1 (.lst [.str d0.st])=H3 at N⊢;have aa:H3 z1=some (.lst [.str d0.st]):=by rw[<-Z];exact aE
   refine⟨_,rfl,r,rfl,⟨_,SqL.of (N _ _ m)⟩,λz2 n2=>?_⟩;have len:=O.len;refine e7 (K:=K) (a:=r) (xs:=.ref p0::tr) (λi J=>i<=(d0::dr).length×'(∀b o,H3 b=some o->J b=some o)×' J z2=some (.lst (((d0::dr).take i).map λd=>V.str d.go))) ?_ ?_ ?_ ?_
   ·exact⟨kY _,aS n2,aE⟩
   ·rintro i J⟨_,I,_⟩;exact SqL.of (I _ _ (N _ _ m))
   ·rintro i x J hx⟨hi,I,D⟩;refine g1 ⟨⟨[_],rfl,rfl⟩,?_⟩;obtain⟨y,U,p1,ah,ag,q1,rfl,W1,_⟩:=G.get hx;have R:=(kL.mp U).1;obtain⟨ae,Y,ac,X,_⟩:=W1.ob;have c1:=cR T y.kd;refine yes ⟨_,rfl,p1,_,ae,Y,_,rfl,I _ _ (N _ _ ac),c1.cl,c1.n3,X.go,_,D,aU (by rw[kK,k8];lia),eU (by rw[M.1];exact R) ⟨R,λb o e=>?_,?_⟩⟩
    ·rw[aG (aN e n2)];exact I _ _ e
    ·rw[aE,kX,U,lB,kO];rfl
   ·rintro J⟨_,I,D⟩;rw[M.1,kZ]at D;refine⟨z1,z2,_,_,rfl,rfl,I _ _ aa,D,kW (by simp;simp at len;lia) (Nat.le_of_lt (aU (kM 1000))),λz3 n3=>?_⟩;have L:=B.trans (N.trans I);refine k z3 _ (L.free n3) (L.trans (aS n3)) ?_;rw[aE];show _=some (HO.lst (V.str d0.st::((d0::dr).map (·.go)).map V.str));rw[lY];rfl
noncomputable def aM(ds:List WD):Rat:=ds.foldl (λy d=>y*aW d.kd d.x) 1
theorem gprod_snoc(ds:List WD)(d:WD):aM (ds++[d])=aM ds*aW d.kd d.x:=by
 unfold aM;rw[mT];rfl
theorem kH(ds:List WD)(h:∀d∈ds,Bd n (aW d.kd d.x)):∀i,i<=ds.length->Bd (i*n) (aM (ds.take i))
 |0,_=>by
  rw[Nat.zero_mul,List.take_zero];exact Bd.one
 |i+1,hi=>by
  have a:i<ds.length:=by omega
  rw[kX,kR a,lB,gprod_snoc,Nat.succ_mul];exact(kH ds h i (by omega)).mul (h _ (List.getElem_mem a))
inductive IspGainOf(K:W.Frag)(a:Ad)(vs:List V)(H:Hp)(Q:VK):Prop
 |mk(p l:Addr)(ps:List (Str×Rat))(ns ds:List WD)(n:Nat)(h1:vs=[.ref p,.ref l])(h2:OnNet K a H p l ps ns ds)(h3:(∀d∈ds,SmR d.x/\Bd n (aW d.kd d.x)))(h4:n<16000000)(h5:ds.length*n<16000000)(h6:∀r H',Same H H'->FrAt a.Fraction H' r (aM ds)->Q (.ref r) H'):IspGainOf K a vs H Q
noncomputable def spGainOf(K:W.Frag)(a:Ad):Sp:=λvs H Q _=>IspGainOf K a vs H Q
theorem fG(T:TX K mg a):FnB P w K mg base CX0 "gain_of" 9 ["net","walk"] (spGainOf K a):=by
 refine T.d_gain_of.okA sc_gain_of λf aa A B s H vs Q E D h=>?_;obtain⟨p,l,ps,ns,m,n,rfl,O,N,hn,G,k⟩:=h
 refine⟨_,(aD (aI (i:=2) sc_gain_of.nd (cL (mk1 T) D T.mg_Fraction aJ (aA aC aB)))
  (aD (bR lj rfl (bW (aR (jU T) D aJ (aA (pv 0) (aA (pv 1) aB)))) (aQ (i:=3) sc_gain_of.nd) (aF (aI (i:=2) sc_gain_of.nd (eY (CX:=CX0) (pv 3) D aJ (aA (pv 2) aB)))))
  (aF (aO (pv 2))))),?_⟩
 walk_at"q"
 refine⟨1,1,rfl,by decide,sm1,λg0 H1 n0 S J=>?_⟩;rw[show Rat.divInt 1 1=1 from rfl]at J;refine⟨_,rfl,_,rfl,p,l,ps,ns,m,rfl,O.mono S,λr H2 ts nr I e L=>?_⟩;refine⟨r,rfl,⟨_,SqL.of e⟩,cF (K:=K) (a:=r) (xs:=ts) (λi σ b=>i<=m.length/\yE2 λz g=>σ=[some (.ref p),some (.ref l),some (.ref g),z]×' Same H2 b×' FrAt a.Fraction b g (aM (m.take i))) ⟨kY _,_,_,rfl,Same.refl _,J.mono I⟩ ((by rintro i σ b _⟨_,_,_,_,c,_⟩;exact SqL.of (c _ _ e))) ?_ ?_⟩
 ·rintro i t σ b ht⟨M,z,g,rfl,c,j⟩;obtain⟨x,ex,R,vh,vc,q,rfl,W,hk⟩:=(L.mono λv y z=>z.mono c).get ht;have F:=(kL.mp ex).1;obtain⟨X,fs,ho,h5,_⟩:=id W.ob;obtain⟨U,Y⟩:=N x (kN ex);have bi:=kH m (λd Z=>(N d Z).2) i M;have o:i*n<16000000:=lQ (nD _ M) G;refine⟨_,rfl,R,_,X,fs,8,["self","amount"],spOut a x.kd,rfl,ho,h5.ou,(cR T x.kd).cl,by decide,out_any T x.kd,_,rfl,R,g,x.nm,x.st,x.go,vh,vc,q,x.x,_,rfl,W,j,U,bi.smr o,Y.smr hn,λr' H4 s4 f4=>?_⟩;refine⟨F,_,_,rfl,c.trans s4,?_⟩;rw[kX,ex,lB,gprod_snoc];exact f4
 ·rintro σ b⟨_,z,g,rfl,c,j⟩;rw[L.1,kZ]at j;exact⟨_,rfl,k g b (S.trans (I.trans c)) j⟩
end
end G
namespace G
open PySem L2
section
theorem Sm.of_le{a:Int}(h:a.natAbs<=2^n)(hn:n<16000000):Sm a:=lQ h (Nat.pow_lt_pow_right (by decide) hn)
theorem tot_bd{T B o c u:Int}(hT:T.natAbs<=2^s)(hB:B.natAbs<=2^s)(ho:o.natAbs<=2^m)(hc:c.natAbs<=2^m)(hu:u.natAbs<=B.natAbs):
  (T*o+c*u).natAbs<=2^(s+(m+1))/\(B*o).natAbs<=2^(s+(m+1)):=by
 have h:2^(s+(m+1))=2^(s+m)*2:=by rw[<-Nat.add_assoc,Nat.pow_succ]
 constructor
 ·have a:(T*o).natAbs<=2^(s+m):=by rw[lT];exact eD hT ho
  have b:(c*u).natAbs<=2^(m+s):=by rw[lT];exact eD hc (kW hu hB)
  rw[Nat.add_comm m s]at b;have e:=Int.natAbs_add_le (T*o) (c*u)
  lia
 ·have a:(B*o).natAbs<=2^(s+m):=by rw[lT];exact eD hB ho
  lia
theorem TInv.le(I:TInv x T B s):s.natAbs<=B.natAbs:=by
 obtain⟨pB,ps,⟨r,a,_⟩,_⟩:=I
 have:=Int.le_of_dvd pB ⟨r,a⟩
 omega
noncomputable def FrIs(a:Ad)(H:Hp)(v:V)(x:Rat):Prop:=∃q,v=.ref q/\FrAt a.Fraction H q x
theorem FrIs.mono(h:FrIs a H v x)(s:Same H H'):FrIs a H' v x:=by
 obtain⟨q,e,f⟩:=h;exact⟨q,e,f.mono s⟩
theorem FrIs.keep(h:FrIs a H v x)(s:KeepD H H'):FrIs a H' v x:=let⟨q,e,d,f⟩:=h;⟨q,e,d,s _ _ f (by intro _ z;cases z) (by intro _ _ z;cases z)⟩
structure TZ(xs:List Rat)(Z:Nat->Int->Int->Prop):Prop where
 z0:Z 0 0 1
 st:∀i y t b,xs[i]?=some y->Z i t b->0<b->Z (i+1) (t*(y.den:Int).fdiv (gcd b y.den)+y.num*b.fdiv (gcd b y.den)) (b*(y.den:Int).fdiv (gcd b y.den))
 sm:∀i t b,i<=xs.length->Z i t b->Sm t/\Sm b
 sy:∀y∈xs,SmR y
noncomputable def TOk(xs:List Rat):Prop:=∃Z,TZ xs Z
theorem BdS.tok(h:BdS xs N)(hN:N<16000000):TOk xs:=by
 obtain⟨S,s,m,l⟩:=h.fn;refine⟨λi t b=>t.natAbs<=2^S i/\b.natAbs<=2^S i,⟨kY _,by rw[s];decide⟩,λi y t b e⟨j,c⟩r=>?_,λi t b q⟨j,c⟩=>?_,λy w=>?_⟩
 ·obtain⟨n,a,bs⟩:=l i y e;have o:=eI b (jm y);have x:=den_pos y;have p:((y.den:Int).fdiv (gcd b y.den)).natAbs<=(y.den:Int).natAbs:=fN _ o (by lia);have tb:=tot_bd j c (kW p (by rw[nv];exact a.2)) a.1 (fN _ o (Int.le_of_lt r));exact⟨kW tb.1 (pow_le bs),kW tb.2 (pow_le bs)⟩
 ·have:=m i q
  exact⟨Sm.of_le j (by lia),Sm.of_le c (by lia)⟩
 ·obtain⟨i,e⟩:=lL.mp w;obtain⟨n,a,bs⟩:=l i y e
  have:=m (i+1) (kL.mp e).1
  exact⟨Sm.of_le a.1 (by lia),Sm.of_le (by rw[nv];exact a.2) (by lia)⟩
inductive IspTotal(K:W.Frag)(a:Ad)(vs:List V)(H:Hp)(Q:VK):Prop
 |mk(l:Addr)(ts:List V)(xs:List Rat)(h1:vs=[.ref l])(h2:SqL K H l ts)(h3:RowAt (FrIs a) H ts xs)(h4:TOk xs)(h5:∀(r:Addr)(H':Hp),H r=none->Same H H'->FrAt a.Fraction H' r xs.sum->Q (.ref r) H'):IspTotal K a vs H Q
noncomputable def spTotal(K:W.Frag)(a:Ad):Sp:=λvs H Q _=>IspTotal K a vs H Q
theorem ok_total(T:TX K mg a):FnB P w K mg base CX0 "total" 5 ["some"] (spTotal K a):=by
 refine T.d_total.okA sc_total λf aa A J s H vs Q E c h=>?_;obtain⟨l,ts,xs,rfl,X,fs,⟨Z,z⟩,k⟩:=h
 refine⟨_,(aD (aI (i:=1) sc_total.nd aC)
  (aD (aI (i:=2) sc_total.nd aC)
  (aD (aI (i:=3) sc_total.nd aC)
  (aD (bR lj rfl (bW (pv 0)) (aQ (i:=4) sc_total.nd) (aD (aI (i:=5) sc_total.nd (aR (ew T) c aJ (aA (pv 2) (aA (dR T.fr (pv 4)) aB))))
  (aD (aI (i:=6) sc_total.nd (aK (cN c tn) (dR T.fr (pv 4)) (pv 5)))
  (aD (aI (i:=1) sc_total.nd (aK bJ (aK cI (pv 1) (pv 6)) (aK cI (dY T.fr (pv 4)) (aK (cN c tn) (pv 2) (pv 5)))))
  (aD (aI (i:=2) sc_total.nd (aK cI (pv 2) (pv 6)))
  (aF (aI (i:=3) sc_total.nd (aK cI (pv 3) (aK (cN c tn) (pv 5) (aR (ew T) c aJ (aA (pv 3) (aA (pv 5) aB))))))))))))
  (aD (aI (i:=7) sc_total.nd (aR (ew T) c aJ (aA (pv 1) (aA (pv 3) aB))))
  (aF (aO (aR (cK T) c aJ (aA (aK (cN c tn) (pv 1) (pv 7)) (aA (aK (cN c tn) (pv 2) (pv 7)) aB)))))))))),?_⟩
 walk_at"q"
 refine⟨_,rfl,l,rfl,⟨_,X⟩,cF (K:=K) (a:=l) (xs:=ts) (λi σ B=>i<=xs.length/\yE7 λ(t b s:Int)(L F G D:Option V)=>σ=[some (.ref l),some (.int t),some (.int b),some (.int s),L,F,G,D]×' B=H×' TInv (xs.take i).sum t b s×' Z i t b)
  ⟨kY _,0,1,1,_,_,_,_,rfl,rfl,TInv.zero,z.z0⟩ ((by rintro i σ B _⟨_,_,_,_,_,_,_,_,_,e,_⟩;exact by rw[e];exact X)) ?_ ?_⟩
 ·rintro i u σ B R⟨_,t,b,s,L,F,G,D,rfl,rfl,I,m⟩;have U:i<xs.length:=by rw[<-fs.1];exact(kL.mp R).1
  have ex:xs[i]?=some xs[i]:=kR U;generalize xs[i]=y at ex;obtain⟨p,rfl,M⟩:=fs.2 i u _ R ex;obtain⟨sn,N⟩:=z.sy y (kN ex);have Y:=eI b (jm y);have o:=Sm.gcd_r b (jm y) N;obtain⟨st,j⟩:=z.sm i t b (by lia) m;have yp:=den_pos y;have O:((y.den:Int).fdiv (gcd b y.den)).natAbs<=(y.den:Int).natAbs:=fN _ Y (by lia);have lu:(b.fdiv (gcd b y.den)).natAbs<=b.natAbs:=fN _ Y (Int.le_of_lt I.pB);have ss:Sm s:=j.le I.le;have gp:=eI s (b:=gcd b y.den) (by lia);have q:=Sm.gcd_r s (b:=gcd b y.den) (by lia) o;have lc:((gcd b y.den).fdiv (gcd s (gcd b y.den))).natAbs<=(gcd b y.den).natAbs:=fN _ gp (by lia);refine⟨_,rfl,_,rfl,p,y,rfl,M,_,_,rfl,?_⟩;refine⟨_,rfl,p,y,rfl,M,_,rfl,_,_,rfl,rfl,⟨by lia,o⟩,?_⟩;refine⟨_,rfl,_,rfl,_,_,rfl,rfl,⟨st,N.le O⟩,_,rfl,p,y,rfl,M,_,rfl,_,rfl,_,_,rfl,rfl,⟨by lia,o⟩,_,_,rfl,rfl,⟨sn,j.le lu⟩,_,_,rfl,rfl,?_⟩;refine⟨_,rfl,_,rfl,_,_,rfl,rfl,⟨j,N.le O⟩,?_⟩;refine⟨_,rfl,_,rfl,_,rfl,_,rfl,_,_,rfl,_,_,rfl,rfl,⟨by lia,q⟩,_,_,rfl,rfl,⟨ss,o.le lc⟩,?_⟩;refine⟨U,_,_,_,_,_,_,_,rfl,rfl,?_,z.st i y t b ex m I.pB⟩;rw[kX,ex,lB,sum_snoc];exact I.step
 ·rintro σ B⟨_,t,b,s,L,F,G,D,rfl,rfl,I,m⟩;rw[fs.1]at I m;rw[kZ]at I;have j:=(z.sm _ _ _ (kM _) m).2;have S:s≠0:=by have:=I.ps;lia
  have gp:=eI t S;have q:=Sm.gcd_r t S (j.le I.le);obtain⟨e1,e2⟩:=I.fin;refine⟨_,rfl,_,rfl,_,_,rfl,?_⟩;refine⟨_,rfl,_,rfl,_,_,rfl,rfl,⟨by lia,q⟩,_,rfl,_,rfl,_,_,rfl,rfl,⟨by lia,q⟩,_,_,rfl,λr dx H' nr s1 h1=>k r H' nr s1 ⟨dx,?_⟩⟩;rw[h1,e1,e2]
end
end G
namespace G
open PySem L2
section
noncomputable def LstIs(a:Ad)(H:Hp)(v:V)(xs:List Rat):Prop:=∃l ts,v=.ref l/\H l=some (.lst ts)/\RowAt (FrIs a) H ts xs
theorem LstIs.mono(h:LstIs a H v xs)(s:Same H H'):LstIs a H' v xs:=by
 obtain⟨l,ts,e,f,r⟩:=h;exact⟨l,ts,e,s _ _ f,r.mono λv x z=>z.mono s⟩
theorem LstIs.keep(h:LstIs a H v xs)(s:KeepD H H'):LstIs a H' v xs:=let⟨l,ts,e,f,r⟩:=h;⟨l,ts,e,s _ _ f (by intro _ z;cases z) (by intro _ _ z;cases z),r.mono λv x z=>z.keep s⟩
noncomputable def going(x:Rat)(ds:List WD):Rat:=ds.foldl (λy d=>y*aW d.kd d.x) x
theorem jX(x:Rat)(ds:List WD)(d:WD):going x (ds++[d])=going x ds*aW d.kd d.x:=by unfold going;rw[mT];rfl
noncomputable def dL:Rat->List WD->List (Str×Rat)
 |_,[]=>[]
 |x,d::r=>(d.nm,x)::dL (x*aW d.kd d.x) r
theorem jQ(ds:List WD)(d:WD):∀x,dL x (ds++[d])=dL x ds++[(d.nm,going x ds)]:=by
 induction ds with
 |nil=>intro x;rfl
 |cons e r ih=>intro x;show _::dL _ (r++[d])=_;rw[ih];rfl
theorem steps_names(ds:List WD):∀x,(dL x ds).map (·.1)=ds.map (·.nm):=by
 induction ds with
 |nil=>intro x;rfl
 |cons e r ih=>intro x;show e.nm::(dL _ r).map _=_;rw[ih];rfl
theorem sgn_zero:sgn x=0↔x=0:=by
 unfold sgn;constructor
 ·intro h
  have:x.num=0:=by
   split at h
   ·cases h
   ·split at h
    ·cases h
    ·lia
  exact Rat.num_eq_zero.mp this
 ·rintro rfl;rfl
noncomputable def f0(f:Str->Rat)(ks:List Str):List Str:=ks.filter (λn=>decide (f n≠0))
theorem some0_snoc(f:Str->Rat)(ks:List Str)(n:Str):f0 f (ks++[n])=if f n=0 then f0 f ks else f0 f ks++[n]:=by
 unfold f0;rw[nL];by_cases h:f n=0
 ·rw[if_pos h];simp[h]
 ·rw[if_neg h];simp[h]
inductive IspNoughts(a:Ad)(vs:List V)(H:Hp)(Q:VK):Prop
 |mk(d:Addr)(kvs:List (Key×V))(ks:List Str)(f:Str->Rat)(h1:vs=[.ref d])(h2:H d=some (.dK kvs))(h3:Tab (FrIs a) H kvs ks f)(h4:ks.Nodup)(h5:ks.length<=900)(h6:∀r H' kvs',H r=none->Same H H'->H' r=some (.dK kvs')->Tab (FrIs a) H' kvs' (f0 f ks) f->Q (.ref r) H'):IspNoughts a vs H Q
noncomputable def spNoughts(a:Ad):Sp:=λvs H Q _=>IspNoughts a vs H Q
theorem dS(T:TX K mg a):FnB P w K mg base CX0 "without_noughts" 5 ["plan"] (spNoughts a):=by
 refine T.d_without_noughts.okA sc_without_noughts λf ae A ac s H vs Q E hr h=>?_;obtain⟨d,kvs,R,f,rfl,X,tb,nd,hl,k⟩:=h
 refine⟨_,(aD (aI (i:=1) sc_without_noughts.nd cU)
  (aD (gi (bR lj rfl (gK (pv 0)) (hV (n:=2) rfl (bY (aQ (i:=2) sc_without_noughts.nd) (bY (aQ (i:=3) sc_without_noughts.nd) fM))) (aF (bG (aP op_ne (eV T.fr (pv 3) (eX T) hr aJ) aC) (aF (cW (bS hr) (pv 1) (pv 2) (pv 3) rfl)) aV))))
  (aF (aO (pv 1))))),?_⟩
 walk_at"q"
 intro r U;have S:Same H (upd H r (.dK [])):=aS U;have B:=S _ _ X;have O:upd H r (.dK []) r=some (.dK []):=aE;have N:=tb.mono λv x z=>z.mono S;generalize upd H r (.dK [])=H0 at S B O N⊢;have I:d≠r:=λz=>by rw[z,U]at X;cases X
 refine⟨d,.dK kvs,B,(by intro o z e;cases e),_,rfl,d,kvs,rfl,B,λo=>?_⟩
 refine gx (a:=d) (o:=o) (kvs:=kvs) (λi σ p=>i<=R.length/\yE3 λz2 Z c=>σ=[some (.ref d),some (.ref r),z2,Z]×' p d=some (.frz o (.dK kvs))×'(∀b J,H b=some J->b≠d->p b=some J)×' KeepD H0 p×' p r=some (.dK c)×' Tab (FrIs a) p c (f0 f (R.take i)) f)
  ⟨kY _,_,_,[],rfl,aE,(λb J e ne=>by rw[aG ne];exact S _ _ e),KeepD.put B,by rw[aG I.symm];exact O,Tab.nil⟩ ((by rintro i σ p _⟨_,_,_,_,_,h,_⟩;exact h)) ?_ ?_
 ·rintro i kv t σ p ab nt⟨_,z2,Z,c,rfl,M,Y,kp,D,j⟩;obtain⟨n,en,e1,ev,q,eq,fq⟩:=N.at_ nd ab;have hi:i<R.length:=(kL.mp en).1;have ad:kV kv.1=.str n:=by rw[e1];rfl
  rw[ad,eq];obtain⟨H3,zq,l,ht⟩:=uG (o:=.tup [.str n,.ref q]) nt;rw[zq]
  have F:FrAt a.Fraction H3 q (f n):=by
   obtain⟨q',e',f'⟩:=FrIs.keep ⟨q,rfl,fq⟩ (kp.trans (.of l))
   cases e';exact f'
  obtain⟨tk,nk⟩:=gr nd en;refine⟨t,[.str n,.ref q],rfl,SqT.of ht,rfl,.str n,[.ref q],rfl,⟨.ref q,[],rfl,⟨rfl,?_⟩⟩⟩;have fr:=F;refine⟨_,rfl,q,_,rfl,F,?_⟩;walk_at"rd"
  by_cases hz:f n=0
  ·refine gV (by rw[sgn_zero.mpr hz];rfl) ?_;refine⟨hi,_,_,c,rfl,l _ _ M,(λb J e ne=>l _ _ (Y _ _ e ne)),kp.trans (.of l),l _ _ D,?_⟩;rw[tk,some0_snoc,if_pos hz];exact j.mono λv x z=>z.mono l
  ·refine kG (by
    rw[lz (λz=>hz (sgn_zero.mp (V.int.inj z)))];rfl) ?_
   have L:=l _ _ D;have aa:¬n∈f0 f (R.take i):=λz=>nk (nH.mp z).1
   have ls:c.length<=900:=by
    rw[j.len];have h1:=mx (λn=>decide (f n≠0)) (R.take i);rw[k8]at h1;unfold f0
    lia
   refine⟨_,rfl,_,rfl,_,rfl,r,_,rfl,DPut.k (k:=Sum.inr n) L (aU (by lia)),?_⟩;have G:KeepD H3 (upd H3 r (.dK (cY c (Sum.inr n) (.ref q)))):=KeepD.put L;refine⟨hi,_,_,_,rfl,by rw[aG I];exact l _ _ M,(λb J e ne=>?_),(kp.trans (.of l)).trans G,aE,?_⟩
   ·rw[aG (aN e U)];exact l _ _ (Y _ _ e ne)
   ·rw[tk,some0_snoc,if_neg hz,<-gS aa];refine(Tab.put (j.mono λv x z=>(z.mono l).keep G) (y:=f n) (FrIs.keep ⟨q,rfl,F⟩ G)).congr λm _=>?_;unfold upf
    split
    ·rename_i e;rw[e]
    ·rfl
 ·rintro σ p⟨_,z2,Z,c,rfl,M,Y,kp,D,j⟩;rw[tb.len,kZ]at j;refine⟨o,M,_,rfl,k r _ c U (λb J e=>?_) (by rw[aG I.symm];exact D) (j.mono λv x z=>z.keep (.frz M))⟩;by_cases hb:b=d
  ·subst hb;rw[aE,<-X,e]
  ·rw[aG hb];exact Y _ _ e hb
inductive IspSent(K:W.Frag)(a:Ad)(vs:List V)(H:Hp)(Q:VK):Prop
 |mk(p l q:Addr)(ps:List (Str×Rat))(ns ds:List WD)(x:Rat)(h1:vs=[.ref p,.ref l,.ref q])(h2:OnNet K a H p l ps ns ds)(h3:FrAt a.Fraction H q x)(h4:(∀d∈ds,SmR d.x/\SmR (aW d.kd d.x)))(h5:(∀i,i<=ds.length->SmR (going x (ds.take i))))(h6:(∀n,∃N,BdS (occ (dL x ds) n) N/\N<16000000))(h7:∀r H' kvs,H r=none->Same H H'->H' r=some (.dK kvs)->Tab (FrIs a) H' kvs (f0 (λn=>(occ (dL x ds) n).sum) (cB (ds.map (·.nm)))) (λn=>(occ (dL x ds) n).sum)->Q (.ref r) H'):IspSent K a vs H Q
noncomputable def spSent(K:W.Frag)(a:Ad):Sp:=λvs H Q _=>IspSent K a vs H Q
theorem ok_sent(T:TX K mg a):FnB P w K mg base CX0 "sent" 9 ["net","walk","amount"] (spSent K a):=by
 refine T.d_sent.okA sc_sent λf be A a0 s H vs Q E hr h=>?_;obtain⟨p,l,q,ps,ns,B,x,rfl,O,fq,hg,hb,hB,k⟩:=h
 refine⟨_,(aD (aI (i:=3) sc_sent.nd cU)
  (aD (aI (i:=4) sc_sent.nd (pv 2))
  (bB (bR lj rfl (bW (aR (jU T) hr aJ (aA (pv 0) (aA (pv 1) aB)))) (aQ (i:=5) sc_sent.nd) (aD (cW (bS hr) (pv 3) (aY (pv 5) rfl) (aK op_cat (pe_dget2 (bS hr) (pv 3) (aY (pv 5) rfl) (bK aB) ⟨rfl,rfl,rfl,rfl⟩) (bK (aA (pv 4) aB))) rfl)
  (aF (aI (i:=4) sc_sent.nd (eY (CX:=CX0) (pv 5) hr aJ (aA (pv 4) aB))))))
  (aD (aI (i:=6) sc_sent.nd cU)
  (bB (gi (bR lj rfl (gK (pv 3)) (hV (n:=2) rfl (bY (aQ (i:=7) sc_sent.nd) (bY (aQ (i:=8) sc_sent.nd) fM))) (aF (cW (bS hr) (pv 6) (pv 7) (aR (ok_total T) hr aJ (aA (pv 8) aB)) rfl))))
  (aF (aO (aR (dS T) hr aJ (aA (pv 6) aB))))))))),?_⟩
 walk_at"q"
 intro D np;have s0:Same H (upd H D (.dK [])):=aS np;have ao:upd H D (.dK []) D=some (.dK []):=aE;generalize upd H D (.dK [])=H0 at s0 ao⊢;refine⟨_,rfl,?_⟩;refine dP (λσ' H'=>yE6 λz5 L z7 U M kvs=>σ'=[some (.ref p),some (.ref l),some (.ref q),some (.ref D),z5,L,z7,U,M]×' Same H H'×' H' D=some (.dK kvs)×' Tab (LstIs a) H' kvs (cB (B.map (·.nm))) (occ (dL x B))) ?_ ?_
 ·refine⟨_,rfl,_,rfl,p,l,ps,ns,B,rfl,O.mono s0,λr H1 ts nr s1 al hv=>?_⟩;have len:=O.len
  refine⟨r,rfl,⟨_,SqL.of al⟩,cF (K:=K) (a:=r) (xs:=ts) (λi σ I=>i<=B.length/\yE6 λL z7 U M g kvs=>σ=[some (.ref p),some (.ref l),some (.ref q),some (.ref D),some (.ref g),L,z7,U,M]×' Same H I×' KeepD H1 I×' FrAt a.Fraction I g (going x (B.take i))×' I D=some (.dK kvs)×' Tab (LstIs a) I kvs (cB ((B.take i).map (·.nm))) (occ (dL x (B.take i))))
   ⟨kY _,_,_,_,_,q,[],rfl,s0.trans s1,.of (Same.refl _),fq.mono (s0.trans s1),s1 _ _ ao,Tab.nil⟩ ((by rintro i σ I _⟨_,_,_,_,_,_,_,_,_,kp,_⟩;exact SqL.of (kp _ _ al (by intro _ z;cases z) (by intro _ _ z;cases z)))) ?_ ?_⟩
  ·rintro i t σ I ht⟨hi,L,z7,U,M,g,kvs,rfl,s2,kp,fg,F,tb⟩;obtain⟨y,ey,wy⟩:=hv.get ht;have ba:=(kL.mp ey).1;have aw:WayIs a I t y:=wy.keep λb C dx fs _ e=>kp _ _ e (by intro _ z;cases z) (by intro _ _ z;cases z);obtain⟨p1,vh,vc,q1,rfl,W,hk⟩:=aw;obtain⟨dx,fs,ho,h5,_⟩:=id W.ob;have c:=cR T y.kd;refine⟨_,rfl,D,rfl,.inl ⟨kvs,.inl F⟩,_,rfl,p1,_,dx,fs,_,rfl,ho,c.cl,c.n1,h5.nm,by decide,λe ne=>?_⟩;obtain⟨J,zq,Z,he⟩:=uG (o:=.lst []) ne;rw[zq];have a2:=Z _ _ F;refine⟨_,DGet.k (k:=Sum.inr y.nm) a2,?_⟩;have ag:=tb.mono λv x z=>z.mono Z
   have ad:LstIs a J ((dF kvs (Sum.inr y.nm)).getD (.ref e)) (occ (dL x (B.take i)) y.nm):=by
    by_cases hn:y.nm∈cB ((B.take i).map (·.nm))
    ·obtain⟨v,ev,r⟩:=ag.vals _ hn;rw[ev];exact r
    ·rw[ag.none hn,occ_none (by rw[steps_names];exactλz=>hn (mem_keysOf.mpr z))];exact⟨e,[],rfl,he,RowAt.nil⟩
   generalize(dF kvs (Sum.inr y.nm)).getD (.ref e)=vl at ad⊢;obtain⟨e1,ab,rfl,a5,an⟩:=ad;refine⟨_,rfl,zL1,λe2 ax=>?_⟩;obtain⟨H4,zq,s4,am⟩:=uG (o:=.lst [.ref g]) ax;rw[zq]
   have bc:(occ (dL x (B.take i)) y.nm).length<=i:=by
    unfold occ;rw[kK];refine kW (mx _ _) ?_
    have:=lW List.length (steps_names (B.take i) x)
    rw[kK,kK,k8]at this
    lia
   refine⟨e1,e2,_,_,rfl,rfl,s4 _ _ a5,am,kW (by rw[an.1];simp;lia) (Nat.le_of_lt (aU (kM 1000))),λe3 a8=>?_⟩;obtain⟨H5,zq,s5,ai⟩:=uG (o:=.lst (ab++[.ref g])) a8;rw[zq];have ae:=s4.trans s5;have X:=Z.trans ae
   have lk:kvs.length<=900:=by
    rw[tb.len]
    have:=fJ ((B.take i).map (·.nm))
    rw[kK,k8]at this
    lia
   refine⟨_,rfl,_,rfl,p1,_,dx,fs,_,rfl,X _ _ ho,c.cl,c.n1,h5.nm,D,_,rfl,DPut.k (k:=Sum.inr y.nm) (X _ _ F) (aU (by lia)),?_⟩;have G:KeepD H5 (upd H5 D (.dK (cY kvs (Sum.inr y.nm) (.ref e3)))):=KeepD.put (X _ _ F);have as:LstIs a H5 (.ref e3) (occ (dL x (B.take i)) y.nm++[going x (B.take i)]):=⟨e3,_,rfl,ai,(an.mono λv x z=>z.mono ae).snoc ⟨g,rfl,fg.mono X⟩⟩;have aj:=Tab.put (n:=y.nm) (ag.mono λv x z=>(z.mono ae).keep G) (as.keep G);have s6:=aZ (o:=.dK (cY kvs (Sum.inr y.nm) (.ref e3))) np (s2.trans X);have ak:upd H5 D (.dK (cY kvs (Sum.inr y.nm) (.ref e3))) D=some (.dK (cY kvs (Sum.inr y.nm) (.ref e3))):=aE;generalize upd H5 D (.dK (cY kvs (Sum.inr y.nm) (.ref e3)))=H6 at G aj s6 ak⊢;have aa:KeepD I H6:=(KeepD.of X).trans G;have W6:=W.keep λb C dx fs _ e=>aa _ _ e (by intro _ z;cases z) (by intro _ _ z;cases z);obtain⟨a7,a9,a1,a4,_⟩:=id W6.ob
   have bb:FrAt a.Fraction H6 g (going x (B.take i)):=by
    obtain⟨q',e',f'⟩:=FrIs.keep ⟨g,rfl,fg⟩ aa
    cases e';exact f'
   obtain⟨b1,b2⟩:=hg y (kN ey);refine⟨_,rfl,p1,_,a7,a9,8,["self","amount"],spOut a y.kd,rfl,a1,a4.ou,c.cl,by decide,out_any T y.kd,_,rfl,p1,g,y.nm,y.st,y.go,vh,vc,q1,y.x,_,rfl,W6,bb,b1,hb i hi,b2,λr' H7 s7 f7=>?_⟩;refine⟨ba,_,_,_,_,r',_,rfl,s6.trans s7,(kp.trans aa).trans (.of s7),?_,s7 _ _ ak,?_⟩
   ·rw[kX,ey,lB,jX];exact f7
   ·rw[kX,ey,lB,kO,md,nG,jj,jQ];refine(aj.mono λv x z=>z.mono s7).congr λm _=>?_;rw[occ_snoc];unfold upf;by_cases e:m=y.nm
    ·rw[if_pos e,if_pos e.symm,e]
    ·rw[if_neg e,if_neg λz=>e z.symm]
  ·rintro σ I⟨_,L,z7,U,M,g,kvs,rfl,s2,kp,fg,F,tb⟩;rw[hv.1,kZ]at tb;exact⟨_,_,_,_,_,kvs,rfl,s2,F,tb⟩
 rintro zU ah σ' H1⟨z5,L,z7,U,M,kvs,rfl,s1,ar,tb⟩;subst ah;intro Y nq;have af:Y≠D:=λz=>by rw[z,ar]at nq;cases nq
 have s2:Same H1 (upd H1 Y (.dK [])):=aS nq;have ap:upd H1 Y (.dK []) Y=some (.dK []):=aE;generalize upd H1 Y (.dK [])=I at s2 ap⊢;have aq:=tb.mono λv x z=>z.mono s2;have F:=s2 _ _ ar;have ac:=gm (B.map (·.nm))
 have au:(cB (B.map (·.nm))).length<=900:=by
  have h1:=fJ (B.map (·.nm));have h2:=O.len;rw[kK]at h1
  lia
 generalize cB (B.map (·.nm))=ks at tb aq ac au k;refine dP (λσ' H'=>yE5 λz5 L U M j=>σ'=[some (.ref p),some (.ref l),some (.ref q),some (.ref D),z5,L,some (.ref Y),U,M]×' Same H H'×' H' Y=some (.dK j)×' Tab (FrIs a) H' j ks (λn=>(occ (dL x B) n).sum)) ?_ ?_
 ·refine⟨D,.dK kvs,F,(by intro o z e;cases e),_,rfl,D,kvs,rfl,F,λo=>?_⟩
  refine gx (a:=D) (o:=o) (kvs:=kvs) (λi σ J=>i<=ks.length/\yE5 λz5 L U M j=>σ=[some (.ref p),some (.ref l),some (.ref q),some (.ref D),z5,L,some (.ref Y),U,M]×' J D=some (.frz o (.dK kvs))×' Same H J×' KeepD I J×' J Y=some (.dK j)×' Tab (FrIs a) J j (ks.take i) (λn=>(occ (dL x B) n).sum))
   ⟨kY _,_,_,_,_,[],rfl,aE,aZ np (s1.trans s2),KeepD.put F,by rw[aG af];exact ap,Tab.nil⟩ ((by rintro i σ I _⟨_,_,_,_,_,_,_,h,_⟩;exact h)) ?_ ?_
  ·rintro i kv t σ J az nt⟨_,z5,L,U,M,j,rfl,hf,Z,kp,R,tq⟩;obtain⟨n,en,e1,ev,vl⟩:=aq.at_ ac az;have hi:i<ks.length:=(kL.mp en).1;have a3:kV kv.1=.str n:=by rw[e1];rfl
   obtain⟨le,ts,el,hl,a6⟩:=vl.keep kp;rw[a3,el];obtain⟨H4,zq,s4,ht⟩:=uG (o:=.tup [.str n,.ref le]) nt;rw[zq];obtain⟨tk,nk⟩:=gr ac en;refine⟨t,[.str n,.ref le],rfl,SqT.of ht,rfl,.str n,[.ref le],rfl,⟨.ref le,[],rfl,⟨rfl,?_⟩⟩⟩;obtain⟨N,bN,hN⟩:=hB n;refine⟨_,rfl,le,ts,_,rfl,SqL.of (s4 _ _ hl),a6.mono λv x z=>z.mono s4,bN.tok hN,λr H5 nr s5 f5=>?_⟩;have S:=s4.trans s5
   have lq:j.length<=900:=by
    rw[tq.len,k8]
    lia
   refine⟨_,rfl,_,rfl,Y,_,rfl,DPut.k (k:=Sum.inr n) (S _ _ R) (aU (by lia)),?_⟩;have G:KeepD H5 (upd H5 Y (.dK (cY j (Sum.inr n) (.ref r)))):=KeepD.put (S _ _ R);refine⟨hi,_,_,_,_,_,rfl,by rw[aG af.symm];exact S _ _ hf,aZ (s1.free nq) (Z.trans S),(kp.trans (.of S)).trans G,aE,?_⟩;rw[tk,<-gS nk];refine(Tab.put (n:=n) (tq.mono λv x z=>(z.mono S).keep G) (y:=(occ (dL x B) n).sum) (FrIs.keep ⟨r,rfl,f5⟩ G)).congr λm _=>?_;unfold upf
   split
   ·rename_i e;rw[e]
   ·rfl
  ·rintro σ J⟨_,z5,L,U,M,j,rfl,hf,Z,kp,R,tq⟩;rw[tb.len,kZ]at tq;exact⟨o,hf,_,_,_,_,j,rfl,aZ np Z,by rw[aG af];exact R,tq.mono λv x z=>z.keep (.frz hf)⟩
 rintro zU ah σ' J⟨z5,L,U,M,j,rfl,Z,R,tq⟩;subst ah;exact⟨_,rfl,Y,j,ks,_,rfl,R,tq,ac,au,λr H4 ay nr s4 av tr=>k r H4 ay (Z.free nr) (Z.trans s4) av tr⟩
end
end G
namespace G
open PySem L2
section
noncomputable def NetOff(a:Ad)(H:Hp)(p d:Addr)(ps:List (Str×Rat))(ds:List WD):Prop:=∃H0,NetAt a H0 p ps ds/\Same H0 H/\H0 d=none
theorem NetOff.mono(h:NetOff a H p d ps ds)(s:Same H H'):NetOff a H' p d ps ds:=by
 obtain⟨H0,n,s0,e⟩:=h;exact⟨H0,n,s0.trans s,e⟩
theorem NetOff.at_(h:NetOff a H p d ps ds):NetAt a H p ps ds:=by
 obtain⟨_,n,s0,_⟩:=h;exact n.mono s0
theorem NetOff.but(h:NetOff a H p d ps ds)(k:∀b ob,H b=some ob->b≠d->H' b=some ob):NetOff a H' p d ps ds:=by
 obtain⟨H0,n,s0,e⟩:=h;exact⟨H0,n,λb ob x=>k b ob (s0 b ob x) (aN x e),e⟩
inductive IspNNames(a:Ad)(vs:List V)(H:Hp)(Q:VK):Prop
 |mk(p:Addr)(ps:List (Str×Rat))(ds:List WD)(h1:vs=[.ref p])(h2:NetAt a H p ps ds)(h3:∀l,H l=none->Q (.ref l) (upd H l (.lst (ps.map λx=>V.str x.1)))):IspNNames a vs H Q
noncomputable def spNNames(a:Ad):Sp:=λvs H Q _=>IspNNames a vs H Q
theorem ok_Net_names(T:TX K mg a):MtB P w K mg base CX0 a.Net "names" 1 ["self"] (spNNames a):=by
 refine T.m_Net_names.okA sc_Net_names λf y A c s H G Q E o h=>?_;obtain⟨p,ps,D,rfl,⟨q,m,F,j,⟨b,i,z,B⟩,I⟩,k⟩:=h;refine⟨_,(aF (aO (dN (gQ o.hd) (by rfl) T.z_list mi (aA (aY (pv 0) rfl) aB)))),?_⟩;walk_at"q"
 refine⟨_,rfl,p,_,q,_,_,rfl,j,T.cl_Net,T.na_Net_wants,fsN_w _ _,m,b,rfl,.inl i,λl t=>?_⟩
 have e:(b.map λr=>kV r.1)=ps.map λx=>V.str x.1:=by
  have:=lW (List.map kV) z
  rw[lY,lY]at this;exact this
 rw[e];exact k l t
inductive IspNAll(a:Ad)(vs:List V)(H:Hp)(Q:VK):Prop
 |mk(p:Addr)(ps:List (Str×Rat))(ds:List WD)(h1:vs=[.ref p])(h2:NetAt a H p ps ds)(h3:∀l H' ts,H l=none->Same H H'->H' l=some (.lst ts)->RowAt (WayIs a) H' ts ds->Q (.ref l) H'):IspNAll a vs H Q
noncomputable def spNAll(a:Ad):Sp:=λvs H Q _=>IspNAll a vs H Q
theorem ok_Net_all_ways(T:TX K mg a):MtB P w K mg base CX0 a.Net "all_ways" 1 ["self"] (spNAll a):=by
 refine T.m_Net_all_ways.okA sc_Net_all_ways λf D A j s H L Q E y h=>?_;obtain⟨p,ps,I,rfl,⟨B,J,e,t,M,⟨b,c,N,r⟩⟩,k⟩:=h;refine⟨_,(aF (aO (dN (call_list_vals y.hd) (by rfl) T.z_list mi (aA (pe_bm0 PySem.F.plainAttrs_dict PySem.F.slot_dict_values PySem.F.type_dict_values mt_values (aY (pv 0) rfl)) aB)))),?_⟩;walk_at"q"
 refine⟨_,rfl,p,_,B,_,_,rfl,t,T.cl_Net,T.na_Net_ways,fsN_y _ _,(.inr (.inr (.inl ⟨rfl,.inl ⟨b,c⟩⟩))),e,b,rfl,rfl,.inl c,λv G=>?_⟩;have i:=aS (o:=ViewO v e) G;refine⟨v,e,b,rfl,aE,.inl (i _ _ c),λl q=>?_⟩;have m:=i.trans (aS (o:=.lst (b.map (·.2))) q);exact k l _ _ (i.free q) m aE (r.mono λv x z=>z.mono m)
noncomputable def bT(ks:List Str)(f:Str->Rat)(n:Str):Rat:=if n∈ks then f n else 0
inductive IspAmount(a:Ad)(vs:List V)(H:Hp)(Q:VK):Prop
 |mk(d:Addr)(kvs:List (Key×V))(ks:List Str)(f:Str->Rat)(n:Str)(h1:vs=[.ref d,.str n])(h2:Rd H d (.dK kvs))(h3:Tab (FrIs a) H kvs ks f)(h4:∀q H',Same H H'->FrAt a.Fraction H' q (bT ks f n)->Q (.ref q) H'):IspAmount a vs H Q
noncomputable def spAmount(a:Ad):Sp:=λvs H Q _=>IspAmount a vs H Q
theorem ok_amount(T:TX K mg a):FnB P w K mg base CX0 "amount" 5 ["plan","name"] (spAmount a):=by
 refine T.d_amount.okA sc_amount λf t A j s H B Q E l h=>?_;obtain⟨d,b,y,f,n,rfl,p,tb,k⟩:=h;refine⟨_,(aF (aO (pe_dget2 (bS l) (pv 0) (pv 1) (cL (mk1 T) l T.mg_Fraction aJ (aA aC aB)) ⟨rfl,rfl,rfl,rfl⟩))),?_⟩;walk_at"q"
 refine⟨_,rfl,d,rfl,.inl ⟨b,p⟩,_,rfl,0,1,rfl,by decide,sm1,λz i D c m=>?_⟩;have e:Rd i d (.dK b):=p.imp (λh=>c _ _ h) λ⟨o,h⟩=>⟨o,c _ _ h⟩;refine⟨dF b (Sum.inr n),.inl ⟨b,Sum.inr n,e,rfl,rfl⟩,?_⟩;unfold bT at k;by_cases hn:n∈y
 ·obtain⟨v,ev,q,rfl,r⟩:=tb.vals n hn;rw[ev];rw[if_pos hn]at k;exact k q i c (r.mono c)
 ·rw[tb.none hn];rw[if_neg hn]at k;rw[Rat.zero_divInt]at m;exact k z i c m
noncomputable def sumStep(A:Str->Rat)(F:Str->Rat)(d:WD):Str->Rat:=upf (upf F d.st (F d.st-A d.nm)) d.go (F d.go+A d.nm*aW d.kd d.x)
noncomputable def cG(A:Str->Rat)(ds:List WD):Str->Rat:=ds.foldl (sumStep A) (λ_=>0)
theorem gu(A:Str->Rat)(ds:List WD)(d:WD):cG A (ds++[d])=sumStep A (cG A ds) d:=by unfold cG;rw[mT];rfl
structure SumOk(A:Str->Rat)(ps:List (Str×Rat))(ds:List WD):Prop where
 np:(ps.map (·.1)).Nodup
 lp:ps.length<=900
 io:∀d∈ds,d.st∈ps.map (·.1)/\d.go∈ps.map (·.1)
 ne:∀d∈ds,d.st≠d.go
 sx:∀d∈ds,SmR d.x/\SmR (aW d.kd d.x)
 sa:∀d∈ds,SmR (A d.nm)/\SmR (A d.nm*aW d.kd d.x)
 sf:∀i s,SmR (cG A (ds.take i) s)
inductive IspSumsOwn(a:Ad)(vs:List V)(H:Hp)(Q:VK):Prop
 |mk(p d:Addr)(ps:List (Str×Rat))(ds:List WD)(kvs:List (Key×V))(ks:List Str)(f:Str->Rat)(h1:vs=[.ref p,.ref d])(h2:NetAt a H p ps ds)(h3:H d=some (.dK kvs))(h4:Tab (FrIs a) H kvs ks f)(h5:SumOk (bT ks f) ps ds)(h6:∀r H' kvr,H r=none->Same H H'->H' r=some (.dK kvr)->Tab (FrIs a) H' kvr (ps.map (·.1)) (cG (bT ks f) ds)->Q (.ref r) H'):IspSumsOwn a vs H Q
noncomputable def spSumsOwn(a:Ad):Sp:=λvs H Q _=>IspSumsOwn a vs H Q
theorem jx(T:TX K mg a):FnB P w K mg base CX0 "sums_of_own_ways" 9 ["net","plan"] (spSumsOwn a):=by
 refine T.d_sums_of_own_ways.okA sc_sums_of_own_ways λf a0 A av s H vs Q E J h=>?_;obtain⟨p,d,ps,ds,ap,ks,f,rfl,hn,hd,tb,ok,k⟩:=h
 refine⟨_,(aD (aI (i:=2) sc_sums_of_own_ways.nd cU)
  (bB (bR lj rfl (bW (pe_mtD0 (CX:=CX0) (pv 0) J aJ)) (aQ (i:=3) sc_sums_of_own_ways.nd) (aF (cW (bS J) (pv 2) (pv 3) (cL (mk1 T) J T.mg_Fraction aJ (aA aC aB)) rfl)))
  (aD (bR lj rfl (bW (pe_mtD0 (CX:=CX0) (pv 0) J aJ)) (aQ (i:=4) sc_sums_of_own_ways.nd) (aD (aI (i:=5) sc_sums_of_own_ways.nd (aR (ok_amount T) J aJ (aA (pv 1) (aA (aY (pv 4) rfl) aB))))
  (aD (cW (bS J) (pv 2) (aY (pv 4) rfl) (cM T.fr (cQ (bS J) (pv 2) (aY (pv 4) rfl) (λ_ _=>rfl)) (eR T) J aJ (aA (pv 5) aB)) rfl)
  (aF (cW (bS J) (pv 2) (aY (pv 4) rfl) (cM T.fr (cQ (bS J) (pv 2) (aY (pv 4) rfl) (λ_ _=>rfl)) (ok_plus T) J aJ (aA (eY (CX:=CX0) (pv 4) J aJ (aA (pv 5) aB)) aB)) rfl)))))
  (aF (aO (pv 2)))))),?_⟩
 walk_at"q"
 intro r nr;have s0:Same H (upd H r (.dK [])):=aS nr;have ag:upd H r (.dK []) r=some (.dK []):=aE;generalize upd H r (.dK [])=H0 at s0 ag⊢;refine dP (λσ' H'=>yE4 λS X U j=>σ'=[some (.ref p),some (.ref d),some (.ref r),S,X,U]×' Same H H'×' H' r=some (.dK j)×' Tab (FrIs a) H' j (ps.map (·.1)) (λ_=>0)) ?_ ?_
 ·obtain⟨dx,dw,dy,hp,hw,hy⟩:=hn.mono s0;refine⟨_,rfl,p,a.Net,dx,_,1,["self"],spNNames a,rfl,hp,jk _ _ (by decide+kernel) (by decide+kernel),T.cl_Net,by decide,ok_Net_names T,p,ps,ds,rfl,⟨dx,dw,dy,hp,hw,hy⟩,λl nl=>?_⟩;obtain⟨H1,zq,s1,hl⟩:=uG (o:=.lst (ps.map λx=>V.str x.1)) nl;rw[zq];have lr:l≠r:=λz=>by rw[z,ag]at nl;cases nl
  refine⟨l,rfl,⟨_,SqL.of hl⟩,cF (K:=K) (a:=l) (xs:=ps.map λx=>V.str x.1) (λi σ Z=>i<=ps.length/\yE4 λS X U j=>σ=[some (.ref p),some (.ref d),some (.ref r),S,X,U]×' Same H Z×' Z l=some (.lst (ps.map λx=>V.str x.1))×' Z r=some (.dK j)×' Tab (FrIs a) Z j ((ps.map (·.1)).take i) (λ_=>0))
   ⟨kY _,_,_,_,[],rfl,s0.trans s1,hl,s1 _ _ ag,Tab.nil⟩ ((by rintro i σ Z _⟨_,_,_,_,_,_,_,h,_⟩;exact SqL.of h)) ?_ ?_⟩
  ·rintro i t σ Z ht⟨hi,S,X,U,j,rfl,s2,O,Y,tr⟩;rw[kP]at ht
   cases ex:ps[i]? with
   |none=>rw[ex]at ht;cases ht
   |some x=>
    rw[ex]at ht
    cases ht;have aj:=(kL.mp ex).1;have en:(ps.map (·.1))[i]?=some x.1:=by rw[kP,ex];rfl
    obtain⟨tk,nk⟩:=gr ok.np en;refine⟨0,1,rfl,by decide,sm1,λz F nz N f3=>?_⟩;rw[Rat.zero_divInt]at f3
    have lk:j.length<=900:=by
     rw[tr.len,k8,kK]
     have:=ok.lp
     lia
    refine⟨_,rfl,_,rfl,r,_,rfl,DPut.k (k:=Sum.inr x.1) (N _ _ Y) (aU (by lia)),?_⟩;have kp:KeepD F (upd F r (.dK (cY j (Sum.inr x.1) (.ref z)))):=KeepD.put (N _ _ Y);refine⟨aj,_,_,_,_,rfl,aZ nr (s2.trans N),by rw[aG lr];exact N _ _ O,aE,?_⟩;rw[tk,<-gS nk];refine(Tab.put (n:=x.1) (tr.mono λv x z=>(z.mono N).keep kp) (y:=0) (FrIs.keep ⟨z,rfl,f3⟩ kp)).congr λm _=>?_;unfold upf
    split<;>rfl
  ·rintro σ Z⟨_,S,X,U,j,rfl,s2,O,Y,tr⟩;rw[kK]at tr;rw[show ps.length=(ps.map (·.1)).length by rw[kK],kZ]at tr;exact⟨_,_,_,j,rfl,s2,Y,tr⟩
 rintro zU ar σ' H1⟨S,X,U,j,rfl,s1,as,tr⟩;obtain⟨dx,dw,dy,hp,hw,hy⟩:=hn.mono s1;subst ar;refine⟨_,rfl,p,a.Net,dx,_,1,["self"],spNAll a,rfl,hp,jk _ _ (by decide+kernel) (by decide+kernel),T.cl_Net,by decide,ok_Net_all_ways T,p,ps,ds,rfl,⟨dx,dw,dy,hp,hw,hy⟩,λl Z ts nl s2 O hv=>?_⟩
 refine⟨l,rfl,⟨_,SqL.of O⟩,cF (K:=K) (a:=l) (xs:=ts) (λi σ F=>i<=ds.length/\yE4 λS X U j=>σ=[some (.ref p),some (.ref d),some (.ref r),S,X,U]×' Same H F×' KeepD Z F×' F r=some (.dK j)×' Tab (FrIs a) F j (ps.map (·.1)) (cG (bT ks f) (ds.take i)))
  ⟨kY _,_,_,_,j,rfl,s1.trans s2,.of (Same.refl _),s2 _ _ as,tr.mono λv x z=>z.mono s2⟩ ((by rintro i σ F _⟨_,_,_,_,_,_,_,kp,_⟩;exact SqL.of (kp _ _ O (by intro _ z;cases z) (by intro _ _ z;cases z)))) ?_ ?_⟩
 ·rintro i t σ F ht⟨hi,S,X,U,j,rfl,N,kp,L,G⟩;obtain⟨y,ey,wy⟩:=hv.get ht;have aj:=(kL.mp ey).1;have my:=kN ey;have ax:WayIs a F t y:=wy.keep λb C dx fs _ e=>kp _ _ e (by intro _ z;cases z) (by intro _ _ z;cases z);obtain⟨p1,vh,vc,q1,rfl,W,hk⟩:=ax;obtain⟨ak,ac,ho,h5,_⟩:=id W.ob;have c:=cR T y.kd;obtain⟨i1,i2⟩:=ok.io y my;obtain⟨a1,a2⟩:=ok.sa y my;obtain⟨x1,x2⟩:=ok.sx y my;have ay:=ok.ne y my
  have lk:j.length<=900:=by
   rw[G.len,kK];exact ok.lp
  refine⟨_,rfl,_,rfl,p1,_,ak,ac,_,rfl,ho,c.cl,c.n1,h5.nm,d,ap,ks,f,y.nm,rfl,.inl (N _ _ hd),tb.mono (λv x z=>z.mono N),λq H4 s4 f4=>?_⟩;have aq:=s4 _ _ ho;obtain⟨v1,au,r1,rfl,al⟩:=(G.mono λv x z=>z.mono s4).vals _ i1;refine⟨_,rfl,_,rfl,p1,_,ak,ac,_,rfl,aq,c.cl,c.n2,h5.st,r,_,rfl,.inl ⟨j,Sum.inr y.st,.inl (s4 _ _ L),rfl,au.symm⟩,r1,_,rfl,al,_,rfl,r1,q,_,_,rfl,al,f4,ok.sf i _,a1,True.intro,λr2 H5 a3 s5 f5=>?_⟩;have B:=s4.trans s5;refine⟨_,rfl,_,rfl,p1,_,ak,ac,_,rfl,B _ _ ho,c.cl,c.n2,h5.st,r,_,rfl,DPut.k (k:=Sum.inr y.st) (B _ _ L) (aU (by lia)),?_⟩;have I:KeepD H5 (upd H5 r (.dK (cY j (Sum.inr y.st) (.ref r2)))):=KeepD.put (B _ _ L);have M:=Tab.put (n:=y.st) (G.mono λv x z=>(z.mono B).keep I) (FrIs.keep ⟨r2,rfl,f5⟩ I);have s6:=aZ (o:=.dK (cY j (Sum.inr y.st) (.ref r2))) nr (N.trans B);have R:upd H5 r (.dK (cY j (Sum.inr y.st) (.ref r2))) r=some (.dK (cY j (Sum.inr y.st) (.ref r2))):=aE;have aw:(cY j (Sum.inr y.st:Key) (.ref r2)).length<=901:=kW (ji _ _ _) (by lia);generalize cY j (Sum.inr y.st) (.ref r2)=am at I M s6 R aw⊢;generalize upd H5 r (.dK am)=H6 at I M s6 R⊢;rw[show addK (ps.map (·.1)) y.st=ps.map (·.1) from if_pos i1]at M;have aa:KeepD F H6:=(KeepD.of B).trans I;have W6:=W.keep λb C dx fs _ e=>aa _ _ e (by intro _ z;cases z) (by intro _ _ z;cases z);obtain⟨ad,af,ai,ab,_⟩:=id W6.ob;obtain⟨q6,e6,f6⟩:=FrIs.keep ⟨q,rfl,f4⟩ ((KeepD.of s5).trans I)
  cases e6;obtain⟨v7,ao,r7,rfl,ae⟩:=M.vals _ i2;rw[upf_ne (Ne.symm ay)]at ae;refine⟨_,rfl,_,rfl,p1,_,ad,af,_,rfl,ai,c.cl,c.n3,ab.go,r,_,rfl,.inl ⟨_,Sum.inr y.go,.inl R,rfl,ao.symm⟩,r7,_,rfl,ae,_,rfl,p1,_,ad,af,8,["self","amount"],spOut a y.kd,rfl,ai,ab.ou,c.cl,by decide,out_any T y.kd,_,rfl,p1,q,y.nm,y.st,y.go,vh,vc,q1,y.x,_,rfl,W6,f6,x1,a1,x2,λr8 H7 s7 f7=>?_⟩;refine⟨r7,r8,_,_,rfl,ae.mono s7,f7,ok.sf i _,a2,True.intro,λr9 H8 az s8 f8=>?_⟩;have D:=s7.trans s8;refine⟨_,rfl,_,rfl,p1,_,ad,af,_,rfl,D _ _ ai,c.cl,c.n3,ab.go,r,_,rfl,DPut.k (k:=Sum.inr y.go) (D _ _ R) (aU (by lia)),?_⟩;have ah:KeepD H8 (upd H8 r (.dK (cY am (Sum.inr y.go) (.ref r9)))):=KeepD.put (D _ _ R);have an:=Tab.put (n:=y.go) (M.mono λv x z=>(z.mono D).keep ah) (FrIs.keep ⟨r9,rfl,f8⟩ ah);rw[show addK (ps.map (·.1)) y.go=ps.map (·.1) from if_pos i2]at an;refine⟨aj,_,_,_,_,rfl,aZ nr (s6.trans D),((kp.trans aa).trans (.of D)).trans ah,aE,?_⟩;rw[kX,ey,lB,gu];exact an
 ·rintro σ F⟨_,S,X,U,j,rfl,N,kp,L,G⟩;rw[hv.1,kZ]at G;exact⟨_,rfl,k r F j nr N L G⟩
inductive IspRefO(a:Ad)(vs:List V)(H:Hp)(Q:VK):Prop
 |mk(p d:Addr)(ps:List (Str×Rat))(ds:List WD)(kvs:List (Key×V))(ks:List Str)(f:Str->Rat)(h1:vs=[.ref p,.ref d])(h2:NetOff a H p d ps ds)(h3:(ds.map (·.nm)).Nodup)(h4:H d=some (.dK kvs))(h5:Tab (FrIs a) H kvs ks f)(h6:ks.Nodup)(h7:(∀n∈ks,n∈ds.map (·.nm)))(h8:∀H',Same H H'->Q .non H'):IspRefO a vs H Q
noncomputable def spRefO(a:Ad):Sp:=λvs H Q _=>IspRefO a vs H Q
theorem iU(T:TX K mg a):FnB P w K mg base CX0 "refuse_other_names" 2 ["net","plan"] (spRefO a):=by
 refine T.d_refuse_other_names.okA sc_refuse_other_names λf aa A t s H vs Q E X h=>?_;obtain⟨p,d,ps,O,kvs,ks,f,rfl,Y,I,q,tb,B,sub,k⟩:=h;refine⟨_,(aF (gi (bR lj rfl (jr (pv 1)) (aQ (i:=2) sc_refuse_other_names.nd) (aF (bZ (eY (CX:=CX0) (pv 0) X aJ (aA (pv 2) aB))))))),?_⟩;walk_at"q"
 refine⟨d,.dK kvs,q,(by intro o z e;cases e),_,rfl,d,kvs,rfl,q,λo=>?_⟩
 refine for_dict (a:=d) (o:=o) (kvs:=kvs) (λi σ c=>yE1 λz=>σ=[some (.ref p),some (.ref d),z]×' c d=some (.frz o (.dK kvs))×'∀b j,H b=some j->b≠d->c b=some j)
  ⟨_,rfl,aE,λb j e ne=>by rw[aG ne];exact e⟩ ((by rintro i σ c _⟨_,_,h,_⟩;exact h)) ?_ ?_
 ·rintro i L σ c m⟨z,rfl,r,l⟩;obtain⟨n,R,U,ev,_⟩:=tb.at_ B m;have D:kV L.1=.str n:=by rw[U];rfl
  rw[D];obtain⟨y,M,rfl⟩:=kQ.mp (sub n (kN R));obtain⟨G,J,S,F,N,Z⟩:=(Y.but l).at_;refine⟨_,rfl,p,a.Net,G,_,1,["self","name"],gB a,rfl,F,jk _ _ (by decide+kernel) (by decide+kernel),T.cl_Net,by decide,fH T,_,rfl,p,ps,O,y,rfl,⟨G,J,S,F,N,Z⟩,I,M,λv _=>?_⟩;exact⟨_,rfl,r,l⟩
 ·rintro σ c⟨z,rfl,r,l⟩;refine⟨o,r,k _ λb j e=>?_⟩;by_cases hb:b=d
  ·subst hb;rw[aE,<-q,e]
  ·rw[aG hb];exact l _ _ e hb
inductive IspSums(a:Ad)(vs:List V)(H:Hp)(Q:VK):Prop
 |mk(p d:Addr)(ps:List (Str×Rat))(ds:List WD)(kvs:List (Key×V))(ks:List Str)(f:Str->Rat)(h1:vs=[.ref p,.ref d])(h2:NetOff a H p d ps ds)(h3:(ds.map (·.nm)).Nodup)(h4:H d=some (.dK kvs))(h5:Tab (FrIs a) H kvs ks f)(h6:ks.Nodup)(h7:(∀n∈ks,n∈ds.map (·.nm)))(h8:SumOk (bT ks f) ps ds)(h9:∀r H' kvr,H r=none->Same H H'->H' r=some (.dK kvr)->Tab (FrIs a) H' kvr (ps.map (·.1)) (cG (bT ks f) ds)->Q (.ref r) H'):IspSums a vs H Q
noncomputable def spSums(a:Ad):Sp:=λvs H Q _=>IspSums a vs H Q
theorem ok_sums(T:TX K mg a):FnB P w K mg base CX0 "sums" 10 ["net","plan"] (spSums a):=by
 refine T.d_sums.okA sc_sums λf J A i s H M Q E q h=>?_;obtain⟨p,d,ps,o,b,y,f,rfl,t,B,m,tb,j,sub,ok,k⟩:=h
 refine⟨_,(aD (bZ (aR (iU T) q aJ (aA (pv 0) (aA (pv 1) aB))))
  (aF (aO (aR (jx T) q aJ (aA (pv 0) (aA (pv 1) aB)))))),?_⟩
 walk_at"q"
 refine⟨_,rfl,_,rfl,p,d,ps,o,b,y,f,rfl,t,B,m,tb,j,sub,λL c=>?_⟩;exact⟨_,rfl,_,rfl,p,d,ps,o,b,y,f,rfl,(t.mono c).at_,c _ _ m,tb.mono (λv x z=>z.mono c),ok,λr G e F D l I=>k r G e (c.free F) (c.trans D) l I⟩
end
end G
namespace G
open PySem L2
section
inductive IspScaled(a:Ad)(vs:List V)(H:Hp)(Q:VK):Prop
 |mk(d q:Addr)(kvs:List (Key×V))(ks:List Str)(f:Str->Rat)(y:Rat)(h1:vs=[.ref d,.ref q])(h2:H d=some (.dK kvs))(h3:Tab (FrIs a) H kvs ks f)(h4:ks.Nodup)(h5:ks.length<=900)(h6:FrAt a.Fraction H q y)(h7:SmR y)(h8:(∀n∈ks,SmR (f n)))(h9:∀r H' kvs',H r=none->Same H H'->H' r=some (.dK kvs')->Tab (FrIs a) H' kvs' (f0 (λn=>f n*y) ks) (λn=>f n*y)->Q (.ref r) H'):IspScaled a vs H Q
noncomputable def spScaled(a:Ad):Sp:=λvs H Q _=>IspScaled a vs H Q
theorem ok_scaled(T:TX K mg a):FnB P w K mg base CX0 "scaled" 6 ["plan","number"] (spScaled a):=by
 refine T.d_scaled.okA sc_scaled λf ai A ag s H vs Q E hr h=>?_;obtain⟨d,q,kvs,Z,f,y,rfl,hd,tb,nd,hl,fq,sy,sf,k⟩:=h
 refine⟨_,(aD (aI (i:=2) sc_scaled.nd cU)
  (bB (gi (bR lj rfl (gK (pv 0)) (hV (n:=2) rfl (bY (aQ (i:=3) sc_scaled.nd) (bY (aQ (i:=4) sc_scaled.nd) fM))) (aF (cW (bS hr) (pv 2) (pv 3) (cM T.fr (pv 4) (gM T) hr aJ (aA (pv 1) aB)) rfl))))
  (aF (aO (aR (dS T) hr aJ (aA (pv 2) aB)))))),?_⟩
 walk_at"q"
 intro r nr;have O:Same H (upd H r (.dK [])):=aS nr;have D:=O _ _ hd;have U:upd H r (.dK []) r=some (.dK []):=aE;have R:=tb.mono λv x z=>z.mono O;have X:=fq.mono O;generalize upd H r (.dK [])=H0 at O D U R X⊢;have L:d≠r:=λz=>by rw[z,nr]at hd;cases hd
 refine dP (λσ' H'=>yE3 λM N G=>σ'=[some (.ref d),some (.ref q),some (.ref r),M,N]×' Same H H'×' H' r=some (.dK G)×' Tab (FrIs a) H' G Z (λn=>f n*y)) ?_ ?_
 ·refine⟨d,.dK kvs,D,(by intro o z e;cases e),_,rfl,d,kvs,rfl,D,λo=>?_⟩
  refine gx (a:=d) (o:=o) (kvs:=kvs) (λi σ j=>i<=Z.length/\yE3 λM N c=>σ=[some (.ref d),some (.ref q),some (.ref r),M,N]×' j d=some (.frz o (.dK kvs))×'(∀b S,H b=some S->b≠d->j b=some S)×' KeepD H0 j×' j r=some (.dK c)×' Tab (FrIs a) j c (Z.take i) (λn=>f n*y))
   ⟨kY _,_,_,[],rfl,aE,(λb S e ne=>by rw[aG ne];exact O _ _ e),KeepD.put D,by rw[aG L.symm];exact U,Tab.nil⟩ ((by rintro i σ j _⟨_,_,_,_,_,h,_⟩;exact h)) ?_ ?_
  ·rintro i kv t σ j af nt⟨_,M,N,c,rfl,hf,k2,kp,F,B⟩;obtain⟨n,en,e1,ev,p,ep,fp⟩:=R.at_ nd af;have hi:i<Z.length:=(kL.mp en).1;have ah:kV kv.1=.str n:=by rw[e1];rfl
   rw[ah,ep];obtain⟨H3,zq,s3,ht⟩:=uG (o:=.tup [.str n,.ref p]) nt;rw[zq];have I:=kp.trans (.of s3);obtain⟨p',e',Y⟩:=FrIs.keep ⟨p,rfl,fp⟩ I
   cases e';obtain⟨q',e',aa⟩:=FrIs.keep ⟨q,rfl,X⟩ I
   cases e';obtain⟨tk,nk⟩:=gr nd en;refine⟨t,[.str n,.ref p],rfl,SqT.of ht,rfl,.str n,[.ref p],rfl,⟨.ref p,[],rfl,⟨rfl,?_⟩⟩⟩;refine⟨_,rfl,p,_,rfl,Y,_,rfl,p,q,_,_,rfl,Y,aa,sf n (kN en),sy,True.intro,λz H4 nz s4 f4=>?_⟩;have l:=s3.trans s4
   have ls:c.length<=900:=by
    rw[B.len,k8]
    lia
   refine⟨_,rfl,_,rfl,r,_,rfl,DPut.k (k:=Sum.inr n) (l _ _ F) (aU (by lia)),?_⟩;have J:KeepD H4 (upd H4 r (.dK (cY c (Sum.inr n) (.ref z)))):=KeepD.put (l _ _ F);refine⟨hi,_,_,_,rfl,by rw[aG L];exact l _ _ hf,(λb S e ne=>?_),(I.trans (.of s4)).trans J,aE,?_⟩
   ·rw[aG (aN e nr)];exact l _ _ (k2 _ _ e ne)
   ·rw[tk,<-gS nk];refine(Tab.put (n:=n) (B.mono λv x z=>(z.mono l).keep J) (y:=f n*y) (FrIs.keep ⟨z,rfl,f4⟩ J)).congr λm _=>?_;unfold upf
    split
    ·rename_i e;rw[e]
    ·rfl
  ·rintro σ j⟨_,M,N,c,rfl,hf,k2,kp,F,B⟩;rw[tb.len,kZ]at B;refine⟨o,hf,_,_,c,rfl,(λb S e=>?_),by rw[aG L.symm];exact F,B.mono λv x z=>z.keep (.frz hf)⟩;by_cases hb:b=d
   ·subst hb;rw[aE,<-hd,e]
   ·rw[aG hb];exact k2 _ _ e hb
 rintro zU ac σ' H1⟨M,N,G,rfl,s1,ae,tr⟩;subst ac;exact⟨_,rfl,r,G,Z,_,rfl,ae,tr,nd,hl,λz j ab nz s2 ad tz=>k z j ab (s1.free nz) (s1.trans s2) ad tz⟩
noncomputable def sumA(ks1:List Str)(f1:Str->Rat)(ks2:List Str)(f2:Str->Rat)(n:Str):Rat:=bT ks1 f1 n+bT ks2 f2 n
noncomputable def f9(ks1 ks2:List Str):List Str:=ks2.foldl addK ks1
theorem bothK_snoc(ks1 ks2:List Str)(n:Str):f9 ks1 (ks2++[n])=addK (f9 ks1 ks2) n:=by unfold f9;rw[mT];rfl
theorem mem_bothK:n∈f9 ks1 ks2↔n∈ks1∨n∈ks2:=mem_fold
inductive IspTogether(a:Ad)(vs:List V)(H:Hp)(Q:VK):Prop
 |mk(d e:Addr)(kv1 kv2:List (Key×V))(ks1 ks2:List Str)(f1 f2:Str->Rat)(h1:vs=[.ref d,.ref e])(h2:H d=some (.dK kv1))(h3:Tab (FrIs a) H kv1 ks1 f1)(h4:ks1.Nodup)(h5:H e=some (.dK kv2))(h6:Tab (FrIs a) H kv2 ks2 f2)(h7:ks2.Nodup)(h8:ks1.length+ks2.length<=900)(h9:(∀n∈ks2,SmR (bT ks1 f1 n)/\SmR (f2 n)))(h10:∀r H' kvs',H r=none->Same H H'->H' r=some (.dK kvs')->Tab (FrIs a) H' kvs' (f0 (sumA ks1 f1 ks2 f2) (f9 ks1 ks2)) (sumA ks1 f1 ks2 f2)->Q (.ref r) H'):IspTogether a vs H Q
noncomputable def spTogether(a:Ad):Sp:=λvs H Q _=>IspTogether a vs H Q
theorem ok_together(T:TX K mg a):FnB P w K mg base CX0 "together" 6 ["one","other"] (spTogether a):=by
 refine T.d_together.okA sc_together λf ap A am s H vs Q E hr h=>?_;obtain⟨d,e,B,L,j,c,U,O,rfl,hd,t1,n1,he,t2,n2,hl,sm,k⟩:=h
 refine⟨_,(aD (aI (i:=2) sc_together.nd (dN call_dict_copy (by rfl) T.z_dict PyProof.Rows.boot_dict (aA (pv 0) aB)))
  (bB (gi (bR lj rfl (gK (pv 1)) (hV (n:=2) rfl (bY (aQ (i:=3) sc_together.nd) (bY (aQ (i:=4) sc_together.nd) fM))) (aF (cW (bS hr) (pv 2) (pv 3) (cM T.fr (aR (ok_amount T) hr aJ (aA (pv 2) (aA (pv 3) aB))) (ok_plus T) hr aJ (aA (pv 4) aB)) rfl))))
  (aF (aO (aR (dS T) hr aJ (aA (pv 2) aB)))))),?_⟩
 walk_at"q"
 generalize aa:jP _ _=k9
 revert k9
 refine iw λk9 aa=>?_;refine⟨_,rfl,d,B,rfl,.inl hd,λr nr=>?_⟩;have Z:Same H (upd H r (.dK B)):=aS nr;have J:=Z _ _ he;have ab:upd H r (.dK B) r=some (.dK B):=aE;have ad:=t1.mono λv x z=>z.mono Z;have ac:=t2.mono λv x z=>z.mono Z;generalize upd H r (.dK B)=H0 at Z J ab ad ac⊢;have M:e≠r:=λz=>by rw[z,nr]at he;cases he
 have lb:∀i,(f9 j (c.take i)).length<=900:=λi=>by
  have X:=len_fold (ns:=c.take i) (ks:=j);rw[k8]at X;show(List.foldl addK j (c.take i)).length<=900
  lia
 subst aa;refine dP (λσ' H'=>yE3 λS Y l=>σ'=[some (.ref d),some (.ref e),some (.ref r),S,Y]×' Same H H'×' H' r=some (.dK l)×' Tab (FrIs a) H' l (f9 j c) (sumA j U c O)) ?_ ?_
 ·refine⟨e,.dK L,J,(by intro o z e;cases e),_,rfl,e,L,rfl,J,λo=>?_⟩
  have N:Tab (FrIs a) H0 B (f9 j []) (sumA j U [] O):=ad.congr λn hn=>by
   unfold sumA bT;rw[if_pos hn,if_neg lA];grind
  refine gx (a:=e) (o:=o) (kvs:=L) (λi σ G=>i<=c.length/\yE3 λS Y l=>σ=[some (.ref d),some (.ref e),some (.ref r),S,Y]×' G e=some (.frz o (.dK L))×'(∀b ob,H b=some ob->b≠e->G b=some ob)×' KeepD H0 G×' G r=some (.dK l)×' Tab (FrIs a) G l (f9 j (c.take i)) (sumA j U (c.take i) O))
   ⟨kY _,_,_,B,rfl,aE,(λb ob e ne=>by rw[aG ne];exact Z _ _ e),KeepD.put J,by rw[aG M.symm];exact ab,N.mono λv x z=>z.keep (.put J)⟩ ((by rintro i σ G _⟨_,_,_,_,_,h,_⟩;exact h)) ?_ ?_
  ·rintro i kv t σ G ak nt⟨_,S,Y,l,rfl,hf,k2,kp,I,F⟩;obtain⟨n,en,e1,ev,p,ep,fp⟩:=ac.at_ n2 ak;have hi:i<c.length:=(kL.mp en).1;have ao:kV kv.1=.str n:=by rw[e1];rfl
   rw[ao,ep];obtain⟨H3,zq,s3,ht⟩:=uG (o:=.tup [.str n,.ref p]) nt;rw[zq];have al:=kp.trans (.of s3);obtain⟨p',e',an⟩:=FrIs.keep ⟨p,rfl,fp⟩ al
   cases e';obtain⟨tk,nk⟩:=gr n2 en;obtain⟨sm1,af⟩:=sm n (kN en);refine⟨t,[.str n,.ref p],rfl,SqT.of ht,rfl,.str n,[.ref p],rfl,⟨.ref p,[],rfl,⟨rfl,?_⟩⟩⟩
   have eA:bT (f9 j (c.take i)) (sumA j U (c.take i) O) n=bT j U n:=by
    unfold bT sumA bT;rw[if_neg nk];by_cases X:n∈j
    ·rw[if_pos (mem_bothK.mpr (.inl X)),if_pos X];grind
    ·rw[if_neg (λz=>(mem_bothK.mp z).elim X nk),if_neg X]
   refine⟨_,rfl,_,rfl,r,l,_,_,n,rfl,.inl (s3 _ _ I),F.mono (λv x z=>z.mono s3),λq H4 s4 f4=>?_⟩;rw[eA]at f4;refine⟨q,_,rfl,f4,_,rfl,q,p,_,_,rfl,f4,an.mono s4,sm1,af,True.intro,λz H5 nz s5 f5=>?_⟩;have D:=s3.trans (s4.trans s5);have ls:l.length<=900:=by rw[F.len];exact lb i
   refine⟨_,rfl,_,rfl,r,_,rfl,DPut.k (k:=Sum.inr n) (D _ _ I) (aU (by lia)),?_⟩;have R:KeepD H5 (upd H5 r (.dK (cY l (Sum.inr n) (.ref z)))):=KeepD.put (D _ _ I);refine⟨hi,_,_,_,rfl,by rw[aG M];exact D _ _ hf,(λb ob e ne=>?_),(kp.trans (.of D)).trans R,aE,?_⟩
   ·rw[aG (aN e nr)];exact D _ _ (k2 _ _ e ne)
   ·rw[tk,bothK_snoc];refine(Tab.put (n:=n) (F.mono λv x z=>(z.mono D).keep R) (y:=bT j U n+O n) (FrIs.keep ⟨z,rfl,f5⟩ R)).congr λm _=>?_;unfold upf sumA;by_cases h:m=n
    ·subst h;rw[if_pos rfl];unfold bT;rw[if_pos (show m∈c.take i++[m]by simp)]
    ·rw[if_neg h]
     have:bT (c.take i++[n]) O m=bT (c.take i) O m:=by
      unfold bT;by_cases h2:m∈c.take i
      ·rw[if_pos h2,if_pos (lf _ h2)]
      ·rw[if_neg h2,if_neg (λz=>(kU.mp z).elim h2 λq=>h (kS.mp q))]
     rw[this]
  ·rintro σ G⟨_,S,Y,l,rfl,hf,k2,kp,I,F⟩;rw[t2.len,kZ]at F;refine⟨o,hf,_,_,l,rfl,(λb ob x=>?_),by rw[aG M.symm];exact I,F.mono λv x z=>z.keep (.frz hf)⟩;by_cases hb:b=e
   ·subst hb;rw[aE,<-he,x]
   ·rw[aG hb];exact k2 _ _ x hb
 rintro zU ah σ' H1⟨S,Y,l,rfl,s1,aj,tr⟩;have ae:=lb c.length;subst ah;rw[kZ]at ae;exact⟨_,rfl,r,l,_,_,rfl,aj,tr,nodup_fold n1,ae,λz G ag nz s2 ai tz=>k z G ag (s1.free nz) (s1.trans s2) ai tz⟩
end
end G
namespace G
open PySem L2
section
theorem ok_over(T:TX K mg a):MtB P w K mg base CX0 a.Fraction "over" 6 ["self","other"] (spR2 a.Fraction (λx y=>x/y) (λ_ y=>y≠0)):=by
 refine T.m_Fraction_over.okA sc_Fraction_over (λf S A G s H R Q E l h=>?_) (λR H Q E h=>?_)
 rotate_left
 ·obtain⟨p,q,x,y,rfl,_⟩:=h;rfl
 ·obtain⟨p,q,x,y,rfl,L,U,N,m,J,k⟩:=h
  refine⟨_,(aD (bG (aP eJ (dY T.fr (pv 1)) aC) (aF cT) aV)
   (aD (bG (aP jd (dY T.fr (pv 1)) aC) (aF (aO (cM T.fr (pv 0) (gM T) l aJ (aA (aR (cK T) l aJ (aA (jL hU (dR T.fr (pv 1))) (aA (jL hU (dY T.fr (pv 1))) aB))) aB)))) aV)
   (aF (aO (cM T.fr (pv 0) (gM T) l aJ (aA (aR (cK T) l aJ (aA (dR T.fr (pv 1)) (aA (dY T.fr (pv 1)) aB))) aB)))))),?_⟩
  walk_at"q"
  walk_at"rd"
  refine ifV (λe=>?_) (λe=>?_)
  ·exact absurd (Rat.num_eq_zero.mp e) J
  walk_at"rd"
  refine ifB (λM=>?_) (λM=>?_)
  ·obtain⟨j,i⟩:=inv_neg_spec y M;walk_at"rd"
   intro r D B O c e;have F:FrAt a.Fraction B r (y⁻¹):=⟨D,by rw[e,j,i]⟩;refine⟨p,r,x,y⁻¹,rfl,L.mono c,F,N,⟨by rw[j];exact m.2.le (by lia),by rw[i];exact m.1.le (by lia)⟩,trivial,λt I b z o=>?_⟩;exact k t I (c.free b) (c.trans z) o
  ·obtain⟨j,i⟩:=inv_pos_spec y (by lia);walk_at"rd"
   intro r D B O c e;have F:FrAt a.Fraction B r (y⁻¹):=⟨D,by rw[e,j,i]⟩;refine⟨p,r,x,y⁻¹,rfl,L.mono c,F,N,⟨by rw[j];exact m.2,by rw[i];exact m.1⟩,trivial,λt I b z o=>?_⟩;exact k t I (c.free b) (c.trans z) o
end
end G
namespace G
open PySem L2
section
theorem cZ{α:Type}{P:List α->Prop}(h0:P [])(h1:∀xs x,P xs->P (xs++[x]))(xs:List α):P xs:=by
 rw[<-List.reverse_reverse xs]
 induction xs.reverse with
 |nil=>exact h0
 |cons x r ih=>rw[List.reverse_cons];exact h1 _ _ ih
theorem eT{xs ys:List Str}(nd:xs.Nodup)(h:∀x∈xs,x∈ys):xs.length<=ys.length:=by
 induction xs generalizing ys with
 |nil=>exact kY _
 |cons x xs ih=>
  obtain⟨c,i⟩:=me.mp nd;have b:=h x lG
  have:=ih (ys:=ys.erase x) i λz a=>by
   rw[List.mem_erase_of_ne (λe=>c (by rw[<-e];exact a))];exact h z (lv _ a)
  rw[List.length_erase_of_mem b]at this
  have:=List.length_pos_of_mem b
  rw[lR]
  lia
noncomputable def onw(ws:List WD)(p:Str):Option WD:=ws.foldl (λo x=>if x.st=p then some x else o) none
theorem onw_snoc(ws:List WD)(x:WD)(p:Str):onw (ws++[x]) p=if x.st=p then some x else onw ws p:=by unfold onw;rw[mT];rfl
theorem onw_some:∀{ws:List WD},onw ws p=some x->x∈ws/\x.st=p:=by
 refineλ{ws}=>cZ (P:=λws=>onw ws p=some x->x∈ws/\x.st=p) (λh=>by cases h) (λi u a h=>?_) ws;rw[onw_snoc]at h
 split at h
 ·rename_i e
  cases h;exact⟨by simp,e⟩
 ·obtain⟨b,c⟩:=a h;exact⟨lf _ b,c⟩
theorem onw_in:∀{ws:List WD},p∈ws.map (·.st)->∃x,onw ws p=some x:=by
 refineλ{ws}=>cZ (P:=λws=>p∈ws.map (·.st)->∃x,onw ws p=some x) (λh=>by cases h) (λb u a h=>?_) ws;rw[onw_snoc];by_cases e:u.st=p
 ·exact⟨u,if_pos e⟩
 ·rw[if_neg e];rw[kO,kU]at h;exact a (h.resolve_right λz=>e (kS.mp z).symm)
noncomputable def dE(ws:List WD):List WD:=ws.filter λx=>decide (x.go∈ws.map (·.st))
theorem mem_kept:x∈dE ws↔x∈ws/\x.go∈ws.map (·.st):=by unfold dE;rw[nH,decide_eq_true_iff]
theorem kept_le(ws:List WD):(dE ws).length<=ws.length:=mx _ _
theorem kept_all(h:¬(dE ws).length<ws.length):∀x∈ws,x.go∈ws.map (·.st):=λx a=>by
 have e:(dE ws).length=ws.length:=Nat.le_antisymm (kept_le ws) (by lia);unfold dE at e;exact of_decide_eq_true (List.length_filter_eq_length_iff.mp e x a)
noncomputable def Acyc(ws:List WD):Prop:=∃rk:Str->Nat,∀x∈ws,rk x.go<rk x.st
theorem Acyc.nil:Acyc []:=⟨λ_=>0,λx h=>absurd h lA⟩
theorem Acyc.back(h:Acyc (dE ws)):Acyc ws:=by
 obtain⟨a,k⟩:=h;refine⟨λp=>if p∈ws.map (·.st)then a p+1 else 0,λx b=>?_⟩;have c:x.st∈ws.map (·.st):=kQ.mpr ⟨x,b,rfl⟩;show(if x.go∈ws.map (·.st)then a x.go+1 else 0)<if x.st∈ws.map (·.st)then a x.st+1 else 0
 rw[if_pos c];by_cases h2:x.go∈ws.map (·.st)
 ·rw[if_pos h2]
  have:=k x (mem_kept.mpr ⟨b,h2⟩)
  lia
 ·rw[if_neg h2]
  lia
noncomputable def PthW:Str->List WD->Str->Prop
 |p,[],q=>p=q
 |p,x::r,q=>x.st=p/\PthW x.go r q
theorem PthW.snoc:∀{l:List WD}{p q:Str},PthW p l q->x.st=q->PthW p (l++[x]) x.go
 |[],_,_,h,e=>⟨e.trans h.symm,rfl⟩
 |_::_,_,_,h,e=>⟨h.1,h.2.snoc e⟩
theorem PthW.split:∀{l1 l2:List WD}{p q:Str},PthW p (l1++l2) q->∃m,PthW p l1 m/\PthW m l2 q
 |[],_,p,_,h=>⟨p,rfl,h⟩
 |_::_,_,_,_,h=>by
  obtain⟨m,a,b⟩:=PthW.split h.2;exact⟨m,⟨h.1,a⟩,b⟩
theorem PthW.chain:∀{l:List WD}{p q:Str},PthW p l q->Chain l
 |[],_,_,_=>λi x y h=>by cases h
 |[x],_,_,_=>λi u v a b=>by
  cases i with
  |zero=>cases b
  |succ i=>cases a
 |x::y::r,_,_,h=>λi u v a b=>by
  cases i with
  |zero=>
   cases a
   cases b;exact h.2.1.symm
  |succ i=>exact(PthW.chain (l:=y::r) h.2) i u v (by simpa using a) (by simpa using b)
theorem PthW.last:∀{l:List WD}{p q:Str},PthW p l q->∀x,l.getLast?=some x->x.go=q
 |[x],_,_,h,y,e=>by
  cases e;exact h.2
 |x::y::r,_,_,h,z,e=>PthW.last (l:=y::r) h.2 z (by rw[<-e];rfl)
theorem PthW.head(h:PthW p l q):∀x,l.head?=some x->x.st=p:=by
 cases l with
 |nil=>intro x e;cases e
 |cons y r=>intro x e;cases e;exact h.1
theorem PthW.down{rk:Str->Nat}:∀{l:List WD}{p q:Str},PthW p l q->(∀x∈l,rk x.go<rk x.st)->(∀x∈l,rk x.go<rk p)/\(p::l.map (·.go)).Nodup
 |[],p,_,_,_=>⟨λx h=>absurd h lA,by simp⟩
 |x::r,p,q,h,k=>by
  have b:=k x lG;obtain⟨c,i⟩:=PthW.down h.2 λy a=>k y (lv _ a);rw[h.1]at b
  have all:∀y∈x::r,rk y.go<rk p:=λy a=>by
   rcases lx.mp a with rfl|a
   ·exact b
   ·exact Nat.lt_trans (c y a) b
  refine⟨all,me.mpr ⟨λm=>?_,i⟩⟩;obtain⟨y,a,e⟩:=kQ.mp m
  have:=all y a
  rw[e]at this;exact mF _ this
structure RingW(ws l:List WD):Prop where
 ne:l≠[]
 sub:∀x∈l,x∈ws
 nd:(l.map (·.st)).Nodup
 rd:∃p,PthW p l p
theorem RingW.mono(h:RingW us l)(s:∀x∈us,x∈ws):RingW ws l:=⟨h.ne,λx a=>s x (h.sub x a),h.nd,h.rd⟩
theorem bM{ws l:List WD}(nd:(ws.map (·.nm)).Nodup)(sub:∀x∈l,x∈ws)(h:(l.map (·.st)).Nodup):(l.map (·.nm)).Nodup:=by
 induction l with
 |nil=>exact mB
 |cons x r ih=>
  obtain⟨o,s⟩:=me.mp (show(x.st::r.map (·.st)).Nodup from h);refine me.mpr ⟨λm=>o ?_,ih (λy a=>sub y (lv _ a)) s⟩;obtain⟨y,a,e⟩:=kQ.mp m
  have:y=x:=by
   obtain⟨i,c⟩:=lL.mp (sub y (lv _ a));obtain⟨j,b⟩:=lL.mp (sub x lG);have g1:(ws.map (·.nm))[i]?=some y.nm:=by rw[kP,c];rfl
   have p:(ws.map (·.nm))[j]?=some y.nm:=by rw[kP,b,ml,e]
   have q:=(mo (by rw[kK];exact(kL.mp c).1) nd).mp (g1.trans p.symm);subst q;rw[c]at b;exact lJ b
  exact kQ.mpr ⟨y,a,by rw[this]⟩
structure SeenW(f:Str->WD)(ks:List Str)(p0:Str)(l:List WD)(q:Str):Prop where
 path:PthW p0 l q
 nd:(l.map (·.st)).Nodup
 by_:∀x∈l,x.st∈ks/\x=f x.st
 inn:q∈ks
theorem SeenW.next(hf:∀k∈ks,(f k).st=k/\(f k).go∈ks)(h:SeenW f ks p0 l q)(nq:¬q∈l.map (·.st)):l.length<ks.length/\SeenW f ks p0 (l++[f q]) (f q).go:=by
 obtain⟨c,j⟩:=hf q h.inn
 have a:((l++[f q]).map (·.st)).Nodup:=by
  rw[kO,List.map_singleton,c];exact lV.mpr ⟨h.nd,by simp,λx b y i e=>nq (by rw[kS.mp i]at e;rw[<-e];exact b)⟩
 refine⟨?_,h.path.snoc c,a,λx b=>?_,j⟩
 ·have:=eT a (ys:=ks) λx b=>by
   obtain⟨y,i,rfl⟩:=kQ.mp b;rcases kU.mp i with z|z
   ·exact(h.by_ y z).1
   ·rw[kS.mp z,c];exact h.inn
  rw[kK,k5,lP]at this
  lia
 ·rcases kU.mp b with z|z
  ·exact h.by_ x z
  ·rw[kS.mp z,c];exact⟨h.inn,rfl⟩
theorem SeenW.ring(h:SeenW f ks p0 l q)(hw:∀k∈ks,f k∈ws)(hi:(l.map (·.st))[i]?=some q):RingW ws (l.drop i):=by
 rw[kP]at hi;obtain⟨x,ex,e⟩:=Option.map_eq_some_iff.mp hi;have p:=(kL.mp ex).1;have c:l.drop i=x::l.drop (i+1):=by rw[List.drop_eq_getElem_cons p,(kL.mp ex).2]
 refine⟨by rw[c];simp,λy j=>?_,by rw[List.map_drop];exact h.nd.sublist (List.drop_sublist _ _),q,?_⟩
 ·obtain⟨o,a⟩:=h.by_ y (List.mem_of_mem_drop j);rw[a];exact hw _ o
 ·have b:=h.path;rw[<-List.take_append_drop i l]at b;obtain⟨m,_,a⟩:=b.split
  have:m=q:=by
   rw[c]at a;rw[<-a.1];exact e
  rw[this]at a;exact a
end
end G
namespace G
open PySem L2
section
theorem cut_drop(i:Nat):cutV xs (some (i:Int)) none=xs.drop i:=by
 unfold cutV;rw[HT.sIx_nat,HT.sIx_none];by_cases h:i<=xs.length
 ·rw[Nat.min_eq_left h,List.take_of_length_le (by rw[List.length_drop];lia)]
 ·rw[Nat.min_eq_right (by lia),List.drop_of_length_le (kM _),List.take_nil,List.drop_of_length_le (by lia)]
noncomputable def IxIs(_:Hp)(v:V)(i:Nat):Prop:=v=.int (i:Int)
inductive IspAlong(a:Ad)(vs:List V)(H:Hp)(Q:VK):Prop
 |mk(d:Addr)(p0:Str)(kp:List (Key×V))(ks:List Str)(f:Str->WD)(ws:List WD)(h1:vs=[.ref d,.str p0])(h2:H d=some (.dK kp))(h3:Tab (WayIs a) H kp ks f)(h4:(∀k∈ks,(f k).st=k/\(f k).go∈ks))(h5:(∀k∈ks,f k∈ws))(h6:p0∈ks)(h7:ks.length<=100)(h8:∀l H'(ring:List WD),H l=none->Same H H'->H' l=some (.lst (ring.map λx=>V.str x.nm))->RingW ws ring->Q (.ref l) H'):IspAlong a vs H Q
noncomputable def spAlong(a:Ad):Sp:=λvs H Q _=>IspAlong a vs H Q
theorem ok_ring_along(T:TX K mg a):FnB P w K mg base CX0 "ring_along" 1 ["pointers","place"] (spAlong a):=by
 refine T.d_ring_along.okA sc_ring_along λf aj A ah s H vs Q E Z h=>?_;obtain⟨d,p0,kp,X,f,ws,rfl,hp,tp,hf,hw,ai,ln,k⟩:=h
 refine⟨_,(aD (aI (i:=2) sc_ring_along.nd cU)
  (bB (ir lj (jb (jt (bS Z) (pv 1) (pv 2))) (aD (cW (bS Z) (pv 2) (pv 1) (bH call_lenD (by rfl) T.z_len lZ (aA (pv 2) aB)) rfl)
  (aF (aI (i:=1) sc_ring_along.nd (aY (cQ (bS Z) (pv 0) (pv 1) (λ_ _=>rfl)) rfl)))))
  (aD (aI (i:=3) sc_ring_along.nd (gL j9 (dN (gQ Z.hd) (by rfl) T.z_list mi (aA (pv 2) aB)) (iG (cQ (bS Z) (pv 2) (pv 1) (λ_ _=>rfl))) iH))
  (aF (aO (fR (xs:=["one"]) (rest:=["pointers"]) rfl (bW (pv 3))
  (λG fp C' s' p=>(aQ (i:=0) (show(["one","pointers"]:List Str).Nodup by decide+kernel))) (λG fp C' s' p=>dQ)
  (λG fp C' s' p=>(kA (K:=K) rfl (cQ (bS Z) (pv 1) (pv 0) (λ_ _=>rfl)) rfl))
  (Clos.many (ys:=["pointers"]) rfl ⟨rfl,True.intro⟩ rfl (by decide+kernel)) (Reads.many (ys:=["pointers"]) (js:=[0]) ⟨⟨rfl,rfl,rfl⟩,True.intro⟩))))))),?_⟩
 walk_at"q"
 have aa:∀p,Same H p->∀q∈X,∃t,dF kp (Sum.inr q)=some (.ref t)/\WayIs a p (.ref t) (f q):=λp s' q D=>by
  obtain⟨v,ev,W⟩:=tp.vals q D;obtain⟨t,Y,vc,qx,rfl,_⟩:=id W;exact⟨t,ev,W.mono s'⟩
 intro e ne;obtain⟨H1,zq,s1,ab⟩:=uG (o:=.dK []) ne;rw[zq];refine dP (λσ' p=>yE3 λl q b=>σ'=[some (.ref d),some (.str q),some (.ref e),none]×' Same H p×' p e=some (.dK b)×' Tab IxIs p b (l.map WD.st) (λn=>(l.map WD.st).idxOf n)×' SeenW f X p0 l q×' q∈l.map WD.st) ?_ ?_
 ·refine⟨λm σ B=>yE3 λl q b=>m=X.length-l.length×' σ=[some (.ref d),some (.str q),some (.ref e),none]×' Same H B×' B e=some (.dK b)×' Tab IxIs B b (l.map WD.st) (λn=>(l.map WD.st).idxOf n)×' SeenW f X p0 l q,⟨_,[],p0,[],rfl,rfl,s1,ab,Tab.nil,⟨rfl,mB,λx hx=>absurd hx lA,ai⟩⟩,?_⟩;rintro m σ B⟨l,q,b,rfl,rfl,s2,c,tb,F⟩;refine⟨_,rfl,_,rfl,e,_,rfl,DGet.k (k:=Sum.inr q) c,_,rfl,?_⟩;by_cases D:q∈l.map WD.st
  ·obtain⟨v,ev,_⟩:=tb.vals q D;rw[ev];refine iteF ?_;exact⟨l,q,b,rfl,s2,c,tb,F,D⟩
  ·rw[tb.none D];refine iteT ?_;obtain⟨lt,ad⟩:=F.next hf D
   have sx:=(hf q F.inn).1;obtain⟨t,ep,W⟩:=aa B s2 q F.inn;generalize f q=x at ad sx W;have lk:b.length=l.length:=by rw[tb.len,kK]
   refine⟨λσ' p=>yE1 λr=>σ'=[some (.ref d),some (.str (x.go)),some (.ref e),none]×' Same H p×' p e=some (.dK r)×' Tab IxIs p r ((l++[x]).map WD.st) (λn=>((l++[x]).map WD.st).idxOf n),(by rintro σ' p⟨r,e1,e2,e3,e4⟩;exact⟨X.length-(l++[x]).length,by rw[k5,lP];omega,l++[x],_,r,rfl,e1,e2,e3,e4,ad⟩),?_⟩;refine⟨_,rfl,e,b,rfl,c,_,rfl,_,rfl,e,_,rfl,DPut.k (k:=Sum.inr q) c (aU (by lia)),?_⟩;have stay:Stays a B (upd B e (.dK (cY b (Sum.inr q) (.int b.length)))):=.put c (λ_ _ _ z=>by cases z);have s3:Same H (upd B e (.dK (cY b (Sum.inr q) (.int b.length)))):=aZ ne s2
   obtain⟨Y,vc,qx,e0,W6,_⟩:yE3 λY vc qx=>V.ref t=V.ref t×' WayAt a (upd B e (.dK (cY b (Sum.inr q) (.int b.length)))) t x.kd x.nm x.st x.go Y vc qx x.x×' True:=by
    obtain⟨p',Y,vc,qx,e0,W',_⟩:=W.keep stay
    cases e0;exact⟨Y,vc,qx,rfl,W',trivial⟩
   obtain⟨U,M,S,J,_⟩:=id W6.ob;have c1:=cR T x.kd;refine⟨_,rfl,_,rfl,d,.ref t,rfl,.inl ⟨kp,Sum.inr q,.inl (s3 _ _ hp),rfl,ep.symm⟩,t,_,U,M,_,rfl,S,c1.cl,c1.n3,J.go,?_⟩;refine⟨_,rfl,s3,aE,?_⟩;have em:(l++[x]).map WD.st=l.map WD.st++[q]:=by rw[kO,List.map_singleton,sx]
   have:=Tab.put (n:=q) (H:=upd B e (.dK (cY b (Sum.inr q) (.int b.length)))) (tb.mono λv x z=>z) (v:=.int b.length) (y:=b.length) rfl
   rw[gS D]at this;rw[em];refine this.congr λn hn=>?_;unfold upf;by_cases en:n=q
   ·rw[if_pos en,en,List.idxOf_append,if_neg D,lk,kK];simp
   ·rw[if_neg en];rcases kU.mp hn with z|z
    ·rw[List.idxOf_append,if_pos z]
    ·exact absurd (kS.mp z) en
 rintro zU af σ' B⟨l,q,b,rfl,s2,c,tb,F,D⟩;subst af;refine⟨_,rfl,e,b,rfl,.inl c,λl1 ae=>?_⟩
 have ek:(b.map λkv=>kV kv.1)=(l.map WD.st).map V.str:=by
  have:=lW (List.map kV) tb.keys
  rw[lY,lY]at this;exact this
 rw[ek];obtain⟨H3,zq,s3,h1⟩:=uG (o:=.lst ((l.map WD.st).map V.str)) ae;rw[zq];obtain⟨v,ev,iv⟩:=tb.vals q D;obtain rfl:v=.int ((l.map WD.st).idxOf q:Nat):=iv;obtain⟨i,hi⟩:∃i,(l.map WD.st).idxOf q=i:=⟨_,rfl⟩;rw[hi]at ev;have il:i<(l.map WD.st).length:=by rw[<-hi];exact List.idxOf_lt_length_iff.mpr D
 have iq:(l.map WD.st)[i]?=some q:=by rw[kR il];congr 1;subst hi;exact List.getElem_idxOf il
 have rg:=F.ring hw iq;refine⟨_,rfl,_,rfl,e,_,rfl,.inl ⟨b,Sum.inr q,.inl (s3 _ _ c),rfl,ev.symm⟩,_,rfl,l1,_,rfl,SqL.of h1,λl2 ag=>?_⟩;rw[cut_drop,<-List.map_drop,<-List.map_drop];obtain⟨H4,zq,s4,h2⟩:=uG (o:=.lst (((l.drop i).map WD.st).map V.str)) ag;rw[zq];have L:=s2.trans (s3.trans s4)
 have lr:(l.drop i).length<=100:=by
  have:=eT F.nd (ys:=X) λx hx=>by
   obtain⟨y,N,rfl⟩:=kQ.mp hx;exact(F.by_ y N).1
  rw[kK]at this;rw[List.length_drop]
  lia
 have I:∀x∈l.drop i,x.st∈X/\x=f x.st:=λx hx=>F.by_ x (List.mem_of_mem_drop hx);generalize l.drop i=ring at rg h2 lr I⊢;refine⟨_,rfl,l2,rfl,⟨_,SqL.of h2⟩,λl3 R=>?_⟩;refine e7 (K:=K) (a:=l2) (xs:=(ring.map WD.st).map V.str) (λj O=>j<=ring.length×' Same H4 O×' O l3=some (.lst ((ring.take j).map λx=>V.str x.nm))) ⟨kY _,aS R,aE⟩ ((by rintro j O⟨_,s5,_⟩;exact SqL.of (s5 _ _ h2))) ?_ ?_
 ·rintro j y O N⟨_,s5,h5⟩;rw[lY,kP]at N
  cases ez:ring[j]? with
  |none=>rw[ez]at N;cases N
  |some z=>
   rw[ez]at N
   cases N;have hj:=(kL.mp ez).1;have ac:=L.trans s5;obtain⟨zk,zf⟩:=I z (kN ez);obtain⟨t,ep,W⟩:=aa O ac z.st zk;rw[<-zf]at W;obtain⟨p',Y,vc,qx,e0,W',_⟩:=W
   cases e0;obtain⟨U,M,S,J,_⟩:=id W'.ob;have c1:=cR T z.kd;refine g1 ⟨⟨[_],rfl,rfl⟩,yes ?_⟩;refine⟨_,rfl,_,rfl,d,.ref t,rfl,.inl ⟨kp,Sum.inr z.st,.inl (ac _ _ hp),rfl,ep.symm⟩,t,_,U,M,_,rfl,S,c1.cl,c1.n1,J.nm,?_⟩;refine⟨_,h5,aU (by rw[kK,k8];lia),eU (by rw[kK,kK];exact hj) ⟨hj,aZ R s5,?_⟩⟩;rw[aE,kX,ez,lB,kO];rfl
 ·rintro O⟨_,s5,h5⟩;rw[kK,kK,kZ]at h5;exact k l3 O ring (L.free R) (L.trans s5) h5 rg
inductive IspUnfit(a:Ad)(vs:List V)(H:Hp)(Q:VK):Prop
 |mk(p d:Addr)(ps:List (Str×Rat))(ds:List WD)(kvs:List (Key×V))(ks:List Str)(f:Str->Rat)(h1:vs=[.ref p,.ref d])(h2:NetOff a H p d ps ds)(h3:(ds.map (·.nm)).Nodup)(h4:H d=some (.dK kvs))(h5:Tab (FrIs a) H kvs ks f)(h6:ks.Nodup)(h7:(∀n∈ks,n∈ds.map (·.nm)/\0<=(f n).num))(h8:∀H',Same H H'->Q .non H'):IspUnfit a vs H Q
noncomputable def spUnfit(a:Ad):Sp:=λvs H Q _=>IspUnfit a vs H Q
theorem ok_refuse_unfit(T:TX K mg a):FnB P w K mg base CX0 "refuse_unfit" 2 ["net","plan"] (spUnfit a):=by
 refine T.d_refuse_unfit.okA sc_refuse_unfit λf ab A M s H vs Q E hr h=>?_;obtain⟨p,d,ps,ds,kvs,ks,f,rfl,J,nd,B,tb,N,G,k⟩:=h
 refine⟨_,(aF (gi (bR lj rfl (gK (pv 1)) (hV (n:=2) rfl (bY (aQ (i:=2) sc_refuse_unfit.nd) (bY (aQ (i:=3) sc_refuse_unfit.nd) fM))) (aD (bZ (eY (CX:=CX0) (pv 0) hr aJ (aA (pv 2) aB)))
  (aF (bG (aP jd (eV T.fr (pv 3) (eX T) hr aJ) aC) (aF cT) aV)))))),?_⟩
 walk_at"q"
 refine⟨d,.dK kvs,B,(by intro o z e;cases e),_,rfl,d,kvs,rfl,B,λo=>?_⟩;refine gx (a:=d) (o:=o) (kvs:=kvs) (λi σ j=>yE2 λZ F=>σ=[some (.ref p),some (.ref d),Z,F]×' j d=some (.frz o (.dK kvs))×'∀b c,H b=some c->b≠d->j b=some c) ⟨_,_,rfl,aE,λb c e ne=>by rw[aG ne];exact e⟩ ((by rintro i σ j _⟨_,_,_,h,_⟩;exact h)) ?_ ?_
 ·rintro i kv t σ j I nt⟨Z,F,rfl,L,X⟩;obtain⟨n,e0,e1,ev,q,eq,fq⟩:=tb.at_ N I;obtain⟨R,S⟩:=G n (kN e0);have Y:kV kv.1=.str n:=by rw[e1];rfl
  rw[Y,eq];have U:=aS (o:=.tup [.str n,.ref q]) nt;have ht:upd j t (.tup [.str n,.ref q]) t=some (.tup [.str n,.ref q]):=aE;have D:∀b c,H b=some c->b≠d->upd j t (.tup [.str n,.ref q]) b=some c:=λb c e ne=>U _ _ (X b c e ne);have r:=U _ _ L;generalize upd j t (.tup [.str n,.ref q])=H3 at U ht D r⊢;have y:=J.but D;have l:=y.at_;obtain⟨dx,dw,dy,hp,_,_⟩:=id l;have O:=jk dw dy (m:="way") (by decide+kernel) (by decide+kernel);obtain⟨x,hx,ex⟩:=kQ.mp R;refine⟨t,[.str n,.ref q],rfl,SqT.of ht,rfl,.str n,[.ref q],rfl,⟨.ref q,[],rfl,⟨rfl,?_⟩⟩⟩;refine⟨_,rfl,p,a.Net,dx,_,1,["self","name"],gB a,rfl,hp,O,T.cl_Net,by decide,fH T,_,rfl,p,ps,ds,x,by rw[ex];rfl,l,nd,hx,λv _=>?_⟩;have aa:FrAt a.Fraction H3 q (f n):=let⟨dq,g⟩:=fq;⟨dq,D _ _ g (λz=>by rw[z,B]at g;cases g)⟩
  walk_at"rd"
  refine gV (lz (sgn_nn S)) ?_;exact⟨_,_,rfl,r,D⟩
 ·rintro σ j⟨Z,F,rfl,L,X⟩;refine⟨o,L,k _ λb c e=>?_⟩;by_cases hb:b=d
  ·subst hb;rw[aE,<-B,e]
  ·rw[aG hb];exact X _ _ e hb
inductive IspLeast(K:W.Frag)(a:Ad)(vs:List V)(H:Hp)(Q:VK):Prop
 |mk(l:Addr)(ts:List V)(xs:List Rat)(h1:vs=[.ref l])(h2:SqL K H l ts)(h3:RowAt (FrIs a) H ts xs)(h4:xs≠[])(h5:(∀x∈xs,SmR x))(h6:∀q m,FrAt a.Fraction H q m->m∈xs->(∀x∈xs,m<=x)->Q (.ref q) H):IspLeast K a vs H Q
noncomputable def spLeast(K:W.Frag)(a:Ad):Sp:=λvs H Q _=>IspLeast K a vs H Q
theorem ok_least(T:TX K mg a):FnB P w K mg base CX0 "least" 5 ["numbers"] (spLeast K a):=by
 refine T.d_least.okA sc_least λf aa A G s H vs Q E Z h=>?_;obtain⟨l,ts,xs,rfl,I,b,ne,N,k⟩:=h
 refine⟨_,(aD (aI (i:=1) sc_least.nd (aL aX (pv 0) aC))
  (aD (bR lj rfl (bW (pv 0)) (aQ (i:=2) sc_least.nd) (aF (bG (eo (cM T.fr (pv 2) (ok_under T) Z aJ (aA (pv 1) aB))) (aF (aI (i:=1) sc_least.nd (pv 2))) aV)))
  (aF (aO (pv 1))))),?_⟩
 walk_at"q"
 obtain⟨X,L⟩:∃x,xs[0]?=some x:=by cases xs with|nil=>exact absurd rfl ne|cons x r=>exact⟨x,rfl⟩
 obtain⟨t0,S,Y,rfl,R⟩:=b.get' L;refine⟨_,rfl,l,_,_,_,rfl,rfl,I,atI_nat (j:=0) S,?_⟩;refine⟨_,rfl,l,rfl,⟨_,I⟩,cF (K:=K) (a:=l) (xs:=ts) (λi σ p=>p=H/\yE3 λq m J=>σ=[some (.ref l),some (.ref q),J]×' FrAt a.Fraction H q m×' m∈xs×'∀x∈xs.take i,m<=x) ⟨rfl,Y,X,_,rfl,R,kN L,λx M=>by rw[List.take_zero]at M;cases M⟩ ((by rintro i σ p _⟨e,_⟩;exact by rw[e];exact I)) ?_ ?_⟩
 ·rintro i t σ p ht⟨rfl,q,m,J,rfl,o,B,all⟩;obtain⟨x,ex,D,rfl,F⟩:=b.get ht;have s1:=N m B;have U:=N x (kN ex);have O:xs.take (i+1)=xs.take i++[x]:=by rw[kX,ex];rfl
  refine⟨_,rfl,D,x,rfl,F,_,rfl,D,q,x,m,rfl,F,o,U,s1,_,rfl,?_⟩;refine ifB (λh=>?_) (λh=>?_)
  ·refine⟨_,rfl,rfl,D,x,_,rfl,F,kN ex,λy c=>?_⟩;rw[O]at c;rcases kU.mp c with z|z
   ·have:=all y z
    grind
   ·rw[kS.mp z];exact nP
  ·refine⟨rfl,q,m,_,rfl,o,B,λy c=>?_⟩;rw[O]at c;rcases kU.mp c with z|z
   ·exact all y z
   ·rw[kS.mp z];grind
 ·rintro σ p⟨rfl,q,m,J,rfl,o,B,all⟩;rw[b.1,kZ]at all;exact⟨_,rfl,k q m o B all⟩
noncomputable def fOn(ws:List WD)(p:Str):WD:=(onw ws p).getD ⟨p,p,p,.way,0⟩
theorem fOn_at(h:p∈ws.map (·.st)):onw ws p=some (fOn ws p):=by
 obtain⟨x,e⟩:=onw_in h;unfold fOn;rw[e];rfl
inductive IspByStart(K:W.Frag)(a:Ad)(vs:List V)(H:Hp)(Q:VK):Prop
 |mk(l:Addr)(ts:List V)(ws:List WD)(h1:vs=[.ref l])(h2:SqL K H l ts)(h3:RowAt (WayIs a) H ts ws)(h4:ws.length<=100)(h5:∀d H' kvs,H d=none->Same H H'->H' d=some (.dK kvs)->Tab (WayIs a) H' kvs (cB (ws.map (·.st))) (fOn ws)->Q (.ref d) H'):IspByStart K a vs H Q
noncomputable def spByStart(K:W.Frag)(a:Ad):Sp:=λvs H Q _=>IspByStart K a vs H Q
theorem jg(T:TX K mg a):FnB P w K mg base CX0 "by_start" 1 ["ways"] (spByStart K a):=by
 refine T.d_by_start.okA sc_by_start λf aa A J s H vs Q E hr h=>?_;obtain⟨l,ts,p,rfl,R,r,lw,k⟩:=h
 refine⟨_,(aD (aI (i:=1) sc_by_start.nd cU)
  (aD (bR lj rfl (bW (pv 0)) (aQ (i:=2) sc_by_start.nd) (aF (cW (bS hr) (pv 1) (aY (pv 2) rfl) (pv 2) rfl)))
  (aF (aO (pv 1))))),?_⟩
 walk_at"q"
 intro d D;have S:=aS (o:=.dK []) D;refine⟨_,rfl,l,rfl,⟨_,S.seq R⟩,cF (K:=K) (a:=l) (xs:=ts) (λi σ c=>i<=p.length/\yE2 λN b=>σ=[some (.ref l),some (.ref d),N]×' Same H c×' c d=some (.dK b)×' Tab (WayIs a) c b (cB ((p.take i).map (·.st))) (fOn (p.take i))) ⟨kY _,_,[],rfl,S,aE,Tab.nil⟩ ((by rintro i σ c _⟨_,_,_,_,j,_⟩;exact j.seq R)) ?_ ?_⟩
 ·rintro i t σ c ht⟨_,N,b,rfl,j,B,tb⟩;obtain⟨x,ex,U⟩:=r.get ht;have X:=(kL.mp ex).1;obtain⟨L,Z,vc,q,rfl,W,hk⟩:=U.mono j;obtain⟨M,I,G,F,_⟩:=id W.ob;have O:=cR T x.kd
  have lk:b.length<=900:=by
   rw[tb.len]
   have:=fJ ((p.take i).map (·.st))
   rw[kK,k8]at this
   lia
  refine⟨_,rfl,_,rfl,_,rfl,L,_,M,I,_,rfl,G,O.cl,O.n2,F.st,d,_,rfl,DPut.k (k:=Sum.inr x.st) B (aU (by lia)),?_⟩;have tk:p.take (i+1)=p.take i++[x]:=by rw[kX,ex];rfl
  have Y:WayIs a c (.ref L) x:=⟨L,Z,vc,q,rfl,W,hk⟩;refine⟨X,_,_,rfl,aZ D j,aE,?_⟩;rw[tk,kO,List.map_singleton,jj];refine(Tab.put (tb.mono λv y z=>z.put B) (Y.put B)).congr λm _=>?_;unfold upf fOn;rw[onw_snoc];by_cases e:m=x.st
  ·rw[if_pos e,if_pos e.symm];rfl
  ·rw[if_neg e,if_neg λz=>e z.symm]
 ·rintro σ c⟨_,N,b,rfl,j,B,tb⟩;rw[r.1,kZ]at tb;exact⟨_,rfl,k d c b D j B tb⟩
end
end G
namespace G
open PySem L2
section
noncomputable def byN(ds:List WD)(n:Str):WD:=(ds.find? λx=>decide (x.nm=n)).getD ⟨n,n,n,.way,0⟩
theorem byN_in(h:n∈ds.map (·.nm)):byN ds n∈ds/\(byN ds n).nm=n:=by
 unfold byN
 cases e:ds.find? λx=>decide (x.nm=n) with
 |some x=>exact⟨List.mem_of_find?_eq_some e,of_decide_eq_true (List.find?_some (p:=λx:WD=>decide (x.nm=n)) e)⟩
 |none=>
  obtain⟨x,a,rfl⟩:=kQ.mp h;exact absurd (lD rfl) (List.find?_eq_none.mp e x a)
noncomputable def fE(ds:List WD)(ks:List Str):List WD:=ks.map (byN ds)
inductive IspRingIn(a:Ad)(vs:List V)(H:Hp)(Q:VK):Prop
 |mk(p d:Addr)(ps:List (Str×Rat))(ds:List WD)(kvs:List (Key×V))(ks:List Str)(f:Str->Rat)(h1:vs=[.ref p,.ref d])(h2:NetOff a H p d ps ds)(h3:(ds.map (·.nm)).Nodup)(h4:H d=some (.dK kvs))(h5:Tab (FrIs a) H kvs ks f)(h6:ks.Nodup)(h7:(∀n∈ks,n∈ds.map (·.nm)))(h8:ks.length<=24)(h9:(∀l H'(ring:List WD),H l=none->Same H H'->H' l=some (.lst (ring.map λx=>V.str x.nm))->RingW (fE ds ks) ring->Q (.ref l) H'))(h10:(∀l H',H l=none->Same H H'->H' l=some (.lst [])->Acyc (fE ds ks)->Q (.ref l) H')):IspRingIn a vs H Q
noncomputable def spRingIn(a:Ad):Sp:=λvs H Q _=>IspRingIn a vs H Q
theorem ok_ring_in(T:TX K mg a):FnB P w K mg base CX0 "ring_in" 3 ["net","plan"] (spRingIn a):=by
 refine T.d_ring_in.okA sc_ring_in λf b1 A bm s H B Q E hr h=>?_;obtain⟨p,d,ps,ds,kvs,ks,f,rfl,bp,nd,hd,tb,bf,M,bz,k,k0⟩:=h
 refine⟨_,(bB (gi (eP (i:=2) (xs:=["name"]) (rest:=["net"]) sc_ring_in.nd rfl rfl rfl (jr (pv 1))
  (λF fp C' s' c=>(aQ (i:=0) (show(["name","net"]:List Str).Nodup by decide+kernel))) (λF fp C' s' c=>dQ)
  (λF fp C' s' c=>(pe_mtDK (CX:=CX0) (P:=P) (w:=w) (K:=K) (mg:=mg) (base:=base) rfl rfl rfl rfl rfl (pv 1) hr aJ (aA (pv 0) aB)))
  (Clos.many (ys:=["net"]) rfl ⟨rfl,True.intro⟩ rfl (by decide+kernel)) (Reads.many (ys:=["net"]) (js:=[0]) ⟨⟨rfl,rfl,rfl⟩,True.intro⟩)))
  (aD (aI (i:=3) sc_ring_in.nd (aR (jg T) hr aJ (aA (pv 2) aB)))
  (bB (eP (i:=4) (xs:=["way"]) (rest:=["onward"]) sc_ring_in.nd rfl rfl rfl (bW (pv 2))
  (λF fp C' s' c=>(aQ (i:=0) (show(["way","onward"]:List Str).Nodup by decide+kernel))) (λF fp C' s' c=>(pts_one (jb (pc_din (bS hr) (kA (K:=K) rfl (pv 0) rfl) (pv 1)))))
  (λF fp C' s' c=>(pv 0))
  (Clos.many (ys:=["onward"]) rfl ⟨rfl,True.intro⟩ rfl (by decide+kernel)) (Reads.many (ys:=["onward"]) (js:=[3]) ⟨⟨rfl,rfl,rfl⟩,True.intro⟩))
  (bB (ir lj (aP jd (bH bX (by rfl) T.z_len lZ (aA (pv 4) aB)) (bH bX (by rfl) T.z_len lZ (aA (pv 2) aB))) (aD (aI (i:=2) sc_ring_in.nd (pv 4))
  (aD (aI (i:=3) sc_ring_in.nd (aR (jg T) hr aJ (aA (pv 2) aB)))
  (aF (eP (i:=4) (xs:=["way"]) (rest:=["onward"]) sc_ring_in.nd rfl rfl rfl (bW (pv 2))
  (λF fp C' s' c=>(aQ (i:=0) (show(["way","onward"]:List Str).Nodup by decide+kernel))) (λF fp C' s' c=>(pts_one (jb (pc_din (bS hr) (kA (K:=K) rfl (pv 0) rfl) (pv 1)))))
  (λF fp C' s' c=>(pv 0))
  (Clos.many (ys:=["onward"]) rfl ⟨rfl,True.intro⟩ rfl (by decide+kernel)) (Reads.many (ys:=["onward"]) (js:=[3]) ⟨⟨rfl,rfl,rfl⟩,True.intro⟩))))))
  (aD (bG (aP (jT hr.units0) (pv 2) (bK aB)) (aF (aO (bK aB))) aV)
  (aF (aO (aR (ok_ring_along T) hr aJ (aA (pv 3) (aA (aY (aL aX (pv 2) aC) rfl) aB)))))))))),?_⟩
 walk_at"q"
 refine dP (λσ' c=>yE2 λS U=>σ'=[some (.ref p),some (.ref d),some (.ref S),none,none]×' Same H c×' c S=some (.lst U)×' RowAt (WayIs a) c U (fE ds ks)) ?_ ?_
 ·refine⟨d,.dK kvs,hd,(by intro o z e;cases e),_,rfl,d,kvs,rfl,hd,λo l nl=>?_⟩;have au:d≠l:=λz=>by rw[z,aE]at nl;cases nl
  have bc:H l=none:=by rw[aG au.symm]at nl;exact nl
  refine j3 (a:=d) (o:=o) (kvs:=kvs) (λi H2=>i<=ks.length×' H2 d=some (.frz o (.dK kvs))×'(∀b ob,H b=some ob->b≠d->H2 b=some ob)×'∃ts,H2 l=some (.lst ts)/\RowAt (WayIs a) H2 ts (fE ds (ks.take i)))
   ⟨kY _,by rw[aG au,aE],(λb ob e ne=>by rw[aG (aN e bc),aG ne];exact e),[],aE,RowAt.nil⟩ ((by rintro i H2⟨_,h,_⟩;exact h)) ?_ ?_
  ·rintro i R H2 bl⟨_,hf,k2,ts,aj,hv⟩;obtain⟨n,en,e1,ev,_⟩:=tb.at_ bf bl;have hi:i<ks.length:=(kL.mp en).1;have bo:kV R.1=.str n:=by rw[e1];rfl
   rw[bo];have a6:=(bp.but k2).at_;obtain⟨dx,dw,dy,hp,_,_⟩:=id a6;have bt:=jk dw dy (m:="way") (by decide+kernel) (by decide+kernel);obtain⟨bx,bv⟩:=byN_in (M n (kN en));refine g1 ⟨⟨[_],rfl,rfl⟩,yes ?_⟩;refine⟨_,rfl,p,a.Net,dx,_,1,["self","name"],gB a,rfl,hp,bt,T.cl_Net,by decide,fH T,_,rfl,p,ps,ds,byN ds n,by rw[bv];rfl,a6,nd,bx,λv hx=>?_⟩;have b3:ts.length=i:=by rw[hv.1];unfold fE;rw[kK,k8];lia
   refine⟨_,aj,aU (by lia),eU (by rw[tb.len];exact hi) ⟨hi,by rw[aG au];exact hf,(λb ob e ne=>by rw[aG (aN e bc)];exact k2 _ _ e ne),_,aE,?_⟩⟩;unfold fE;rw[kX,en,lB,kO];exact RowAt.snoc (hv.mono λv x z=>z.lst aj) (hx.lst aj)
  ·rintro H2⟨_,hf,k2,ts,aj,hv⟩;rw[tb.len,kZ]at hv;refine⟨o,hf,l,ts,rfl,λb ob e=>?_,by rw[aG au.symm];exact aj,hv.mono λv x z=>z.keep λb C b0 b2 _ e=>?_⟩
   ·by_cases hb:b=d
    ·subst hb;rw[aE,<-hd,e]
    ·rw[aG hb];exact k2 _ _ e hb
   ·rw[aG λz=>by rw[z,hf]at e;cases e];exact e
 rintro zU ap σ' H1⟨S,U,rfl,s1,bb,a3⟩;have br:(fE ds ks).length=ks.length:=by unfold fE;rw[kK]
 subst ap;generalize a8:jP _ _=k9
 revert k9
 refine iw λk9 a8=>?_;generalize as:fE ds ks=ws at a3 br k k0;refine⟨_,rfl,S,U,ws,rfl,SqL.of bb,a3,(by lia),λon Hb R bg sb Y O=>?_⟩;have az:=s1.trans sb;have I:=sb _ _ bb;have L:=a3.mono λv x z=>z.mono sb;subst a8;refine dP (λσ' c=>yE7 λS U on R N y D=>σ'=[some (.ref p),some (.ref d),some (.ref S),some (.ref on),some (.ref N)]×' Same H c×' c S=some (.lst U)×' RowAt (WayIs a) c U D×' c on=some (.dK R)×' Tab (WayIs a) c R (cB (D.map (·.st))) (fOn D)×' c N=some (.lst y)×' RowAt (WayIs a) c y (dE D)×'(∀x∈D,x∈fE ds ks)×' D.length<=24×'(Acyc D->Acyc (fE ds ks))) ?_ ?_
 ·refine⟨_,rfl,S,rfl,⟨_,SqL.of I⟩,λN ag=>?_⟩;refine e7 (K:=K) (a:=S) (xs:=U) (λj Hc=>j<=ws.length×' Same Hb Hc×'∃y,Hc N=some (.lst y)/\RowAt (WayIs a) Hc y ((ws.take j).filter λx=>decide (x.go∈ws.map (·.st)))) ⟨kY _,aS ag,[],aE,RowAt.nil⟩ ((by rintro j Hc⟨_,G,_⟩;exact SqL.of (G _ _ I))) ?_ ?_
  ·rintro j v Hc hv⟨_,G,y,hk,r⟩;obtain⟨x,ex,hx⟩:=L.get hv;have hj:=(kL.mp ex).1;have ao:=hx.mono G;obtain⟨p1,vh,vc,qx,rfl,W,a7⟩:=id ao;obtain⟨ak,af,ah,al,_⟩:=id W.ob;have c1:=cR T x.kd
   have bw:y.length<=100:=by
    rw[r.1];exact kW (mx _ _) (by rw[k8];lia)
   have aq:(ws.take (j+1)).filter (λx=>decide (x.go∈ws.map (·.st)))=(ws.take j).filter (λx=>decide (x.go∈ws.map (·.st)))++[x].filter (λx=>decide (x.go∈ws.map (·.st))):=by rw[kX,ex,lB,nL]
   refine g1 ⟨⟨[_],rfl,rfl⟩,?_⟩;refine⟨_,rfl,p1,_,ak,af,_,rfl,ah,c1.cl,c1.n3,al.go,_,rfl,on,_,rfl,DGet.k (k:=Sum.inr x.go) (G _ _ Y),_,rfl,?_⟩;by_cases M:x.go∈ws.map (·.st)
   ·obtain⟨v',a1,_⟩:=O.vals x.go (mem_keysOf.mpr M);rw[a1];refine iteT ⟨_,rfl,_,hk,aU (by lia),eU (by rw[L.1];exact hj) ⟨hj,aZ ag G,_,aE,?_⟩⟩;rw[aq,mZ (by exact lD M)];exact RowAt.snoc (r.mono λv x z=>z.lst hk) (ao.lst hk)
   ·rw[O.none λz=>M (mem_keysOf.mp z)];refine iteF (eU (by rw[L.1];exact hj) ⟨hj,G,y,hk,?_⟩);rw[aq,m5 (by simpa using M),List.filter_nil,mz];exact r
  ·rintro Hc⟨_,G,y,hk,r⟩;rw[L.1,kZ]at r;exact⟨S,U,on,R,N,y,ws,rfl,az.trans G,G _ _ I,L.mono λv x z=>z.mono G,G _ _ Y,O.mono λv x z=>z.mono G,hk,r,λx hx=>by rw[as];exact hx,by lia,λh=>by rw[as];exact h⟩
 rintro zU ap σ' H2⟨bq,bj,on,R,N,y,D,rfl,s2,av,aw,Y,O,a5,r,sub,a9,back⟩;subst ap;refine dP (λσ' c=>yE7 λS U on R N y D=>σ'=[some (.ref p),some (.ref d),some (.ref S),some (.ref on),some (.ref N)]×' Same H c×' c S=some (.lst U)×' RowAt (WayIs a) c U D×' c on=some (.dK R)×' Tab (WayIs a) c R (cB (D.map (·.st))) (fOn D)×' c N=some (.lst y)×' RowAt (WayIs a) c y (dE D)×'(∀x∈D,x∈fE ds ks)×' D.length<=24×'(Acyc D->Acyc (fE ds ks))×'∀x∈D,x.go∈D.map (·.st)) ?_ ?_
 ·refine⟨λm σ H3=>yE7 λS U on R N y D=>m=D.length×' σ=[some (.ref p),some (.ref d),some (.ref S),some (.ref on),some (.ref N)]×' Same H H3×' H3 S=some (.lst U)×' RowAt (WayIs a) H3 U D×' H3 on=some (.dK R)×' Tab (WayIs a) H3 R (cB (D.map (·.st))) (fOn D)×' H3 N=some (.lst y)×' RowAt (WayIs a) H3 y (dE D)×'(∀x∈D,x∈fE ds ks)×' D.length<=24×'(Acyc D->Acyc (fE ds ks)),⟨_,bq,bj,on,R,N,y,D,rfl,rfl,s2,av,aw,Y,O,a5,r,sub,a9,back⟩,?_⟩;clear av aw Y O a5 r sub a9 back s2;rintro m σ H3⟨ai,a2,a0,a4,ab,am,B,rfl,rfl,s3,ad,X,ae,an,Z,aa,ac,ay,J⟩;refine⟨_,rfl,ab,_,rfl,.inl (SqL.of Z),_,rfl,ai,_,rfl,.inl (SqL.of ad),_,_,rfl,rfl,_,rfl,?_⟩;have e1:=aa.1;have e2:=X.1;by_cases lt:(dE B).length<B.length
  case neg=>exact gV (lz (by lia)) ⟨ai,a2,a0,a4,ab,am,B,rfl,s3,ad,X,ae,an,Z,aa,ac,ay,J,kept_all lt⟩
  refine kG (lD (by lia)) ⟨λσ' c=>yE6 λS U on R N y=>σ'=[some (.ref p),some (.ref d),some (.ref S),some (.ref on),some (.ref N)]×' Same H c×' c S=some (.lst U)×' RowAt (WayIs a) c U (dE B)×' c on=some (.dK R)×' Tab (WayIs a) c R (cB ((dE B).map (·.st))) (fOn (dE B))×' c N=some (.lst y)×' RowAt (WayIs a) c y (dE (dE B)),(by rintro σ' c⟨S,U,on,R,N,y,e,s',h1,h2,h3,h4,h5,h6⟩;exact⟨(dE B).length,lt,S,U,on,R,N,y,dE B,rfl,e,s',h1,h2,h3,h4,h5,h6,λx hx=>ac x (mem_kept.mp hx).1,by omega,λh=>J h.back⟩),?_⟩;refine⟨_,rfl,?_⟩;have be:(dE B).length<=100:=by lia
  refine⟨_,rfl,ab,am,(dE B),rfl,SqL.of Z,aa,be,λon Hb R bg sb Y O=>?_⟩;have az:=s3.trans sb;have I:=sb _ _ Z;have L:=aa.mono λv x z=>z.mono sb;refine⟨_,rfl,ab,rfl,⟨_,SqL.of I⟩,λN ag=>?_⟩;refine e7 (K:=K) (a:=ab) (xs:=am) (λj Hc=>j<=(dE B).length×' Same Hb Hc×'∃y,Hc N=some (.lst y)/\RowAt (WayIs a) Hc y (((dE B).take j).filter λx=>decide (x.go∈(dE B).map (·.st)))) ⟨kY _,aS ag,[],aE,RowAt.nil⟩ ((by rintro j Hc⟨_,G,_⟩;exact SqL.of (G _ _ I))) ?_ ?_
  ·rintro j v Hc hv⟨_,G,y,hk,r⟩;obtain⟨x,ex,hx⟩:=L.get hv;have hj:=(kL.mp ex).1;have ao:=hx.mono G;obtain⟨p1,vh,vc,qx,rfl,W,a7⟩:=id ao;obtain⟨ak,af,ah,al,_⟩:=id W.ob;have c1:=cR T x.kd
   have bw:y.length<=100:=by
    rw[r.1];exact kW (mx _ _) (by rw[k8];lia)
   have aq:((dE B).take (j+1)).filter (λx=>decide (x.go∈(dE B).map (·.st)))=((dE B).take j).filter (λx=>decide (x.go∈(dE B).map (·.st)))++[x].filter (λx=>decide (x.go∈(dE B).map (·.st))):=by rw[kX,ex,lB,nL]
   refine g1 ⟨⟨[_],rfl,rfl⟩,?_⟩;refine⟨_,rfl,p1,_,ak,af,_,rfl,ah,c1.cl,c1.n3,al.go,_,rfl,on,_,rfl,DGet.k (k:=Sum.inr x.go) (G _ _ Y),_,rfl,?_⟩;by_cases M:x.go∈(dE B).map (·.st)
   ·obtain⟨v',a1,_⟩:=O.vals x.go (mem_keysOf.mpr M);rw[a1];refine iteT ⟨_,rfl,_,hk,aU (by lia),eU (by rw[L.1];exact hj) ⟨hj,aZ ag G,_,aE,?_⟩⟩;rw[aq,mZ (by exact lD M)];exact RowAt.snoc (r.mono λv x z=>z.lst hk) (ao.lst hk)
   ·rw[O.none λz=>M (mem_keysOf.mp z)];refine iteF (eU (by rw[L.1];exact hj) ⟨hj,G,y,hk,?_⟩);rw[aq,m5 (by simpa using M),List.filter_nil,mz];exact r
  ·rintro Hc⟨_,G,y,hk,r⟩;rw[L.1,kZ]at r;exact⟨ab,am,on,R,N,y,rfl,az.trans G,G _ _ I,L.mono λv x z=>z.mono G,G _ _ Y,O.mono λv x z=>z.mono G,hk,r⟩
 rintro zU ap σ' H3⟨ai,a2,a0,a4,ab,am,B,rfl,s3,ad,X,ae,an,Z,aa,ac,ay,J,all⟩;subst ap;refine⟨_,rfl,by decide,λe0 ne0=>?_⟩;obtain⟨H4,zq,s4,he⟩:=uG (o:=.lst []) ne0;rw[zq];have ar:=s3.trans s4;have ax:=s4 _ _ ad;refine⟨ai,e0,_,rfl,rfl,SqL.of ax,SqL.of he,_,rfl,?_⟩
 cases a2 with
 |nil=>
  refine iteT ⟨by decide,λl nl=>k0 l _ (ar.free nl) (ar.trans (aS nl)) aE ?_⟩
  have:B=[]:=List.length_eq_zero_iff.mp X.1.symm
  rw[this,as]at J;exact J Acyc.nil
 |cons t0 tr=>
  obtain⟨x0,bh,bn⟩:=(X.mono λv x z=>z.mono s4).get (i:=0) (t:=t0) rfl;obtain⟨p1,vh,vc,qx,rfl,W,a7⟩:=id bn;obtain⟨ak,af,ah,al,_⟩:=id W.ob;have c1:=cR T x0.kd;refine iteF ⟨_,rfl,_,rfl,ai,_,_,_,rfl,rfl,SqL.of ax,atI_nat (j:=0) rfl,p1,_,ak,af,_,rfl,ah,c1.cl,c1.n2,al.st,?_⟩;have ba:∀{q:Str},q∈cB (B.map (·.st))->onw B q=some (fOn B q):=λhq=>fOn_at (mem_keysOf.mp hq);refine⟨a0,x0.st,a4,cB (B.map (·.st)),fOn B,ws,rfl,s4 _ _ ae,an.mono λv x z=>z.mono s4,λq hq=>?_,λq hq=>?_,mem_keysOf.mpr (kQ.mpr ⟨x0,kN bh,rfl⟩),?_,λl H5 ring nl s5 bu rg=>k l H5 ring (ar.free nl) (ar.trans s5) bu rg⟩
  ·obtain⟨h1,h2⟩:=onw_some (ba hq);exact⟨h2,mem_keysOf.mpr (all _ h1)⟩
  ·have:=ac _ (onw_some (ba hq)).1
   rw[as]at this;exact this
  ·have:=fJ (B.map (·.st))
   rw[kK]at this
   lia
end
end G
namespace G
open PySem L2
section
structure WkS(n:Nat)(ds:List WD):Prop where
 b:∀d∈ds,SmR d.x/\Bd n (aW d.kd d.x)
 l:ds.length*n<=800
 n:n<=800
 len:ds.length<=6
 nd:(ds.map (·.nm)).Nodup
theorem WkS.g{n:Nat}(h:WkS n ds):Bd 800 (aM ds):=by
 have:=kH ds (λd a=>(h.b d a).2) ds.length (kM _)
 rw[kZ]at this;exact this.mono h.l
theorem Bd.s9(h:Bd n x)(hn:n<16000000:=by decide):SmR x:=h.smr hn
noncomputable def sA(x:Rat)(ds:List WD)(n:Str):Rat:=(occ (dL x ds) n).sum
theorem fh(x:Rat)(ds:List WD):going x ds=x*aM ds:=by
 unfold going aM;generalize a:(1:Rat)=y
 have h:∀(ds:List WD)(x y z:Rat),x=z*y->ds.foldl (λy d=>y*aW d.kd d.x) x=z*ds.foldl (λy d=>y*aW d.kd d.x) y:=by
  intro ds
  induction ds with
  |nil=>intro x y z e;exact e
  |cons d r ih=>
   intro x y z e;rw[nI,nI];exact ih _ _ z (by rw[e,nM])
 exact h ds x y x (by rw[<-a,Rat.mul_one])
theorem WkS.going{n m:Nat}{ds:List WD}(S:WkS n ds){x:Rat}(hx:Bd m x){i:Nat}(hi:i<=ds.length):Bd (m+800) (going x (ds.take i)):=by
 rw[fh]
 have:=kH ds (λd a=>(S.b d a).2) i hi
 have c:i*n<=800:=kW (nD _ hi) S.l;exact hx.mul (this.mono c)
theorem WkS.occ{n m:Nat}{ds:List WD}(S:WkS n ds){x:Rat}(hx:Bd m x)(nm:Str):∀i,i<=ds.length->(nm∉(ds.take i).map (·.nm)->occ (dL x (ds.take i)) nm=[])/\(occ (dL x (ds.take i)) nm=[]∨∃y,occ (dL x (ds.take i)) nm=[y]/\Bd (m+800) y)
 |0,_=>⟨λ_=>rfl,.inl rfl⟩
 |i+1,h=>by
  obtain⟨c,p⟩:=WkS.occ S hx nm i (by omega);have o:=kR (l:=ds) (i:=i) (by omega);generalize r:ds[i]'_=d at o;have j:ds.take (i+1)=ds.take i++[d]:=by rw[kX,o,lB]
  rw[j,jQ,occ_snoc,kO];by_cases e:d.nm=nm
  ·rw[if_pos e]
   have a:nm∉(ds.take i).map (·.nm):=λz=>by
    have b:=S.nd;rw[<-List.take_append_drop (i+1) ds,j,List.append_assoc,kO,kO]at b;exact(lV.mp b).2.2 nm z nm (by rw[<-e];simp) rfl
   rw[c a];exact⟨λz=>absurd (lH _ (by simp[e])) z,.inr ⟨_,rfl,S.going hx (by omega)⟩⟩
  ·rw[if_neg e];exact⟨λz=>c λq=>z (lf _ q),p⟩
theorem WkS.all{n m:Nat}(S:WkS n ds)(hx:Bd m x)(nm:Str):(nm∉ds.map (·.nm)->G.occ (dL x ds) nm=[])/\(G.occ (dL x ds) nm=[]∨∃y,G.occ (dL x ds) nm=[y]/\Bd (m+800) y):=by
 have:=S.occ hx nm ds.length (kM _)
 rw[kZ]at this;exact this
theorem WkS.sA{n m:Nat}{ds:List WD}(S:WkS n ds){x:Rat}(hx:Bd m x)(nm:Str):Bd (m+800) (sA x ds nm):=by
 unfold G.sA;rcases(S.all hx nm).2 with e|⟨y,e,h⟩
 ·rw[e];exact Bd.zero.mono (by omega)
 ·rw[e,List.sum_cons,List.sum_nil,m9];exact h
noncomputable def PlanA(a:Ad)(H:Hp)(r:Addr)(A:Str->Rat)(m:Nat):Prop:=∃kvs ks,H r=some (.dK kvs)/\Tab (FrIs a) H kvs ks A/\ks.Nodup/\ks.length<=m/\∀n,n∈ks↔A n≠0
theorem PlanA.mono(h:PlanA a H r A m)(s:Same H H'):PlanA a H' r A m:=by
 obtain⟨kvs,ks,h1,h2,h3⟩:=h;exact⟨kvs,ks,s _ _ h1,h2.mono λ_ _ z=>z.mono s,h3⟩
theorem Tab.congr'(h:Tab (FrIs a) H kvs ks f)(e:∀n∈ks,f n=g n):Tab (FrIs a) H kvs ks g:=⟨h.keys,λn b=>by obtain⟨v,c,i⟩:=h.vals n b;exact⟨v,c,by rw[<-e n b];exact i⟩⟩
theorem j8(f:Str->Rat)(ks:List Str):(f0 f ks).length<=ks.length:=mx _ _
theorem mem_some0:n∈f0 f ks↔n∈ks/\f n≠0:=by unfold f0;rw[nH,decide_eq_true_eq]
theorem j7(h:ks.Nodup):(f0 f ks).Nodup:=List.Pairwise.filter _ h
inductive IspSentA(K:W.Frag)(a:Ad)(vs:List V)(H:Hp)(Q:VK):Prop
 |mk(p l q:Addr)(ps:List (Str×Rat))(ns ds:List WD)(x:Rat)(n m:Nat)(h1:vs=[.ref p,.ref l,.ref q])(h2:OnNet K a H p l ps ns ds)(h3:FrAt a.Fraction H q x)(h4:WkS n ds)(h5:Bd m x)(h6:m<=300000)(h7:∀r H',H r=none->Same H H'->PlanA a H' r (sA x ds) 6->Q (.ref r) H'):IspSentA K a vs H Q
noncomputable def spSentA(K:W.Frag)(a:Ad):Sp:=λvs H Q _=>IspSentA K a vs H Q
theorem sentA(T:TX K mg a):FnB P w K mg base CX0 "sent" 9 ["net","walk","amount"] (spSentA K a):=by
 refine(ok_sent T).imp λM H Q E h=>?_;obtain⟨p,l,q,ps,ns,c,x,n,m,rfl,O,B,S,o,L,k⟩:=h;refine⟨p,l,q,ps,ns,c,x,rfl,O,B,λd A=>⟨(S.b d A).1,(S.b d A).2.smr (by have:=S.n;lia)⟩,λi D=>(S.going o D).smr (by lia),λj=>?_,λr F s I G t tb=>k r F I G ⟨s,_,t,tb,j7 (gm _),?_,λj=>?_⟩⟩
 ·rcases(S.all o j).2 with e|⟨y,e,h⟩
  ·rw[e];exact⟨0,.nil,by decide⟩
  ·rw[e];exact⟨0+(m+800+1),.snoc .nil h,by lia⟩
 ·have t:=j8 (λn=>(occ (dL x c) n).sum) (cB (c.map (·.nm)));have J:=fJ (c.map (·.nm));rw[kK]at J
  have:=S.len
  lia
 ·rw[mem_some0];constructor
  ·exactλz=>z.2
  ·intro z;refine⟨mem_keysOf.mpr (lN λq=>z ?_),z⟩;show(occ (dL x c) j).sum=0;rw[(S.all o j).1 q];rfl
inductive IspTogA(a:Ad)(vs:List V)(H:Hp)(Q:VK):Prop
 |mk(d e:Addr)(A B:Str->Rat)(m n b:Nat)(h1:vs=[.ref d,.ref e])(h2:PlanA a H d A m)(h3:PlanA a H e B n)(h4:m+n<=900)(h5:(∀x,Bd b (A x)/\Bd b (B x)))(h6:b<16000000)(h7:∀r H',H r=none->Same H H'->PlanA a H' r (λx=>A x+B x) (m+n)->Q (.ref r) H'):IspTogA a vs H Q
noncomputable def spTogA(a:Ad):Sp:=λvs H Q _=>IspTogA a vs H Q
theorem jn(h:∀n,n∈ks↔A n≠0)(n:Str):bT ks A n=A n:=by
 unfold bT;by_cases e:n∈ks
 ·rw[if_pos e]
 ·rw[if_neg e];exact(lN λz=>e ((h n).mpr λq=>z q.symm))
theorem bothK_le(k1 k2:List Str):(f9 k1 k2).length<=k1.length+k2.length:=by
 unfold f9
 induction k2 generalizing k1 with
 |nil=>exact kM _
 |cons x r ih=>
  have:=ih (addK k1 x)
  have a:(addK k1 x).length<=k1.length+1:=by unfold addK;split;lia;rw[k5];exact kM _
  rw[nI,lR]
  lia
theorem bothK_nd(h:k1.Nodup):(f9 k1 k2).Nodup:=by
 unfold f9
 induction k2 generalizing k1 with
 |nil=>exact h
 |cons x r ih=>rw[nI];exact ih (nodup_addK h)
theorem togA(T:TX K mg a):FnB P w K mg base CX0 "together" 6 ["one","other"] (spTogA a):=by
 refine(ok_together T).imp λU H Q E h=>?_;obtain⟨d,e,A,B,m,n,b,rfl,⟨s,c,J,I,j,X,l⟩,⟨o,i,O,L,y,S,t⟩,R,bd,D,k⟩:=h;refine⟨d,e,s,o,c,i,A,B,rfl,J,I,j,O,L,y,by lia,λx _=>⟨by rw[jn l];exact(bd x).1.smr D,(bd x).2.smr D⟩,λr F p G N M tb=>k r F G N ⟨p,f0 (sumA c A i B) (f9 c i),M,?_,j7 (bothK_nd j),?_,λx=>?_⟩⟩
 ·exact tb.congr' λx _=>by unfold sumA;rw[jn l,jn t]
 ·have:=j8 (sumA c A i B) (f9 c i)
  have:=bothK_le c i
  lia
 ·rw[mem_some0,mem_bothK];unfold sumA;rw[jn l,jn t];constructor
  ·exactλz=>z.2
  ·intro z;refine⟨?_,z⟩;by_cases e:A x=0
   ·refine .inr ((t x).mpr λq=>z ?_);show A x+B x=0;rw[e,q,m9]
   ·exact .inl ((l x).mpr e)
noncomputable def con(d:WD)(y:Rat)(s:Str):Rat:=if s=d.go then y*aW d.kd d.x else if s=d.st then-y else 0
theorem fP(h:d.st≠d.go)(s:Str):sumStep A F d s=F s+con d (A d.nm) s:=by
 unfold sumStep con upf;by_cases h1:s=d.go
 ·rw[if_pos h1,if_pos h1,h1]
 ·rw[if_neg h1,if_neg h1];by_cases h2:s=d.st
  ·rw[if_pos h2,if_pos h2,h2];grind
  ·rw[if_neg h2,if_neg h2];grind
theorem con_add(d:WD)(y z:Rat)(s:Str):con d (y+z) s=con d y s+con d z s:=by
 unfold con
 split
 ·grind
 ·split<;>grind
theorem sumF_upd:∀ds:List WD,(∀d∈ds,d.st≠d.go)->(ds.map (·.nm)).Nodup->∀s,(¬n∈ds.map (·.nm)->cG (λm=>if m=n then A m+g else A m) ds s=cG A ds s)/\(∀d∈ds,d.nm=n->cG (λm=>if m=n then A m+g else A m) ds s=cG A ds s+con d g s):=by
 refine cZ ?_ ?_
 ·intro _ _ s;exact⟨λ_=>rfl,λd c=>absurd c lA⟩
 ·intro ds d t ne o s;rw[kO]at o;obtain⟨i,_,a⟩:=lV.mp o;obtain⟨p,w⟩:=t (λz r=>ne z (lf _ r)) i s;have c:=ne d (by simp);rw[gu,gu,fP c,fP c];refine⟨λj=>?_,λe q b=>?_⟩
  ·rw[kO,kU]at j;rw[p λz=>j (.inl z),if_neg λz=>j (.inr (by simp[z]))]
  ·rcases kU.mp q with h|h
   ·have l:d.nm≠n:=λz=>a e.nm (kQ.mpr ⟨e,h,rfl⟩) d.nm (by simp) (by rw[b,z]);rw[w e h b,if_neg l];grind
   ·have:=kS.mp h
    subst this;have hnd:¬n∈ds.map (·.nm):=λz=>a n z e.nm (by simp) b.symm;rw[p hnd,if_pos b,con_add];grind
noncomputable def j5(p q:Str)(x y:Rat)(s:Str):Rat:=(if s=q then y else 0)-(if s=p then x else 0)
noncomputable def mns(A:Str->Rat)(l:List WD)(x:Rat)(n:Str):Rat:=A n-sA x l n
theorem ja(x:Rat)(n:Str):sA x [] n=0:=rfl
theorem jq(x:Rat)(d:WD)(r:List WD)(n:Str):sA x (d::r) n=(if n=d.nm then x else 0)+sA (x*aW d.kd d.x) r n:=by
 unfold sA;show(occ ((d.nm,x)::dL (x*aW d.kd d.x) r) n).sum=_;unfold occ;rw[List.filter_cons];by_cases h:d.nm=n
 ·rw[if_pos (by exact lD h),md,List.sum_cons,if_pos h.symm]
 ·rw[if_neg (by simpa using h),if_neg λz=>h z.symm,Rat.zero_add]
theorem going_cons(x:Rat)(d:WD)(r:List WD):going x (d::r)=going (x*aW d.kd d.x) r:=rfl
theorem sA_mul(x:Rat)(n:Str):∀(l:List WD)(y:Rat),sA (x*y) l n=x*sA y l n
 |[],y=>by rw[ja,ja,Rat.mul_zero]
 |d::r,y=>by
  rw[jq,jq,nM,sA_mul x n r]
  split<;>grind
theorem eO(x:Rat)(l:List WD)(n:Str):sA x l n=x*sA 1 l n:=by
 have:=sA_mul x n l 1
 rw[Rat.mul_one]at this;exact this
theorem i9:∀{l:List WD}{x:Rat},¬n∈l.map (·.nm)->sA x l n=0
 |[],_,_=>rfl
 |d::r,x,h=>by
  rw[jq,if_neg λz=>h (by rw[z];exact lG),i9 λz=>h (lv _ z),Rat.zero_add]
theorem sumF_walk(ne:∀d∈ns,d.st≠d.go)(nd:(ns.map (·.nm)).Nodup):∀(l:List WD)(A:Str->Rat)(p:Str)(x:Rat),PthW p l q->(∀d∈l,d∈ns)->cG (mns A l x) ns s=cG A ns s-j5 p q x (going x l) s
 |[],A,p,x,h,_=>by
  have e:mns A [] x=A:=funext λn=>by
   unfold mns;rw[ja];grind
  rw[e];have h:p=q:=h;unfold j5 going;rw[h,List.foldl_nil];grind
 |d::r,A,p,x,h,sub=>by
  have a:=sub d lG
  have e:mns A (d::r) x=mns (λm=>if m=d.nm then A m+-x else A m) r (x*aW d.kd d.x):=funext λn=>by
   unfold mns;rw[jq];show A n-_=(if n=d.nm then A n+-x else A n)-_
   split<;>grind
  rw[e,sumF_walk ne nd r _ _ _ h.2 (λy b=>sub y (lv _ b)),(sumF_upd ns ne nd s).2 d a rfl,<-h.1,going_cons]
  have:=ne d a
  unfold con j5;by_cases c1:s=d.go
  ·rw[if_pos c1,if_pos c1,if_neg (c:=s=d.st) (λz=>this (by rw[<-z,c1]))];grind
  ·rw[if_neg c1,if_neg c1];by_cases c2:s=d.st
   ·rw[if_pos c2,if_pos c2];grind
   ·rw[if_neg c2,if_neg c2];grind
theorem eC{x y:Rat}(h:0<=x)(k:0<=y):0<=x*y:=Rat.mul_nonneg h k
theorem cV{x y:Rat}(h:0<x)(k:0<y):0<x*y:=Rat.mul_pos h k
theorem no_out(nn:∀n,0<=A n):∀ns:List WD,(∀d∈ns,d.st≠d.go)->(∀d∈ns,0<aW d.kd d.x)->(∀d∈ns,d.st=s->A d.nm=0)->0<=cG A ns s/\∀e∈ns,e.go=s->A e.nm*aW e.kd e.x<=cG A ns s:=by
 refine cZ (λ_ _ _=>⟨nP,λe b=>absurd b lA⟩) λj d h ne g1 no=>?_;obtain⟨m,l⟩:=h (λz a=>ne z (lf _ a)) (λz a=>g1 z (lf _ a)) λz a=>no z (lf _ a);have c:d∈j++[d]:=by simp
 have i:0<=con d (A d.nm) s/\(d.go=s->con d (A d.nm) s=A d.nm*aW d.kd d.x):=by
  unfold con
  have:=eC (nn d.nm) (lI (g1 d c))
  by_cases c1:s=d.go
  ·rw[if_pos c1];exact⟨this,λ_=>rfl⟩
  ·rw[if_neg c1];refine⟨?_,λz=>absurd z.symm c1⟩;by_cases c2:s=d.st
   ·rw[if_pos c2,no d c c2.symm];grind
   ·rw[if_neg c2];exact nP
 rw[gu,fP (ne d c)];refine⟨by grind,λe b hs=>?_⟩;rcases kU.mp b with z|z
 ·have:=l e z hs
  grind
 ·rw[kS.mp z]at hs⊢
  have:=i.2 hs
  grind
theorem no_in(nn:∀n,0<=A n):∀ns:List WD,(∀d∈ns,d.st≠d.go)->(∀d∈ns,d.go=s->A d.nm=0)->cG A ns s<=0/\∀e∈ns,e.st=s->cG A ns s<=-A e.nm:=by
 refine cZ (λ_ _=>⟨nP,λe a=>absurd a lA⟩) λj d h ne no=>?_;obtain⟨m,l⟩:=h (λz b=>ne z (lf _ b)) λz b=>no z (lf _ b);have c:d∈j++[d]:=by simp
 have i:con d (A d.nm) s<=0/\(d.st=s->con d (A d.nm) s=-A d.nm):=by
  unfold con
  have:=nn d.nm
  by_cases c1:s=d.go
  ·rw[if_pos c1,no d c c1.symm];exact⟨by grind,λz=>absurd (z.trans c1) (ne d c)⟩
  ·rw[if_neg c1];by_cases c2:s=d.st
   ·rw[if_pos c2];grind
   ·rw[if_neg c2];exact⟨nP,λz=>absurd z.symm c2⟩
 rw[gu,fP (ne d c)];refine⟨by grind,λe a hs=>?_⟩;rcases kU.mp a with z|z
 ·have:=l e z hs
  grind
 ·rw[kS.mp z]at hs⊢
  have:=i.2 hs
  grind
theorem goes_on(nn:∀n,0<=A n)(ne:∀d∈ns,d.st≠d.go)(g1:∀d∈ns,0<aW d.kd d.x)(h:cG A ns s<0∨cG A ns s<=0/\∃e∈ns,e.go=s/\A e.nm≠0):∃d∈ns,d.st=s/\A d.nm≠0:=by
 refine lN λz=>?_;obtain⟨c,b⟩:=no_out nn ns ne g1 λd a hs=>lN λq=>z ⟨d,a,hs,q⟩;rcases h with h|⟨h,e,he,hs,h3⟩
 ·grind
 ·have:=b e he hs
  have i:=nn e.nm
  have:=cV (show 0<A e.nm by grind) (g1 e he)
  grind
theorem none_left(nn:∀n,0<=A n)(ne:∀d∈ns,d.st≠d.go)(ac:Acyc ws)(sub:∀d∈ns,A d.nm≠0->d∈ws)(ge:∀d∈ns,0<=cG A ns d.st):∀d∈ns,A d.nm=0:=by
 obtain⟨i,l⟩:=ac
 obtain⟨M,m⟩:∃M,∀d∈ns,i d.st<=M:=by
  clear ge sub ne
  induction ns with
  |nil=>exact⟨0,λd a=>absurd a lA⟩
  |cons x r ih=>
   obtain⟨M,h⟩:=ih;refine⟨max M (i x.st),λd a=>?_⟩;rcases lx.mp a with rfl|z
   ·exact Nat.le_max_right _ _
   ·exact kW (h d z) (Nat.le_max_left _ _)
 have c:∀k,∀d∈ns,A d.nm≠0->M<i d.st+k->False:=by
  intro k
  induction k with
  |zero=>exactλd a _ h=>absurd (m d a) (by lia)
  |succ k ih=>
   intro d a p t
   have:∃e∈ns,e.go=d.st/\A e.nm≠0:=lN λz=>by
    obtain⟨_,o⟩:=no_in nn ns ne (s:=d.st) λe b hs=>lN λq=>z ⟨e,b,hs,q⟩
    have:=o d a rfl
    have:=ge d a
    have:=nn d.nm
    grind
   obtain⟨e,b,hs,j⟩:=this
   have:=l e (sub e b j)
   exact ih e b j (by rw[hs]at this;lia)
 exactλd a=>lN λz=>c (M+1) d a z (by lia)
noncomputable def Gq(D:Nat)(x:Rat):Prop:=∃i:Int,x*(D:Rat)=(i:Rat)
theorem Gq.zero:Gq D 0:=⟨0,by rw[Rat.zero_mul];rfl⟩
theorem Gq.one:Gq D 1:=⟨D,by rw[Rat.one_mul];rfl⟩
theorem Gq.add(h:Gq D x)(k:Gq D y):Gq D (x+y):=by
 obtain⟨i,h⟩:=h;obtain⟨j,k⟩:=k;exact⟨i+j,by rw[Rat.intCast_add];grind⟩
theorem Gq.neg(h:Gq D x):Gq D (-x):=by
 obtain⟨i,h⟩:=h;exact⟨-i,by rw[Rat.intCast_neg];grind⟩
theorem Gq.sub(h:Gq D x)(k:Gq D y):Gq D (x-y):=by
 rw[Rat.sub_eq_add_neg];exact h.add k.neg
theorem Gq.mul(h:Gq D x)(k:Gq E y):Gq (D*E) (x*y):=by
 obtain⟨i,h⟩:=h;obtain⟨j,k⟩:=k;refine⟨i*j,?_⟩;rw[mq,Rat.natCast_mul,<-h,<-k];grind
theorem Gq.mono(h:Gq D x)(d:D∣E):Gq E x:=by
 obtain⟨c,rfl⟩:=d
 have:=h.mul (Gq.one (D:=c))
 rw[Rat.mul_one]at this;exact this
theorem Gq.bd(h:Gq D x)(x0:0<=x)(xm:x<=((2^m:Nat):Rat))(d0:0<D)(dn:D<=2^n):Bd (m+n) x:=by
 obtain⟨i,h⟩:=h;have a:(0:Rat)<(D:Rat):=by exact_mod_cast d0
 have e:x=Rat.divInt i (D:Int):=by
  rw[mU,<-h];show x=x*(D:Rat)/(D:Rat);grind
 have c:(0:Rat)<=((i:Int):Rat):=by rw[<-h];exact eC x0 (lI a)
 have b:((i:Int):Rat)<=(((2^m*D:Nat):Int):Rat):=by
  rw[<-h,Int.natCast_mul,mq];exact mj xm (lI a)
 have j:0<=i:=by exact_mod_cast c
 have l:i<=((2^m*D:Nat):Int):=by exact_mod_cast b
 have o:2^m*D<=2^(m+n):=by rw[l0];exact Nat.mul_le_mul_left _ dn
 rw[e];exact Bd.divInt (by lia) (by have:=pow_le (show n<=m+n by lia);lia)
structure GnE(E:Nat)(d:WD):Prop where
 ps:0<aW d.kd d.x
 g:Gq E (aW d.kd d.x)
 i:Gq E (aW d.kd d.x)⁻¹
theorem fu{x:Rat}(h:0<x):0<x⁻¹:=Rat.inv_pos.mpr h
theorem iy:∀{l:List WD},(∀d∈l,GnE E d)->0<going 1 l/\Gq (E^l.length) (going 1 l)/\Gq (E^l.length) (going 1 l)⁻¹:=by
 refineλ{l}=>cZ (P:=λl=>(∀d∈l,GnE E d)->0<going 1 l/\Gq (E^l.length) (going 1 l)/\Gq (E^l.length) (going 1 l)⁻¹) (λ_=>⟨by decide+kernel,Gq.one,by rw[show(going 1 [])⁻¹=1 by decide+kernel];exact Gq.one⟩) (λb u m h=>?_) l;obtain⟨c,p,j⟩:=m λd o=>h d (lf _ o);have a:=h u (by simp);rw[jX,k5,lP,Nat.pow_succ];refine⟨cV c a.ps,p.mul a.g,?_⟩
 have e:(going 1 b*aW u.kd u.x)⁻¹=(going 1 b)⁻¹*(aW u.kd u.x)⁻¹:=by
  have s:=lE _ (show going 1 b≠0 by grind);have q:=lE _ (show aW u.kd u.x≠0 by have:=a.ps;grind);have r:=lE _ (show going 1 b*aW u.kd u.x≠0 by have:=cV c a.ps;grind);grind
 rw[e];exact j.mul a.i
theorem sA_pre(nd:(l.map (·.nm)).Nodup)(hd:d∈l):∃i,i<l.length/\sA 1 l d.nm=going 1 (l.take i):=by
 revert nd hd
 refine cZ (P:=λl=>(l.map (·.nm)).Nodup->d∈l->∃i,i<l.length/\sA 1 l d.nm=going 1 (l.take i)) (λ_ h=>absurd h lA) (λa u c nd hd=>?_) l;rw[kO]at nd;obtain⟨j,_,b⟩:=lV.mp nd
 have m:sA 1 (a++[u]) d.nm=(if u.nm=d.nm then sA 1 a d.nm+going 1 a else sA 1 a d.nm):=by
  unfold sA;rw[jQ,occ_snoc]
  split
  ·rw[sum_snoc]
  ·rfl
 rw[m,k5,lP];rcases kU.mp hd with z|z
 ·obtain⟨i,p,o⟩:=c j z;have ne:u.nm≠d.nm:=λe=>b d.nm (kQ.mpr ⟨d,z,rfl⟩) u.nm (by simp) e.symm;rw[if_neg ne];exact⟨i,by lia,by rw[List.take_append_of_le_length (by lia)];exact o⟩
 ·rw[kS.mp z,if_pos rfl,i9 λq=>b u.nm q u.nm (by simp) rfl,Rat.zero_add];exact⟨a.length,by lia,by rw[List.take_left]⟩
theorem Gq.up(h:Gq (E^m) x)(l:m<=n):Gq (E^n) x:=h.mono (Nat.pow_dvd_pow E l)
theorem sA_gq(nd:(l.map (·.nm)).Nodup)(hg:∀d∈l,GnE E d)(hm:l.length<=m+1)(hd:d∈l):0<sA 1 l d.nm/\Gq (E^m) (sA 1 l d.nm)/\Gq (E^m) (sA 1 l d.nm)⁻¹:=by
 obtain⟨i,h,e⟩:=sA_pre nd hd;obtain⟨b,c,a⟩:=iy (E:=E) (l:=l.take i) λd hd=>hg d (m6 hd);have le:(l.take i).length<=m:=by rw[k8];lia
 rw[e];exact⟨b,c.up le,a.up le⟩
noncomputable def nzc{α:Type}(p:α->Rat)(l:List α):Nat:=(l.filter λx=>decide (p x≠0)).length
theorem dA(p:α->Rat)(x:α)(l:List α):nzc p (x::l)=(if p x=0 then 0 else 1)+nzc p l:=by
 unfold nzc;rw[List.filter_cons];by_cases h:p x=0
 ·rw[if_pos h,if_neg (by simp[h])]
  lia
 ·rw[if_neg h,if_pos (by simp[h]),lR]
  lia
theorem nzc_le:∀{l:List α},(∀x∈l,q x≠0->p x≠0)->nzc q l<=nzc p l
 |[],_=>kM _
 |x::l,h=>by
  have:=nzc_le (l:=l) λy b=>h y (lv _ b)
  have a:=h x lG;rw[dA,dA];by_cases h1:q x=0
  ·rw[if_pos h1];omega
  ·rw[if_neg h1,if_neg (a h1)];omega
theorem nzc_lt:∀{l:List α},(∀x∈l,q x≠0->p x≠0)->(∃x∈l,p x≠0/\q x=0)->nzc q l<nzc p l
 |[],_,h=>let⟨_,h,_⟩:=h;absurd h lA
 |x::l,h,hx=>by
  obtain⟨y,a,b,c⟩:=hx;have le:=nzc_le (l:=l) λy a=>h y (lv _ a);rw[dA,dA];rcases lx.mp a with rfl|z
  ·rw[if_pos c,if_neg b];omega
  ·have:=nzc_lt (l:=l) (λy a=>h y (lv _ a)) ⟨y,z,b,c⟩
   by_cases h3:q x=0
   ·rw[if_pos h3];omega
   ·rw[if_neg h3,if_neg (h x lG h3)];omega
noncomputable abbrev EN:=(Str×List WD)×Rat
noncomputable def fT(es:List EN)(s:Str):Rat:=es.foldr (λe r=>(if e.1.1=s then e.2 else 0)+r) 0
theorem fi(e:EN)(es:List EN)(s:Str):fT (e::es) s=(if e.1.1=s then e.2 else 0)+fT es s:=rfl
theorem endS_snoc(e:EN)(s:Str):∀es:List EN,fT (es++[e]) s=fT es s+if e.1.1=s then e.2 else 0
 |[]=>by rw[List.nil_append,fi];show _+(0:Rat)=(0:Rat)+_;grind
 |d::r=>by rw[List.cons_append,fi,fi,endS_snoc e s r];grind
theorem endS_set:∀{es:List EN}{i:Nat},es[i]?=some (p,r)->fT (es.set i (p,r-x)) s=fT es s-(if s=p.1 then x else 0)
 |[],_,h=>by cases h
 |e::es,0,h=>by
  cases h;rw[List.set_cons_zero,fi,fi];by_cases c:p.1=s
  ·rw[if_pos c,if_pos c,if_pos c.symm];show r-x+fT es s=r+fT es s-x;grind
  ·rw[if_neg c,if_neg c,if_neg λz=>c z.symm];grind
 |e::es,i+1,h=>by
  rw[List.set_cons_succ,fi,fi,endS_set (es:=es) (i:=i) (by simpa using h)];grind
theorem iL:∀{es:List EN},(∀e∈es,0<=e.2)->0<=fT es s/\(∀e∈es,e.1.1=s->e.2<=fT es s)/\((∀e∈es,e.1.1=s->e.2=0)->fT es s=0)
 |[],_=>⟨nP,λe i=>absurd i lA,λ_=>rfl⟩
 |e::es,h=>by
  obtain⟨m,j,b⟩:=iL (s:=s) λy l=>h y (lv _ l);have i:=h e lG;rw[fi];by_cases c:e.1.1=s
  ·rw[if_pos c];refine⟨by grind,λf a hs=>?_,λz=>?_⟩
   ·rcases lx.mp a with rfl|q
    ·grind
    ·have:=j f q hs
     grind
   ·rw[z e lG c,b λf a=>z f (lv _ a),m9]
  ·rw[if_neg c];refine⟨by grind,λf a hs=>?_,λz=>?_⟩
   ·rcases lx.mp a with rfl|q
    ·exact absurd hs c
    ·have:=j f q hs
     grind
   ·rw[b λf a=>z f (lv _ a),m9]
theorem nzc_set:∀{es:List EN}{i:Nat},es[i]?=some (p,r)->(r=0->x=0)->nzc (·.2) (es.set i (p,r-x))+(if r≠0/\r=x then 1 else 0)<=nzc (·.2) es
 |[],_,h,_=>by cases h
 |e::es,0,h,hz=>by
  cases h;rw[List.set_cons_zero,dA,dA];show(if r-x=0 then 0 else 1)+nzc (·.2) es+_<=(if r=0 then 0 else 1)+nzc (·.2) es;by_cases c:r=0
  ·rw[if_pos c,if_pos (by rw[c,hz c];decide+kernel),if_neg λz=>z.1 c];omega
  ·rw[if_neg c];by_cases c2:r=x
   ·rw[if_pos (by grind),if_pos ⟨c,c2⟩];omega
   ·rw[if_neg (by grind),if_neg λz=>c2 z.2];omega
 |e::es,i+1,h,hz=>by
  rw[List.set_cons_succ,dA,dA]
  have:=nzc_set (es:=es) (i:=i) (by simpa using h) hz
  omega
end
end G
namespace G
open PySem L2
section
theorem unitP(hg:∀d∈ds,GnE E d)(nd:(ds.map (·.nm)).Nodup)(h:PlanA a H r (sA 1 ds) 6):∃kve us,H r=some (.dK kve)/\Tab (FrIs a) H kve us (sA 1 ds)/\us.Nodup/\us.length<=6/\∀n,n∈us↔n∈ds.map (·.nm):=by
 obtain⟨b,o,l,q,e,p,i⟩:=h;refine⟨b,o,l,q,e,p,λn=>(i n).trans ⟨λz=>lN λc=>z (i9 c),λc z=>?_⟩⟩;obtain⟨y,j,rfl⟩:=kQ.mp c
 have:=(sA_gq (E:=E) (m:=ds.length) nd hg (by lia) j).1
 grind
inductive IspMost(a:Ad)(vs:List V)(H:Hp)(Q:VK):Prop
 |mk(d e:Addr)(kvd kve:List (Key×V))(ks us:List Str)(A U:Str->Rat)(h1:vs=[.ref d,.ref e])(h2:H d=some (.dK kvd))(h3:Tab (FrIs a) H kvd ks A)(h4:H e=some (.dK kve))(h5:Tab (FrIs a) H kve us U)(h6:us.Nodup)(h7:us≠[])(h8:us.length<=100)(h9:(∀n∈us,n∈ks/\SmR (A n)/\SmR (U n)/\U n≠0/\SmR (A n/U n)))(h10:d≠e)(h11:∀q H' m,Same H H'->FrAt a.Fraction H' q m->(∃n∈us,A n/U n=m)->(∀n∈us,m<=A n/U n)->Q (.ref q) H'):IspMost a vs H Q
noncomputable def spMost(a:Ad):Sp:=λvs H Q _=>IspMost a vs H Q
theorem jM(T:TX K mg a):FnB P w K mg base CX0 "most_along" 7 ["plan","unit"] (spMost a):=by
 refine T.d_most_along.okA sc_most_along λf aj A af s H vs Q E hr h=>?_;obtain⟨d,e,ai,c,ks,Z,A,U,rfl,hd,td,N,te,aa,ac,ul,J,ad,k⟩:=h
 refine⟨_,(aF (aO (aR (ok_least T) hr aJ (aA (pe_thaw (fR (xs:=["name","part"]) (rest:=["plan"]) rfl (gK (pv 1))
  (λD fp C' s' H'=>by exact(pg_tupK (K:=K) (n:=2) rfl rfl (bY (aQ (i:=0) (show(["name","part","plan"]:List Str).Nodup by decide+kernel)) (bY (aQ (i:=1) (show(["name","part","plan"]:List Str).Nodup by decide+kernel)) fM)))) (λD fp C' s' H'=>by exact dQ)
  (λD fp C' s' H'=>by exact(cM T.fr (cQ (bS hr) (pv 2) (pv 0) (λ_ _=>rfl)) (ok_over T) hr aJ (aA (pv 1) aB)))
  (Clos.many (ys:=["plan"]) rfl ⟨rfl,True.intro⟩ rfl (by decide+kernel)) (Reads.many (ys:=["plan"]) (js:=[0]) ⟨⟨rfl,rfl,rfl⟩,True.intro⟩))) aB)))),?_⟩
 walk_at"q"
 refine⟨e,.dK c,N,(by intro o z q;cases q),_,rfl,e,c,rfl,N,λo l Y=>?_⟩;have B:e≠l:=λz=>by rw[z,aE]at Y;cases Y
 have R:H l=none:=by rw[aG B.symm]at Y;exact Y
 refine compG_items (a:=e) (o:=o) (kvs:=c) (λi j=>i<=Z.length×' j e=some (.frz o (.dK c))×'(∀b p,H b=some p->b≠e->j b=some p)×'∃F,j l=some (.lst F)/\RowAt (FrIs a) j F ((Z.take i).map λn=>A n/U n))
  ⟨kY _,by rw[aG B,aE],(λb p g ne=>by rw[aG (aN g R),aG ne];exact g),[],aE,RowAt.nil⟩ ((by rintro i j⟨_,h,_⟩;exact h)) ?_ ?_
 ·rintro i kv t j ae nt⟨_,X,k2,F,G,M⟩zs hz;obtain⟨n,en,e1,ev,q,eq,fq⟩:=te.at_ aa ae;have hi:i<Z.length:=(kL.mp en).1;have ah:kV kv.1=.str n:=by rw[e1];rfl
  rw[ah,eq];obtain⟨H3,zq,s3,ht⟩:=uG (o:=.tup [.str n,.ref q]) nt;rw[zq]
  match zs,hz with
  |[z1,z2],_=>
   obtain⟨nk,sA,sU,u0,_⟩:=J n (kN en);have k3:∀b p,H b=some p->b≠e->H3 b=some p:=λb p g ne=>s3 _ _ (k2 b p g ne)
   have ab:FrAt a.Fraction H3 q (U n):=by
    obtain⟨I,g⟩:=fq;exact⟨I,k3 _ _ g (bD g N (by intro z;cases z))⟩
   obtain⟨v,ag,qa,rfl,fa⟩:=td.vals n nk
   have S:FrAt a.Fraction H3 qa (A n):=by
    obtain⟨I,g⟩:=fa;exact⟨I,k3 _ _ g (bD g N (by intro z;cases z))⟩
   refine⟨t,[.str n,.ref q],rfl,SqT.of ht,rfl,.str n,[.ref q],rfl,⟨.ref q,[],rfl,⟨rfl,⟨[_,_],rfl,rfl⟩,yes ?_⟩⟩⟩;refine⟨_,rfl,_,rfl,d,.ref qa,rfl,.inl ⟨ai,Sum.inr n,.inl (k3 _ _ hd ad),rfl,ag.symm⟩,?_⟩;refine⟨qa,_,rfl,S,_,rfl,qa,q,_,_,rfl,S,ab,sA,sU,u0,λr H4 nr s4 f4=>?_⟩;have y:=s3.trans s4;have L:=y _ _ G;have ak:F.length=i:=by rw[M.1,kK,k8];lia
   refine⟨_,L,aU (by lia),eU (by rw[te.len];exact hi) ⟨hi,by rw[aG B];exact y _ _ X,(λb p g ne=>by rw[aG (aN g R)];exact y _ _ (k2 _ _ g ne)),_,aE,?_⟩⟩;rw[kX,en,lB,kO];have ko:∀v x,FrIs a H4 v x->FrIs a (upd H4 l (.lst (F++[.ref r]))) v x:=(by rintro v x⟨q,e,I,g⟩;exact⟨q,e,I,by rw[aG (bD g L (by intro z;cases z))];exact g⟩);exact RowAt.snoc (M.mono λv x z=>ko v x (z.mono y)) (ko _ _ ⟨r,rfl,f4⟩)
 ·rintro j⟨_,X,k2,F,G,M⟩;rw[te.len,kZ]at M
  have s2:Same H (upd j e (.dK c)):=λb p g=>by
   by_cases hb:b=e
   ·subst hb;rw[aE,<-N,g]
   ·rw[aG hb];exact k2 _ _ g hb
  refine⟨o,X,l,F,_,rfl,SqL.of (show upd j e (.dK c) l=some (.lst F) by rw[aG B.symm];exact G),M.mono λv x z=>z.keep (.frz X),?_,?_,λq m fq hm all=>k q _ m s2 fq ?_ λn O=>all _ (kQ.mpr ⟨n,O,rfl⟩)⟩
  ·cases Z with
   |nil=>exact absurd rfl ac
   |cons x r=>exactλz=>by cases z
  ·rintro x hx;obtain⟨n,O,rfl⟩:=kQ.mp hx;exact(J n O).2.2.2.2
  ·obtain⟨n,O,e1⟩:=kQ.mp hm;exact⟨n,O,e1⟩
inductive IspLess(a:Ad)(vs:List V)(H:Hp)(Q:VK):Prop
 |mk(d e q:Addr)(A U:Str->Rat)(m k:Nat)(x:Rat)(h1:vs=[.ref d,.ref e,.ref q])(h2:PlanA a H d A m)(h3:PlanA a H e U k)(h4:k<=100)(h5:m<=100)(h6:FrAt a.Fraction H q x)(h7:Bd 224000 x)(h8:(∀n,Bd 224000 (A n)/\Bd 224000 (U n)/\Bd 224000 (x*U n)))(h9:∀r H',H r=none->Same H H'->PlanA a H' r (λn=>A n-x*U n) (m+k)->Q (.ref r) H'):IspLess a vs H Q
noncomputable def spLess(a:Ad):Sp:=λvs H Q _=>IspLess a vs H Q
theorem ok_less(T:TX K mg a):FnB P w K mg base CX0 "less" 7 ["plan","unit","amount"] (spLess a):=by
 refine T.d_less.okA sc_less λf aa A F s H vs Q E j h=>?_;obtain⟨d,e,q,A,U,m,S,x,rfl,pd,pe,lu,lm,O,J,I,k⟩:=h;refine⟨_,(aF (aO (aR (togA T) j aJ (aA (pv 0) (aA (aR (ok_scaled T) j aJ (aA (pv 1) (aA (cM T.fr (cL (mk1 T) j T.mg_Fraction aJ (aA aC aB)) (eR T) j aJ (aA (pv 2) aB)) aB))) aB))))),?_⟩;walk_at"q"
 refine⟨_,rfl,_,rfl,0,1,rfl,by decide,sm1,λz H1 nz M p=>?_⟩;rw[show Rat.divInt 0 1=0 from rfl]at p;refine⟨z,_,rfl,p,_,rfl,z,q,_,_,rfl,p,O.mono M,Bd.zero.smr (by decide),J.smr (by decide),True.intro,λy H2 ny s2 fy=>?_⟩;have b:=M.trans s2;have D:Bd 224001 (0-x):=(Bd.zero.sub J).mono (by decide);obtain⟨B,Z,he,te,i,l,N⟩:=pe;refine⟨e,y,B,Z,_,_,rfl,b _ _ he,te.mono (λv x z=>z.mono b),i,by lia,fy,D.smr (by decide),λn _=>(I n).2.1.smr (by decide),λr H3 o nr s3 t tr=>?_⟩;have c:=b.trans s3;have L:∀n,U n*(0-x)=-(x*U n):=λn=>by grind
 refine⟨d,r,A,(λn=>U n*(0-x)),m,S,224000,rfl,pd.mono c,⟨o,_,t,tr,j7 i,kW (j8 _ _) l,λn=>?_⟩,by lia,λn=>⟨(I n).1,by rw[L];exact(I n).2.2.neg⟩,by decide,λY X G s4 pl=>k Y X (c.free G) (c.trans s4) ?_⟩
 ·rw[mem_some0,N];show U n≠0/\U n*(0-x)≠0↔U n*(0-x)≠0;exact⟨λz=>z.2,λz=>⟨λq=>z (by rw[q,Rat.zero_mul]),z⟩⟩
 ·have R:(λn=>A n-x*U n)=λn=>A n+U n*(0-x):=funext λn=>by rw[L];grind
  rw[R];exact pl
end
end G
namespace G
open PySem L2
section
structure SD where
 rg:List WD
 pa:List WD
 tl:List WD
 am:Rat
 ad:List Addr
noncomputable def nmV(l:List WD):List V:=l.map λx=>V.str x.nm
noncomputable def fsE(s:Str)(lr q:Addr):List (Str×V):=[("place",.str s),("ring",.ref lr),("rest",.ref q)]
noncomputable def fsT(p d ls lo li:Addr):List (Str×V):=[("on",.ref p),("rest",.ref d),("strands",.ref ls),("sources",.ref lo),("sinks",.ref li)]
theorem dG(h:g≠f):cD f v ((g,x)::r)=(g,x)::cD f v r:=if_neg h
theorem putF_eq:cD f v ((f,x)::r)=(f,v)::r:=if_pos rfl
theorem fsE_new(s:Str)(lr q:Addr):cD "rest" (.ref q) (cD "ring" (.ref lr) (cD "place" (.str s) []))=fsE s lr q:=by
 show cD "rest" (.ref q) (cD "ring" (.ref lr) [(("place":Str),V.str s)])=_;rw[dG (by decide+kernel)];show cD "rest" (.ref q) [(("place":Str),V.str s),(("ring":Str),V.ref lr)]=_;rw[dG (by decide+kernel),dG (by decide+kernel)];rfl
theorem fsE_put(s:Str)(lr q q':Addr):cD "rest" (.ref q') (fsE s lr q)=fsE s lr q':=by
 unfold fsE;rw[dG (by decide+kernel),dG (by decide+kernel),putF_eq]
theorem fsE_s(s:Str)(lr q:Addr):(fsE s lr q).lookup ("place":Str)=some (.str s):=rfl
theorem fsE_r(s:Str)(lr q:Addr):(fsE s lr q).lookup ("ring":Str)=some (.ref lr):=by
 unfold fsE;rw[lK,show(("ring":Str)=="place")=false by decide+kernel];rfl
theorem fsE_q(s:Str)(lr q:Addr):(fsE s lr q).lookup ("rest":Str)=some (.ref q):=by
 unfold fsE;rw[lK,show(("rest":Str)=="place")=false by decide+kernel,lK,show(("rest":Str)=="ring")=false by decide+kernel];rfl
theorem fsT_put(p d d' ls lo li:Addr):cD "rest" (.ref d') (fsT p d ls lo li)=fsT p d' ls lo li:=by
 unfold fsT;rw[dG (by decide+kernel),putF_eq]
theorem fsT_on(p d ls lo li:Addr):(fsT p d ls lo li).lookup ("on":Str)=some (.ref p):=rfl
theorem fsT_d(p d ls lo li:Addr):(fsT p d ls lo li).lookup ("rest":Str)=some (.ref d):=by
 unfold fsT;rw[lK,show(("rest":Str)=="on")=false by decide+kernel];rfl
theorem fsT_s(p d ls lo li:Addr):(fsT p d ls lo li).lookup ("strands":Str)=some (.ref ls):=by
 unfold fsT;rw[lK,show(("strands":Str)=="on")=false by decide+kernel,lK,show(("strands":Str)=="rest")=false by decide+kernel];rfl
theorem fsT_o(p d ls lo li:Addr):(fsT p d ls lo li).lookup ("sources":Str)=some (.ref lo):=by
 unfold fsT;rw[lK,show(("sources":Str)=="on")=false by decide+kernel,lK,show(("sources":Str)=="rest")=false by decide+kernel,lK,show(("sources":Str)=="strands")=false by decide+kernel];rfl
theorem fsT_i(p d ls lo li:Addr):(fsT p d ls lo li).lookup ("sinks":Str)=some (.ref li):=by
 unfold fsT;rw[lK,show(("sinks":Str)=="on")=false by decide+kernel,lK,show(("sinks":Str)=="rest")=false by decide+kernel,lK,show(("sinks":Str)=="strands")=false by decide+kernel,lK,show(("sinks":Str)=="sources")=false by decide+kernel];rfl
theorem jZ(p d ls lo li:Addr){m:Str}(h:(m=="on"||m=="rest"||m=="strands"||m=="sources"||m=="sinks")=false):(fsT p d ls lo li).lookup m=none:=by
 simp only[Bool.or_eq_false_iff]at h;unfold fsT;rw[lK,h.1.1.1.1,lK,h.1.1.1.2,lK,h.1.1.2,lK,h.1.2,lK,h.2];rfl
noncomputable def Plain(o:HO):Prop:=(∀C dx s lr q,o≠.ins C dx (fsE s lr q))/\∀C dx p d ls lo li,o≠.ins C dx (fsT p d ls lo li)
theorem ffE:ff x y≠fsE s lr q:=λz=>absurd (lW (λl=>(l.map Prod.fst)[0]?) z) (by show¬some ("top":Str)=some ("place":Str);decide+kernel)
theorem ffT:ff x y≠fsT p d ls lo li:=λz=>absurd (lW (λl=>(l.map Prod.fst)[0]?) z) (by show¬some ("top":Str)=some ("on":Str);decide+kernel)
theorem Plain.fr:Plain (.ins C dx (ff x y)):=⟨λ_ _ _ _ _ z=>(by injection z with _ _ z;exact ffE z),λ_ _ _ _ _ _ _ z=>(by injection z with _ _ z;exact ffT z)⟩
theorem Plain.lst:Plain (.lst ts):=⟨λ_ _ _ _ _ z=>(by cases z),λ_ _ _ _ _ _ _ z=>(by cases z)⟩
theorem Plain.tup:Plain (.tup ts):=⟨λ_ _ _ _ _ z=>(by cases z),λ_ _ _ _ _ _ _ z=>(by cases z)⟩
theorem Plain.dK:Plain (.dK ts):=⟨λ_ _ _ _ _ z=>(by cases z),λ_ _ _ _ _ _ _ z=>(by cases z)⟩
noncomputable def Mv(X:List Addr)(H H':Hp):Prop:=∀b o,H b=some o->¬b∈X->Plain o->H' b=some o
theorem Mv.of(s:Same H H'):Mv X H H':=λb o e _ _=>s b o e
theorem Mv.put(h:H b=some o)(np:¬Plain o):Mv X H (upd H b o'):=λc a e _ p=>by
 rw[aG λz=>np (by rw[z,h]at e;cases e;exact p)];exact e
theorem Mv.app(hx:l∈X):Mv X H (upd H l o'):=λc a e n _=>by rw[aG λz=>n (by rw[z];exact hx)];exact e
theorem gN:¬Plain (.ins C dx (fsE s lr q)):=λz=>z.1 _ _ _ _ _ rfl
theorem jV:¬Plain (.ins C dx (fsT p d ls lo li)):=λz=>z.2 _ _ _ _ _ _ _ rfl
noncomputable def Lsts(X:List Addr)(H:Hp):Prop:=∀b∈X,∃ts,H b=some (.lst ts)
theorem Lsts.no(h:Lsts X H)(e:H b=some o)(n:∀ts,o≠.lst ts):¬b∈X:=λz=>by
 obtain⟨ts,a⟩:=h b z;rw[a]at e
 cases e;exact n ts rfl
theorem Mv.fr(m:Mv X H H')(hl:Lsts X H)(h:FrAt C H q x):FrAt C H' q x:=by
 obtain⟨a,e⟩:=h;exact⟨a,m _ _ e (hl.no e λ_ z=>by cases z) Plain.fr⟩
theorem Mv.plan(k:Mv X H H')(hl:Lsts X H)(h:PlanA a H d A m):PlanA a H' d A m:=by
 obtain⟨b,j,c,l,i⟩:=h;exact⟨b,j,k _ _ c (hl.no c λ_ z=>by cases z) Plain.dK,l.mono (by rintro _ _⟨q,e,f⟩;exact⟨q,e,k.fr hl f⟩),i⟩
noncomputable def EndIs(a:Ad)(X:List Addr)(H:Hp)(v:V)(x:EN):Prop:=∃e dx lr q,v=.ref e/\H e=some (.ins a.End dx (fsE x.1.1 lr q))/\H lr=some (.lst (nmV x.1.2))/\¬lr∈X/\FrAt a.Fraction H q x.2
theorem EndIs.mv(h:EndIs a X H (.ref e) x)(k:Mv X H H')(hl:Lsts X H)(he:H' e=H e):EndIs a X H' (.ref e) x:=by
 obtain⟨o,l,c,q,z,i,j,b,m⟩:=h
 cases z;exact⟨e,l,c,q,rfl,by rw[he];exact i,k _ _ j b Plain.lst,b,k.fr hl m⟩
noncomputable def StIs(a:Ad)(X:List Addr)(H:Hp)(v:V)(s:SD):Prop:=∃u l1 l2 l3 q,v=.ref u/\H u=some (.tup [.ref l1,.ref l2,.ref l3,.ref q])/\H l1=some (.lst (nmV s.rg))/\H l2=some (.lst (nmV s.pa))/\H l3=some (.lst (nmV s.tl))/\¬l1∈X/\¬l2∈X/\¬l3∈X/\FrAt a.Fraction H q s.am/\s.ad=[l1,l2,l3]
theorem StIs.mv(h:StIs a X H v s)(k:Mv X H H')(hl:Lsts X H):StIs a X H' v s:=by
 obtain⟨u,j,o,l,q,z,c,w,m,t,e,i,b,p,r⟩:=h;exact⟨u,j,o,l,q,z,k _ _ c (hl.no c λ_ z=>by cases z) Plain.tup,k _ _ w e Plain.lst,k _ _ m i Plain.lst,k _ _ t b Plain.lst,e,i,b,k.fr hl p,r⟩
structure TkAt(a:Ad)(H0 H:Hp)(t p d ls lo li:Addr)(es fs:List Addr)(A:Str->Rat)(ss:List SD)(sr sk:List EN):Prop where
 sm:Same H0 H
 nt:H0 t=none
 ns:H0 ls=none
 nd:H0 d=none
 ne:∀e∈es++fs,H0 e=none
 un:(es++fs).Nodup
 ob:∃dx,H t=some (.ins a.Taking dx (fsT p d ls lo li))
 pl:PlanA a H d A 24
 st:∃ts,H ls=some (.lst ts)/\RowAt (StIs a [ls,lo,li]) H ts ss
 so:H lo=some (.lst (es.map .ref))
 si:H li=some (.lst (fs.map .ref))
 ro:RowAt (EndIs a [ls,lo,li]) H (es.map .ref) sr
 ri:RowAt (EndIs a [ls,lo,li]) H (fs.map .ref) sk
 no:lo≠ls
 ni:li≠ls
 oi:lo≠li
 nlo:H0 lo=none
 nli:H0 li=none
 sd:(ss.flatMap (·.ad)).Nodup
 sh:∀l∈ss.flatMap (·.ad),H0 l=none
theorem TkAt.ls3(h:TkAt a H0 H t p d ls lo li es fs A ss sr sk):Lsts [ls,lo,li] H:=λb c=>by
 obtain⟨i,e,_⟩:=h.st;simp only[lx,lA,nR]at c;rcases c with rfl|rfl|rfl
 ·exact⟨i,e⟩
 ·exact⟨_,h.so⟩
 ·exact⟨_,h.si⟩
theorem TkAt.ads(h:TkAt a H0 H t p d ls lo li es fs A ss sr sk)(hl:H l=none):¬l∈ss.flatMap (·.ad):=λz=>by
 obtain⟨s,hs,b⟩:=List.mem_flatMap.mp z;obtain⟨r,_,m⟩:=h.st;obtain⟨i,e⟩:=lL.mp hs
 obtain⟨v,w⟩:∃v,r[i]?=some v:=by
  have:=(kL.mp e).1
  rw[<-m.1]at this;exact⟨_,kR this⟩
 obtain⟨u,B,D,y,q,_,_,o,c,j,_,_,_,_,x⟩:=m.2 i v s w e;rw[x]at b;simp only[lx,lA,nR]at b;rcases b with rfl|rfl|rfl
 ·rw[hl]at o;cases o
 ·rw[hl]at c;cases c
 ·rw[hl]at j;cases j
inductive IspEndI(a:Ad)(vs:List V)(H:Hp)(Q:VK):Prop
 |mk(p dx lr q:Addr)(s:Str)(h1:vs=[.ref p,.str s,.ref lr,.ref q])(h2:H p=some (.ins a.End dx []))(h3:Q .non (upd H p (.ins a.End dx (fsE s lr q)))):IspEndI a vs H Q
noncomputable def spEndI(a:Ad):Sp:=λvs H Q _=>IspEndI a vs H Q
theorem mk_End(T:TX K mg a):MkB P w K mg base CX0 a.End 1 ["self","place","ring","rest"] [] (spEndI a):=by
 refine T.i_End.okA sc_End_init (λf j A c s H i Q E m h=>?_) (λi H Q E h=>?_) _ (by simp)
 rotate_left
 ·obtain⟨_,_,_,_,_,rfl,_⟩:=h;rfl
 ·obtain⟨p,b,l,q,s,rfl,e,k⟩:=h
  refine⟨_,(aD (cP (pv 0) (pv 1) rfl)
   (aD (cP (pv 0) (pv 2) rfl)
   (aF (cP (pv 0) (pv 3) rfl)))),?_⟩
  walk_at"q"
  refine⟨_,rfl,_,rfl,p,a.End,b,[],rfl,e,T.cl_End,T.na_End_place,by decide,?_⟩;refine⟨_,rfl,_,rfl,p,a.End,b,_,rfl,aE,T.cl_End,T.na_End_ring,lQ (cH (kM 0)) (by decide),?_⟩;rw[jp];refine⟨_,rfl,_,rfl,p,a.End,b,_,rfl,aE,T.cl_End,T.na_End_rest,lQ (cH (cH (kM 0))) (by decide),?_⟩;rw[jp,fsE_new];exact k
end
end G
namespace G
open PySem L2
section
theorem sgn_lt(x:Rat):sgn x<0↔x<0:=by
 unfold sgn;have h:x<0↔x.num<0:=by rw[<-Rat.not_le,<-Rat.num_nonneg];lia
 rw[h]
 split
 ·constructor<;>intro<;>lia
 ·split
  ·constructor<;>intro<;>lia
  ·constructor<;>intro<;>lia
theorem iD(x:Rat):sgn x>0↔0<x:=by
 have a:=sgn_lt x;have b:=sgn_zero (x:=x);constructor
 ·intro h;have c:¬x<0:=λz=>by have:=a.mpr z;lia
  have e:¬x=0:=λz=>by have:=b.mpr z;lia
  grind
 ·intro h;have c:¬sgn x<0:=λz=>by have:=a.mp z;grind
  have e:¬sgn x=0:=λz=>by have:=b.mp z;grind
  lia
noncomputable def NewEnd(a:Ad)(H H':Hp)(e:Addr)(s:Str)(lr:Addr)(x:Rat):Prop:=H e=none/\Same H H'/\∃dx q,H' e=some (.ins a.End dx (fsE s lr q))/\FrAt a.Fraction H' q x
theorem newE(fq:FrAt a.Fraction H q x)(h1:H p=none)(h2:H dx=none):NewEnd a H (upd (upd (upd H dx (.own p)) p (.ins a.End dx [])) p (.ins a.End dx (fsE s lr q))) p s lr x:=by
 have c:Same H (upd (upd (upd H dx (.own p)) p (.ins a.End dx [])) p (.ins a.End dx (fsE s lr q))):=by
  rw[jp]
  exact ia (C:=a.End) h1 h2 λb o e n=>by
   rw[aG n];rw[aG n]at e;exact e
 exact⟨h1,c,dx,q,aE,fq.mono c⟩
inductive IspAddE(a:Ad)(vs:List V)(H:Hp)(Q:VK):Prop
 |mk(t dx p d ls lo li lr q:Addr)(s:Str)(x:Rat)(to ti:List V)(h1:vs=[.ref t,.str s,.ref lr,.ref q])(h2:H t=some (.ins a.Taking dx (fsT p d ls lo li)))(h3:FrAt a.Fraction H q x)(h4:SmR x)(h5:H lo=some (.lst to))(h6:H li=some (.lst ti))(h7:to.length<=100)(h8:ti.length<=100)(h9:(x<0->∀e H',NewEnd a H H' e s lr (-x)->Q .non (upd H' lo (.lst (to++[.ref e])))))(h10:(0<x->∀e H',NewEnd a H H' e s lr x->Q .non (upd H' li (.lst (ti++[.ref e])))))(h11:(x=0->Q .non H)):IspAddE a vs H Q
noncomputable def spAddE(a:Ad):Sp:=λvs H Q _=>IspAddE a vs H Q
theorem hG(T:TX K mg a):MtB P w K mg base CX0 a.Taking "add_end" 7 ["self","place","ring","come"] (spAddE a):=by
 refine T.m_Taking_add_end.okA kc λf ac A J s H vs Q E j h=>?_;obtain⟨t,X,p,d,ls,lo,li,lr,q,s,x,to,ti,rfl,ht,m,sx,N,Z,aa,ab,k1,k2,k3⟩:=h
 refine⟨_,(bB (bG (aP jd (eV T.fr (pv 3) (eX T) j aJ) aC) (aF (bZ (pe_bm mY mQ mR fc (aY (pv 0) rfl) (aA (pe_mk (mk_End T) j T.mg_End aJ (aA (pv 1) (aA (pv 2) (aA (cM T.fr (cL (mk1 T) j T.mg_Fraction aJ (aA aC aB)) (eR T) j aJ (aA (pv 3) aB)) aB)))) aB)))) aV)
  (aF (bG (aP op_gt (eV T.fr (pv 3) (eX T) j aJ) aC) (aF (bZ (pe_bm mY mQ mR fc (aY (pv 0) rfl) (aA (pe_mk (mk_End T) j T.mg_End aJ (aA (pv 1) (aA (pv 2) (aA (pv 3) aB)))) aB)))) aV))),?_⟩
 walk_at"q"
 refine dP (λY r=>Y=[some (.ref t),some (.str s),some (.ref lr),some (.ref q)]×' FrAt a.Fraction r q x×'(x<0/\Q .non r∨¬x<0/\r=H)) ?_ ?_
 ·walk_at"rd"
  by_cases c:x<0
  ·refine kG (lD ((sgn_lt x).mpr c)) ?_;refine⟨_,rfl,t,_,X,_,_,rfl,ht,T.cl_Taking,T.na_Taking_sources,fsT_o _ _ _ _ _,?_⟩;refine⟨.inl ⟨rfl,_,SqL.of N⟩,?_⟩;refine⟨_,rfl,_,rfl,0,1,rfl,by decide,sm1,λz U nz s1 B=>?_⟩;rw[show Rat.divInt 0 1=0 from rfl]at B;refine⟨z,_,rfl,B,_,rfl,z,q,_,_,rfl,B,m.mono s1,Bd.zero.smr (by decide),sx,True.intro,λy H2 ny s2 fy=>?_⟩;have l:=s1.trans s2;intro e b M S _;refine⟨e,b,lr,y,s,rfl,aE,rfl,?_⟩;have ne:=newE (s:=s) (lr:=lr) fy M S;generalize upd (upd (upd H2 b (.own e)) e (.ins a.End b [])) e (.ins a.End b (fsE s lr y))=L at ne⊢;obtain⟨n1,s3,o,q3,D,I⟩:=ne;have i:=l.trans s3;refine⟨lo,_,_,rfl,rfl,i _ _ N,aU (by lia),rfl,?_,.inl ⟨c,k1 c e L ⟨l.free n1,i,o,q3,D,?_⟩⟩⟩
   ·obtain⟨dq,g⟩:=m.mono i;exact⟨dq,by rw[aG (bD g (i _ _ N) (by intro z;cases z))];exact g⟩
   ·rw[show-x=0-x by grind];exact I
  ·refine gV (lz λz=>c ((sgn_lt x).mp z)) ?_;exact⟨rfl,m,.inr ⟨c,rfl⟩⟩
 rintro zU O Y U⟨rfl,R,G⟩;subst O;walk_at"rd"
 rcases G with⟨c,hq⟩|⟨c,rfl⟩
 ·refine gV (lz λz=>?_) hq
  have:=(iD x).mp z
  grind
 ·by_cases c2:0<x
  ·refine kG (lD ((iD x).mpr c2)) ?_;refine⟨_,rfl,t,_,X,_,_,rfl,ht,T.cl_Taking,T.na_Taking_sinks,fsT_i _ _ _ _ _,?_⟩;refine⟨.inl ⟨rfl,_,SqL.of Z⟩,?_⟩;refine⟨_,rfl,_,rfl,_,rfl,?_⟩;intro e b M S _;refine⟨e,b,lr,q,s,rfl,aE,rfl,?_⟩;have ne:=newE (s:=s) (lr:=lr) R M S;generalize upd (upd (upd U b (.own e)) e (.ins a.End b [])) e (.ins a.End b (fsE s lr q))=L at ne⊢;exact⟨li,_,_,rfl,rfl,ne.2.1 _ _ Z,aU (by lia),k2 c2 e L ne⟩
  ·refine gV (lz λz=>c2 ((iD x).mp z)) (k3 ?_);grind
inductive IspSink(a:Ad)(vs:List V)(H:Hp)(Q:VK):Prop
 |mk(H0:Hp)(t p d ls lo li:Addr)(es fs:List Addr)(A:Str->Rat)(ss:List SD)(sr sk:List EN)(s:Str)(h1:vs=[.ref t,.str s])(h2:TkAt a H0 H t p d ls lo li es fs A ss sr sk)(h3:(∀(i:Nat)(e:Addr)(rg:List WD)(r:Rat),fs[i]?=some e->sk[i]?=some ((s,rg),r)->0<r->Q (.ref e) H))(h4:((∀x∈sk,x.1.1=s->¬0<x.2)->Q .non H)):IspSink a vs H Q
noncomputable def spSink(a:Ad):Sp:=λvs H Q _=>IspSink a vs H Q
theorem hE(T:TX K mg a):MtB P w K mg base CX0 a.Taking "sink_at" 2 ["self","place"] (spSink a):=by
 refine T.m_Taking_sink_at.okA sc_Taking_sink_at λf aa A B s H vs Q E o h=>?_;obtain⟨H0,t,p,d,ls,lo,I,c,fs,A,ss,sr,F,s,rfl,D,S,X⟩:=h
 refine⟨_,(aD (bR lj rfl (bW (aY (pv 0) rfl)) (aQ (i:=2) sc_Taking_sink_at.nd) (aF (bG (PW.pt (gJ (aP eJ (aY (pv 2) rfl) (pv 1)) (fL (aP op_gt (eV T.fr (aY (pv 2) rfl) (eX T) o aJ) aC)))) (aF (aO (pv 2))) aV)))
  (aF (aO pe_non))),?_⟩
 walk_at"q"
 obtain⟨O,Z⟩:=D.ob;refine⟨_,rfl,t,_,O,_,_,rfl,Z,T.cl_Taking,T.na_Taking_sinks,fsT_i _ _ _ _ _,I,rfl,⟨_,SqL.of D.si⟩,?_⟩;refine cF (K:=K) (a:=I) (xs:=fs.map .ref) (λi σ m=>m=H/\∃G,σ=[some (.ref t),some (.str s),G]/\∀x∈F.take i,x.1.1=s->¬0<x.2) ⟨rfl,_,rfl,λr o=>by rw[List.take_zero]at o;cases o⟩ ((by rintro i σ m _⟨e,_⟩;exact by rw[e];exact SqL.of D.si)) ?_ ?_
 ·rintro i v σ m b⟨rfl,G,rfl,no⟩;obtain⟨x,ex,e,l,lr,q,rfl,J,Y,R,fq⟩:=D.ri.get b;obtain⟨⟨L,N⟩,r⟩:=x;have M:F.take (i+1)=F.take i++[((L,N),r)]:=by rw[kX,ex];rfl
  have U:fs[i]?=some e:=by
   rw[kP]at b
   cases ef:fs[i]? with
   |none=>rw[ef]at b;cases b
   |some e'=>rw[ef]at b;cases b;rfl
  refine⟨_,rfl,e,_,l,_,_,rfl,J,T.cl_End,T.na_End_place,fsE_s _ _ _,_,rfl,rfl,_,rfl,?_⟩;by_cases hs:L=s
  ·subst hs;refine kG (lD rfl) ?_;refine⟨_,rfl,e,_,l,_,_,rfl,J,T.cl_End,T.na_End_rest,fsE_q _ _ _,?_⟩;walk_at"rd"
   by_cases hp:0<r
   ·refine kG (lD ((iD r).mpr hp)) ?_;exact⟨_,rfl,S i e N r U ex hp⟩
   ·refine gV (lz λz=>hp ((iD r).mp z)) ⟨rfl,_,rfl,λy j c=>?_⟩;rw[M]at j;rcases kU.mp j with z|z
    ·exact no y z c
    ·cases kS.mp z;exact hp
  ·refine gV (lz λz=>hs (V.str.inj z)) ?_;refine⟨rfl,_,rfl,λy j c=>?_⟩;rw[M]at j;rcases kU.mp j with z|z
   ·exact no y z c
   ·cases kS.mp z;exact absurd c hs
 ·rintro σ m⟨rfl,G,rfl,no⟩
  have:=D.ri.1
  rw[this,kZ]at no;exact X no
end
end G
namespace G
open PySem L2
section
theorem EndIs.mv'(h:EndIs a X H v x)(k:Mv X H H')(hl:Lsts X H)(he:∀e dx s lr q,H e=some (.ins a.End dx (fsE s lr q))->v=.ref e->H' e=H e):EndIs a X H' v x:=by
 obtain⟨e,dx,lr,q,rfl,c,j,b,i⟩:=h;exact⟨e,dx,lr,q,rfl,by rw[he e dx _ lr q c rfl];exact c,k _ _ j b Plain.lst,b,k.fr hl i⟩
section
variable{H0 H H':Hp}{t p d ls lo li:Addr}{es fs:List Addr}{A:Str->Rat}{ss:List SD}{sr sk:List EN}
theorem TkAt.mono(h:TkAt a H0 H t p d ls lo li es fs A ss sr sk)(s:Same H H'):TkAt a H0 H' t p d ls lo li es fs A ss sr sk:=by
 obtain⟨b,m⟩:=h.ob;obtain⟨l,hs,o⟩:=h.st;have i:∀(v:V)(e b:Addr)(j:Str)(c q:Addr),H e=some (.ins a.End b (fsE j c q))->v=.ref e->H' e=H e:=λv e b j c q z _=>by rw[z];exact s _ _ z
 exact⟨h.sm.trans s,h.nt,h.ns,h.nd,h.ne,h.un,⟨b,s _ _ m⟩,h.pl.mono s,⟨l,s _ _ hs,o.mono λv x z=>z.mv (.of s) h.ls3⟩,s _ _ h.so,s _ _ h.si,h.ro.mono λv x z=>z.mv' (.of s) h.ls3 (i v),h.ri.mono λv x z=>z.mv' (.of s) h.ls3 (i v),h.no,h.ni,h.oi,h.nlo,h.nli,h.sd,h.sh⟩
theorem TkAt.setd(h:TkAt a H0 H t p d ls lo li es fs A ss sr sk)(ho:H t=some (.ins a.Taking dx (fsT p d ls lo li)))(nd:H0 d'=none)(pl:PlanA a H d' A' 24):TkAt a H0 (upd H t (.ins a.Taking dx (fsT p d' ls lo li))) t p d' ls lo li es fs A' ss sr sk:=by
 obtain⟨w,hs,B⟩:=h.st;have k:Mv [ls,lo,li] H (upd H t (.ins a.Taking dx (fsT p d' ls lo li))):=.put ho jV
 have r:∀(v:V)(e c:Addr)(s:Str)(m q:Addr),H e=some (.ins a.End c (fsE s m q))->v=.ref e->upd H t (.ins a.Taking dx (fsT p d' ls lo li)) e=H e:=λv e c s m q z _=>by
  refine aG λy=>?_;rw[y,ho]at z;injection z with z
  injection z with _ _ z
  exact absurd (lW (λl=>(l.map Prod.fst)[0]?) z) (by show¬some ("on":Str)=some ("place":Str);decide+kernel)
 have j:∀{b:Addr}{i:List V},H b=some (.lst i)->upd H t (.ins a.Taking dx (fsT p d' ls lo li)) b=some (.lst i):=λ{b}{i}z=>by rw[aG (bD z ho (by intro q;cases q))];exact z
 exact⟨λb o e=>by rw[aG (aN e h.nt)];exact h.sm _ _ e,h.nt,h.ns,nd,h.ne,h.un,⟨dx,aE⟩,k.plan h.ls3 pl,⟨w,j hs,B.mono λv x z=>z.mv k h.ls3⟩,j h.so,j h.si,h.ro.mono λv x z=>z.mv' k h.ls3 (r v),h.ri.mono λv x z=>z.mv' k h.ls3 (r v),h.no,h.ni,h.oi,h.nlo,h.nli,h.sd,h.sh⟩
theorem TkAt.app(h:TkAt a H0 H t p d ls lo li es fs A ss sr sk)(hs:H ls=some (.lst ts))(sv:StIs a [ls,lo,li] H v s)(nd:s.ad.Nodup)(fr:∀l∈s.ad,H0 l=none/\¬l∈ss.flatMap (·.ad)):TkAt a H0 (upd H ls (.lst (ts++[v]))) t p d ls lo li es fs A (ss++[s]) sr sk:=by
 obtain⟨D,hs',I⟩:=h.st;obtain⟨E,r⟩:=h.ob;rw[hs]at hs'
 cases hs';have k:Mv [ls,lo,li] H (upd H ls (.lst (ts++[v]))):=.app (by simp);have j:∀(m:V)(e c:Addr)(w:Str)(i q:Addr),H e=some (.ins a.End c (fsE w i q))->m=.ref e->upd H ls (.lst (ts++[v])) e=H e:=λm e c w i q z _=>aG (bD z hs (by intro q;cases q))
 exact⟨λb o e=>by rw[aG (aN e h.ns)];exact h.sm _ _ e,h.nt,h.ns,h.nd,h.ne,h.un,⟨E,by rw[aG (bD r hs (by intro q;cases q))];exact r⟩,k.plan h.ls3 h.pl,⟨_,aE,RowAt.snoc (I.mono λv x z=>z.mv k h.ls3) (sv.mv k h.ls3)⟩,by rw[aG h.no];exact h.so,by rw[aG h.ni];exact h.si,h.ro.mono λv x z=>z.mv' k h.ls3 (j v),h.ri.mono λv x z=>z.mv' k h.ls3 (j v),h.no,h.ni,h.oi,h.nlo,h.nli,by
  rw[List.flatMap_append,List.flatMap_singleton];exact lV.mpr ⟨h.sd,nd,λx F y G e=>(fr y G).2 (by rw[<-e];exact F)⟩,λl B=>by
  rw[List.flatMap_append,List.flatMap_singleton]at B;exact(kU.mp B).elim (h.sh l) λz=>(fr l z).1⟩
theorem E_inj(h:HO.ins C dx (fsE s lr q)=.ins C dx' (fsE s' lr' q')):dx=dx'/\s=s'/\lr=lr'/\q=q':=by
 injection h with _ h1 h2
 unfold fsE at h2;simp only[List.cons.injEq,Prod.mk.injEq,V.str.injEq,V.ref.injEq,true_and,and_true]at h2;exact⟨h1,h2.1,h2.2.1,h2.2.2⟩
theorem ends_set(nd:es.Nodup)(hl:Lsts X H)(h:RowAt (EndIs a X) H (es.map .ref) xs)(hi:es[i]?=some e)(hx:xs[i]?=some (s,r))(he:H e=some (.ins a.End dx (fsE s.1 lr q)))(fq:FrAt a.Fraction H q' r'):RowAt (EndIs a X) (upd H e (.ins a.End dx (fsE s.1 lr q'))) (es.map .ref) (xs.set i (s,r')):=by
 have k:Mv X H (upd H e (.ins a.End dx (fsE s.1 lr q'))):=.put he gN;refine⟨by rw[List.length_set];exact h.1,λj v x b l=>?_⟩;rw[kP]at b
 cases ej:es[j]? with
 |none=>rw[ej]at b;cases b
 |some e'=>
  rw[ej]at b
  cases b;by_cases c:j=i
  ·subst c;rw[hi]at ej
   cases ej;rw[List.getElem?_set_self (kL.mp hx).1]at l
   cases l;obtain⟨B,p,t,A,z,o,w,m,y⟩:=h.2 j (.ref e) (s,r) (by rw[kP,hi];rfl) hx
   cases z;rw[he]at o;obtain⟨_,_,rfl,_⟩:=E_inj (lJ o);exact⟨e,dx,lr,q',rfl,aE,k _ _ w m Plain.lst,m,k.fr hl fq⟩
  ·rw[List.getElem?_set_ne λz=>c z.symm]at l;have ne:e'≠e:=λz=>c ((mo (kL.mp ej).1 nd).mp (by rw[ej,hi,z]));exact(h.2 j (.ref e') x (by rw[kP,ej];rfl) l).mv k hl (aG ne)
theorem ends_keep{s:Str×List WD}(ni:¬e∈es)(hl:Lsts X H)(h:RowAt (EndIs a X) H (es.map .ref) xs)(he:H e=some (.ins a.End dx (fsE s.1 lr q))):RowAt (EndIs a X) (upd H e (.ins a.End dx (fsE s.1 lr q'))) (es.map .ref) xs:=by
 have k:Mv X H (upd H e (.ins a.End dx (fsE s.1 lr q'))):=.put he gN;refine⟨h.1,λj v x b i=>?_⟩;have c:=b;rw[kP]at b
 cases ej:es[j]? with
 |none=>rw[ej]at b;cases b
 |some e'=>
  rw[ej]at b
  cases b;exact(h.2 j _ x c i).mv k hl (aG λz=>ni (by rw[<-z];exact kN ej))
theorem TkAt.oth{s:Str×List WD}(h:TkAt a H0 H t p d ls lo li es fs A ss sr sk)(hm:e∈es++fs)(he:H e=some (.ins a.End dx (fsE s.1 lr q))):Same H0 (upd H e (.ins a.End dx (fsE s.1 lr q')))/\(∃dx',upd H e (.ins a.End dx (fsE s.1 lr q')) t=some (.ins a.Taking dx' (fsT p d ls lo li)))/\PlanA a (upd H e (.ins a.End dx (fsE s.1 lr q'))) d A 24/\(∃ts,upd H e (.ins a.End dx (fsE s.1 lr q')) ls=some (.lst ts)/\RowAt (StIs a [ls,lo,li]) (upd H e (.ins a.End dx (fsE s.1 lr q'))) ts ss)/\upd H e (.ins a.End dx (fsE s.1 lr q')) lo=some (.lst (es.map .ref))/\upd H e (.ins a.End dx (fsE s.1 lr q')) li=some (.lst (fs.map .ref)):=by
 have k:Mv [ls,lo,li] H (upd H e (.ins a.End dx (fsE s.1 lr q'))):=.put he gN;obtain⟨dx',c⟩:=h.ob;obtain⟨ts,hs,m⟩:=h.st;have j:∀{b:Addr}{i:List V},H b=some (.lst i)->upd H e (.ins a.End dx (fsE s.1 lr q')) b=some (.lst i):=λ{b}{i}z=>by rw[aG (bD z he (by intro q;cases q))];exact z
 refine⟨λb o g=>by rw[aG (aN g (h.ne e hm))];exact h.sm _ _ g,⟨dx',?_⟩,k.plan h.ls3 h.pl,⟨ts,j hs,m.mono λv x z=>z.mv k h.ls3⟩,j h.so,j h.si⟩;rw[aG λz=>?_]
 ·exact c
 ·rw[z,he]at c;injection c with c
  injection c with _ _ c
  exact absurd (lW (λl=>(l.map Prod.fst)[0]?) c) (by show¬some ("place":Str)=some ("on":Str);decide+kernel)
theorem TkAt.setS(h:TkAt a H0 H t p d ls lo li es fs A ss sr sk)(hi:es[i]?=some e)(hx:sr[i]?=some (s,r))(he:H e=some (.ins a.End dx (fsE s.1 lr q)))(fq:FrAt a.Fraction H q' r'):TkAt a H0 (upd H e (.ins a.End dx (fsE s.1 lr q'))) t p d ls lo li es fs A ss (sr.set i (s,r')) sk:=by
 have l:e∈es++fs:=lf _ (kN hi);obtain⟨m,y,b,x,c,o⟩:=h.oth (q':=q') l he;obtain⟨j,_,w⟩:=lV.mp h.un;exact⟨m,h.nt,h.ns,h.nd,h.ne,h.un,y,b,x,c,o,ends_set j h.ls3 h.ro hi hx he fq,ends_keep (λz=>w e (kN hi) e z rfl) h.ls3 h.ri he,h.no,h.ni,h.oi,h.nlo,h.nli,h.sd,h.sh⟩
theorem TkAt.setK(h:TkAt a H0 H t p d ls lo li es fs A ss sr sk)(hi:fs[i]?=some e)(hx:sk[i]?=some (s,r))(he:H e=some (.ins a.End dx (fsE s.1 lr q)))(fq:FrAt a.Fraction H q' r'):TkAt a H0 (upd H e (.ins a.End dx (fsE s.1 lr q'))) t p d ls lo li es fs A ss sr (sk.set i (s,r')):=by
 have l:e∈es++fs:=lH _ (kN hi);obtain⟨m,y,b,x,c,o⟩:=h.oth (q':=q') l he;obtain⟨_,j,w⟩:=lV.mp h.un;exact⟨m,h.nt,h.ns,h.nd,h.ne,h.un,y,b,x,c,o,ends_keep (λz=>w e z e (kN hi) rfl) h.ls3 h.ro he,ends_set j h.ls3 h.ri hi hx he fq,h.no,h.ni,h.oi,h.nlo,h.nli,h.sd,h.sh⟩
theorem ends_there(h:RowAt (EndIs a X) H (es.map .ref) xs)(he:e∈es):H e≠none:=λz=>by
 obtain⟨i,c⟩:=lL.mp he;obtain⟨x,_,o,m,l,q,j,b,_⟩:=h.get (i:=i) (t:=.ref e) (by rw[kP,c];rfl)
 cases j;rw[z]at b
 cases b
theorem TkAt.fresh(h:TkAt a H0 H t p d ls lo li es fs A ss sr sk)(n:H e=none):¬e∈es/\¬e∈fs:=⟨λz=>ends_there h.ro z n,λz=>ends_there h.ri z n⟩
theorem TkAt.addS(h:TkAt a H0 H t p d ls lo li es fs A ss sr sk)(n:NewEnd a H H' e s lr x)(hlr:H lr=some (.lst (nmV rg)))(nlr:¬lr∈[ls,lo,li]):TkAt a H0 (upd H' lo (.lst (es.map .ref++[.ref e]))) t p d ls lo li (es++[e]) fs A ss (sr++[((s,rg),x)]) sk:=by
 obtain⟨ne,l,J,q,B,I⟩:=n;have b:=h.mono l;obtain⟨L,G⟩:=h.fresh ne;obtain⟨M,hs,P⟩:=b.st;obtain⟨o,F⟩:=b.ob;have k:Mv [ls,lo,li] H' (upd H' lo (.lst (es.map .ref++[.ref e]))):=.app (by simp);have D:∀(E:V)(c j:Addr)(l:Str)(lr q:Addr),H' c=some (.ins a.End j (fsE l lr q))->E=.ref c->upd H' lo (.lst (es.map .ref++[.ref e])) c=H' c:=λE c j l lr q z _=>aG (bD z b.so (by intro q;cases q));obtain⟨N,O,K⟩:=lV.mp h.un;refine⟨aZ h.nlo b.sm,h.nt,h.ns,h.nd,λc w=>?_,?_,⟨o,by rw[aG (bD F b.so (by intro q;cases q))];exact F⟩,k.plan b.ls3 b.pl,⟨M,by rw[aG h.no.symm];exact hs,P.mono λv x z=>z.mv k b.ls3⟩,?_,by rw[aG h.oi.symm];exact b.si,?_,b.ri.mono λv x z=>z.mv' k b.ls3 (D v),h.no,h.ni,h.oi,h.nlo,h.nli,h.sd,h.sh⟩
 ·rcases kU.mp w with z|z
  ·rcases kU.mp z with z|z
   ·exact h.ne _ (lf _ z)
   ·rw[kS.mp z];exact h.sm.free ne
  ·exact h.ne _ (lH _ z)
 ·refine lV.mpr ⟨lV.mpr ⟨N,by simp,λx r y m i=>L ?_⟩,O,λx r y m i=>?_⟩
  ·rw[kS.mp m]at i;rw[<-i];exact r
  ·rcases kU.mp r with z|z
   ·exact K x z y m i
   ·rw[kS.mp z]at i;exact G (by rw[i];exact m)
 ·rw[aE,kO];rfl
 ·rw[kO];refine RowAt.snoc (b.ro.mono λv x z=>z.mv' k b.ls3 (D v)) ⟨e,J,lr,q,rfl,?_,k _ _ (l _ _ hlr) nlr Plain.lst,nlr,k.fr b.ls3 I⟩;rw[aG (bD B b.so (by intro q;cases q))];exact B
theorem TkAt.addK(h:TkAt a H0 H t p d ls lo li es fs A ss sr sk)(n:NewEnd a H H' e s lr x)(hlr:H lr=some (.lst (nmV rg)))(nlr:¬lr∈[ls,lo,li]):TkAt a H0 (upd H' li (.lst (fs.map .ref++[.ref e]))) t p d ls lo li es (fs++[e]) A ss sr (sk++[((s,rg),x)]):=by
 obtain⟨ne,l,J,q,B,I⟩:=n;have b:=h.mono l;obtain⟨L,G⟩:=h.fresh ne;obtain⟨M,hs,P⟩:=b.st;obtain⟨o,F⟩:=b.ob;have k:Mv [ls,lo,li] H' (upd H' li (.lst (fs.map .ref++[.ref e]))):=.app (by simp);have D:∀(E:V)(c j:Addr)(l:Str)(lr q:Addr),H' c=some (.ins a.End j (fsE l lr q))->E=.ref c->upd H' li (.lst (fs.map .ref++[.ref e])) c=H' c:=λE c j l lr q z _=>aG (bD z b.si (by intro q;cases q));obtain⟨N,O,K⟩:=lV.mp h.un;refine⟨aZ h.nli b.sm,h.nt,h.ns,h.nd,λc r=>?_,?_,⟨o,by rw[aG (bD F b.si (by intro q;cases q))];exact F⟩,k.plan b.ls3 b.pl,⟨M,by rw[aG h.ni.symm];exact hs,P.mono λv x z=>z.mv k b.ls3⟩,by rw[aG h.oi];exact b.so,?_,b.ro.mono λv x z=>z.mv' k b.ls3 (D v),?_,h.no,h.ni,h.oi,h.nlo,h.nli,h.sd,h.sh⟩
 ·rcases kU.mp r with z|z
  ·exact h.ne _ (lf _ z)
  ·rcases kU.mp z with z|z
   ·exact h.ne _ (lH _ z)
   ·rw[kS.mp z];exact h.sm.free ne
 ·refine lV.mpr ⟨N,lV.mpr ⟨O,by simp,λx m y w i=>G ?_⟩,λx m y w i=>?_⟩
  ·rw[kS.mp w]at i;rw[<-i];exact m
  ·rcases kU.mp w with z|z
   ·exact K x m y z i
   ·rw[kS.mp z]at i;exact L (by rw[<-i];exact m)
 ·rw[aE,kO];rfl
 ·rw[kO];refine RowAt.snoc (b.ri.mono λv x z=>z.mv' k b.ls3 (D v)) ⟨e,J,lr,q,rfl,?_,k _ _ (l _ _ hlr) nlr Plain.lst,nlr,k.fr b.ls3 I⟩;rw[aG (bD B b.si (by intro q;cases q))];exact B
end
noncomputable def RBd(l:List WD)(x:Rat):Prop:=Bd 223900 x/\(∀n,Bd 223900 (x*sA 1 l n))/\Bd 223900 ((1-aM l)*x)
noncomputable def RgOut(ring:List WD)(s0:Str)(x:Rat)(ss:List SD)(sr sk:List EN)(ss':List SD)(sr' sk':List EN):Prop:=
 (aM ring=1/\(∃ad,ss'=ss++[⟨ring,[],[],x,ad⟩])/\sr'=sr/\sk'=sk)∨(1<aM ring/\ss'=ss/\sr'=sr++[((s0,ring),(aM ring-1)*x)]/\sk'=sk)∨(aM ring<1/\ss'=ss/\sr'=sr/\sk'=sk++[((s0,ring),(1-aM ring)*x)])
inductive IspTakeR(a:Ad)(vs:List V)(H:Hp)(Q:VK):Prop
 |mk(H0:Hp)(t p d ls lo li l:Addr)(es fs:List Addr)(A:Str->Rat)(ss:List SD)(sr sk:List EN)(ps:List (Str×Rat))(ns ring:List WD)(E:Nat)(s0:Str)(h1:vs=[.ref t,.ref l])(h2:TkAt a H0 H t p d ls lo li es fs A ss sr sk)(h3:NetAt a H0 p ps ns)(h4:(ns.map (·.nm)).Nodup)(h5:(∀d∈ns,GnE E d/\SmR d.x/\Bd 40 (aW d.kd d.x)))(h6:ns.length<=24)(h7:H l=some (.lst (nmV ring)))(h8:¬l∈[ls,lo,li])(h9:H0 l=none)(h10:¬l∈ss.flatMap (·.ad))(h11:RingW ns ring)(h12:PthW s0 ring s0)(h13:ring.length<=6)(h14:(∀d∈ring,A d.nm≠0/\RBd ring (A d.nm/sA 1 ring d.nm)))(h15:(∀n,0<=A n/\Bd 223900 (A n)))(h16:(∀n,A n≠0->n∈ns.map (·.nm)))(h17:ss.length<=100)(h18:es.length<=100)(h19:fs.length<=100)(h20:∀H' d' es' fs' ss' sr' sk' x,TkAt a H0 H' t p d' ls lo li es' fs' (mns A ring x) ss' sr' sk'->0<x->(∀d∈ring,sA x ring d.nm<=A d.nm)->(∃d∈ring,x=A d.nm/sA 1 ring d.nm/\sA x ring d.nm=A d.nm)->RgOut ring s0 x ss sr sk ss' sr' sk'->Q .non H'):IspTakeR a vs H Q
noncomputable def spTakeR(a:Ad):Sp:=λvs H Q _=>IspTakeR a vs H Q
theorem jz(T:TX K mg a):MtB P w K mg base CX0 a.Taking "take_ring" 10 ["self","ring"] (spTakeR a):=by
 refine T.m_Taking_take_ring.okA sc_Taking_take_ring λf cp A bo s H vs Q E Z h=>?_;obtain⟨H0,t,p,d,N,lo,li,l,es,fs,A,ss,sr,sk,ps,ns,ring,E',s0,rfl,D,hn,ai,gn,ln,hl,U,ce,bj,rg,pth,lr,hA,bA,sub,ca,bc,bv,k⟩:=h
 refine⟨_,(aD (aI (i:=2) sc_Taking_take_ring.nd (aR (sentA T) Z aJ (aA (aY (pv 0) rfl) (aA (pv 1) (aA (cL (mk1 T) Z T.mg_Fraction aJ (aA aC aB)) aB)))))
  (aD (aI (i:=3) sc_Taking_take_ring.nd (aR (jM T) Z aJ (aA (aY (pv 0) rfl) (aA (pv 2) aB))))
  (aD (cP (pv 0) (aR (ok_less T) Z aJ (aA (aY (pv 0) rfl) (aA (pv 2) (aA (pv 3) aB)))) rfl)
  (aD (aI (i:=4) sc_Taking_take_ring.nd (cM T.fr (cM T.fr (cL (mk1 T) Z T.mg_Fraction aJ (aA aC aB)) (eR T) Z aJ (aA (aR (fG T) Z aJ (aA (aY (pv 0) rfl) (aA (pv 1) aB))) aB)) (gM T) Z aJ (aA (pv 3) aB)))
  (bB (bG (aP eJ (eV T.fr (pv 4) (eX T) Z aJ) aC) (aF (bZ (pe_bm mY mQ mR fc (aY (pv 0) rfl) (aA (cE (aA (pv 1) (aA (bK aB) (aA (bK aB) (aA (pv 3) aB))))) aB)))) aV)
  (aF (bZ (eY (CX:=CX0) (pv 0) Z aJ (aA (aY (eY (CX:=CX0) (aY (pv 0) rfl) Z aJ (aA (aL aX (pv 1) aC) aB)) rfl) (aA (pv 1) (aA (pv 4) aB))))))))))),?_⟩
 walk_at"q"
 obtain⟨dx,ho⟩:=D.ob;have gE:∀d∈ring,GnE E' d:=λd hd=>(gn d (rg.sub d hd)).1;have az:(ring.map (·.nm)).Nodup:=bM ai rg.sub rg.nd;have S:WkS 40 ring:=⟨λd hd=>(gn d (rg.sub d hd)).2,by lia,by decide,lr,az⟩;have O:OnNet K a H p l ps ns ring:=⟨hn.mono D.sm,ai,SqL.of hl,rg.sub,pth.chain,by lia⟩;have bU:∀n,Bd 800 (sA 1 ring n):=λn=>(S.sA Bd.one n).mono (by decide);have uP:∀d∈ring,0<sA 1 ring d.nm:=λd hd=>(sA_gq (m:=ring.length) az gE (by lia) hd).1;refine⟨_,rfl,t,_,dx,_,_,rfl,ho,T.cl_Taking,T.na_Taking_on,fsT_on _ _ _ _ _,_,rfl,1,1,rfl,by decide,sm1,λo H1 no s1 fo=>?_⟩;rw[show Rat.divInt 1 1=1 from rfl]at fo;refine⟨p,l,o,ps,ns,ring,1,40,0,rfl,O.mono s1,fo,S,Bd.one,by decide,λr H2 nr s2 pr=>?_⟩;have an:=s1.trans s2;have D2:=D.mono an;obtain⟨bf,us,he,te,bw,lu,iu⟩:=unitP gE az pr;obtain⟨ci,ks,hd,td,cj,lk,ik⟩:=id D2.pl
 have bh:us≠[]:=λz=>by
  obtain⟨y,hy⟩:=List.exists_mem_of_ne_nil _ rg.ne
  have:=(iu y.nm).mpr (kQ.mpr ⟨y,hy,rfl⟩)
  rw[z]at this
  cases this
 have be:d≠r:=by
  obtain⟨cq,_,h0,_⟩:=id (D.mono s1).pl;exact aN h0 nr
 have a5:∀n,n∈us->∃y∈ring,y.nm=n:=λn hn=>kQ.mp ((iu n).mp hn);refine⟨_,rfl,t,_,dx,_,_,rfl,an _ _ ho,T.cl_Taking,T.na_Taking_rest,fsT_d _ _ _ _ _,_,rfl,d,r,ci,bf,ks,us,A,sA 1 ring,rfl,hd,td,he,te,bw,bh,by lia,λn hn=>?_,be,λq H3 x s3 fx bt cg=>?_⟩
 ·obtain⟨y,hy,rfl⟩:=a5 n hn
  have:=uP y hy
  exact⟨(ik _).mpr (hA y hy).1,(bA _).2.smr (by decide),(bU _).smr (by decide),by grind,(hA y hy).2.1.smr (by decide)⟩
 have aw:=an.trans s3;obtain⟨n0,b5,aj⟩:=bt;obtain⟨y0,ab,rfl⟩:=a5 n0 b5;obtain⟨b1,b2,b3⟩:RBd ring x:=by rw[<-aj];exact(hA y0 ab).2
 have dv:∀d∈ring,A d.nm/sA 1 ring d.nm*sA 1 ring d.nm=A d.nm:=λd hd=>mw (by have:=uP d hd;grind)
 have x0:0<x:=by
  rw[<-aj,lO];exact cV (by have:=(hA y0 ab).1;have:=(bA y0.nm).1;grind) (fu (uP y0 ab))
 have Y:∀d∈ring,sA x ring d.nm<=A d.nm:=λy hy=>by
  have h1:=cg _ ((iu _).mpr (kQ.mpr ⟨y,hy,rfl⟩));have h2:=mj h1 (lI (uP y hy));rw[dv y hy]at h2;rw[eO];exact h2
 have au:∃d∈ring,x=A d.nm/sA 1 ring d.nm/\sA x ring d.nm=A d.nm:=⟨y0,ab,aj.symm,by rw[eO,<-aj];exact dv y0 ab⟩;have D3:=D2.mono s3;refine⟨_,rfl,t,_,dx,_,_,rfl,aw _ _ ho,T.cl_Taking,T.na_Taking_rest,fsT_d _ _ _ _ _,_,rfl,_,rfl,d,r,q,A,sA 1 ring,24,6,x,rfl,D3.pl,pr.mono s3,by decide,by decide,fx,b1.mono (by decide),λn=>⟨(bA n).2.mono (by decide),(bU n).mono (by decide),(b2 n).mono (by decide)⟩,λr' H4 bp s4 a6=>?_⟩;have ag:=aw.trans s4;have aq:=ag _ _ ho
 have ef:(λn=>A n-x*sA 1 ring n)=mns A ring x:=funext λn=>by
  unfold mns;rw[<-eO]
 rw[ef]at a6
 have b0:PlanA a H4 r' (mns A ring x) 24:=by
  obtain⟨bl,cd,as,bx,ba,_,a4⟩:=a6;refine⟨bl,cd,as,bx,ba,?_,a4⟩
  have:=eT ba (ys:=ns.map (·.nm)) λn hn=>?_
  ·rw[kK]at this
   lia
  ·have:=(a4 n).mp hn
   by_cases c:n∈ring.map (·.nm)
   ·obtain⟨y,hy,rfl⟩:=kQ.mp c;exact kQ.mpr ⟨y,rg.sub y hy,rfl⟩
   ·refine sub n λz=>this ?_;unfold mns;rw[i9 c,z];decide+kernel
 have D5:=(D.mono ag).setd aq ((D.sm.trans aw).free bp) b0;have kp:Mv [N,lo,li] H4 (upd H4 t (.ins a.Taking dx (fsT p r' N lo li))):=.put aq jV;have ay:=kp.fr (D.mono ag).ls3 (fx.mono s4);have ax:=kp _ _ (ag _ _ hl) U Plain.lst;have ao:upd H4 t (.ins a.Taking dx (fsT p r' N lo li)) t=some (.ins a.Taking dx (fsT p r' N lo li)):=aE;refine⟨_,rfl,t,a.Taking,dx,_,rfl,aq,T.cl_Taking,T.na_Taking_rest,by show 5<1000;decide,?_⟩;rw[fsT_put];generalize upd H4 t (.ins a.Taking dx (fsT p r' N lo li))=H5 at D5 kp ay ax ao⊢;have O5:OnNet K a H5 p l ps ns ring:=⟨hn.mono D5.sm,ai,SqL.of ax,rg.sub,pth.chain,by lia⟩;refine⟨1,1,rfl,by decide,sm1,λo2 H6 ck s6 ah=>?_⟩;rw[show Rat.divInt 1 1=1 from rfl]at ah;refine⟨o2,_,rfl,ah,_,rfl,t,_,dx,_,_,rfl,s6 _ _ ao,T.cl_Taking,T.na_Taking_on,fsT_on _ _ _ _ _,_,rfl,p,l,ps,ns,ring,40,rfl,O5.mono s6,S.b,by decide,by lia,λg H7 s7 fg=>?_⟩;refine⟨o2,g,_,_,rfl,ah.mono s7,fg,Bd.one.s9,S.g.s9,True.intro,λy H8 ny s8 fy=>?_⟩;have a0:=s6.trans (s7.trans s8);refine⟨y,_,rfl,fy,_,rfl,y,q,_,_,rfl,fy,ay.mono a0,(Bd.one.sub S.g).s9,b1.s9,True.intro,λev H9 cs s9 a7=>?_⟩;have R:=a0.trans s9;have D9:=D5.mono R;have cf:=ay.mono R;have ae:=R _ _ ax;have br:=R _ _ ao;clear fy fg ah fo a0 R;refine dP (λσ' H'=>yE1 λak=>σ'=[some (.ref t),some (.ref l),some (.ref r),some (.ref q),some (.ref ev)]×' TkAt a H0 H' t p r' N lo li es fs (mns A ring x) ak sr sk×' H' l=some (.lst (nmV ring))×' FrAt a.Fraction H' ev ((1-aM ring)*x)×'((aM ring=1/\∃ad,ak=ss++[⟨ring,[],[],x,ad⟩])∨(aM ring≠1/\ak=ss))) ?_ ?_
 ·walk_at"rd"
  by_cases c:(1-aM ring)*x=0
  case neg=>
   refine gV (lz λz=>c (sgn_zero.mp (V.int.inj z))) ?_;exact⟨ss,rfl,D9,ae,a7,.inr ⟨λz=>c (by rw[z];grind),rfl⟩⟩
  have g1:aM ring=1:=by
   rcases Rat.mul_eq_zero.mp c with z|z
   ·grind
   ·grind
  refine kG (lD (lW V.int (sgn_zero.mpr c))) ?_;obtain⟨ts,a8,ch⟩:=id D9.st;refine⟨_,rfl,t,_,dx,_,_,rfl,br,T.cl_Taking,T.na_Taking_strands,fsT_s _ _ _ _ _,?_⟩;refine⟨.inl ⟨rfl,_,SqL.of a8⟩,?_⟩;refine⟨_,rfl,by decide,λl2 M=>?_⟩;obtain⟨a9,zq,L,av⟩:=uG (o:=.lst []) M;rw[zq];refine⟨by decide,λl3 J=>?_⟩;obtain⟨a1,zq,ar,bb⟩:=uG (o:=.lst []) J;rw[zq];refine⟨_,rfl,(show 4<=PySem.sizeLine by decide),λu nu=>?_⟩;obtain⟨cn,zq,I,hu⟩:=uG (o:=.tup [.ref l,.ref l2,.ref l3,.ref q]) nu;rw[zq];have B:=L.trans (ar.trans I);have a3:=D9.mono B
  have n2:¬l2∈[N,lo,li]:=λz=>by
   obtain⟨zs,e⟩:=D9.ls3 _ z;rw[M]at e
   cases e
  have n3:¬l3∈[N,lo,li]:=λz=>by
   obtain⟨zs,e⟩:=(D9.mono L).ls3 _ z;rw[J]at e
   cases e
  have am:=B _ _ a8;have bm:=aN ae M;have bz:=aN (L _ _ ae) J;have bq:=aN av J
  have G:=a3.app am (s:=⟨ring,[],[],x,[l,l2,l3]⟩) ⟨u,l,l2,l3,q,rfl,hu,B _ _ ae,ar.trans I _ _ av,I _ _ bb,U,n2,n3,cf.mono B,rfl⟩ (by simp[bm,bz,bq]) (λb hb=>by
   simp only[lx,lA,nR]at hb;rcases hb with rfl|rfl|rfl
   ·exact⟨ce,bj⟩
   ·exact⟨D9.sm.free M,D9.ads M⟩
   ·exact⟨(D9.mono L).sm.free J,(D9.mono L).ads J⟩)
  have cr:ts.length<=100:=by rw[ch.1];exact ca
  refine⟨N,_,_,rfl,rfl,am,aU (by lia),?_⟩;refine⟨_,rfl,G,?_,(Mv.app (X:=[N,lo,li]) (by simp)).fr a3.ls3 (a7.mono B),.inl ⟨g1,_,rfl⟩⟩;rw[aG λz=>U (by rw[z];simp)];exact B _ _ ae
 rintro zU b9 σ' co⟨ak,rfl,G,ac,a2,ap⟩;obtain⟨af,aa⟩:=G.ob;obtain⟨y1,e1⟩:∃y1,ring[0]?=some y1:=by cases hring:ring with|nil=>exact absurd hring rg.ne|cons z zs=>exact⟨z,rfl⟩
 have cb:=rg.sub y1 (kN e1);have ys:y1.st=s0:=pth.head y1 (by rw[List.head?_eq_getElem?];exact e1);have al:=hn.mono G.sm;obtain⟨b6,dw,dy,hp,_,_⟩:=id al;have b4:=jk dw dy (m:="way") (by decide+kernel) (by decide+kernel);have i0:(nmV ring)[0]?=some (.str y1.nm):=by unfold nmV;rw[kP,e1];rfl
 subst b9;refine⟨_,rfl,t,a.Taking,af,_,7,["self","place","ring","come"],spAddE a,rfl,aa,jZ _ _ _ _ _ (by decide+kernel),T.cl_Taking,by decide,hG T,?_⟩;refine⟨_,rfl,t,_,af,_,_,rfl,aa,T.cl_Taking,T.na_Taking_on,fsT_on _ _ _ _ _,p,a.Net,b6,_,1,["self","name"],gB a,rfl,hp,b4,T.cl_Net,by decide,fH T,?_⟩;refine⟨_,rfl,l,_,_,_,rfl,rfl,SqL.of ac,atI_nat (j:=0) i0,p,ps,ns,y1,rfl,al,ai,cb,λv hx=>?_⟩;obtain⟨p1,vh,vc,qx,rfl,W,cm⟩:=id hx;obtain⟨bu,bg,bn,as,_⟩:=id W.ob;have c1:=cR T y1.kd;refine⟨p1,_,bu,bg,_,rfl,bn,c1.cl,c1.n2,as.st,_,rfl,_,rfl,?_⟩;rw[ys];refine⟨t,af,p,r',N,lo,li,l,ev,s0,(1-aM ring)*x,_,_,rfl,aa,a2,b3.s9,G.so,G.si,by rw[kK];exact bc,by rw[kK];exact bv,λc e b7 ne=>?_,λc e b7 ne=>?_,λc=>?_⟩
 ·have g1:1<aM ring:=Rat.not_le.mp λz=>by
   have:=eC (show 0<=1-aM ring by grind) (lI x0)
   grind
  obtain⟨g2,rfl⟩:=ap.resolve_left λz=>by rw[z.1]at g1;exact absurd g1 (by decide+kernel)
  rw[show-((1-aM ring)*x)=(aM ring-1)*x by grind]at ne;exact k _ r' _ _ _ _ _ x (G.addS ne ac U) x0 Y au (.inr (.inl ⟨g1,rfl,rfl,rfl⟩))
 ·have g1:aM ring<1:=Rat.not_le.mp λz=>by
   have:=eC (show 0<=aM ring-1 by grind) (lI x0)
   grind
  obtain⟨g2,rfl⟩:=ap.resolve_left λz=>by rw[z.1]at g1;exact absurd g1 (by decide+kernel)
  exact k _ r' _ _ _ _ _ x (G.addK ne ac U) x0 Y au (.inr (.inr ⟨g1,rfl,rfl,rfl⟩))
 ·have g1:aM ring=1:=by
   rcases Rat.mul_eq_zero.mp c with z|z
   ·grind
   ·grind
  obtain⟨g2,ad,rfl⟩:=ap.resolve_right λz=>z.1 g1;exact k _ r' _ _ _ _ _ x G x0 Y au (.inl ⟨g1,⟨ad,rfl⟩,rfl,rfl⟩)
end
end G
namespace G
open PySem L2
section
theorem TkAt.eS{i:Nat}(h:TkAt a H0 H t p d ls lo li es fs A ss sr sk)(hi:es[i]?=some e)(hx:sr[i]?=some (s,r)):∃dxe lre qe,H e=some (.ins a.End dxe (fsE s.1 lre qe))/\H lre=some (.lst (nmV s.2))/\¬lre∈[ls,lo,li]/\FrAt a.Fraction H qe r:=by
 obtain⟨w,c,b,j,z,q,m,l,o⟩:=h.ro.2 i (.ref e) (s,r) (by rw[kP,hi];rfl) hx
 cases z;exact⟨c,b,j,q,m,l,o⟩
theorem TkAt.eK{i:Nat}(h:TkAt a H0 H t p d ls lo li es fs A ss sr sk)(hi:fs[i]?=some e)(hx:sk[i]?=some (s,r)):∃dxe lre qe,H e=some (.ins a.End dxe (fsE s.1 lre qe))/\H lre=some (.lst (nmV s.2))/\¬lre∈[ls,lo,li]/\FrAt a.Fraction H qe r:=by
 obtain⟨w,c,b,j,z,q,m,l,o⟩:=h.ri.2 i (.ref e) (s,r) (by rw[kP,hi];rfl) hx
 cases z;exact⟨c,b,j,q,m,l,o⟩
noncomputable def PB(l:List WD)(x:Rat):Prop:=Bd 223900 x/\(∀n,Bd 223900 (x*sA 1 l n))/\Bd 223900 (x*aM l)
inductive IspTakeP(a:Ad)(vs:List V)(H:Hp)(Q:VK):Prop
 |mk(H0:Hp)(t p d ls lo li l e f:Addr)(es fs:List Addr)(A:Str->Rat)(ss:List SD)(sr sk:List EN)(ps:List (Str×Rat))(ns path:List WD)(i j E:Nat)(k1 k2:Str×List WD)(r1 r2:Rat)(h1:vs=[.ref t,.ref e,.ref l,.ref f])(h2:TkAt a H0 H t p d ls lo li es fs A ss sr sk)(h3:NetAt a H0 p ps ns)(h4:(ns.map (·.nm)).Nodup)(h5:(∀d∈ns,GnE E d/\SmR d.x/\Bd 40 (aW d.kd d.x)))(h6:ns.length<=24)(h7:H l=some (.lst (nmV path)))(h8:¬l∈[ls,lo,li])(h9:H0 l=none)(h10:¬l∈ss.flatMap (·.ad))(h11:(∀x∈path,x∈ns))(h12:(path.map (·.nm)).Nodup)(h13:Chain path)(h14:path.length<=6)(h15:(∀d∈path,A d.nm≠0/\PB path (A d.nm/sA 1 path d.nm)))(h16:(∀n,0<=A n/\Bd 223900 (A n)))(h17:(∀n,A n≠0->n∈ns.map (·.nm)))(h18:ss.length<=100)(h19:es[i]?=some e)(h20:sr[i]?=some (k1,r1))(h21:fs[j]?=some f)(h22:sk[j]?=some (k2,r2))(h23:0<r1)(h24:0<r2)(h25:PB path r1)(h26:Bd 223900 r2)(h27:PB path (r2/aM path))(h28:∀H' d' x ad,TkAt a H0 H' t p d' ls lo li es fs (mns A path x) (ss++[⟨k1.2,path,k2.2,x,ad⟩]) (sr.set i (k1,r1-x)) (sk.set j (k2,r2-x*aM path))->0<x->x<=r1->x*aM path<=r2->(∀d∈path,sA x path d.nm<=A d.nm)->(x=r1∨x*aM path=r2∨∃d∈path,sA x path d.nm=A d.nm)->(x=r1∨x=r2/aM path∨∃d∈path,x=A d.nm/sA 1 path d.nm)->Q .non H'):IspTakeP a vs H Q
noncomputable def spTakeP(a:Ad):Sp:=λvs H Q _=>IspTakeP a vs H Q
theorem jA(T:TX K mg a):MtB P w K mg base CX0 a.Taking "take_path" 10 ["self","source","path","sink"] (spTakeP a):=by
 refine T.m_Taking_take_path.okA sc_Taking_take_path λf eh A dc s H vs Q E hr h=>?_;obtain⟨H0,t,p,d,ls,lo,li,l,e,f,es,fs,A,ss,sr,sk,ps,ns,path,i,j,E',k1,k2,r1,r2,rfl,D,hn,da,gn,ln,hl,ar,cr,cv,R,bg,cp,lr,hA,bA,sub,du,hi,hx,hj,J,p1,p2,b1,b2,b3,k⟩:=h
 refine⟨_,(aD (aI (i:=4) sc_Taking_take_path.nd (aR (sentA T) hr aJ (aA (aY (pv 0) rfl) (aA (pv 2) (aA (cL (mk1 T) hr T.mg_Fraction aJ (aA aC aB)) aB)))))
  (aD (aI (i:=5) sc_Taking_take_path.nd (aR (fG T) hr aJ (aA (aY (pv 0) rfl) (aA (pv 2) aB))))
  (aD (aI (i:=6) sc_Taking_take_path.nd (aR (ok_least T) hr aJ (aA (bK (aA (aY (pv 1) rfl) (aA (cM T.fr (aY (pv 3) rfl) (ok_over T) hr aJ (aA (pv 5) aB)) aB))) aB)))
  (bB (bG (aP (fX hr.units0) (pv 2) (bK aB)) (aF (aI (i:=6) sc_Taking_take_path.nd (aR (ok_least T) hr aJ (aA (bK (aA (pv 6) (aA (aR (jM T) hr aJ (aA (aY (pv 0) rfl) (aA (pv 4) aB))) aB))) aB)))) aV)
  (aD (cP (pv 0) (aR (ok_less T) hr aJ (aA (aY (pv 0) rfl) (aA (pv 4) (aA (pv 6) aB)))) rfl)
  (aD (cP (pv 1) (cM T.fr (aY (pv 1) rfl) (eR T) hr aJ (aA (pv 6) aB)) rfl)
  (aD (cP (pv 3) (cM T.fr (aY (pv 3) rfl) (eR T) hr aJ (aA (cM T.fr (pv 6) (gM T) hr aJ (aA (pv 5) aB)) aB)) rfl)
  (aF (bZ (pe_bm mY mQ mR fc (aY (pv 0) rfl) (aA (cE (aA (dN fA (by rfl) T.z_list mi (aA (aY (pv 1) rfl) aB)) (aA (pv 2) (aA (dN fA (by rfl) T.z_list mi (aA (aY (pv 3) rfl) aB)) (aA (pv 6) aB))))) aB))))))))))),?_⟩
 walk_at"q"
 obtain⟨dx,ho⟩:=D.ob;have gE:∀d∈path,GnE E' d:=λd hd=>(gn d (R d hd)).1;have S:WkS 40 path:=⟨λd hd=>(gn d (R d hd)).2,by lia,by decide,lr,bg⟩;have O:OnNet K a H p l ps ns path:=⟨hn.mono D.sm,da,SqL.of hl,R,cp,by lia⟩;have bU:∀n,Bd 800 (sA 1 path n):=λn=>(S.sA Bd.one n).mono (by decide);have uP:∀d∈path,0<sA 1 path d.nm:=λd hd=>(sA_gq (m:=path.length) bg gE (by lia) hd).1;have gp:0<aM path:=(iy gE).1;refine⟨_,rfl,t,_,dx,_,_,rfl,ho,T.cl_Taking,T.na_Taking_on,fsT_on _ _ _ _ _,_,rfl,1,1,rfl,by decide,sm1,λo H1 no bf fo=>?_⟩;rw[show Rat.divInt 1 1=1 from rfl]at fo;refine⟨p,l,o,ps,ns,path,1,40,0,rfl,O.mono bf,fo,S,Bd.one,by decide,λr H2 nr ck pr=>?_⟩;have ap:=bf.trans ck;have D2:=D.mono ap;obtain⟨dm,us,he,te,dh,lu,iu⟩:=unitP gE bg pr;refine⟨_,rfl,t,_,dx,_,_,rfl,ap _ _ ho,T.cl_Taking,T.na_Taking_on,fsT_on _ _ _ _ _,_,rfl,p,l,ps,ns,path,40,rfl,O.mono ap,S.b,by decide,by lia,λg H3 s3 fg=>?_⟩;have c0:=ap.trans s3;have D3:=D2.mono s3;obtain⟨dg,ed,qe,co,dz,d2,cq⟩:=D3.eS hi hx;obtain⟨dq,d4,qf,c7,d1,d0,cd⟩:=D3.eK hj J;refine⟨_,rfl,e,_,dg,_,_,rfl,co,T.cl_End,T.na_End_rest,fsE_q _ _ _,?_⟩;refine⟨_,rfl,f,_,dq,_,_,rfl,c7,T.cl_End,T.na_End_rest,fsE_q _ _ _,qf,r2,rfl,cd,_,rfl,qf,g,_,_,rfl,cd,fg,b2.s9,S.g.s9,by grind,λqo H4 d3 s4 cy=>?_⟩;refine⟨(show 2<=PySem.sizeLine by decide),λlm dn=>?_⟩;obtain⟨H5,zq,s5,h5⟩:=uG (o:=.lst [.ref qe,.ref qo]) dn;rw[zq];have ai:=s4.trans s5;have dp:RowAt (FrIs a) H5 [.ref qe,.ref qo] [r1,r2/aM path]:=RowAt.snoc (RowAt.snoc RowAt.nil ⟨qe,rfl,cq.mono ai⟩) ⟨qo,rfl,cy.mono s5⟩;refine⟨lm,_,[r1,r2/aM path],rfl,SqL.of h5,dp,by simp,λx hx=>?_,λqm m fm hm all=>?_⟩
 ·simp only[lx,lA,nR]at hx;rcases hx with rfl|rfl
  ·exact b1.1.s9
  ·exact b3.1.s9
 have m1:m<=r1:=all r1 (by simp);have m2:m<=r2/aM path:=all _ (by simp);have m3:m=r1∨m=r2/aM path:=by simpa using hm
 clear hm all;have c5:PB path m:=by rcases m3 with rfl|rfl;exact b1;exact b3
 have bh:∀n,n∈us->∃y∈path,y.nm=n:=λn hn=>kQ.mp ((iu n).mp hn);have bv:=c0.trans ai;have ca:=s3.trans ai;refine dP (λσ' H'=>yE2 λX B=>σ'=[some (.ref t),some (.ref e),some (.ref l),some (.ref f),some (.ref r),some (.ref g),some (.ref X)]×' Same H5 H'×' FrAt a.Fraction H' X B×' B<=m×'(∀d∈path,B<=A d.nm/sA 1 path d.nm)×'(B=m∨∃d∈path,B=A d.nm/sA 1 path d.nm)) ?_ ?_
 ·refine⟨_,rfl,by decide,λe0 ne0=>?_⟩;obtain⟨H6,zq,s6,h6⟩:=uG (o:=.lst []) ne0;rw[zq];have a4:=bv.trans s6;have an:=a4 _ _ hl;by_cases pne:path=[]
  ·rw[show nmV path=[]by rw[pne];rfl]at an;exact⟨l,e0,_,rfl,rfl,SqL.of an,SqL.of h6,_,rfl,iteF ⟨qm,m,rfl,s6,fm.mono s6,nP,λd hd=>absurd hd (by rw[pne];exact lA),.inl rfl⟩⟩
  have D6:=D.mono a4;obtain⟨yw,cl⟩:=List.exists_mem_of_ne_nil _ pne
  obtain⟨v0,vr,ds⟩:∃v0 vr,nmV path=v0::vr:=by
   cases hpp:path with
   |nil=>exact absurd hpp pne
   |cons z zs=>exact⟨_,_,rfl⟩
  rw[ds]at an;refine⟨l,e0,_,rfl,rfl,SqL.of an,SqL.of h6,_,rfl,iteT ?_⟩;obtain⟨c4,ks,hd,td,d5,lk,ik⟩:=id D6.pl
  have cu:us≠[]:=λz=>by
   have:=(iu yw.nm).mpr (kQ.mpr ⟨yw,cl,rfl⟩)
   rw[z]at this
   cases this
  have dl:d≠r:=by
   obtain⟨ea,_,h0,_⟩:=id (D.mono bf).pl;exact aN h0 nr
  have bz:=ca.trans s6;refine⟨_,rfl,_,rfl,t,_,dx,_,_,rfl,a4 _ _ ho,T.cl_Taking,T.na_Taking_rest,fsT_d _ _ _ _ _,_,rfl,d,r,c4,dm,ks,us,A,sA 1 path,rfl,hd,td,bz _ _ he,te.mono (λv x z=>z.mono bz),dh,cu,by lia,λn hn=>?_,dl,λq H7 x s7 fx de cs=>?_⟩
  ·obtain⟨y,J,rfl⟩:=bh n hn
   have:=uP y J
   exact⟨(ik _).mpr (hA y J).1,(bA _).2.smr (by decide),(bU _).smr (by decide),by grind,(hA y J).2.1.smr (by decide)⟩
  obtain⟨n0,dk,bt⟩:=de;obtain⟨y0,bm,rfl⟩:=bh n0 dk;refine⟨(show 2<=PySem.sizeLine by decide),λlq c3=>?_⟩;obtain⟨H8,zq,s8,h8⟩:=uG (o:=.lst [.ref qm,.ref q]) c3;rw[zq];have dj:RowAt (FrIs a) H8 [.ref qm,.ref q] [m,x]:=RowAt.snoc (RowAt.snoc RowAt.nil ⟨qm,rfl,fm.mono (s6.trans (s7.trans s8))⟩) ⟨q,rfl,fx.mono s8⟩;refine⟨lq,_,[m,x],rfl,SqL.of h8,dj,by simp,λz hz=>?_,λX B ag hm all=>?_⟩
  ·simp only[lx,lA,nR]at hz;rcases hz with rfl|rfl
   ·exact c5.1.s9
   ·rw[<-bt];exact(hA y0 bm).2.1.s9
  have a2:B<=x:=all x (by simp);have a3:B=m∨B=x:=by simpa using hm
  refine⟨X,B,rfl,s6.trans (s7.trans s8),ag,all m (by simp),λy J=>nc a2 (cs _ ((iu _).mpr (kQ.mpr ⟨y,J,rfl⟩))),a3.imp id λz=>⟨y0,bm,by rw[z,<-bt]⟩⟩
 rintro zU dt σ' H8⟨X,B,rfl,bb,ag,a1,a2,a3⟩;have dv:∀d∈path,A d.nm/sA 1 path d.nm*sA 1 path d.nm=A d.nm:=λd hd=>mw (by have:=uP d hd;grind)
 have af:B=r1∨B=r2/aM path∨∃d∈path,B=A d.nm/sA 1 path d.nm:=by
  rcases a3 with z|z
  ·rw[z];exact m3.elim .inl λz=>.inr (.inl z)
  ·exact .inr (.inr z)
 have ad:PB path B:=by
  rcases af with rfl|rfl|⟨y,J,rfl⟩
  ·exact b1
  ·exact b3
  ·exact(hA y J).2
 have c2:0<B:=by
  rcases af with rfl|rfl|⟨y,J,rfl⟩
  ·exact p1
  ·rw[lO];exact cV p2 (fu gp)
  ·rw[lO];exact cV (by have:=(hA y J).1;have:=(bA y.nm).1;grind) (fu (uP y J))
 have bq:∀d∈path,sA B path d.nm<=A d.nm:=λy J=>by
  have h2:=mj (a2 y J) (lI (uP y J));rw[dv y J]at h2;rw[eO];exact h2
 have gd:r2/aM path*aM path=r2:=mw (by grind)
 have dr:B=r1∨B*aM path=r2∨∃d∈path,sA B path d.nm=A d.nm:=by
  rcases af with z|z|⟨y,J,z⟩
  ·exact .inl z
  ·exact .inr (.inl (by rw[z];exact gd))
  ·exact .inr (.inr ⟨y,J,by rw[eO,z];exact dv y J⟩)
 have ch:B<=r1:=nc a1 m1
 have c1:B*aM path<=r2:=by
  have:=mj (nc a1 m2) (lI gp)
  rw[gd]at this;exact this
 have aq:=bv.trans bb;have dd:=ca.trans bb;have D8:=D.mono aq;subst dt;refine⟨_,rfl,t,_,dx,_,_,rfl,aq _ _ ho,T.cl_Taking,T.na_Taking_rest,fsT_d _ _ _ _ _,_,rfl,_,rfl,d,r,X,A,sA 1 path,24,6,B,rfl,D8.pl,pr.mono dd,by decide,by decide,ag,ad.1.mono (by decide),λn=>⟨(bA n).2.mono (by decide),(bU n).mono (by decide),(ad.2.1 n).mono (by decide)⟩,λr' H9 cw s9 bw=>?_⟩;have ab:=aq.trans s9;have a6:=ab _ _ ho
 have ef:(λn=>A n-B*sA 1 path n)=mns A path B:=funext λn=>by
  unfold mns;rw[<-eO]
 rw[ef]at bw
 have bj:PlanA a H9 r' (mns A path B) 24:=by
  obtain⟨ci,dw,di,cm,bl,_,bp⟩:=bw;refine⟨ci,dw,di,cm,bl,?_,bp⟩
  have:=eT bl (ys:=ns.map (·.nm)) λn hn=>?_
  ·rw[kK]at this
   lia
  ·have:=(bp n).mp hn
   by_cases c:n∈path.map (·.nm)
   ·obtain⟨y,J,rfl⟩:=kQ.mp c;exact kQ.mpr ⟨y,R y J,rfl⟩
   ·refine sub n λz=>this ?_;unfold mns;rw[i9 c,z];decide+kernel
 have a0:=(D.mono ab).setd a6 ((D.sm.trans aq).free cw) bj;have kp:Mv [ls,lo,li] H9 (upd H9 t (.ins a.Taking dx (fsT p r' ls lo li))):=.put a6 jV;have M:=kp.fr (D.mono ab).ls3 (ag.mono s9);have ax:=kp.fr (D.mono ab).ls3 (fg.mono (ai.trans (bb.trans s9)));have aw:=kp _ _ (ab _ _ hl) ar Plain.lst;refine⟨_,rfl,t,a.Taking,dx,_,rfl,a6,T.cl_Taking,T.na_Taking_rest,by show 5<1000;decide,?_⟩;rw[fsT_put];generalize upd H9 t (.ins a.Taking dx (fsT p r' ls lo li))=ee at a0 kp M ax aw⊢;obtain⟨ah,b0,q1,ak,_,_,b6⟩:=a0.eS hi hx;refine⟨_,rfl,e,_,ah,_,_,rfl,ak,T.cl_End,T.na_End_rest,fsE_q _ _ _,q1,r1,rfl,b6,_,rfl,q1,X,_,_,rfl,b6,M,b1.1.s9,ad.1.s9,True.intro,λqn a9 d6 N fn=>?_⟩;have bc:=a0.mono N;have a5:=bc.setS hi hx (N _ _ ak) fn;have aj:Mv [ls,lo,li] a9 (upd a9 e (.ins a.End ah (fsE k1.1 b0 qn))):=.put (N _ _ ak) gN;have L:=aj.fr bc.ls3 (M.mono N);have as:=aj.fr bc.ls3 (ax.mono N);have au:=aj _ _ (N _ _ aw) ar Plain.lst;refine⟨_,rfl,e,a.End,ah,_,rfl,N _ _ ak,T.cl_End,T.na_End_rest,by show 3<1000;decide,?_⟩;rw[fsE_put];generalize upd a9 e (.ins a.End ah (fsE k1.1 b0 qn))=d7 at a5 aj L as au⊢;obtain⟨ao,b9,q2,al,_,_,b4⟩:=a5.eK hj J;refine⟨_,rfl,f,_,ao,_,_,rfl,al,T.cl_End,T.na_End_rest,fsE_q _ _ _,q2,r2,rfl,b4,_,rfl,X,B,rfl,L,_,rfl,X,g,_,_,rfl,L,as,ad.1.s9,S.g.s9,True.intro,λqt d8 eb av ft=>?_⟩;refine⟨q2,qt,_,_,rfl,b4.mono av,ft,b2.s9,ad.2.2.s9,True.intro,λqz a7 d9 ct fz=>?_⟩;have aa:=av.trans ct;have b7:=a5.mono aa;have I:=b7.setK hj J (aa _ _ al) fz;have ba:Mv [ls,lo,li] a7 (upd a7 f (.ins a.End ao (fsE k2.1 b9 qz))):=.put (aa _ _ al) gN;have ae:=ba.fr b7.ls3 (L.mono aa);have U:=ba _ _ (aa _ _ au) ar Plain.lst;refine⟨_,rfl,f,a.End,ao,_,rfl,aa _ _ al,T.cl_End,T.na_End_rest,by show 3<1000;decide,?_⟩;rw[fsE_put];generalize upd a7 f (.ins a.End ao (fsE k2.1 b9 qz))=bo at I ba ae U⊢;obtain⟨bu,cb⟩:=I.ob;obtain⟨ts,az,b5⟩:=id I.st;refine⟨_,rfl,t,_,bu,_,_,rfl,cb,T.cl_Taking,T.na_Taking_strands,fsT_s _ _ _ _ _,?_⟩;refine⟨.inl ⟨rfl,_,SqL.of az⟩,?_⟩;obtain⟨ce,cn,qE,cf,c6,_,_⟩:=I.eS (s:=k1) (r:=r1-B) hi (List.getElem?_set_self (kL.mp hx).1);obtain⟨cg,db,qF,dy,c8,_,_⟩:=I.eK (s:=k2) (r:=r2-B*aM path) hj (List.getElem?_set_self (kL.mp J).1);refine⟨_,rfl,e,_,ce,_,_,rfl,cf,T.cl_End,T.na_End_ring,fsE_r _ _ _,cn,_,rfl,.inl (SqL.of c6),λl2 ac=>?_⟩;obtain⟨br,zq,G,a8⟩:=uG (o:=.lst (nmV k1.2)) ac;rw[zq];refine⟨_,rfl,_,rfl,f,_,cg,_,_,rfl,G _ _ dy,T.cl_End,T.na_End_ring,fsE_r _ _ _,db,_,rfl,.inl (SqL.of (G _ _ c8)),λl3 Z=>?_⟩;obtain⟨bx,zq,be,bn⟩:=uG (o:=.lst (nmV k2.2)) Z;rw[zq];refine⟨_,rfl,(show 4<=PySem.sizeLine by decide),λu nu=>?_⟩;obtain⟨eg,zq,su,hu⟩:=uG (o:=.tup [.ref l2,.ref l,.ref l3,.ref X]) nu;rw[zq];have Y:=G.trans (be.trans su)
 have n2:¬l2∈[ls,lo,li]:=λz=>by
  obtain⟨zs,e⟩:=I.ls3 _ z;rw[ac]at e
  cases e
 have n3:¬l3∈[ls,lo,li]:=λz=>by
  obtain⟨zs,e⟩:=(I.mono G).ls3 _ z;rw[Z]at e
  cases e
 have ec:ts.length<=100:=by rw[b5.1];exact du
 have ay:=Y _ _ az;have c9:=aN U ac;have cz:=aN (G _ _ U) Z;have cx:=aN a8 Z
 have cj:=(I.mono Y).app ay (s:=⟨k1.2,path,k2.2,B,[l2,l,l3]⟩) ⟨u,l2,l,l3,X,rfl,hu,be.trans su _ _ a8,Y _ _ U,su _ _ bn,n2,ar,n3,ae.mono Y,rfl⟩ (by simp[c9.symm,cz,cx]) (λb hb=>by
  simp only[lx,lA,nR]at hb;rcases hb with rfl|rfl|rfl
  ·exact⟨I.sm.free ac,I.ads ac⟩
  ·exact⟨cr,cv⟩
  ·exact⟨(I.mono G).sm.free Z,(I.mono G).ads Z⟩)
 exact⟨ls,_,_,rfl,rfl,ay,aU (by lia),k _ r' B _ cj c2 ch c1 bq dr af⟩
end
end G
namespace G
open PySem L2
section
structure RoadW(A:Str->Rat)(ns:List WD)(p:Str)(l:List WD)(q:Str):Prop where
 sub:∀x∈l,x∈ns/\A x.nm≠0
 path:PthW p l q
theorem RoadW.nil:RoadW A ns p [] p:=⟨λx h=>absurd h lA,rfl⟩
theorem RoadW.snoc(h:RoadW A ns p l q)(hx:x∈ns)(h0:A x.nm≠0)(e:x.st=q):RoadW A ns p (l++[x]) x.go:=⟨λy a=>by
 rcases kU.mp a with z|z
 ·exact h.sub y z
 ·rw[kS.mp z];exact⟨hx,h0⟩,h.path.snoc e⟩
theorem RoadW.on(h:RoadW A ns p l q)(nn:∀n,0<=A n)(ne:∀d∈ns,d.st≠d.go)(g1:∀d∈ns,0<aW d.kd d.x)(h1:l=[]->cG A ns q<0)(h2:cG A ns q<=0):∃d∈ns,d.st=q/\A d.nm≠0:=by
 refine goes_on nn ne g1 ?_
 cases e:l.getLast? with
 |none=>
  rw[List.getLast?_eq_none_iff]at e;exact .inl (h1 e)
 |some x=>
  have a:=h.sub x (List.mem_of_getLast? e);exact .inr ⟨h2,x,a.1,h.path.last x e,a.2⟩
theorem RoadW.places(h:RoadW A ns p l q)(ac:Acyc ws)(sub:∀d∈ns,A d.nm≠0->d∈ws):(p::l.map (·.go)).Nodup:=by
 obtain⟨rk,b⟩:=ac;exact(h.path.down (rk:=rk) λx a=>b x (sub x (h.sub x a).1 (h.sub x a).2)).2
theorem starts_of:∀{p q:Str},PthW p l q->∀x∈l,x.st∈p::l.map (·.go):=by
 induction l with
 |nil=>exactλ_ x a=>absurd a lA
 |cons y r ih=>
  intro p q h x a;rcases lx.mp a with rfl|z
  ·rw[h.1];exact lG
  ·exact lv _ (ih h.2 x z)
theorem RoadW.starts{ws:List WD}:∀{l:List WD}{p q:Str},PthW p l q->(p::l.map (·.go)).Nodup->(l.map (·.st)).Nodup
 |[],_,_,_,_=>mB
 |x::r,p,q,h,nd=>by
  obtain⟨b,c⟩:=me.mp nd;refine me.mpr ⟨λz=>b ?_,RoadW.starts (ws:=ws) h.2 c⟩;obtain⟨y,a,e⟩:=kQ.mp z;have e:y.st=p:=e.trans h.1;rw[<-e];exact starts_of h.2 y a
end
end G
namespace G
open PySem L2
section
theorem nm_inj{ws:List WD}(nd:(ws.map (·.nm)).Nodup)(hx:x∈ws)(hy:y∈ws)(e:x.nm=y.nm):x=y:=by
 obtain⟨i,b⟩:=lL.mp hx;obtain⟨j,a⟩:=lL.mp hy;have g1:(ws.map (·.nm))[i]?=some y.nm:=by rw[kP,b,ml,e]
 have c:(ws.map (·.nm))[j]?=some y.nm:=by rw[kP,a];rfl
 have h:=(mo (by rw[kK];exact(kL.mp b).1) nd).mp (g1.trans c.symm);subst h;rw[b]at a;exact lJ a
theorem wsOf_in(hin:∀n∈ks,n∈ns.map (·.nm))(h:x∈fE ns ks):x∈ns/\x.nm∈ks:=by
 obtain⟨n,a,rfl⟩:=kQ.mp h;obtain⟨b,c⟩:=byN_in (hin n a);exact⟨b,by rw[c];exact a⟩
theorem in_wsOf(nd:(ns.map (·.nm)).Nodup)(h:x∈ns)(hk:x.nm∈ks):x∈fE ns ks:=by
 obtain⟨a,b⟩:=byN_in (ds:=ns) (kQ.mpr ⟨x,h,rfl⟩);exact kQ.mpr ⟨x.nm,hk,nm_inj nd a h b⟩
theorem RoadW.goal{ps:List (Str×Rat)}(h:RoadW A ns p l q)(io:∀d∈ns,d.st∈ps.map (·.1)/\d.go∈ps.map (·.1))(hp:p∈ps.map (·.1)):q∈ps.map (·.1):=by
 cases e:l.getLast? with
 |none=>
  rw[List.getLast?_eq_none_iff]at e;subst e
  have:p=q:=h.path
  rw[<-this];exact hp
 |some x=>
  rw[<-h.path.last x e];exact(io x (h.sub x (List.mem_of_getLast? e)).1).2
inductive IspRoad(a:Ad)(vs:List V)(H:Hp)(Q:VK):Prop
 |mk(H0:Hp)(t p d ls lo li e:Addr)(es fs:List Addr)(A:Str->Rat)(ss:List SD)(sr sk:List EN)(ps:List (Str×Rat))(ns ws:List WD)(i E:Nat)(k1:Str×List WD)(r1:Rat)(h1:vs=[.ref t,.ref e])(h2:TkAt a H0 H t p d ls lo li es fs A ss sr sk)(h3:NetAt a H0 p ps ns)(h4:(ns.map (·.nm)).Nodup)(h5:(∀d∈ns,GnE E d/\SmR d.x/\Bd 40 (aW d.kd d.x)))(h6:ns.length<=24)(h7:(∀d∈ns,d.st≠d.go))(h8:(∀d∈ns,d.st∈ps.map (·.1)/\d.go∈ps.map (·.1)))(h9:ps.length<=6)(h10:(∀n,0<=A n/\Bd 223900 (A n)))(h11:(∀n,A n≠0->n∈ns.map (·.nm)))(h12:ss.length<=100)(h13:Acyc ws)(h14:(∀d∈ns,A d.nm≠0->d∈ws))(h15:k1.1∈ps.map (·.1))(h16:es[i]?=some e)(h17:sr[i]?=some (k1,r1))(h18:0<r1)(h19:(∀x∈sr,0<=x.2))(h20:(∀x∈sk,0<=x.2/\Bd 223900 x.2))(h21:(∀path q,RoadW A ns k1.1 path q->(path.map (·.nm)).Nodup->path.length<ps.length->PB path r1/\(∀d∈path,PB path (A d.nm/sA 1 path d.nm))/\∀x∈sk,PB path (x.2/aM path)))(h22:(∀s∈ps.map (·.1),cG A ns s=fT sk s-fT sr s))(h23:∀H' d' x path j k2 r2 ad,TkAt a H0 H' t p d' ls lo li es fs (mns A path x) (ss++[⟨k1.2,path,k2.2,x,ad⟩]) (sr.set i (k1,r1-x)) (sk.set j (k2,r2-x*aM path))->sk[j]?=some (k2,r2)->RoadW A ns k1.1 path k2.1->0<x->x<=r1->x*aM path<=r2->(∀d∈path,sA x path d.nm<=A d.nm)->(x=r1∨x*aM path=r2∨∃d∈path,sA x path d.nm=A d.nm)->(x=r1∨x=r2/aM path∨∃d∈path,x=A d.nm/sA 1 path d.nm)->Q .non H'):IspRoad a vs H Q
noncomputable def spRoad(a:Ad):Sp:=λvs H Q _=>IspRoad a vs H Q
theorem jy(T:TX K mg a):MtB P w K mg base CX0 a.Taking "take_road" 11 ["self","source"] (spRoad a):=by
 refine T.m_Taking_take_road.okA sc_Taking_take_road λf b3 A bc s H vs Q E hr h=>?_;obtain⟨H0,t,p,d,ls,lo,li,e,es,fs,A,ss,sr,sk,ps,ns,ws,i,E',k1,r1,rfl,D,hn,X,gn,ln,ne,io,lp,bA,sub,br,ac,aj,al,hi,I,p1,bs,bk,sz,ar,k⟩:=h
 refine⟨_,(bB (aI (i:=2) sc_Taking_take_road.nd (aR (jg T) hr aJ (aA (pe_thaw (fR (xs:=["name"]) (rest:=["self"]) rfl (jr (aY (pv 0) rfl))
  (λae fp C' s' B=>(aQ (i:=0) (show(["name","self"]:List Str).Nodup by decide+kernel))) (λae fp C' s' B=>dQ)
  (λae fp C' s' B=>(pe_mtDK (CX:=CX0) (P:=P) (w:=w) (K:=K) (mg:=mg) (base:=base) rfl rfl rfl rfl rfl (kA (K:=K) rfl (pv 1) rfl) hr aJ (aA (pv 0) aB)))
  (Clos.many (ys:=["self"]) rfl ⟨rfl,True.intro⟩ rfl (by decide+kernel)) (Reads.many (ys:=["self"]) (js:=[0]) ⟨⟨rfl,rfl,rfl⟩,True.intro⟩))) aB)))
  (aD (aI (i:=3) sc_Taking_take_road.nd (bK aB))
  (aD (aI (i:=4) sc_Taking_take_road.nd (aY (pv 1) rfl))
  (bB (ir lj (aP op_isN (eY (CX:=CX0) (pv 0) hr aJ (aA (pv 4) aB)) pe_non) (aD (bZ (pe_bm mY mQ mR fc (pv 3) (aA (aY (cQ (bS hr) (pv 2) (pv 4) (λ_ _=>rfl)) rfl) aB)))
  (aF (aI (i:=4) sc_Taking_take_road.nd (aY (cQ (bS hr) (pv 2) (pv 4) (λ_ _=>rfl)) rfl)))))
  (aF (bZ (eY (CX:=CX0) (pv 0) hr aJ (aA (pv 1) (aA (pv 3) (aA (eY (CX:=CX0) (pv 0) hr aJ (aA (pv 4) aB)) aB)))))))))),?_⟩
 walk_at"q"
 generalize M:jP _ _=k9
 revert k9
 refine iw λk9 M=>?_;obtain⟨dx,ho⟩:=D.ob;obtain⟨kvs,N,hd,tb,a9,b0,ik⟩:=id D.pl;have a3:∀n∈N,n∈ns.map (·.nm):=λn hn=>sub n ((ik n).mp hn);have bl:NetOff a H p d ps ns:=⟨H0,hn,D.sm,D.nd⟩;subst M;refine dP (λσ' B=>yE2 λon Z=>σ'=[some (.ref t),some (.ref e),some (.ref on),none,none]×' Same H B×' B on=some (.dK Z)×' Tab (WayIs a) B Z (cB ((fE ns N).map (·.st))) (fOn (fE ns N))) ?_ ?_
 ·refine⟨d,.dK kvs,hd,(by intro o z e;cases e),_,rfl,t,_,dx,_,_,rfl,ho,T.cl_Taking,T.na_Taking_rest,fsT_d _ _ _ _ _,d,kvs,rfl,hd,λo l S=>?_⟩;have aa:d≠l:=λz=>by rw[z,aE]at S;cases S
  have a7:H l=none:=by rw[aG aa.symm]at S;exact S
  have bq:t≠d:=bD ho hd (by intro z;cases z)
  refine j3 (a:=d) (o:=o) (kvs:=kvs) (λi R=>i<=N.length×' R d=some (.frz o (.dK kvs))×'(∀b O,H b=some O->b≠d->R b=some O)×'∃ts,R l=some (.lst ts)/\RowAt (WayIs a) R ts (fE ns (N.take i)))
   ⟨kY _,by rw[aG aa,aE],(λb O e ne=>by rw[aG (aN e a7),aG ne];exact e),[],aE,RowAt.nil⟩ ((by rintro i R⟨_,h,_⟩;exact h)) ?_ ?_
  ·rintro i Z R bb⟨_,hf,k2,ts,G,hv⟩;obtain⟨n,en,e1,ev,_⟩:=tb.at_ a9 bb;have hi:i<N.length:=(kL.mp en).1;have bg:kV Z.1=.str n:=by rw[e1];rfl
   rw[bg];have ao:=(bl.but k2).at_;obtain⟨bn,dw,dy,hp,_,_⟩:=id ao;have bo:=jk dw dy (m:="way") (by decide+kernel) (by decide+kernel);obtain⟨bv,bu⟩:=byN_in (a3 n (kN en));refine g1 ⟨⟨[_],rfl,rfl⟩,yes ?_⟩;refine⟨_,rfl,t,_,dx,_,_,rfl,k2 _ _ ho bq,T.cl_Taking,T.na_Taking_on,fsT_on _ _ _ _ _,p,a.Net,bn,_,1,["self","name"],gB a,rfl,hp,bo,T.cl_Net,by decide,fH T,_,rfl,p,ps,ns,byN ns n,by rw[bu];rfl,ao,X,bv,λv I=>?_⟩;have b5:ts.length=i:=by rw[hv.1];unfold fE;rw[kK,k8];lia
   refine⟨_,G,aU (by lia),eU (by rw[tb.len];exact hi) ⟨hi,by rw[aG aa];exact hf,(λb O e ne=>by rw[aG (aN e a7)];exact k2 _ _ e ne),_,aE,?_⟩⟩;unfold fE;rw[kX,en,lB,kO];exact RowAt.snoc (hv.mono λv x z=>z.lst G) (I.lst G)
  ·rintro R⟨_,hf,k2,ts,G,hv⟩;rw[tb.len,kZ]at hv
   have sa:Same H (upd R d (.dK kvs)):=λb O e=>by
    by_cases hb:b=d
    ·subst hb;rw[aE,<-hd,e]
    ·rw[aG hb];exact k2 _ _ e hb
   have b2:(fE ns N).length=N.length:=by unfold fE;rw[kK]
   refine⟨o,hf,l,ts,fE ns N,rfl,SqL.of (show upd R d (.dK kvs) l=some (.lst ts) by rw[aG aa.symm];exact G),hv.mono λv x z=>z.keep λb C b1 b4 _ e=>?_,by lia,λon Hb Z bx sb ag ah=>⟨on,Z,rfl,sa.trans sb,ag,ah⟩⟩;rw[aG λz=>by rw[z,hf]at e;cases e];exact e
 rintro zU ak σ' H1⟨on,Z,rfl,a4,ag,ah⟩;have D1:=D.mono a4;obtain⟨rk,ba⟩:=id ac;have nn:∀n,0<=A n:=λn=>(bA n).1;have gg:∀d∈ns,0<aW d.kd d.x:=λd hd=>(gn d hd).1.ps;subst ak;generalize M:jP _ _=k9
 revert k9
 refine iw λk9 M=>?_;refine⟨by decide,λl S=>?_⟩;obtain⟨R,zq,ai,G⟩:=uG (o:=.lst []) S;rw[zq];have a8:=a4.trans ai;have D2:=D.mono a8;obtain⟨bh,bw,qe,bt,_,_,_⟩:=D2.eS hi I;refine⟨_,rfl,e,_,bh,_,_,rfl,bt,T.cl_End,T.na_End_place,fsE_s _ _ _,?_⟩
 have be:¬l∈[ls,lo,li]:=λz=>by
  obtain⟨zs,e⟩:=D1.ls3 _ z;rw[S]at e
  cases e
 subst M;refine dP (λσ' B=>yE5 λ(c:List WD)(q:Str)(f:Addr)(r:Rat)(j:Nat)=>σ'=[some (.ref t),some (.ref e),some (.ref on),some (.ref l),some (.str q)]×' Same H1 B×' B l=some (.lst (nmV c))×' RoadW A ns k1.1 c q×' fs[j]?=some f×'(∃rg,sk[j]?=some ((q,rg),r))×' 0<r) ?_ ?_
 ·refine⟨λm σ B=>yE2 λc q=>m=rk q×' σ=[some (.ref t),some (.ref e),some (.ref on),some (.ref l),some (.str q)]×' Same H1 B×' B l=some (.lst (nmV c))×' RoadW A ns k1.1 c q,⟨_,[],k1.1,rfl,rfl,ai,G,RoadW.nil⟩,?_⟩;rintro m σ H3⟨c,q,rfl,rfl,s3,J,rd⟩;have D3:=D1.mono s3;obtain⟨U,Y⟩:=D3.ob;refine⟨_,rfl,t,a.Taking,U,_,2,["self","place"],spSink a,rfl,Y,jZ _ _ _ _ _ (by decide+kernel),T.cl_Taking,by decide,hE T,_,rfl,H0,t,p,d,ls,lo,li,es,fs,A,ss,sr,sk,q,rfl,D3,λj f rg r hj L hp=>?_,λno=>?_⟩
  ·exact⟨rfl,_,rfl,gV (lz λz=>by cases z) ⟨c,q,f,r,j,rfl,s3,J,rd,hj,⟨rg,L⟩,hp⟩⟩
  refine⟨rfl,_,rfl,kG (lD rfl) ?_⟩;have ax:=rd.goal io al
  have as:fT sk q=0:=(iL (s:=q) λx I=>(bk x I).1).2.2 λx I e=>by
   have:=no x I e
   have:=(bk _ I).1
   grind
  have a0:=iL (s:=q) bs
  have a5:cG A ns q<=0:=by
   rw[ar q ax,as]
   have:=a0.1
   grind
  have aw:c=[]->cG A ns q<0:=λz=>by
   subst z;have z:k1.1=q:=rd.path;rw[ar q ax,as]
   have:=a0.2.1 (k1,r1) (kN I) z
   grind
  obtain⟨d0,bj,bm,bp⟩:=rd.on nn ne gg aw a5;have a1:q∈(fE ns N).map (·.st):=kQ.mpr ⟨d0,in_wsOf X bj ((ik _).mpr bp),bm⟩;have a2:=fOn_at a1;obtain⟨v,ev,wi⟩:=(ah.mono λv x z=>z.mono s3).vals q (mem_keysOf.mpr a1);generalize fOn (fE ns N) q=x at a2 wi;obtain⟨xm,xs⟩:=onw_some a2;obtain⟨xn,xk⟩:=wsOf_in a3 xm;have xa:A x.nm≠0:=(ik _).mp xk;have bf:=rd.snoc xn xa xs
  have lt:rk x.go<rk q:=by
   rw[<-xs];exact ba x (aj x xn xa)
  have az:c.length<=100:=by
   have:=eT (rd.places ac aj) (ys:=ps.map (·.1)) λy L=>by
    rcases lx.mp L with rfl|z
    ·exact al
    ·obtain⟨w',am,rfl⟩:=kQ.mp z;exact(io w' (rd.sub w' am).1).2
   rw[lR,kK,kK]at this
   lia
  obtain⟨p1,vh,vc,qx,rfl,W,bz⟩:=id wi;obtain⟨au,an,aq,av,_⟩:=id W.ob;have c1:=cR T x.kd;have ab:=s3 _ _ ag;refine⟨λσ' B=>σ'=[some (.ref t),some (.ref e),some (.ref on),some (.ref l),some (.str x.go)]×' Same H1 B×' B l=some (.lst (nmV (c++[x]))),(by rintro σ' B⟨e1,e2,e3⟩;exact⟨rk x.go,lt,c++[x],x.go,rfl,e1,e2,e3,bf⟩),?_⟩;refine⟨_,rfl,.inl ⟨rfl,_,SqL.of J⟩,?_⟩;refine⟨_,rfl,_,rfl,on,.ref p1,rfl,.inl ⟨Z,Sum.inr q,.inl ab,rfl,ev.symm⟩,p1,_,au,an,_,rfl,aq,c1.cl,c1.n1,av.nm,?_⟩;refine⟨l,_,_,rfl,rfl,J,aU (by unfold nmV;rw[kK];lia),?_⟩;have ap:∀{b:Addr}{O:HO},H3 b=some O->(∀zs,O≠.lst zs)->upd H3 l (.lst (nmV c++[.str x.nm])) b=some O:=λ{b}{O}z nz=>by rw[aG (bD z J (nz _))];exact z
  refine⟨_,rfl,_,rfl,on,.ref p1,rfl,.inl ⟨Z,Sum.inr q,.inl (ap ab λzs z=>by cases z),rfl,ev.symm⟩,p1,_,au,an,_,rfl,ap aq (λzs z=>by cases z),c1.cl,c1.n3,av.go,rfl,aZ S s3,?_⟩;rw[aE];unfold nmV;rw[kO];rfl
 rintro zU ak σ' H3⟨c,q,f,r,j,rfl,s3,J,rd,hj,⟨rg,L⟩,hp⟩;have D3:=D1.mono s3;obtain⟨U,Y⟩:=D3.ob;subst ak;refine⟨_,rfl,t,a.Taking,U,_,10,["self","source","path","sink"],spTakeP a,rfl,Y,jZ _ _ _ _ _ (by decide+kernel),T.cl_Taking,by decide,jA T,_,rfl,_,rfl,?_⟩;refine⟨_,rfl,t,a.Taking,U,_,2,["self","place"],spSink a,rfl,Y,jZ _ _ _ _ _ (by decide+kernel),T.cl_Taking,by decide,hE T,_,rfl,H0,t,p,d,ls,lo,li,es,fs,A,ss,sr,sk,q,rfl,D3,λj f rg r hj L hp=>?_,λno=>absurd hp (no _ (kN L) rfl)⟩;have ay:=rd.places ac aj
 have az:c.length<ps.length:=by
  have:=eT ay (ys:=ps.map (·.1)) λy L=>by
   rcases lx.mp L with rfl|z
   ·exact al
   ·obtain⟨w',am,rfl⟩:=kQ.mp z;exact(io w' (rd.sub w' am).1).2
  rw[lR,kK,kK]at this
  lia
 have af:∀x∈c,x∈ns:=λx I=>(rd.sub x I).1;have a6:=bM X af (RoadW.starts (ws:=ns) rd.path ay);obtain⟨z1,z2,z3⟩:=sz c q rd a6 az;exact⟨H0,t,p,d,ls,lo,li,l,e,f,es,fs,A,ss,sr,sk,ps,ns,c,i,j,E',k1,(q,rg),r1,r,rfl,D3,hn,X,gn,ln,J,be,D1.sm.free S,D1.ads S,af,a6,rd.path.chain,by lia,λx I=>⟨(rd.sub x I).2,z2 x I⟩,bA,sub,br,hi,I,hj,L,p1,hp,z1,(bk _ (kN L)).2,z3 _ (kN L),λB d' x ad D' x0 x1 x2 x3 x4 x5=>k B d' x c j (q,rg) r ad D' L rd x0 x1 x2 x3 x4 x5⟩
end
end G
namespace G
open PySem L2
section
theorem ffO:ff x y≠(("on":Str),v)::r:=λz=>absurd (lW (λl=>(l.map Prod.fst)[0]?) z) (by show¬some ("top":Str)=some ("on":Str);decide+kernel)
theorem PlanA.upT(h:PlanA a H d A m)(ht:H t=some (.ins C dx ((("on":Str),v)::r))):PlanA a (upd H t o) d A m:=by
 obtain⟨b,l,c,p,i⟩:=h;refine⟨b,l,by rw[aG (bD c ht (by intro z;cases z))];exact c,p.mono λv x⟨q,e,j,f⟩=>⟨q,e,j,?_⟩,i⟩;rw[aG (bD f ht λz=>by injection z with _ _ z;exact ffO z)];exact f
noncomputable def gT(F:Str->Rat)(l:List Str):List EN:=(l.filter λs=>decide (F s<0)).map λs=>((s,[]),-F s)
noncomputable def gU(F:Str->Rat)(l:List Str):List EN:=(l.filter λs=>decide (0<F s)).map λs=>((s,[]),F s)
theorem srcs_snoc(F:Str->Rat)(l:List Str)(s:Str):gT F (l++[s])=gT F l++(if F s<0 then[((s,[]),-F s)]else[]):=by
 unfold gT;rw[nL,kO];by_cases h:F s<0
 ·rw[if_pos h,mZ (by exact lD h)];rfl
 ·rw[if_neg h,m5 (by simpa using h)];rfl
theorem snks_snoc(F:Str->Rat)(l:List Str)(s:Str):gU F (l++[s])=gU F l++(if 0<F s then[((s,[]),F s)]else[]):=by
 unfold gU;rw[nL,kO];by_cases h:0<F s
 ·rw[if_pos h,mZ (by exact lD h)];rfl
 ·rw[if_neg h,m5 (by simpa using h)];rfl
theorem srcs_le(F:Str->Rat)(l:List Str):(gT F l).length<=l.length:=by
 unfold gT;rw[kK];exact mx _ _
theorem snks_le(F:Str->Rat)(l:List Str):(gU F l).length<=l.length:=by
 unfold gU;rw[kK];exact mx _ _
inductive IspTakI(a:Ad)(vs:List V)(H:Hp)(Q:VK):Prop
 |mk(H0:Hp)(t dx p d:Addr)(ps:List (Str×Rat))(ns:List WD)(kvs:List (Key×V))(ks:List Str)(f:Str->Rat)(h1:vs=[.ref t,.ref p,.ref d])(h2:H t=some (.ins a.Taking dx []))(h3:Same H0 H)(h4:H0 t=none)(h5:NetOff a H0 p d ps ns)(h6:(ns.map (·.nm)).Nodup)(h7:H0 d=some (.dK kvs))(h8:Tab (FrIs a) H0 kvs ks f)(h9:ks.Nodup)(h10:ks.length<=24)(h11:(∀n∈ks,n∈ns.map (·.nm)))(h12:SumOk (bT ks f) ps ns)(h13:ps.length<=12)(h14:∀H' d' ls lo li es fs,TkAt a H0 H' t p d' ls lo li es fs (bT ks f) [] (gT (cG (bT ks f) ns) (ps.map (·.1))) (gU (cG (bT ks f) ns) (ps.map (·.1)))->Q .non H'):IspTakI a vs H Q
noncomputable def spTakI(a:Ad):Sp:=λvs H Q _=>IspTakI a vs H Q
theorem mk_Taking(T:TX K mg a):MkB P w K mg base CX0 a.Taking 11 ["self","net","plan"] [] (spTakI a):=by
 refine T.i_Taking.okA sc_Taking_init (λf bn A a7 s H vs Q E hr h=>?_) (λvs H Q E h=>?_) _ (by simp)
 rotate_left
 ·obtain⟨_,_,_,_,_,_,_,_,_,_,rfl,_⟩:=h;rfl
 ·obtain⟨L,t,y,p,d,ps,ns,kvs,ks,f,rfl,ht,sm,nt,bc,a6,hd,tb,aa,a8,bf,ok,bj,k⟩:=h
  refine⟨_,(aD (cP (pv 0) (pv 1) rfl)
   (aD (cP (pv 0) (aR (dS T) hr aJ (aA (pv 2) aB)) rfl)
   (aD (cP (pv 0) (bK aB) rfl)
   (aD (cP (pv 0) (bK aB) rfl)
   (aD (cP (pv 0) (bK aB) rfl)
   (aF (bR lj rfl (gK (aR (ok_sums T) hr aJ (aA (pv 1) (aA (pv 2) aB)))) (hV (n:=2) rfl (bY (aQ (i:=3) sc_Taking_init.nd) (bY (aQ (i:=4) sc_Taking_init.nd) fM))) (aF (bZ (eY (CX:=CX0) (pv 0) hr aJ (aA (pv 3) (aA (bK aB) (aA (pv 4) aB))))))))))))),?_⟩
  walk_at"q"
  refine⟨_,rfl,_,rfl,t,a.Taking,y,[],rfl,ht,T.cl_Taking,T.na_Taking_on,by decide,?_⟩;have sm1:Same L (upd H t (.ins a.Taking y (cD "on" (.ref p) []))):=aZ nt sm;have az:upd H t (.ins a.Taking y (cD "on" (.ref p) [])) t=some (.ins a.Taking y [(("on":Str),V.ref p)]):=aE;generalize upd H t (.ins a.Taking y (cD "on" (.ref p) []))=H1 at sm1 az⊢;refine⟨_,rfl,d,kvs,ks,f,rfl,sm1 _ _ hd,tb.mono (λv x z=>z.mono sm1),aa,by lia,λj I bh bg s2 a9 a4=>?_⟩
  have be:PlanA a I j (bT ks f) 24:=by
   refine⟨bh,_,a9,a4.congr' λn hn=>?_,j7 aa,kW (j8 _ _) a8,λn=>?_⟩
   ·unfold bT;rw[if_pos (mem_some0.mp hn).1]
   ·rw[mem_some0];unfold bT;by_cases h:n∈ks
    ·rw[if_pos h];exact⟨λz=>z.2,λz=>⟨h,z⟩⟩
    ·rw[if_neg h];exact⟨λz=>absurd z.1 h,λz=>absurd rfl z⟩
  have a3:=sm1.trans s2;have a1:=s2 _ _ az;have bb:L j=none:=sm1.free bg;refine⟨_,rfl,t,a.Taking,y,_,rfl,a1,T.cl_Taking,T.na_Taking_rest,by show 1<1000;decide,?_⟩
  have e2:cD "rest" (.ref j) [(("on":Str),V.ref p)]=[(("on":Str),V.ref p),(("rest":Str),V.ref j)]:=by
   rw[dG (by decide+kernel)];rfl
  rw[e2];have ay:=be.upT (o:=.ins a.Taking y [(("on":Str),V.ref p),(("rest":Str),V.ref j)]) a1;have ae:Same L (upd I t (.ins a.Taking y [(("on":Str),V.ref p),(("rest":Str),V.ref j)])):=aZ nt a3;have al:upd I t (.ins a.Taking y [(("on":Str),V.ref p),(("rest":Str),V.ref j)]) t=some (.ins a.Taking y [(("on":Str),V.ref p),(("rest":Str),V.ref j)]):=aE;generalize upd I t (.ins a.Taking y [(("on":Str),V.ref p),(("rest":Str),V.ref j)])=H3 at ay ae al⊢;refine⟨by decide,λm ao=>?_⟩;obtain⟨H4,zq,O,h4⟩:=uG (o:=.lst []) ao;rw[zq];have ac:=O _ _ al;refine⟨_,rfl,t,a.Taking,y,_,rfl,ac,T.cl_Taking,T.na_Taking_strands,by show 2<1000;decide,?_⟩
  have e3:cD "strands" (.ref m) [(("on":Str),V.ref p),(("rest":Str),V.ref j)]=[(("on":Str),V.ref p),(("rest":Str),V.ref j),(("strands":Str),V.ref m)]:=by
   rw[dG (by decide+kernel),dG (by decide+kernel)];rfl
  rw[e3];have ax:=(ay.mono O).upT (o:=.ins a.Taking y [(("on":Str),V.ref p),(("rest":Str),V.ref j),(("strands":Str),V.ref m)]) ac;have ai:Same L (upd H4 t (.ins a.Taking y [(("on":Str),V.ref p),(("rest":Str),V.ref j),(("strands":Str),V.ref m)])):=aZ nt (ae.trans O);have ar:upd H4 t (.ins a.Taking y [(("on":Str),V.ref p),(("rest":Str),V.ref j),(("strands":Str),V.ref m)]) t=some (.ins a.Taking y [(("on":Str),V.ref p),(("rest":Str),V.ref j),(("strands":Str),V.ref m)]):=aE
  have h5:upd H4 t (.ins a.Taking y [(("on":Str),V.ref p),(("rest":Str),V.ref j),(("strands":Str),V.ref m)]) m=some (.lst []):=by
   rw[aG (bD h4 ac (by intro z;cases z))];exact h4
  generalize upd H4 t (.ins a.Taking y [(("on":Str),V.ref p),(("rest":Str),V.ref j),(("strands":Str),V.ref m)])=H5 at ax ai ar h5⊢;refine⟨by decide,λB ak=>?_⟩;obtain⟨H6,zq,s6,h6⟩:=uG (o:=.lst []) ak;rw[zq];have R:=s6 _ _ ar;refine⟨_,rfl,t,a.Taking,y,_,rfl,R,T.cl_Taking,T.na_Taking_sources,by show 3<1000;decide,?_⟩
  have e4:cD "sources" (.ref B) [(("on":Str),V.ref p),(("rest":Str),V.ref j),(("strands":Str),V.ref m)]=[(("on":Str),V.ref p),(("rest":Str),V.ref j),(("strands":Str),V.ref m),(("sources":Str),V.ref B)]:=by
   rw[dG (by decide+kernel),dG (by decide+kernel),dG (by decide+kernel)];rfl
  rw[e4];have au:=(ax.mono s6).upT (o:=.ins a.Taking y [(("on":Str),V.ref p),(("rest":Str),V.ref j),(("strands":Str),V.ref m),(("sources":Str),V.ref B)]) R;have ab:Same L (upd H6 t (.ins a.Taking y [(("on":Str),V.ref p),(("rest":Str),V.ref j),(("strands":Str),V.ref m),(("sources":Str),V.ref B)])):=aZ nt (ai.trans s6);have an:upd H6 t (.ins a.Taking y [(("on":Str),V.ref p),(("rest":Str),V.ref j),(("strands":Str),V.ref m),(("sources":Str),V.ref B)]) t=some (.ins a.Taking y [(("on":Str),V.ref p),(("rest":Str),V.ref j),(("strands":Str),V.ref m),(("sources":Str),V.ref B)]):=aE
  have h7:upd H6 t (.ins a.Taking y [(("on":Str),V.ref p),(("rest":Str),V.ref j),(("strands":Str),V.ref m),(("sources":Str),V.ref B)]) m=some (.lst []):=by
   rw[aG (bD (s6 _ _ h5) R (by intro z;cases z))];exact s6 _ _ h5
  have ah:upd H6 t (.ins a.Taking y [(("on":Str),V.ref p),(("rest":Str),V.ref j),(("strands":Str),V.ref m),(("sources":Str),V.ref B)]) B=some (.lst []):=by
   rw[aG (bD h6 R (by intro z;cases z))];exact h6
  generalize upd H6 t (.ins a.Taking y [(("on":Str),V.ref p),(("rest":Str),V.ref j),(("strands":Str),V.ref m),(("sources":Str),V.ref B)])=H7 at au ab an h7 ah⊢;refine⟨by decide,λG U=>?_⟩;obtain⟨H8,zq,s8,h8⟩:=uG (o:=.lst []) U;rw[zq];have af:=s8 _ _ an;refine⟨_,rfl,t,a.Taking,y,_,rfl,af,T.cl_Taking,T.na_Taking_sinks,by show 4<1000;decide,?_⟩
  have e5:cD "sinks" (.ref G) [(("on":Str),V.ref p),(("rest":Str),V.ref j),(("strands":Str),V.ref m),(("sources":Str),V.ref B)]=fsT p j m B G:=by
   rw[dG (by decide+kernel),dG (by decide+kernel),dG (by decide+kernel),dG (by decide+kernel)];rfl
  rw[e5];have ag:=(au.mono s8).upT (o:=.ins a.Taking y (fsT p j m B G)) af;have M:Same L (upd H8 t (.ins a.Taking y (fsT p j m B G))):=aZ nt (ab.trans s8);have ad:upd H8 t (.ins a.Taking y (fsT p j m B G)) t=some (.ins a.Taking y (fsT p j m B G)):=aE
  have nl:∀{b:Addr}{zs:List V},H8 b=some (.lst zs)->upd H8 t (.ins a.Taking y (fsT p j m B G)) b=some (.lst zs):=λ{b}{zs}z=>by
   rw[aG (bD z af (by intro z;cases z))];exact z
  have h9:=nl (s8 _ _ h7);have Z:=nl (s8 _ _ ah);have aj:=nl h8;clear nl;generalize upd H8 t (.ins a.Taking y (fsT p j m B G))=H9 at ag M ad h9 Z aj⊢;have am:L m=none:=ae.free ao;have aw:L B=none:=ai.free ak;have ap:L G=none:=ab.free U;have D9:TkAt a L H9 t p j m B G [] [] (bT ks f) [] [] []:=⟨M,nt,am,bb,λe he=>(by cases he),mB,⟨y,ad⟩,ag,⟨[],h9,RowAt.nil⟩,Z,aj,RowAt.nil,RowAt.nil,(aN h5 ak).symm,(aN h7 U).symm,aN ah U,aw,ap,mB,λl hl=>(by cases hl)⟩;clear ag ad h9 Z aj;refine⟨_,rfl,_,rfl,p,d,ps,ns,kvs,ks,f,rfl,bc.mono M,a6,M _ _ hd,tb.mono (λv x z=>z.mono M),aa,bf,ok,λr bm J nr a2 Y tr=>?_⟩;have bl:=D9.mono a2;generalize hF:cG (bT ks f) ns=F at tr k
  have bF:∀s,SmR (F s):=λs=>by
   have:=ok.sf ns.length s
   rw[kZ,hF]at this;exact this
  refine⟨r,J,rfl,Y,λo=>?_⟩
  refine gx (a:=r) (o:=o) (kvs:=J) (λi σ I=>i<=ps.length/\yE4 λz3 z4 X fs=>σ=[some (.ref t),some (.ref p),some (.ref d),z3,z4]×' I r=some (.frz o (.dK J))×' Tab (FrIs a) I J (ps.map (·.1)) F×' TkAt a L I t p j m B G X fs (bT ks f) [] (gT F ((ps.map (·.1)).take i)) (gU F ((ps.map (·.1)).take i)))
   ⟨kY _,_,_,[],[],rfl,aE,?_,?_⟩ ((by rintro i σ I _⟨_,_,_,_,_,_,h,_⟩;exact h)) ?_ ?_
  ·exact tr.mono λv x⟨q,e,dq,g⟩=>⟨q,e,dq,by rw[aG (bD g Y (by intro z;cases z))];exact g⟩
  ·exact D9.mono (aZ nr a2)
  ·rintro i kv u σ I a5 nu⟨_,z3,z4,X,fs,rfl,hf,S,D⟩;obtain⟨n,e0,e1,ev,q,eq,fq⟩:=S.at_ ok.np a5
   have hi:i<ps.length:=by
    have:=(kL.mp e0).1
    rw[kK]at this;exact this
   have ba:kV kv.1=.str n:=by rw[e1];rfl
   rw[ba,eq];obtain⟨H3,zq,s3,hu⟩:=uG (o:=.tup [.str n,.ref q]) nu;rw[zq];have D3:=D.mono s3;obtain⟨a0,av⟩:=D3.ob;refine⟨u,[.str n,.ref q],rfl,SqT.of hu,rfl,.str n,[.ref q],rfl,⟨.ref q,[],rfl,⟨rfl,?_⟩⟩⟩;refine⟨_,rfl,t,a.Taking,a0,_,7,["self","place","ring","come"],spAddE a,rfl,av,jZ _ _ _ _ _ (by decide+kernel),T.cl_Taking,by decide,hG T,_,rfl,by decide,λlr aq=>?_⟩;obtain⟨H4,zq,O,h4⟩:=uG (o:=.lst []) aq;rw[zq];have N:=s3.trans O;have D4:=D3.mono O
   have as:¬lr∈[m,B,G]:=λz=>by
    obtain⟨zs,e⟩:=D3.ls3 _ z;rw[aq]at e
    cases e
   have tk:(ps.map (·.1)).take (i+1)=(ps.map (·.1)).take i++[n]:=by rw[kX,e0];rfl
   have l1:X.length<=100:=by
    have h1:=D.ro.1;have h2:=srcs_le F ((ps.map (·.1)).take i);rw[kK]at h1;rw[k8]at h2
    lia
   have l2:fs.length<=100:=by
    have h1:=D.ri.1;have h2:=snks_le F ((ps.map (·.1)).take i);rw[kK]at h1;rw[k8]at h2
    lia
   have kT:∀{H':Hp}{l:Addr}{zs ys:List V},Same H4 H'->H' l=some (.lst zs)->upd H' l (.lst ys) r=some (.frz o (.dK J))/\Tab (FrIs a) (upd H' l (.lst ys)) J (ps.map (·.1)) F:=λ{H' l zs ys}s' hl=>by
    have s':=N.trans s';refine⟨by rw[aG (bD (s' _ _ hf) hl (by intro z;cases z))];exact s' _ _ hf,S.mono λv x⟨q,e,dq,g⟩=>⟨q,e,dq,?_⟩⟩;rw[aG (bD (s' _ _ g) hl (by intro z;cases z))];exact s' _ _ g
   refine⟨_,rfl,t,a0,p,j,m,B,G,lr,q,n,F n,_,_,rfl,O _ _ av,fq.mono N,bF n,D4.so,D4.si,by rw[kK];exact l1,by rw[kK];exact l2,λc e H' ne=>?_,λc e H' ne=>?_,λc=>?_⟩
   ·obtain⟨k1,k2⟩:=kT (l:=B) (ys:=X.map .ref++[.ref e]) ne.2.1 (ne.2.1 _ _ D4.so);refine⟨hi,_,_,X++[e],fs,rfl,k1,k2,?_⟩;rw[tk,srcs_snoc,snks_snoc,if_pos c,if_neg (by grind),mz];exact D4.addS (rg:=[]) ne h4 as
   ·obtain⟨k1,k2⟩:=kT (l:=G) (ys:=fs.map .ref++[.ref e]) ne.2.1 (ne.2.1 _ _ D4.si);refine⟨hi,_,_,X,fs++[e],rfl,k1,k2,?_⟩;rw[tk,srcs_snoc,snks_snoc,if_pos c,if_neg (by grind),mz];exact D4.addK (rg:=[]) ne h4 as
   ·refine⟨hi,_,_,X,fs,rfl,N _ _ hf,S.mono λv x z=>z.mono N,?_⟩;rw[tk,srcs_snoc,snks_snoc,if_neg (by rw[c];decide+kernel),if_neg (by rw[c];decide+kernel),mz,mz];exact D4
  ·rintro σ I⟨_,z3,z4,X,fs,rfl,hf,S,D⟩;rw[tr.len,kZ]at D;exact k I j m B G X fs D
end
end G
namespace G
open PySem L2
section
noncomputable def df(g:Rat):Rat:=if 1<g then g-1 else 1-g
theorem df_ps(h:g≠1):0<df g:=by
 unfold df
 split<;>grind
noncomputable def enA(l:List WD)(x:Rat)(n:Str):Rat:=if l=[]then 0 else x/df (aM l)*sA 1 l n
theorem enA_sub(l:List WD)(x y:Rat)(n:Str):enA l (x-y) n=enA l x n-enA l y n:=by
 unfold enA
 split
 ·grind
 ·rw[lO,lO,lO];grind
theorem enA_zero(l:List WD)(n:Str):enA l 0 n=0:=by
 unfold enA
 split
 ·rfl
 ·rw[lO];grind
noncomputable def enT(es:List EN)(n:Str):Rat:=es.foldr (λe r=>enA e.1.2 e.2 n+r) 0
theorem fv(e:EN)(es:List EN)(n:Str):enT (e::es) n=enA e.1.2 e.2 n+enT es n:=rfl
theorem enT_snoc(e:EN)(n:Str):∀es:List EN,enT (es++[e]) n=enT es n+enA e.1.2 e.2 n
 |[]=>by rw[List.nil_append,fv];show _+(0:Rat)=(0:Rat)+_;grind
 |d::r=>by rw[List.cons_append,fv,fv,enT_snoc e n r];grind
theorem enT_set:∀{es:List EN}{i:Nat},es[i]?=some (k,r)->enT (es.set i (k,r-x)) n=enT es n-enA k.2 x n
 |[],_,h=>by cases h
 |e::es,0,h=>by
  cases h;rw[List.set_cons_zero,fv,fv];show enA k.2 (r-x) n+enT es n=enA k.2 r n+enT es n-_;rw[enA_sub];grind
 |e::es,i+1,h=>by
  rw[List.set_cons_succ,fv,fv,enT_set (es:=es) (i:=i) (by simpa using h)];grind
theorem enT_none:∀{es:List EN},(∀e∈es,e.2=0)->enT es n=0
 |[],_=>rfl
 |e::es,h=>by
  rw[fv,h e lG,enA_zero,enT_none λy a=>h y (lv _ a),m9]
theorem enT_first:∀{es:List EN},(∀e∈es,e.1.2=[])->enT es n=0
 |[],_=>rfl
 |e::es,h=>by
  rw[fv,enT_first λy a=>h y (lv _ a)];unfold enA;rw[if_pos (h e lG),m9]
noncomputable def sdA(d:SD)(n:Str):Rat:=(if d.rg≠[]/\aM d.rg=1 then sA d.am d.rg n else enA d.rg d.am n)+sA d.am d.pa n+enA d.tl (d.am*aM d.pa) n
noncomputable def eG(ss:List SD)(n:Str):Rat:=ss.foldl (λr d=>r+sdA d n) 0
theorem e9(ss:List SD)(d:SD)(n:Str):eG (ss++[d]) n=eG ss n+sdA d n:=by unfold eG;rw[mT];rfl
structure NsOk(E:Nat)(ps:List (Str×Rat))(ns:List WD):Prop where
 np:(ps.map (·.1)).Nodup
 lp:ps.length<=4
 nd:(ns.map (·.nm)).Nodup
 ln:ns.length<=12
 e0:0<E
 eb:E<=2^1000
 g1:∀d∈ns,GnE E d/\SmR d.x/\Bd 40 (aW d.kd d.x)
 ne:∀d∈ns,d.st≠d.go
 io:∀d∈ns,d.st∈ps.map (·.1)/\d.go∈ps.map (·.1)
structure RgM(ns:List WD)(m:Bool)(p:Str)(l:List WD):Prop where
 rg:RingW ns l
 pt:PthW p l p
 ln:l.length<=4
 gn:if m=true then 1<aM l else aM l<1
noncomputable def EndO(A0:Str->Rat)(ns:List WD)(m:Bool)(k:Str×List WD):Prop:=k.2=[]/\(if m=true then cG A0 ns k.1<0 else 0<cG A0 ns k.1)∨RgM ns m k.1 k.2
structure StOk(A0:Str->Rat)(ps:List (Str×Rat))(ns:List WD)(s:SD):Prop where
 am:0<s.am
 gq:∃D:Nat,0<D/\D<=2^223000/\Gq D s.am/\s.am<=((2^600:Nat):Rat)
 or:s.pa=[]/\s.tl=[]/\RingW ns s.rg/\s.rg.length<=4/\aM s.rg=1∨∃p q,PthW p s.pa q/\(p::s.pa.map (·.go)).Nodup/\(∀x∈s.pa,x∈ns)/\s.pa.length<=3/\EndO A0 ns true (p,s.rg)/\EndO A0 ns false (q,s.tl)
structure SzQ(D m:Nat)(x:Rat):Prop where
 nn:0<=x
 gq:Gq D x
 le:x<=((2^m:Nat):Rat)
structure TkI(A0:Str->Rat)(E D0:Nat)(ps:List (Str×Rat))(ns:List WD)(A:Str->Rat)(ss:List SD)(sr sk:List EN)(c:Nat):Prop where
 nn:∀n,SzQ (D0*E^(7*c)) 310 (A n)
 sub:∀n,A n≠0->n∈ns.map (·.nm)
 am:∀n,A0 n=A n+eG ss n+enT sr n+enT sk n
 bal:∀s∈ps.map (·.1),cG A ns s=fT sk s-fT sr s
 bs:∀x∈sr,SzQ (D0*E^(7*c)) 480 x.2/\x.1.1∈ps.map (·.1)/\EndO A0 ns true x.1
 bk:∀x∈sk,SzQ (D0*E^(7*c)) 480 x.2/\x.1.1∈ps.map (·.1)/\EndO A0 ns false x.1
 ct:ss.length+nzc (λd:WD=>A d.nm) ns+nzc (·.2) sr+nzc (·.2) sk<=nzc (λd:WD=>A0 d.nm) ns+nzc (cG A0 ns) (ps.map (·.1))
 pot:c+2*nzc (λd:WD=>A d.nm) ns+nzc (·.2) sr+nzc (·.2) sk<=28
 each:∀s∈ss,StOk A0 ps ns s
 ln:sr.length+sk.length<=8+c
structure ApD(A0:Str->Rat)(ps:List (Str×Rat))(ns:List WD)(ss:List SD):Prop where
 am:∀n,A0 n=eG ss n
 ct:ss.length<=nzc (λd:WD=>A0 d.nm) ns+nzc (cG A0 ns) (ps.map (·.1))
 each:∀s∈ss,StOk A0 ps ns s
theorem ju(p:α->Rat)(l:List α):nzc p l<=l.length:=mx _ _
theorem srcs_cons(F:Str->Rat)(x:Str)(l:List Str):gT F (x::l)=(if F x<0 then[((x,[]),-F x)]else[])++gT F l:=by
 unfold gT;by_cases h:F x<0
 ·rw[if_pos h,mZ (by exact lD h)];rfl
 ·rw[if_neg h,m5 (by simpa using h)];rfl
theorem snks_cons(F:Str->Rat)(x:Str)(l:List Str):gU F (x::l)=(if 0<F x then[((x,[]),F x)]else[])++gU F l:=by
 unfold gU;by_cases h:0<F x
 ·rw[if_pos h,mZ (by exact lD h)];rfl
 ·rw[if_neg h,m5 (by simpa using h)];rfl
theorem ends_first:∀{l:List Str},l.Nodup->(¬s∈l->fT (gT F l) s=0/\fT (gU F l) s=0)/\(s∈l->fT (gU F l) s-fT (gT F l) s=F s)
 |[],_=>⟨λ_=>⟨rfl,rfl⟩,λh=>absurd h lA⟩
 |x::l,nd=>by
  obtain⟨e,m⟩:=me.mp nd;obtain⟨b,o⟩:=ends_first (F:=F) (s:=s) m
  have i:fT (gT F (x::l)) s=(if x=s/\F x<0 then-F x else 0)+fT (gT F l) s:=by
   rw[srcs_cons];by_cases c:F x<0
   ·rw[if_pos c];show(if x=s then-F x else 0)+fT (gT F l) s=_;by_cases c2:x=s
    ·rw[if_pos c2,if_pos ⟨c2,c⟩]
    ·rw[if_neg c2,if_neg λz=>c2 z.1]
   ·rw[if_neg c,if_neg λz=>c z.2,List.nil_append];grind
  have j:fT (gU F (x::l)) s=(if x=s/\0<F x then F x else 0)+fT (gU F l) s:=by
   rw[snks_cons];by_cases c:0<F x
   ·rw[if_pos c];show(if x=s then F x else 0)+fT (gU F l) s=_;by_cases c2:x=s
    ·rw[if_pos c2,if_pos ⟨c2,c⟩]
    ·rw[if_neg c2,if_neg λz=>c2 z.1]
   ·rw[if_neg c,if_neg λz=>c z.2,List.nil_append];grind
  rw[i,j];refine⟨λh=>?_,λh=>?_⟩
  ·obtain⟨g1,a⟩:=b λz=>h (lv _ z);have nx:¬x=s:=λz=>h (by rw[z];exact lG);rw[g1,a,if_neg λz=>nx z.1,if_neg λz=>nx z.1];exact⟨by grind,by grind⟩
  ·by_cases c:x=s
   ·subst c;obtain⟨g1,a⟩:=b e;rw[g1,a];by_cases c1:F x<0
    ·rw[if_neg (c:=x=x/\0<F x) λz=>absurd z.2 (by grind),if_pos ⟨rfl,c1⟩];grind
    ·rw[if_neg (c:=x=x/\F x<0) λz=>c1 z.2];by_cases c2:0<F x
     ·rw[if_pos ⟨rfl,c2⟩];grind
     ·rw[if_neg λz=>c2 z.2];grind
   ·rw[if_neg λz=>c z.1,if_neg λz=>c z.1]
    have:=o ((lx.mp h).resolve_left λz=>c z.symm)
    grind
theorem nzc_first(F:Str->Rat):∀l:List Str,nzc (·.2) (gT F l)+nzc (·.2) (gU F l)<=nzc F l
 |[]=>kM _
 |x::l=>by
  have e:=nzc_first F l
  have a:nzc (·.2) (gT F (x::l))<=(if F x<0 then 1 else 0)+nzc (·.2) (gT F l):=by
   rw[srcs_cons];by_cases c:F x<0
   ·rw[if_pos c,if_pos c];show nzc (λx:EN=>x.2) ((((x,[]),-F x):EN)::gT F l)<=_;rw[dA]
    split<;>omega
   ·rw[if_neg c,if_neg c,List.nil_append];omega
  have b:nzc (·.2) (gU F (x::l))<=(if 0<F x then 1 else 0)+nzc (·.2) (gU F l):=by
   rw[snks_cons];by_cases c:0<F x
   ·rw[if_pos c,if_pos c];show nzc (λx:EN=>x.2) ((((x,[]),F x):EN)::gU F l)<=_;rw[dA]
    split<;>omega
   ·rw[if_neg c,if_neg c,List.nil_append];omega
  rw[dA]
  have:(if F x<0 then 1 else 0)+(if 0<F x then 1 else 0)<=(if F x=0 then 0 else 1):=by
   by_cases c1:F x<0
   ·rw[if_pos c1,if_neg (by grind),if_neg (by grind)];exact kM _
   ·rw[if_neg c1];by_cases c2:0<F x
    ·rw[if_pos c2,if_neg (by grind)];exact kM _
    ·rw[if_neg c2];omega
  omega
theorem gain_le{d:WD}(b:Bd B (aW d.kd d.x))(h:0<aW d.kd d.x):aW d.kd d.x<=((2^B:Nat):Rat)/\(aW d.kd d.x)⁻¹<=((2^B:Nat):Rat):=by
 have up:∀{x:Rat}{C:Nat},x.num.natAbs<=C->0<x->x<=(C:Rat):=λ{x C}b h=>by
  have e:x*(x.den:Rat)=(x.num:Rat):=by
   have c:=Rat.num_divInt_den x;rw[mU]at c;have i:(0:Rat)<((x.den:Int):Rat):=by exact_mod_cast x.den_pos
   have a:∀n d y:Rat,0<d->n/d=y->y*d=n:=λn d y l e=>by rw[<-e];exact mw (by grind)
   exact a _ _ _ i c
  have j:(1:Rat)<=(x.den:Rat):=by exact_mod_cast x.den_pos
  have m:(x.num:Rat)<=(C:Rat):=by
   have:x.num<=(C:Int):=by lia
   exact_mod_cast this
  have:=mH j (lI h)
  grind
 exact⟨up b.1 h,up b.inv.1 (fu h)⟩
theorem going_le(hb:∀d∈l,0<aW d.kd d.x/\Bd B (aW d.kd d.x)):0<going 1 l/\going 1 l<=((2^(B*l.length):Nat):Rat)/\(going 1 l)⁻¹<=((2^(B*l.length):Nat):Rat):=by
 revert hb
 refine cZ (P:=λl=>(∀d∈l,0<aW d.kd d.x/\Bd B (aW d.kd d.x))->0<going 1 l/\going 1 l<=((2^(B*l.length):Nat):Rat)/\(going 1 l)⁻¹<=((2^(B*l.length):Nat):Rat)) (λ_=>⟨by decide+kernel,by show(1:Rat)<=((2^(B*0):Nat):Rat);rw[Nat.mul_zero];decide+kernel,by show(1:Rat)⁻¹<=((2^(B*0):Nat):Rat);rw[Nat.mul_zero];decide+kernel⟩) (λa u t h=>?_) l;obtain⟨i,z,m⟩:=t λd j=>h d (lf _ j);obtain⟨b,r⟩:=h u (by simp);obtain⟨p,q⟩:=gain_le r b
 have e:((2^(B*(a++[u]).length):Nat):Rat)=((2^(B*a.length):Nat):Rat)*((2^B:Nat):Rat):=by
  rw[k5,lP,Nat.mul_add,Nat.mul_one,l0,Rat.natCast_mul]
 have mm:∀{x y c d:Rat},0<x->0<y->x<=c->y<=d->x*y<=c*d:=λ{x y c d}E s o j=>nc (mj o (lI s)) (mH j (by grind));rw[jX,e];refine⟨cV i b,mm i b z p,?_⟩
 have w:(going 1 a*aW u.kd u.x)⁻¹=(going 1 a)⁻¹*(aW u.kd u.x)⁻¹:=by
  have F:=lE _ (show going 1 a≠0 by grind);have A:=lE _ (show aW u.kd u.x≠0 by grind);have D:=lE _ (show going 1 a*aW u.kd u.x≠0 by have:=cV i b;grind);grind
 rw[w];exact mm (fu i) (fu b) m q
theorem SzQ.mul(h:SzQ D m x)(k:SzQ E n y):SzQ (D*E) (m+n) (x*y):=by
 refine⟨eC h.nn k.nn,h.gq.mul k.gq,?_⟩;rw[l0,Rat.natCast_mul];exact nc (mj h.le k.nn) (mH k.le (by have:=h.nn;have:=h.le;grind))
theorem SzQ.mono(h:SzQ D m x)(d:D∣E)(l:m<=n):SzQ E n x:=⟨h.nn,h.gq.mono d,nc h.le (by have:=lF (show 0<2 by decide) l;exact_mod_cast this)⟩
theorem SzQ.up(h:SzQ (D*E^i) m x)(d:i<=j)(l:m<=n):SzQ (D*E^j) n x:=h.mono (mK _ (Nat.pow_dvd_pow E d)) l
theorem SzQ.zero:SzQ D m 0:=⟨nP,Gq.zero,by exact_mod_cast kY _⟩
theorem SzQ.bd(h:SzQ D m x)(d0:0<D)(dn:D<=2^n):Bd (m+n) x:=h.gq.bd h.nn h.le d0 dn
theorem ix(hg:∀d∈l,GnE E d/\SmR d.x/\Bd B (aW d.kd d.x))(hm:l.length<=m):SzQ (E^m) (B*m) (going 1 l)/\SzQ (E^m) (B*m) (going 1 l)⁻¹:=by
 obtain⟨b,i,c⟩:=iy (E:=E) (l:=l) λd a=>(hg d a).1;obtain⟨_,h,e⟩:=going_le (l:=l) λd a=>⟨(hg d a).1.ps,(hg d a).2.2⟩;have le:((2^(B*l.length):Nat):Rat)<=((2^(B*m):Nat):Rat):=by have:=lF (show 0<2 by decide) (show B*l.length<=B*m from Nat.mul_le_mul_left _ hm);exact_mod_cast this
 exact⟨⟨lI b,i.up hm,nc h le⟩,⟨lI (fu b),c.up hm,nc e le⟩⟩
theorem kx(nd:(l.map (·.nm)).Nodup)(hg:∀d∈l,GnE E d/\SmR d.x/\Bd B (aW d.kd d.x))(hm:l.length<=m+1):(∀n,SzQ (E^m) (B*m) (sA 1 l n))/\∀d∈l,SzQ (E^m) (B*m) (sA 1 l d.nm)⁻¹:=by
 have b:∀d∈l,SzQ (E^m) (B*m) (sA 1 l d.nm)/\SzQ (E^m) (B*m) (sA 1 l d.nm)⁻¹:=λd a=>by
  obtain⟨i,h,e⟩:=sA_pre nd a;rw[e];exact ix (λd a=>hg d (m6 a)) (by rw[k8];lia)
 refine⟨λn=>?_,λd a=>(b d a).2⟩;by_cases c:n∈l.map (·.nm)
 ·obtain⟨d,a,rfl⟩:=kQ.mp c;exact(b d a).1
 ·rw[i9 c];exact SzQ.zero
theorem dk_le(e0:0<E)(eb:E<=2^1000)(d0:0<D0)(db:D0<=2^20000)(hc:c<=28)(hj:j<=7):0<D0*E^(7*c+j)/\D0*E^(7*c+j)<=2^223000:=by
 refine⟨nQ d0 (Nat.pow_pos e0),?_⟩;have a:E^(7*c+j)<=(2^1000)^(7*c+j):=Nat.pow_le_pow_left eb _;rw[<-Nat.pow_mul]at a;have e:2^(1000*(7*c+j))<=2^203000:=lF (by decide) (by lia);have b:(2:Nat)^223000=2^20000*2^203000:=by rw[<-l0]
 rw[b];exact lU db (kW a e)
theorem SzQ.mulE(h:SzQ (D*E^i) m x)(k:SzQ (E^j) n y):SzQ (D*E^(i+j)) (m+n) (x*y):=by
 have:=h.mul k
 rw[Nat.mul_assoc,<-l0]at this;exact this
theorem SzQ.less(h:SzQ D m x)(k:Gq D y)(y0:0<=y)(l:y<=x):SzQ D m (x-y):=⟨by grind,h.gq.sub k,by have:=h.le;grind⟩
theorem SzQ.bd2(h:SzQ D m x)(k:SzQ D m y)(d0:0<D)(dn:D<=2^n):Bd (m+n) (x-y):=by
 rcases Rat.le_total (a:=y) (b:=x)with l|l
 ·exact(h.less k.gq k.nn l).bd d0 dn
 ·rw[show x-y=-(y-x)by grind];exact((k.less h.gq h.nn l).bd d0 dn).neg
theorem sumF_sz(e0:0<E)(hA:∀n,SzQ D m (A n)):∀ns:List WD,(∀d∈ns,d.st≠d.go)->(∀d∈ns,GnE E d/\SmR d.x/\Bd 40 (aW d.kd d.x))->Gq (D*E) (cG A ns s)/\cG A ns s<=((ns.length*2^(m+40):Nat):Rat)/\-((ns.length*2^(m+40):Nat):Rat)<=cG A ns s:=by
 refine cZ (λ_ _=>⟨Gq.zero,by rw[show(([]:List WD).length*2^(m+40):Nat)=0 from Nat.zero_mul _];exact nP,by rw[show(([]:List WD).length*2^(m+40):Nat)=0 from Nat.zero_mul _];show-(0:Rat)<=0;decide+kernel⟩) λo d q ne g1=>?_;have j:d∈o++[d]:=by simp
 obtain⟨l,y,w⟩:=q (λz c=>ne z (lf _ c)) λz c=>g1 z (lf _ c);obtain⟨h,_,p⟩:=g1 d j;have i:=hA d.nm;have r:SzQ E 40 (aW d.kd d.x):=⟨lI h.ps,h.g,(gain_le p h.ps).1⟩;have a:=i.mul r;have b:SzQ (D*E) (m+40) (A d.nm):=i.mono (Nat.dvd_mul_right _ _) (by lia)
 have e:Gq (D*E) (con d (A d.nm) s)/\con d (A d.nm) s<=((2^(m+40):Nat):Rat)/\-((2^(m+40):Nat):Rat)<=con d (A d.nm) s:=by
  have t:(0:Rat)<=((2^(m+40):Nat):Rat):=by exact_mod_cast kY _
  unfold con
  split
  ·have:=a.nn
   have:=a.le
   exact⟨a.gq,a.le,by grind⟩
  ·split
   ·have:=b.nn
    have:=b.le
    exact⟨b.gq.neg,by grind,by grind⟩
   ·exact⟨Gq.zero,t,by grind⟩
 rw[gu,fP (ne d j),k5,lP,Nat.add_mul,Nat.one_mul,Rat.natCast_add];exact⟨l.add e.1,by have:=e.2.1;grind,by have:=e.2.2;grind⟩
theorem jh(p:α->Rat)(x:α):∀l:List α,nzc p (l++[x])<=nzc p l+1
 |[]=>by rw[List.nil_append,dA];split<;>omega
 |y::l=>by
  have:=jh p x l
  rw[List.cons_append,dA,dA];omega
theorem TkI.first(O:NsOk E ps ns)(nn:∀n,SzQ D 310 (A0 n))(sub:∀n,A0 n≠0->n∈ns.map (·.nm)):TkI A0 E (D*E) ps ns A0 [] (gT (cG A0 ns) (ps.map (·.1))) (gU (cG A0 ns) (ps.map (·.1))) 0:=by
 have j:D*E*E^(7*0)=D*E:=by rw[Nat.mul_zero,Nat.pow_zero,Nat.mul_one]
 have m:=λs=>sumF_sz (s:=s) O.e0 nn ns O.ne O.g1
 have le:∀{x:Rat},x<=((ns.length*2^(310+40):Nat):Rat)->x<=((2^480:Nat):Rat):=λ{x}h=>by
  have q:=nD (2^(310+40)) O.ln;have r:12*2^(310+40)<=2^480:=by decide+kernel
  exact nc h (Rat.natCast_le_natCast.mpr (kW q r))
 have w:=nzc_first (cG A0 ns) (ps.map (·.1));have p:=ju (cG A0 ns) (ps.map (·.1));have t:=ju (λd:WD=>A0 d.nm) ns;have z:=O.lp;have A:=O.ln;rw[kK]at p
 have c:∀x∈gT (cG A0 ns) (ps.map (·.1)),x.1.2=[]:=λx b=>by
  obtain⟨s,_,rfl⟩:=kQ.mp b;rfl
 have i:∀x∈gU (cG A0 ns) (ps.map (·.1)),x.1.2=[]:=λx b=>by
  obtain⟨s,_,rfl⟩:=kQ.mp b;rfl
 refine⟨λn=>by rw[j];exact(nn n).mono (Nat.dvd_mul_right _ _) (kM _),sub,λn=>?_,λs hs=>((ends_first O.np).2 hs).symm,λx b=>?_,λx b=>?_,by rw[List.length_nil];lia,by lia,λs hs=>absurd hs lA,?_⟩
 ·rw[enT_first c,enT_first i];show A0 n=A0 n+0+0+0;grind
 ·obtain⟨s,hs,rfl⟩:=kQ.mp b;obtain⟨e,a⟩:=nH.mp hs;have a:=of_decide_eq_true a;obtain⟨l,_,y⟩:=m s;rw[j];exact⟨⟨by show(0:Rat)<=-cG A0 ns s;grind,l.neg,le (by show-cG A0 ns s<=_;grind)⟩,e,.inl ⟨rfl,by rw[if_pos rfl];exact a⟩⟩
 ·obtain⟨s,hs,rfl⟩:=kQ.mp b;obtain⟨e,a⟩:=nH.mp hs;have a:=of_decide_eq_true a;obtain⟨l,o,_⟩:=m s;rw[j];exact⟨⟨by show(0:Rat)<=cG A0 ns s;grind,l,le o⟩,e,.inl ⟨rfl,by rw[if_neg (by decide)];exact a⟩⟩
 ·have e:=srcs_le (cG A0 ns) (ps.map (·.1));have a:=snks_le (cG A0 ns) (ps.map (·.1));rw[kK]at e a
  lia
theorem mns_le(nn:∀n,0<=A n)(hmin:∀d∈l,sA x l d.nm<=A d.nm)(x0:∀n,0<=sA x l n)(n:Str):0<=mns A l x n/\(mns A l x n≠0->A n≠0)/\sA x l n<=A n:=by
 have a:=nn n;have e:=x0 n;unfold mns;by_cases c:n∈l.map (·.nm)
 ·obtain⟨d,b,rfl⟩:=kQ.mp c
  have:=hmin d b
  exact⟨by grind,λz q=>z (by grind),this⟩
 ·rw[i9 c];exact⟨by grind,λz q=>z (by rw[q];grind),a⟩
section
variable{A0 A:Str->Rat}{E D0 c:Nat}{ps:List (Str×Rat)}{ns:List WD}{ss:List SD}{sr sk:List EN}
theorem TkI.cc(h:TkI A0 E D0 ps ns A ss sr sk c):c<=28:=by have:=h.pot;lia
theorem TkI.wk(h:TkI A0 E D0 ps ns A ss sr sk c)(O:NsOk E ps ns)(sub:∀d∈l,d∈ns)(nd:(l.map (·.nm)).Nodup)(ll:l.length<=4)(hd:d∈l):SzQ (D0*E^(7*c+3)) 430 (A d.nm/sA 1 l d.nm):=by
 have a:∀d∈l,GnE E d/\SmR d.x/\Bd 40 (aW d.kd d.x):=λd hd=>O.g1 d (sub d hd);rw[lO];exact(h.nn d.nm).mulE ((kx (m:=3) nd a (by omega)).2 d hd)
theorem SzQ.sa(h:SzQ (D*E^i) m y)(O:NsOk E ps ns)(sub:∀d∈l,d∈ns)(nd:(l.map (·.nm)).Nodup)(ll:l.length<=4)(n:Str):SzQ (D*E^(i+3)) (m+120) (y*sA 1 l n):=h.mulE ((kx (m:=3) nd (λd a=>O.g1 d (sub d a)) (by omega)).1 n)
theorem SzQ.gp(h:SzQ (D*E^i) m y)(O:NsOk E ps ns)(sub:∀d∈l,d∈ns)(ll:l.length<=j):SzQ (D*E^(i+j)) (m+40*j) (y*aM l):=h.mulE (ix (λd a=>O.g1 d (sub d a)) ll).1
theorem SzQ.b8(h:SzQ (D*E^i) m y)(O:NsOk E ps ns)(d0:0<D)(db:D<=2^20000)(hi:i<=203)(hm:m<=900):Bd 223900 y:=by
 obtain⟨a,b⟩:=dk_le (c:=28) (j:=7) O.e0 O.eb d0 db (by decide) (by decide);exact((h.up hi (kM _)).bd a b).mono (by lia)
theorem SzQ.g8(h:SzQ (D*E^i) m y)(O:NsOk E ps ns)(d0:0<D)(db:D<=2^20000)(hi:i<=203)(hm:m<=600):∃D':Nat,0<D'/\D'<=2^223000/\Gq D' y/\y<=((2^600:Nat):Rat):=by
 obtain⟨a,b⟩:=dk_le (c:=28) (j:=7) O.e0 O.eb d0 db (by decide) (by decide);have z:=h.up (j:=203) (n:=600) hi hm;exact⟨_,a,b,z.gq,z.le⟩
theorem TkI.rbd(h:TkI A0 E D0 ps ns A ss sr sk c)(O:NsOk E ps ns)(d0:0<D0)(db:D0<=2^20000)(rg:RingW ns l)(ll:l.length<=4)(hd:d∈l):RBd l (A d.nm/sA 1 l d.nm):=by
 have a:=bM O.nd rg.sub rg.nd;have y:=h.wk O rg.sub a ll hd;have i:=h.cc;refine⟨y.b8 O d0 db (by lia) (by decide),λn=>(y.sa O rg.sub a ll n).b8 O d0 db (by lia) (by decide),?_⟩;rw[show(1-aM l)*(A d.nm/sA 1 l d.nm)=A d.nm/sA 1 l d.nm-A d.nm/sA 1 l d.nm*aM l by grind];obtain⟨b,e⟩:=dk_le (c:=28) (j:=7) O.e0 O.eb d0 db (by decide) (by decide);exact((y.up (j:=203) (n:=590) (by lia) (by decide)).bd2 ((y.gp (j:=4) O rg.sub ll).up (j:=203) (n:=590) (by lia) (by decide)) b e).mono (by decide)
theorem sA_nn(O:NsOk E ps ns)(sub:∀d∈l,d∈ns)(nd:(l.map (·.nm)).Nodup)(x0:0<=x)(n:Str):0<=sA x l n:=by
 rw[eO];exact eC x0 ((kx (m:=l.length) nd (λd a=>O.g1 d (sub d a)) (by lia)).1 n).nn
theorem sA_one_head(nd:((d::r).map (·.nm)).Nodup):sA x (d::r) d.nm=x:=by
 rw[jq,if_pos rfl,i9 (me.mp nd).1,m9]
theorem TkI.ring(h:TkI A0 E D0 ps ns A ss sr sk c)(O:NsOk E ps ns)(d0:0<D0)(db:D0<=2^20000){ring:List WD}(rg:RingW ns ring)(pth:PthW s0 ring s0)(lr:ring.length<=4)(x0:0<x)(hmin:∀d∈ring,sA x ring d.nm<=A d.nm)(hat:∃d∈ring,x=A d.nm/sA 1 ring d.nm/\sA x ring d.nm=A d.nm)(out:RgOut ring s0 x ss sr sk ss' sr' sk'):TkI A0 E D0 ps ns (mns A ring x) ss' sr' sk' (c+1)/\nzc (λd:WD=>mns A ring x d.nm) ns<nzc (λd:WD=>A d.nm) ns:=by
 have nn:∀n,0<=A n:=λn=>(h.nn n).nn;have a:=bM O.nd rg.sub rg.nd;have hc:=h.cc;obtain⟨b,t,ex,Q⟩:=hat;have P:=h.wk O rg.sub a lr t;rw[<-ex]at P;have F:=sA_nn (x:=x) O rg.sub a (lI x0);have K:=mns_le nn hmin F;have uP:∀d∈ring,0<sA 1 ring d.nm:=λd J=>(sA_gq (E:=E) (m:=ring.length) a (λd J=>(O.g1 d (rg.sub d J)).1) (by lia) J).1
 have U:A b.nm≠0:=by
  have:=cV x0 (uP b t)
  rw[<-eO,Q]at this;grind
 have gp:aM ring=going 1 ring:=rfl;have T:going x ring=x*aM ring:=fh x ring;have M:∀s,cG (mns A ring x) ns s=cG A ns s-j5 s0 s0 x (x*aM ring) s:=λs=>by rw[sumF_walk O.ne O.nd ring A s0 x pth rg.sub,T]
 have lt:nzc (λd:WD=>mns A ring x d.nm) ns<nzc (λd:WD=>A d.nm) ns:=nzc_lt (λd _=>(K d.nm).2.1) ⟨b,rg.sub b t,U,by show mns A ring x b.nm=0;unfold mns;rw[Q];grind⟩;have up:∀{i m n:Nat}{y:Rat},SzQ (D0*E^(7*c+i)) m y->i<=7->m<=n->SzQ (D0*E^(7*(c+1))) n y:=λ{i m n y}q hi Y=>q.up (by lia) Y
 have I:SzQ (D0*E^(7*c+3)) 310 x:=by
  refine⟨lI x0,P.gq,?_⟩
  obtain⟨p,r,G⟩:∃p r,ring=p::r:=by
   cases hr:ring with
   |nil=>exact absurd hr rg.ne
   |cons z zs=>exact⟨z,zs,rfl⟩
  have N:=hmin p (by rw[G];exact lG);rw[G]at N a;rw[sA_one_head a]at N;exact nc N (h.nn _).le
 have L:=I.gp (j:=4) O rg.sub lr
 have D:s0∈ps.map (·.1):=by
  obtain⟨p,r,G⟩:∃p r,ring=p::r:=by
   cases hr:ring with
   |nil=>exact absurd hr rg.ne
   |cons z zs=>exact⟨z,zs,rfl⟩
  rw[G]at pth;rw[<-pth.1];exact(O.io p (rg.sub p (by rw[G];exact lG))).1
 have w:∀n,SzQ (D0*E^(7*(c+1))) 310 (mns A ring x n):=λn=>by
  have S:Gq (D0*E^(7*(c+1))) (sA x ring n):=by
   rw[eO];exact(up (i:=6) (n:=550) (P.sa O rg.sub a lr n) (by decide) (by decide)).gq
  exact(up (i:=0) (h.nn n) (by decide) (kM _)).less S (F n) (K n).2.2
 have bs:∀y∈sr,SzQ (D0*E^(7*(c+1))) 480 y.2/\y.1.1∈ps.map (·.1)/\EndO A0 ns true y.1:=λy o=>⟨up (i:=0) (h.bs y o).1 (by decide) (kM _),(h.bs y o).2⟩;have bk:∀y∈sk,SzQ (D0*E^(7*(c+1))) 480 y.2/\y.1.1∈ps.map (·.1)/\EndO A0 ns false y.1:=λy o=>⟨up (i:=0) (h.bk y o).1 (by decide) (kM _),(h.bk y o).2⟩;have l:∀n,mns A ring x n≠0->n∈ns.map (·.nm):=λn Z=>h.sub n ((K n).2.1 Z);have ct:=h.ct;have X:=h.pot;have ln:=h.ln
 have H:∀{y:Rat}{n:Str},aM ring≠1->y=df (aM ring)*x->enA ring y n=sA x ring n:=λ{y n}g1 e=>by
  have q:=df_ps g1;unfold enA;rw[if_neg rg.ne,eO x,e,lO]
  have:=lE _ (show df (aM ring)≠0 by grind)
  grind
 rcases out with⟨g1,⟨ad,rfl⟩,rfl,rfl⟩|⟨g1,rfl,rfl,rfl⟩|⟨g1,rfl,rfl,rfl⟩
 ·refine⟨⟨w,l,λn=>?_,λs hs=>?_,bs,bk,?_,by lia,λs hs=>?_,by lia⟩,lt⟩
  ·rw[e9,h.am n];unfold sdA mns;rw[if_pos ⟨rg.ne,g1⟩,ja];unfold enA;rw[if_pos rfl];grind
  ·rw[M,h.bal s hs,g1];unfold j5;grind
  ·rw[k5,lP]
   lia
  ·rcases kU.mp hs with z|z
   ·exact h.each s z
   ·rw[kS.mp z];exact⟨x0,I.g8 O d0 db (by lia) (by decide),.inl ⟨rfl,rfl,rg,lr,g1⟩⟩
 ·have B:aM ring≠1:=λz=>by rw[z]at g1;exact absurd g1 (by decide+kernel)
  have R:=jh (λe:EN=>e.2) ((s0,ring),(aM ring-1)*x) sr;refine⟨⟨w,l,λn=>?_,λs hs=>?_,λy o=>?_,bk,by lia,by lia,h.each,by rw[k5,lP];lia⟩,lt⟩
  ·rw[enT_snoc,h.am n];show _=_+_+(_+enA ring ((aM ring-1)*x) n)+_;rw[H B (by unfold df;rw[if_pos g1])];unfold mns;grind
  ·rw[M,h.bal s hs,endS_snoc];unfold j5;show _=_-(_+if s0=s then(aM ring-1)*x else 0);by_cases q:s=s0
   ·rw[if_pos q,if_pos q,if_pos q.symm];grind
   ·rw[if_neg q,if_neg q,if_neg λz=>q z.symm];grind
  ·rcases kU.mp o with z|z
   ·exact bs y z
   ·rw[kS.mp z];refine⟨?_,D,.inr ⟨rg,pth,lr,by rw[if_pos rfl];exact g1⟩⟩;show SzQ _ _ ((aM ring-1)*x);rw[show(aM ring-1)*x=x*aM ring-x by grind];have xx:=eC (lI x0) (show 0<=aM ring-1 by grind);exact(up (i:=7) L (kM _) (by decide)).less (up (i:=3) (n:=310) I (by decide) (kM _)).gq (lI x0) (by grind)
 ·have B:aM ring≠1:=λz=>by rw[z]at g1;exact absurd g1 (by decide+kernel)
  have R:=jh (λe:EN=>e.2) ((s0,ring),(1-aM ring)*x) sk;refine⟨⟨w,l,λn=>?_,λs hs=>?_,bs,λy o=>?_,by lia,by lia,h.each,by rw[k5,lP];lia⟩,lt⟩
  ·rw[enT_snoc,h.am n];show _=_+_+_+(_+enA ring ((1-aM ring)*x) n);rw[H B (by unfold df;rw[if_neg (by grind)])];unfold mns;grind
  ·rw[M,h.bal s hs,endS_snoc];unfold j5;show _=(_+if s0=s then(1-aM ring)*x else 0)-_;by_cases q:s=s0
   ·rw[if_pos q,if_pos q,if_pos q.symm];grind
   ·rw[if_neg q,if_neg q,if_neg λz=>q z.symm];grind
  ·rcases kU.mp o with z|z
   ·exact bk y z
   ·rw[kS.mp z];refine⟨?_,D,.inr ⟨rg,pth,lr,by rw[if_neg (by decide)];exact g1⟩⟩;show SzQ _ _ ((1-aM ring)*x);rw[show(1-aM ring)*x=x-x*aM ring by grind];have xx:=eC (lI x0) (show 0<=1-aM ring by grind);exact(up (i:=3) (n:=480) I (by decide) (by decide)).less (up (i:=7) L (kM _) (show 310+40*4<=480 by decide)).gq L.nn (by grind)
theorem SzQ.pb(h:SzQ (D0*E^i) m y)(O:NsOk E ps ns)(d0:0<D0)(db:D0<=2^20000)(sub:∀d∈path,d∈ns)(nd:(path.map (·.nm)).Nodup)(ll:path.length<=3)(hi:i+3<=203)(hm:m<=780):PB path y:=⟨h.b8 O d0 db (by lia) (by lia),λn=>(h.sa O sub nd (by lia) n).b8 O d0 db hi (by lia),(h.gp (j:=3) O sub ll).b8 O d0 db hi (by lia)⟩
theorem TkI.over(h:TkI A0 E D0 ps ns A ss sr sk c)(O:NsOk E ps ns)(sub:∀d∈path,d∈ns)(ll:path.length<=3)(hy:y∈sk):SzQ (D0*E^(7*c+3)) 600 (y.2/aM path):=by
 rw[lO];exact(h.bk y hy).1.mulE (ix (m:=3) (λd a=>O.g1 d (sub d a)) ll).2
theorem TkI.szP(h:TkI A0 E D0 ps ns A ss sr sk c)(O:NsOk E ps ns)(d0:0<D0)(db:D0<=2^20000)(sub:∀d∈path,d∈ns)(nd:(path.map (·.nm)).Nodup)(ll:path.length<=3):(∀y∈sr,PB path y.2)/\(∀d∈path,PB path (A d.nm/sA 1 path d.nm))/\∀y∈sk,PB path (y.2/aM path):=by
 have e:=h.cc;exact⟨λy a=>(h.bs y a).1.pb O d0 db sub nd ll (by lia) (by decide),λd b=>(h.wk O sub nd (by lia) b).pb O d0 db sub nd ll (by lia) (by decide),λy a=>(h.over O sub ll a).pb O d0 db sub nd ll (by lia) (by decide)⟩
theorem TkI.road(h:TkI A0 E D0 ps ns A ss sr sk c)(O:NsOk E ps ns)(d0:0<D0)(db:D0<=2^20000)(rd:RoadW A ns k1.1 path k2.1)(ndp:(k1.1::path.map (·.go)).Nodup)(lr:path.length<=3)(x0:0<x)(x1:x<=r1)(x2:x*aM path<=r2)(hmin:∀d∈path,sA x path d.nm<=A d.nm)(hat:x=r1∨x*aM path=r2∨∃d∈path,sA x path d.nm=A d.nm)(ham:x=r1∨x=r2/aM path∨∃d∈path,x=A d.nm/sA 1 path d.nm)(hi:sr[i]?=some (k1,r1))(hj:sk[j]?=some (k2,r2)):TkI A0 E D0 ps ns (mns A path x) (ss++[⟨k1.2,path,k2.2,x,ad⟩]) (sr.set i (k1,r1-x)) (sk.set j (k2,r2-x*aM path)) (c+1)/\nzc (λd:WD=>mns A path x d.nm) ns+nzc (·.2) (sr.set i (k1,r1-x))+nzc (·.2) (sk.set j (k2,r2-x*aM path))<nzc (λd:WD=>A d.nm) ns+nzc (·.2) sr+nzc (·.2) sk:=by
 have nn:∀n,0<=A n:=λn=>(h.nn n).nn;have a:∀x∈path,x∈ns:=λx G=>(rd.sub x G).1;have o:=bM O.nd a (RoadW.starts (ws:=ns) rd.path ndp);have b:=h.bs _ (kN hi);have l:=h.bk _ (kN hj);have P:=h.cc;have r:=sA_nn (x:=x) O a o (lI x0);have t:=mns_le nn hmin r;have gp:0<aM path:=(iy (E:=E) λd p=>(O.g1 d (a d p)).1).1;have D:=cV x0 gp;have up:∀{i m n:Nat}{y:Rat},SzQ (D0*E^(7*c+i)) m y->i<=7->m<=n->SzQ (D0*E^(7*(c+1))) n y:=λ{i m n y}q hi K=>q.up (by lia) K
 have w:SzQ (D0*E^(7*c+3)) 600 x:=by
  rcases ham with e|e|⟨d,p,e⟩
  ·rw[e];exact b.1.up (by lia) (by decide)
  ·rw[e];exact h.over O a lr (kN hj)
  ·rw[e];exact(h.wk O a o (by lia) p).up (kM _) (by decide)
 have J:∀s,cG (mns A path x) ns s=cG A ns s-j5 k1.1 k2.1 x (x*aM path) s:=λs=>by rw[sumF_walk O.ne O.nd path A k1.1 x rd.path a,fh]
 have le:nzc (λd:WD=>mns A path x d.nm) ns<=nzc (λd:WD=>A d.nm) ns:=nzc_le λd _=>(t d.nm).2.1;have I:=nzc_set (x:=x) hi (λe=>by rw[e]at x1;grind);have N:=nzc_set (x:=x*aM path) hj (λe=>by rw[e]at x2;grind)
 have lt:nzc (λd:WD=>mns A path x d.nm) ns+nzc (·.2) (sr.set i (k1,r1-x))+nzc (·.2) (sk.set j (k2,r2-x*aM path))<nzc (λd:WD=>A d.nm) ns+nzc (·.2) sr+nzc (·.2) sk:=by
  rcases hat with e|e|⟨d,p,e⟩
  ·rw[if_pos ⟨by rw[<-e];grind,e.symm⟩]at I
   have:nzc (·.2) (sk.set j (k2,r2-x*aM path))<=nzc (·.2) sk:=by lia
   lia
  ·rw[if_pos ⟨by rw[<-e];grind,e.symm⟩]at N
   have:nzc (·.2) (sr.set i (k1,r1-x))<=nzc (·.2) sr:=by lia
   lia
  ·have:nzc (λd:WD=>mns A path x d.nm) ns<nzc (λd:WD=>A d.nm) ns:=nzc_lt (λd _=>(t d.nm).2.1) ⟨d,a d p,(rd.sub d p).2,by show mns A path x d.nm=0;unfold mns;rw[e];grind⟩
   lia
 have Q:=h.ct;have H:=h.pot;refine⟨⟨λn=>?_,λn M=>h.sub n ((t n).2.1 M),λn=>?_,λs hs=>?_,λy B=>?_,λy B=>?_,?_,by lia,λs hs=>?_,by have:=h.ln;rw[List.length_set,List.length_set];lia⟩,lt⟩
 ·have F:Gq (D0*E^(7*(c+1))) (sA x path n):=by
   rw[eO];exact(up (i:=6) (n:=720) (w.sa O a o (by lia) n) (by decide) (by decide)).gq
  exact(up (i:=0) (h.nn n) (by decide) (kM _)).less F (r n) (t n).2.2
 ·rw[e9,enT_set hi,enT_set hj,h.am n]
  have L:(if k1.2≠[]/\aM k1.2=1 then sA x k1.2 n else enA k1.2 x n)=enA k1.2 x n:=if_neg λz=>by
   rcases b.2.2 with⟨q,_⟩|q
   ·exact z.1 q
   ·have q:=q.gn;rw[if_pos rfl]at q;have z:=z.2;have q:1<aM k1.2:=q;rw[z]at q;exact absurd q (by decide+kernel)
  unfold sdA mns;show _=A n-sA x path n+(eG ss n+((if k1.2≠[]/\aM k1.2=1 then sA x k1.2 n else enA k1.2 x n)+sA x path n+enA k2.2 (x*aM path) n))+_+_;rw[L];grind
 ·rw[J,endS_set hi,endS_set hj,h.bal s hs];unfold j5;grind
 ·rcases List.mem_or_eq_of_mem_set B with z|z
  ·exact⟨up (i:=0) (h.bs y z).1 (by decide) (kM _),(h.bs y z).2⟩
  ·rw[z];exact⟨(up (i:=0) b.1 (by decide) (kM _)).less (up (i:=3) (n:=600) w (by decide) (kM _)).gq (lI x0) x1,b.2⟩
 ·rcases List.mem_or_eq_of_mem_set B with z|z
  ·exact⟨up (i:=0) (h.bk y z).1 (by decide) (kM _),(h.bk y z).2⟩
  ·rw[z];exact⟨(up (i:=0) l.1 (by decide) (kM _)).less (up (i:=6) (n:=720) (w.gp (j:=3) O a lr) (by decide) (by decide)).gq (lI D) x2,l.2⟩
 ·rw[k5,lP]
  lia
 ·rcases kU.mp hs with z|z
  ·exact h.each s z
  ·rw[kS.mp z];exact⟨x0,w.g8 O d0 db (by lia) (by decide),.inr ⟨k1.1,k2.1,rd.path,ndp,a,lr,b.2.2,l.2.2⟩⟩
theorem TkI.done(h:TkI A0 E D0 ps ns A ss sr sk c)(O:NsOk E ps ns)(ac:Acyc ws)(acs:∀d∈ns,A d.nm≠0->d∈ws)(z:∀x∈sr,x.2=0):ApD A0 ps ns ss:=by
 have nn:∀n,0<=A n:=λn=>(h.nn n).nn;have m:∀d∈ns,0<aW d.kd d.x:=λd b=>(O.g1 d b).1.ps
 have e:∀d∈ns,A d.nm=0:=none_left nn O.ne ac acs λd b=>by
  rw[h.bal _ (O.io d b).1,(iL (s:=d.st) λx a=>(h.bs x a).1.nn).2.2 λx a _=>z x a]
  have:=(iL (s:=d.st) λx a=>(h.bk x a).1.nn).1
  grind
 have o:∀n,A n=0:=λn=>lN λc=>by
  obtain⟨d,b,rfl⟩:=kQ.mp (h.sub n c);exact c (e d b)
 have j:∀s,cG A ns s=0:=λs=>by
  have i:=(no_out nn ns O.ne m (s:=s) λd b _=>e d b).1;have p:=(no_in nn ns O.ne (s:=s) λd b _=>e d b).1;grind
 have l:∀x∈sk,x.2=0:=λx a=>by
  have i:=h.bal x.1.1 (h.bk x a).2.1;rw[j,(iL (s:=x.1.1) λx a=>(h.bs x a).1.nn).2.2 λx a _=>z x a]at i;have p:=(iL (s:=x.1.1) λx a=>(h.bk x a).1.nn).2.1 x a rfl;have q:=(h.bk x a).1.nn;grind
 refine⟨λn=>?_,?_,h.each⟩
 ·rw[h.am n,o n,enT_none z,enT_none l];grind
 ·have:=h.ct
  lia
end
noncomputable def RgAt(H0:Hp)(ls lo li:Addr)(ns:List WD)(A:Str->Rat)(ss:List SD)(H:Hp)(l:Addr):Prop:=(¬l∈[ls,lo,li]/\H0 l=none/\¬l∈ss.flatMap (·.ad))/\((∃ring s0,H l=some (.lst (nmV ring))/\RingW ns ring/\PthW s0 ring s0/\ring.length<=4/\∀d∈ring,A d.nm≠0)∨(H l=some (.lst [])/\∃ws,Acyc ws/\∀d∈ns,A d.nm≠0->d∈ws))
theorem ring_in_ok(D:TkAt a H0 H t p d ls lo li es fs A ss sr sk)(I:TkI A0 E' D0 ps ns A ss sr sk c)(O:NsOk E' ps ns)(hn:NetAt a H0 p ps ns)(k:∀l H',Same H H'->RgAt H0 ls lo li ns A ss H' l->Q (.ref l) H'):spRingIn a [.ref p,.ref d] H Q E:=by
 obtain⟨o,F,K,tb,w,N,s⟩:=id D.pl;have b:∀n∈F,n∈ns.map (·.nm):=λn hn=>I.sub n ((s n).mp hn)
 have m:∀l,H l=none->¬l∈[ls,lo,li]/\H0 l=none/\¬l∈ss.flatMap (·.ad):=λl h=>⟨λz=>(by
  obtain⟨P,e⟩:=D.ls3 _ z;rw[h]at e
  cases e),D.sm.free h,D.ads h⟩
 have r:∀{ring:List WD},RingW (fE ns F) ring->ring.length<=4:=λ{ring}j=>by
  have:=eT j.nd (ys:=ps.map (·.1)) λy M=>by
   obtain⟨x,i,rfl⟩:=kQ.mp M;exact(O.io x (wsOf_in b (j.sub x i)).1).1
  rw[kK,kK]at this
  have:=O.lp
  lia
 refine⟨p,d,ps,ns,o,F,A,rfl,⟨H0,hn,D.sm,D.nd⟩,O.nd,K,tb,w,b,N,λl H' ring h q B j=>(by obtain⟨L,pt⟩:=j.rd;exact k l H' q ⟨m l h,.inl ⟨ring,L,B,j.mono (λx i=>(wsOf_in b i).1),pt,r j,λx i=>(s _).mp (wsOf_in b (j.sub x i)).2⟩⟩),λl H' h q B G=>k l H' q ⟨m l h,.inr ⟨B,_,G,λx i J=>in_wsOf O.nd i ((s _).mpr J)⟩⟩⟩
theorem StIs.one(h:StIs a [ls,lo,li] H v s):StIs a [ls] H v s:=by
 obtain⟨u,r,w,b,q,z,i,y,c,m,j,p,e,t,x⟩:=h;have o:∀{l:Addr},¬l∈[ls,lo,li]->¬l∈[ls]:=λn z=>n (by rw[kS.mp z];exact lG);exact⟨u,r,w,b,q,z,i,y,c,m,o j,o p,o e,t,x⟩
inductive IspApart(a:Ad)(vs:List V)(H:Hp)(Q:VK):Prop
 |mk(p d:Addr)(ps:List (Str×Rat))(ns:List WD)(kvs:List (Key×V))(ks:List Str)(f:Str->Rat)(E D:Nat)(h1:vs=[.ref p,.ref d])(h2:NetOff a H p d ps ns)(h3:NsOk E ps ns)(h4:H d=some (.dK kvs))(h5:Tab (FrIs a) H kvs ks f)(h6:ks.Nodup)(h7:(∀n∈ks,n∈ns.map (·.nm)))(h8:(∀n∈ks,SzQ D 310 (f n)))(h9:0<D)(h10:D*E<=2^20000)(h11:SumOk (bT ks f) ps ns)(h12:∀l H' ts ss,H l=none->Same H H'->H' l=some (.lst ts)->RowAt (StIs a [l]) H' ts ss->(ss.flatMap (·.ad)).Nodup->(∀b∈ss.flatMap (·.ad),H b=none)->ApD (bT ks f) ps ns ss->Q (.ref l) H'):IspApart a vs H Q
noncomputable def spApart(a:Ad):Sp:=λvs H Q _=>IspApart a vs H Q
theorem ok_taken_apart(T:TX K mg a):FnB P w K mg base CX0 "taken_apart" 13 ["net","plan"] (spApart a):=by
 refine T.d_taken_apart.okA sc_taken_apart λf b5 A bh s H vs Q E hr h=>?_;obtain⟨p,d,ps,ns,a2,ks,f,N,DD,rfl,a7,O,hd,tb,ao,ai,hf,bv,U,ok,k⟩:=h
 refine⟨_,(aD (bZ (aR (ok_refuse_unfit T) hr aJ (aA (pv 0) (aA (pv 1) aB))))
  (aD (aI (i:=2) sc_taken_apart.nd (pe_mk (mk_Taking T) hr T.mg_Taking aJ (aA (pv 0) (aA (pv 1) aB))))
  (bB (aI (i:=3) sc_taken_apart.nd (aR (ok_ring_in T) hr aJ (aA (pv 0) (aA (aY (pv 2) rfl) aB))))
  (bB (ir lj (aP (fX hr.units0) (pv 3) (bK aB)) (aD (bZ (eY (CX:=CX0) (pv 2) hr aJ (aA (pv 3) aB)))
  (aF (aI (i:=3) sc_taken_apart.nd (aR (ok_ring_in T) hr aJ (aA (pv 0) (aA (aY (pv 2) rfl) aB)))))))
  (aD (bR lj rfl (bW (aY (pv 2) rfl)) (aQ (i:=4) sc_taken_apart.nd) (aF (ir lj (aP op_gt (eV T.fr (aY (pv 4) rfl) (eX T) hr aJ) aC) (aF (bZ (eY (CX:=CX0) (pv 2) hr aJ (aA (pv 4) aB)))))))
  (aF (aO (aY (pv 2) rfl)))))))),?_⟩
 walk_at"q"
 have bj:ks.length<=24:=by
  have:=eT ao (ys:=ns.map (·.nm)) ai
  rw[kK]at this
  have:=O.ln
  lia
 have d0:0<DD*N:=nQ bv O.e0;refine⟨_,rfl,_,rfl,p,d,ps,ns,a2,ks,f,rfl,a7,O.nd,hd,tb,ao,λn hn=>⟨ai n hn,Rat.num_nonneg.mpr (hf n hn).nn⟩,λR s1=>?_⟩;have am:=a7.mono s1;have hn:=am.at_;refine⟨_,rfl,_,rfl,?_⟩;intro t dx h1 h2 _;have s2:Same R (upd (upd R dx (.own t)) t (.ins a.Taking dx [])):=ia (C:=a.Taking) h1 h2 λb o e n=>e;have a9:upd (upd R dx (.own t)) t (.ins a.Taking dx []) t=some (.ins a.Taking dx []):=aE;generalize upd (upd R dx (.own t)) t (.ins a.Taking dx [])=H2 at s2 a9⊢;refine⟨R,t,dx,p,d,ps,ns,a2,ks,f,rfl,a9,s2,h1,am,O.nd,s1 _ _ hd,tb.mono (λv x z=>z.mono s1),ao,bj,ai,ok,by have:=O.lp;lia,λH3 d3 ls Y li es fs D3=>⟨rfl,?_⟩⟩
 have bf:∀n,SzQ DD 310 (bT ks f n):=λn=>by
  unfold bT
  split
  ·rename_i h;exact hf n h
  ·exact SzQ.zero
 have a6:∀n,bT ks f n≠0->n∈ns.map (·.nm):=λn h=>ai n (lN λc=>h (if_neg c));have I3:=TkI.first O bf a6
 generalize bT ks f=A0 at D3 I3 k;generalize gT (cG A0 ns) (ps.map (·.1))=aq at D3 I3;generalize gU (cG A0 ns) (ps.map (·.1))=au at D3 I3
 have szs:∀{J:Hp}{M:Addr}{es fs:List Addr}{A:Str->Rat}{B:List SD}{F G:List EN}{c:Nat},TkAt a R J t p M ls Y li es fs A B F G->TkI A0 N (DD*N) ps ns A B F G c->(∀n,0<=A n/\Bd 223900 (A n))×' B.length<=100×' es.length<=100×' fs.length<=100:=λ{J M es fs A B F G c}D I=>by
  have hc:=I.cc;have h1:=I.ct;have h2:=ju (λd:WD=>A0 d.nm) ns;have h3:=ju (cG A0 ns) (ps.map (·.1));have h4:=O.ln;have h5:=O.lp;have h6:=I.ln;have h7:=D.ro.1;have h8:=D.ri.1;rw[kK]at h3 h7 h8;exact⟨λn=>⟨(I.nn n).nn,(I.nn n).b8 O d0 U (by lia) (by decide)⟩,by lia,by lia,by lia⟩
 refine dP (λσ' J=>yE5 λl M A B c=>σ'=[some (.ref p),some (.ref d),some (.ref t),some (.ref l),none]×' TkAt a R J t p M ls Y li es fs A B aq au×' TkI A0 N (DD*N) ps ns A B aq au c×' RgAt R ls Y li ns A B J l) ?_ ?_
 ·obtain⟨ba,bl⟩:=D3.ob;refine⟨_,rfl,_,rfl,t,_,ba,_,_,rfl,bl,T.cl_Taking,T.na_Taking_rest,fsT_d _ _ _ _ _,?_⟩;exact ring_in_ok (E:=E) D3 I3 O hn λl J s' rg=>⟨l,d3,A0,[],0,rfl,D3.mono s',I3,rg⟩
 rintro zU az σ' H4⟨l4,d4,A4,bm,c4,rfl,D4,I4,R4⟩;subst az;refine dP (λσ' J=>yE10 λl M es fs A B F G c ws=>σ'=[some (.ref p),some (.ref d),some (.ref t),some (.ref l),none]×' TkAt a R J t p M ls Y li es fs A B F G×' TkI A0 N (DD*N) ps ns A B F G c×' Acyc ws×'∀d∈ns,A d.nm≠0->d∈ws) ?_ ?_
 ·refine⟨λm σ J=>∃l M es fs A B F G c,m=nzc (λd:WD=>A d.nm) ns/\σ=[some (.ref p),some (.ref d),some (.ref t),some (.ref l),none]/\TkAt a R J t p M ls Y li es fs A B F G/\TkI A0 N (DD*N) ps ns A B F G c/\RgAt R ls Y li ns A B J l,⟨_,l4,d4,es,fs,A4,bm,aq,au,c4,rfl,rfl,D4,I4,R4⟩,?_⟩;clear D4 I4 R4;rintro m σ H5⟨l5,d5,L,X,A5,aj,ag,ah,c5,rfl,rfl,D5,I5,ar,R5⟩;refine⟨_,rfl,by decide,λe0 ne0=>?_⟩;obtain⟨H6,zq,s6,h6⟩:=uG (o:=.lst []) ne0;rw[zq];have D6:=D5.mono s6;rcases R5 with⟨ring,s0,hl,rg,pt,lr,hA⟩|⟨hl,ws,ac,aw⟩
  ·obtain⟨v0,vr,bw⟩:∃v0 vr,nmV ring=v0::vr:=by
    cases hpp:ring with
    |nil=>exact absurd hpp rg.ne
    |cons z zs=>exact⟨_,_,rfl⟩
   have a4:=s6 _ _ hl;have ak:=a4;rw[bw]at ak;refine⟨l5,e0,_,rfl,rfl,SqL.of ak,SqL.of h6,_,rfl,iteT ?_⟩;refine⟨λσ' J=>∃l M es fs A B F G c,nzc (λd:WD=>A d.nm) ns<nzc (λd:WD=>A5 d.nm) ns/\σ'=[some (.ref p),some (.ref d),some (.ref t),some (.ref l),none]/\TkAt a R J t p M ls Y li es fs A B F G/\TkI A0 N (DD*N) ps ns A B F G c/\RgAt R ls Y li ns A B J l,(by rintro σ' J⟨l,M,es,fs,A,B,F,G,c,lt,r⟩;exact⟨_,lt,l,M,es,fs,A,B,F,G,c,rfl,r⟩),?_⟩;obtain⟨ay,as⟩:=D6.ob;obtain⟨bA,a0,bb,bo⟩:=szs D5 I5;refine⟨_,rfl,t,a.Taking,ay,_,10,["self","ring"],spTakeR a,rfl,as,jZ _ _ _ _ _ (by decide+kernel),T.cl_Taking,by decide,jz T,_,rfl,R,t,p,d5,ls,Y,li,l5,L,X,A5,aj,ag,ah,ps,ns,ring,N,s0,rfl,D6,hn,O.nd,O.g1,by have:=O.ln;lia,a4,ar.1,ar.2.1,ar.2.2,rg,pt,by lia,λy hy=>⟨hA y hy,I5.rbd O d0 U rg lr hy⟩,bA,I5.sub,a0,bb,bo,λH7 d7 bg be av af ae x D7 x0 a5 bt bp=>?_⟩;obtain⟨Z,lt⟩:=I5.ring O d0 U rg pt lr x0 a5 bt bp;obtain⟨a1,ap⟩:=D7.ob;refine⟨_,rfl,_,rfl,t,_,a1,_,_,rfl,ap,T.cl_Taking,T.na_Taking_rest,fsT_d _ _ _ _ _,?_⟩;exact ring_in_ok (E:=E) D7 Z O hn λl J s' rg=>⟨l,d7,bg,be,_,_,_,_,_,lt,rfl,D7.mono s',Z,rg⟩
  ·exact⟨l5,e0,_,rfl,rfl,SqL.of (s6 _ _ hl),SqL.of h6,_,rfl,iteF ⟨l5,d5,L,X,A5,aj,ag,ah,c5,ws,rfl,D6,I5,ac,aw⟩⟩
 rintro zU az σ' H5⟨l5,d5,L,X,A5,aj,ag,ah,c5,ws,rfl,D5,I5,ac,aw⟩;obtain⟨br,bc⟩:=D5.ob;subst az;refine⟨_,rfl,t,_,br,_,_,rfl,bc,T.cl_Taking,T.na_Taking_sources,fsT_o _ _ _ _ _,Y,rfl,⟨_,SqL.of D5.so⟩,?_⟩;refine cF (K:=K) (a:=Y) (xs:=L.map .ref) (λi σ J=>yE7 λM A B F G c z4=>σ=[some (.ref p),some (.ref d),some (.ref t),some (.ref l5),z4]×' TkAt a R J t p M ls Y li L X A B F G×' TkI A0 N (DD*N) ps ns A B F G c×'(∀d∈ns,A d.nm≠0->d∈ws)×'∀x∈F.take i,x.2=0) ⟨d5,A5,aj,ag,ah,c5,_,rfl,D5,I5,aw,λx hx=>by rw[List.take_zero]at hx;cases hx⟩ ((by rintro i σ J _⟨_,_,_,_,_,_,_,_,D,_⟩;exact SqL.of D.so)) ?_ ?_
 ·rintro i v σ H6 hv⟨d6,A6,an,a3,a8,c6,z4,rfl,D6,I6,aa,S⟩
  obtain⟨e,en,rfl⟩:∃e,L[i]?=some e/\v=.ref e:=by
   rw[kP]at hv
   cases ef:L[i]? with
   |none=>rw[ef]at hv;cases hv
   |some e'=>rw[ef]at hv;cases hv;exact⟨e',rfl,rfl⟩
  refine⟨λm σ J=>∃M A B F G c,m=nzc (λd:WD=>A d.nm) ns+nzc (·.2) F+nzc (·.2) G/\σ=[some (.ref p),some (.ref d),some (.ref t),some (.ref l5),some (.ref e)]/\TkAt a R J t p M ls Y li L X A B F G/\TkI A0 N (DD*N) ps ns A B F G c/\(∀d∈ns,A d.nm≠0->d∈ws)/\∀x∈F.take i,x.2=0,⟨_,d6,A6,an,a3,a8,c6,rfl,rfl,D6,I6,aa,S⟩,?_⟩;clear D6 I6 aa S;rintro m σ H7⟨d7,A7,av,af,ae,c7,rfl,rfl,D7,Z,ab,S⟩;obtain⟨⟨k1,r1⟩,ex,_⟩:=D7.ro.get (i:=i) hv;obtain⟨bn,b0,qe,bx,_,_,b6⟩:=D7.eS en ex;obtain⟨b1,b3,b4⟩:=Z.bs _ (kN ex);have b2:=b1.b8 O d0 U (by have:=Z.cc;lia) (by decide);refine⟨_,rfl,e,_,bn,_,_,rfl,bx,T.cl_End,T.na_End_rest,fsE_q _ _ _,?_⟩;walk_at"rd"
  by_cases hp:0<r1
  case neg=>
   refine gV (lz λz=>hp ((iD r1).mp z)) ⟨d7,A7,av,af,ae,c7,_,rfl,D7,Z,ab,λx hx=>?_⟩;rw[kX,ex]at hx;rcases kU.mp hx with z|z
   ·exact S x z
   ·rw[kS.mp z];have b1:0<=r1:=b1.nn;show r1=0;grind
  refine kG (lD ((iD r1).mpr hp)) ?_;refine⟨λσ' J=>∃M A B F G c,nzc (λd:WD=>A d.nm) ns+nzc (·.2) F+nzc (·.2) G<nzc (λd:WD=>A7 d.nm) ns+nzc (·.2) af+nzc (·.2) ae/\σ'=[some (.ref p),some (.ref d),some (.ref t),some (.ref l5),some (.ref e)]/\TkAt a R J t p M ls Y li L X A B F G/\TkI A0 N (DD*N) ps ns A B F G c/\(∀d∈ns,A d.nm≠0->d∈ws)/\∀x∈F.take i,x.2=0,(by rintro σ' J⟨M,A,B,F,G,c,lt,r⟩;exact⟨_,lt,M,A,B,F,G,c,rfl,r⟩),?_⟩;obtain⟨a1,ap⟩:=D7.ob;obtain⟨bA,a0,_,_⟩:=szs D7 Z;refine⟨_,rfl,t,a.Taking,a1,_,11,["self","source"],spRoad a,rfl,ap,jZ _ _ _ _ _ (by decide+kernel),T.cl_Taking,by decide,jy T,_,rfl,R,t,p,d7,ls,Y,li,e,L,X,A7,av,af,ae,ps,ns,ws,i,N,k1,r1,rfl,D7,hn,O.nd,O.g1,by have:=O.ln;lia,O.ne,O.io,by have:=O.lp;lia,bA,Z.sub,a0,ac,ab,b3,en,ex,hp,λx hx=>(Z.bs x hx).1.nn,λx hx=>⟨(Z.bk x hx).1.nn,(Z.bk x hx).1.b8 O d0 U (by have:=Z.cc;lia) (by decide)⟩,λpath q rd nd lp=>?_,Z.bal,λH8 d8 x path j k2 r2 ad D8 hy rd x0 x1 x2 x3 x4 x5=>?_⟩
  ·obtain⟨q1,q2,q3⟩:=Z.szP O d0 U (path:=path) (λy hy=>(rd.sub y hy).1) nd (by have:=O.lp;lia);exact⟨q1 _ (kN ex),q2,q3⟩
  have ax:=rd.places ac ab
  have bu:path.length<=3:=by
   have:=eT ax (ys:=ps.map (·.1)) λy hy=>by
    rcases lx.mp hy with rfl|z
    ·exact b3
    ·obtain⟨w',bz,rfl⟩:=kQ.mp z;exact(O.io w' (rd.sub w' bz).1).2
   rw[lR,kK,kK]at this
   have:=O.lp
   lia
  obtain⟨I8,lt⟩:=Z.road O d0 U (ad:=ad) rd ax bu x0 x1 x2 x3 x4 x5 ex hy;have al:∀x∈path,x∈ns:=λx hx=>(rd.sub x hx).1;refine⟨d8,_,_,_,_,_,lt,rfl,D8,I8,λy hy h0=>ab y hy ((mns_le (λn=>(bA n).1) x3 (sA_nn O al (bM O.nd al (RoadW.starts (ws:=ns) rd.path ax)) (lI x0)) y.nm).2.1 h0),λy hy=>S y ?_⟩;rw[List.take_set_of_le (kM _)]at hy;exact hy
 ·rintro σ H6⟨d6,A6,an,a3,a8,c6,z4,rfl,D6,I6,aa,S⟩;rw[D6.ro.1,kZ]at S;obtain⟨ay,as⟩:=D6.ob;obtain⟨ts,bq,rs⟩:=D6.st;exact⟨_,rfl,t,_,ay,_,_,rfl,as,T.cl_Taking,T.na_Taking_strands,fsT_s _ _ _ _ _,k ls H6 ts an (s1.free D6.ns) (s1.trans D6.sm) bq ⟨rs.1,λi t x h1 h2=>(rs.2 i t x h1 h2).one⟩ D6.sd (λb hb=>s1.free (D6.sh b hb)) (I6.done O ac aa S)⟩
end
end G
namespace G
open PySem L2
section
theorem cut_take(j:Nat):cutV xs none (some (j:Int))=xs.take j:=by
 unfold cutV;rw[HT.sIx_none,HT.sIx_nat,List.drop_zero,Nat.sub_zero];by_cases h:j<=xs.length
 ·rw[Nat.min_eq_left h]
 ·rw[Nat.min_eq_right (by lia),kZ,List.take_of_length_le (by lia)]
theorem at_last{xs:List Str}(h:xs.getLast?=some u):atI (xs.map V.str) (-1)=some (.str u):=by
 obtain⟨a,rfl⟩:=List.getLast?_eq_some_iff.mp h;rw[kO];exact atI_last _ _
theorem kz(ds:List WD):(bO ds).length<=ds.length+1:=by
 cases ds with
 |nil=>exact kY _
 |cons k r=>show(k.st::(k::r).map _).length<=_;rw[lR,kK];exact kM _
noncomputable def ringB(pl:List Str):Bool:=if pl=[]then false else if pl[0]?=pl.getLast? then decide (pl.drop 1).Nodup else false
theorem gR{sp:List Str}{j:Nat}(h:sp[j]?=some x):atI (sp.map V.str) (j:Int)=some (.str x):=atI_nat (by rw[kP,h];rfl)
inductive IspUnlike(K:W.Frag)(vs:List V)(H:Hp)(Q:VK):Prop
 |mk(l:Addr)(ts:List Str)(h1:vs=[.ref l])(h2:SqL K H l (ts.map V.str))(h3:ts.length<=1000)(h4:∀H',Same H H'->Q (.bl (decide ts.Nodup)) H'):IspUnlike K vs H Q
noncomputable def spUnlike(K:W.Frag):Sp:=λvs H Q _=>IspUnlike K vs H Q
theorem jO(T:TX K mg a):FnB P w K mg base CX0 "all_unlike" 1 ["names"] (spUnlike K):=by
 refine T.d_all_unlike.okA sc_all_unlike λf B A i s H D Q E r h=>?_;obtain⟨l,b,rfl,j,m,k⟩:=h;refine⟨_,(aF (aO (eQ eJ (bH call_len_setD (by rfl) T.z_len lZ (aA (dN (call_setD r.hd) (by rfl) T.z_set PyProof.Rows.boot_set (aA (pv 0) aB)) aB)) (bH bX (by rfl) T.z_len lZ (aA (pv 0) aB))))),?_⟩;walk_at"q"
 refine⟨_,rfl,l,b,rfl,j,m,λq y=>⟨q,b,rfl,aE,m,?_⟩⟩;have c:∀o,Same H (upd H q o):=λo=>aS y;generalize p:upd H q _=t;have c:Same H t:=p▸c _;refine⟨_,rfl,l,_,rfl,.inl (c.seq j),rfl,?_⟩;rw[kK]
 have e:decide (V.int (gW b).length=V.int b.length)=decide b.Nodup:=by
  rw[decide_eq_decide,<-dset_nodup];exact⟨λz=>by have:=V.int.inj z;lia,λz=>by rw[z]⟩
 rw[e];exact k _ c
inductive IspPath(K:W.Frag)(a:Ad)(g:List Str->Bool)(vs:List V)(H:Hp)(Q:VK):Prop
 |mk(p l:Addr)(ps:List (Str×Rat))(ns ds:List WD)(h1:vs=[.ref p,.ref l])(h2:OnNet K a H p l ps ns ds)(h3:∀H',Same H H'->Q (.bl (g (bO ds))) H'):IspPath K a g vs H Q
noncomputable def spPath(K:W.Frag)(a:Ad)(g:List Str->Bool):Sp:=λvs H Q _=>IspPath K a g vs H Q
theorem ok_is_path(T:TX K mg a):FnB P w K mg base CX0 "is_path" 4 ["net","walk"] (spPath K a λpl=>decide pl.Nodup):=by
 refine T.d_is_path.okA sc_is_path λf o A c s H t Q E e h=>?_;obtain⟨p,l,ps,ns,b,rfl,O,k⟩:=h;refine⟨_,(aF (aO (aR (jO T) e aJ (aA (aR (gk T) e aJ (aA (pv 0) (aA (pv 1) aB))) aB)))),?_⟩;walk_at"q"
 have len:=O.len;have pl:=kz b;exact⟨_,rfl,_,rfl,p,l,ps,ns,b,rfl,O,λr y _ m i=>⟨r,bO b,rfl,SqL.of i,by lia,λq j=>k q (m.trans j)⟩⟩
theorem ok_is_ring(T:TX K mg a):FnB P w K mg base CX0 "is_ring" 4 ["net","walk"] (spPath K a ringB):=by
 refine T.d_is_ring.okA sc_is_ring λf Y A y s H vs Q E D h=>?_;obtain⟨p,l,ps,ns,B,rfl,O,k⟩:=h
 refine⟨_,(aD (aI (i:=2) sc_is_ring.nd (aR (gk T) D aJ (aA (pv 0) (aA (pv 1) aB))))
  (aF (aO (jc (eQ (fX D.units0) (pv 2) (bK aB)) (jc (eQ eJ (aL aX (pv 2) aC) (aL aX (pv 2) (jL hU aC))) (jS (aR (jO T) D aJ (aA (gL j9 (pv 2) (iG aC) iH) aB)))))))),?_⟩
 walk_at"q"
 have len:=O.len;have R:=kz B;refine⟨_,rfl,_,rfl,p,l,ps,ns,B,rfl,O,λr G _ U M=>?_⟩;generalize bO B=b at R M k;refine⟨_,rfl,by decide,λe ne=>?_⟩;obtain⟨Z,zq,t,L⟩:=uG (o:=.lst []) ne;rw[zq];have m:=t _ _ M;have c:=U.trans t;refine⟨r,e,_,rfl,rfl,SqL.of m,SqL.of L,_,rfl,?_⟩;unfold ringB at k;by_cases hz:b=[]
 ·subst hz;refine iteF ?_;exact k _ c
 ·have F:(!(b.map V.str).isEmpty)=true:=by cases b with|nil=>exact absurd rfl hz|cons _ _=>rfl
  rw[F];refine iteT ?_;simp only[if_neg hz]at k;obtain⟨v,J⟩:∃v,b[0]?=some v:=by cases b with|nil=>exact absurd rfl hz|cons x _=>exact⟨x,rfl⟩
  obtain⟨u,I⟩:∃u,b.getLast?=some u:=⟨b.getLast hz,List.getLast?_eq_some_getLast hz⟩;rw[J,I]at k;refine⟨_,rfl,r,_,_,_,rfl,rfl,SqL.of m,gR (j:=0) J,_,rfl,_,rfl,r,_,_,_,rfl,rfl,SqL.of m,at_last I,rfl,_,rfl,?_⟩;by_cases e:v=u
  ·refine kG (lD (lW V.str e)) ?_;rw[if_pos (lW some e)]at k;refine⟨_,rfl,_,rfl,r,_,rfl,SqL.of m,λq X=>?_⟩;have S:=aS (o:=.lst (cutV (b.map V.str) (some 1) none)) X;exact⟨q,b.drop 1,rfl,SqL.of (by rw[aE,List.map_drop];exact lW (λz=>some (HO.lst z)) (cut_drop 1)),by rw[List.length_drop];omega,λH3 N=>k _ (c.trans (S.trans N))⟩
  ·refine gV (lz λz=>e (V.str.inj z)) ?_;rw[if_neg (λz=>e (lJ z))]at k;exact k _ c
end
end G
namespace G
open PySem L2
section
noncomputable def grw(ds:List WD):Int:=sgn (aM ds-1)
noncomputable def rwB(w:Int)(ds:List WD):Bool:=ringB (bO ds)&&decide (grw ds=w)
noncomputable def fU(hd pa ta:List WD):Bool:=pa.isEmpty&&(ta.isEmpty&&rwB 0 hd)
theorem ps_tryN(hb:PSs X body t)(hx:∀e s,¬X.xe e s):PS X (.Try body (h0::hs) [] [] pos) t:=by
 intro a s σ H D I h;refine wpAny_Try_except (nF (hb a s σ H D I h) (λf b q=>?_) λe b q=>absurd q (hx _ _))
 cases f with
 |next=>exact wpAny_execs_nil q
 |ret v=>exact q
 |brk=>exact q
 |cont=>exact q
inductive IspIsWalk(K:W.Frag)(a:Ad)(vs:List V)(H:Hp)(Q:VK):Prop
 |mk(p l:Addr)(ps:List (Str×Rat))(ns ds:List WD)(h1:vs=[.ref p,.ref l])(h2:OnNet K a H p l ps ns ds)(h3:∀H',Same H H'->Q (.bl true) H'):IspIsWalk K a vs H Q
noncomputable def spIsWalk(K:W.Frag)(a:Ad):Sp:=λvs H Q _=>IspIsWalk K a vs H Q
theorem ok_is_walk(T:TX K mg a):FnB P w K mg base CX0 "is_walk" 4 ["net","names"] (spIsWalk K a):=by
 refine T.d_is_walk.okA sc_is_walk λf m A b s H o Q E e h=>?_;obtain⟨p,l,ps,ns,c,rfl,O,k⟩:=h;refine⟨_,(aD (ps_tryN (aF (bZ (aR (gk T) e aJ (aA (pv 0) (aA (pv 1) aB))))) (λ_ _ h=>h)) (aF (aO fk))),?_⟩;walk_at"q"
 exact⟨_,rfl,_,rfl,p,l,ps,ns,c,rfl,O,λr i _ j _=>k i j⟩
inductive IspGrow(K:W.Frag)(a:Ad)(vs:List V)(H:Hp)(Q:VK):Prop
 |mk(p l:Addr)(ps:List (Str×Rat))(ns ds:List WD)(n:Nat)(h1:vs=[.ref p,.ref l])(h2:OnNet K a H p l ps ns ds)(h3:WkS n ds)(h4:∀H',Same H H'->Q (.int (grw ds)) H'):IspGrow K a vs H Q
noncomputable def spGrow(K:W.Frag)(a:Ad):Sp:=λvs H Q _=>IspGrow K a vs H Q
theorem ok_growth(T:TX K mg a):FnB P w K mg base CX0 "growth" 10 ["net","walk"] (spGrow K a):=by
 refine T.d_growth.okA sc_growth λf z A e s H D Q E c h=>?_;obtain⟨p,l,ps,ns,q,n,rfl,O,S,k⟩:=h;refine⟨_,(aF (aO (eV T.fr (cM T.fr (aR (fG T) c aJ (aA (pv 0) (aA (pv 1) aB))) (eR T) c aJ (aA (cL (mk1 T) c T.mg_Fraction aJ (aA aC aB)) aB)) (eX T) c aJ))),?_⟩;walk_at"q"
 refine⟨_,rfl,_,rfl,p,l,ps,ns,q,n,rfl,O,S.b,by have:=S.n;lia,by have:=S.l;lia,λg F y j=>?_⟩;refine⟨g,_,rfl,j,1,1,rfl,by decide,sm1,λo I no i m=>?_⟩;rw[show Rat.divInt 1 1=1 from rfl]at m;refine⟨g,o,_,_,rfl,j.mono i,m,S.g.s9,Bd.one.s9,True.intro,λr B G t fr=>?_⟩;exact⟨r,_,rfl,fr,r,_,rfl,fr,k B (y.trans (i.trans t))⟩
inductive IspRingW(K:W.Frag)(a:Ad)(vs:List V)(H:Hp)(Q:VK):Prop
 |mk(p l:Addr)(ps:List (Str×Rat))(ns ds:List WD)(n:Nat)(w:Int)(h1:vs=[.ref p,.ref l,.int w])(h2:OnNet K a H p l ps ns ds)(h3:WkS n ds)(h4:∀H',Same H H'->Q (.bl (rwB w ds)) H'):IspRingW K a vs H Q
noncomputable def spRingW(K:W.Frag)(a:Ad):Sp:=λvs H Q _=>IspRingW K a vs H Q
theorem fZ(T:TX K mg a):FnB P w K mg base CX0 "is_ring_with" 11 ["net","walk","wanted"] (spRingW K a):=by
 refine T.d_is_ring_with.okA sc_is_ring_with λf o A i s H q Q E j h=>?_;obtain⟨p,l,ps,ns,b,n,w,rfl,O,S,k⟩:=h;refine⟨_,(aF (aO (jc (aR (ok_is_ring T) j aJ (aA (pv 0) (aA (pv 1) aB))) (jS (eQ eJ (aR (ok_growth T) j aJ (aA (pv 0) (aA (pv 1) aB))) (pv 2)))))),?_⟩;walk_at"q"
 refine⟨_,rfl,_,rfl,p,l,ps,ns,b,rfl,O,λr c=>⟨_,rfl,?_⟩⟩;unfold rwB at k
 cases e:ringB (bO b) with
 |false=>
  rw[e]at k;exact iteF (k _ c)
 |true=>
  rw[e]at k;refine iteT ⟨_,rfl,_,rfl,p,l,ps,ns,b,n,rfl,O.mono c,S,λt m=>⟨_,rfl,rfl,?_⟩⟩;rw[show decide (V.int (grw b)=V.int w)=decide (grw b=w) from decide_eq_decide.mpr ⟨V.int.inj,λz=>by rw[z]⟩];exact k _ (c.trans m)
inductive IspRnd(K:W.Frag)(a:Ad)(g:List WD->List WD->List WD->Bool)(vs:List V)(H:Hp)(Q:VK):Prop
 |mk(p lh lp lt:Addr)(ps:List (Str×Rat))(ns hd pa ta:List WD)(n:Nat)(h1:vs=[.ref p,.ref lh,.ref lp,.ref lt])(h2:OnNet K a H p lh ps ns hd)(h3:OnNet K a H p lp ps ns pa)(h4:OnNet K a H p lt ps ns ta)(h5:WkS n hd)(h6:WkS n ta)(h7:∀H',Same H H'->Q (.bl (g hd pa ta)) H'):IspRnd K a g vs H Q
noncomputable def spRnd(K:W.Frag)(a:Ad)(g:List WD->List WD->List WD->Bool):Sp:=λvs H Q _=>IspRnd K a g vs H Q
theorem mapE{ds:List WD}:(ds.map λd=>V.str d.nm).isEmpty=ds.isEmpty:=by cases ds<;>rfl
theorem ok_is_round(T:TX K mg a):FnB P w K mg base CX0 "is_round" 12 ["net","head","path","tail"] (spRnd K a fU):=by
 refine T.d_is_round.okA sc_is_round λf O A l s H X Q E m h=>?_;obtain⟨p,R,D,lt,ps,ns,G,F,M,n,rfl,B,N,L,I,St,k⟩:=h;refine⟨_,(aF (aO (jc (eQ (jT m.units0) (pv 2) (bK aB)) (jc (eQ (jT m.units0) (pv 3) (bK aB)) (jS (aR (fZ T) m aJ (aA (pv 0) (aA (pv 1) (aA aC aB))))))))),?_⟩;walk_at"q"
 refine⟨_,rfl,by decide,λe q=>?_⟩;obtain⟨t,zq,i,y⟩:=uG (o:=.lst []) q;rw[zq];refine⟨D,e,_,rfl,rfl,i.seq N.sq,SqL.of y,_,rfl,?_⟩;unfold fU at k;rw[mapE]
 cases ep:F.isEmpty with
 |false=>
  rw[ep]at k;exact iteF (k _ i)
 |true=>
  rw[ep]at k;refine iteT ⟨_,rfl,by decide,λc j=>?_⟩;obtain⟨S,zq,r,z⟩:=uG (o:=.lst []) j;rw[zq];have b:=i.trans r;refine⟨lt,c,_,rfl,rfl,b.seq L.sq,SqL.of z,_,rfl,?_⟩;rw[mapE]
  cases et:M.isEmpty with
  |false=>
   rw[et]at k;exact iteF (k _ b)
  |true=>
   rw[et]at k;exact iteT ⟨_,rfl,_,rfl,p,R,ps,ns,G,n,0,rfl,B.mono b,I,λU J=>k _ (b.trans J)⟩
theorem op_neNK{K:W.Frag}(hK:X.K=K)(hu:X.A.units<PySem.cLine):OpR X (compareOp .NotEq) (rNeN K):=hK▸fX hu
noncomputable def iV(ws:List (List WD)):List (List Str):=(ws.filter λd=>!d.isEmpty).map bO
noncomputable def Meet(ms:List (List Str)):Prop:=∀(i:Nat)x y,ms[i]?=some x->ms[i+1]?=some y->x.getLast?=y[0]?
noncomputable def meetB(ms:List (List Str)):Bool:=@decide (Meet ms) (Classical.propDecidable _)
theorem meetB_t(h:Meet ms):meetB ms=true:=@lD _ (Classical.propDecidable _) h
theorem meetB_f(h:¬Meet ms):meetB ms=false:=@lz _ (Classical.propDecidable _) h
theorem metL_snoc(ws:List (List WD))(d:List WD):iV (ws++[d])=if d.isEmpty=true then iV ws else iV ws++[bO d]:=by
 unfold iV;rw[nL,kO]
 cases e:d.isEmpty with
 |true=>rw[m5 (by rw[e];decide),List.filter_nil,nG,mz,if_pos rfl]
 |false=>rw[mZ (by rw[e];decide),List.filter_nil,if_neg (by decide)];rfl
theorem metL_ne(h:m∈iV ws):m≠[]:=by
 unfold iV at h;obtain⟨d,a,rfl⟩:=kQ.mp h
 have:=(nH.mp a).2
 cases d with
 |nil=>cases this
 |cons x r=>show x.st::_≠[];exact List.cons_ne_nil _ _
noncomputable def StrL(H:Hp)(v:V)(ts:List Str):Prop:=∃q,v=.ref q/\H q=some (.lst (ts.map V.str))
theorem StrL.mono(h:StrL H v ts)(s:Same H H'):StrL H' v ts:=by
 obtain⟨q,e,f⟩:=h;exact⟨q,e,s _ _ f⟩
theorem strl_put(hn:V.ref l∉us)(h:RowAt StrL H us rs):RowAt StrL (upd H l o) us rs:=⟨h.1,λi u r a b=>by
 obtain⟨q,rfl,f⟩:=h.2 i u r a b;exact⟨q,rfl,by rw[aG (λz=>hn (by rw[<-z];exact kN a))];exact f⟩⟩
noncomputable def WkIs(K:W.Frag)(a:Ad)(p:Addr)(ps:List (Str×Rat))(ns:List WD)(H:Hp)(v:V)(ds:List WD):Prop:=∃l,v=.ref l/\OnNet K a H p l ps ns ds
inductive IspMeet(K:W.Frag)(a:Ad)(vs:List V)(H:Hp)(Q:VK):Prop
 |mk(p l:Addr)(us:List V)(ps:List (Str×Rat))(ns:List WD)(ws:List (List WD))(h1:vs=[.ref p,.ref l])(h2:SqL K H l us)(h3:RowAt (WkIs K a p ps ns) H us ws)(h4:ws.length<=100)(h5:∀H',Same H H'->Q (.bl (meetB (iV ws))) H'):IspMeet K a vs H Q
noncomputable def spMeet(K:W.Frag)(a:Ad):Sp:=λvs H Q _=>IspMeet K a vs H Q
theorem ok_parts_meet(T:TX K mg a):FnB P w K mg base CX0 "parts_meet" 4 ["net","parts"] (spMeet K a):=by
 refine T.d_parts_meet.okA sc_parts_meet λf ah A af s H vs Q E hr h=>?_;obtain⟨p,l,us,ps,ns,J,rfl,hl,ru,lw,k⟩:=h
 refine⟨_,(bB (eP (i:=2) (xs:=["walk"]) (rest:=["net"]) sc_parts_meet.nd rfl rfl rfl (bW (pv 1))
  (λI fp C' s' F=>(aQ (i:=0) (show(["walk","net"]:List Str).Nodup by decide+kernel))) (λI fp C' s' F=>(pts_one (aP (op_neNK (K:=K) rfl hr.units0) (pv 0) (bK aB))))
  (λI fp C' s' F=>(aR (gk T) hr aJ (aA (pv 1) (aA (pv 0) aB))))
  (Clos.many (ys:=["net"]) rfl ⟨rfl,True.intro⟩ rfl (by decide+kernel)) (Reads.many (ys:=["net"]) (js:=[0]) ⟨⟨rfl,rfl,rfl⟩,True.intro⟩))
  (aD (bR lj rfl (pi_zip (by rfl) T.z_zip (aA (pv 2) (aA (gL j9 (pv 2) (iG aC) iH) aB))) (hV (n:=2) rfl (bY (aQ (i:=3) sc_parts_meet.nd) (bY (aQ (i:=4) sc_parts_meet.nd) fM))) (aF (bG (aP op_ne (aL aX (pv 3) (jL hU aC)) (aL aX (pv 4) aC)) (aF (aO fk)) aV)))
  (aF (aO fk)))),?_⟩
 walk_at"q"
 refine dP (λσ' F=>yE2 λq b=>σ'=[some (.ref p),some (.ref l),some (.ref q),none,none]×' Same H F×' F q=some (.lst b)×' RowAt StrL F b (iV J)) ?_ ?_
 ·refine⟨_,rfl,l,rfl,⟨_,hl⟩,λq nq=>?_⟩;refine e7 (K:=K) (a:=l) (xs:=us) (λi t=>i<=J.length×' Same H t×' yE1 λb=>t q=some (.lst b)×' RowAt StrL t b (iV (J.take i))×' V.ref q∉b×' b.length<=i) ⟨kY _,aS nq,[],aE,RowAt.nil,lA,kM _⟩ ((by rintro i t⟨_,D,_⟩;exact D.seq hl)) ?_ ?_
  ·rintro i v t hv⟨_,D,b,G,B,nt,lt⟩;obtain⟨ds,ed,U,rfl,O⟩:=ru.get hv;have hi:=(kL.mp ed).1;have O1:=O.mono D;have tk:iV (J.take (i+1))=if ds.isEmpty=true then iV (J.take i) else iV (J.take i)++[bO ds]:=by rw[kX,ed,lB,metL_snoc]
   refine g1 ⟨⟨[_],rfl,rfl⟩,?_⟩;refine⟨_,rfl,by decide,λe ne=>?_⟩;obtain⟨H2,zq,c,he⟩:=uG (o:=.lst []) ne;rw[zq];refine⟨U,e,_,rfl,rfl,c.seq O1.sq,SqL.of he,_,rfl,?_⟩;rw[mapE]
   cases eE:ds.isEmpty with
   |true=>
    rw[if_pos eE]at tk;refine iteF (eU (by rw[ru.1];exact hi) ⟨hi,D.trans c,b,c _ _ G,?_,nt,by lia⟩);rw[tk];exact B.mono λ_ _ z=>z.mono c
   |false=>
    rw[if_neg (by rw[eE];decide)]at tk;refine iteT ⟨_,rfl,_,rfl,p,U,ps,ns,ds,rfl,O1.mono c,λr H3 nr N ac=>?_⟩;have h3:=N _ _ (c _ _ G);have aa:r≠q:=λz=>by rw[z,c _ _ G]at nr;cases nr
    refine⟨_,h3,aU (by lia),eU (by rw[ru.1];exact hi) ⟨hi,aZ nq (D.trans (c.trans N)),_,aE,?_,λhm=>?_,by rw[k5];show b.length+1<=_;lia⟩⟩
    ·rw[tk];exact RowAt.snoc (strl_put nt (B.mono λ_ _ z=>z.mono (c.trans N))) ⟨r,rfl,by rw[aG aa];exact ac⟩
    ·rcases kU.mp hm with z|z
     ·exact nt z
     ·cases kS.mp z;exact aa rfl
  ·rintro t⟨_,D,b,G,B,nt,_⟩;rw[ru.1,kZ]at B;exact⟨q,b,rfl,D,G,B⟩
 rintro zU ad σ' t⟨q,b,rfl,D,G,B⟩;have ne0:∀m∈iV J,m≠[]:=λm hm=>metL_ne hm;subst ad;generalize iV J=ms at B ne0 k;refine⟨_,rfl,_,rfl,_,rfl,q,_,rfl,SqL.of G,λq2 ag=>?_⟩;obtain⟨H2,zq,c,h2⟩:=uG (o:=.lst (cutV b (some 1) none)) ag;rw[zq];rw[show cutV b (some 1) none=b.drop 1 from cut_drop 1]at h2;refine⟨q,q2,b,b.drop 1,rfl,SqL.of (c _ _ G),SqL.of h2,?_⟩;have S:=D.trans c;refine for_zip (K:=K) (λi σ F=>Same H2 F×'(∃z3 z4,σ=[some (.ref p),some (.ref l),some (.ref q),z3,z4])×'∀(j:Nat) x y,j<i->ms[j]?=some x->ms[j+1]?=some y->x.getLast?=y[0]?) ⟨Same.refl _,⟨none,none,rfl⟩,λj x y hj=>absurd hj (Nat.not_lt_zero _)⟩ ((by rintro i σ F⟨s',_⟩;exact⟨SqL.of (s' _ _ (c _ _ G)),SqL.of (s' _ _ h2)⟩)) ?_ ?_
 ·rintro i u v tt σ H3 hu hv ae⟨N,⟨z3,z4,rfl⟩,ih⟩;rw[List.getElem?_drop,Nat.add_comm 1 i]at hv;obtain⟨x,ex,qx,rfl,hx⟩:=B.get hu;obtain⟨y,ey,Z,rfl,hy⟩:=B.get hv;have s4:=N.trans (aS (o:=.tup [.ref qx,.ref Z]) ae);have Y:upd H3 tt (.tup [.ref qx,.ref Z]) tt=some (.tup [.ref qx,.ref Z]):=aE;generalize upd H3 tt (.tup [.ref qx,.ref Z])=H4 at s4 Y⊢;have X:=c.trans s4;refine⟨tt,_,rfl,SqT.of Y,rfl,_,_,rfl,⟨_,_,rfl,⟨rfl,?_⟩⟩⟩;have nx:=ne0 x (kN ex);have ny:=ne0 y (kN ey);obtain⟨a1,M⟩:∃v,x.getLast?=some v:=⟨x.getLast nx,List.getLast?_eq_some_getLast nx⟩;obtain⟨b1,L⟩:∃v,y[0]?=some v:=by cases y with|nil=>exact absurd rfl ny|cons x _=>exact⟨x,rfl⟩
  refine⟨_,rfl,_,rfl,qx,_,_,_,rfl,rfl,SqL.of (X _ _ hx),at_last M,_,rfl,Z,_,_,_,rfl,rfl,SqL.of (X _ _ hy),gR (j:=0) L,rfl,_,rfl,?_⟩;by_cases e:a1=b1
  ·refine gV (by rw[lD (lW V.str e)];rfl) ⟨s4,⟨_,_,rfl⟩,λj x' y' hj e1 R=>?_⟩;by_cases hji:j=i
   ·subst hji;rw[ex]at e1;rw[ey]at R
    cases e1
    cases R;rw[M,L,e]
   ·exact ih j x' y' (by lia) e1 R
  ·refine kG (by rw[lz λz=>e (V.str.inj z)];rfl) ?_
   have no:¬Meet ms:=λz=>by
    have:=z i x y ex ey
    rw[M,L]at this;exact e (lJ this)
   rw[meetB_f no]at k;exact k _ (S.trans s4)
 ·rintro σ H3⟨N,⟨z3,z4,rfl⟩,ih⟩
  have ab:Meet ms:=λi x y e1 R=>ih i x y (by
   have:=(kL.mp R).1
   rw[List.length_drop,B.1]
   lia) e1 R
  rw[meetB_t ab]at k;exact k _ (S.trans N)
noncomputable def roadB(hd pa ta:List WD):Bool:=!(hd.isEmpty&&(pa.isEmpty&&ta.isEmpty))&&((hd.isEmpty||rwB 1 hd)&&((ta.isEmpty||rwB (-1) ta)&&(decide (bO pa).Nodup&&meetB (iV [hd,pa,ta]))))
theorem ok_is_road(T:TX K mg a):FnB P w K mg base CX0 "is_road" 12 ["net","head","path","tail"] (spRnd K a roadB):=by
 refine T.d_is_road.okA sc_is_road λf ac A aa s H vs Q E m h=>?_;obtain⟨p,B,F,lt,ps,ns,t,N,z,n,rfl,X,Op,Y,Sh,St,k⟩:=h
 refine⟨_,(bB (bG (PW.pt (gJ (aP (jT m.units0) (pv 1) (bK aB)) (gJ (aP (jT m.units0) (pv 2) (bK aB)) (fL (aP (jT m.units0) (pv 3) (bK aB)))))) (aF (aO fk)) aV)
  (bB (bG (PW.pt (gJ (aP (fX m.units0) (pv 1) (bK aB)) (fL (fV (eo (aR (fZ T) m aJ (aA (pv 0) (aA (pv 1) (aA aC aB))))))))) (aF (aO fk)) aV)
  (bB (bG (PW.pt (gJ (aP (fX m.units0) (pv 3) (bK aB)) (fL (fV (eo (aR (fZ T) m aJ (aA (pv 0) (aA (pv 3) (aA (jL hU aC) aB))))))))) (aF (aO fk)) aV)
  (aF (aO (jc (aR (ok_is_path T) m aJ (aA (pv 0) (aA (pv 2) aB))) (jS (aR (ok_parts_meet T) m aJ (aA (pv 0) (aA (bK (aA (pv 1) (aA (pv 2) (aA (pv 3) aB)))) aB)))))))))),?_⟩
 walk_at"q"
 unfold roadB at k;refine dP (λy L=>y=[some (.ref p),some (.ref B),some (.ref F),some (.ref lt)]×' Same H L×'(t.isEmpty&&(N.isEmpty&&z.isEmpty))=false) ?_ ?_
 ·refine⟨_,rfl,by decide,λZ ab=>?_⟩;obtain⟨M,zq,G,h1⟩:=uG (o:=.lst []) ab;rw[zq];refine⟨B,Z,_,rfl,rfl,G.seq X.sq,SqL.of h1,_,rfl,?_⟩;rw[mapE]
  cases eh:t.isEmpty with
  |false=>exact iteF (iteF ⟨rfl,G,rfl⟩)
  |true=>
   refine iteT ⟨_,rfl,by decide,λj D=>?_⟩;obtain⟨J,zq,r,U⟩:=uG (o:=.lst []) D;rw[zq];have c:=G.trans r;refine⟨F,j,_,rfl,rfl,c.seq Op.sq,SqL.of U,_,rfl,?_⟩;rw[mapE]
   cases ep:N.isEmpty with
   |false=>exact iteF (iteF ⟨rfl,c,rfl⟩)
   |true=>
    refine iteT ⟨_,rfl,by decide,λl I=>?_⟩;obtain⟨H3,zq,i,S⟩:=uG (o:=.lst []) I;rw[zq];have b:=c.trans i;refine⟨lt,l,_,rfl,rfl,b.seq Y.sq,SqL.of S,_,rfl,?_⟩;rw[mapE]
    cases et:z.isEmpty with
    |false=>exact iteF ⟨rfl,b,rfl⟩
    |true=>
     rw[eh,ep,et]at k;exact iteT (k _ b)
 rintro zU e y M⟨rfl,G,z1⟩;subst e;rw[z1,Bool.not_false,Bool.true_and]at k;refine dP (λy L=>y=[some (.ref p),some (.ref B),some (.ref F),some (.ref lt)]×' Same H L×'(t.isEmpty||rwB 1 t)=true) ?_ ?_
 ·refine⟨_,rfl,by decide,λj D=>?_⟩;obtain⟨J,zq,r,U⟩:=uG (o:=.lst []) D;rw[zq];have c:=G.trans r;refine⟨B,j,_,rfl,rfl,c.seq X.sq,SqL.of U,_,rfl,?_⟩;rw[mapE]
  cases eh:t.isEmpty with
  |true=>exact iteF (iteF ⟨rfl,c,rfl⟩)
  |false=>
   refine iteT ⟨_,rfl,_,rfl,p,B,ps,ns,t,n,1,rfl,X.mono c,Sh,λH3 i=>⟨_,rfl,?_⟩⟩;have b:=c.trans i;dsimp only
   cases er:rwB 1 t with
   |true=>exact iteF ⟨rfl,b,rfl⟩
   |false=>
    rw[eh,er]at k;exact iteT (k _ b)
 clear G;rintro zU e y J⟨rfl,r,z2⟩;subst e;rw[z2,Bool.true_and]at k;refine dP (λy L=>y=[some (.ref p),some (.ref B),some (.ref F),some (.ref lt)]×' Same H L×'(z.isEmpty||rwB (-1) z)=true) ?_ ?_
 ·refine⟨_,rfl,by decide,λl I=>?_⟩;obtain⟨H3,zq,i,S⟩:=uG (o:=.lst []) I;rw[zq];have b:=r.trans i;refine⟨lt,l,_,rfl,rfl,b.seq Y.sq,SqL.of S,_,rfl,?_⟩;rw[mapE]
  cases et:z.isEmpty with
  |true=>exact iteF (iteF ⟨rfl,b,rfl⟩)
  |false=>
   refine iteT ⟨_,rfl,_,rfl,_,rfl,p,lt,ps,ns,z,n,-1,rfl,Y.mono b,St,λH4 s4=>⟨_,rfl,?_⟩⟩;have O:=b.trans s4;dsimp only
   cases er:rwB (-1) z with
   |true=>exact iteF ⟨rfl,O,rfl⟩
   |false=>
    rw[et,er]at k;exact iteT (k _ O)
 clear r;rintro zU e y H3⟨rfl,i,z3⟩;subst e;rw[z3,Bool.true_and]at k;refine⟨_,rfl,_,rfl,p,F,ps,ns,N,rfl,Op.mono i,λH4 s4=>⟨_,rfl,?_⟩⟩;have R:=i.trans s4
 cases en:decide (bO N).Nodup with
 |false=>
  rw[en]at k;exact iteF (k _ R)
 |true=>
  rw[en,Bool.true_and]at k;refine iteT ⟨_,rfl,_,rfl,_,rfl,_,rfl,zL3,λl5 n5=>?_⟩;have s5:=aS (o:=.lst [.ref B,.ref F,.ref lt]) n5;have q:=R.trans s5;exact⟨p,l5,_,ps,ns,[t,N,z],rfl,SqL.of aE,RowAt.snoc (RowAt.snoc (RowAt.snoc (RowAt.nil) ⟨B,rfl,X.mono q⟩) ⟨F,rfl,Op.mono q⟩) ⟨lt,rfl,Y.mono q⟩,by simp,λH6 s6=>k _ (q.trans s6)⟩
structure StrAt(K:W.Frag)(a:Ad)(H:Hp)(p t lh lp lt q:Addr)(ps:List (Str×Rat))(ns hd pa ta:List WD)(x:Rat)(n:Nat):Prop where
 tu:H t=some (.tup [.ref lh,.ref lp,.ref lt,.ref q])
 oh:OnNet K a H p lh ps ns hd
 op:OnNet K a H p lp ps ns pa
 ot:OnNet K a H p lt ps ns ta
 fq:FrAt a.Fraction H q x
 sh:WkS n hd
 sp:WkS n pa
 st:WkS n ta
theorem StrAt.mono(d:StrAt K a H p t lh lp lt q ps ns hd pa ta x n)(s:Same H H'):StrAt K a H' p t lh lp lt q ps ns hd pa ta x n:=⟨s _ _ d.tu,d.oh.mono s,d.op.mono s,d.ot.mono s,d.fq.mono s,d.sh,d.sp,d.st⟩
noncomputable def strandB(x:Rat)(hd pa ta:List WD):Bool:=decide (0<sgn x)&&(fU hd pa ta||roadB hd pa ta)
inductive IspStrB(K:W.Frag)(a:Ad)(vs:List V)(H:Hp)(Q:VK):Prop
 |mk(p t lh lp lt q:Addr)(ps:List (Str×Rat))(ns hd pa ta:List WD)(x:Rat)(n:Nat)(h1:vs=[.ref p,.ref t])(h2:StrAt K a H p t lh lp lt q ps ns hd pa ta x n)(h3:∀H',Same H H'->Q (.bl (strandB x hd pa ta)) H'):IspStrB K a vs H Q
noncomputable def spStrB(K:W.Frag)(a:Ad):Sp:=λvs H Q _=>IspStrB K a vs H Q
theorem kC(T:TX K mg a):FnB P w K mg base CX0 "is_strand" 13 ["net","strand"] (spStrB K a):=by
 refine T.d_is_strand.okA sc_is_strand λf aa A M s H vs Q E J h=>?_;obtain⟨p,t,r,j,lt,q,ps,ns,I,G,L,x,n,rfl,S,k⟩:=h
 refine⟨_,(aD (aI (i:=2) sc_is_strand.nd (aL aT (pv 1) aC))
  (aD (aI (i:=3) sc_is_strand.nd (aL aT (pv 1) aC))
  (aD (aI (i:=4) sc_is_strand.nd (aL aT (pv 1) aC))
  (bB (bR lj rfl (pi_tup (cE (aA (pv 2) (aA (pv 3) (aA (pv 4) aB))))) (aQ (i:=5) sc_is_strand.nd) (aF (bG (fV (eo (aR (ok_is_walk T) J aJ (aA (pv 0) (aA (pv 5) aB))))) (aF (aO fk)) aV)))
  (aD (bG (aP op_le (eV T.fr (aL aT (pv 1) aC) (eX T) J aJ) aC) (aF (aO fk)) aV)
  (aF (aO (pe_or (aR (ok_is_round T) J aJ (aA (pv 0) (aA (pv 2) (aA (pv 3) (aA (pv 4) aB))))) (jS (aR (ok_is_road T) J aJ (aA (pv 0) (aA (pv 2) (aA (pv 3) (aA (pv 4) aB)))))))))))))),?_⟩
 walk_at"q"
 generalize D:jP _ _=k9
 revert k9
 refine iw λk9 D=>?_;have Z:=SqT.of (K:=K) S.tu;refine⟨_,rfl,t,_,_,_,rfl,rfl,Z,rfl,?_⟩;refine⟨_,rfl,t,_,_,_,rfl,rfl,Z,rfl,?_⟩;refine⟨_,rfl,t,_,_,_,rfl,rfl,Z,rfl,?_⟩;subst D;refine dP (λσ' F=>∃y,σ'=[some (.ref p),some (.ref t),some (.ref r),some (.ref j),some (.ref lt),y]/\Same H F) ?_ ?_
 ·refine⟨_,rfl,_,rfl,_,rfl,zL3,λB X=>?_⟩;obtain⟨H1,zq,z,R⟩:=uG (o:=.tup [.ref r,.ref j,.ref lt]) X;rw[zq];refine⟨B,rfl,⟨_,SqT.of R⟩,for_tup (K:=K) (a:=B) (xs:=[.ref r,.ref j,.ref lt]) (λi σ F=>Same H1 F/\∃y,σ=[some (.ref p),some (.ref t),some (.ref r),some (.ref j),some (.ref lt),y]) ⟨Same.refl _,none,rfl⟩ ((by rintro i σ F _⟨s',_⟩;exact SqT.of (s' _ _ R))) ?_ ?_⟩
  ·rintro i v σ N m⟨e,y,rfl⟩;have b:=z.trans e
   obtain⟨l,ds,rfl,O⟩:yE2 λl ds=>v=.ref l/\OnNet K a N p l ps ns ds:=by
    match i,m with
    |0,m=>cases m;exact⟨r,I,rfl,S.oh.mono b⟩
    |1,m=>cases m;exact⟨j,G,rfl,S.op.mono b⟩
    |2,m=>cases m;exact⟨lt,L,rfl,S.ot.mono b⟩
    |i+3,m=>cases m
   refine⟨_,rfl,_,rfl,p,l,ps,ns,ds,rfl,O,λH3 U=>⟨_,rfl,?_⟩⟩;dsimp only;rw[if_neg (by decide)];exact⟨e.trans U,_,rfl⟩
  ·rintro σ N⟨e,y,rfl⟩;exact⟨y,rfl,z.trans e⟩
 rintro zU Y σ' H1⟨y,rfl,z⟩;have c:=S.mono z;subst Y;unfold strandB at k;refine⟨_,rfl,t,_,_,_,rfl,rfl,SqT.of c.tu,rfl,q,x,rfl,c.fq,q,x,rfl,c.fq,_,_,rfl,rfl,_,rfl,ifB (λg=>?_) (λg=>?_)⟩
 ·have g:sgn x<=0:=g;rw[lz (by lia)]at k;exact k _ z
 ·have g:¬sgn x<=0:=g;rw[lD (by lia),Bool.true_and]at k;refine⟨_,rfl,_,rfl,_,rfl,_,rfl,p,r,j,lt,ps,ns,I,G,L,n,rfl,c.oh,c.op,c.ot,c.sh,c.st,λN e=>⟨_,rfl,?_⟩⟩;have b:=z.trans e
  cases er:fU I G L with
  |true=>
   rw[er]at k;exact iteT (k _ b)
  |false=>
   rw[er]at k;exact iteF ⟨_,rfl,_,rfl,_,rfl,_,rfl,p,r,j,lt,ps,ns,I,G,L,n,rfl,c.oh.mono e,c.op.mono e,c.ot.mono e,c.sh,c.st,λH3 U=>k _ (b.trans U)⟩
end
end G
namespace G
open PySem L2
section
inductive IspHeadP(K:W.Frag)(a:Ad)(g:Rat->Rat)(vs:List V)(H:Hp)(Q:VK):Prop
 |mk(p l q:Addr)(ps:List (Str×Rat))(ns ds:List WD)(x:Rat)(n m:Nat)(h1:vs=[.ref p,.ref l,.ref q])(h2:OnNet K a H p l ps ns ds)(h3:FrAt a.Fraction H q x)(h4:WkS n ds)(h5:Bd m x)(h6:m<=224520)(h7:g (aM ds)≠0)(h8:∀r H',H r=none->Same H H'->PlanA a H' r (sA (x/g (aM ds)) ds) 6->Q (.ref r) H'):IspHeadP K a g vs H Q
noncomputable def spHeadP(K:W.Frag)(a:Ad)(g:Rat->Rat):Sp:=λvs H Q _=>IspHeadP K a g vs H Q
theorem ok_head_plan(T:TX K mg a):FnB P w K mg base CX0 "head_plan" 10 ["net","head","amount"] (spHeadP K a λg=>g-1):=by
 refine T.d_head_plan.okA sc_head_plan λf aa A t s H vs Q E j h=>?_;obtain⟨p,l,q,ps,ns,z,x,n,m,rfl,O,D,S,J,hm,gz,k⟩:=h
 refine⟨_,(aD (aI (i:=3) sc_head_plan.nd (cM T.fr (aR (fG T) j aJ (aA (pv 0) (aA (pv 1) aB))) (eR T) j aJ (aA (cL (mk1 T) j T.mg_Fraction aJ (aA aC aB)) aB)))
  (aF (aO (aR (sentA T) j aJ (aA (pv 0) (aA (pv 1) (aA (cM T.fr (pv 2) (ok_over T) j aJ (aA (pv 3) aB)) aB))))))),?_⟩
 walk_at"q"
 refine⟨_,rfl,_,rfl,p,l,ps,ns,z,n,rfl,O,S.b,by have:=S.n;lia,by have:=S.l;lia,λg H1 Z I=>?_⟩;refine⟨g,_,rfl,I,1,1,rfl,by decide,sm1,λo H2 no F L=>?_⟩;rw[show Rat.divInt 1 1=1 from rfl]at L;have G:Bd 801 (aM z-1):=(S.g.sub Bd.one).mono (by decide);refine⟨g,o,_,_,rfl,I.mono F,L,S.g.s9,Bd.one.s9,True.intro,λr H3 nr Y fr=>?_⟩;have e:=Z.trans (F.trans Y);refine⟨_,rfl,_,rfl,_,rfl,q,x,rfl,D.mono e,_,rfl,q,r,_,_,rfl,D.mono e,fr,J.smr (by lia),G.s9,gz,λy H4 ny R U=>?_⟩;have c:=e.trans R;exact⟨p,l,y,ps,ns,z,_,n,m+801,rfl,O.mono c,U,S,J.div G,by lia,λN M B s5 X=>k N M (c.free B) (c.trans s5) X⟩
theorem ok_tail_plan(T:TX K mg a):FnB P w K mg base CX0 "tail_plan" 10 ["net","tail","amount"] (spHeadP K a λg=>1-g):=by
 refine T.d_tail_plan.okA sc_tail_plan λf aa A t s H vs Q E j h=>?_;obtain⟨p,l,q,ps,ns,z,x,n,m,rfl,O,F,S,J,hm,gz,k⟩:=h
 refine⟨_,(aD (aI (i:=3) sc_tail_plan.nd (cM T.fr (cL (mk1 T) j T.mg_Fraction aJ (aA aC aB)) (eR T) j aJ (aA (aR (fG T) j aJ (aA (pv 0) (aA (pv 1) aB))) aB)))
  (aF (aO (aR (sentA T) j aJ (aA (pv 0) (aA (pv 1) (aA (cM T.fr (pv 2) (ok_over T) j aJ (aA (pv 3) aB)) aB))))))),?_⟩
 walk_at"q"
 refine⟨1,1,rfl,by decide,sm1,λo H1 no L D=>?_⟩;rw[show Rat.divInt 1 1=1 from rfl]at D;refine⟨o,_,rfl,D,_,rfl,_,rfl,p,l,ps,ns,z,n,rfl,O.mono L,S.b,by have:=S.n;lia,by have:=S.l;lia,λg H2 G R=>?_⟩;have I:Bd 801 (1-aM z):=(Bd.one.sub S.g).mono (by decide);refine⟨o,g,_,_,rfl,D.mono G,R,Bd.one.s9,S.g.s9,True.intro,λr H3 nr Z fr=>?_⟩;have e:=L.trans (G.trans Z);refine⟨_,rfl,_,rfl,_,rfl,q,x,rfl,F.mono e,_,rfl,q,r,_,_,rfl,F.mono e,fr,J.smr (by lia),I.s9,gz,λy H4 ny U X=>?_⟩;have c:=e.trans U;exact⟨p,l,y,ps,ns,z,_,n,m+801,rfl,O.mono c,X,S,J.div I,by lia,λN M B s5 Y=>k N M (c.free B) (c.trans s5) Y⟩
noncomputable def roadA(x:Rat)(hd pa ta:List WD)(n:Str):Rat:=sA x pa n+(if hd.isEmpty=true then 0 else sA (x/(aM hd-1)) hd n)+(if ta.isEmpty=true then 0 else sA (aM pa*x/(1-aM ta)) ta n)
inductive IspRoadP(K:W.Frag)(a:Ad)(vs:List V)(H:Hp)(Q:VK):Prop
 |mk(p lh lp lt q:Addr)(ps:List (Str×Rat))(ns hd pa ta:List WD)(x:Rat)(n m:Nat)(h1:vs=[.ref p,.ref lh,.ref lp,.ref lt,.ref q])(h2:OnNet K a H p lh ps ns hd)(h3:OnNet K a H p lp ps ns pa)(h4:OnNet K a H p lt ps ns ta)(h5:FrAt a.Fraction H q x)(h6:WkS n hd)(h7:WkS n pa)(h8:WkS n ta)(h9:Bd m x)(h10:m<=223600)(h11:(hd.isEmpty=false->aM hd-1≠0))(h12:(ta.isEmpty=false->1-aM ta≠0))(h13:∀r H',H r=none->Same H H'->PlanA a H' r (roadA x hd pa ta) 18->Q (.ref r) H'):IspRoadP K a vs H Q
noncomputable def spRoadP(K:W.Frag)(a:Ad):Sp:=λvs H Q _=>IspRoadP K a vs H Q
theorem PlanA.wide(h:PlanA a H r A m)(hm:m<=n)(e:A=B):PlanA a H r B n:=by
 obtain⟨b,o,l,j,c,p,i⟩:=h;rw[<-e];exact⟨b,o,l,j,c,by lia,i⟩
theorem ok_road_plan(T:TX K mg a):FnB P w K mg base CX0 "road_plan" 11 ["net","head","path","tail","amount"] (spRoadP K a):=by
 refine T.d_road_plan.okA sc_road_plan λf ag A ae s H vs Q E L h=>?_;obtain⟨p,lh,lp,lt,q,ps,ns,j,B,ta,x,n,m,rfl,Oh,Op,Ot,fq,Sh,t,St,R,hm,gh,gt,k⟩:=h
 refine⟨_,(bB (aI (i:=5) sc_road_plan.nd (aR (sentA T) L aJ (aA (pv 0) (aA (pv 2) (aA (pv 4) aB)))))
  (bB (bG (aP (fX L.units0) (pv 1) (bK aB)) (aF (aI (i:=5) sc_road_plan.nd (aR (togA T) L aJ (aA (pv 5) (aA (aR (ok_head_plan T) L aJ (aA (pv 0) (aA (pv 1) (aA (pv 4) aB)))) aB))))) aV)
  (bB (bG (aP (fX L.units0) (pv 3) (bK aB)) (aD (aI (i:=6) sc_road_plan.nd (cM T.fr (aR (fG T) L aJ (aA (pv 0) (aA (pv 2) aB))) (gM T) L aJ (aA (pv 4) aB)))
  (aF (aI (i:=5) sc_road_plan.nd (aR (togA T) L aJ (aA (pv 5) (aA (aR (ok_tail_plan T) L aJ (aA (pv 0) (aA (pv 3) (aA (pv 6) aB)))) aB)))))) aV)
  (aF (aO (pv 5)))))),?_⟩
 walk_at"q"
 refine dP (λM N=>yE1 λr=>M=[some (.ref p),some (.ref lh),some (.ref lp),some (.ref lt),some (.ref q),some (.ref r),none]×' H r=none×' Same H N×' PlanA a N r (sA x B) 6) ?_ ?_
 ·exact⟨_,rfl,_,rfl,_,rfl,p,lp,q,ps,ns,B,x,n,m,rfl,Op,fq,t,R,by lia,λr H1 Z s1 O=>⟨r,rfl,Z,s1,O⟩⟩
 rintro zU I M H1⟨r,rfl,Z,s1,O⟩;have ac:∀y,Bd 224400 (sA x B y):=λy=>(t.sA R y).mono (by lia);subst I;refine dP (λM N=>yE1 λr=>M=[some (.ref p),some (.ref lh),some (.ref lp),some (.ref lt),some (.ref q),some (.ref r),none]×' H r=none×' Same H N×' PlanA a N r (λy=>sA x B y+if j.isEmpty=true then 0 else sA (x/(aM j-1)) j y) 12) ?_ ?_
 ·refine⟨_,rfl,by decide,λG X=>?_⟩;obtain⟨H2,zq,J,h2⟩:=uG (o:=.lst []) X;rw[zq];have c:=s1.trans J;refine⟨lh,G,_,rfl,rfl,c.seq Oh.sq,SqL.of h2,_,rfl,?_⟩;rw[mapE]
  cases eh:j.isEmpty with
  |true=>exact iteF ⟨r,rfl,Z,c,(O.mono J).wide (by decide) (funext λy=>by rw[if_pos rfl,m9])⟩
  |false=>
   refine iteT ⟨_,rfl,_,rfl,_,rfl,_,rfl,p,lh,q,ps,ns,j,x,n,m,rfl,Oh.mono c,fq.mono c,Sh,R,by lia,gh eh,λr2 H3 U s3 F=>?_⟩;have bh:∀y,Bd 225201 (sA (x/(aM j-1)) j y):=λy=>(Sh.sA (R.div ((Sh.g.sub Bd.one).mono (show 800+0+1<=801 by decide))) y).mono (by lia);refine⟨r,r2,_,_,6,6,225201,rfl,(O.mono (J.trans s3)),F,by decide,λy=>⟨(ac y).mono (by decide),bh y⟩,by decide,λr3 H4 Y s4 S=>?_⟩;have D:=c.trans (s3.trans s4);exact⟨r3,rfl,c.free (s3.free Y),D,S.wide (by decide) (funext λy=>by rw[if_neg (by decide)])⟩
 clear O Z r s1;rintro zU I M H1⟨r,rfl,Z,s1,O⟩
 have ad:∀y,Bd 226002 (sA x B y+if j.isEmpty=true then 0 else sA (x/(aM j-1)) j y):=λy=>by
  cases eh:j.isEmpty with
  |true=>rw[if_pos rfl,m9];exact(ac y).mono (by decide)
  |false=>
   rw[if_neg (by decide)]
   have e:sA x B y+sA (x/(aM j-1)) j y=x*(sA 1 B y+(aM j-1)⁻¹*sA 1 j y):=by
    have e1:=sA_mul x y B 1;have G:=sA_mul x y j (aM j-1)⁻¹;have e3:=sA_mul (aM j-1)⁻¹ y j 1;rw[Rat.mul_one]at e1 e3;rw[lO,e1,G,e3,Rat.mul_add]
   rw[e];exact(R.mul ((t.sA Bd.one y).add ((Sh.g.sub Bd.one).inv.mul (Sh.sA Bd.one y)))).mono (by lia)
 subst I;refine dP (λM N=>yE2 λr z6=>M=[some (.ref p),some (.ref lh),some (.ref lp),some (.ref lt),some (.ref q),some (.ref r),z6]×' H r=none×' Same H N×' PlanA a N r (roadA x j B ta) 18) ?_ ?_
 ·refine⟨_,rfl,by decide,λG X=>?_⟩;obtain⟨H2,zq,J,h2⟩:=uG (o:=.lst []) X;rw[zq];have c:=s1.trans J;refine⟨lt,G,_,rfl,rfl,c.seq Ot.sq,SqL.of h2,_,rfl,?_⟩;rw[mapE]
  cases et:ta.isEmpty with
  |true=>exact iteF ⟨r,_,rfl,Z,c,(O.mono J).wide (by decide) (funext λy=>by unfold roadA;rw[et,if_pos rfl,m9])⟩
  |false=>
   refine iteT ⟨_,rfl,_,rfl,p,lp,ps,ns,B,n,rfl,Op.mono c,t.b,by have:=t.n;lia,by have:=t.l;lia,λg H3 s3 fg=>?_⟩;have ab:=c.trans s3;refine⟨g,_,rfl,fg,_,rfl,g,q,_,_,rfl,fg,fq.mono ab,t.g.s9,R.smr (by lia),True.intro,λy H4 ny s4 fy=>?_⟩;have D:=ab.trans s4;have aa:Bd 224400 (aM B*x):=(t.g.mul R).mono (by lia);refine⟨_,rfl,_,rfl,_,rfl,_,rfl,p,lt,y,ps,ns,ta,_,n,224400,rfl,Ot.mono D,fy,St,aa,by decide,gt et,λr2 H5 U s5 F=>?_⟩;have bt:∀z,Bd 226001 (sA (aM B*x/(1-aM ta)) ta z):=λz=>(St.sA (aa.div ((Bd.one.sub St.g).mono (show 0+800+1<=801 by decide))) z).mono (by decide);refine⟨r,r2,_,_,12,6,226002,rfl,O.mono (J.trans (s3.trans (s4.trans s5))),F,by decide,λz=>⟨ad z,(bt z).mono (by decide)⟩,by decide,λr3 H6 Y s6 S=>?_⟩;have af:=D.trans (s5.trans s6);exact⟨r3,_,rfl,D.free (s5.free Y),af,S.wide (by decide) (funext λz=>by unfold roadA;rw[et,if_neg (show¬false=true by decide)])⟩
 rintro zU I M H2⟨r2,z6,rfl,U,J,F⟩;subst I;exact⟨_,rfl,k r2 H2 U J F⟩
noncomputable def strA(x:Rat)(hd pa ta:List WD)(n:Str):Rat:=if fU hd pa ta=true then sA x hd n else roadA x hd pa ta n
inductive IspStrP(K:W.Frag)(a:Ad)(vs:List V)(H:Hp)(Q:VK):Prop
 |mk(p t lh lp lt q:Addr)(ps:List (Str×Rat))(ns hd pa ta:List WD)(x:Rat)(n m:Nat)(h1:vs=[.ref p,.ref t])(h2:StrAt K a H p t lh lp lt q ps ns hd pa ta x n)(h3:Bd m x)(h4:m<=223600)(h5:strandB x hd pa ta=true)(h6:(fU hd pa ta=false->(hd.isEmpty=false->aM hd-1≠0)/\(ta.isEmpty=false->1-aM ta≠0)))(h7:∀r H',H r=none->Same H H'->PlanA a H' r (strA x hd pa ta) 18->Q (.ref r) H'):IspStrP K a vs H Q
noncomputable def spStrP(K:W.Frag)(a:Ad):Sp:=λvs H Q _=>IspStrP K a vs H Q
theorem ok_strand_plan(T:TX K mg a):FnB P w K mg base CX0 "strand_plan" 14 ["net","strand"] (spStrP K a):=by
 refine T.d_strand_plan.okA sc_strand_plan λf aa A G s H vs Q E z h=>?_;obtain⟨p,t,D,F,lt,q,ps,ns,j,o,B,x,n,m,rfl,S,R,Y,ok,Z,k⟩:=h
 refine⟨_,(aD (bG (fV (eo (aR (kC T) z aJ (aA (pv 0) (aA (pv 1) aB))))) (aF cT) aV)
  (aD (aI (i:=2) sc_strand_plan.nd (aL aT (pv 1) aC))
  (aD (aI (i:=3) sc_strand_plan.nd (aL aT (pv 1) aC))
  (aD (aI (i:=4) sc_strand_plan.nd (aL aT (pv 1) aC))
  (aD (bG (eo (aR (ok_is_round T) z aJ (aA (pv 0) (aA (pv 2) (aA (pv 3) (aA (pv 4) aB)))))) (aF (aO (aR (sentA T) z aJ (aA (pv 0) (aA (pv 2) (aA (aL aT (pv 1) aC) aB)))))) aV)
  (aF (aO (aR (ok_road_plan T) z aJ (aA (pv 0) (aA (pv 2) (aA (pv 3) (aA (pv 4) (aA (aL aT (pv 1) aC) aB))))))))))))),?_⟩
 walk_at"q"
 refine⟨_,rfl,_,rfl,p,t,D,F,lt,q,ps,ns,j,o,B,x,n,rfl,S,λH1 U=>⟨_,rfl,?_⟩⟩;dsimp only;rw[ok,if_neg (by decide)];have e:=S.mono U;have N:=SqT.of (K:=K) e.tu;refine⟨_,rfl,t,_,_,_,rfl,rfl,N,rfl,?_⟩;refine⟨_,rfl,t,_,_,_,rfl,rfl,N,rfl,?_⟩;refine⟨_,rfl,t,_,_,_,rfl,rfl,N,rfl,?_⟩;refine⟨_,rfl,_,rfl,_,rfl,_,rfl,p,D,F,lt,ps,ns,j,o,B,n,rfl,e.oh,e.op,e.ot,e.sh,e.st,λH2 O=>⟨_,rfl,?_⟩⟩;have b:=e.mono O;have c:=U.trans O;have l:=SqT.of (K:=K) b.tu
 cases er:fU j o B with
 |true=>
  exact iteT ⟨_,rfl,_,rfl,_,rfl,t,_,_,_,rfl,rfl,l,rfl,p,D,q,ps,ns,j,x,n,m,rfl,b.oh,b.fq,b.sh,R,by lia,λr J I M L=>k r J (c.free I) (c.trans M) (L.wide (by decide) (funext λy=>by unfold strA;rw[er,if_pos rfl]))⟩
 |false=>
  obtain⟨g1,X⟩:=Z er;exact iteF ⟨_,rfl,_,rfl,_,rfl,_,rfl,_,rfl,t,_,_,_,rfl,rfl,l,rfl,p,D,F,lt,q,ps,ns,j,o,B,x,n,m,rfl,b.oh,b.op,b.ot,b.fq,b.sh,b.sp,b.st,R,Y,g1,X,λr J I M L=>k r J (c.free I) (c.trans M) (L.wide (by decide) (funext λy=>by unfold strA;rw[er,if_neg (by decide)]))⟩
end
end G
namespace G
open PySem L2
section
theorem kE(h:n<=1000):n<=sizeLine:=by rw[PySem.sizeLine_eq];lia
theorem one_len:(⟨#[c]⟩:Str).length=1:=rfl
theorem bL(x:Int)(h:0<m):0<=x%m/\x%m<m:=⟨Int.emod_nonneg x (by lia),Int.emod_lt_of_pos x h⟩
inductive IspCellW(K:W.Frag)(vs:List V)(H:Hp)(Q:VK):Prop
 |mk(l:Addr)(ns:List Int)(k:Int)(h1:vs=[.ref l,.int k])(h2:SqL K H l (ns.map V.int))(h3:0<=k)(h4:k<=1000)(h5:∀c:Int,Q (.int c) H):IspCellW K vs H Q
noncomputable def spCellW(K:W.Frag):Sp:=λvs H Q _=>IspCellW K vs H Q
theorem cO(T:TX K mg a):FnB P w K mg base CX0 "_law_cell_at" 1 ["_law_script","_law_k"] (spCellW K):=by
 refine T.d_law_cell_at.okA sc_law_cell_at λf F A q s H J Q E I h=>?_;obtain⟨l,ns,i,rfl,b,e,t,k⟩:=h
 refine⟨_,(aD (bG (aP jd (pv 1) (bH bX (by rfl) T.z_len lZ (aA (pv 0) aB))) (aF (aO (aL aX (pv 0) (pv 1)))) aV)
  (aD (bG (aP eJ (bH bX (by rfl) T.z_len lZ (aA (pv 0) aB)) aC) (aF (aO aC)) aV)
  (aF (aO (aK bC (aK op_mul (aL aX (pv 0) (aK bC (pv 1) (bH bX (by rfl) T.z_len lZ (aA (pv 0) aB)))) (aK bJ aC (aK op_mul (pv 1) (pv 1)))) aC))))),?_⟩
 walk_at"q"
 have get:∀j:Int,0<=j->j<ns.length->∃c,atI (ns.map V.int) j=some (.int c):=λj o y=>by
  obtain⟨n,rfl⟩:=mW o;have D:n<ns.length:=by lia
  exact⟨ns[n],atI_nat (by rw[kP,kR D];rfl)⟩
 refine⟨_,rfl,_,rfl,_,_,rfl,.inl b,_,_,rfl,rfl,_,rfl,?_⟩;rw[kK];refine ifB (λp=>?_) (λG=>?_)
 ·obtain⟨c,m⟩:=get i e p;exact⟨_,rfl,_,rfl,l,_,_,_,rfl,rfl,b,m,k c⟩
 ·refine⟨_,rfl,_,_,rfl,.inl b,rfl,_,rfl,?_⟩;rw[kK];refine ifV (λo=>k 0) (λo=>?_);have r:(0:Int)<ns.length:=by lia
  obtain⟨B,z⟩:=bL i r;obtain⟨c,m⟩:=get _ B z;have y:i*i<=1000*1000:=Int.mul_le_mul t t e (by decide);have L:0<=i*i:=Int.mul_nonneg e e;refine⟨_,rfl,_,rfl,_,rfl,l,_,rfl,.inl b,_,_,rfl,rfl,by rw[kK];exact r,l,_,_,_,rfl,rfl,b,by rw[kK];exact m,?_⟩;refine⟨_,rfl,_,rfl,_,_,rfl,rfl,.inl ⟨by lia,by lia⟩,_,_,rfl,rfl,_,_,rfl,rfl,.inr ⟨by lia,by lia⟩,_,_,rfl,rfl,zI1000003,?_⟩;exact k _
structure Names(ns:List Str)(n:Nat):Prop where
 len:ns.length=n
 nd:ns.Nodup
 sm:∀x∈ns,x.length<=200
inductive IspNames(vs:List V)(H:Hp)(Q:VK):Prop
 |mk(c:Int)(n:Nat)(h1:vs=[.int c,.int n])(h2:n<=37)(h3:∀l H' ns,H l=none->Same H H'->H' l=some (.lst (ns.map V.str))->Names ns n->Q (.ref l) H'):IspNames vs H Q
noncomputable def spNames(K:W.Frag):Sp:=λvs H Q _=>IspNames vs H Q
theorem take_range{f:Nat->Str}(i:Nat):((List.range (i+1)).map f)=((List.range i).map f)++[f i]:=by rw[List.range_succ,kO];rfl
theorem names_of(inj:∀i j,i<n->j<n->f i=f j->i=j)(sm:∀i,i<n->(f i).length<=200):Names ((List.range n).map f) n:=by
 refine⟨by simp,?_,λx c=>?_⟩
 ·rw[List.nodup_iff_pairwise_ne,List.pairwise_map];refine(List.nodup_range (n:=n)).imp_of_mem ?_;intro i j a b ne e;exact ne (inj i j (nE.mp a) (nE.mp b) e)
 ·obtain⟨i,a,rfl⟩:=kQ.mp c;exact sm i (nE.mp a)
theorem rep_len(c:Nat)(n:Int):(Txt.mul ⟨#[c]⟩ n).length=n.toNat:=by rw[len_cps,mul_cps,List.length_replicate]
noncomputable def nmA(c:Int)(k:Nat):Str:=Txt.mul ⟨#[sgAt (c/4%37)]⟩ ((0+(k:Int))+1)
noncomputable def nmB(f:Str)(at_ c:Int)(k:Nat):Str:=(Txt.slice f none (some at_)++⟨#[sgAt ((0+(k:Int)+c/7)%37)]⟩)++Txt.slice f (some at_) none
theorem nmA_names(h:n<=37):Names ((List.range n).map (nmA c)) n:=by
 refine names_of (λi j _ _ e=>?_) λi a=>?_
 ·have:=lW Str.length e
  unfold nmA at this;rw[rep_len,rep_len]at this
  lia
 ·unfold nmA;rw[rep_len]
  lia
theorem nmB_names(h:n<=37)(hf:f.length<=60):Names ((List.range n).map (nmB f at_ c)) n:=by
 refine names_of (λi j a m e=>?_) λi a=>?_
 ·have b:=app_left (app_right e)
  have l:sgAt ((0+(i:Int)+c/7)%37)=sgAt ((0+(j:Int)+c/7)%37):=by
   have:=lW (λu:Str=>u.cps.toList) b
   simpa using this
  obtain⟨r,q⟩:=bL (0+(i:Int)+c/7) (show(0:Int)<37 by decide);obtain⟨s,t⟩:=bL (0+(j:Int)+c/7) (show(0:Int)<37 by decide);have o:=sgAt_inj _ (by lia) _ (by lia) l
  lia
 ·unfold nmB;have p:=Txt.slice_le f none (some at_);have w:=Txt.slice_le f (some at_) none;rw[PySem.strLen_append,PySem.strLen_append,one_len]
  lia
theorem kB(T:TX K mg a):FnB P w K mg base CX0 "_law_names" 1 ["_law_cell","_law_count"] (spNames K):=by
 refine T.d_law_names.okA sc_law_names λf aa A M s H vs Q E hr h=>?_;obtain⟨c,n,rfl,R,k⟩:=h
 refine⟨_,(aD (aI (i:=2) sc_law_names.nd pe_str)
  (aD (bG (aP eJ (aK bC (pv 0) aC) aC) (aF (aO (fR (xs:=["_law_k"]) (rest:=["_law_cell","_law_signs"]) rfl (dM rfl T.z_range (aA (pv 1) aB))
  (λe F J G B=>(aQ (i:=0) (show(["_law_k","_law_cell","_law_signs"]:List Str).Nodup by decide+kernel))) (λe F J G B=>dQ)
  (λe F J G B=>(aK op_rep_str (aL ix_str (pv 2) (aK bC (aK cA (pv 1) aC) aC)) (aK bJ (pv 0) aC)))
  (Clos.many (ys:=["_law_signs","_law_cell"]) rfl ⟨rfl,rfl,True.intro⟩ rfl (by decide+kernel)) (Reads.many (ys:=["_law_cell","_law_signs"]) (js:=[0,2]) ⟨⟨rfl,rfl,rfl⟩,⟨rfl,rfl,rfl⟩,True.intro⟩)))) aV)
  (aD (aI (i:=3) sc_law_names.nd (aK op_rep_str (aL ix_str (pv 2) (aK bC (aK cA (pv 0) aC) aC)) (aL aX (bK (aA aC (aA aC (aA aC (aA aC aB))))) (aK bC (aK cA (pv 0) aC) aC))))
  (aD (aI (i:=4) sc_law_names.nd (aK bC (aK cA (pv 0) aC) (aK bJ (bH call_len_str (by rfl) T.z_len lZ (aA (pv 3) aB)) aC)))
  (aF (aO (fR (xs:=["_law_k"]) (rest:=["_law_at","_law_cell","_law_fill","_law_signs"]) rfl (dM rfl T.z_range (aA (pv 1) aB))
  (λe F J G B=>(aQ (i:=0) (show(["_law_k","_law_at","_law_cell","_law_fill","_law_signs"]:List Str).Nodup by decide+kernel))) (λe F J G B=>dQ)
  (λe F J G B=>(aK op_add_str (aK op_add_str (gL sl_str (pv 3) iH (iG (pv 1))) (aL ix_str (pv 4) (aK bC (aK bJ (pv 0) (aK cA (pv 2) aC)) aC))) (gL sl_str (pv 3) (iG (pv 1)) iH)))
  (Clos.many (ys:=["_law_signs","_law_fill","_law_cell","_law_at"]) rfl ⟨rfl,rfl,rfl,rfl,True.intro⟩ rfl (by decide+kernel)) (Reads.many (ys:=["_law_at","_law_cell","_law_fill","_law_signs"]) (js:=[4,0,3,2]) ⟨⟨rfl,rfl,rfl⟩,⟨rfl,rfl,rfl⟩,⟨rfl,rfl,rfl⟩,⟨rfl,rfl,rfl⟩,True.intro⟩)))))))),?_⟩
 walk_at"q"
 obtain⟨O,S⟩:=bL (c/4) (show(0:Int)<37 by decide);walk_at"rd"
 refine ifV (λq=>?_) (λq=>?_)
 ·refine⟨_,rfl,(n:Int),rfl,by lia,by lia,λl t=>?_⟩;refine eF (λi p=>i<=n×' Same H p×' p l=some (.lst (((List.range i).map (nmA c)).map V.str))) ⟨kY _,aS t,aE⟩ ?_ ?_
  ·rintro i p D⟨_,r,q⟩;refine g1 ⟨⟨[_],rfl,rfl⟩,yes ?_⟩;have y:i<n:=by simpa using D
   walk_at"rd"
   refine⟨by rw[PySem.sizeLine_eq];decide,sgAt_some O S,?_⟩;walk_at"rd"
   refine⟨show(0+(i:Int)+1).natAbs<1000 by lia,?_⟩;refine⟨_,q,aU (by rw[kK,kK,mV];lia),eU (by simpa using D) ⟨y,aZ t r,?_⟩⟩;rw[aE,take_range,kO];rfl
  ·rintro p⟨_,r,q⟩;exact k l p _ t r q (by simpa using nmA_names (c:=c) R)
 ·obtain⟨q0,X⟩:=bL (c/148) (show(0:Int)<4 by decide);walk_at"rd"
  refine⟨by rw[PySem.sizeLine_eq];decide,sgAt_some O S,zL4,λz nz=>?_⟩;obtain⟨Y,zq,sz,N⟩:=uG (o:=.lst [.int 0,.int 1,.int 3,.int 59]) nz;rw[zq]
  have I:yE1 λ(m:Int)=>atI [V.int 0,.int 1,.int 3,.int 59] (c/148%4)=some (.int m)×' 0<=m×' m<=59:=by
   obtain⟨j,Z⟩:=mW q0;rw[Z]at X⊢
   have:j=0∨j=1∨j=2∨j=3:=by lia
   rcases this with rfl|rfl|rfl|rfl
   ·exact⟨0,rfl,by decide,by decide⟩
   ·exact⟨1,rfl,by decide,by decide⟩
   ·exact⟨3,rfl,by decide,by decide⟩
   ·exact⟨59,rfl,by decide,by decide⟩
  obtain⟨m,hm,m0,m1⟩:=I;walk_at"rd"
  refine⟨z,_,_,_,rfl,rfl,SqL.of N,hm,?_⟩;walk_at"rd"
  refine⟨show m.natAbs<1000 by lia,?_⟩;have U:=rep_len (sgAt (c/4%37)) m;generalize Txt.mul ⟨#[sgAt (c/4%37)]⟩ m=b at U⊢;have L:b.length<=60:=by lia
  walk_at"rd"
  refine⟨kE (by lia),?_⟩;walk_at"rd"
  refine⟨show(0:Int)<(b.length:Int)+1 by lia,?_⟩;refine⟨_,rfl,(n:Int),rfl,by lia,by lia,λl t=>?_⟩;refine eF (λi p=>i<=n×' Same Y p×' p l=some (.lst (((List.range i).map (nmB b (c/592%((b.length:Int)+1)) c)).map V.str))) ⟨kY _,aS t,aE⟩ ?_ ?_
  ·rintro i p D⟨_,r,q⟩;refine g1 ⟨⟨[_],rfl,rfl⟩,yes ?_⟩;have y:i<n:=by simpa using D
   obtain⟨r1,r2⟩:=bL (0+(i:Int)+c/7) (show(0:Int)<37 by decide);have l1:=Txt.slice_le b none (some (c/592%((b.length:Int)+1)));have l2:=Txt.slice_le b (some (c/592%((b.length:Int)+1))) none;refine⟨_,rfl,_,rfl,_,rfl,b,rfl,kE (by lia),?_⟩;walk_at"rd"
   refine⟨by rw[PySem.sizeLine_eq];decide,sgAt_some r1 r2,?_⟩;walk_at"rd"
   refine⟨by rw[one_len];exact kE (by lia),?_⟩;walk_at"rd"
   refine⟨kE (by lia),?_⟩;walk_at"rd"
   refine⟨by rw[PySem.strLen_append,one_len];exact kE (by lia),?_⟩;refine⟨_,q,aU (by rw[kK,kK,mV];lia),eU (by simpa using D) ⟨y,aZ t r,?_⟩⟩;rw[aE,take_range,kO];rfl
  ·rintro p⟨_,r,q⟩;exact k l p _ (sz.free t) (sz.trans r) q (by simpa using nmB_names (c:=c) R L)
structure GB(t b:Int):Prop where
 t0:1<=t
 t1:t<=2^40
 b0:1<=b
 b1:b<=2^40
structure G5(t b:Int):Prop where
 t0:1<=t
 t1:t<=99
 b0:1<=b
 b1:b<=99
theorem ok_law_gain(T:TX K mg a):FnB P w K mg base CX0 "_law_gain" 1 ["_law_cell"] (λvs H Q _=>∃c:Int,vs=[.int c]/\∀t b p,G5 t b->H p=none->Q (.ref p) (upd H p (.tup [.int t,.int b]))):=by
 refine T.d_law_gain.okA sc_law_gain (λf q A i s H vs Q E z h=>?_) (λvs H Q E h=>?_)
 rotate_left
 ·obtain⟨_,rfl,_⟩:=h;rfl
 ·obtain⟨c,rfl,k⟩:=h
  refine⟨_,(aD (bG (aP eJ (aK bC (pv 0) aC) aC) (aF (aO (cE (aA aC (aA aC aB))))) aV)
   (aD (bG (aP eJ (aK bC (pv 0) aC) aC) (aF (aO (cE (aA (aK bJ aC (aK bC (pv 0) aC)) (aA (aK bJ aC (aK bC (aK cA (pv 0) aC) aC)) aB))))) aV)
   (aF (aO (cE (aA (aK bJ aC (aK bC (aK cA (pv 0) aC) aC)) (aA (aK bJ aC (aK bC (aK cA (pv 0) aC) aC)) aB))))))),?_⟩
  walk_at"q"
  walk_at"rd"
  refine ifV (λy=>?_) (λy=>?_)
  ·exact⟨zL2,λp e=>k 1 1 p ⟨by decide,by decide,by decide,by decide⟩ e⟩
  ·walk_at"rd"
   refine ifV (λj=>?_) (λj=>?_)
   ·obtain⟨r,l⟩:=bL c (show(0:Int)<99 by decide);obtain⟨m,o⟩:=bL (c/7) (show(0:Int)<99 by decide);walk_at"rd"
    exact⟨zL2,λp e=>k _ _ p ⟨by lia,by lia,by lia,by lia⟩ e⟩
   ·obtain⟨r,l⟩:=bL (c/3) (show(0:Int)<9 by decide);obtain⟨m,o⟩:=bL (c/27) (show(0:Int)<9 by decide);walk_at"rd"
    exact⟨zL2,λp e=>k _ _ p ⟨by lia,by lia,by lia,by lia⟩ e⟩
structure FB(t b:Int):Prop where
 t0:1<=t
 t1:t<=2^20
 b0:1<=b
 b1:b<=2^20
inductive IspFac(vs:List V)(H:Hp)(Q:VK):Prop
 |mk(c:Int)(e:Bool)(h1:vs=[.int c,.bl e])(h2:∀t b p,FB t b->(e=true->t=b)->(e=false->b<t)->H p=none->Q (.ref p) (upd H p (.tup [.int t,.int b]))):IspFac vs H Q
noncomputable def spFac:Sp:=λvs H Q _=>IspFac vs H Q
theorem jN(T:TX K mg a):FnB P w K mg base CX0 "_law_factor" 1 ["_law_cell","_law_equal"] spFac:=by
 refine T.d_law_factor.okA sc_law_factor λf m A j s H t Q E r h=>?_;obtain⟨c,e,rfl,k⟩:=h
 refine⟨_,(aD (bG (eo (pv 1)) (aF (aO (cE (aA aC (aA aC aB))))) aV)
  (aD (bG (aP eJ (aK bC (pv 0) aC) aC) (aF (aO (cE (aA (aK bJ (aK op_pow aC aC) aC) (aA (aK op_pow aC aC) aB))))) aV)
  (aF (aO (cE (aA (aK bJ (aK bJ aC (aK bC (aK cA (pv 0) aC) aC)) (aK bC (aK cA (pv 0) aC) aC)) (aA (aK bJ aC (aK bC (aK cA (pv 0) aC) aC)) aB))))))),?_⟩
 walk_at"q"
 refine⟨_,rfl,_,rfl,?_⟩
 cases e with
 |true=>exact iteT ⟨zL2,λp i=>k 1 1 p ⟨by decide,by decide,by decide,by decide⟩ (λ_=>rfl) (λz=>by cases z) i⟩
 |false=>
  refine iteF ⟨_,rfl,_,_,rfl,rfl,zI5,rfl,_,rfl,ifV (λl=>?_) (λl=>?_)⟩
  ·refine⟨_,_,rfl,rfl,⟨by decide,by decide,by decide⟩,_,_,rfl,rfl,_,_,rfl,rfl,⟨by decide,by decide,by decide⟩,zL2,λp i=>k (10^(6:Int).toNat+1) (10^(6:Int).toNat) p ⟨by decide,by decide,by decide,by decide⟩ (λz=>by cases z) (λ_=>by decide) i⟩
  ·obtain⟨B,o⟩:=bL (c/5) (show(0:Int)<9 by decide);obtain⟨q,y⟩:=bL (c/45) (show(0:Int)<5 by decide);have b:(2:Int)^20=1048576:=by decide
   refine⟨_,rfl,_,_,rfl,rfl,⟨by decide,by decide⟩,_,_,rfl,rfl,zI9,_,_,rfl,rfl,_,rfl,_,_,rfl,rfl,⟨by decide,by decide⟩,_,_,rfl,rfl,zI5,_,_,rfl,rfl,_,rfl,_,_,rfl,rfl,⟨by decide,by decide⟩,_,_,rfl,rfl,zI9,_,_,rfl,rfl,zL2,λp i=>k (2+c/5%9+c/45%5) (1+c/5%9) p ⟨by lia,by rw[b];lia,by lia,by rw[b];lia⟩ (λz=>by cases z) (λ_=>by lia) i⟩
structure WR where
 nm:Str
 st:Str
 go:Str
 t:Int
 b:Int
 k:Int
noncomputable def WR.d(r:WR):WD:=if r.t=r.b/\r.k=0 then⟨r.nm,r.st,r.go,.way,0⟩else if r.t<=r.b/\r.k=1 then⟨r.nm,r.st,r.go,.lea,Rat.divInt (r.b-r.t) r.b⟩else⟨r.nm,r.st,r.go,.gro,Rat.divInt r.t r.b⟩
theorem WR.d_way{r:WR}(h:r.t=r.b/\r.k=0):r.d=⟨r.nm,r.st,r.go,.way,0⟩:=if_pos h
theorem WR.d_lea{r:WR}(h:¬(r.t=r.b/\r.k=0))(h2:r.t<=r.b/\r.k=1):r.d=⟨r.nm,r.st,r.go,.lea,Rat.divInt (r.b-r.t) r.b⟩:=(if_neg h).trans (if_pos h2)
theorem WR.d_gro{r:WR}(h:¬(r.t=r.b/\r.k=0))(h2:¬(r.t<=r.b/\r.k=1)):r.d=⟨r.nm,r.st,r.go,.gro,Rat.divInt r.t r.b⟩:=(if_neg h).trans (if_neg h2)
theorem WR.d_nm(r:WR):r.d.nm=r.nm:=by unfold WR.d;split<;>(try split)<;>rfl
theorem WR.d_st(r:WR):r.d.st=r.st:=by unfold WR.d;split<;>(try split)<;>rfl
theorem WR.d_go(r:WR):r.d.go=r.go:=by unfold WR.d;split<;>(try split)<;>rfl
theorem kI(h:b≠0):Rat.divInt b b=1:=by
 rw[show(1:Rat)=Rat.divInt 1 1 from rfl,Rat.divInt_eq_divInt_iff h (by decide)]
 lia
theorem WR.d_gain{r:WR}(h:GB r.t r.b):aW r.d.kd r.d.x=Rat.divInt r.t r.b:=by
 have a:r.b≠0:=by have:=h.b0;lia
 unfold WR.d
 split
 ·rename_i e;rw[e.1,kI a];rfl
 ·split
  ·show 1-Rat.divInt (r.b-r.t) r.b=_;rw[show(1:Rat)=Rat.divInt r.b r.b from(kI a).symm,Rat.divInt_sub_divInt _ _ a a,Rat.divInt_eq_divInt_iff (Int.mul_ne_zero a a) a];grind
  ·rfl
theorem lt_one(hd:0<d)(h:n<d):Rat.divInt n d<1:=by
 rw[show(1:Rat)=Rat.divInt 1 1 from rfl,lt_div hd (by decide)]
 lia
theorem nn_num(hd:0<d)(h:0<=n):0<=(Rat.divInt n d).num:=Rat.num_nonneg.mpr ((divInt_nn n hd).mpr h)
theorem pos_num(hd:0<d)(h:0<n):0<(Rat.divInt n d).num:=by
 have b:=nn_num hd (Int.le_of_lt h)
 have c:(Rat.divInt n d).num≠0:=λe=>by
  have a:=Rat.num_divInt_den (Rat.divInt n d);rw[e,Rat.zero_divInt]at a
  have:=(Rat.divInt_eq_divInt_iff (show(1:Int)≠0 by decide) (show d≠0 by lia)).mp (show Rat.divInt 0 1=Rat.divInt n d from by rw[<-a,Rat.zero_divInt])
  lia
 lia
theorem WR.d_sm{r:WR}(h:GB r.t r.b):SmR r.d.x/\Bd 40 (aW r.d.kd r.d.x)/\r.d.kd≠.sto:=by
 obtain⟨c,a,e,b⟩:=h;have i:((2:Int)^40)=((2^40:Nat):Int):=by decide
 refine⟨?_,?_,?_⟩
 ·unfold WR.d
  split
  ·exact⟨Nat.two_pow_pos _,sm1⟩
  ·split
   ·exact(Bd.divInt (n:=40) (by lia) (by lia)).smr (by decide)
   ·exact(Bd.divInt (n:=40) (by lia) (by lia)).smr (by decide)
 ·rw[WR.d_gain ⟨c,a,e,b⟩];exact Bd.divInt (by lia) (by lia)
 ·unfold WR.d
  split
  ·nofun
  ·split<;>nofun
noncomputable def RowIs(H:Hp)(v:V)(r:WR):Prop:=∃p g,v=.ref p/\H p=some (.tup [.str r.st,.str r.go,.ref g,.int r.k])/\H g=some (.tup [.int r.t,.int r.b])
theorem RowIs.mono(h:RowIs H v r)(s:Same H H'):RowIs H' v r:=by
 obtain⟨p,g,e,h1,h2⟩:=h;exact⟨p,g,e,s _ _ h1,s _ _ h2⟩
inductive IspLawWay(a:Ad)(vs:List V)(H:Hp)(Q:VK):Prop
 |mk(v:V)(r:WR)(h1:vs=[.str r.nm,v])(h2:RowIs H v r)(h3:GB r.t r.b)(h4:r.st≠r.go)(h5:∀p H',H p=none->Same H H'->WayIs a H' (.ref p) r.d->Q (.ref p) H'):IspLawWay a vs H Q
noncomputable def spLawWay(a:Ad):Sp:=λvs H Q _=>IspLawWay a vs H Q
theorem ok_law_way(T:TX K mg a):FnB P w K mg base CX0 "_law_way" 7 ["_law_name","_law_parts"] (spLawWay a):=by
 refine T.d_law_way.okA sc_law_way λf aa A N s H vs Q E B h=>?_;obtain⟨v,r,rfl,⟨p,g,rfl,hp,hg⟩,gb,ne,k⟩:=h
 refine⟨_,(aD (aI (i:=2) sc_law_way.nd (aL aT (pv 1) aC))
  (bB (bG (PW.pt (gJ (aP eJ (aL aT (pv 2) aC) (aL aT (pv 2) aC)) (fL (aP eJ (aL aT (pv 1) aC) aC)))) (aF (aO (pe_mk (mk_Way2 T) B T.mg_Way aJ (aA (pv 0) (aA (aL aT (pv 1) aC) (aA (aL aT (pv 1) aC) aB)))))) aV)
  (bB (bG (PW.pt (gJ (aP op_le (aL aT (pv 2) aC) (aL aT (pv 2) aC)) (fL (aP eJ (aL aT (pv 1) aC) aC)))) (aF (aO (pe_mk (mk_Leaking2 T) B T.mg_Leaking aJ (aA (pv 0) (aA (aL aT (pv 1) aC) (aA (aL aT (pv 1) aC) (aA (cL (mk2 T) B T.mg_Fraction aJ (aA (aK eZ (aL aT (pv 2) aC) (aL aT (pv 2) aC)) (aA (aL aT (pv 2) aC) aB))) aB))))))) aV)
  (aF (aO (pe_mk (mk_Growing2 T) B T.mg_Growing aJ (aA (pv 0) (aA (aL aT (pv 1) aC) (aA (aL aT (pv 1) aC) (aA (cL (mk2 T) B T.mg_Fraction aJ (aA (aL aT (pv 2) aC) (aA (aL aT (pv 2) aC) aB))) aB)))))))))),?_⟩
 walk_at"q"
 generalize G:jP _ _=Z
 revert Z
 refine iw λZ G=>?_;have SP:SqT K H p _:=SqT.of hp;have SG:SqT K H g _:=SqT.of hg;have L:atI [V.str r.st,.str r.go,.ref g,.int r.k] 0=some (.str r.st):=rfl;have U:atI [V.str r.st,.str r.go,.ref g,.int r.k] 1=some (.str r.go):=rfl;have a2:atI [V.str r.st,.str r.go,.ref g,.int r.k] 2=some (.ref g):=rfl;have a3:atI [V.str r.st,.str r.go,.ref g,.int r.k] 3=some (.int r.k):=rfl;have g0:atI [V.int r.t,.int r.b] 0=some (.int r.t):=rfl;have g1:atI [V.int r.t,.int r.b] 1=some (.int r.b):=rfl;obtain⟨t0,t1,b0,b1⟩:=id gb;have ed:∀q c,WayIs a c (.ref q) r.d->WayIs a c (.ref q) r.d:=λ_ _ h=>h;refine⟨_,rfl,p,_,_,_,rfl,rfl,SP,a2,?_⟩;subst G;refine dP (λo c=>o=[some (.str r.nm),some (.ref p),some (.ref g)]×' c=H×'¬(r.t=r.b/\r.k=0)) ?_ ?_
 ·walk_at"rd"
  refine ifV (λj=>?_) (λj=>?_)
  ·walk_at"rd"
   refine ifV (λe=>?_) (λe=>?_)
   ·refine⟨_,rfl,_,rfl,p,_,_,_,rfl,rfl,SP,L,_,rfl,p,_,_,_,rfl,rfl,SP,U,?_⟩;refine mkW (x:=0) T ne (.inl rfl) λq c I m S J W Y=>k q c S J (by rw[WR.d_way ⟨j,e⟩];exact⟨q,_,_,m,rfl,W,by nofun⟩)
   ·exact⟨rfl,rfl,λz=>e z.2⟩
  ·exact⟨rfl,rfl,λz=>j z.1⟩
 rintro zU R o c⟨rfl,rfl,X⟩;subst R;refine⟨λo y=>o=[some (.str r.nm),some (.ref p),some (.ref g)]×' y=c×'¬(r.t<=r.b/\r.k=1),?_,?_⟩
 ·walk_at"rd"
  refine ifB (λj=>?_) (λj=>?_)
  ·walk_at"rd"
   refine ifV (λe=>?_) (λe=>?_)
   ·refine⟨_,rfl,_,rfl,p,_,_,_,rfl,rfl,SP,L,_,rfl,p,_,_,_,rfl,rfl,SP,U,?_⟩;walk_at"rd"
    refine⟨by lia,(Sm.of_le (n:=40) (by lia) (by decide)),λq H1 S D M=>?_⟩;refine mkL T ne M ⟨nn_num (by lia) (by lia),lt_one (by lia) (by lia),(Bd.divInt (n:=40) (by lia) (by lia)).smr (by decide)⟩ (.inl rfl) λF O I m l J W Y=>k F O (D.free l) (D.trans J) (by rw[WR.d_lea X ⟨j,e⟩];exact⟨F,_,_,m,rfl,W,by nofun⟩)
   ·exact⟨rfl,rfl,λz=>e z.2⟩
  ·exact⟨rfl,rfl,λz=>j z.1⟩
 rintro o y⟨rfl,rfl,n2⟩;refine⟨_,rfl,_,rfl,p,_,_,_,rfl,rfl,SP,L,_,rfl,p,_,_,_,rfl,rfl,SP,U,?_⟩;walk_at"rd"
 refine⟨by lia,(Sm.of_le (n:=40) (by lia) (by decide)),λq H1 S D M=>?_⟩;refine mkG T ne M (pos_num (by lia) (by lia)) (.inl rfl) λF O I m l J W Y=>k F O (D.free l) (D.trans J) (by rw[WR.d_gro X n2];exact⟨F,_,_,m,rfl,W,by nofun⟩)
theorem val_at[DecidableEq κ]:∀{kvs:List (κ×V)}{i:Nat}{kv:κ×V},(kvs.map (·.1)).Nodup->kvs[i]?=some kv->dF kvs kv.1=some kv.2
 |[],_,_,_,e=>by simp at e
 |p::r,0,kv,_,e=>by
  simp at e;subst e;exact dI rfl
 |p::r,i+1,kv,nd,e=>by
  have e:r[i]?=some kv:=by simpa using e
  obtain⟨a,b⟩:=me.mp (show(p.1::r.map (·.1)).Nodup from nd);rw[dJ λz=>a (by rw[z];exact kQ.mpr ⟨kv,kN e,rfl⟩)];exact val_at b e
theorem keys_nd{kvs:List (Key×V)}{rs:List WR}(hk:kvs.map (·.1)=rs.map (λr=>Sum.inr r.nm))(nd:(rs.map (·.nm)).Nodup):(kvs.map (·.1)).Nodup:=by
 rw[hk,show(λr:WR=>(Sum.inr r.nm:Key))=(λn=>(Sum.inr n:Key))∘(λr:WR=>r.nm)from rfl,<-lY];exact nd.map _ (λu v h e=>h (nO e))
noncomputable def RowsAt(H:Hp)(d:Addr)(rs:List WR):Prop:=∃kvs,H d=some (.dK kvs)/\kvs.map (·.1)=rs.map (λr=>Sum.inr r.nm)/\RowAt RowIs H (kvs.map (·.2)) rs
theorem RowsAt.mono(h:RowsAt H d rs)(s:Same H H'):RowsAt H' d rs:=by
 obtain⟨kvs,h1,h2,h3⟩:=h;exact⟨kvs,s _ _ h1,h2,h3.mono λv x z=>z.mono s⟩
structure RGood(sp:List Str)(r:WR):Prop where
 gb:GB r.t r.b
 ne:r.st≠r.go
 i1:r.st∈sp
 i2:r.go∈sp
structure RsOk(sp:List Str)(rs:List WR):Prop where
 nd:(rs.map (·.nm)).Nodup
 len:rs.length<=24
 all:∀r∈rs,RGood sp r
theorem RowIs.put(h:RowIs H v r)(hd:H d=some o)(ho:∀xs,o≠.tup xs):RowIs (upd H d o') v r:=by
 obtain⟨p,g,e,b,a⟩:=h;refine⟨p,g,e,?_,?_⟩
 ·rw[aG (bD b hd (ho _).symm)];exact b
 ·rw[aG (bD a hd (ho _).symm)];exact a
noncomputable def fS(sp:List Str):List (Str×Rat):=sp.map λx=>(x,(0:Rat))
theorem hI(sp:List Str):(fS sp).map (·.1)=sp:=by unfold fS;rw[lY];exact List.map_id' sp
inductive IspLawNet(K:W.Frag)(a:Ad)(vs:List V)(H:Hp)(Q:VK):Prop
 |mk(ls d:Addr)(sp:List Str)(rs:List WR)(h1:vs=[.ref ls,.ref d])(h2:SqL K H ls (sp.map V.str))(h3:sp.Nodup)(h4:sp.length<=12)(h5:RowsAt H d rs)(h6:RsOk sp rs)(h7:∀p H',H p=none->Same H H'->NetAt a H' p (fS sp) (rs.map WR.d)->(∀e kvs,H e=some (.dK kvs)->NetOff a H' p e (fS sp) (rs.map WR.d))->Q (.ref p) H'):IspLawNet K a vs H Q
noncomputable def spLawNet(K:W.Frag)(a:Ad):Sp:=λvs H Q _=>IspLawNet K a vs H Q
theorem RsOk.net(h:RsOk sp rs)(nd:sp.Nodup)(hl:sp.length<=12):NetOk (fS sp) (rs.map WR.d):=by
 refine⟨by rw[hI];exact nd,by unfold fS;rw[kK];exact hl,?_,by rw[kK];exact h.len,λd b=>?_⟩
 ·rw[lY,show((λx:WD=>x.nm)∘WR.d)=(λr:WR=>r.nm)from funext λr=>WR.d_nm r];exact h.nd
 ·obtain⟨r,a,rfl⟩:=kQ.mp b;rw[hI,WR.d_st,WR.d_go];exact⟨(h.all r a).i1,(h.all r a).i2⟩
theorem net_off(e:H p=some (.ins a.Net dx (fsN dw dy)))(hw:WantsAt a H dw ps)(hy:WaysAt a H dy ds)(hd:H d=some (.dK kvs))(nw:dw≠d)(ny:dy≠d):NetOff a H p d ps ds:=by
 have c:∀b o,b≠d->H b=some o->(if b=d then none else H b)=some o:=λb o ne q=>by rw[if_neg ne];exact q
 have j:∀{b C dx:Addr}{fs:List (Str×V)},H b=some (.ins C dx fs)->b≠d:=λq=>bD q hd (by intro z;cases z);refine⟨λb=>if b=d then none else H b,⟨dx,dw,dy,c _ _ (j e) e,?_,?_⟩,λb o q=>?_,if_pos rfl⟩
 ·obtain⟨l,i,m,h⟩:=hw;exact⟨l,c _ _ nw i,m,h.mono (by rintro v x⟨q,e,r,f⟩;exact⟨q,e,r,c _ _ (j f) f⟩)⟩
 ·obtain⟨l,i,m,h⟩:=hy;exact⟨l,c _ _ ny i,m,h.mono λv x z=>z.keep λb C dx fs _ q=>c _ _ (j q) q⟩
 ·dsimp only at q
  split at q
  ·cases q
  ·exact q
inductive IspNetF(K:W.Frag)(a:Ad)(vs:List V)(H:Hp)(Q:VK):Prop
 |mk(p dx lp lw:Addr)(tp tw:List V)(ps:List (Str×Rat))(ds:List WD)(h1:vs=[.ref p,.ref lp,.ref lw])(h2:H p=some (.ins a.Net dx []))(h3:SqL K H lp tp)(h4:RowAt (PlIs a) H tp ps)(h5:SqL K H lw tw)(h6:RowAt (WayIs a) H tw ds)(h7:NetOk ps ds)(h8:∀H',(∀b o,H b=some o->b≠p->H' b=some o)->NetAt a H' p ps ds->(∀d kvs,H d=some (.dK kvs)->NetOff a H' p d ps ds)->Q .non H'):IspNetF K a vs H Q
noncomputable def spNetF(K:W.Frag)(a:Ad):Sp:=λvs H Q _=>IspNetF K a vs H Q
theorem mk_NetF(T:TX K mg a):MkB P w K mg base CX0 a.Net 4 ["self","places","ways"] [] (spNetF K a):=by
 refine T.i_Net.okA sc_Net_init (λf ac A O s H vs Q E hr h=>?_) (λvs H Q E h=>?_) _ (by simp)
 rotate_left
 ·obtain⟨_,_,_,_,_,_,_,_,rfl,_⟩:=h;rfl
 ·obtain⟨p,m,Z,S,N,L,ps,ds,rfl,r,hS,hP,hL,hW,ok,k⟩:=h
  refine⟨_,(aD (bG (PW.pt (pw_or (aP op_gt (bH bX (by rfl) T.z_len lZ (aA (pv 1) aB)) (pe_gi T.gi_MOST_PLACES)) (jR (aP op_gt (bH bX (by rfl) T.z_len lZ (aA (pv 2) aB)) (pe_gi T.gi_MOST_WAYS))))) (aF cT) aV)
   (aD (cP (pv 0) (aR (ok_wants_by_name T) hr aJ (aA (pv 1) aB)) rfl)
   (aF (cP (pv 0) (aR (ok_ways_by_name T) hr aJ (aA (pv 2) (aA (aY (pv 0) rfl) aB))) rfl)))),?_⟩
  walk_at"q"
  have e1:(N.length:Int)<=12:=by have:=ok.lp;rw[<-hP.1]at this;lia
  have e2:(L.length:Int)<=24:=by have:=ok.ld;rw[<-hW.1]at this;lia
  refine⟨_,rfl,Z,N,rfl,.inl hS,_,_,rfl,rfl,_,rfl,gV (lz (by lia)) ?_⟩;refine⟨_,rfl,S,L,rfl,.inl hL,_,_,rfl,rfl,_,rfl,gV (lz (by lia)) ?_⟩;refine⟨_,rfl,Z,N,ps,rfl,hS,hP,ok.np,kW ok.lp (by decide),λt H1 Y s1 R=>?_⟩;have B:=s1 _ _ r;refine⟨_,rfl,p,a.Net,m,[],rfl,B,T.cl_Net,T.na_Net_wants,by decide,?_⟩;have i:=netC T;generalize j:upd H1 p (.ins a.Net m (cD "wants" (.ref t) []))=D;have J:D p=some (.ins a.Net m (cD "wants" (.ref t) [])):=by rw[<-j];exact aE
  have l:WantsAt a D t ps:=by rw[<-j];exact R.ins B i.1
  have I:∀b o,H b=some o->b≠p->D b=some o:=λb o e ne=>by rw[<-j,aG ne];exact s1 _ _ e
  have U:SqL K D S L:=by
   rcases hL with(h|⟨o,h⟩)|h
   ·exact .inl (.inl (I _ _ h (bD h r (by intro z;cases z))))
   ·exact .inl (.inr ⟨o,I _ _ h (bD h r (by intro z;cases z))⟩)
   ·exact .inr h
  have X:RowAt (WayIs a) D L ds:=hW.mono λv x z=>z.keep λb C' aa ad h e=>I _ _ e (bD e r λy=>by
   have ec:=(HO.ins.inj y).1;rcases h with rfl|⟨kd,rfl⟩
   ·exact i.1 ec.symm
   ·exact i.2 kd ec.symm)
  refine⟨_,rfl,_,rfl,p,_,m,_,_,rfl,J,T.cl_Net,T.na_Net_wants,rfl,S,t,L,ds,ps,rfl,U,X,l,ok.nd,kW ok.ld (by decide),ok.io,λdy H3 n3 G q=>?_⟩;have c:=G _ _ J;refine⟨_,rfl,p,a.Net,m,_,rfl,c,T.cl_Net,T.na_Net_ways,lQ (cH (kM 0)) (by decide),?_⟩;rw[fsN_new];refine k _ (λb o e ne=>?_) ⟨m,t,dy,aE,(l.mono G).ins c i.1,q.ins c i⟩ λd ab M=>?_
  ·rw[aG ne];exact G _ _ (I _ _ e ne)
  ·have dp:d≠p:=bD M r (by intro z;cases z);have F:=I _ _ M dp;exact net_off aE ((l.mono G).ins c i.1) (q.ins c i) (by rw[aG dp];exact G _ _ F) (λz=>by rw[z,M]at Y;cases Y) λz=>by rw[z,F]at n3;cases n3
theorem mkNF{Q:VK}(hS:SqL K H lp tp)(hP:RowAt (PlIs a) H tp ps)(hL:SqL K H lw tw)(hW:RowAt (WayIs a) H tw ds)(ok:NetOk ps ds)
  (k:∀p H',H p=none->Same H H'->NetAt a H' p ps ds->(∀d kvs,H d=some (.dK kvs)->NetOff a H' p d ps ds)->Q (.ref p) H')(p dx:Addr)(h1:H p=none)(h2:H dx=none)(_:dx≠p):
  spNetF K a [.ref p,.ref lp,.ref lw] (upd (upd H dx (.own p)) p (.ins a.Net dx [])) (λv H2=>v=.non/\Q (.ref p) H2) E0:=by
 have b:=kg (C:=a.Net) h1 h2;exact⟨p,dx,lp,lw,tp,tw,ps,ds,rfl,aE,b.seq hS,hP.mono λv x z=>z.mono b,b.seq hL,hW.mono λv x z=>z.mono b,ok,λH' hs h c=>⟨rfl,k p H' h1 (ia h1 h2 hs) h λd kvs e=>c d kvs (b _ _ e)⟩⟩
theorem ok_law_net(T:TX K mg a):FnB P w K mg base CX0 "_law_net" 8 ["_law_spots","_law_ways_here"] (spLawNet K a):=by
 refine T.d_law_net.okA sc_law_net λf ag A ad s H vs Q E hr h=>?_;obtain⟨ls,d,sp,Y,rfl,hS,nd,hl,hR,ok,k⟩:=h
 refine⟨_,(aF (aO (pe_mk (mk_NetF T) hr T.mg_Net aJ (aA (fR (xs:=["_law_spot"]) (rest:=[]) rfl (bW (pv 0))
  (λc fp C' s' H'=>(aQ (i:=0) (show(["_law_spot"]:List Str).Nodup by decide+kernel))) (λc fp C' s' H'=>dQ)
  (λc fp C' s' H'=>(cE (aA (pv 0) (aA (cL (mk1 T) hr T.mg_Fraction aJ (aA aC aB)) aB))))
  (Clos.none (by decide+kernel) (by decide+kernel)) (Reads.many (ys:=[]) (js:=[]) True.intro)) (aA (pe_thaw (fR (xs:=["_law_name"]) (rest:=["_law_ways_here"]) rfl (jr (pv 1))
  (λc fp C' s' H'=>(aQ (i:=0) (show(["_law_name","_law_ways_here"]:List Str).Nodup by decide+kernel))) (λc fp C' s' H'=>dQ)
  (λc fp C' s' H'=>(aR (ok_law_way T) hr aJ (aA (pv 0) (aA (cQ (bS hr) (pv 1) (pv 0) (λ_ _=>rfl)) aB))))
  (Clos.many (ys:=["_law_ways_here"]) rfl ⟨rfl,True.intro⟩ rfl (by decide+kernel)) (Reads.many (ys:=["_law_ways_here"]) (js:=[1]) ⟨⟨rfl,rfl,rfl⟩,True.intro⟩))) aB))))),?_⟩
 walk_at"q"
 refine⟨_,rfl,ls,rfl,⟨_,hS⟩,λl1 n1=>?_⟩;refine e7 (K:=K) (a:=ls) (xs:=sp.map V.str) (λi G=>i<=sp.length×' Same H G×'∃X,G l1=some (.lst X)/\RowAt (PlIs a) G X (fS (sp.take i))) ⟨kY _,aS n1,[],aE,RowAt.nil⟩ ((by rintro i G⟨_,M,_⟩;exact M.seq hS)) ?_ ?_
 ·rintro i x G hx⟨_,M,X,h2,hv⟩;rw[kP]at hx
  cases ex:sp[i]? with
  |none=>rw[ex]at hx;cases hx
  |some y=>
   rw[ex]at hx
   cases hx;have U:=(kL.mp ex).1;refine g1 ⟨⟨[_],rfl,rfl⟩,yes ?_⟩;refine⟨_,rfl,0,1,rfl,by decide,sm1,λq j nq s3 f3=>?_⟩;refine⟨zL2,λt nt=>?_⟩;obtain⟨H4,zq,m,ht⟩:=uG (o:=.tup [.str y,.ref q]) nt;rw[zq];have N:=m _ _ (s3 _ _ h2);have ai:X.length=i:=by rw[hv.1];unfold fS;rw[kK,k8];lia
   have keep:∀v x,PlIs a H4 v x->PlIs a (upd H4 l1 (.lst (X++[.ref t]))) v x:=(by rintro v x⟨t',q',e,h1,dq,f⟩;exact⟨t',q',e,by rw[aG (bD h1 N (by intro z;cases z))];exact h1,dq,by rw[aG (bD f N (by intro z;cases z))];exact f⟩);refine⟨_,N,aU (by lia),eU (by rw[kK];exact U) ⟨U,aZ n1 ((M.trans s3).trans m),_,aE,?_⟩⟩;rw[kX,ex,lB];unfold fS;rw[kO];refine RowAt.snoc (hv.mono λv x z=>keep v x (z.mono (s3.trans m))) (keep _ _ ⟨t,q,rfl,ht,?_⟩);rw[Rat.zero_divInt]at f3;exact f3.mono m
 ·rintro G⟨_,M,X,h2,hv⟩;rw[kK,kZ]at hv;obtain⟨kvs,hd,hk,hw⟩:=hR.mono M;refine⟨d,.dK kvs,hd,(by intro o z e;cases e),?_⟩;refine⟨_,rfl,d,kvs,rfl,hd,λo l2 n2=>?_⟩;have S:kvs.length=Y.length:=by have:=lW List.length hk;rwa [kK,kK]at this
  have J:d≠l2:=λz=>by rw[z,aE]at n2;cases n2
  have Z:G l2=none:=by rw[aG J.symm]at n2;exact n2
  refine j3 (a:=d) (o:=o) (kvs:=kvs) (λi j=>i<=Y.length×' j d=some (.frz o (.dK kvs))×'(∀b ob,G b=some ob->b≠d->j b=some ob)×'∃R,j l2=some (.lst R)/\RowAt (WayIs a) j R ((Y.take i).map WR.d))
   ⟨kY _,by rw[aG J,aE],λb ob e ne=>by rw[aG (aN e Z),aG ne];exact e,[],aE,RowAt.nil⟩ ((by rintro i j⟨_,h,_⟩;exact h)) ?_ ?_
  ·rintro i L j I⟨_,F,k3,R,h3,B⟩;have U:i<Y.length:=by rw[<-S];exact(kL.mp I).1
   obtain⟨r,er⟩:∃r,Y[i]?=some r:=⟨_,kR U⟩
   have e1:L.1=Sum.inr r.nm:=by
    have g:=lW (λl=>l[i]?) hk;simp only[kP,I,er,ml]at g;exact lJ g
   have aa:RowIs G L.2 r:=hw.2 i L.2 r (by rw[kP,I];rfl) er
   have O:RowIs j L.2 r:=by
    obtain⟨p,g,e,x1,x2⟩:=aa;exact⟨p,g,e,k3 _ _ x1 (bD x1 hd (by intro z;cases z)),k3 _ _ x2 (bD x2 hd (by intro z;cases z))⟩
   refine g1 ⟨⟨[_],rfl,rfl⟩,yes ?_⟩;have ae:kV L.1=.str r.nm:=by rw[e1];rfl
   rw[ae];have rg:=ok.all r (kN er)
   have ab:dF kvs (Sum.inr r.nm)=some L.2:=by
    rw[<-e1];exact val_at (keys_nd hk ok.nd) I
   refine⟨_,rfl,_,rfl,_,rfl,d,L.2,rfl,.inl ⟨kvs,Sum.inr r.nm,.inr ⟨o,F⟩,rfl,ab.symm⟩,L.2,r,rfl,O,rg.gb,rg.ne,λp H4 np m W=>?_⟩;have N:=m _ _ h3;have ah:R.length=i:=by rw[B.1,kK,k8];lia
   refine⟨_,N,aU (by have:=ok.len;lia),eU (by rw[S];exact U) ⟨U,?_,λb ob e ne=>?_,_,aE,?_⟩⟩
   ·rw[aG J];exact m _ _ F
   ·rw[aG (aN e Z)];exact m _ _ (k3 _ _ e ne)
   ·rw[kX,er,lB,kO];exact RowAt.snoc (B.mono λv x z=>(z.mono m).lst N) (W.lst N)
  ·rintro j⟨_,F,k3,R,h3,B⟩;rw[S,kZ]at B;refine⟨o,F,?_⟩
   have D:Same G (upd j d (.dK kvs)):=λb ob e=>by
    by_cases hb:b=d
    ·subst hb;rw[aE,<-hd,e]
    ·rw[aG hb];exact k3 _ _ e hb
   have af:upd j d (.dK kvs) l2=some (.lst R):=by rw[aG J.symm];exact h3
   have hW:RowAt (WayIs a) (upd j d (.dK kvs)) R (Y.map WR.d):=B.mono λv x z=>z.keep (.put F (by intro _ _ _ z;cases z));exact mkNF (SqL.of (D _ _ h2)) (hv.mono λv x z=>z.mono D) (SqL.of af) hW (ok.net nd hl) λp H4 np m hn ho=>k p H4 (M.free (D.free np)) (M.trans (D.trans m)) hn λe ac he=>ho e ac (D _ _ (M _ _ he))
theorem iJ(h:i.natAbs<=2^x)(g:j.natAbs<=2^y)(s:x+y<=1000000):IntMulOk i j:=mulOk_bits (by
 have a:=bits_le (k:=i) (n:=x+1) (lQ h (Nat.pow_lt_pow_right (by decide) (by lia)));have b:=bits_le (k:=j) (n:=y+1) (lQ g (Nat.pow_lt_pow_right (by decide) (by lia)))
 have:(1000002:Nat)<=2^27:=by decide
 lia)
structure Nx(x:Nat)(c:Int×Int):Prop where
 t:c.1.natAbs<=2^x
 b:c.2.natAbs<=2^x
theorem Nx.mono(h:Nx x c)(l:x<=y):Nx y c:=⟨kW h.t (lF (by decide) l),kW h.b (lF (by decide) l)⟩
noncomputable def plP(c e:Int×Int):Int×Int:=(c.1*e.2+e.1*c.2,c.2*e.2)
noncomputable def tmP(c e:Int×Int):Int×Int:=(c.1*e.1,c.2*e.2)
theorem dX{u v:Int}(h:u.natAbs<=2^x)(k:v.natAbs<=2^y):(u*v).natAbs<=2^(x+y):=by rw[lT,l0];exact lU h k
theorem Nx.times(h:Nx x c)(k:Nx y e):Nx (x+y) (tmP c e):=⟨dX h.t k.t,dX h.b k.b⟩
noncomputable def DueIs(H:Hp)(v:V)(c:Int×Int):Prop:=∃t,v=.ref t/\H t=some (.tup [.int c.1,.int c.2])
theorem DueIs.mono(h:DueIs H v c)(s:Same H H'):DueIs H' v c:=by
 obtain⟨t,e,f⟩:=h;exact⟨t,e,s _ _ f⟩
theorem DueIs.keep(h:DueIs H v c)(s:KeepD H H'):DueIs H' v c:=let⟨t,e,f⟩:=h;⟨t,e,s _ _ f (by intro _ z;cases z) (by intro _ _ z;cases z)⟩
inductive IspPlus(vs:List V)(H:Hp)(Q:VK):Prop
 |mk(p q:Addr)(c e:Int×Int)(x y:Nat)(h1:vs=[.ref p,.ref q])(h2:H p=some (.tup [.int c.1,.int c.2]))(h3:H q=some (.tup [.int e.1,.int e.2]))(h4:Nx x c)(h5:Nx y e)(h6:x+y<=1000000)(h7:∀r,H r=none->Q (.ref r) (upd H r (.tup [.int (plP c e).1,.int (plP c e).2]))):IspPlus vs H Q
noncomputable def spPlus(K:W.Frag):Sp:=λvs H Q _=>IspPlus vs H Q
theorem ok_law_plus(T:TX K mg a):FnB P w K mg base CX0 "_law_plus" 1 ["_law_one","_law_other"] (spPlus K):=by
 refine T.d_law_plus.okA sc_law_plus λf z A m s H F Q E D h=>?_;obtain⟨p,q,c,e,x,y,rfl,j,o,l,i,hs,k⟩:=h;refine⟨_,(aF (aO (cE (aA (aK bJ (aK gj (aL aT (pv 0) aC) (aL aT (pv 1) aC)) (aK gj (aL aT (pv 1) aC) (aL aT (pv 0) aC))) (aA (aK gj (aL aT (pv 0) aC) (aL aT (pv 1) aC)) aB))))),?_⟩;walk_at"q"
 refine⟨_,rfl,p,_,_,_,rfl,rfl,SqT.of j,rfl,_,rfl,q,_,_,_,rfl,rfl,SqT.of o,rfl,_,_,rfl,rfl,iJ l.t i.b hs,?_⟩;refine⟨_,rfl,q,_,_,_,rfl,rfl,SqT.of o,rfl,_,rfl,p,_,_,_,rfl,rfl,SqT.of j,rfl,_,_,rfl,rfl,iJ i.t l.b (by lia),_,_,rfl,rfl,?_⟩;refine⟨_,rfl,p,_,_,_,rfl,rfl,SqT.of j,rfl,_,rfl,q,_,_,_,rfl,rfl,SqT.of o,rfl,_,_,rfl,rfl,iJ l.b i.b hs,zL2,λr B=>k r B⟩
inductive IspTimes(vs:List V)(H:Hp)(Q:VK):Prop
 |mk(p q:Addr)(c e:Int×Int)(x y:Nat)(h1:vs=[.ref p,.ref q])(h2:H p=some (.tup [.int c.1,.int c.2]))(h3:H q=some (.tup [.int e.1,.int e.2]))(h4:Nx x c)(h5:Nx y e)(h6:x+y<=1000000)(h7:∀r,H r=none->Q (.ref r) (upd H r (.tup [.int (tmP c e).1,.int (tmP c e).2]))):IspTimes vs H Q
noncomputable def spTimes(K:W.Frag):Sp:=λvs H Q _=>IspTimes vs H Q
theorem iI(T:TX K mg a):FnB P w K mg base CX0 "_law_times" 1 ["_law_one","_law_other"] (spTimes K):=by
 refine T.d_law_times.okA sc_law_times λf z A i s H F Q E D h=>?_;obtain⟨p,q,c,e,x,y,rfl,l,o,m,j,hs,k⟩:=h;refine⟨_,(aF (aO (cE (aA (aK gj (aL aT (pv 0) aC) (aL aT (pv 1) aC)) (aA (aK gj (aL aT (pv 0) aC) (aL aT (pv 1) aC)) aB))))),?_⟩;walk_at"q"
 refine⟨_,rfl,p,_,_,_,rfl,rfl,SqT.of l,rfl,_,rfl,q,_,_,_,rfl,rfl,SqT.of o,rfl,_,_,rfl,rfl,iJ m.t j.t hs,?_⟩;refine⟨_,rfl,p,_,_,_,rfl,rfl,SqT.of l,rfl,_,rfl,q,_,_,_,rfl,rfl,SqT.of o,rfl,_,_,rfl,rfl,iJ m.b j.b hs,zL2,λr B=>k r B⟩
noncomputable def goI(n k:Nat):Nat:=(if k<n then k+1 else k-1)%n
structure BaseR(sp lb:List Str)(n:Nat)(k:Nat)(r:WR):Prop where
 nm:r.nm=lb.getD k ""
 st:r.st=sp.getD (k%n) ""
 go:r.go=sp.getD (goI n k) ""
 gs:G5 r.t r.b
inductive IspWays36(K:W.Frag)(vs:List V)(H:Hp)(Q:VK):Prop
 |mk(l ls ll:Addr)(ns:List Int)(sp lb:List Str)(n:Nat)(h1:vs=[.ref l,.ref ls,.ref ll])(h2:SqL K H l (ns.map V.int))(h3:SqL K H ls (sp.map V.str))(h4:SqL K H ll (lb.map V.str))(h5:Names sp n)(h6:2<=n)(h7:n<=4)(h8:Names lb (2*n+4))(h9:∀d H' rs,H d=none->Same H H'->RowsAt H' d rs->rs.length=2*n->(∀k r,rs[k]?=some r->BaseR sp lb n k r)->Q (.ref d) H'):IspWays36 K vs H Q
noncomputable def spWays36(K:W.Frag):Sp:=λvs H Q _=>IspWays36 K vs H Q
theorem eM{xs:List Str}(h:i<xs.length):xs[i]?=some (xs.getD i ""):=by rw[List.getD_eq_getElem?_getD,kR h];rfl
theorem ok_law_ways(T:TX K mg a):FnB P w K mg base CX0 "_law_ways" 2 ["_law_script","_law_spots","_law_labels"] (spWays36 K):=by
 refine T.d_law_ways.okA sc_law_ways λf al A ag s H vs Q E U h=>?_;obtain⟨l,X,ll,ns,m,q,n,rfl,hS,hL,hB,hN,n2,n5,hM,k⟩:=h
 refine⟨_,(aD (aI (i:=3) sc_law_ways.nd (bH bX (by rfl) T.z_len lZ (aA (pv 1) aB)))
  (aD (aI (i:=4) sc_law_ways.nd cU)
  (aD (bR lj rfl (dM rfl T.z_range (aA (aK cI aC (pv 3)) aB)) (aQ (i:=5) sc_law_ways.nd) (aD (aI (i:=6) sc_law_ways.nd (aK bC (aK bJ (pv 5) aC) (pv 3)))
  (bB (bG (aP op_ge (pv 5) (pv 3)) (aF (aI (i:=6) sc_law_ways.nd (aK bC (aK eZ (pv 5) aC) (pv 3)))) aV)
  (aD (aI (i:=7) sc_law_ways.nd (aR (cO T) U aJ (aA (pv 0) (aA (aK bJ aC (pv 5)) aB))))
  (aF (cW (bS U) (pv 4) (aL aX (pv 2) (pv 5)) (cE (aA (aL aX (pv 1) (aK bC (pv 5) (pv 3))) (aA (aL aX (pv 1) (pv 6)) (aA (aR (ok_law_gain T) U aJ (aA (pv 7) aB)) (aA (aK bC (aK cA (pv 7) aC) aC) aB))))) rfl))))))
  (aF (aO (pv 4)))))),?_⟩
 walk_at"q"
 refine⟨_,rfl,X,_,rfl,.inl hL,?_⟩;rw[kK,hN.len];intro d nd;obtain⟨H1,zq,s1,h1⟩:=uG (o:=.dK []) nd;rw[zq];have np:(0:Int)<n:=by lia
 refine⟨_,rfl,_,_,rfl,rfl,⟨Sm.of_le (n:=10) (by decide) (by decide),Sm.of_le (n:=10) (by lia) (by decide)⟩,_,rfl,by lia,by lia,?_⟩;refine jw (λi σ B=>i<=2*n/\yE4 λz5 z6 z7 y=>σ=[some (.ref l),some (.ref X),some (.ref ll),some (.int n),some (.ref d),z5,z6,z7]×' Same H B×' RowsAt B d y×' y.length=i×'∀k r,y[k]?=some r->BaseR m q n k r) ⟨kY _,none,none,none,[],rfl,s1,⟨[],h1,rfl,RowAt.nil⟩,rfl,λk r e=>by cases e⟩ ?_ ?_
 ·rintro i σ B hi⟨_,z5,z6,z7,y,rfl,M,G,S,good⟩;have ai:i<2*n:=by lia
  rw[Int.zero_add];refine⟨_,rfl,_,_,rfl,rfl,_,rfl,_,_,rfl,rfl,np,?_⟩;refine dP (λσ' H'=>σ'=[some (.ref l),some (.ref X),some (.ref ll),some (.int n),some (.ref d),some (.int (i:Int)),some (.int (goI n i)),z7]/\H'=B) ?_ ?_
  ·refine⟨_,rfl,_,rfl,_,_,rfl,rfl,_,rfl,ifB (λaa=>?_) (λZ=>?_)⟩
   ·have aa:(i:Int)≥n:=aa;refine⟨_,rfl,_,_,rfl,rfl,_,rfl,_,_,rfl,rfl,np,?_,rfl⟩
    have e:((i:Int)-1)%n=(goI n i:Nat):=by
     unfold goI;rw[if_neg (by lia),show(i:Int)-1=((i-1:Nat):Int) by lia];rfl
    rw[<-e];rfl
   ·have Z:¬(i:Int)≥n:=Z;refine⟨?_,rfl⟩
    have e:((i:Int)+1)%n=(goI n i:Nat):=by
     unfold goI;rw[if_pos (by lia)];rfl
    rw[<-e];rfl
  rintro zU ad σ' H'⟨rfl,e⟩;subst ad;rw[e];clear e H';refine⟨_,rfl,_,rfl,_,_,rfl,rfl,l,ns,_,rfl,M.seq hS,by lia,by lia,λc=>?_⟩;have gl:goI n i<n:=ma _ (by lia);obtain⟨p,I⟩:∃j:Nat,i%n=j:=⟨_,rfl⟩;have e1:(i:Int)%n=(p:Int):=by rw[<-I];rfl
  have ab:p<n:=by rw[<-I];exact ma _ (by lia)
  have ae:=eM (xs:=m) (i:=p) (by rw[hN.len];exact ab);have af:=eM (xs:=m) (i:=goI n i) (by rw[hN.len];exact gl);have O:=eM (xs:=q) (i:=i) (by rw[hM.len];lia);refine⟨_,rfl,_,rfl,_,rfl,_,_,rfl,rfl,np,X,_,_,.str (m.getD p ""),rfl,rfl,M.seq hL,?_,_,rfl,_,rfl,X,_,_,_,rfl,rfl,M.seq hL,gR af,_,rfl,c,rfl,λt b g gb ng=>?_⟩
  ·show atI (m.map V.str) ((i:Int)%n)=some (.str (m.getD p ""));rw[e1];exact gR ae
  obtain⟨H4,zq,s4,N⟩:=uG (o:=.tup [.int t,.int b]) ng;rw[zq];have R:=M.trans s4;refine⟨_,rfl,_,_,rfl,rfl,⟨by decide,by decide⟩,_,_,rfl,rfl,zI3,zL4,λL ac=>?_⟩;obtain⟨H5,zq,Y,D⟩:=uG (o:=.tup [.str (m.getD p ""),.str (m.getD (goI n i) ""),.ref g,.int (c/243%3)]) ac;rw[zq];obtain⟨F,J,hk,hv⟩:=G.mono (s4.trans Y);have ah:RowIs H5 (.ref L) ⟨q.getD i "",m.getD p "",m.getD (goI n i) "",t,b,c/243%3⟩:=⟨L,g,rfl,D,Y _ _ N⟩
  have aj:F.length=i:=by
   have:=lW List.length hk
   rw[kK,kK]at this
   lia
  have nk:¬(Sum.inr (q.getD i ""):Key)∈F.map (·.1):=by
   rw[hk];intro z;obtain⟨r,U,e⟩:=kQ.mp z;obtain⟨j,hj⟩:=lL.mp U;have ak:=(kL.mp hj).1;have e2:q.getD j ""=q.getD i "":=by rw[<-(good j r hj).nm];exact nO e
   have e3:=eM (xs:=q) (i:=j) (by rw[hM.len];lia)
   have:j=i:=(mo (kL.mp e3).1 hM.nd).mp (by rw[e3,e2];exact O.symm)
   lia
  refine⟨_,rfl,_,rfl,_,rfl,ll,_,_,_,rfl,rfl,(R.trans Y).seq hB,gR O,d,_,rfl,DPut.k (k:=Sum.inr (q.getD i "")) J (aU (by lia)),?_⟩;rw[im _ (gA nk)];refine⟨ai,_,_,_,y++[⟨q.getD i "",m.getD p "",m.getD (goI n i) "",t,b,c/243%3⟩],rfl,aZ nd (R.trans Y),⟨F++[(Sum.inr (q.getD i ""),.ref L)],aE,?_,?_⟩,by simp[S],λk r e=>?_⟩
  ·rw[kO,hk,kO];rfl
  ·rw[kO];exact RowAt.snoc (hv.mono λv x z=>z.put J (by intro _ z;cases z)) (ah.put J (by intro _ z;cases z))
  ·by_cases hk':k<y.length
   ·rw[mN hk']at e;exact good k r e
   ·rw[mh (by lia)]at e
    have hz:k-y.length=0:=by
     have:=(kL.mp e).1
     simp at this
     lia
    have:k=i:=by lia
    subst this;rw[hz]at e
    cases e;exact⟨rfl,by rw[I],rfl,gb⟩
 ·rintro σ B⟨_,z5,z6,z7,y,rfl,M,G,S,good⟩;exact⟨_,rfl,k d B y nd M G (by lia) good⟩
theorem md2{y n:Int}(h0:0<=y)(h:y<2*n):y%n=y∨y%n=y-n:=by
 by_cases c:y<n
 ·exact .inl (Int.emod_eq_of_lt h0 c)
 ·refine .inr ?_;have e:y=(y-n)+n:=by lia
  rw[e,Int.add_emod_right,Int.emod_eq_of_lt (by lia) (by lia)]
  lia
structure FreeR(sp lb:List Str)(k:Nat)(r:WR):Prop where
 nm:r.nm=lb.getD k ""
 st:r.st∈sp
 go:r.go∈sp
 ne:r.st≠r.go
 gs:G5 r.t r.b
inductive IspFree(K:W.Frag)(vs:List V)(H:Hp)(Q:VK):Prop
 |mk(l ls ll:Addr)(ns:List Int)(sp lb:List Str)(n:Nat)(h1:vs=[.ref l,.ref ls,.ref ll])(h2:SqL K H l (ns.map V.int))(h3:SqL K H ls (sp.map V.str))(h4:SqL K H ll (lb.map V.str))(h5:Names sp n)(h6:2<=n)(h7:n<=4)(h8:Names lb (2*n+4))(h9:∀d H' rs,H d=none->Same H H'->RowsAt H' d rs->rs.length<=8->(∀k r,rs[k]?=some r->FreeR sp lb k r)->Q (.ref d) H'):IspFree K vs H Q
noncomputable def spFree(K:W.Frag):Sp:=λvs H Q _=>IspFree K vs H Q
theorem ok_law_free_ways(T:TX K mg a):FnB P w K mg base CX0 "_law_free_ways" 2 ["_law_script","_law_spots","_law_labels"] (spFree K):=by
 refine T.d_law_free_ways.okA sc_law_free_ways λf am A ag s H vs Q E I h=>?_;obtain⟨l,ls,ll,ns,p,B,n,rfl,hS,hL,hB,hN,n2,n5,hM,k⟩:=h
 refine⟨_,(aD (aI (i:=3) sc_law_free_ways.nd (bH bX (by rfl) T.z_len lZ (aA (pv 1) aB)))
  (aD (aI (i:=4) sc_law_free_ways.nd cU)
  (aD (bR lj rfl (dM rfl T.z_range (aA (aK bJ aC (aK bC (aR (cO T) I aJ (aA (pv 0) (aA aC aB))) aC)) aB)) (aQ (i:=5) sc_law_free_ways.nd) (aD (aI (i:=6) sc_law_free_ways.nd (aR (cO T) I aJ (aA (pv 0) (aA (aK bJ aC (pv 5)) aB))))
  (aD (aI (i:=7) sc_law_free_ways.nd (aK bC (pv 6) (pv 3)))
  (aD (aI (i:=6) sc_law_free_ways.nd (aK (cN I tn) (pv 6) (pv 3)))
  (aD (aI (i:=8) sc_law_free_ways.nd (aK bC (aK bJ (aK bJ (pv 7) aC) (aK bC (pv 6) (aK eZ (pv 3) aC))) (pv 3)))
  (aD (aI (i:=6) sc_law_free_ways.nd (aK (cN I tn) (pv 6) (aK eZ (pv 3) aC)))
  (aF (cW (bS I) (pv 4) (aL aX (pv 2) (pv 5)) (cE (aA (aL aX (pv 1) (pv 7)) (aA (aL aX (pv 1) (pv 8)) (aA (cE (aA (aK bJ aC (aK bC (pv 6) aC)) (aA (aK bJ aC (aK bC (aK cA (pv 6) aC) aC)) aB))) (aA (aK bC (aK cA (pv 6) aC) aC) aB))))) rfl))))))))
  (aF (aO (pv 4)))))),?_⟩
 walk_at"q"
 refine⟨_,rfl,ls,_,rfl,.inl hL,?_⟩;rw[kK,hN.len];intro d nd;obtain⟨H1,zq,s1,h1⟩:=uG (o:=.dK []) nd;rw[zq];have np:(0:Int)<n:=by lia
 have aa:(0:Int)<(n:Int)-1:=by lia
 refine⟨_,rfl,l,ns,4,rfl,s1.seq hS,by decide,by decide,λc0=>?_⟩;obtain⟨m0,m1⟩:=bL c0 (show(0:Int)<8 by decide);obtain⟨m,em⟩:∃m:Nat,1+c0%8=(m:Int):=⟨(1+c0%8).toNat,by lia⟩;have m8:m<=8:=by lia
 refine⟨_,_,rfl,rfl,zI8,_,_,rfl,rfl,(m:Int),by rw[<-em],by lia,by lia,?_⟩;refine jw (λi σ N=>i<=m/\yE5 λz5 z6 z7 z8 F=>σ=[some (.ref l),some (.ref ls),some (.ref ll),some (.int n),some (.ref d),z5,z6,z7,z8]×' Same H N×' RowsAt N d F×' F.length=i×'∀k r,F[k]?=some r->FreeR p B k r) ⟨kY _,none,none,none,none,[],rfl,s1,⟨[],h1,rfl,RowAt.nil⟩,rfl,λk r e=>by cases e⟩ ?_ ?_
 ·rintro i σ N hi⟨_,z5,z6,z7,z8,F,rfl,S,L,Z,good⟩;have ai:i<m:=by lia
  rw[Int.zero_add];refine⟨_,rfl,_,rfl,_,_,rfl,rfl,l,ns,_,rfl,S.seq hS,by lia,by lia,λc=>?_⟩;have cn:CDivB 0 (n:Int):=⟨by lia,Sm.of_le (n:=10) (by lia) (by decide)⟩;have ab:CDivB 0 ((n:Int)-1):=⟨by lia,Sm.of_le (n:=10) (by lia) (by decide)⟩;refine⟨_,rfl,_,rfl,_,_,rfl,rfl,np,?_⟩;refine⟨_,rfl,_,rfl,_,_,rfl,rfl,⟨cn.1,cn.2⟩,?_⟩;refine⟨_,rfl,_,_,rfl,rfl,_,rfl,_,rfl,_,_,rfl,rfl,_,_,rfl,rfl,aa,_,_,rfl,rfl,_,rfl,_,_,rfl,rfl,np,?_⟩;refine⟨_,rfl,_,rfl,_,_,rfl,rfl,_,_,rfl,rfl,⟨ab.1,ab.2⟩,?_⟩;dsimp only;obtain⟨a1,a2⟩:=bL c np;obtain⟨b1,b2⟩:=bL (c.fdiv n) aa;have dm:=md2 (y:=c%n+1+c.fdiv n%((n:Int)-1)) (n:=n) (by lia) (by lia);obtain⟨j1,e1⟩:∃j1:Nat,c%(n:Int)=j1:=⟨(c%(n:Int)).toNat,by lia⟩;obtain⟨ak,an⟩:=bL (c%n+1+c.fdiv n%((n:Int)-1)) np;obtain⟨j2,e2⟩:∃j2:Nat,(c%n+1+c.fdiv n%((n:Int)-1))%n=j2:=⟨((c%n+1+c.fdiv n%((n:Int)-1))%n).toNat,by lia⟩;have ad:j1<n:=by lia
  have af:j2<n:=by lia
  have ac:j1≠j2:=by lia
  have D:=eM (xs:=p) (i:=j1) (by rw[hN.len];exact ad);have M:=eM (xs:=p) (i:=j2) (by rw[hN.len];exact af);have X:=eM (xs:=B) (i:=i) (by rw[hM.len];lia);generalize(c.fdiv n).fdiv ((n:Int)-1)=q;refine⟨_,rfl,_,rfl,ls,_,_,.str (p.getD j1 ""),rfl,rfl,S.seq hL,?_,_,rfl,_,rfl,ls,_,_,.str (p.getD j2 ""),rfl,rfl,S.seq hL,?_,?_⟩
  ·show atI (p.map V.str) (c%(n:Int))=some (.str (p.getD j1 ""));rw[e1];exact gR D
  ·show atI (p.map V.str) ((c%n+1+c.fdiv n%((n:Int)-1))%n)=some (.str (p.getD j2 ""));rw[e2];exact gR M
  obtain⟨t0,t1⟩:=bL q (show(0:Int)<5 by decide);obtain⟨u0,u1⟩:=bL (q/5) (show(0:Int)<5 by decide);refine⟨_,rfl,_,_,rfl,rfl,zI5,_,_,rfl,rfl,_,rfl,_,_,rfl,rfl,⟨by decide,by decide⟩,_,_,rfl,rfl,zI5,_,_,rfl,rfl,zL2,λg ng=>?_⟩;have gb:G5 (1+q%5) (1+q/5%5):=⟨by lia,by lia,by lia,by lia⟩;generalize 1+q%5=t at gb ng⊢;generalize 1+q/5%5=b at gb ng⊢;obtain⟨H4,zq,s4,U⟩:=uG (o:=.tup [.int t,.int b]) ng;rw[zq];have Y:=S.trans s4;refine⟨_,rfl,_,_,rfl,rfl,⟨by decide,by decide⟩,_,_,rfl,rfl,zI3,zL4,λR ae=>?_⟩;obtain⟨H5,zq,s5,G⟩:=uG (o:=.tup [.str (p.getD j1 ""),.str (p.getD j2 ""),.ref g,.int (q/25%3)]) ae;rw[zq];obtain⟨J,O,hk,hv⟩:=L.mono (s4.trans s5);have ah:RowIs H5 (.ref R) ⟨B.getD i "",p.getD j1 "",p.getD j2 "",t,b,q/25%3⟩:=⟨R,g,rfl,G,s5 _ _ U⟩
  have aj:J.length=i:=by
   have:=lW List.length hk
   rw[kK,kK]at this
   lia
  have nk:¬(Sum.inr (B.getD i ""):Key)∈J.map (·.1):=by
   rw[hk];intro z;obtain⟨r,I,e⟩:=kQ.mp z;obtain⟨j,hj⟩:=lL.mp I;have al:=(kL.mp hj).1;have e2:B.getD j ""=B.getD i "":=by rw[<-(good j r hj).nm];exact nO e
   have e3:=eM (xs:=B) (i:=j) (by rw[hM.len];lia)
   have:j=i:=(mo (kL.mp e3).1 hM.nd).mp (by rw[e3,e2];exact X.symm)
   lia
  refine⟨_,rfl,_,rfl,_,rfl,ll,_,_,_,rfl,rfl,(Y.trans s5).seq hB,gR X,d,_,rfl,DPut.k (k:=Sum.inr (B.getD i "")) O (aU (by lia)),?_⟩;rw[im _ (gA nk)];refine⟨ai,_,_,_,_,F++[⟨B.getD i "",p.getD j1 "",p.getD j2 "",t,b,q/25%3⟩],rfl,aZ nd (Y.trans s5),⟨J++[(Sum.inr (B.getD i ""),.ref R)],aE,?_,?_⟩,by simp[Z],λk r e=>?_⟩
  ·rw[kO,hk,kO];rfl
  ·rw[kO];exact RowAt.snoc (hv.mono λv x z=>z.put O (by intro _ z;cases z)) (ah.put O (by intro _ z;cases z))
  ·by_cases hk':k<F.length
   ·rw[mN hk']at e;exact good k r e
   ·rw[mh (by lia)]at e
    have hz:k-F.length=0:=by
     have:=(kL.mp e).1
     simp at this
     lia
    have:k=i:=by lia
    subst this;rw[hz]at e
    cases e;exact⟨rfl,kN D,kN M,λz=>ac ((mo (kL.mp D).1 hN.nd).mp (by rw[D,M];exact lW some z)),gb⟩
 ·rintro σ N⟨_,z5,z6,z7,z8,F,rfl,S,L,Z,good⟩;exact⟨_,rfl,k d N F nd S L (by lia) good⟩
theorem RowsAt.get(h:RowsAt H d rs)(nd:(rs.map (·.nm)).Nodup)(hr:r∈rs):∃v,DGet H d (.str r.nm) (some v)/\RowIs H v r:=by
 obtain⟨b,o,j,m⟩:=h;obtain⟨i,c⟩:=lL.mp hr;obtain⟨v,a,s⟩:=m.get' c;rw[kP]at a
 cases e:b[i]? with
 |none=>rw[e]at a;cases a
 |some kv=>
  rw[e]at a;have q:kv.2=v:=lJ a
  have p:kv.1=Sum.inr r.nm:=by
   have g:=lW (λl=>l[i]?) j;simp only[kP,e,c,ml]at g;exact lJ g
  refine⟨v,.inl ⟨b,Sum.inr r.nm,.inl o,rfl,?_⟩,s⟩;rw[<-p,<-q];exact(val_at (keys_nd j nd) e).symm
noncomputable def gp:List WR->Int×Int:=λws=>ws.foldl (λp r=>(p.1*r.t,p.2*r.b)) (1,1)
theorem jv(ws:List WR)(r:WR):gp (ws++[r])=((gp ws).1*r.t,(gp ws).2*r.b):=by unfold gp;rw[mT];rfl
theorem fW{x:Int}(h0:1<=x)(h:x<=2^n):x.natAbs<=2^n:=by
 have e:((2^n:Nat):Int)=(2:Int)^n:=by rw[Int.natCast_pow];rfl
 lia
structure GpB(n i:Nat)(c:Int×Int):Prop where
 t0:1<=c.1
 t1:c.1.natAbs<=2^(i*n)
 b0:1<=c.2
 b1:c.2.natAbs<=2^(i*n)
theorem GpB.step(h:GpB n i c)(t0:1<=t)(t1:t.natAbs<=2^n)(b0:1<=b)(b1:b.natAbs<=2^n):GpB n (i+1) (c.1*t,c.2*b):=by
 refine⟨?_,?_,?_,?_⟩
 ·have:=nC (show 0<c.1 by have:=h.t0;lia) (show 0<t by lia)
  show 1<=c.1*t
  lia
 ·rw[Nat.add_mul,Nat.one_mul,l0];show(c.1*t).natAbs<=_;rw[lT];exact lU h.t1 t1
 ·have:=nC (show 0<c.2 by have:=h.b0;lia) (show 0<b by lia)
  show 1<=c.2*b
  lia
 ·rw[Nat.add_mul,Nat.one_mul,l0];show(c.2*b).natAbs<=_;rw[lT];exact lU h.b1 b1
theorem gp_bd{ws:List WR}(h:∀r∈ws,1<=r.t/\r.t<=2^n/\1<=r.b/\r.b<=2^n):∀i,i<=ws.length->GpB n i (gp (ws.take i))
 |0,_=>by
  rw[List.take_zero];exact⟨by decide,by rw[Nat.zero_mul];decide,by decide,by rw[Nat.zero_mul];decide⟩
 |i+1,hi=>by
  have j:=gp_bd h i (by omega);have e:=kR (l:=ws) (i:=i) (by omega);have b:=kN e;generalize ws[i]'_=r at e b;obtain⟨a,o,c,m⟩:=h r b;rw[kX,e,lB,jv];exact j.step a (fW a o) c (fW c m)
theorem GB.all{r:WR}(h:GB r.t r.b):1<=r.t/\r.t<=2^40/\1<=r.b/\r.b<=2^40:=⟨h.t0,nN h.t1 (by decide),h.b0,nN h.b1 (by decide)⟩
inductive IspProd(K:W.Frag)(vs:List V)(H:Hp)(Q:VK):Prop
 |mk(d wl:Addr)(rs ws:List WR)(h1:vs=[.ref d,.ref wl])(h2:RowsAt H d rs)(h3:(rs.map (·.nm)).Nodup)(h4:SqL K H wl (ws.map λr=>.str r.nm))(h5:(∀r∈ws,r∈rs))(h6:(∀r∈ws,GB r.t r.b))(h7:ws.length<=12)(h8:∀g H',Same H H'->H' g=some (.tup [.int (gp ws).1,.int (gp ws).2])->Q (.ref g) H'):IspProd K vs H Q
noncomputable def spProd(K:W.Frag):Sp:=λvs H Q _=>IspProd K vs H Q
theorem je(T:TX K mg a):FnB P w K mg base CX0 "_law_product" 2 ["_law_ways_here","_law_walk"] (spProd K):=by
 refine T.d_law_product.okA sc_law_product λf aa A D s H vs Q E l h=>?_;obtain⟨d,F,rs,ws,rfl,hR,R,J,sub,j,lw,k⟩:=h
 refine⟨_,(aD (aI (i:=2) sc_law_product.nd (cE (aA aC (aA aC aB))))
  (aD (bR lj rfl (bW (pv 1)) (aQ (i:=3) sc_law_product.nd) (aF (aI (i:=2) sc_law_product.nd (aR (iI T) l aJ (aA (pv 2) (aA (aL aT (cQ (bS l) (pv 0) (pv 3) (λ_ _=>rfl)) aC) aB))))))
  (aF (aO (pv 2))))),?_⟩
 walk_at"q"
 refine⟨zL2,λm Y=>?_⟩;obtain⟨H0,zq,B,L⟩:=uG (o:=.tup [.int 1,.int 1]) Y;rw[zq];have bd:=gp_bd (n:=40) (ws:=ws) λr l=>(j r l).all;refine⟨_,rfl,F,rfl,⟨_,B.seq J⟩,cF (K:=K) (a:=F) (xs:=ws.map λr=>V.str r.nm) (λi σ e=>i<=ws.length/\yE2 λz g=>σ=[some (.ref d),some (.ref F),some (.ref g),z]×' Same H e×' e g=some (.tup [.int (gp (ws.take i)).1,.int (gp (ws.take i)).2])) ⟨kY _,none,m,rfl,B,L⟩ ((by rintro i σ e _⟨_,_,_,_,c,_⟩;exact c.seq J)) ?_ ?_⟩
 ·rintro i t σ e M⟨_,z,g,rfl,c,p⟩;rw[kP]at M;obtain⟨y,q,rfl⟩:=Option.map_eq_some_iff.mp M;have hi:=(kL.mp q).1;have I:=kN q;have b:=bd i (by lia);obtain⟨X,q2,S,q4⟩:=(j y I).all;obtain⟨v,N,p1,Z,rfl,x1,O⟩:=(hR.mono c).get R (sub y I);refine⟨_,rfl,_,rfl,_,rfl,d,_,rfl,N,p1,_,_,_,rfl,rfl,SqT.of x1,rfl,g,Z,gp (ws.take i),(y.t,y.b),i*40,40,rfl,p,O,⟨b.t1,b.b1⟩,⟨fW X q2,fW S q4⟩,by lia,λU G=>?_⟩;refine⟨hi,_,U,rfl,c.trans (aS G),?_⟩;rw[aE,kX,q,lB,jv];rfl
 ·rintro σ e⟨_,z,g,rfl,c,p⟩;rw[kK,kZ]at p;exact⟨_,rfl,k g e c p⟩
noncomputable def KpD(d:Addr)(H H':Hp):Prop:=∀b o,b≠d->H b=some o->H' b=some o
theorem KpD.of(s:Same H H'):KpD d H H':=λb o _ e=>s b o e
theorem KpD.trans(h:KpD d H H')(g:KpD d H' H''):KpD d H H'':=λb o n e=>g b o n (h b o n e)
theorem KpD.put:KpD d H (upd H d o):=λb u n e=>by rw[aG n];exact e
theorem KpD.same(h:KpD d H H')(n:H0 d=none)(s:Same H0 H):Same H0 H':=λb o e=>h b o (λz=>by rw[z,n]at e;cases e) (s b o e)
theorem KpD.fresh(h:KpD d H H')(e:H' d≠none)(np:H' p=.none):H p=.none:=by
 cases u:H p with
 |none=>rfl
 |some o=>exact absurd np (if z:p=d then z▸e else by rw[h p o z u];intro z;cases z)
theorem RowsAt.ne0(h:RowsAt H d rs):H d≠none:=by
 obtain⟨_,e,_⟩:=h;rw[e];intro z
 cases z
noncomputable def bE(as:Nat->WR)(n b m:Nat):List WR:=(List.range m).map λk=>as ((b+k)%n)
noncomputable def dD(as:Nat->WR)(n b m:Nat)(nm:Str)(g:Int×Int)(kd:Int):WR:=⟨nm,(as ((b+(m-1))%n)).go,(as (b%n)).st,g.1*(gp (bE as n b m)).2,g.2*(gp (bE as n b m)).1,kd⟩
theorem j4(as:Nat->WR)(n b m:Nat):bE as n b (m+1)=bE as n b m++[as ((b+m)%n)]:=by unfold bE;rw[List.range_succ,kO];rfl
theorem at_last'{u:V}(h:xs.getLast?=some u):atI xs (-1)=some u:=by
 obtain⟨a,rfl⟩:=List.getLast?_eq_some_iff.mp h;exact atI_last _ _
inductive IspRing(vs:List V)(H:Hp)(Q:VK):Prop
 |mk(d la tg:Addr)(rs:List WR)(as:Nat->WR)(n b m:Nat)(bg kd:Int)(nm:Str)(g:Int×Int)(h1:vs=[.ref d,.ref la,.int bg,.int ((m+1:Nat):Int),.str nm,.ref tg,.int kd])(h2:RowsAt H d rs)(h3:(rs.map (·.nm)).Nodup)(h4:rs.length<=20)(h5:H la=some (.lst ((List.range n).map λj=>V.str (as j).nm)))(h6:(∀j,j<n->as j∈rs/\G5 (as j).t (as j).b))(h7:2<=n)(h8:n<=5)(h9:1<=m)(h10:m<n)(h11:bg%n=b)(h12:nm∉rs.map (·.nm))(h13:H tg=some (.tup [.int g.1,.int g.2]))(h14:FB g.1 g.2)(h15:∀l H',H l=none->KpD d H H'->RowsAt H' d (rs++[dD as n b m nm g kd])->H' l=some (.lst ((bE as n b m++[dD as n b m nm g kd]).map λr=>V.str r.nm))->Q (.ref l) H'):IspRing vs H Q
noncomputable def spRing(K:W.Frag):Sp:=λvs H Q _=>IspRing vs H Q
theorem idx_mod{bg:Int}{n b k:Nat}(n0:0<n)(h:bg%n=b):(bg+k)%n=(((b+k)%n:Nat):Int):=by
 rw[Int.natCast_emod,Int.natCast_add,<-h,Int.emod_add_emod]
theorem gs200(h:G5 t b):1<=t/\t<=2^7/\1<=b/\b<=2^7:=⟨h.t0,nN h.t1 (by decide),h.b0,nN h.b1 (by decide)⟩
theorem ok_law_ring(T:TX K mg a):FnB P w K mg base CX0 "_law_ring" 2 ["_law_ways_here","_law_around","_law_begin","_law_size","_law_name","_law_gain_here","_law_kind"] (spRing K):=by
 refine T.d_law_ring.okA sc_law_ring λf a6 A aj s H vs Q E I h=>?_;obtain⟨d,la,tg,rs,c,n,b,m,bg,G,l,g,rfl,hR,nd,a4,ai,sub,n2,n5,m1,mn,hb,ar,ay,fb,k⟩:=h
 refine⟨_,(bB (eP (i:=7) (xs:=["_law_k"]) (rest:=["_law_around","_law_begin"]) sc_law_ring.nd rfl rfl rfl (dM rfl T.z_range (aA (aK eZ (pv 3) aC) aB))
  (λU fp C' s' F=>(aQ (i:=0) (show(["_law_k","_law_around","_law_begin"]:List Str).Nodup by decide+kernel))) (λU fp C' s' F=>dQ)
  (λU fp C' s' F=>(aL (r:=rIxL K) aX (pv 1) (aK bC (aK bJ (pv 2) (pv 0)) (bH (r:=rLen K) bX (by rfl) T.z_len lZ (aA (pv 1) aB)))))
  (Clos.many (ys:=["_law_begin","_law_around"]) rfl ⟨rfl,rfl,True.intro⟩ rfl (by decide+kernel)) (Reads.many (ys:=["_law_around","_law_begin"]) (js:=[1,2]) ⟨⟨rfl,rfl,rfl⟩,⟨rfl,rfl,rfl⟩,True.intro⟩))
  (aD (aI (i:=8) sc_law_ring.nd (cE (aA aC (aA aC aB))))
  (bB (bR lj rfl (bW (pv 7)) (aQ (i:=9) sc_law_ring.nd) (aF (aI (i:=8) sc_law_ring.nd (aR (iI T) I aJ (aA (pv 8) (aA (aL aT (cQ (bS I) (pv 0) (pv 9) (λ_ _=>rfl)) aC) aB))))))
  (bB (aI (i:=5) sc_law_ring.nd (cE (aA (aK cI (aL aT (pv 5) aC) (aL aT (pv 8) aC)) (aA (aK cI (aL aT (pv 5) aC) (aL aT (pv 8) aC)) aB))))
  (aD (cW (bS I) (pv 0) (pv 4) (cE (aA (aL aT (cQ (bS I) (pv 0) (aL aX (pv 7) (jL hU aC)) (λ_ _=>rfl)) aC) (aA (aL aT (cQ (bS I) (pv 0) (aL aX (pv 7) aC) (λ_ _=>rfl)) aC) (aA (pv 5) (aA (pv 6) aB))))) rfl)
  (aF (aO (aK op_cat (pv 7) (bK (aA (pv 4) aB)))))))))),?_⟩
 walk_at"q"
 have a2:(0:Int)<=bg%n:=Int.emod_nonneg _ (by lia)
 have ag:∀r∈bE c n b m,r∈rs/\G5 r.t r.b:=λr I=>by
  obtain⟨k,_,rfl⟩:=kQ.mp I;exact sub _ (ma _ (by lia))
 have a0:(bE c n b m).length=m:=by unfold bE;rw[kK,mV]
 refine dP (λY F=>yE1 λq=>Y=[some (.ref d),some (.ref la),some (.int bg),some (.int ((m+1:Nat):Int)),some (.str l),some (.ref tg),some (.int G),some (.ref q),none,none]×' Same H F×' F q=some (.lst ((bE c n b m).map λr=>V.str r.nm))) ?_ ?_
 ·refine⟨_,rfl,_,_,rfl,rfl,_,rfl,by lia,by lia,λq nq=>?_⟩;refine eF (λi H2=>i<=m×' Same H H2×' H2 q=some (.lst ((bE c n b i).map λr=>V.str r.nm))) ⟨kY _,aS nq,aE⟩ ?_ ?_
  ·rintro i H2 hi⟨_,R,h2⟩;have az:i<m:=by lia
   refine g1 ⟨⟨[_],rfl,rfl⟩,yes ?_⟩;have X:=SqL.of (K:=K) (R _ _ ai);have al:(b+i)%n<n:=ma _ (by lia);refine⟨_,rfl,_,rfl,_,rfl,_,_,rfl,rfl,_,rfl,la,_,rfl,.inl X,_,_,rfl,rfl,?_,la,_,_,.str (c ((b+i)%n)).nm,rfl,rfl,X,?_,?_⟩
   ·show(0:Int)<(((List.range n).map λj=>V.str (c j).nm).length:Int);rw[kK,mV]
    lia
   ·show atI ((List.range n).map λj=>V.str (c j).nm) ((bg+(0+(i:Int)))%(((List.range n).map λj=>V.str (c j).nm).length:Int))=_;rw[kK,mV,Int.zero_add,idx_mod (by lia) hb];exact atI_nat (by rw[kP,List.getElem?_range al];rfl)
   ·refine⟨_,h2,aU (by rw[kK];unfold bE;rw[kK,mV];lia),eU hi ⟨az,aZ nq R,?_⟩⟩;rw[aE,j4,kO];rfl
  ·rintro H2⟨_,R,h2⟩;refine⟨q,rfl,R,?_⟩;rw[show(((m+1:Nat):Int)-1).toNat=m by lia]at h2;exact h2
 rintro zU J Y H1⟨q,rfl,s1,hq⟩;subst J;generalize L:jP _ _=k9
 revert k9
 refine iw λk9 L=>?_;refine⟨zL2,λg0 n0=>?_⟩;obtain⟨H2,zq,R,h0⟩:=uG (o:=.tup [.int 1,.int 1]) n0;rw[zq];have bd:=gp_bd (n:=7) (ws:=bE c n b m) λr I=>gs200 (ag r I).2;subst L;refine dP (λY F=>yE2 λg1 z9=>Y=[some (.ref d),some (.ref la),some (.int bg),some (.int ((m+1:Nat):Int)),some (.str l),some (.ref tg),some (.int G),some (.ref q),some (.ref g1),z9]×' Same H1 F×' F g1=some (.tup [.int (gp (bE c n b m)).1,.int (gp (bE c n b m)).2])) ?_ ?_
 ·refine⟨_,rfl,q,rfl,⟨_,SqL.of (R _ _ hq)⟩,cF (K:=K) (a:=q) (xs:=(bE c n b m).map λr=>V.str r.nm) (λi σ F=>i<=m/\yE2 λz g1=>σ=[some (.ref d),some (.ref la),some (.int bg),some (.int ((m+1:Nat):Int)),some (.str l),some (.ref tg),some (.int G),some (.ref q),some (.ref g1),z]×' Same H1 F×' F g1=some (.tup [.int (gp ((bE c n b m).take i)).1,.int (gp ((bE c n b m).take i)).2])) ⟨kY _,none,g0,rfl,R,h0⟩ ((by rintro i σ F _⟨_,_,_,_,s',_⟩;exact SqL.of (s' _ _ hq))) ?_ ?_⟩
  ·rintro i t σ H3 ht⟨_,z,g1,rfl,s3,hg⟩;rw[kP]at ht;obtain⟨y,ey,rfl⟩:=Option.map_eq_some_iff.mp ht;have hi:=(kL.mp ey).1;obtain⟨my,au⟩:=ag y (kN ey);have b1:=bd i (by lia);obtain⟨q1,q2,q3,q4⟩:=gs200 au;obtain⟨v,gv,p1,gy,rfl,x1,x2⟩:=(hR.mono (s1.trans s3)).get nd my;refine⟨_,rfl,_,rfl,_,rfl,d,_,rfl,gv,p1,_,_,_,rfl,rfl,SqT.of x1,rfl,g1,gy,gp ((bE c n b m).take i),(y.t,y.b),i*7,7,rfl,hg,x2,⟨b1.t1,b1.b1⟩,⟨fW q1 q2,fW q3 q4⟩,by lia,λr' ak=>?_⟩;refine⟨by lia,_,r',rfl,s3.trans (aS ak),?_⟩;rw[aE,kX,ey,lB,jv];rfl
  ·rintro σ H3⟨_,z,g1,rfl,s3,hg⟩;rw[kK,kZ]at hg;exact⟨g1,z,rfl,s3,hg⟩
 clear R h0;rintro zU J Y H3⟨g1,z9,rfl,s3,af⟩;have bm:=bd m (by lia);subst J;generalize L:jP _ _=k9
 revert k9
 refine iw λk9 L=>?_;rw[show(bE c n b m).take m=bE c n b m from List.take_of_length_le (by lia)]at bm;have an:=s3 _ _ hq;have ae:=s1.trans s3;generalize av:gp (bE c n b m)=pr at af bm;subst L;refine dP (λY F=>yE1 λB=>Y=[some (.ref d),some (.ref la),some (.int bg),some (.int ((m+1:Nat):Int)),some (.str l),some (.ref B),some (.int G),some (.ref q),some (.ref g1),z9]×' Same H3 F×' F B=some (.tup [.int (g.1*pr.2),.int (g.2*pr.1)])) ?_ ?_
 ·have st:=SqT.of (K:=K) (ae _ _ ay);have sp:=SqT.of (K:=K) af;have ab:m*7<16000000:=by lia
  have f1:=fW (n:=20) fb.t0 fb.t1;have f2:=fW (n:=20) fb.b0 fb.b1;refine⟨_,rfl,tg,_,_,_,rfl,rfl,st,rfl,_,rfl,g1,_,_,_,rfl,rfl,sp,rfl,_,_,rfl,rfl,⟨Sm.of_le f1 (by decide),Sm.of_le bm.b1 ab⟩,_,rfl,tg,_,_,_,rfl,rfl,st,rfl,_,rfl,g1,_,_,_,rfl,rfl,sp,rfl,_,_,rfl,rfl,⟨Sm.of_le f2 (by decide),Sm.of_le bm.t1 ab⟩,zL2,λt2 aq=>?_⟩;exact⟨t2,rfl,aS aq,aE⟩
 rintro zU J Y H4⟨B,rfl,s4,ac⟩;have O:=ae.trans s4;have N:=s4 _ _ an;subst J
 have eL:(bE c n b m).getLast?=some (c ((b+(m-1))%n)):=by
  rw[show m=(m-1)+1 by lia,j4,List.getLast?_append];rfl
 have e0:(bE c n b m)[0]?=some (c (b%n)):=by
  unfold bE;rw[kP,List.getElem?_range (by lia)];rfl
 have mL:=(sub ((b+(m-1))%n) (ma _ (by lia))).1;have m0:=(sub (b%n) (ma _ (by lia))).1;have ax:atI ((bE c n b m).map λr=>V.str r.nm) (-1)=some (.str (c ((b+(m-1))%n)).nm):=at_last' (by rw[List.getLast?_map,eL];rfl);have ap:atI ((bE c n b m).map λr=>V.str r.nm) 0=some (.str (c (b%n)).nm):=atI_nat (j:=0) (by rw[kP,e0];rfl);obtain⟨v1,ao,p1,a3,rfl,x1,x2⟩:=(hR.mono O).get nd mL;obtain⟨v2,aw,p2,a5,rfl,y1,y2⟩:=(hR.mono O).get nd m0;refine⟨_,rfl,_,rfl,_,rfl,q,_,_,_,rfl,rfl,SqL.of N,ax,d,_,rfl,ao,p1,_,_,_,rfl,rfl,SqT.of x1,rfl,_,rfl,_,rfl,q,_,_,_,rfl,rfl,SqL.of N,ap,d,_,rfl,aw,p2,_,_,_,rfl,rfl,SqT.of y1,rfl,_,rfl,_,rfl,zL4,λM ah=>?_⟩;have eW:dD c n b m l g G=⟨l,(c ((b+(m-1))%n)).go,(c (b%n)).st,g.1*pr.2,g.2*pr.1,G⟩:=by unfold dD;rw[av]
 generalize dD c n b m l g G=W at eW k;obtain⟨H5,zq,s5,Z⟩:=uG (o:=.tup [.str (c ((b+(m-1))%n)).go,.str (c (b%n)).st,.ref B,.int G]) ah;rw[zq];obtain⟨D,S,hk,hv⟩:=hR.mono (O.trans s5);have am:RowIs H5 (.ref M) W:=by rw[eW];exact⟨M,B,rfl,Z,s5 _ _ ac⟩
 have wn:W.nm=l:=by rw[eW]
 have a1:D.length=rs.length:=by
  have:=lW List.length hk
  rw[kK,kK]at this
  lia
 have nk:¬(Sum.inr l:Key)∈D.map (·.1):=by
  rw[hk];intro z;obtain⟨r,I,e⟩:=kQ.mp z;exact ar (kQ.mpr ⟨r,I,nO e⟩)
 refine⟨_,rfl,_,rfl,d,_,rfl,DPut.k (k:=Sum.inr l) S (aU (by lia)),?_⟩;rw[im _ (gA nk)]
 have aa:RowsAt (upd H5 d (.dK (D++[(Sum.inr l,.ref M)]))) d (rs++[W]):=by
  refine⟨D++[(Sum.inr l,.ref M)],aE,?_,?_⟩
  ·rw[kO,hk,kO,<-wn];rfl
  ·rw[kO];exact RowAt.snoc (hv.mono λv x z=>z.put S (by intro _ z;cases z)) (am.put S (by intro _ z;cases z))
 have ad:upd H5 d (.dK (D++[(Sum.inr l,.ref M)])) q=some (.lst ((bE c n b m).map λr=>V.str r.nm)):=by
  rw[aG (bD (s5 _ _ N) S (by intro z;cases z))];exact s5 _ _ N
 have kp:KpD d H (upd H5 d (.dK (D++[(Sum.inr l,.ref M)]))):=(KpD.of (O.trans s5)).trans KpD.put;generalize upd H5 d (.dK (D++[(Sum.inr l,.ref M)]))=H6 at aa ad kp⊢;refine⟨_,rfl,_,rfl,zL1,λx nx=>?_⟩;obtain⟨H7,zq,s7,h7⟩:=uG (o:=.lst [.str l]) nx;rw[zq];refine⟨q,x,_,_,rfl,rfl,s7 _ _ ad,h7,aU (by rw[kK,a0];lia),λp np=>?_⟩;have s8:=s7.trans (aS (o:=.lst (((bE c n b m).map λr=>V.str r.nm)++[.str l])) np)
 have n6:H6 p=none:=by
  cases e:H6 p with
  |none=>rfl
  |some o=>rw[s7 _ _ e]at np;cases np
 refine k p _ (kp.fresh aa.ne0 n6) (kp.trans (KpD.of s8)) (aa.mono s8) ?_;rw[aE,kO,<-wn];rfl
theorem take_names{lb:List Str}{as:Nat->WR}(h:n<=lb.length)(e:∀j,j<n->(as j).nm=lb.getD j ""):(lb.map V.str).take n=(List.range n).map λj=>V.str (as j).nm:=by
 apply List.ext_getElem?
 intro j;rw[mO,kP,kP];by_cases hj:j<n
 ·rw[if_pos hj,List.getElem?_range hj,eM (by lia)];show some (V.str (lb.getD j ""))=some (V.str (as j).nm);rw[e j hj]
 ·rw[if_neg hj,List.getElem?_eq_none (by rw[mV];lia)];rfl
noncomputable def iB(as:Nat->WR)(n:Nat):Nat->WR:=λk=>as (n+(n-k)%n)
noncomputable def hasH(k:Int):Prop:=k=0∨k=2∨k=3∨k=6∨k=7
instance(k:Int):Decidable (hasH k):=by unfold hasH;infer_instance
theorem inH(h0:0<=k)(h8:k<8):inV (.int k) [.int 0,.int 2,.int 3,.int 6,.int 7]=decide (hasH k):=by
 have:k=0∨k=1∨k=2∨k=3∨k=4∨k=5∨k=6∨k=7:=by lia
 rcases this with rfl|rfl|rfl|rfl|rfl|rfl|rfl|rfl<;>decide+kernel
structure CB(c:Int×Int):Prop where
 t0:1<=c.1
 t1:c.1<=2^40
 b0:1<=c.2
 b1:c.2<=2^10
noncomputable def szI(n:Nat)(c0:Int):Int:=if c0%8%2=1 then 1+c0/40%((n:Int)-1)else 0
theorem szI_bd(h:2<=n):0<=szI n c0/\szI n c0<n:=by
 unfold szI;obtain⟨b,a⟩:=bL (c0/40) (show(0:Int)<(n:Int)-1 by omega)
 split<;>omega
noncomputable def StrR(as:Nat->WR)(n:Nat)(nm1 nm2:Str)(c0:Int)(W1 W2:WR)(hd pa ta:List WR)(c:Int×Int):Prop:=∃(st sz m1 m2 b0:Nat)(g1 g2:Int×Int)(k1 k2:Int),st<n/\szI n c0=sz/\sz<n/\1<=m1/\m1<n/\1<=m2/\m2<n/\(0-(st:Int)-sz)%n=b0/\FB g1.1 g1.2/\(c0%8=0->g1.1=g1.2)/\(c0%8≠0->g1.2<g1.1)/\FB g2.1 g2.2/\g2.1<g2.2/\W1=dD as n st m1 nm1 g1 k1/\W2=dD (iB as n) n b0 m2 nm2 g2 k2/\hd=(if hasH (c0%8) then bE as n st m1++[W1]else[])/\pa=bE as n st sz/\ta=(if c0%8<4 then[]else bE (iB as n) n b0 m2++[W2])/\CB c
inductive IspStrand(vs:List V)(H:Hp)(Q:VK):Prop
 |mk(d ll lc:Addr)(rs:List WR)(lb:List Str)(as:Nat->WR)(n wh:Nat)(c0 c1 c2 c3:Int)(h1:vs=[.ref d,.ref ll,.int n,.int wh,.ref lc])(h2:RowsAt H d rs)(h3:(rs.map (·.nm)).Nodup)(h4:rs.length<=18)(h5:H ll=some (.lst (lb.map V.str)))(h6:lb.length<=100)(h7:2*n+2*wh+2<=lb.length)(h8:(∀j,j<2*n->as j∈rs/\(as j).nm=lb.getD j ""/\G5 (as j).t (as j).b))(h9:2<=n)(h10:n<=5)(h11:wh<=20)(h12:lb.Nodup)(h13:(∀r∈rs,r.nm≠lb.getD (2*n+2*wh) ""/\r.nm≠lb.getD (2*n+2*wh+1) ""))(h14:H lc=some (.lst [.int c0,.int c1,.int c2,.int c3]))(h15:∀(t lh lp lt g:Addr)(H':Hp)(W1 W2:WR)(hd pa ta:List WR)(c:Int×Int),H lh=none->H lp=none->H lt=none->KpD d H H'->RowsAt H' d (rs++[W1]++[W2])->H' t=some (.tup [.ref lh,.ref lp,.ref lt,.ref g])->H' lh=some (.lst (hd.map λr=>V.str r.nm))->H' lp=some (.lst (pa.map λr=>V.str r.nm))->H' lt=some (.lst (ta.map λr=>V.str r.nm))->H' g=some (.tup [.int c.1,.int c.2])->StrR as n (lb.getD (2*n+2*wh) "") (lb.getD (2*n+2*wh+1) "") c0 W1 W2 hd pa ta c->Q (.ref t) H'):IspStrand vs H Q
noncomputable def spStrand(K:W.Frag):Sp:=λvs H Q _=>IspStrand vs H Q
theorem ok_law_strand(T:TX K mg a):FnB P w K mg base CX0 "_law_strand" 3 ["_law_ways_here","_law_labels","_law_count","_law_which","_law_cells"] (spStrand K):=by
 refine T.d_law_strand.okA sc_law_strand λf c6 A bz s H vs Q E S h=>?_;obtain⟨d,ll,G,rs,N,O,n,m,c0,c1,c2,D,rfl,hR,nd,c5,ai,cs,c4,all,n2,n5,ct,cp,fresh,hc,k⟩:=h
 refine⟨_,(aD (aI (i:=5) sc_law_strand.nd (aK bC (aL aX (pv 4) aC) aC))
  (aD (aI (i:=6) sc_law_strand.nd (aK bC (aK cA (aL aX (pv 4) aC) aC) (pv 2)))
  (aD (aI (i:=7) sc_law_strand.nd aC)
  (bB (bG (aP eJ (aK bC (pv 5) aC) aC) (aF (aI (i:=7) sc_law_strand.nd (aK bJ aC (aK bC (aK cA (aL aX (pv 4) aC) aC) (aK eZ (pv 2) aC))))) aV)
  (aD (aI (i:=8) sc_law_strand.nd (gL j9 (pv 1) iH (iG (pv 2))))
  (bB (eP (i:=9) (xs:=["_law_k"]) (rest:=["_law_count","_law_labels"]) sc_law_strand.nd rfl rfl rfl (dM rfl T.z_range (aA (pv 2) aB))
  (λI fp C' s' F=>(aQ (i:=0) (show(["_law_k","_law_count","_law_labels"]:List Str).Nodup by decide+kernel))) (λI fp C' s' F=>dQ)
  (λI fp C' s' F=>(aL (r:=rIxL K) aX (pv 2) (aK bJ (pv 1) (aK bC (aK eZ aC (pv 0)) (pv 1)))))
  (Clos.many (ys:=["_law_labels","_law_count"]) rfl ⟨rfl,rfl,True.intro⟩ rfl (by decide+kernel)) (Reads.many (ys:=["_law_count","_law_labels"]) (js:=[2,1]) ⟨⟨rfl,rfl,rfl⟩,⟨rfl,rfl,rfl⟩,True.intro⟩))
  (aD (aI (i:=10) sc_law_strand.nd (aR (jN T) S aJ (aA (aL aX (pv 4) aC) (aA (eQ eJ (pv 5) aC) aB))))
  (aD (aI (i:=11) sc_law_strand.nd (aR (jN T) S aJ (aA (aL aX (pv 4) aC) (aA fk aB))))
  (aD (aI (i:=11) sc_law_strand.nd (cE (aA (aL aT (pv 11) aC) (aA (aL aT (pv 11) aC) aB))))
  (aD (aI (i:=12) sc_law_strand.nd (aK bJ aC (aK bC (aK cA (aL aX (pv 4) aC) aC) (aK eZ (pv 2) aC))))
  (aD (aI (i:=13) sc_law_strand.nd (aR (ok_law_ring T) S aJ (aA (pv 0) (aA (pv 8) (aA (pv 6) (aA (pv 12) (aA (aL aX (pv 1) (aK bJ (aK cI aC (pv 2)) (aK cI aC (pv 3)))) (aA (pv 10) (aA (aK bC (aL aX (pv 4) aC) aC) aB)))))))))
  (aD (aI (i:=12) sc_law_strand.nd (aK bJ aC (aK bC (aK cA (aL aX (pv 4) aC) aC) (aK eZ (pv 2) aC))))
  (aD (aI (i:=14) sc_law_strand.nd (aL aX (pv 1) (aK bJ (aK bJ (aK cI aC (pv 2)) (aK cI aC (pv 3))) aC)))
  (aD (aI (i:=15) sc_law_strand.nd (aR (ok_law_ring T) S aJ (aA (pv 0) (aA (pv 9) (aA (aK eZ (aK eZ aC (pv 6)) (pv 7)) (aA (pv 12) (aA (pv 14) (aA (pv 11) (aA (aK bC (aL aX (pv 4) aC) aC) aB)))))))))
  (bB (eP (i:=16) (xs:=["_law_k"]) (rest:=["_law_ahead","_law_count","_law_start"]) sc_law_strand.nd rfl rfl rfl (dM rfl T.z_range (aA (pv 7) aB))
  (λI fp C' s' F=>(aQ (i:=0) (show(["_law_k","_law_ahead","_law_count","_law_start"]:List Str).Nodup by decide+kernel))) (λI fp C' s' F=>dQ)
  (λI fp C' s' F=>(aL (r:=rIxL K) aX (pv 1) (aK bC (aK bJ (pv 3) (pv 0)) (pv 2))))
  (Clos.many (ys:=["_law_start","_law_count","_law_ahead"]) rfl ⟨rfl,rfl,rfl,True.intro⟩ rfl (by decide+kernel)) (Reads.many (ys:=["_law_ahead","_law_count","_law_start"]) (js:=[8,2,6]) ⟨⟨rfl,rfl,rfl⟩,⟨rfl,rfl,rfl⟩,⟨rfl,rfl,rfl⟩,True.intro⟩))
  (bB (bG (pt_cmpR op_notIn_seq (pv 5) (bK (aA aC (aA aC (aA aC (aA aC (aA aC aB)))))) (by with_unfolding_all rfl)) (aF (aI (i:=13) sc_law_strand.nd (bK aB))) aV)
  (bB (bG (aP jd (pv 5) aC) (aF (aI (i:=15) sc_law_strand.nd (bK aB))) aV)
  (aD (aI (i:=17) sc_law_strand.nd (cE (aA (aK bJ aC (aK bC (aL aX (pv 4) aC) aC)) (aA (aK bJ aC (aK bC (aK cA (aL aX (pv 4) aC) aC) aC)) aB))))
  (bB (bG (aP eJ (aK bC (aL aX (pv 4) aC) aC) aC) (aF (aI (i:=17) sc_law_strand.nd (cE (aA (aK bJ aC (aK bC (aL aX (pv 4) aC) (aK op_pow aC aC))) (aA (aK bJ aC (aK bC (aK cA (aL aX (pv 4) aC) aC) aC)) aB))))) aV)
  (aF (aO (cE (aA (pv 13) (aA (pv 16) (aA (pv 15) (aA (pv 17) aB)))))))))))))))))))))))))),?_⟩
 walk_at"q"
 generalize M:jP _ _=k9
 revert k9
 refine iw λk9 M=>?_;have sc:=SqL.of (K:=K) hc;have n0:(0:Int)<n:=by lia
 have n1:(0:Int)<(n:Int)-1:=by lia
 obtain⟨z0,z1⟩:=szI_bd (c0:=c0) n2;obtain⟨cx,cy⟩:=bL (c0/8) n0;refine⟨_,rfl,G,_,_,_,rfl,rfl,sc,rfl,_,_,rfl,rfl,zI8,?_⟩;refine⟨_,rfl,G,_,_,_,rfl,rfl,sc,rfl,_,_,rfl,rfl,⟨by decide,by decide⟩,_,rfl,_,_,rfl,rfl,n0,?_⟩;subst M;refine dP (λL F=>L=[some (.ref d),some (.ref ll),some (.int n),some (.int m),some (.ref G),some (.int (c0%8)),some (.int (c0/8%n)),some (.int (szI n c0)),none,none,none,none,none,none,none,none,none,none]/\F=H) ?_ ?_
 ·refine⟨_,rfl,_,_,rfl,rfl,zI2,rfl,_,rfl,ifV (λe=>?_) (λe=>?_)⟩
  ·refine⟨_,rfl,G,_,_,_,rfl,rfl,sc,rfl,_,_,rfl,rfl,⟨by decide,by decide⟩,_,rfl,_,_,rfl,rfl,_,_,rfl,rfl,n1,_,_,rfl,rfl,?_,rfl⟩;rw[show szI n c0=1+c0/40%((n:Int)-1) from if_pos e];rfl
  ·refine⟨?_,rfl⟩;rw[show szI n c0=0 from if_neg e];rfl
 rintro zU B L H0⟨rfl,rfl⟩;subst B;generalize M:jP _ _=k9
 revert k9
 refine iw λk9 M=>?_;refine⟨_,rfl,_,rfl,_,rfl,ll,_,rfl,SqL.of ai,λla na=>?_⟩;rw[cut_take];have s1:=aS (o:=.lst ((N.map V.str).take n)) na
 have a2:upd H0 la (.lst ((N.map V.str).take n)) la=some (.lst ((List.range n).map λj=>V.str (O j).nm)):=by
  rw[aE,take_names (by lia) λj hj=>(all j (by lia)).2.1]
 generalize upd H0 la (.lst ((N.map V.str).take n))=H1 at s1 a2⊢;subst M;refine dP (λL F=>yE1 λq=>L=[some (.ref d),some (.ref ll),some (.int n),some (.int m),some (.ref G),some (.int (c0%8)),some (.int (c0/8%n)),some (.int (szI n c0)),some (.ref la),some (.ref q),none,none,none,none,none,none,none,none]×' Same H1 F×' F q=some (.lst ((List.range n).map λj=>V.str (iB O n j).nm))) ?_ ?_
 ·refine⟨_,rfl,_,rfl,by lia,by lia,λq nq=>?_⟩;refine eF (λi U=>i<=n×' Same H1 U×' U q=some (.lst ((List.range i).map λj=>V.str (iB O n j).nm))) ⟨kY _,aS nq,aE⟩ ?_ ?_
  ·rintro i U hi⟨_,Y,h2⟩;have ay:i<n:=by lia
   refine g1 ⟨⟨[_],rfl,rfl⟩,yes ?_⟩;have b9:=SqL.of (K:=K) ((s1.trans Y) _ _ ai);have ar:(n-i)%n<n:=ma _ (by lia)
   have ei:((0:Int)-(0+(i:Int)))%n=(((n-i)%n:Nat):Int):=by
    rw[Int.natCast_emod,show(((n-i:Nat)):Int)=(0-(0+(i:Int)))+n by lia,Int.add_emod_right]
   refine⟨_,rfl,_,rfl,_,rfl,_,_,rfl,rfl,_,rfl,_,_,rfl,rfl,n0,_,_,rfl,rfl,ll,_,_,.str (iB O n i).nm,rfl,rfl,b9,?_,?_⟩
   ·show atI (N.map V.str) ((n:Int)+(0-(0+(i:Int)))%n)=_;rw[ei,<-Int.natCast_add];unfold iB;rw[(all (n+(n-i)%n) (by lia)).2.1];exact gR (eM (by lia))
   ·refine⟨_,h2,aU (by rw[kK,mV];lia),eU hi ⟨ay,aZ nq Y,?_⟩⟩;rw[aE,List.range_succ,kO];rfl
  ·rintro U⟨_,Y,h2⟩;exact⟨q,rfl,Y,by simpa using h2⟩
 rintro zU B L U⟨lq,rfl,Y,hq⟩;have a0:=s1.trans Y;subst B;refine⟨_,rfl,G,_,_,_,rfl,rfl,SqL.of (a0 _ _ hc),rfl,_,rfl,rfl,c1,_,rfl,λt1 b1 p1 a4 bp cq cl=>?_⟩;obtain⟨H3,zq,s3,h3⟩:=uG (o:=.tup [.int t1,.int b1]) cl;rw[zq];have be:=a0.trans s3;refine⟨_,rfl,G,_,_,_,rfl,rfl,SqL.of (be _ _ hc),rfl,c2,false,rfl,λt2 Z p2 J _ cf bu=>?_⟩;obtain⟨H4,zq,s4,h4⟩:=uG (o:=.tup [.int t2,.int Z]) bu;rw[zq];refine⟨_,rfl,p2,_,_,_,rfl,rfl,SqT.of h4,rfl,_,rfl,p2,_,_,_,rfl,rfl,SqT.of h4,rfl,zL2,λp3 ca=>?_⟩;obtain⟨H5,zq,s5,h5⟩:=uG (o:=.tup [.int Z,.int t2]) ca;rw[zq];have R:=be.trans (s4.trans s5);have b6:=(s4.trans s5) _ _ h3;have al:=((Y.trans s3).trans (s4.trans s5)) _ _ a2;have cd:=(s3.trans (s4.trans s5)) _ _ hq;have az:=SqL.of (K:=K) (R _ _ hc);have cn:=SqL.of (K:=K) (R _ _ ai);have ba:=hR.mono R;obtain⟨v0,v1⟩:=bL (c1/225) n1;obtain⟨w0,w1⟩:=bL (c2/225) n1;obtain⟨m1,cg⟩:∃m1:Nat,2+c1/225%((n:Int)-1)=((m1+1:Nat):Int):=⟨(1+c1/225%((n:Int)-1)).toNat,by lia⟩;obtain⟨m2,b4⟩:∃m2:Nat,2+c2/225%((n:Int)-1)=((m2+1:Nat):Int):=⟨(1+c2/225%((n:Int)-1)).toNat,by lia⟩;obtain⟨X,aq⟩:∃X:Nat,c0/8%n=(X:Int):=⟨(c0/8%n).toNat,by lia⟩;have S2:Sm 2:=Sm.of_le (n:=10) (by decide) (by decide);have Sn:Sm n:=Sm.of_le (n:=10) (by show(n:Int).natAbs<=1024;lia) (by decide);have Sw:Sm m:=Sm.of_le (n:=10) (by show(m:Int).natAbs<=1024;lia) (by decide)
 have x1:atI (N.map V.str) (2*(n:Int)+2*m)=some (.str (N.getD (2*n+2*m) "")):=by
  rw[show 2*(n:Int)+2*m=((2*n+2*m:Nat):Int) by lia];exact gR (eM (by lia))
 have x2:atI (N.map V.str) (2*(n:Int)+2*m+1)=some (.str (N.getD (2*n+2*m+1) "")):=by
  rw[show 2*(n:Int)+2*m+1=((2*n+2*m+1:Nat):Int) by lia];exact gR (eM (by lia))
 refine⟨_,rfl,G,_,_,_,rfl,rfl,az,rfl,_,_,rfl,rfl,⟨by decide,by decide⟩,_,rfl,_,_,rfl,rfl,_,_,rfl,rfl,n1,_,_,rfl,rfl,?_⟩;refine⟨_,rfl,_,rfl,_,rfl,_,rfl,_,rfl,_,rfl,_,_,rfl,rfl,⟨S2,Sn⟩,_,rfl,_,_,rfl,rfl,⟨S2,Sw⟩,_,_,rfl,rfl,ll,_,_,_,rfl,rfl,cn,x1,_,rfl,_,rfl,G,_,_,_,rfl,rfl,az,rfl,_,_,rfl,rfl,zI3,?_⟩;refine⟨d,la,p1,rs,O,n,X,m1,c0/8%n,c1%3,_,(t1,b1),by rw[<-cg];rfl,ba,nd,by lia,al,λj hj=>⟨(all j (by lia)).1,(all j (by lia)).2.2⟩,n2,n5,by lia,by lia,by rw[Int.emod_emod_of_dvd _ (Int.dvd_refl _)];exact aq,λz=>by obtain⟨r,S,e⟩:=kQ.mp z;exact(fresh r S).1 e,b6,a4,λlh H6 ci k6 aj ao=>?_⟩;obtain⟨cv,bj,_⟩:=id ba;have kl:∀{b:Addr}{xs:List V},H5 b=some (.lst xs)->H6 b=some (.lst xs):=λe=>k6 _ _ (bD e bj (by intro z;cases z)) e;have kt:∀{b:Addr}{xs:List V},H5 b=some (.tup xs)->H6 b=some (.tup xs):=λe=>k6 _ _ (bD e bj (by intro z;cases z)) e;have am:=kl al;have bx:=kl cd;have ad:=kl (R _ _ hc);have ax:=SqL.of (K:=K) ad;have ac:=kl (R _ _ ai);have a6:=SqL.of (K:=K) ac;have ce:=kt h5;have K6:KpD d H0 H6:=(KpD.of R).trans k6;have aw:(dD O n X m1 (N.getD (2*n+2*m) "") (t1,b1) (c1%3)).nm=N.getD (2*n+2*m) "":=rfl;generalize hW:dD O n X m1 (N.getD (2*n+2*m) "") (t1,b1) (c1%3)=W1 at aj ao aw;obtain⟨b0,bb⟩:∃b0:Nat,(0-c0/8%(n:Int)-szI n c0)%n=(b0:Int):=⟨((0-c0/8%(n:Int)-szI n c0)%n).toNat,by have:=Int.emod_nonneg (0-c0/8%(n:Int)-szI n c0) (show(n:Int)≠0 by lia);lia⟩
 have nn:N.getD (2*n+2*m) ""≠N.getD (2*n+2*m+1) "":=λe=>by
  have g1:=eM (xs:=N) (i:=2*n+2*m) (by lia);have g2:=eM (xs:=N) (i:=2*n+2*m+1) (by lia)
  have:2*n+2*m=2*n+2*m+1:=(mo (kL.mp g1).1 cp).mp (by rw[g1,g2,e])
  lia
 have b5:((rs++[W1]).map (·.nm)).Nodup:=by
  rw[kO,lV];refine⟨nd,by simp,λx hx y hy e=>?_⟩;have ey:y=W1.nm:=by simpa using hy
  obtain⟨r,S,er⟩:=kQ.mp hx;exact(fresh r S).1 (by rw[er,e,ey,aw])
 refine⟨_,rfl,G,_,_,_,rfl,rfl,ax,rfl,_,_,rfl,rfl,⟨by decide,by decide⟩,_,rfl,_,_,rfl,rfl,_,_,rfl,rfl,n1,_,_,rfl,rfl,?_⟩;refine⟨_,rfl,_,rfl,_,_,rfl,rfl,⟨S2,Sn⟩,_,rfl,_,_,rfl,rfl,⟨S2,Sw⟩,_,_,rfl,rfl,_,_,rfl,rfl,ll,_,_,_,rfl,rfl,a6,x2,?_⟩;refine⟨_,rfl,_,rfl,_,rfl,_,_,rfl,rfl,_,rfl,_,_,rfl,rfl,_,rfl,_,rfl,_,rfl,_,rfl,G,_,_,_,rfl,rfl,ax,rfl,_,_,rfl,rfl,zI3,?_⟩;refine⟨d,lq,p3,rs++[W1],iB O n,n,b0,m2,0-c0/8%(n:Int)-szI n c0,c2%3,_,(Z,t2),by rw[<-b4];rfl,aj,b5,by rw[k5];show rs.length+1<=20;lia,bx,λj hj=>?_,n2,n5,by lia,by lia,bb,λz=>?_,ce,⟨J.b0,J.b1,J.t0,J.t1⟩,λlt H7 bq k7 ap b7=>?_⟩
 ·have ar:(n-j)%n<n:=ma _ (by lia)
  have:=all (n+(n-j)%n) (by lia)
  exact⟨lf _ this.1,this.2.2⟩
 ·obtain⟨r,S,e⟩:=kQ.mp z;rcases kU.mp S with S|S
  ·exact(fresh r S).2 e
  ·have:r=W1:=by simpa using S
   rw[this,aw]at e;exact nn e
 obtain⟨cw,a3,_⟩:=id aj;have bf:H6 d≠none:=by rw[a3];intro z;cases z
 have ag:∀{b:Addr}{xs:List V},H6 b=some (.lst xs)->H7 b=some (.lst xs):=λe=>k7 _ _ (bD e a3 (by intro z;cases z)) e;have bo:=ag am;have ak:=ag ad;have cu:=SqL.of (K:=K) ak;have a5:=ag ao;have K7:KpD d H0 H7:=K6.trans k7;clear ao aj am ax ad a6 ac kl kt ag k6 k7;obtain⟨sz,a7⟩:∃sz:Nat,szI n c0=(sz:Int):=⟨(szI n c0).toNat,by lia⟩;refine dP (λL F=>yE3 λq ab ae=>L=[some (.ref d),some (.ref ll),some (.int n),some (.int m),some (.ref G),some (.int (c0%8)),some (.int (c0/8%n)),some (.int (szI n c0)),some (.ref la),some (.ref lq),some (.ref p1),some (.ref p3),ab,some (.ref lh),ae,some (.ref lt),some (.ref q),none]×' H7 q=none×' Same H7 F×' F q=some (.lst ((bE O n X sz).map λr=>V.str r.nm))) ?_ ?_
 ·refine⟨_,rfl,_,rfl,by lia,by lia,λq nq=>?_⟩;refine eF (λi U=>i<=sz×' Same H7 U×' U q=some (.lst ((bE O n X i).map λr=>V.str r.nm))) ⟨kY _,aS nq,aE⟩ ?_ ?_
  ·rintro i U hi⟨_,Y,h2⟩;have ay:i<sz:=by lia
   refine g1 ⟨⟨[_],rfl,rfl⟩,yes ?_⟩;have a9:=SqL.of (K:=K) (Y _ _ bo);have ar:(X+i)%n<n:=ma _ (by lia);refine⟨_,rfl,_,rfl,_,rfl,_,_,rfl,rfl,_,rfl,_,_,rfl,rfl,n0,la,_,_,.str (O ((X+i)%n)).nm,rfl,rfl,a9,?_,?_⟩
   ·show atI ((List.range n).map λj=>V.str (O j).nm) ((c0/8%(n:Int)+(0+(i:Int)))%n)=_;rw[Int.zero_add,idx_mod (b:=X) (by lia) (by rw[aq];exact Int.emod_eq_of_lt (by lia) (by lia))];exact atI_nat (by rw[kP,List.getElem?_range ar];rfl)
   ·refine⟨_,h2,aU (by rw[kK];unfold bE;rw[kK,mV];lia),eU hi ⟨ay,aZ nq Y,?_⟩⟩;rw[aE,j4,kO];rfl
  ·rintro U⟨_,Y,h2⟩;refine⟨q,_,_,rfl,nq,Y,?_⟩;rw[show(szI n c0).toNat=sz by lia]at h2;exact h2
 rintro zU B L H8⟨lp,ab,ae,rfl,bv,s8,cm⟩;have fr:∀{Ha:Hp}{p:Addr},Same H8 Ha->Ha p=none->H0 p=none:=λ{Ha p}s e=>KpD.fresh ((K7.trans (KpD.of s8)).trans (KpD.of s)) (by obtain⟨kv,hd,_⟩:=ap.mono (s8.trans s);rw[hd];intro z;cases z) e;have co:=s8 _ _ a5;have bw:=s8 _ _ b7;have cj:=s8 _ _ ak;have b3:=ap.mono s8;have K8:=K7.trans (KpD.of s8);obtain⟨ch,br⟩:=bL c0 (show(0:Int)<8 by decide);subst B;refine dP (λL F=>yE1 λl=>L=[some (.ref d),some (.ref ll),some (.int n),some (.int m),some (.ref G),some (.int (c0%8)),some (.int (c0/8%n)),some (.int (szI n c0)),some (.ref la),some (.ref lq),some (.ref p1),some (.ref p3),ab,some (.ref l),ae,some (.ref lt),some (.ref lp),none]×' H0 l=none×' Same H8 F×' F l=some (.lst ((if hasH (c0%8) then bE O n X m1++[W1]else[]).map λr=>V.str r.nm))) ?_ ?_
 ·refine⟨_,rfl,zL5,λx nx=>?_⟩;obtain⟨H9,zq,sx,hx⟩:=uG (o:=.lst [.int 0,.int 2,.int 3,.int 6,.int 7]) nx;rw[zq];refine⟨x,_,rfl,.inl (SqL.of hx),rfl,rfl,?_⟩;have e2:(if true=true then !inV (V.int (c0%8)) [.int 0,.int 2,.int 3,.int 6,.int 7]else inV (V.int (c0%8)) [.int 0,.int 2,.int 3,.int 6,.int 7])=!decide (hasH (c0%8)):=by rw[inH ch br];rfl
  rw[e2];by_cases hk:hasH (c0%8)
  ·rw[lD hk];exact⟨_,rfl,iteF ⟨lh,rfl,R.free ci,sx,by rw[if_pos hk];exact sx _ _ co⟩⟩
  ·rw[lz hk];exact⟨_,rfl,iteT ⟨zL0,λl nl=>⟨l,rfl,fr sx nl,sx.trans (aS nl),by rw[if_neg hk];exact aE⟩⟩⟩
 rintro zU B L H9⟨ah,rfl,bn,s9,cr⟩;subst B;refine dP (λL F=>yE1 λl=>L=[some (.ref d),some (.ref ll),some (.int n),some (.int m),some (.ref G),some (.int (c0%8)),some (.int (c0/8%n)),some (.int (szI n c0)),some (.ref la),some (.ref lq),some (.ref p1),some (.ref p3),ab,some (.ref ah),ae,some (.ref l),some (.ref lp),none]×' H0 l=none×' Same H9 F×' F l=some (.lst ((if c0%8<4 then[]else bE (iB O n) n b0 m2++[dD (iB O n) n b0 m2 (N.getD (2*n+2*m+1) "") (Z,t2) (c2%3)]).map λr=>V.str r.nm))) ?_ ?_
 ·refine⟨_,rfl,_,_,rfl,rfl,_,rfl,?_⟩;by_cases hk:c0%8<4
  ·rw[lD hk];exact iteT ⟨zL0,λl nl=>⟨l,rfl,fr s9 nl,aS nl,by rw[if_pos hk];exact aE⟩⟩
  ·rw[lz hk];exact iteF ⟨lt,rfl,K6.fresh bf bq,λb o e=>e,by rw[if_neg hk];exact s9 _ _ bw⟩
 rintro zU B L bc⟨av,rfl,bh,bl,a1⟩;have af:=SqL.of (K:=K) ((s9.trans bl) _ _ cj);have c7:(10:Int)^(12:Int).toNat=10^12:=rfl;subst B;generalize M:jP _ _=k9
 revert k9
 refine iw λk9 M=>?_;refine⟨_,rfl,G,_,_,_,rfl,rfl,af,rfl,_,_,rfl,rfl,zI20,_,_,rfl,rfl,_,rfl,G,_,_,_,rfl,rfl,af,rfl,_,_,rfl,rfl,⟨by decide,by decide⟩,_,_,rfl,rfl,zI9,_,_,rfl,rfl,zL2,λg0 ck=>?_⟩;obtain⟨bt,zq,au,bg⟩:=uG (o:=.tup [.int (1+D%20),.int (1+D/20%9)]) ck;rw[zq];have aa:=au.seq af;obtain⟨q1,q2⟩:=bL D (show(0:Int)<20 by decide);obtain⟨q3,q4⟩:=bL (D/20) (show(0:Int)<9 by decide);obtain⟨q5,q6⟩:=bL D (show(0:Int)<10^12 by decide);obtain⟨q7,q8⟩:=bL (D/7) (show(0:Int)<1000 by decide);have an:(2:Int)^40=1099511627776:=by decide
 have a8:(2:Int)^10=1024:=by decide
 subst M;refine dP (λL F=>yE2 λg c=>L=[some (.ref d),some (.ref ll),some (.int n),some (.int m),some (.ref G),some (.int (c0%8)),some (.int (c0/8%n)),some (.int (szI n c0)),some (.ref la),some (.ref lq),some (.ref p1),some (.ref p3),ab,some (.ref ah),ae,some (.ref av),some (.ref lp),some (.ref g)]×' Same bt F×' F g=some (.tup [.int c.1,.int c.2])×' CB c) ?_ ?_
 ·refine⟨_,rfl,G,_,_,_,rfl,rfl,aa,rfl,_,_,rfl,rfl,zI7,rfl,_,rfl,ifV (λe=>?_) (λe=>?_)⟩
  ·refine⟨_,rfl,G,_,_,_,rfl,rfl,aa,rfl,_,_,rfl,rfl,⟨by decide,by decide,by decide⟩,_,_,rfl,rfl,by show(0:Int)<10^12;decide,_,_,rfl,rfl,_,rfl,G,_,_,_,rfl,rfl,aa,rfl,_,_,rfl,rfl,⟨by decide,by decide⟩,_,_,rfl,rfl,zI1000,_,_,rfl,rfl,zL2,λg ng=>?_⟩;exact⟨g,(1+D%10^12,1+D/7%1000),rfl,aS ng,aE,⟨by show 1<=1+D%10^12;lia,by show 1+D%10^12<=_;rw[an];lia,by show 1<=1+D/7%1000;lia,by show 1+D/7%1000<=_;rw[a8];lia⟩⟩
  ·exact⟨g0,(1+D%20,1+D/20%9),rfl,λb o e=>e,bg,⟨by show 1<=1+D%20;lia,by show 1+D%20<=_;rw[an];lia,by show 1<=1+D/20%9;lia,by show 1+D/20%9<=_;rw[a8];lia⟩⟩
 rintro zU B L cz⟨g,c,rfl,bm,hg,cb⟩;subst B;refine⟨_,rfl,_,rfl,_,rfl,_,rfl,zL4,λt nt=>?_⟩;have sA:=bm.trans (aS (o:=.tup [.ref ah,.ref lp,.ref av,.ref g]) nt);have sB:=au.trans sA;have sC:=bl.trans sB;have sD:=s9.trans sC;refine k t ah lp av g _ W1 _ _ _ _ c bn (K7.fresh (by obtain⟨kv,hd,_⟩:=id ap;rw[hd];intro z;cases z) bv) bh (K8.trans (KpD.of sD)) (b3.mono sD) aE (sC _ _ cr) (sD _ _ cm) (sB _ _ a1) (aS nt _ _ hg) ⟨X,sz,m1,m2,b0,(t1,b1),(Z,t2),c1%3,c2%3,by lia,a7,by lia,by lia,by lia,by lia,by lia,by rw[<-aq,<-a7];exact bb,a4,λe=>bp (by rw[e];rfl),λe=>cq (by rw[dec_int];exact beq_false_of_ne e),⟨J.b0,J.b1,J.t0,J.t1⟩,cf rfl,hW.symm,rfl,rfl,rfl,rfl,cb⟩
theorem gp_ring(as:Nat->WR)(n b m:Nat)(nm:Str)(g:Int×Int)(kd:Int):gp (bE as n b m++[dD as n b m nm g kd])=((gp (bE as n b m)).1*(g.1*(gp (bE as n b m)).2),(gp (bE as n b m)).2*(g.2*(gp (bE as n b m)).1)):=jv _ _
theorem ring_cmp{p:Int×Int}{g:Int×Int}(p1:1<=p.1)(p2:1<=p.2):(p.1*(g.1*p.2)=p.2*(g.2*p.1)↔g.1=g.2)/\(p.1*(g.1*p.2)<p.2*(g.2*p.1)↔g.1<g.2):=by
 have a:p.1*(g.1*p.2)=(p.1*p.2)*g.1:=by rw[mf g.1,nj]
 have b:p.2*(g.2*p.1)=(p.1*p.2)*g.2:=by rw[mf g.2,<-nj,mf p.2]
 have q:0<p.1*p.2:=nC (by lia) (by lia);rw[a,b];exact⟨⟨λh=>Int.eq_of_mul_eq_mul_left (by lia) h,λh=>by rw[h]⟩,⟨λh=>Int.lt_of_mul_lt_mul_left h (by lia),λh=>Int.mul_lt_mul_of_pos_left h q⟩⟩
structure Rnd(P:Nat->Str)(n:Nat)(ws:Nat->WR)(m:Nat):Prop where
 inj:∀i j,i<n->j<n->P i=P j->i=j
 st:∀k,k<m->(ws k).st=P k
 go:∀k,k<m->(ws k).go=P (k+1)
theorem mod2(h:x<2*n):x%n=if x<n then x else x-n:=by
 split
 ·exact Nat.mod_eq_of_lt ‹_›
 ·rw[Nat.mod_eq_sub_mod (by lia),Nat.mod_eq_of_lt (by lia)]
theorem gP{sp:List Str}(nd:sp.Nodup)(hi:i<sp.length)(hj:j<sp.length)(e:sp.getD i ""=sp.getD j ""):i=j:=by
 have g1:=eM (xs:=sp) (i:=i) hi;have a:=eM (xs:=sp) (i:=j) hj;exact(mo hi nd).mp (by rw[g1,a,e])
structure BaseW(sp:List Str)(n:Nat)(as:Nat->WR):Prop where
 nd:sp.Nodup
 len:sp.length=n
 st:∀j,j<2*n->(as j).st=sp.getD (j%n) ""
 go:∀j,j<2*n->(as j).go=sp.getD (goI n j) ""
noncomputable def pA(sp:List Str)(n st k:Nat):Str:=sp.getD ((st+k)%n) ""
noncomputable def pB(sp:List Str)(n b k:Nat):Str:=sp.getD ((n-(b+k)%n)%n) ""
theorem BaseW.ahead{n st m:Nat}(h:BaseW sp n as)(n2:2<=n)(hs:st<n)(mn:m<n):Rnd (pA sp n st) n (λk=>as ((st+k)%n)) m:=by
 have l:=h.len;refine⟨λi j c b e=>?_,λk a=>?_,λk a=>?_⟩
 ·have:=gP h.nd (by rw[l];exact ma _ (by lia)) (by rw[l];exact ma _ (by lia)) e
  rw[mod2 (by lia),mod2 (x:=st+j) (by lia)]at this
  split at this<;>split at this<;>lia
 ·have q:(st+k)%n<n:=ma _ (by lia);rw[h.st _ (by lia),Nat.mod_mod];rfl
 ·have q:(st+k)%n<n:=ma _ (by lia);rw[h.go _ (by lia)];show _=sp.getD ((st+(k+1))%n) ""
  congr 1
  unfold goI;rw[if_pos q,Nat.mod_add_mod];rfl
theorem neg_mod(hy:y<n):(n-y)%n=if y=0 then 0 else n-y:=by
 split
 ·rename_i h;rw[h,Nat.sub_zero,Nat.mod_self]
 ·exact Nat.mod_eq_of_lt (by lia)
theorem prev_mod(hy:y<n)(n2:2<=n):(n+(n-y)%n-1)%n=(n-(y+1)%n)%n:=by
 by_cases c:y=0
 ·subst c;rw[Nat.sub_zero,Nat.mod_self,Nat.add_zero,Nat.zero_add,Nat.mod_eq_of_lt (show 1<n by lia)]
 ·rw[Nat.mod_eq_of_lt (show n-y<n by lia)];by_cases d:y+1=n
  ·rw[d,Nat.mod_self,Nat.sub_zero,show n+(n-y)-1=n by lia]
  ·rw[Nat.mod_eq_of_lt (show y+1<n by lia),show n+(n-y)-1=n+(n-(y+1))by lia,Nat.add_mod_left]
theorem sum_inj{n b i j:Nat}(hb:b<n)(hi:i<n)(hj:j<n)(e:(b+i)%n=(b+j)%n):i=j:=by
 rw[mod2 (by lia),mod2 (x:=b+j) (by lia)]at e
 split at e<;>split at e<;>lia
theorem BaseW.behind(h:BaseW sp n as)(n2:2<=n)(hs:b<n)(mn:m<n):Rnd (pB sp n b) n (λk=>iB as n ((b+k)%n)) m:=by
 have l:=h.len;refine⟨λi j c a e=>?_,λk r=>?_,λk r=>?_⟩
 ·have e:=gP h.nd (by rw[l];exact ma _ (by lia)) (by rw[l];exact ma _ (by lia)) e;have o:(b+i)%n<n:=ma _ (by lia);have p:(b+j)%n<n:=ma _ (by lia);refine sum_inj hs c a ?_;rw[neg_mod o,neg_mod p]at e;clear c a hs mn n2;generalize(b+i)%n=x at o e⊢;generalize(b+j)%n=y at p e⊢
  split at e<;>split at e<;>lia
 ·have q:(n-(b+k)%n)%n<n:=ma _ (by lia);show(as (n+(n-(b+k)%n)%n)).st=_;rw[h.st _ (by lia),Nat.add_mod_left,Nat.mod_mod];rfl
 ·have q:(n-(b+k)%n)%n<n:=ma _ (by lia);show(as (n+(n-(b+k)%n)%n)).go=_;rw[h.go _ (by lia)];show _=sp.getD ((n-(b+(k+1))%n)%n) ""
  congr 1
  unfold goI;rw[if_neg (by lia),<-Nat.add_assoc,<-Nat.mod_add_mod (b+k) n 1];exact prev_mod (ma _ (by lia)) n2
theorem Rnd.nms{P:Nat->Str}(h:Rnd P n ws m)(mn:m<n)(u:∀i j,i<m->j<m->(ws i).nm=(ws j).nm->ws i=ws j):(((List.range m).map ws).map (·.nm)).Nodup:=by
 rw[lY];refine List.pairwise_map.mpr (List.Pairwise.imp_of_mem (λ{i j}b a ne e=>ne ?_) List.nodup_range);have b:=nE.mp b;have a:=nE.mp a;have e:=u i j b a e;exact h.inj i j (by lia) (by lia) (by rw[<-h.st i b,<-h.st j a,e])
noncomputable def DV(_:WR):Prop:=True
theorem dv_base(_:G5 r.t r.b):DV r:=trivial
theorem gp99(h:∀r∈ws,G5 r.t r.b):(gp ws).1.natAbs<=99^ws.length/\(gp ws).2.natAbs<=99^ws.length:=by
 revert h
 refine cZ (P:=λws=>(∀r∈ws,G5 r.t r.b)->(gp ws).1.natAbs<=99^ws.length/\(gp ws).2.natAbs<=99^ws.length) (λ_=>⟨kM _,kM _⟩) (λc u e h=>?_) ws;obtain⟨i,l⟩:=e λr j=>h r (lf _ j);have a:=h u (by simp);rw[jv,k5,lP,Nat.pow_succ];refine⟨?_,?_⟩
 ·show((gp c).1*u.t).natAbs<=_;rw[lT];exact lU i (by have:=a.t0;have:=a.t1;lia)
 ·show((gp c).2*u.b).natAbs<=_;rw[lT];exact lU l (by have:=a.b0;have:=a.b1;lia)
structure Rng(sp:List Str)(P:Nat->Str)(n b:Nat)(bs:Nat->WR)(nm:Str):Prop where
 rnd:∀m,m<n->Rnd P n (λk=>bs ((b+k)%n)) m
 gs:∀j,j<n->G5 (bs j).t (bs j).b
 u:∀i j,i<n->j<n->(bs i).nm=(bs j).nm->bs i=bs j
 nn:∀j,j<n->(bs j).nm≠nm
 ins:∀k,P k∈sp
 n2:2<=n
 n5:n<=4
section
variable{sp:List Str}{Pl:Nat->Str}{n b m:Nat}{bs:Nat->WR}{nm:Str}
theorem Rng.mem(h:Rng sp Pl n b bs nm)(hr:r∈bE bs n b m):∃j,j<n/\r=bs j:=by
 obtain⟨k,_,rfl⟩:=kQ.mp hr;exact⟨_,ma _ (by have:=h.n2;lia),rfl⟩
theorem Rng.bnd(h:Rng sp Pl n b bs nm):((bE bs n b m).map (·.nm)).Nodup∨n<=m:=by
 by_cases mn:m<n
 ·exact .inl ((h.rnd m mn).nms mn λi j _ _ e=>h.u _ _ (ma _ (by lia)) (ma _ (by lia)) e)
 ·exact .inr (by lia)
theorem Rng.small(h:Rng sp Pl n b bs nm)(hr:r∈bE bs n b m):1<=r.t/\r.t<=2^7/\1<=r.b/\r.b<=2^7:=by
 obtain⟨j,a,rfl⟩:=h.mem hr;exact gs200 (h.gs j a)
theorem fK(bs:Nat->WR)(n b m:Nat):(bE bs n b m).length=m:=by unfold bE;rw[kK,mV]
theorem Rng.gpb(h:Rng sp Pl n b bs nm)(mn:m<n):GpB 7 m (gp (bE bs n b m)):=by
 have:=gp_bd (n:=7) (ws:=bE bs n b m) (λr a=>h.small a) m (by rw[fK];exact kM _)
 rw[List.take_of_length_le (by rw[fK];exact kM _)]at this;exact this
theorem Rng.wst(h:Rng sp Pl n b bs nm)(m1:1<=m)(mn:m<n)(x:Str)(g:Int×Int)(kd:Int):(dD bs n b m x g kd).st=Pl m:=by
 have:=(h.rnd m mn).go (m-1) (by lia)
 rw[show m-1+1=m by lia]at this;exact this
theorem Rng.wgo(h:Rng sp Pl n b bs nm)(m1:1<=m)(mn:m<n)(x:Str)(g:Int×Int)(kd:Int):(dD bs n b m x g kd).go=Pl 0:=(h.rnd m mn).st 0 (by lia)
theorem Rng.g5(h:Rng sp Pl n b bs nm)(hr:r∈bE bs n b m):G5 r.t r.b:=by
 obtain⟨j,a,rfl⟩:=h.mem hr;exact h.gs j a
theorem Rng.wbd(h:Rng sp Pl n b bs nm)(mn:m<n)(fb:FB g.1 g.2)(x:Str)(kd:Int):GB (dD bs n b m x g kd).t (dD bs n b m x g kd).b/\DV (dD bs n b m x g kd):=by
 have G:=h.gpb mn;have z:=h.n5;have p:=G.t0;have j:=G.b0;have o:=fb.t0;have e:=fb.b0;obtain⟨a,c⟩:=gp99 (ws:=bE bs n b m) λr l=>h.g5 l;rw[fK]at a c;have y:99^m<=99^3:=lF (by decide) (by omega)
 have up:∀{u v:Int},u<=2^20->1<=u->v.natAbs<=99^m->1<=v->u*v<=2^40:=λ{u v}q t w s=>by
  have i0:(99:Nat)^3=970299:=by decide
  have i:v<=970299:=by omega
  exact nN (Int.mul_le_mul q i (by omega) (by decide)) (by decide)
 refine⟨⟨?_,up fb.t1 o c j,?_,up fb.b1 e a p⟩,trivial⟩
 ·have:=nC (show 0<g.1 by omega) (show 0<(gp (bE bs n b m)).2 by omega)
  show 1<=g.1*(gp (bE bs n b m)).2;omega
 ·have:=nC (show 0<g.2 by omega) (show 0<(gp (bE bs n b m)).1 by omega)
  show 1<=g.2*(gp (bE bs n b m)).1;omega
structure Prq(ws:List WR):Prop where
 nd:(ws.map (·.nm)).Nodup
 len:ws.length<=4
 gb:∀r∈ws,GB r.t r.b
theorem Prq.nil:Prq []:=⟨mB,by decide,λr a=>by cases a⟩
theorem Rng.bas(h:Rng sp Pl n b bs nm)(mn:m<n):Prq (bE bs n b m):=by
 have l:=h.n5;refine⟨h.bnd.resolve_right (by lia),by rw[fK];lia,λr e=>?_⟩;obtain⟨i,j,c,a⟩:=h.small e;exact⟨i,nN j (by decide),c,nN a (by decide)⟩
theorem Rng.ring(h:Rng sp Pl n b bs nm)(mn:m<n)(fb:FB g.1 g.2)(kd:Int):Prq (bE bs n b m++[dD bs n b m nm g kd]):=by
 have o:=h.n5;have B:=h.bas mn;refine⟨?_,by rw[k5,fK,lP];lia,λr a=>?_⟩
 ·rw[kO];refine lV.mpr ⟨B.nd,by simp,λx l y c e=>?_⟩;obtain⟨r,a,rfl⟩:=kQ.mp l;obtain⟨j,i,rfl⟩:=h.mem a
  have:y=(dD bs n b m nm g kd).nm:=by simpa using c
  exact h.nn j i (e.trans this)
 ·rcases kU.mp a with z|z
  ·exact B.gb r z
  ·cases kS.mp z;exact(h.wbd mn fb nm kd).1
theorem Rng.good(h:Rng sp Pl n b bs nm)(m1:1<=m)(mn:m<n)(fb:FB g.1 g.2)(kd:Int):RGood sp (dD bs n b m nm g kd):=by
 refine⟨(h.wbd mn fb nm kd).1,?_,?_,?_⟩
 ·rw[h.wst m1 mn,h.wgo m1 mn];intro e
  have:=(h.rnd m mn).inj m 0 mn (by lia) e
  lia
 ·rw[h.wst m1 mn];exact h.ins m
 ·rw[h.wgo m1 mn];exact h.ins 0
theorem Rng.cmp(h:Rng sp Pl n b bs nm)(mn:m<n)(g:Int×Int)(kd:Int):((gp (bE bs n b m++[dD bs n b m nm g kd])).1=(gp (bE bs n b m++[dD bs n b m nm g kd])).2↔g.1=g.2)/\((gp (bE bs n b m++[dD bs n b m nm g kd])).1<(gp (bE bs n b m++[dD bs n b m nm g kd])).2↔g.1<g.2):=by
 rw[gp_ring];exact ring_cmp (h.gpb mn).t0 (h.gpb mn).b0
end
structure BsX(sp lb:List Str)(n:Nat)(as:Nat->WR):Prop where
 bw:BaseW sp n as
 nm:∀j,j<2*n->(as j).nm=lb.getD j ""
 gs:∀j,j<2*n->G5 (as j).t (as j).b
 ll:lb.length=2*n+4
 nl:lb.Nodup
 n2:2<=n
 n4:n<=4
section
variable{sp lb:List Str}{n:Nat}{as:Nat->WR}
theorem BsX.u(h:BsX sp lb n as)(hi:i<2*n)(hj:j<2*n)(e:(as i).nm=(as j).nm):as i=as j:=by
 have l:=h.ll;rw[h.nm i hi,h.nm j hj]at e;rw[gP h.nl (by lia) (by lia) e]
theorem BsX.ne(h:BsX sp lb n as)(hi:i<2*n)(hj:2*n<=j)(hj2:j<2*n+4):(as i).nm≠lb.getD j "":=λe=>by
 have l:=h.ll;rw[h.nm i hi]at e
 have:=gP h.nl (by lia) (by lia) e
 lia
theorem BsX.ins(h:BsX sp lb n as)(hk:k<n):sp.getD k ""∈sp:=kN (eM (by rw[h.bw.len];exact hk))
theorem BsX.one(h:BsX sp lb n as)(hs:st<n)(hj:2*n<=j)(hj2:j<2*n+4):Rng sp (pA sp n st) n st as (lb.getD j ""):=by
 have a:=h.n2;exact⟨λm c=>h.bw.ahead a hs c,λj hj=>h.gs j (by lia),λi j b hj=>h.u (by lia) (by lia),λi b=>h.ne (by lia) hj hj2,λk=>h.ins (ma _ (by lia)),a,h.n4⟩
theorem BsX.two(h:BsX sp lb n as)(hs:b<n)(hj:2*n<=j)(hj2:j<2*n+4):Rng sp (pB sp n b) n b (iB as n) (lb.getD j ""):=by
 have a:=h.n2;have q:∀i,n+(n-i)%n<2*n:=λi=>by have:=ma (n-i) (show n>0 by lia);lia
 exact⟨λm c=>h.bw.behind a hs c,λj _=>h.gs _ (q j),λi j _ _=>h.u (q i) (q j),λi _=>h.ne (q i) hj hj2,λk=>h.ins (ma _ (by lia)),a,h.n4⟩
theorem BsX.good(h:BsX sp lb n as)(jl:j<2*n):RGood sp (as j):=by
 have o:=h.n2;obtain⟨m,i,l,c⟩:=gs200 (h.gs j jl);have p:(2:Int)^7<=2^40:=by decide
 have a:j%n<n:=ma _ (by lia);have b:goI n j<n:=ma _ (by lia);refine⟨⟨m,nN i p,l,nN c p⟩,?_,?_,?_⟩
 ·rw[h.bw.st j jl,h.bw.go j jl];intro e
  have:=gP h.bw.nd (by rw[h.bw.len];exact a) (by rw[h.bw.len];exact b) e
  unfold goI at this;rw[mod2 jl]at this
  split at this
  ·rw[mod2 (by lia)]at this
   split at this<;>lia
  ·rw[mod2 (by lia)]at this
   split at this<;>lia
 ·rw[h.bw.st j jl];exact h.ins a
 ·rw[h.bw.go j jl];exact h.ins b
end
structure Rd(p:Str)(l:List WD):Prop where
 pt:PthW p l p
 nd:(l.map (·.st)).Nodup
structure Geo(hd pa ta:List WD):Prop where
 ne:¬(hd=[]/\pa=[]/\ta=[])
 wy:∃p q,PthW p pa q/\(p::pa.map (·.go)).Nodup/\(hd≠[]->Rd p hd)/\(ta≠[]->Rd q ta)
theorem Rnd.pth{P:Nat->Str}:∀{m:Nat},Rnd P n ws m->PthW (P 0) (((List.range m).map ws).map WR.d) (P m)
 |0,_=>rfl
 |m+1,h=>by
  have a:=Rnd.pth (m:=m) ⟨h.inj,λk b=>h.st k (by omega),λk b=>h.go k (by omega)⟩;have s:=a.snoc (x:=(ws m).d) (by rw[WR.d_st];exact h.st m (by omega));rw[WR.d_go,h.go m (by omega)]at s;rw[List.range_succ,kO,kO];exact s
theorem Rnd.pnd{P:Nat->Str}(h:Rnd P n ws m)(kn:k<n):((List.range (k+1)).map P).Nodup:=by
 rw[List.nodup_iff_pairwise_ne,List.pairwise_map];refine(List.nodup_range (n:=k+1)).imp_of_mem ?_;intro i j b a ne e;have c:=nE.mp b;have l:=nE.mp a;exact ne (h.inj i j (by lia) (by lia) e)
theorem Rnd.gon{P:Nat->Str}(h:Rnd P n ws m)(mn:m<n):(P 0::(((List.range m).map ws).map WR.d).map (·.go)).Nodup:=by
 have e:P 0::(((List.range m).map ws).map WR.d).map (·.go)=(List.range (m+1)).map P:=by
  rw[List.range_succ_eq_map,md,lY,lY,lY];refine lW _ (List.map_congr_left λk a=>?_);show(ws k).d.go=P (k+1);rw[WR.d_go];exact h.go k (nE.mp a)
 rw[e];exact h.pnd mn
theorem Rnd.rd{P:Nat->Str}(h:Rnd P n ws m)(mn:m<n)(hs:W.st=P m)(hg:W.go=P 0):Rd (P 0) (((List.range m).map ws++[W]).map WR.d):=by
 refine⟨?_,?_⟩
 ·have s:=h.pth.snoc (x:=W.d) (by rw[WR.d_st];exact hs);rw[WR.d_go,hg]at s;rw[kO];exact s
 ·have e:(((List.range m).map ws++[W]).map WR.d).map (·.st)=(List.range (m+1)).map P:=by
   rw[List.range_succ,kO,kO,kO,lY,lY];refine congr (lW _ (List.map_congr_left λk a=>?_)) ?_
   ·show(ws k).d.st=P k;rw[WR.d_st];exact h.st k (nE.mp a)
   ·show[W.d.st]=[P m];rw[WR.d_st,hs]
  rw[e];exact h.pnd mn
theorem b0_eq{n st sz b0:Nat}(hs:st<n)(hz:sz<n)(h:(0-(st:Int)-sz)%n=b0):(n-b0%n)%n=(st+sz)%n/\b0<n:=by
 have b:b0<n:=by have:=Int.emod_lt_of_pos (0-(st:Int)-sz) (show(0:Int)<n by lia);lia
 have q:(st+sz)%n<n:=ma _ (by lia)
 have a:b0=if(st+sz)%n=0 then 0 else n-(st+sz)%n:=by
  have e:(0-(st:Int)-sz)%n=(0-(((st+sz)%n:Nat):Int))%n:=by
   rw[mod2 (x:=st+sz) (by lia)]
   split
   ·congr 1
    lia
   ·rw[show(0-(st:Int)-sz)=(0-((st+sz-n:Nat):Int))-n by lia,Int.sub_emod_right]
  rw[e]at h;clear e;generalize(st+sz)%n=x at*
  split
  ·rename_i c;subst c
   have:((0:Int)-((0:Nat):Int))%n=0:=Int.zero_emod _
   lia
  ·rw[<-Int.add_emod_right,Int.emod_eq_of_lt (by lia) (by lia)]at h
   lia
 refine⟨?_,b⟩;rw[Nat.mod_eq_of_lt b,mod2 (x:=n-b0) (by lia)];generalize(st+sz)%n=x at*
 split at a<;>split<;>lia
theorem str_geo(B:BsX sp lb n as)(hw:wh<=1)(h:StrR as n (lb.getD (2*n+2*wh) "") (lb.getD (2*n+2*wh+1) "") c0 W1 W2 hd pa ta c):Geo (hd.map WR.d) (pa.map WR.d) (ta.map WR.d):=by
 obtain⟨s,sz,Q,N,G,g1,S,X,Z,p,w,a,r,e,o,b,A,R,H,O,I,P,rfl,rfl,m,j,i,cb⟩:=h;have U:=B.n2;obtain⟨J,F⟩:=b0_eq p a A;have t:=B.one p (show 2*n<=2*n+2*wh by lia) (by lia);have R2:=B.two F (show 2*n<=2*n+2*wh+1 by lia) (by lia)
 have K:pB sp n G 0=pA sp n s sz:=by
  show sp.getD ((n-(G+0)%n)%n) ""=sp.getD ((s+sz)%n) "";rw[Nat.add_zero,J]
 refine⟨λ⟨D,E,x⟩=>?_,pA sp n s 0,pA sp n s sz,?_,?_,λz=>?_,λz=>?_⟩
 ·have D:=List.map_eq_nil_iff.mp D;have E:=List.map_eq_nil_iff.mp E;have x:=List.map_eq_nil_iff.mp x
  have L:c0%8%2≠1:=λq=>by
   unfold szI at w;rw[if_pos q]at w;obtain⟨a1,Y⟩:=bL (c0/40) (show(0:Int)<(n:Int)-1 by lia);have l:=fK as n s sz;rw[<-j,E]at l
   have:sz=0:=l.symm
   lia
  have T:c0%8<4:=by
   rcases Int.lt_or_le (c0%8) 4 with q|q
   ·exact q
   ·rw[if_neg (by lia)]at i;exact absurd (i.symm.trans x) (by simp)
  have M:¬hasH (c0%8):=λq=>by
   rw[if_pos q]at m;exact absurd (m.symm.trans D) (by simp)
  unfold hasH at M
  lia
 ·rw[j];exact(t.rnd sz a).pth
 ·rw[j];exact(t.rnd sz a).gon a
 ·have z:hd≠[]:=λy=>z (by rw[y];rfl);rw[m]at z⊢
  split at z
  ·rename_i q;rw[if_pos q];exact(t.rnd Q e).rd e (t.wst r e _ _ _) (t.wgo r e _ _ _)
  ·exact absurd rfl z
 ·have z:ta≠[]:=λy=>z (by rw[y];rfl);rw[i]at z⊢
  split at z
  ·exact absurd rfl z
  ·rename_i q;rw[if_neg q,<-K];exact(R2.rnd N b).rd b (R2.wst o b _ _ _) (R2.wgo o b _ _ _)
structure SdO(rs hd pa ta:List WR)(c:Int×Int):Prop where
 ph:Prq hd
 pp:Prq pa
 pt:Prq ta
 ih:∀r∈hd,r∈rs
 ip:∀r∈pa,r∈rs
 it:∀r∈ta,r∈rs
 cb:CB c
 he:hd≠[]->(gp hd).1=(gp hd).2/\pa=[]/\ta=[]∨(gp hd).2<(gp hd).1
 te:ta≠[]->(gp ta).1<(gp ta).2
 hf:hd≠[]->∃u v,FB u v/\(gp hd).1*v=u*(gp hd).2
 tf:ta≠[]->∃u v,FB u v/\(gp ta).1*v=u*(gp ta).2
 lp:pa.length<=3
 ge:Geo (hd.map WR.d) (pa.map WR.d) (ta.map WR.d)
theorem SdO.mono(h:SdO rs hd pa ta c)(s:∀r∈rs,r∈rs'):SdO rs' hd pa ta c:=⟨h.ph,h.pp,h.pt,λr a=>s r (h.ih r a),λr a=>s r (h.ip r a),λr a=>s r (h.it r a),h.cb,h.he,h.te,h.hf,h.tf,h.lp,h.ge⟩
theorem str_pure(B:BsX sp lb n as)(hw:wh<=1)(h:StrR as n (lb.getD (2*n+2*wh) "") (lb.getD (2*n+2*wh+1) "") c0 W1 W2 hd pa ta c):(RGood sp W1/\DV W1/\W1.nm=lb.getD (2*n+2*wh) "")/\(RGood sp W2/\DV W2/\W2.nm=lb.getD (2*n+2*wh+1) "")/\∀rs:List WR,(∀j,j<2*n->as j∈rs)->W1∈rs->W2∈rs->SdO rs hd pa ta c:=by
 have ge:=str_geo B hw h;obtain⟨a,sz,e,U,N,g1,E,o,y,H,D,K,I,s,F,p,ab,t,G,L,i,M,rfl,rfl,x,m,l,cb⟩:=h;have n2:=B.n2
 have P:N<n:=by
  have:=Int.emod_lt_of_pos (0-(a:Int)-sz) (show(0:Int)<n by lia)
  lia
 have w:=B.one H (show 2*n<=2*n+2*wh by lia) (by lia);have R2:=B.two P (show 2*n<=2*n+2*wh+1 by lia) (by lia);have P1:=w.ring s t o;have P2:=R2.ring p i y;have J:=w.cmp s g1 o;have Z:=R2.cmp p E y;refine⟨⟨w.good I s t o,(w.wbd s t _ o).2,rfl⟩,⟨R2.good F p i y,(R2.wbd p i _ y).2,rfl⟩,λrs O i1 i2=>?_⟩;have Y:sz=0->bE as n a sz=[]:=λz=>by rw[z];rfl
 have aa:(c0%8%2=1/\1<=sz)∨(c0%8%2≠1/\sz=0):=by
  unfold szI at D;obtain⟨a1,a2⟩:=bL (c0/40) (show(0:Int)<(n:Int)-1 by lia)
  split at D<;>lia
 have X:hd≠[]->hd=bE as n a e++[dD as n a e (lb.getD (2*n+2*wh) "") g1 o]:=λz=>by
  rw[x]at z⊢
  split at z
  ·rename_i q;rw[if_pos q]
  ·exact absurd rfl z
 have R:ta≠[]->ta=bE (iB as n) n N U++[dD (iB as n) n N U (lb.getD (2*n+2*wh+1) "") E y]:=λz=>by
  rw[l]at z⊢
  split at z
  ·exact absurd rfl z
  ·rename_i q;rw[if_neg q]
 have T:∀A Q u v:Int,A*(u*Q)*v=u*(Q*(v*A)):=λA Q u v=>by
  rw[mf A,nj,nj,mf A v]
 refine⟨?_,by rw[m];exact w.bas K,?_,λr b=>?_,λr b=>?_,λr b=>?_,cb,λz=>?_,λz=>?_,λz=>⟨g1.1,g1.2,t,by rw[X z,gp_ring];exact T _ _ _ _⟩,λz=>⟨E.1,E.2,i,by rw[R z,gp_ring];exact T _ _ _ _⟩,by have:=B.n4;rw[m,fK];lia,ge⟩
 ·rw[x]
  split
  ·exact P1
  ·exact Prq.nil
 ·rw[l]
  split
  ·exact Prq.nil
  ·exact P2
 ·rw[x]at b
  split at b
  ·rcases kU.mp b with q|q
   ·obtain⟨j,S,rfl⟩:=w.mem q;exact O j (by lia)
   ·rw[kS.mp q];exact i1
  ·cases b
 ·rw[m]at b;obtain⟨j,S,rfl⟩:=w.mem b;exact O j (by lia)
 ·rw[l]at b
  split at b
  ·cases b
  ·rcases kU.mp b with q|q
   ·obtain⟨j,S,rfl⟩:=R2.mem q
    have:=ma (n-j) (show n>0 by lia)
    exact O (n+(n-j)%n) (by lia)
   ·rw[kS.mp q];exact i2
 ·rw[X z];by_cases k0:c0%8=0
  ·refine .inl ⟨J.1.mpr (G k0),?_,?_⟩
   ·rw[m];exact Y (by lia)
   ·rw[l,if_pos (by lia)]
  ·have gt:=L k0;refine .inr ?_;have a1:¬(gp (bE as n a e++[dD as n a e (lb.getD (2*n+2*wh) "") g1 o])).1=(gp (bE as n a e++[dD as n a e (lb.getD (2*n+2*wh) "") g1 o])).2:=λz=>by have:=J.1.mp z;lia
   have a2:¬(gp (bE as n a e++[dD as n a e (lb.getD (2*n+2*wh) "") g1 o])).1<(gp (bE as n a e++[dD as n a e (lb.getD (2*n+2*wh) "") g1 o])).2:=λz=>by have:=J.2.mp z;lia
   lia
 ·rw[R z];exact Z.2.mpr M
theorem SqL.kpd(h:SqL K H l xs)(hd:H d=some (.dK kvs))(kp:KpD d H H'):SqL K H' l xs:=by
 rcases h with(e|⟨o,e⟩)|z
 ·exact .inl (.inl (kp _ _ (bD e hd (by intro z;cases z)) e))
 ·exact .inl (.inr ⟨o,kp _ _ (bD e hd (by intro z;cases z)) e⟩)
 ·exact .inr z
structure DS where
 hd:List WR
 pa:List WR
 ta:List WR
 c:Int×Int
noncomputable def nmR(ws:List WR):List V:=ws.map λr=>V.str r.nm
noncomputable def SdAt(q:Addr)(H:Hp)(v:V)(s:DS):Prop:=∃t lh lp lt g,v=.ref t/\H t=some (.tup [.ref lh,.ref lp,.ref lt,.ref g])/\H lh=some (.lst (nmR s.hd))/\H lp=some (.lst (nmR s.pa))/\H lt=some (.lst (nmR s.ta))/\H g=some (.tup [.int s.c.1,.int s.c.2])/\lh≠q/\lp≠q/\lt≠q
theorem SdAt.by(h:SdAt q H v s)(kt:∀b xs,H b=some (.tup xs)->H' b=some (.tup xs))(kl:∀b xs,b≠q->H b=some (.lst xs)->H' b=some (.lst xs)):SdAt q H' v s:=by
 obtain⟨t,p,r,lt,g,e,m,o,j,w,l,c,i,a⟩:=h;exact⟨t,p,r,lt,g,e,kt _ _ m,kl _ _ c o,kl _ _ i j,kl _ _ a w,kt _ _ l,c,i,a⟩
theorem SdAt.mono(h:SdAt q H v s)(k:Same H H'):SdAt q H' v s:=h.by (λ_ _ e=>k _ _ e) λ_ _ _ e=>k _ _ e
structure RsG(sp:List Str)(rs:List WR):Prop where
 nd:(rs.map (·.nm)).Nodup
 len:rs.length<=12
 all:∀r∈rs,RGood sp r/\DV r
inductive IspStrands(K:W.Frag)(vs:List V)(H:Hp)(Q:VK):Prop
 |mk(l d ll:Addr)(ns:List Int)(rs:List WR)(sp lb:List Str)(as:Nat->WR)(n:Nat)(h1:vs=[.ref l,.ref d,.ref ll,.int n,.int 2])(h2:SqL K H l (ns.map V.int))(h3:RowsAt H d rs)(h4:BsX sp lb n as)(h5:rs.length=2*n)(h6:(∀j,j<2*n->rs[j]?=some (as j)))(h7:H ll=some (.lst (lb.map V.str)))(h8:∀s H' ts ds rs',H s=none->H' s=some (.lst ts)->KpD d H H'->RowsAt H' d rs'->RowAt (SdAt s) H' ts ds->ds.length=2->RsG sp rs'->(∀x∈ds,SdO rs' x.hd x.pa x.ta x.c)->Q (.ref s) H'):IspStrands K vs H Q
noncomputable def spStrands(K:W.Frag):Sp:=λvs H Q _=>IspStrands K vs H Q
theorem ok_law_strands(T:TX K mg a):FnB P w K mg base CX0 "_law_strands" 4 ["_law_script","_law_ways_here","_law_labels","_law_count","_law_many"] (spStrands K):=by
 refine T.d_law_strands.okA sc_law_strands λf a5 A az s H vs Q E y h=>?_;obtain⟨l,d,ll,ns,rs,sp,lb,as,n,rfl,hS,hR,B,ao,R,ah,k⟩:=h
 refine⟨_,(aD (aI (i:=5) sc_law_strands.nd (bK aB))
  (aD (bR lj rfl (dM rfl T.z_range (aA (pv 4) aB)) (aQ (i:=6) sc_law_strands.nd) (aD (eP (i:=7) (xs:=["_law_j"]) (rest:=["_law_k","_law_script"]) sc_law_strands.nd rfl rfl rfl (dM rfl T.z_range (aA aC aB))
  (λaa fp C' s' H'=>(aQ (i:=0) (show(["_law_j","_law_k","_law_script"]:List Str).Nodup by decide+kernel))) (λaa fp C' s' H'=>dQ)
  (λaa fp C' s' H'=>(aR (cO T) y aJ (aA (pv 2) (aA (aK bJ (aK bJ aC (aK cI aC (pv 1))) (pv 0)) aB))))
  (Clos.many (ys:=["_law_script","_law_k"]) rfl ⟨rfl,rfl,True.intro⟩ rfl (by decide+kernel)) (Reads.many (ys:=["_law_k","_law_script"]) (js:=[6,0]) ⟨⟨rfl,rfl,rfl⟩,⟨rfl,rfl,rfl⟩,True.intro⟩))
  (aF (bZ (pe_bm mY mQ mR fc (pv 5) (aA (aR (ok_law_strand T) y aJ (aA (pv 1) (aA (pv 2) (aA (pv 3) (aA (pv 6) (aA (pv 7) aB)))))) aB))))))
  (aF (aO (pv 5))))),?_⟩
 walk_at"q"
 have n2:=B.n2;have n4:=B.n4;have a4:=B.ll;refine⟨zL0,λq nq=>?_⟩;obtain⟨H0,zq,s0,h0⟩:=uG (o:=.lst []) nq;rw[zq]
 have al:rs.map (·.nm)=lb.take (2*n):=by
  apply List.ext_getElem?
  intro j;rw[kP,mO];by_cases m:j<2*n
  ·rw[if_pos m,R j m,eM (by lia)];show some (as j).nm=_;rw[B.nm j m]
  ·rw[if_neg m,List.getElem?_eq_none (by lia)];rfl
 have ad:∀r∈rs,RGood sp r/\DV r:=λr y=>by
  obtain⟨j,m⟩:=lL.mp y;have jl:=(kL.mp m).1;rw[ao]at jl;rw[R j jl]at m
  cases m;exact⟨B.good jl,dv_base (B.gs j jl)⟩
 refine⟨_,rfl,_,rfl,by decide,by decide,jw (λi σ O=>i<=2/\yE5 λz6 z7 ts ds I=>σ=[some (.ref l),some (.ref d),some (.ref ll),some (.int n),some (.int 2),some (.ref q),z6,z7]×' KpD d H O×' O q=some (.lst ts)×' RowsAt O d I×' RowAt (SdAt q) O ts ds×' ds.length=i×' I.map (·.nm)=lb.take (2*n+2*i)×'(∀r∈rs,r∈I)×'(∀r∈I,RGood sp r/\DV r)×'∀x∈ds,SdO I x.hd x.pa x.ta x.c) ⟨by decide,none,none,[],[],rs,rfl,KpD.of s0,h0,hR.mono s0,RowAt.nil,rfl,al,(λr y=>y),ad,λx hx=>by cases hx⟩ ?_ ?_⟩
 ·rintro i σ O hi⟨_,z6,z7,ts,ds,I,rfl,kp,hq,J,Z,G,p,U,good,ae⟩;have a1:i<2:=by lia
  rw[Int.zero_add]
  have a8:I.length=2*n+2*i:=by
   have:=lW List.length p
   rw[kK,k8]at this
   lia
  obtain⟨a9,a7,_⟩:=id J;obtain⟨a6,ag,_⟩:=id hR
  have an:∀{X:Hp},Same O X->SqL K X l (ns.map V.int):=λ{X}s=>by
   refine s.seq ?_;exact SqL.kpd hS ag kp
  refine⟨_,rfl,by decide,by decide,λlc ak=>?_⟩;refine eF (λj X=>j<=4×' Same O X×'∃cs:List Int,cs.length=j/\X lc=some (.lst (cs.map V.int))) ⟨kY _,aS ak,[],rfl,aE⟩ ?_ ?_
  ·rintro j X m⟨_,N,cs,L,h2⟩;have ar:j<4:=by lia
   refine L2.g1 ⟨⟨[_],rfl,rfl⟩,yes ?_⟩;refine⟨_,rfl,_,rfl,_,_,rfl,rfl,⟨Sm.of_le (n:=10) (by decide) (by decide),Sm.of_le (n:=10) (by lia) (by decide)⟩,_,_,rfl,rfl,_,rfl,_,_,rfl,rfl,l,ns,_,rfl,an N,by lia,by lia,λc=>?_⟩;refine⟨_,h2,aU (by rw[kK];lia),eU m ⟨ar,aZ ak N,cs++[c],by rw[k5,L];rfl,?_⟩⟩;rw[aE,kO];rfl
  ·rintro X⟨_,N,cs,L,h2⟩;have L:cs.length=4:=L
   match cs,L with
   |[c0,c1,c2,c3],_=>
    have fresh:∀r∈I,r.nm≠lb.getD (2*n+2*i) ""/\r.nm≠lb.getD (2*n+2*i+1) "":=λr y=>by
     have hm:r.nm∈lb.take (2*n+2*i):=by rw[<-p];exact kQ.mpr ⟨r,y,rfl⟩
     obtain⟨j,m⟩:=lL.mp hm;rw[mO]at m
     split at m
     ·rename_i aj;have ej:=eM (xs:=lb) (i:=j) (by lia);rw[ej]at m;have e:=lJ m;exact⟨λz=>by have:=gP B.nl (by lia) (by lia) (e.trans z);lia,λz=>by have:=gP B.nl (by lia) (by lia) (e.trans z);lia⟩
     ·cases m
    have a2:(I.map (·.nm)).Nodup:=by rw[p];exact(List.take_sublist _ _).nodup B.nl
    have ai:O ll=some (.lst (lb.map V.str)):=kp _ _ (bD ah ag (by intro z;cases z)) ah;refine⟨_,rfl,.inl ⟨rfl,_,SqL.of (N _ _ hq)⟩,_,rfl,_,rfl,_,rfl,_,rfl,_,rfl,d,ll,lc,I,lb,as,n,i,c0,c1,c2,c3,rfl,J.mono N,a2,by lia,N _ _ ai,by lia,by lia,λj m=>⟨U _ (kN (R j m)),B.nm j m,B.gs j m⟩,n2,by lia,by lia,B.nl,fresh,h2,λt lh lp lt g H4 W1 W2 hd pa ta c n1 af n3 M aw ht am av aj hg sr=>?_⟩;obtain⟨⟨ay,au,ap⟩,⟨aq,ax,a0⟩,mk⟩:=str_pure B (by lia) sr;have ab:=N _ _ hq;obtain⟨a3,Y,_⟩:=J.mono N;have ac:=M _ _ (bD ab Y (by intro z;cases z)) ab;have D:∀{b:Addr},X b=none->b≠q:=λe z=>by rw[z,ab]at e;cases e
    have S:∀{b:Addr}{o:HO},b≠q->H4 b=some o->upd H4 q (.lst (ts++[.ref t])) b=some o:=λn e=>by rw[aG n];exact e
    have ty:∀{b:Addr}{o:HO},H4 b=some o->(∀xs,o≠.lst xs)->b≠q:=λe n=>bD e ac (n _);refine⟨q,ts,_,rfl,rfl,ac,aU (by rw[Z.1,G];lia),?_⟩;refine⟨a1,_,_,_,ds++[⟨hd,pa,ta,c⟩],I++[W1]++[W2],rfl,?_,aE,?_,?_,by rw[k5,G];rfl,?_,λr y=>lf _ (lf _ (U r y)),λr y=>?_,λx hx=>?_⟩
    ·intro b o nb e;refine S (λz=>by rw[z,nq]at e;cases e) (M b o nb (N _ _ (kp b o nb e)))
    ·obtain⟨kv,e1,e2,e3⟩:=aw;exact⟨kv,S (ty e1 (by intro _ z;cases z)) e1,e2,e3.mono λv x z=>z.put ac (by intro _ z;cases z)⟩
    ·refine RowAt.snoc (Z.mono λv x z=>(z.mono N).by (λb xs e=>S (ty (M _ _ (bD e Y (by intro z;cases z)) e) (by intro _ z;cases z)) (M _ _ (bD e Y (by intro z;cases z)) e)) λb xs nb e=>S nb (M _ _ (bD e Y (by intro z;cases z)) e)) ?_;exact⟨t,lh,lp,lt,g,rfl,S (ty ht (by intro _ z;cases z)) ht,S (D n1) am,S (D af) av,S (D n3) aj,S (ty hg (by intro _ z;cases z)) hg,D n1,D af,D n3⟩
    ·rw[kO,kO,p,show 2*n+2*(i+1)=2*n+2*i+1+1 by lia,kX,kX,eM (by lia),eM (by lia),List.map_singleton,List.map_singleton,ap,a0];rfl
    ·rcases kU.mp y with z|z
     ·rcases kU.mp z with z|z
      ·exact good r z
      ·rw[kS.mp z];exact⟨ay,au⟩
     ·rw[kS.mp z];exact⟨aq,ax⟩
    ·rcases kU.mp hx with z|z
     ·exact(ae x z).mono λr y=>lf _ (lf _ y)
     ·rw[kS.mp z];exact mk _ (λj m=>lf _ (lf _ (U _ (kN (R j m))))) (lf _ (lH _ (by simp))) (lH _ (by simp))
 ·rintro σ O⟨_,z6,z7,ts,ds,I,rfl,kp,hq,J,Z,G,p,U,good,ae⟩;have G:ds.length=2:=G;refine⟨_,rfl,k q O ts ds I nq hq kp J Z G ⟨by rw[p];exact(List.take_sublist _ _).nodup B.nl,?_,good⟩ ae⟩
  have:=lW List.length p
  rw[kK,k8]at this
  lia
noncomputable abbrev DuS:=(Str->Int×Int)×(Int×Int)
noncomputable def dH(st:DuS)(r:WR):DuS:=(upf st.1 r.nm ((st.1 r.nm).1*st.2.2+st.2.1*(st.1 r.nm).2,(st.1 r.nm).2*st.2.2),(st.2.1*r.t,st.2.2*r.b))
noncomputable def bP(st:DuS)(ws:List WR):DuS:=ws.foldl dH st
theorem sendS_snoc(st:DuS)(ws:List WR)(r:WR):bP st (ws++[r])=dH (bP st ws) r:=by unfold bP;rw[mT];rfl
theorem kb:∀{ws:List WR}{st:DuS},n∉ws.map (·.nm)->(bP st ws).1 n=st.1 n
 |[],_,_=>rfl
 |r::ws,st,h=>by
  rw[md,lx,not_or]at h;show(bP (dH st r) ws).1 n=_;rw[kb h.2];exact upf_ne h.1
theorem sendS_two(st:DuS)(ws:List WR):(bP st ws).2=(st.2.1*(gp ws).1,st.2.2*(gp ws).2):=by
 refine cZ (P:=λws=>(bP st ws).2=(st.2.1*(gp ws).1,st.2.2*(gp ws).2)) ?_ ?_ ws
 ·show st.2=(st.2.1*1,st.2.2*1);rw[Int.mul_one,Int.mul_one]
 ·intro ws r a;rw[sendS_snoc,jv];show((bP st ws).2.1*r.t,(bP st ws).2.2*r.b)=_;rw[a,nj,nj]
theorem RowIs.kp(h:RowIs H v r)(hq:H q=some (.dK kvs))(kp:KpD q H H'):RowIs H' v r:=by
 obtain⟨p,g,e,b,a⟩:=h;exact⟨p,g,e,kp _ _ (bD b hq (by intro z;cases z)) b,kp _ _ (bD a hq (by intro z;cases z)) a⟩
theorem RowsAt.kp(h:RowsAt H d rs)(ne:d≠q)(hq:H q=some (.dK kvs))(kp:KpD q H H'):RowsAt H' d rs:=by
 obtain⟨b,c,e,a⟩:=h;exact⟨b,kp _ _ ne c,e,a.mono λv x z=>z.kp hq kp⟩
structure DueAt(H:Hp)(q:Addr)(ns:List Str)(f:Str->Int×Int):Prop where
 ex:∃kvs,H q=some (.dK kvs)/\Tab DueIs H kvs (cB ns) f
 no:∀n,n∉ns->f n=(0,1)
inductive IspSend(vs:List V)(H:Hp)(Q:VK):Prop
 |mk(q d wl g:Addr)(rs ws:List WR)(ns:List Str)(st:DuS)(N M:Nat)(h1:vs=[.ref q,.ref d,.ref wl,.ref g])(h2:q≠d)(h3:DueAt H q ns st.1)(h4:ns.length<=800)(h5:(∀n,Nx N (st.1 n)))(h6:N+M+200<=899999)(h7:RowsAt H d rs)(h8:(rs.map (·.nm)).Nodup)(h9:H wl=some (.lst (ws.map λr=>.str r.nm)))(h10:(∀r∈ws,r∈rs))(h11:(∀r∈ws,GB r.t r.b))(h12:(ws.map (·.nm)).Nodup)(h13:ws.length<=4)(h14:H g=some (.tup [.int st.2.1,.int st.2.2]))(h15:Nx M st.2)(h16:∀g' H',KpD q H H'->DueAt H' q (ns++ws.map (·.nm)) (bP st ws).1->H' g'=some (.tup [.int (bP st ws).2.1,.int (bP st ws).2.2])->Q (.ref g') H'):IspSend vs H Q
noncomputable def spSend(K:W.Frag):Sp:=λvs H Q _=>IspSend vs H Q
theorem g7(T:TX K mg a):FnB P w K mg base CX0 "_law_send" 2 ["_law_due","_law_ways_here","_law_walk","_law_put"] (spSend K):=by
 refine T.d_law_send.okA sc_law_send λf ar A am s H vs Q E I h=>?_;obtain⟨q,d,wl,g0,rs,ws,ns,B,N,M,rfl,aj,⟨⟨ak,hq,ag⟩,ab⟩,ap,bf,hN,hR,nd,hw,sub,S,al,lw,ao,hc,k⟩:=h
 refine⟨_,(aD (bR lj rfl (bW (pv 2)) (aQ (i:=4) sc_law_send.nd) (aD (cW (bS I) (pv 0) (pv 4) (aR (ok_law_plus T) I aJ (aA (pe_dget2 (bS I) (pv 0) (pv 4) (cE (aA aC (aA aC aB))) ⟨rfl,rfl,rfl,rfl⟩) (aA (pv 3) aB))) rfl)
  (aF (aI (i:=3) sc_law_send.nd (aR (iI T) I aJ (aA (pv 3) (aA (aL aT (cQ (bS I) (pv 1) (pv 4) (λ_ _=>rfl)) aC) aB)))))))
  (aF (aO (pv 3)))),?_⟩
 walk_at"q"
 have ah:wl≠q:=bD hw hq (by intro z;cases z);have bd:=gp_bd (n:=40) (ws:=ws) λr I=>(S r I).all
 refine⟨_,rfl,wl,rfl,⟨_,SqL.of hw⟩,cF (K:=K) (a:=wl) (xs:=ws.map λr=>V.str r.nm) (λi σ D=>i<=ws.length/\yE3 λz g l=>σ=[some (.ref q),some (.ref d),some (.ref wl),some (.ref g),z]×' KpD q H D×' D g=some (.tup [.int (bP B (ws.take i)).2.1,.int (bP B (ws.take i)).2.2])×' D q=some (.dK l)×' Tab DueIs D l (cB (ns++(ws.take i).map (·.nm))) (bP B (ws.take i)).1)
  ⟨kY _,_,g0,ak,rfl,λb o _ e=>e,ao,hq,by rw[List.take_zero,nG,mz];exact ag⟩ ((by rintro i σ D _⟨_,_,_,_,_,Z,_⟩;exact SqL.of (Z _ _ ah hw))) ?_ ?_⟩
 ·rintro i t σ D ht⟨_,z,g,l,rfl,Z,O,p,tb⟩;rw[kP]at ht;obtain⟨y,ey,rfl⟩:=Option.map_eq_some_iff.mp ht;have hi:=(kL.mp ey).1;have my:=kN ey;have b:=bd i (by lia);have tk:ws.take (i+1)=ws.take i++[y]:=by rw[kX,ey];rfl
  have ny:y.nm∉(ws.take i).map (·.nm):=by
   intro z;obtain⟨u,hu,eu⟩:=kQ.mp z;obtain⟨j,hj⟩:=lL.mp hu;rw[mO]at hj
   split at hj
   ·rename_i aq;have g1:(ws.map (·.nm))[j]?=some y.nm:=by rw[kP,hj,<-eu];rfl
    have g2:(ws.map (·.nm))[i]?=some y.nm:=by rw[kP,ey];rfl
    have:=(mo (by rw[kK];lia) al).mp (g1.trans g2.symm)
    lia
   ·cases hj
  have ef:(bP B (ws.take i)).1 y.nm=B.1 y.nm:=kb ny;have m:=sendS_two B (ws.take i)
  have m1:(bP B (ws.take i)).2.1.natAbs<=2^(M+i*40):=by
   rw[m,l0];show(B.2.1*(gp (ws.take i)).1).natAbs<=_;rw[lT];exact lU hc.t b.t1
  have m2:(bP B (ws.take i)).2.2.natAbs<=2^(M+i*40):=by
   rw[m,l0];show(B.2.2*(gp (ws.take i)).2).natAbs<=_;rw[lT];exact lU hc.b b.b1
  have ad:N+(M+i*40)<=1000000:=by lia
  obtain⟨n1,n2⟩:=bf y.nm;rw[<-ef]at n1 n2;have no:y.nm∉ns->(bP B (ws.take i)).1 y.nm=(0,1):=λz=>by rw[ef];exact ab _ z
  rw[tk,sendS_snoc,kO,md,nG,<-List.append_assoc,jj];have ai:=fJ (ns++(ws.take i).map (·.nm));rw[k5,kK,k8]at ai;clear ef m b tk;generalize bP B (ws.take i)=af at O tb no n1 n2 m1 m2⊢;obtain⟨f,c⟩:=af;refine⟨_,rfl,q,rfl,.inl ⟨l,.inl p⟩,_,rfl,zL2,λe ne=>?_⟩;obtain⟨H3,zq,s3,he⟩:=uG (o:=.tup [.int 0,.int 1]) ne;rw[zq];have J:=tb.mono λv x z=>z.mono s3;refine⟨_,DGet.k (k:=Sum.inr y.nm) (s3 _ _ p),?_⟩
  have G:DueIs H3 ((dF l (Sum.inr y.nm)).getD (.ref e)) (f y.nm):=by
   by_cases L:y.nm∈cB (ns++(ws.take i).map (·.nm))
   ·obtain⟨v,ev,r⟩:=J.vals _ L;rw[ev];exact r
   ·rw[J.none L,show f y.nm=(0,1) from no λz=>L (mem_keysOf.mpr (lf _ z))];exact⟨e,rfl,he⟩
  generalize(dF l (Sum.inr y.nm)).getD (.ref e)=vl at G⊢;obtain⟨e1,rfl,ae⟩:=G;refine⟨_,rfl,e1,g,f y.nm,c,N,M+i*40,rfl,ae,s3 _ _ O,⟨n1,n2⟩,⟨m1,m2⟩,ad,λm Y=>?_⟩;dsimp only[plP]at Y⊢;obtain⟨R,zq,s4,aa⟩:=uG (o:=.tup [.int ((f y.nm).1*c.2+c.1*(f y.nm).2),.int ((f y.nm).2*c.2)]) Y;rw[zq];have F:=s3.trans s4
  have lk:l.length<=900:=by
   rw[tb.len]
   lia
  refine⟨_,rfl,_,rfl,q,_,rfl,DPut.k (k:=Sum.inr y.nm) (F _ _ p) (aU (by lia)),?_⟩;have kp:KeepD R (upd R q (.dK (cY l (Sum.inr y.nm) (.ref m)))):=KeepD.put (F _ _ p);have U:=Tab.put (n:=y.nm) (J.mono λv x z=>(z.mono s4).keep kp) (DueIs.keep (c:=((f y.nm).1*c.2+c.1*(f y.nm).2,(f y.nm).2*c.2)) ⟨m,rfl,aa⟩ kp);have s5:KpD q H (upd R q (.dK (cY l (Sum.inr y.nm) (.ref m)))):=(Z.trans (KpD.of F)).trans KpD.put;have ac:upd R q (.dK (cY l (Sum.inr y.nm) (.ref m))) q=some (.dK (cY l (Sum.inr y.nm) (.ref m))):=aE;have X:=kp _ _ (F _ _ O) (by intro _ z;cases z) (by intro _ _ z;cases z);generalize upd R q (.dK (cY l (Sum.inr y.nm) (.ref m)))=H5 at kp U s5 ac X⊢;obtain⟨v,gv,p1,gy,rfl,x1,x2⟩:=(hR.kp aj.symm hq s5).get nd (sub y my);obtain⟨q1,q2,q3,q4⟩:=(S y my).all;refine⟨_,rfl,_,rfl,_,rfl,d,_,rfl,gv,p1,_,_,_,rfl,rfl,SqT.of x1,rfl,g,gy,c,(y.t,y.b),M+i*40,40,rfl,X,x2,⟨m1,m2⟩,⟨fW q1 q2,fW q3 q4⟩,by lia,λr' an=>?_⟩;have s6:=aS (o:=.tup [.int (c.1*y.t),.int (c.2*y.b)]) an;exact⟨hi,_,r',_,rfl,s5.trans (KpD.of s6),aE,s6 _ _ ac,U.mono λv x z=>z.mono s6⟩
 ·rintro σ D⟨_,z,g,l,rfl,Z,O,p,tb⟩;rw[kK,kZ]at tb O;refine⟨_,rfl,k g D Z ⟨⟨l,p,tb⟩,λn L=>?_⟩ O⟩;rw[kU,not_or]at L;rw[kb L.2];exact ab n L.1
theorem sendS_bd:∀{ws:List WR}{st:DuS}{N M:Nat},(ws.map (·.nm)).Nodup->(∀r∈ws,GB r.t r.b)->(st.1 n).1.natAbs<=2^N->(st.1 n).2.natAbs<=2^N->st.2.1.natAbs<=2^M->st.2.2.natAbs<=2^M->((bP st ws).1 n).1.natAbs<=2^(N+M+40*ws.length+1)/\((bP st ws).1 n).2.natAbs<=2^(N+M+40*ws.length+1)
 |[],st,N,M,_,_,f1,f2,_,_=>⟨kW f1 (lF (by decide) (by omega)),kW f2 (lF (by decide) (by omega))⟩
 |r::ws,st,N,M,nd,gb,f1,f2,c1,c2=>by
  rw[md,me]at nd;show((bP (dH st r) ws).1 n).1.natAbs<=_/\((bP (dH st r) ws).1 n).2.natAbs<=_;by_cases hn:n=r.nm
  ·subst hn;rw[kb nd.1];dsimp only[dH];rw[upf_same];have q:(2:Nat)^(N+M+1)<=2^(N+M+40*(r::ws).length+1):=lF (by decide) (by omega);have o:((st.1 r.nm).1*st.2.2).natAbs<=2^(N+M):=by rw[lT,l0];exact lU f1 c2
   have l:(st.2.1*(st.1 r.nm).2).natAbs<=2^(N+M):=by rw[lT,Nat.add_comm,l0];exact lU c1 f2
   have m:((st.1 r.nm).2*st.2.2).natAbs<=2^(N+M):=by rw[lT,l0];exact lU f2 c2
   have p:(2:Nat)^(N+M+1)=2^(N+M)+2^(N+M):=by rw[Nat.pow_succ];omega
   have j:=Int.natAbs_add_le ((st.1 r.nm).1*st.2.2) (st.2.1*(st.1 r.nm).2);exact⟨by show((st.1 r.nm).1*st.2.2+st.2.1*(st.1 r.nm).2).natAbs<=_;omega,by show((st.1 r.nm).2*st.2.2).natAbs<=_;omega⟩
  ·obtain⟨e,i,a,c⟩:=(gb r (by simp)).all
   have:=sendS_bd (n:=n) (ws:=ws) (st:=dH st r) (N:=N) (M:=M+40) nd.2 (λx h=>gb x (lv _ h)) (by dsimp only[dH];rw[upf_ne hn];exact f1) (by dsimp only[dH];rw[upf_ne hn];exact f2) (by show(st.2.1*r.t).natAbs<=_;rw[lT,l0];exact lU c1 (fW e i)) (by show(st.2.2*r.b).natAbs<=_;rw[lT,l0];exact lU c2 (fW a c))
   rw[lR,show N+M+40*(ws.length+1)+1=N+(M+40)+40*ws.length+1 by omega];exact this
structure Leg(H:Hp)(rs:List WR)(l:Addr)(ws:List WR):Prop where
 hl:H l=some (.lst (ws.map λr=>.str r.nm))
 sub:∀r∈ws,r∈rs
 gb:∀r∈ws,GB r.t r.b
 nd:(ws.map (·.nm)).Nodup
 ln:ws.length<=4
theorem Leg.kp(h:Leg H rs l ws)(hq:H q=some (.dK kvs))(s:KpD q H H'):Leg H' rs l ws:=⟨s _ _ (bD h.hl hq (by intro z;cases z)) h.hl,h.sub,h.gb,h.nd,h.ln⟩
theorem Leg.gpb(h:Leg H rs l ws):Nx 160 (gp ws):=by
 have b:=gp_bd (n:=40) (ws:=ws) (λr a=>(h.gb r a).all) ws.length (kM _);rw[kZ]at b;have l:=h.ln;exact⟨kW b.t1 (lF (by decide) (by lia)),kW b.b1 (lF (by decide) (by lia))⟩
theorem iY(nd:(ws.map (·.nm)).Nodup)(gb:∀r∈ws,GB r.t r.b)(ln:ws.length<=4)(hf:∀n,Nx N (st.1 n))(hc:Nx M st.2)(n:Str):Nx (N+M+161) ((bP st ws).1 n):=by
 have b:=sendS_bd (n:=n) (ws:=ws) (st:=st) (N:=N) (M:=M) nd gb (hf n).t (hf n).b hc.t hc.b;exact(Nx.mk b.1 b.2).mono (by lia)
noncomputable def pH(c g:Int×Int):Int×Int:=(c.1*g.2,c.2*(g.1-g.2))
noncomputable def pT(c g:Int×Int):Int×Int:=(c.1*g.2,c.2*(g.2-g.1))
theorem sub_nx{x y:Int}(h1:x.natAbs<=2^n)(h2:y.natAbs<=2^n):(x-y).natAbs<=2^(n+1):=by rw[Nat.pow_succ];omega
theorem pH_nx(h:Nx M c)(k:Nx 160 g):Nx (M+161) (pH c g):=⟨kW (dX h.t k.b) (lF (by decide) (by lia)),dX h.b (sub_nx k.t k.b)⟩
theorem pT_nx(h:Nx M c)(k:Nx 160 g):Nx (M+161) (pT c g):=⟨kW (dX h.t k.b) (lF (by decide) (by lia)),dX h.b (sub_nx k.b k.t)⟩
noncomputable def hdF(f:Str->Int×Int)(c:Int×Int)(hd:List WR):Str->Int×Int:=if hd=[]then f else(bP (f,pH c (gp hd)) hd).1
noncomputable def taF(st:DuS)(ta:List WR):Str->Int×Int:=if ta=[]then st.1 else(bP (st.1,pT st.2 (gp ta)) ta).1
noncomputable def plF(f:Str->Int×Int)(c:Int×Int)(hd pa ta:List WR):Str->Int×Int:=if hd≠[]/\(gp hd).1=(gp hd).2 then(bP (f,c) hd).1 else taF (bP (hdF f c hd,c) pa) ta
theorem sendS_put(hc:Nx M st.2)(hg:Nx 160 (gp ws)):Nx (M+160) (bP st ws).2:=by
 rw[sendS_two];exact hc.times hg
theorem hdF_nx(h:Leg H rs l hd)(hf:∀n,Nx N (f n))(hc:Nx M c)(n:Str):Nx (N+M+322) (hdF f c hd n):=by
 unfold hdF
 split
 ·exact(hf n).mono (by lia)
 ·exact(iY (N:=N) (M:=M+161) h.nd h.gb h.ln hf (pH_nx hc h.gpb) n).mono (by lia)
theorem plF_nx(h1:Leg H rs l1 hd)(h2:Leg H rs l2 pa)(h3:Leg H rs l3 ta)(hf:∀n,Nx N (f n))(hc:Nx M c)(n:Str):Nx (N+3*M+1000) (plF f c hd pa ta n):=by
 unfold plF
 split
 ·exact(iY (N:=N) (M:=M) h1.nd h1.gb h1.ln hf hc n).mono (by lia)
 ·have a:=iY (N:=N+M+322) (M:=M) (st:=(hdF f c hd,c)) h2.nd h2.gb h2.ln (λn=>hdF_nx h1 hf hc n) hc;unfold taF
  split
  ·exact(a n).mono (by lia)
  ·exact(iY (N:=N+M+322+M+161) (M:=M+160+161) (st:=((bP (hdF f c hd,c) pa).1,pT (bP (hdF f c hd,c) pa).2 (gp ta))) h3.nd h3.gb h3.ln a (pT_nx (sendS_put (st:=(hdF f c hd,c)) hc h2.gpb) h3.gpb) n).mono (by lia)
theorem DueAt.mono(h:DueAt H q ns f)(s:Same H H'):DueAt H' q ns f:=⟨let⟨kv,e,tb⟩:=h.ex;⟨kv,s _ _ e,tb.mono λv x z=>z.mono s⟩,h.no⟩
inductive IspPlanned(vs:List V)(H:Hp)(Q:VK):Prop
 |mk(q d t lh lp lt g:Addr)(rs hd pa ta:List WR)(c:Int×Int)(ns:List Str)(f:Str->Int×Int)(N M:Nat)(h1:vs=[.ref q,.ref d,.ref t])(h2:q≠d)(h3:DueAt H q ns f)(h4:ns.length<=780)(h5:(∀n,Nx N (f n)))(h6:N+3*M+1000<=800000)(h7:RowsAt H d rs)(h8:(rs.map (·.nm)).Nodup)(h9:H t=some (.tup [.ref lh,.ref lp,.ref lt,.ref g]))(h10:Leg H rs lh hd)(h11:Leg H rs lp pa)(h12:Leg H rs lt ta)(h13:H g=some (.tup [.int c.1,.int c.2]))(h14:Nx M c)(h15:(hd≠[]/\(gp hd).1=(gp hd).2->pa=[]/\ta=[]))(h16:∀H',KpD q H H'->DueAt H' q (ns++hd.map (·.nm)++pa.map (·.nm)++ta.map (·.nm)) (plF f c hd pa ta)->Q .non H'):IspPlanned vs H Q
noncomputable def spPlanned(K:W.Frag):Sp:=λvs H Q _=>IspPlanned vs H Q
theorem ok_law_planned(T:TX K mg a):FnB P w K mg base CX0 "_law_planned" 3 ["_law_due","_law_ways_here","_law_strand_here"] (spPlanned K):=by
 refine T.d_law_planned.okA sc_law_planned λf aw A as s H vs Q E G h=>?_;obtain⟨q,d,t,lh,lp,lt,g,rs,j,pa,ta,c,ns,f,N,M,rfl,p,R,au,hf,ay,hR,nd,U,l,Lp,O,hg,Y,rd,k⟩:=h
 refine⟨_,(aD (aI (i:=3) sc_law_planned.nd (aL aT (pv 2) aC))
  (aD (aI (i:=4) sc_law_planned.nd (aR (je T) G aJ (aA (pv 1) (aA (aL aT (pv 2) aC) aB))))
  (bB (bG (PW.pt (gJ (aP (fX G.units0) (aL aT (pv 2) aC) (bK aB)) (fL (aP eJ (aL aT (pv 4) aC) (aL aT (pv 4) aC))))) (aD (bZ (aR (g7 T) G aJ (aA (pv 0) (aA (pv 1) (aA (aL aT (pv 2) aC) (aA (pv 3) aB))))))
  (aF ps_retN)) aV)
  (bB (bG (aP (fX G.units0) (aL aT (pv 2) aC) (bK aB)) (aF (bZ (aR (g7 T) G aJ (aA (pv 0) (aA (pv 1) (aA (aL aT (pv 2) aC) (aA (cE (aA (aK gj (aL aT (pv 3) aC) (aL aT (pv 4) aC)) (aA (aK gj (aL aT (pv 3) aC) (aK eZ (aL aT (pv 4) aC) (aL aT (pv 4) aC))) aB))) aB))))))) aV)
  (aD (aI (i:=5) sc_law_planned.nd (aR (g7 T) G aJ (aA (pv 0) (aA (pv 1) (aA (aL aT (pv 2) aC) (aA (pv 3) aB))))))
  (aF (bG (aP (fX G.units0) (aL aT (pv 2) aC) (bK aB)) (aD (aI (i:=4) sc_law_planned.nd (aR (je T) G aJ (aA (pv 1) (aA (aL aT (pv 2) aC) aB))))
  (aF (bZ (aR (g7 T) G aJ (aA (pv 0) (aA (pv 1) (aA (aL aT (pv 2) aC) (aA (cE (aA (aK gj (aL aT (pv 5) aC) (aL aT (pv 4) aC)) (aA (aK gj (aL aT (pv 5) aC) (aK eZ (aL aT (pv 4) aC) (aL aT (pv 4) aC))) aB))) aB)))))))) aV))))))),?_⟩
 walk_at"q"
 generalize ao:jP _ _=k9
 revert k9
 refine iw λk9 ao=>?_;obtain⟨av,hq,_⟩:=R.ex;refine⟨_,rfl,t,_,_,_,rfl,rfl,SqT.of U,rfl,?_⟩;refine⟨_,rfl,_,rfl,t,_,_,_,rfl,rfl,SqT.of U,rfl,d,lh,rs,j,rfl,hR,nd,SqL.of l.hl,l.sub,l.gb,by have:=l.ln;lia,λg1 H1 s1 an=>?_⟩;subst ao;refine dP (λσ' I=>σ'=[some (.ref q),some (.ref d),some (.ref t),some (.ref g),some (.ref g1),none]×' Same H1 I×'¬(j≠[]/\(gp j).1=(gp j).2)) ?_ ?_
 ·refine⟨_,rfl,t,_,_,_,rfl,rfl,SqT.of (s1 _ _ U),rfl,zL0,λx nx=>?_⟩;obtain⟨H2,zq,X,S⟩:=uG (o:=.lst []) nx;rw[zq];have D:=s1.trans X;refine⟨lh,x,_,rfl,rfl,SqL.of (D _ _ l.hl),SqL.of S,?_⟩
  cases j with
  |nil=>exact⟨_,rfl,iteF (iteF ⟨rfl,X,λz=>z.1 rfl⟩)⟩
  |cons r j=>
   refine⟨_,rfl,iteT ?_⟩;have aj:=SqT.of (K:=K) (X _ _ an);refine⟨_,rfl,g1,_,_,_,rfl,rfl,aj,rfl,_,rfl,g1,_,_,_,rfl,rfl,aj,rfl,rfl,_,rfl,ifV (λe=>?_) (λe=>⟨rfl,X,λz=>e z.2⟩)⟩;have rr:r::j≠[]/\(gp (r::j)).1=(gp (r::j)).2:=⟨by simp,e⟩;obtain⟨rfl,rfl⟩:=rd rr;refine⟨_,rfl,_,rfl,_,rfl,t,_,_,_,rfl,rfl,SqT.of (D _ _ U),rfl,_,rfl,q,d,lh,g,rs,r::j,ns,(f,c),N,M,rfl,p,R.mono D,by lia,hf,by lia,hR.mono D,nd,D _ _ l.hl,l.sub,l.gb,l.nd,l.ln,D _ _ hg,Y,λg' I kp du ap=>?_⟩;refine k I ((KpD.of D).trans kp) ?_;unfold plF;rw[if_pos rr,nG,mz,mz];exact du
 rintro zU ae σ' H2⟨rfl,X,nr⟩;have D:=s1.trans X;subst ae;refine dP (λσ' I=>σ'=[some (.ref q),some (.ref d),some (.ref t),some (.ref g),some (.ref g1),none]×' KpD q H2 I×' DueAt I q (ns++j.map (·.nm)) (hdF f c j)) ?_ ?_
 ·refine⟨_,rfl,t,_,_,_,rfl,rfl,SqT.of (D _ _ U),rfl,zL0,λx nx=>?_⟩;obtain⟨H3,zq,m,S⟩:=uG (o:=.lst []) nx;rw[zq];have s3:=D.trans m;have L:=SqT.of (K:=K) (s3 _ _ hg);have af:=SqT.of (K:=K) ((X.trans m) _ _ an);refine⟨lh,x,_,rfl,rfl,SqL.of (s3 _ _ l.hl),SqL.of S,?_⟩;have y:=l.gpb
  cases j with
  |nil=>exact⟨_,rfl,iteF ⟨rfl,KpD.of m,by rw[nG,mz];exact R.mono s3⟩⟩
  |cons r j=>
   refine⟨_,rfl,iteT ?_⟩;generalize hW:r::j=W at*;have nW:W≠[]:=by rw[<-hW];simp
   refine⟨_,rfl,_,rfl,_,rfl,t,_,_,_,rfl,rfl,SqT.of (s3 _ _ U),rfl,?_⟩;refine⟨_,rfl,g,_,_,_,rfl,rfl,L,rfl,_,rfl,g1,_,_,_,rfl,rfl,af,rfl,_,_,rfl,rfl,iJ Y.t y.b (by lia),?_⟩;refine⟨_,rfl,g,_,_,_,rfl,rfl,L,rfl,_,rfl,g1,_,_,_,rfl,rfl,af,rfl,_,rfl,g1,_,_,_,rfl,rfl,af,rfl,_,_,rfl,rfl,_,_,rfl,rfl,iJ Y.b (sub_nx y.t y.b) (by lia),zL2,λJ ac=>?_⟩;obtain⟨H4,zq,s4,h4⟩:=uG (o:=.tup [.int (c.1*(gp W).2),.int (c.2*((gp W).1-(gp W).2))]) ac;rw[zq];have ab:=s3.trans s4;refine⟨q,d,lh,J,rs,W,ns,(f,pH c (gp W)),N,M+161,rfl,p,R.mono ab,by lia,hf,by lia,hR.mono ab,nd,ab _ _ l.hl,l.sub,l.gb,l.nd,l.ln,h4,pH_nx Y y,λg' I kp du ap=>?_⟩;refine⟨rfl,(KpD.of (m.trans s4)).trans kp,?_⟩;unfold hdF;rw[if_neg nW];exact du
 rintro zU ae σ' H3⟨rfl,k3,aq⟩;have B:KpD q H H3:=(KpD.of D).trans k3;have R3:=hR.kp p.symm hq B;have P3:=Lp.kp hq B;have T3:=O.kp hq B;have Z:=B _ _ (bD U hq (by intro z;cases z)) U;have L:=B _ _ (bD hg hq (by intro z;cases z)) hg;have bf:=λn=>hdF_nx l hf Y n;have l1:=l.ln;have l2:=Lp.ln;subst ae;refine⟨_,rfl,_,rfl,_,rfl,t,_,_,_,rfl,rfl,SqT.of Z,rfl,_,rfl,q,d,lp,g,rs,pa,_,(hdF f c j,c),N+M+322,M,rfl,p,aq,by rw[k5,kK];lia,bf,by lia,R3,nd,P3.hl,P3.sub,P3.gb,P3.nd,P3.ln,L,Y,λg4 H4 k4 ag ak=>?_⟩;have b4:=iY (N:=N+M+322) (M:=M) (st:=(hdF f c j,c)) Lp.nd Lp.gb Lp.ln bf Y;have m4:=sendS_put (st:=(hdF f c j,c)) (M:=M) Y Lp.gpb;have fin:plF f c j pa ta=taF (bP (hdF f c j,c) pa) ta:=by unfold plF;rw[if_neg nr]
 rw[fin]at k;clear fin bf;generalize bP (hdF f c j,c) pa=st at k ag ak b4 m4⊢;have al:=B.trans k4;obtain⟨ax,aa,_⟩:=aq.ex;have ad:=k4 _ _ (bD Z aa (by intro z;cases z)) Z;have T4:=T3.kp aa k4;have R4:=R3.kp p.symm aa k4;have y:=O.gpb;refine⟨_,rfl,t,_,_,_,rfl,rfl,SqT.of ad,rfl,zL0,λx nx=>?_⟩;obtain⟨H5,zq,m,S⟩:=uG (o:=.lst []) nx;rw[zq];refine⟨lt,x,_,rfl,rfl,SqL.of (m _ _ T4.hl),SqL.of S,?_⟩
 cases ta with
 |nil=>
  refine⟨_,rfl,iteF ?_⟩;refine k H5 (al.trans (KpD.of m)) ?_;rw[nG,mz];unfold taF;rw[if_pos rfl];exact ag.mono m
 |cons r ta=>
  refine⟨_,rfl,iteT ?_⟩;generalize hW:r::ta=W at*;have nW:W≠[]:=by rw[<-hW];simp
  refine⟨_,rfl,_,rfl,t,_,_,_,rfl,rfl,SqT.of (m _ _ ad),rfl,d,lt,rs,W,rfl,R4.mono m,nd,SqL.of (m _ _ T4.hl),O.sub,O.gb,by have:=O.ln;lia,λg6 H6 s6 ar=>?_⟩;have ah:=m.trans s6;have am:=SqT.of (K:=K) (ah _ _ ak);have ai:=SqT.of (K:=K) ar;refine⟨_,rfl,_,rfl,_,rfl,t,_,_,_,rfl,rfl,SqT.of (ah _ _ ad),rfl,?_⟩;refine⟨_,rfl,g4,_,_,_,rfl,rfl,am,rfl,_,rfl,g6,_,_,_,rfl,rfl,ai,rfl,_,_,rfl,rfl,iJ m4.t y.b (by lia),?_⟩;refine⟨_,rfl,g4,_,_,_,rfl,rfl,am,rfl,_,rfl,g6,_,_,_,rfl,rfl,ai,rfl,_,rfl,g6,_,_,_,rfl,rfl,ai,rfl,_,_,rfl,rfl,_,_,rfl,rfl,iJ m4.b (sub_nx y.b y.t) (by lia),zL2,λJ ac=>?_⟩;obtain⟨H7,zq,s7,h7⟩:=uG (o:=.tup [.int (st.2.1*(gp W).2),.int (st.2.2*((gp W).2-(gp W).1))]) ac;rw[zq];have F:=ah.trans s7;refine⟨q,d,lt,J,rs,W,_,(st.1,pT st.2 (gp W)),N+M+322+M+161,M+160+161,rfl,p,ag.mono F,by rw[k5,k5,kK,kK];lia,b4,by lia,R4.mono F,nd,F _ _ T4.hl,O.sub,O.gb,O.nd,O.ln,h7,pT_nx m4 y,λg' I kp du ap=>?_⟩;refine k I ((al.trans (KpD.of F)).trans kp) ?_;unfold taF;rw[if_neg nW];exact du
noncomputable def vl(c:Int×Int):Rat:=Rat.divInt c.1 c.2
theorem eN(c:Int×Int):vl c=(c.1:Rat)/(c.2:Rat):=mU _ _
theorem dO{z:Int}(h:z≠0):(z:Rat)≠0:=λe=>h (by exact_mod_cast e)
theorem vl_plus(hc:c.2≠0)(he:e.2≠0):vl (plP c e)=vl c+vl e:=by
 have a:=dO hc;have b:=dO he;rw[eN,eN,eN];show((c.1*e.2+e.1*c.2:Int):Rat)/((c.2*e.2:Int):Rat)=_;rw[Rat.intCast_add,mq,mq,mq];have j:=lE _ a;have h:=lE _ b;have i:=lE ((c.2:Rat)*(e.2:Rat)) (λz=>(Rat.mul_eq_zero.mp z).elim a b);rw[lO,lO,lO];grind
theorem vl_times(hc:c.2≠0)(he:e.2≠0):vl (tmP c e)=vl c*vl e:=by
 have a:=dO hc;have b:=dO he;rw[eN,eN,eN];show((c.1*e.1:Int):Rat)/((c.2*e.2:Int):Rat)=_;rw[mq,mq];have j:=lE _ a;have h:=lE _ b;have i:=lE ((c.2:Rat)*(e.2:Rat)) (λz=>(Rat.mul_eq_zero.mp z).elim a b);rw[lO,lO,lO];grind
theorem dW:∀{ws:List WR}{st:DuS},(∀r∈ws,GB r.t r.b)->st.2.2≠0->(∀m,(st.1 m).2≠0)->vl ((bP st ws).1 n)=vl (st.1 n)+sA (vl st.2) (ws.map WR.d) n/\(∀m,((bP st ws).1 m).2≠0)/\(bP st ws).2.2≠0/\vl (bP st ws).2=going (vl st.2) (ws.map WR.d)
 |[],st,_,h1,h2=>⟨by rw[nG,ja];show vl (st.1 n)=_;grind,h2,h1,rfl⟩
 |r::ws,st,gb,h1,h2=>by
  have h:=gb r lG;have a:r.b≠0:=by have:=h.b0;omega
  have g:vl (dH st r).2=vl st.2*aW r.d.kd r.d.x:=by
   rw[WR.d_gain h];exact vl_times (c:=st.2) (e:=(r.t,r.b)) h1 a
  have p:∀m,((dH st r).1 m).2≠0:=λm=>by
   show(upf st.1 r.nm _ m).2≠0;unfold upf
   split
   ·exact Int.mul_ne_zero (h2 _) h1
   ·exact h2 m
  obtain⟨j,i,l,o⟩:=dW (n:=n) (ws:=ws) (st:=dH st r) (λx q=>gb x (lv _ q)) (Int.mul_ne_zero h1 a) p;refine⟨?_,i,l,?_⟩
  ·show vl ((bP (dH st r) ws).1 n)=_;rw[j,md,jq,<-g,WR.d_nm]
   have:vl ((dH st r).1 n)=vl (st.1 n)+if n=r.nm then vl st.2 else 0:=by
    show vl (upf st.1 r.nm _ n)=_;unfold upf
    split
    ·rename_i e;rw[e];exact vl_plus (h2 _) h1
    ·grind
   rw[this];grind
  ·show vl (bP (dH st r) ws).2=_;rw[o,md,going_cons,<-g]
theorem jW(gb:∀r∈ws,GB r.t r.b):aM (ws.map WR.d)=vl (gp ws)/\1<=(gp ws).1/\1<=(gp ws).2:=by
 have b:=gp_bd (n:=40) (ws:=ws) (λr a=>(gb r a).all) ws.length (kM _);rw[kZ]at b;have h:=(dW (n:="") (ws:=ws) (st:=(λ_=>(0,1),(1,1))) gb (by decide) λ_=>by show(1:Int)≠0;decide).2.2.2;rw[sendS_two]at h;refine⟨?_,b.t0,b.b0⟩;have e:((1:Int)*(gp ws).1,(1:Int)*(gp ws).2)=gp ws:=by rw[Int.one_mul,Int.one_mul]
 show going 1 (ws.map WR.d)=_;have h:vl ((1:Int)*(gp ws).1,(1:Int)*(gp ws).2)=going (vl (1,1)) (ws.map WR.d):=h;rw[e,show vl (1,1)=1 from rfl]at h;exact h.symm
theorem iC(h:1<=c.2):(vl c=1↔c.1=c.2)/\(1<vl c↔c.2<c.1)/\(vl c<1↔c.1<c.2)/\(0<=vl c↔0<=c.1):=by
 have o:(0:Rat)<(c.2:Rat):=by exact_mod_cast(show(0:Int)<c.2 by lia)
 have e:vl c*(c.2:Rat)=(c.1:Rat):=by rw[eN];exact mw (by grind)
 have l:∀{x y:Rat},x<y->x*(c.2:Rat)<y*(c.2:Rat):=λ{x y}q=>by have:=cV (show 0<y-x by grind) o;grind
 have p:=Rat.lt_irrefl (a:=vl c);have b:vl c<1∨vl c=1∨1<vl c:=by grind
 have m:vl c<1->c.1<c.2:=λq=>by have:=l q;rw[e,Rat.one_mul]at this;exact_mod_cast this
 have j:1<vl c->c.2<c.1:=λq=>by have:=l q;rw[e,Rat.one_mul]at this;exact_mod_cast this
 have i:vl c=1->c.1=c.2:=λq=>by rw[q,Rat.one_mul]at e;exact_mod_cast e.symm
 refine⟨⟨i,λq=>?_⟩,⟨j,λq=>?_⟩,⟨m,λq=>?_⟩,⟨λq=>?_,λq=>?_⟩⟩
 ·rcases b with z|z|z
  ·have:=m z;lia
  ·exact z
  ·have:=j z;lia
 ·rcases b with z|z|z
  ·have:=m z;lia
  ·have:=i z;lia
  ·exact z
 ·rcases b with z|z|z
  ·exact z
  ·have:=i z;lia
  ·have:=j z;lia
 ·have:=eC q (lI o)
  rw[e]at this
  exact_mod_cast this
 ·refine lN λz=>?_
  have:vl c<0:=by grind
  have:=l this
  rw[e,Rat.zero_mul]at this
  have:c.1<0:=by exact_mod_cast this
  lia
theorem pH_val(hc:c.2≠0)(hg:1<=g.2)(h:g.2<g.1):vl (pH c g)=vl c/df (vl g):=by
 have b:=dO hc;have j:=dO (show g.2≠0 by lia);have a:=dO (show g.1-g.2≠0 by lia);have e:df (vl g)=vl g-1:=if_pos ((iC hg).2.1.mpr h);rw[e];have ev:vl g*(g.2:Rat)=(g.1:Rat):=by rw[eN];exact mw j
 have l:vl c*(c.2:Rat)=(c.1:Rat):=by rw[eN];exact mw b
 rw[Rat.intCast_sub]at a;have i:vl g-1≠0:=λz=>a (by rw[<-ev];grind);rw[eN];show((c.1*g.2:Int):Rat)/((c.2*(g.1-g.2):Int):Rat)=_;rw[mq,mq,Rat.intCast_sub,<-l,<-ev];have o:=lE _ i;have m:=lE ((c.2:Rat)*(vl g*(g.2:Rat)-(g.2:Rat))) (λz=>(Rat.mul_eq_zero.mp z).elim b λq=>i (by have:=lE _ j;grind));rw[lO,lO];grind
theorem pT_val(hc:c.2≠0)(hg:1<=g.2)(h:g.1<g.2):vl (pT c g)=vl c/df (vl g):=by
 have b:=dO hc;have j:=dO (show g.2≠0 by lia);have a:=dO (show g.2-g.1≠0 by lia);have lt:=(iC hg).2.2.1.mpr h;have e:df (vl g)=1-vl g:=if_neg (by grind);rw[e];have ev:vl g*(g.2:Rat)=(g.1:Rat):=by rw[eN];exact mw j
 have l:vl c*(c.2:Rat)=(c.1:Rat):=by rw[eN];exact mw b
 rw[Rat.intCast_sub]at a;have i:1-vl g≠0:=λz=>a (by rw[<-ev];grind);rw[eN];show((c.1*g.2:Int):Rat)/((c.2*(g.2-g.1):Int):Rat)=_;rw[mq,mq,Rat.intCast_sub,<-l,<-ev];have o:=lE _ i;have m:=lE ((c.2:Rat)*((g.2:Rat)-vl g*(g.2:Rat))) (λz=>(Rat.mul_eq_zero.mp z).elim b λq=>i (by have:=lE _ j;grind));rw[lO,lO];grind
structure StV(hd pa ta:List WR)(c:Int×Int):Prop where
 g1:∀r∈hd,GB r.t r.b
 g2:∀r∈pa,GB r.t r.b
 g3:∀r∈ta,GB r.t r.b
 c2:c.2≠0
 he:hd≠[]->(gp hd).1=(gp hd).2/\pa=[]/\ta=[]∨(gp hd).2<(gp hd).1
 te:ta≠[]->(gp ta).1<(gp ta).2
theorem mapEW:ws.map WR.d=[]↔ws=[]:=List.map_eq_nil_iff
theorem plF_val(h:StV hd pa ta c)(hf:∀m,(f m).2≠0)(ad:List Addr):(∀n,vl (plF f c hd pa ta n)=vl (f n)+sdA ⟨hd.map WR.d,pa.map WR.d,ta.map WR.d,vl c,ad⟩ n)/\∀m,(plF f c hd pa ta m).2≠0:=by
 obtain⟨a,y,i⟩:=jW h.g1;obtain⟨x,B,t⟩:=jW h.g3;unfold plF;by_cases e:hd≠[]/\(gp hd).1=(gp hd).2
 ·rw[if_pos e];obtain⟨_,rfl,rfl⟩:=(h.he e.1).resolve_right λz=>by have:=e.2;lia
  refine⟨λn=>?_,(dW (n:="") (st:=(f,c)) h.g1 h.c2 hf).2.1⟩;rw[(dW (n:=n) (st:=(f,c)) h.g1 h.c2 hf).1];unfold sdA;show _=vl (f n)+((if hd.map WR.d≠[]/\aM (hd.map WR.d)=1 then sA (vl c) (hd.map WR.d) n else _)+sA (vl c) [] n+enA [] _ n);rw[if_pos ⟨λz=>e.1 (mapEW.mp z),by rw[a];exact(iC i).1.mpr e.2⟩,ja];unfold enA;rw[if_pos rfl];show vl (f n)+sA (vl c) (hd.map WR.d) n=_;grind
 ·rw[if_neg e]
  have p:∀n,vl (hdF f c hd n)=vl (f n)+enA (hd.map WR.d) (vl c) n:=λn=>by
   unfold hdF enA;by_cases z:hd=[]
   ·rw[if_pos z,if_pos (mapEW.mpr z)];grind
   ·have lt:=(h.he z).resolve_left λq=>e ⟨z,q.1⟩;rw[if_neg z,if_neg λq=>z (mapEW.mp q),(dW (n:=n) (st:=(f,pH c (gp hd))) h.g1 (Int.mul_ne_zero h.c2 (by lia)) hf).1];show vl (f n)+sA (vl (pH c (gp hd))) _ n=_;rw[pH_val h.c2 i lt,a,eO]
  have j:∀m,(hdF f c hd m).2≠0:=by
   unfold hdF;by_cases z:hd=[]
   ·rw[if_pos z];exact hf
   ·have lt:=(h.he z).resolve_left λq=>e ⟨z,q.1⟩;rw[if_neg z];exact(dW (n:="") (st:=(f,pH c (gp hd))) h.g1 (Int.mul_ne_zero h.c2 (by lia)) hf).2.1
  obtain⟨_,b,o,w⟩:=dW (n:="") (st:=(hdF f c hd,c)) h.g2 h.c2 j;have r:=λn=>(dW (n:=n) (st:=(hdF f c hd,c)) h.g2 h.c2 j).1;have A:(if hd.map WR.d≠[]/\aM (hd.map WR.d)=1 then sA (vl c) (hd.map WR.d)=sA (vl c) (hd.map WR.d) else True):=by split<;>trivial
  have l:¬(hd.map WR.d≠[]/\aM (hd.map WR.d)=1):=λq=>e ⟨λz=>q.1 (mapEW.mpr z),(iC i).1.mp (by rw[<-a];exact q.2)⟩;unfold taF sdA;dsimp only;by_cases z:ta=[]
  ·rw[if_pos z];refine⟨λn=>?_,b⟩;rw[if_neg l,r n];show vl (hdF f c hd n)+sA (vl c) _ n=_;rw[p n,z];unfold enA;rw[nG,if_pos (c:=([]:List WD)=[]) rfl];grind
  ·have lt:=h.te z;rw[if_neg z];have s:(pT (bP (hdF f c hd,c) pa).2 (gp ta)).2≠0:=Int.mul_ne_zero o (by lia);refine⟨λn=>?_,(dW (n:="") (st:=((bP (hdF f c hd,c) pa).1,pT (bP (hdF f c hd,c) pa).2 (gp ta))) h.g3 s b).2.1⟩;rw[if_neg l,(dW (n:=n) (st:=((bP (hdF f c hd,c) pa).1,pT (bP (hdF f c hd,c) pa).2 (gp ta))) h.g3 s b).1,r n];show vl (hdF f c hd n)+sA (vl c) _ n+sA (vl (pT (bP (hdF f c hd,c) pa).2 (gp ta))) _ n=_;rw[p n,pT_val o t lt,w];show _+_+sA (going (vl c) (pa.map WR.d)/_) _ n=_;rw[fh,eO (_/_)];unfold enA;rw[if_neg (c:=ta.map WR.d=[]) λq=>z (mapEW.mp q),x];grind
theorem hZ:∀{ws:List WR}{st:DuS},(∀r∈ws,GB r.t r.b)->0<st.2.2->(∀m,0<(st.1 m).2)->(∀m,0<((bP st ws).1 m).2)/\0<(bP st ws).2.2
 |[],_,_,h,k=>⟨k,h⟩
 |r::ws,st,g,h,k=>by
  have b:=(g r (lG ..)).b0;refine hZ (ws:=ws) (st:=dH st r) (λx a=>g x (lv _ a)) (nC h (by omega)) λm=>?_;show 0<(upf st.1 r.nm _ m).2;unfold upf
  split
  ·exact nC (k r.nm) h
  ·exact k m
theorem plF_pos(h:StV hd pa ta c)(hc:0<c.2)(hf:∀m,0<(f m).2):∀m,0<(plF f c hd pa ta m).2:=by
 unfold plF
 split
 ·exact(hZ h.g1 (st:=(f,c)) hc hf).1
 ·rename_i z
  have e:∀m,0<(hdF f c hd m).2:=by
   unfold hdF
   split
   ·exact hf
   ·rename_i ne;have i:=(h.he ne).resolve_left λq=>z ⟨ne,q.1⟩;exact(hZ h.g1 (st:=(f,pH c (gp hd))) (nC hc (by lia)) hf).1
  obtain⟨a,b⟩:=hZ h.g2 (st:=(hdF f c hd,c)) hc e;unfold taF
  split
  ·exact a
  ·rename_i ne;have lt:=h.te ne;exact(hZ h.g3 (st:=((bP (hdF f c hd,c) pa).1,pT (bP (hdF f c hd,c) pa).2 (gp ta))) (nC b (by lia)) a).1
noncomputable def EEr(rs:List WR):Nat:=rs.foldr (λr e=>r.t.natAbs*r.b.natAbs*e) 1
theorem eer_dv:∀{rs:List WR}{r:WR},r∈rs->r.t∣(EEr rs:Int)/\r.b∣(EEr rs:Int)
 |x::rs,r,h=>by
  have e:((EEr (x::rs):Nat):Int)=(x.t.natAbs:Int)*(x.b.natAbs:Int)*(EEr rs:Int):=by
   show((x.t.natAbs*x.b.natAbs*EEr rs:Nat):Int)=_;rw[Int.natCast_mul,Int.natCast_mul]
  rw[e];rcases lx.mp h with rfl|z
  ·exact⟨mG (mG (Int.dvd_natAbs.mpr (Int.dvd_refl _)) (Int.dvd_mul_right _ _)) (Int.dvd_mul_right _ _),mG (mG (Int.dvd_natAbs.mpr (Int.dvd_refl _)) (nK _ _)) (Int.dvd_mul_right _ _)⟩
  ·obtain⟨u,v⟩:=eer_dv z;exact⟨mG u (nK _ _),mG v (nK _ _)⟩
theorem eer_bd:∀{rs:List WR},(∀r∈rs,GB r.t r.b)->0<EEr rs/\EEr rs<=2^(80*rs.length)
 |[],_=>⟨by decide,by decide⟩
 |x::rs,h=>by
  obtain⟨e,c⟩:=eer_bd λr j=>h r (lv _ j);obtain⟨q,m,l,o⟩:=h x (lG ..);have p:(2:Int)^40=((2^40:Nat):Int):=by decide
  have i:x.t.natAbs<=2^40:=by omega
  have a:x.b.natAbs<=2^40:=by omega
  refine⟨nQ (nQ (by omega) (by omega)) e,?_⟩;rw[lR,show 80*(rs.length+1)=40+40+80*rs.length by omega,l0,l0];exact lU (lU i a) c
theorem gq_divInt{D:Nat}(hb:b∣(D:Int))(b0:b≠0):Gq D (Rat.divInt t b):=by
 obtain⟨k,a⟩:=hb;refine⟨t*k,?_⟩;have h:=dO b0;rw[mU,mq]
 have e:((D:Nat):Rat)=(b:Rat)*(k:Rat):=by
  rw[<-mq,<-a];rfl
 rw[e,<-nM,mw h]
theorem gnE{E:Nat}{r:WR}(h:GB r.t r.b)(dv:r.t∣(E:Int)/\r.b∣(E:Int)):GnE E r.d:=by
 have a:r.b≠0:=by have:=h.b0;lia
 have c:r.t≠0:=by have:=h.t0;lia
 have l:=dO a;have i:=dO c;have m:(0:Rat)<(r.b:Rat):=by exact_mod_cast(show(0:Int)<r.b by have:=h.b0;lia)
 have j:(0:Rat)<(r.t:Rat):=by exact_mod_cast(show(0:Int)<r.t by have:=h.t0;lia)
 have e:=WR.d_gain h;refine⟨?_,by rw[e];exact gq_divInt dv.2 a,?_⟩
 ·rw[e,mU,lO];exact cV j (fu m)
 ·have:(Rat.divInt r.t r.b)⁻¹=Rat.divInt r.b r.t:=by
   rw[mU,mU,lO,lO];have o:=lE _ l;have p:=lE _ i;have s:=lE ((r.t:Rat)*(r.b:Rat)⁻¹) (λz=>(Rat.mul_eq_zero.mp z).elim i λq=>by rw[q]at o;grind);grind
  rw[e,this];exact gq_divInt dv.1 c
theorem RsG.gn(h:RsG sp rs)(hr:r∈rs):GnE (EEr rs) r.d/\SmR r.d.x/\Bd 40 (aW r.d.kd r.d.x):=by
 obtain⟨g,_⟩:=h.all r hr;exact⟨gnE g.gb (eer_dv hr),(WR.d_sm g.gb).1,(WR.d_sm g.gb).2.1⟩
theorem RsG.eer(h:RsG sp rs):0<EEr rs/\EEr rs<=2^960:=by
 obtain⟨a,b⟩:=eer_bd λr c=>(h.all r c).1.gb;exact⟨a,kW b (lF (by decide) (by have:=h.len;lia))⟩
theorem szD{D m:Nat}(hb:b∣(D:Int))(b0:1<=b)(t0:0<=t)(tm:t<=((2^m:Nat):Int)):SzQ D m (Rat.divInt t b):=by
 have h:(0:Rat)<(b:Rat):=by exact_mod_cast(show(0:Int)<b by lia)
 have e:Rat.divInt t b*(b:Rat)=(t:Rat):=by rw[mU];exact mw (by grind)
 have a:0<=Rat.divInt t b:=by
  rw[mU,lO];exact eC (by exact_mod_cast t0) (lI (fu h))
 refine⟨a,gq_divInt hb (by lia),?_⟩;have i:(1:Rat)<=(b:Rat):=by exact_mod_cast b0
 have:=mH i a
 have c:(t:Rat)<=((2^m:Nat):Rat):=by exact_mod_cast tm
 grind
theorem df_sz(h2:1<=g.2)(fb:FB u v)(e:g.1*v=u*g.2)(ne:g.1≠g.2):∃W:Nat,0<W/\W<=2^20/\SzQ W 20 (df (vl g))⁻¹:=by
 have h:(0:Rat)<(v:Rat):=by exact_mod_cast(show(0:Int)<v by have:=fb.b0;lia)
 have s:(0:Rat)<(g.2:Rat):=by exact_mod_cast(show(0:Int)<g.2 by lia)
 have ev:vl g*(g.2:Rat)=(g.1:Rat):=by rw[eN];exact mw (by grind)
 have x:(g.1:Rat)*(v:Rat)=(u:Rat)*(g.2:Rat):=by rw[<-mq,<-mq,e]
 have ex:vl g*(v:Rat)=(u:Rat):=by
  have:(vl g*(v:Rat)-(u:Rat))*(g.2:Rat)=0:=by grind
  rcases Rat.mul_eq_zero.mp this with z|z
  ·grind
  ·grind
 have B:=fb.t0;have y:=fb.t1;have p:=fb.b0;have r:=fb.b1;have m:u≠v:=λz=>ne (by rw[z]at e;exact Int.eq_of_mul_eq_mul_right (show v≠0 by lia) (by rw[e,mf]))
 have a:∀w:Int,1<=w->w<=2^20->df (vl g)*(v:Rat)=(w:Rat)->∃W:Nat,0<W/\W<=2^20/\SzQ W 20 (df (vl g))⁻¹:=λw j t b=>by
  have D:(0:Rat)<(w:Rat):=by exact_mod_cast(show(0:Int)<w by lia)
  have i:df (vl g)≠0:=λz=>by rw[z,Rat.zero_mul]at b;grind
  have:(df (vl g))⁻¹=Rat.divInt v w:=by
   rw[mU,<-b,lO];have A:=lE _ i;have o:=lE _ (show(v:Rat)≠0 by grind);have q:=lE (df (vl g)*(v:Rat)) (by rw[b];grind);grind
  rw[this];have l:(2:Int)^20=((2^20:Nat):Int):=by decide
  exact⟨w.toNat,by lia,by lia,szD (by rw[Int.toNat_of_nonneg (by lia)];exact Int.dvd_refl _) j (by lia) (by lia)⟩
 by_cases c:1<vl g
 ·refine a (u-v) ?_ (by lia) (by unfold df;rw[if_pos c,Rat.intCast_sub];grind)
  have:(v:Rat)<(u:Rat):=by have:=cV (show 0<vl g-1 by grind) h;grind
  have:v<u:=by exact_mod_cast this
  lia
 ·refine a (v-u) ?_ (by lia) (by unfold df;rw[if_neg c,Rat.intCast_sub];grind)
  have:(u:Rat)<=(v:Rat):=by have:=eC (show 0<=1-vl g by grind) (lI h);grind
  have:u<=v:=by exact_mod_cast this
  lia
theorem SzQ.add(h:SzQ D m x)(k:SzQ D m y):SzQ D (m+1) (x+y):=by
 refine⟨by have:=h.nn;have:=k.nn;grind,h.gq.add k.gq,?_⟩;have e:((2^(m+1):Nat):Rat)=((2^m:Nat):Rat)+((2^m:Nat):Rat):=by rw[Nat.pow_succ,Nat.mul_two,Rat.natCast_add]
 rw[e]
 have:=h.le
 have:=k.le
 grind
theorem SdO.sz(h:SdO rs hd pa ta c)(G:RsG sp rs)(ad:List Addr):∃D:Nat,0<D/\D<=2^6000/\∀n,SzQ D 302 (sdA ⟨hd.map WR.d,pa.map WR.d,ta.map WR.d,vl c,ad⟩ n):=by
 obtain⟨E0,K⟩:=G.eer
 have w:∀{a:List WR},(∀r∈a,r∈rs)->∀d∈a.map WR.d,GnE (EEr rs) d/\SmR d.x/\Bd 40 (aW d.kd d.x):=λ{a}s d hd=>by
  obtain⟨r,hr,rfl⟩:=kQ.mp hd;exact G.gn (s r hr)
 generalize EEr rs=E at E0 K w
 have X:∀{a:List WR},(a.map (·.nm)).Nodup->((a.map WR.d).map (·.nm)).Nodup:=λ{a}q=>by
  rw[lY,show((λx:WD=>x.nm)∘WR.d)=(λr:WR=>r.nm) from funext λr=>WR.d_nm r];exact q
 have sa:∀{a:List WR}(n:Str),Prq a->(∀r∈a,r∈rs)->SzQ (E^3) 120 (sA 1 (a.map WR.d) n):=λ{a}n q s=>(kx (B:=40) (m:=3) (X q.nd) (w s) (by rw[kK];have:=q.len;lia)).1 n;have b0:=h.cb.b0;have b1:=h.cb.b1;have O:(2:Int)^10=1024:=by decide
 have J:(2:Nat)^10=1024:=by decide
 have R:(2:Int)^40=((2^40:Nat):Int):=by decide
 have aa:=h.cb.t0;have P:=h.cb.t1;have l:SzQ c.2.toNat 40 (vl c):=szD (by rw[Int.toNat_of_nonneg (by lia)];exact Int.dvd_refl _) b0 (by lia) (by lia);obtain⟨C,F⟩:∃C,C=c.2.toNat:=⟨_,rfl⟩;rw[<-F]at l;have C0:0<C:=by lia
 have T:C<=2^10:=by lia
 clear F
 have o:∀{a:List WR},Prq a->(a≠[]->∃u v,FB u v/\(gp a).1*v=u*(gp a).2)->yE1 λ(W:Nat)=>0<W×' W<=2^20×'(a.map WR.d≠[]->aM (a.map WR.d)≠1->SzQ W 20 (df (aM (a.map WR.d)))⁻¹):=λ{a}q f=>by
  by_cases z:a=[]∨(gp a).1=(gp a).2
  ·refine⟨1,by decide,by decide,λp S=>?_⟩;rcases z with z|z
   ·exact absurd (mapEW.mpr z) p
   ·obtain⟨t,_,A⟩:=jW q.gb;exact absurd (by rw[t];exact(iC A).1.mpr z) S
  ·rw[not_or]at z;obtain⟨u,v,fb,e⟩:=f z.1;obtain⟨t,_,A⟩:=jW q.gb;obtain⟨W,w0,Z,s⟩:=df_sz A fb e z.2;exact⟨W,w0,Z,λ_ _=>by rw[t];exact s⟩
 obtain⟨i,u0,U,d1⟩:=o h.ph h.hf;obtain⟨b,v0,Y,d2⟩:=o h.pt h.tf;have M:E^6<=2^5760:=kW (Nat.pow_le_pow_left K 6) (by rw[<-Nat.pow_mul];exact kM _);refine⟨C*(i*(b*E^6)),nQ C0 (nQ u0 (nQ v0 (Nat.pow_pos E0))),?_,λn=>?_⟩
 ·refine kW (lU T (lU U (lU Y M))) ?_;rw[<-l0,<-l0,<-l0];exact lF (by decide) (by decide)
 have j:E^6=E^3*E^3:=l0 E 3 3;have H:C*E^3∣C*(i*(b*E^6)):=mK _ ⟨i*(b*E^3),by rw[j];simp only[Nat.mul_left_comm,Nat.mul_comm]⟩;have q2:C*(i*E^3)∣C*(i*(b*E^6)):=mK _ (mK _ ⟨b*E^3,by rw[j];simp only[Nat.mul_left_comm,Nat.mul_comm]⟩);have N:C*(E^3*(b*E^3))∣C*(i*(b*E^6)):=mK _ ⟨i,by rw[j];simp only[Nat.mul_left_comm,Nat.mul_comm]⟩
 have e1:SzQ (C*(i*(b*E^6))) 300 (if hd.map WR.d≠[]/\aM (hd.map WR.d)=1 then sA (vl c) (hd.map WR.d) n else enA (hd.map WR.d) (vl c) n):=by
  split
  ·rw[eO];exact(l.mul (sa n h.ph h.ih)).mono H (by decide)
  ·rename_i nf;unfold enA
   split
   ·exact SzQ.zero
   ·rename_i L;rw[lO,nM];exact(l.mul ((d1 L λz=>nf ⟨L,z⟩).mul (sa n h.ph h.ih))).mono q2 (by decide)
 have e2:SzQ (C*(i*(b*E^6))) 300 (sA (vl c) (pa.map WR.d) n):=by
  rw[eO];exact(l.mul (sa n h.pp h.ip)).mono H (by decide)
 have e3:SzQ (C*(i*(b*E^6))) 300 (enA (ta.map WR.d) (vl c*aM (pa.map WR.d)) n):=by
  unfold enA
  split
  ·exact SzQ.zero
  ·rename_i I;obtain⟨Q,_,t2⟩:=jW h.pt.gb
   have p:aM (ta.map WR.d)≠1:=λz=>by
    rw[Q]at z
    have:=(iC t2).1.mp z
    have:=h.te λy=>I (mapEW.mpr y)
    lia
   have gz:SzQ (E^3) 120 (aM (pa.map WR.d)):=by
    have:=(ix (B:=40) (m:=3) (w h.ip) (by rw[kK];exact h.lp)).1
    rw[fh,Rat.one_mul]at this;exact this
   rw[lO,nM,nM];exact(l.mul (gz.mul ((d2 I p).mul (sa n h.pt h.it)))).mono N (by decide)
 unfold sdA;exact((e1.add e2).add (e3.mono (Nat.dvd_refl _) (by decide))).mono (Nat.dvd_refl _) (by decide)
structure Ends(ds:List WD)(x y:Str):Prop where
 b:(bO ds)[0]?=some x
 e:(bO ds).getLast?=some y
theorem meet1{a:List WD}:Meet [bO a]:=λi x y b c=>by
 cases i with
 |zero=>cases c
 |succ i=>cases b
theorem meet2{a b:List WD}(ha:Ends a x y)(hb:Ends b y z):Meet [bO a,bO b]:=λi u v c h=>by
 match i,c,h with
 |0,c,h=>cases c;cases h;rw[ha.e,hb.b]
theorem meet3{a b c:List WD}(ha:Ends a x y)(hb:Ends b y z)(hc:Ends c z u):Meet [bO a,bO b,bO c]:=λi p q h j=>by
 match i,h,j with
 |0,h,j=>cases h;cases j;rw[ha.e,hb.b]
 |1,h,j=>cases h;cases j;rw[hb.e,hc.b]
theorem road_t(h0:¬(hd.isEmpty=true/\pa.isEmpty=true/\ta.isEmpty=true))(h1:hd.isEmpty=false->rwB 1 hd=true)(h2:ta.isEmpty=false->rwB (-1) ta=true)(h3:(bO pa).Nodup)(h4:Meet (iV [hd,pa,ta])):roadB hd pa ta=true:=by
 unfold roadB;rw[meetB_t h4,lD h3]
 cases e1:hd.isEmpty<;>cases e2:ta.isEmpty<;>cases e3:pa.isEmpty<;>simp_all
theorem meet_all(h1:hd.isEmpty=false->Ends hd x x)(h2:pa.isEmpty=false->Ends pa x y)(h2':pa.isEmpty=true->x=y)(h3:ta.isEmpty=false->Ends ta y y):Meet (iV [hd,pa,ta]):=by
 unfold iV
 cases e1:hd.isEmpty<;>cases e2:pa.isEmpty<;>cases e3:ta.isEmpty<;>simp only[List.filter,e1,e2,e3,Bool.not_true,Bool.not_false,List.map]
 ·exact meet3 (h1 e1) (h2 e2) (h3 e3)
 ·exact meet2 (h1 e1) (h2 e2)
 ·have:=h2' e2
  subst this;exact meet2 (h1 e1) (h3 e3)
 ·exact meet1
 ·exact meet2 (h2 e2) (h3 e3)
 ·exact meet1
 ·exact meet1
 ·exactλi x y h=>by simp at h
theorem fF:∀{l:List WD}{p q:Str},PthW p l q->l≠[]->bO l=p::l.map (·.go)/\bO l=l.map (·.st)++[q]
 |[],_,_,_,n=>absurd rfl n
 |[x],_,_,h,_=>by
  obtain⟨a,b⟩:=h;subst a;exact⟨rfl,by rw[<-show x.go=_ from b];rfl⟩
 |x::y::r,_,_,h,_=>by
  obtain⟨a,b⟩:=h;subst a;obtain⟨c,e⟩:=fF b (List.cons_ne_nil y r);refine⟨rfl,?_⟩;show x.st::(x.go::(y::r).map (·.go))=x.st::((y::r).map (·.st)++[_]);rw[<-e,c]
theorem ky(h:PthW p l q)(n:l≠[]):Ends l p q:=by
 obtain⟨a,b⟩:=fF h n;exact⟨by rw[a];rfl,by rw[b,List.getLast?_append];rfl⟩
theorem ring_b(ne:l≠[])(R:Rd p l):ringB (bO l)=true:=by
 have pt:=R.pt;have E:=ky pt ne;obtain⟨a,c⟩:=fF pt ne;unfold ringB;rw[if_neg (by rw[a];exact List.cons_ne_nil _ _),if_pos (by rw[E.b,E.e]),a];refine lD ?_;show(l.map (·.go)).Nodup
 cases l with
 |nil=>exact mB
 |cons x r=>
  rw[a]at c;have i:(x::r).map (·.go)=r.map (·.st)++[p]:=(List.cons.inj c).2;have h:(x.st::r.map (·.st)).Nodup:=R.nd;rw[show x.st=p from pt.1]at h;rw[i];exact(List.perm_append_singleton p (r.map (·.st))).nodup_iff.mpr h
theorem sgn_one(h:0<x):sgn x=1:=by
 have h:=(iD x).mpr h;unfold sgn at h⊢;by_cases c:0<x.num
 ·rw[if_pos c]
 ·rw[if_neg c]at h;by_cases d:x.num<0
  ·rw[if_pos d]at h
   lia
  ·rw[if_neg d]at h
   lia
theorem sgn_neg(h:x<0):sgn x=-1:=by
 have h:=(sgn_lt x).mpr h;unfold sgn at h⊢;by_cases c:0<x.num
 ·rw[if_pos c]at h
  lia
 ·rw[if_neg c]at h⊢;by_cases d:x.num<0
  ·rw[if_pos d]
  ·rw[if_neg d]at h
   lia
theorem rwB_of{w:Int}(ne:l≠[])(R:Rd p l)(h:grw l=w):rwB w l=true:=by
 unfold rwB;rw[ring_b ne R,Bool.true_and];exact lD h
structure HsO(ns:List WD)(s:SD):Prop where
 ge:Geo s.rg s.pa s.tl
 am:0<s.am
 bd:Bd 223600 s.am
 kd:(s.rg≠[]/\aM s.rg=1/\s.pa=[]/\s.tl=[])∨((s.rg≠[]->1<aM s.rg)/\(s.tl≠[]->aM s.tl<1))
 lg:∀l,l=s.rg∨l=s.pa∨l=s.tl->(∀d∈l,d∈ns)/\l.length<=4/\(l.map (·.nm)).Nodup
 sz:∃D:Nat,0<D/\D<=2^240000/\∀n,SzQ D 6000 (sdA s n)
theorem HsO.strand(h:HsO ns s):strandB s.am s.rg s.pa s.tl=true/\(fU s.rg s.pa s.tl=false->(s.rg.isEmpty=false->aM s.rg-1≠0)/\(s.tl.isEmpty=false->1-aM s.tl≠0))/\strA s.am s.rg s.pa s.tl=sdA s:=by
 have o:decide (0<sgn s.am)=true:=lD ((iD _).mpr h.am);have ne:∀{l:List WD},l≠[]->l.isEmpty=false:=λ{l}z=>by cases l with|nil=>exact absurd rfl z|cons _ _=>rfl
 have a:∀{l:List WD},l.isEmpty=false->l≠[]:=λ{l}z y=>by rw[y]at z;cases z
 unfold strandB strA;rw[o,Bool.true_and];obtain⟨nn,p,q,pt,c,i,j⟩:=h.ge;rcases h.kd with⟨z0,g1,b,e⟩|⟨g1,g2⟩
 ·have r:fU s.rg s.pa s.tl=true:=by
   unfold fU;rw[b,e,rwB_of z0 (i z0) (w:=0) (by unfold grw;rw[g1];decide+kernel)];rfl
  rw[r];refine⟨rfl,λz=>(Bool.noConfusion z),funext λn=>?_⟩;unfold sdA enA;rw[if_pos rfl,if_pos ⟨z0,g1⟩,b,e,ja,if_pos rfl,m9,m9]
 ·have r:fU s.rg s.pa s.tl=false:=by
   unfold fU rwB;by_cases z:s.rg=[]
   ·rw[z,show ringB (bO [])=false from rfl,Bool.false_and,Bool.and_false,Bool.and_false]
   ·rw[show decide (grw s.rg=0)=false from lz (by unfold grw;rw[sgn_one (by have:=g1 z;grind)];decide),Bool.and_false,Bool.and_false,Bool.and_false]
  have rd:roadB s.rg s.pa s.tl=true:=by
   refine road_t (λz=>nn ⟨List.isEmpty_iff.mp z.1,List.isEmpty_iff.mp z.2.1,List.isEmpty_iff.mp z.2.2⟩) (λz=>?_) (λz=>?_) ?_ (meet_all (x:=p) (y:=q) (λz=>ky (i (a z)).pt (a z)) (λz=>ky pt (a z)) (λz=>?_) λz=>ky (j (a z)).pt (a z))
   ·exact rwB_of (a z) (i (a z)) (sgn_one (by have:=g1 (a z);grind))
   ·exact rwB_of (a z) (j (a z)) (sgn_neg (by have:=g2 (a z);grind))
   ·by_cases z:s.pa=[]
    ·rw[z];exact mB
    ·rw[(fF pt z).1];exact c
   ·rw[List.isEmpty_iff.mp z]at pt;exact pt
  rw[r,rd];refine⟨rfl,λ_=>⟨λz=>by have:=g1 (a z);grind,λz=>by have:=g2 (a z);grind⟩,funext λn=>?_⟩;have t:¬(s.rg≠[]/\aM s.rg=1):=(by rintro⟨b,e⟩;exact by have:=g1 b;grind);unfold sdA roadA enA;rw[if_neg (show¬false=true by decide),if_neg t]
  have A:(if s.rg.isEmpty=true then(0:Rat) else sA (s.am/(aM s.rg-1)) s.rg n)=if s.rg=[]then 0 else s.am/df (aM s.rg)*sA 1 s.rg n:=by
   by_cases z:s.rg=[]
   ·rw[z];rfl
   ·rw[if_neg z,ne z,if_neg (show¬false=true by decide),eO,show df (aM s.rg)=aM s.rg-1 from if_pos (g1 z)]
  have m:(if s.tl.isEmpty=true then(0:Rat) else sA (aM s.pa*s.am/(1-aM s.tl)) s.tl n)=if s.tl=[]then 0 else s.am*aM s.pa/df (aM s.tl)*sA 1 s.tl n:=by
   by_cases z:s.tl=[]
   ·rw[z];rfl
   ·rw[if_neg z,ne z,if_neg (show¬false=true by decide),eO,show df (aM s.tl)=1-aM s.tl from if_neg (by have:=g2 z;grind),Rat.mul_comm (aM s.pa)]
  rw[A,m];grind
theorem StOk.kinds(h:StOk A0 ps ns s):(s.pa=[]/\s.tl=[]/\RingW ns s.rg/\s.rg.length<=4/\aM s.rg=1)∨∃p q,PthW p s.pa q/\(p::s.pa.map (·.go)).Nodup/\(∀x∈s.pa,x∈ns)/\s.pa.length<=3/\(s.rg=[]/\cG A0 ns p<0∨RgM ns true p s.rg)/\(s.tl=[]/\0<cG A0 ns q∨RgM ns false q s.tl):=by
 rcases h.or with z|⟨p,q,pt,ndp,sub,ln,o1,o2⟩
 ·exact .inl z
 ·exact .inr ⟨p,q,pt,ndp,sub,ln,o1.imp (λz=>⟨z.1,z.2⟩) id,o2.imp (λz=>⟨z.1,z.2⟩) id⟩
theorem StOk.nn(h:StOk A0 ps ns s):¬(s.rg=[]/\s.pa=[]/\s.tl=[]):=λ⟨a,e,b⟩=>by
 rcases h.kinds with⟨_,_,rg,_⟩|⟨p,q,pt,_,_,_,o1,o2⟩
 ·exact rg.ne a
 ·have i:=(o1.resolve_right λz=>z.rg.ne a).2;have c:=(o2.resolve_right λz=>z.rg.ne b).2;rw[e]at pt;rw[<-show p=q from pt]at c;grind
theorem StOk.legs(O:NsOk E ps ns)(h:StOk A0 ps ns s):∀l,l=s.rg∨l=s.pa∨l=s.tl->(∀d∈l,d∈ns)/\Chain l/\WkS 40 l:=by
 have b:∀l:List WD,l=[]∨(yE1 λp=>RingW ns l×' PthW p l p×' l.length<=4)∨(l≠[]/\yE2 λp q=>PthW p l q×'(p::l.map (·.go)).Nodup×'(∀x∈l,x∈ns)×' l.length<=3)->(∀d∈l,d∈ns)/\Chain l/\WkS 40 l:=λl z=>by
  rcases z with rfl|⟨p,rg,pt,ln⟩|⟨n0,p,q,pt,nd,sub,ln⟩
  ·exact⟨(λd a=>by cases a),(λi x y h=>by cases h),(λd a=>by cases a),by decide,by decide,by decide,mB⟩
  ·exact⟨rg.sub,pt.chain,λd a=>(O.g1 d (rg.sub d a)).2,by lia,by decide,by lia,bM O.nd rg.sub rg.nd⟩
  ·refine⟨sub,pt.chain,λd a=>(O.g1 d (sub d a)).2,by lia,by decide,by lia,bM O.nd sub ?_⟩;obtain⟨j,e⟩:=fF pt n0;rw[<-j,e]at nd;exact(lV.mp nd).1
 intro l c;refine b l ?_;rcases h.kinds with⟨z1,z2,rg,ln,_⟩|⟨p,q,pt,nd,sub,ln,o1,o2⟩
 ·obtain⟨p,pt⟩:=rg.rd;rcases c with rfl|rfl|rfl
  ·exact .inr (.inl ⟨p,rg,pt,ln⟩)
  ·exact .inl z1
  ·exact .inl z2
 ·rcases c with rfl|rfl|rfl
  ·exact o1.imp (·.1) λz=>.inl ⟨p,z.rg,z.pt,z.ln⟩
  ·exact(Classical.em (s.pa=[])).imp id λz=>.inr ⟨z,p,q,pt,nd,sub,ln⟩
  ·exact o2.imp (·.1) λz=>.inl ⟨q,z.rg,z.pt,z.ln⟩
theorem SzQ.mm(h:SzQ D m x)(k:SzQ E n y):SzQ (D*E) (m+n) (x*y):=h.mul k
theorem dfi_sz(O:NsOk E ps ns)(sub:∀d∈l,d∈ns)(ln:l.length<=4)(g1:aM l≠1):∃M:Nat,0<M/\M<=2^4200/\SzQ M 4000 (df (aM l))⁻¹:=by
 obtain⟨z,_⟩:=ix (m:=4) (λd D=>O.g1 d (sub d D)) ln;rw[fh,Rat.one_mul]at z;obtain⟨nn,⟨i,j⟩,le⟩:=z;have b:=df_ps g1;have w:0<E^4:=Nat.pow_pos O.e0;have s:E^4<=2^4000:=kW (Nat.pow_le_pow_left O.eb 4) (by rw[<-Nat.pow_mul];exact kM _);generalize E^4=F at j w s;have h:(0:Rat)<(F:Rat):=by exact_mod_cast w
 have t:(F:Rat)<=((2^4000:Nat):Rat):=by exact_mod_cast s
 have q:∃M:Nat,df (aM l)*(F:Rat)=(M:Rat):=by
  by_cases c:1<aM l
  ·have e:df (aM l)*(F:Rat)=((i-(F:Int):Int):Rat):=by
    rw[show df (aM l)=aM l-1 from if_pos c,Rat.intCast_sub,<-j];show _=_-(F:Rat);grind
   have p:0<=i-(F:Int):=by
    have:(0:Rat)<=((i-(F:Int):Int):Rat):=by rw[<-e];exact eC (lI b) (lI h)
    exact_mod_cast this
   obtain⟨M,a⟩:=mW p;exact⟨M,by rw[e,a];rfl⟩
  ·have e:df (aM l)*(F:Rat)=(((F:Int)-i:Int):Rat):=by
    rw[show df (aM l)=1-aM l from if_neg c,Rat.intCast_sub,<-j];show _=(F:Rat)-_;grind
   have p:0<=(F:Int)-i:=by
    have:(0:Rat)<=(((F:Int)-i:Int):Rat):=by rw[<-e];exact eC (lI b) (lI h)
    exact_mod_cast this
   obtain⟨M,a⟩:=mW p;exact⟨M,by rw[e,a];rfl⟩
 obtain⟨M,a⟩:=q;have I:(0:Rat)<(M:Rat):=by rw[<-a];exact cV b h
 have x:0<M:=by exact_mod_cast I
 have A:(1:Rat)<=(M:Rat):=by exact_mod_cast x
 have H:=lE _ (show df (aM l)≠0 by grind);have y:=fu b
 have r:(df (aM l))⁻¹*(M:Rat)=(F:Rat):=by
  rw[<-a,<-nM,Rat.mul_comm _ (df (aM l)),H,Rat.one_mul]
 have B:df (aM l)<=aM l+1:=by unfold df;split<;>grind
 have G:(M:Rat)<=(((2^160+1)*2^4000:Nat):Rat):=by
  rw[<-a,Rat.natCast_mul];refine nc (mj (c:=(F:Rat)) (nc B ?_) (lI h)) (mH t ?_)
  ·rw[Rat.natCast_add];exact Rat.add_le_add_right.mpr le
  ·exact_mod_cast kY _
 have o:M<=(2^160+1)*2^4000:=by exact_mod_cast G
 refine⟨M,x,kW o (kW (nD _ (show 2^160+1<=2^161 by decide)) (by rw[<-l0];exact lF (by decide) (by decide))),lI y,⟨(F:Int),r⟩,nc ?_ t⟩;rw[<-r]
 have:=mH A (lI y)
 grind
theorem StOk.szs(O:NsOk E ps ns)(h:StOk A0 ps ns s):∃D:Nat,0<D/\D<=2^240000/\∀n,SzQ D 6000 (sdA s n):=by
 obtain⟨D,L,N,Y,le⟩:=h.gq;have c:SzQ D 600 s.am:=⟨lI h.am,Y,le⟩;have g1:∀{l:List WD},(∀d∈l,d∈ns)->∀d∈l,GnE E d/\SmR d.x/\Bd 40 (aW d.kd d.x):=λz d K=>O.g1 d (z d K)
 have w:yE2 λ(M1 M2:Nat)=>0<M1×' M1<=2^4200×' 0<M2×' M2<=2^4200×'∀n,SzQ (D*(M1*(M2*E^6))) 6000 (sdA s n):=by
  have a:∀M1 M2:Nat,D*E^3∣D*(M1*(M2*E^6)):=λM1 M2=>mK _ ⟨M1*(M2*E^3),by rw[show(6:Nat)=3+3 from rfl,l0];simp only[Nat.mul_left_comm,Nat.mul_comm]⟩;rcases h.kinds with⟨A,H,rg,ln,e1⟩|⟨p,q,pt,ndp,sub,ln,o1,o2⟩
  ·refine⟨1,1,by decide,by decide,by decide,by decide,λn=>?_⟩
   have e:sdA s n=s.am*sA 1 s.rg n:=by
    unfold sdA enA;rw[if_pos ⟨rg.ne,e1⟩,A,H,ja,if_pos rfl,eO,m9,m9]
   rw[e];exact(c.mm ((kx (m:=3) (bM O.nd rg.sub rg.nd) (g1 rg.sub) (by lia)).1 n)).mono (a 1 1) (by decide)
  ·have U:¬(s.rg≠[]/\aM s.rg=1):=λ⟨A,H⟩=>by
    rcases o1 with z|z
    ·exact A z.1
    ·have g:1<aM s.rg:=z.gn;rw[H]at g;exact absurd g (by decide+kernel)
   have b:(s.pa.map (·.nm)).Nodup:=by
    by_cases z:s.pa=[]
    ·rw[z];exact mB
    ·refine bM O.nd sub ?_;obtain⟨P,T⟩:=fF pt z;rw[<-P,T]at ndp;exact(lV.mp ndp).1
   have Q:=kx (m:=3) b (g1 sub) (by lia)
   have S:SzQ (E^3) 120 (aM s.pa):=by
    have:=(ix (m:=3) (g1 sub) ln).1
    rw[fh,Rat.one_mul]at this;exact this
   have G:yE1 λ(M1:Nat)=>0<M1×' M1<=2^4200×'∀n,SzQ (D*(M1*E^3)) 4720 (enA s.rg s.am n):=by
    rcases o1 with z|z
    ·exact⟨1,by decide,by decide,λn=>by unfold enA;rw[if_pos z.1];exact SzQ.zero⟩
    ·have g:1<aM s.rg:=z.gn;obtain⟨M,t,F,sz⟩:=dfi_sz O z.rg.sub z.ln (λy=>by rw[y]at g;exact absurd g (by decide+kernel));refine⟨M,t,F,λn=>?_⟩;unfold enA;rw[if_neg z.rg.ne,lO,nM];exact c.mm (sz.mm ((kx (m:=3) (bM O.nd z.rg.sub z.rg.nd) (g1 z.rg.sub) (by have:=z.ln;lia)).1 n))
   have o:yE1 λ(M2:Nat)=>0<M2×' M2<=2^4200×'∀n,SzQ (D*(E^3*(M2*E^3))) 4840 (enA s.tl (s.am*aM s.pa) n):=by
    rcases o2 with z|z
    ·exact⟨1,by decide,by decide,λn=>by unfold enA;rw[if_pos z.1];exact SzQ.zero⟩
    ·have g:aM s.tl<1:=z.gn;obtain⟨M,t,F,sz⟩:=dfi_sz O z.rg.sub z.ln (λy=>by rw[y]at g;exact absurd g (by decide+kernel));refine⟨M,t,F,λn=>?_⟩;unfold enA;rw[if_neg z.rg.ne,lO,nM,nM];exact c.mm (S.mm (sz.mm ((kx (m:=3) (bM O.nd z.rg.sub z.rg.nd) (g1 z.rg.sub) (by have:=z.ln;lia)).1 n)))
   obtain⟨M1,r,I,G⟩:=G;obtain⟨M2,B,j,o⟩:=o;refine⟨M1,M2,r,I,B,j,λn=>?_⟩;have i:E^6=E^3*E^3:=l0 E 3 3;have R:=(G n).mono (E:=D*(M1*(M2*E^6))) (n:=5800) (mK _ (mK _ ⟨M2*E^3,by rw[i];simp only[Nat.mul_left_comm,Nat.mul_comm]⟩)) (by decide);have X:=(c.mm (Q.1 n)).mono (n:=5800) (a M1 M2) (by decide);have J:=(o n).mono (E:=D*(M1*(M2*E^6))) (n:=5801) (mK _ ⟨M1,by rw[i];simp only[Nat.mul_left_comm,Nat.mul_comm]⟩) (by decide);unfold sdA;rw[if_neg U,eO s.am];exact((R.add X).add J).mono (Nat.dvd_refl _) (by decide)
 obtain⟨M1,M2,r,I,B,j,sz⟩:=w;refine⟨_,nQ L (nQ r (nQ B (Nat.pow_pos O.e0))),?_,sz⟩;have i:E^6<=2^6000:=kW (Nat.pow_le_pow_left O.eb 6) (by rw[<-Nat.pow_mul];exact kM _);refine kW (lU N (lU I (lU j i))) ?_;rw[<-l0,<-l0,<-l0];exact lF (by decide) (by decide)
theorem StOk.hs(O:NsOk E ps ns)(h:StOk A0 ps ns s):HsO ns s:=by
 have L:=h.legs O
 have bd:Bd 223600 s.am:=by
  obtain⟨D,b,c,e,le⟩:=h.gq;exact(e.bd (m:=600) (n:=223000) (lI h.am) le b c).mono (by decide)
 have rd:∀{m:Bool}{p:Str}{l:List WD},RgM ns m p l->Rd p l:=λz=>⟨z.pt,z.rg.nd⟩;refine⟨⟨h.nn,?_⟩,h.am,bd,?_,λl a=>⟨(L l a).1,?_,(L l a).2.2.nd⟩,h.szs O⟩
 ·rcases h.kinds with⟨z1,z2,rg,ln,e1⟩|⟨p,q,pt,ndp,sub,ln,o1,o2⟩
  ·obtain⟨p,pt⟩:=rg.rd;exact⟨p,p,by rw[z1];rfl,by rw[z1];exact me.mpr ⟨lA,mB⟩,λ_=>⟨pt,rg.nd⟩,λz=>absurd z2 z⟩
  ·exact⟨p,q,pt,ndp,λz=>rd (o1.resolve_left λy=>z y.1),λz=>rd (o2.resolve_left λy=>z y.1)⟩
 ·rcases h.kinds with⟨z1,z2,rg,ln,e1⟩|⟨p,q,pt,ndp,sub,ln,o1,o2⟩
  ·exact .inl ⟨rg.ne,e1,z1,z2⟩
  ·exact .inr ⟨λz=>(o1.resolve_left λy=>z y.1).gn,λz=>(o2.resolve_left λy=>z y.1).gn⟩
 ·rcases h.kinds with⟨z1,z2,rg,ln,_⟩|⟨p,q,pt,nd,sub,ln,o1,o2⟩
  ·rcases a with rfl|rfl|rfl
   ·exact ln
   ·rw[z1];exact kY _
   ·rw[z2];exact kY _
  ·rcases a with rfl|rfl|rfl
   ·exact o1.elim (λz=>by rw[z.1];exact kY _) (·.ln)
   ·lia
   ·exact o2.elim (λz=>by rw[z.1];exact kY _) (·.ln)
theorem HsO.ps{ps:List (Str×Rat)}(O:NsOk E ps ns)(h:HsO ns s)(hn:n∈s.rg.map (·.nm)∨n∈s.pa.map (·.nm)∨n∈s.tl.map (·.nm)):0<sdA s n:=by
 have L:=h.lg;have g:∀l,l=s.rg∨l=s.pa∨l=s.tl->∀d∈l,GnE E d/\SmR d.x/\Bd 40 (aW d.kd d.x):=λl a d r=>O.g1 d ((L l a).1 d r);have nn:∀l,l=s.rg∨l=s.pa∨l=s.tl->0<=sA 1 l n:=λl a=>((kx (m:=4) (L l a).2.2 (g l a) (by have:=(L l a).2.1;lia)).1 n).nn
 have c:∀l,l=s.rg∨l=s.pa∨l=s.tl->n∈l.map (·.nm)->0<sA 1 l n:=λl a z=>by
  obtain⟨d,r,rfl⟩:=kQ.mp z;obtain⟨i,_,e⟩:=sA_pre (L l a).2.2 r;rw[e];exact(iy λx t=>(g l a x (m6 t)).1).1
 have o:0<aM s.pa:=by
  have:=(iy λx t=>(g s.pa (.inr (.inl rfl)) x t).1).1
  rwa[fh,Rat.one_mul]at this
 have b:=h.am
 have A:s.rg≠[]->¬(s.rg≠[]/\aM s.rg=1)->0<s.am/df (aM s.rg):=λz y=>by
  rw[lO];exact cV b (fu (df_ps λe=>y ⟨z,e⟩))
 have B:s.tl≠[]->0<s.am*aM s.pa/df (aM s.tl):=λz=>by
  rw[lO];refine cV (cV b o) (fu (df_ps λe=>?_));rcases h.kd with k|k
  ·exact z k.2.2.2
  ·have:=k.2 z
   rw[e]at this;exact absurd this (by decide+kernel)
 have w:0<=(if s.rg≠[]/\aM s.rg=1 then sA s.am s.rg n else enA s.rg s.am n)/\(n∈s.rg.map (·.nm)->0<(if s.rg≠[]/\aM s.rg=1 then sA s.am s.rg n else enA s.rg s.am n)):=by
  split
  ·rw[eO];exact⟨eC (lI b) (nn _ (.inl rfl)),λz=>cV b (c _ (.inl rfl) z)⟩
  ·rename_i y;unfold enA
   split
   ·rename_i z;exact⟨nP,λq=>by rw[z]at q;cases q⟩
   ·rename_i z;exact⟨eC (lI (A z y)) (nn _ (.inl rfl)),λq=>cV (A z y) (c _ (.inl rfl) q)⟩
 have j:0<=sA s.am s.pa n/\(n∈s.pa.map (·.nm)->0<sA s.am s.pa n):=by
  rw[eO];exact⟨eC (lI b) (nn _ (.inr (.inl rfl))),λz=>cV b (c _ (.inr (.inl rfl)) z)⟩
 have p:0<=enA s.tl (s.am*aM s.pa) n/\(n∈s.tl.map (·.nm)->0<enA s.tl (s.am*aM s.pa) n):=by
  unfold enA
  split
  ·rename_i z;exact⟨nP,λq=>by rw[z]at q;cases q⟩
  ·rename_i z;exact⟨eC (lI (B z)) (nn _ (.inr (.inr rfl))),λq=>cV (B z) (c _ (.inr (.inr rfl)) q)⟩
 unfold sdA;rcases hn with z|z|z
 ·have:=w.2 z;have:=j.1;have:=p.1;grind
 ·have:=w.1;have:=j.2 z;have:=p.1;grind
 ·have:=w.1;have:=j.1;have:=p.2 z;grind
theorem SdO.hs(h:SdO rs hd pa ta c)(G:RsG sp rs)(ad:List Addr):HsO (rs.map WR.d) ⟨hd.map WR.d,pa.map WR.d,ta.map WR.d,vl c,ad⟩:=by
 have L:=h.cb.b0;have M:=h.cb.b1;have N:=h.cb.t0;have K:=h.cb.t1;have E:(2:Int)^40=((2^40:Nat):Int):=by decide
 have o:(2:Int)^10=1024:=by decide
 obtain⟨D,F,p,sz⟩:=h.sz G ad
 have H:∀{a:List WR},(a.map (·.nm)).Nodup->((a.map WR.d).map (·.nm)).Nodup:=λ{a}q=>by
  rw[lY,show((λx:WD=>x.nm)∘WR.d)=(λr:WR=>r.nm)from funext λr=>WR.d_nm r];exact q
 have b:∀{a:List WR},Prq a->(∀r∈a,r∈rs)->(∀d∈a.map WR.d,d∈rs.map WR.d)/\(a.map WR.d).length<=4/\((a.map WR.d).map (·.nm)).Nodup:=λ{a}q s=>⟨λd hd=>by
  obtain⟨r,w,rfl⟩:=kQ.mp hd;exact kQ.mpr ⟨r,s r w,rfl⟩,by rw[kK];exact q.len,H q.nd⟩
 obtain⟨j,_,m⟩:=jW h.ph.gb;obtain⟨A,_,t⟩:=jW h.pt.gb;refine⟨h.ge,?_,(Bd.divInt (n:=40) (by lia) (by lia)).mono (by decide),?_,λl J=>?_,D,F,kW p (lF (by decide) (by decide)),λn=>(sz n).mono (Nat.dvd_refl _) (by decide)⟩
 ·show 0<vl c;rw[eN,lO];exact cV (by exact_mod_cast(show(0:Int)<c.1 by lia)) (fu (by exact_mod_cast(show(0:Int)<c.2 by lia)))
 ·dsimp only;by_cases z:hd≠[]/\(gp hd).1=(gp hd).2
  ·obtain⟨_,B,I⟩:=(h.he z.1).resolve_right λy=>by have:=z.2;lia
   exact .inl ⟨λy=>z.1 (mapEW.mp y),by rw[j];exact(iC m).1.mpr z.2,mapEW.mpr B,mapEW.mpr I⟩
  ·refine .inr ⟨λy=>?_,λy=>?_⟩
   ·have i:hd≠[]:=λe=>y (mapEW.mpr e);rw[j];exact(iC m).2.1.mpr ((h.he i).resolve_left λe=>z ⟨i,e.1⟩)
   ·rw[A];exact(iC t).2.2.1.mpr (h.te λe=>y (mapEW.mpr e))
 ·rcases J with rfl|rfl|rfl
  ·exact b h.ph h.ih
  ·exact b h.pp h.ip
  ·exact b h.pt h.it
noncomputable def spIs(a:Ad):Sp:=λvs H Q _=>∃(p q:Addr)(x:Rat)(n d:Int),vs=[.ref p,.ref q]/\FrAt a.Fraction H p x/\H q=some (.tup [.int n,.int d])/\SmR x/\Sm n/\Sm d/\d≠0/\x=Rat.divInt n d/\∀H',Same H H'->Q (.bl true) H'
theorem cross(h:d≠0)(e:x=Rat.divInt n d):x.num*d=n*x.den:=by
 have a:=Rat.num_divInt_den x;rw[e]at a⊢;exact(Rat.divInt_eq_divInt_iff (jm _) h).mp a
theorem ok_law_is(T:TX K mg a):FnB P w K mg base CX0 "_law_is" 1 ["_law_found","_law_due"] (spIs a):=by
 refine T.d_law_is.okA sc_law_is (λf N A r s H L Q E U h=>?_) (λL H Q E h=>?_)
 rotate_left
 ·obtain⟨_,_,_,_,_,rfl,_⟩:=h;rfl
 ·obtain⟨p,q,x,n,d,rfl,B,D,sx,Y,S,I,ex,k⟩:=h
  refine⟨_,(aD (bG (fV (eo (bH (iA (c:=.ref a.Fraction)) (by rfl) T.z_isinstance mP (aA (pv 0) (aA (pe_glob (v:=.ref a.Fraction) (by rfl) T.mg_Fraction rfl) aB))))) (aF (aO fk)) aV)
   (aD (bR lj rfl (bW (bK (aA (dY T.fr (pv 0)) (aA (dR T.fr (pv 0)) aB)))) (aQ (i:=2) sc_law_is.nd) (aF (bG (PW.pt (pw_or (fV (eo (bH (iA (c:=.type "int")) (by rfl) T.z_isinstance mP (aA (pv 2) (aA (pe_bltn (v:=.ty "int") (by rfl) T.z_int PyProof.Rows.boot_int rfl) aB))))) (jR (eo (bH (iA (c:=.type "bool")) (by rfl) T.z_isinstance mP (aA (pv 2) (aA (pe_bltn (v:=.ty "bool") (by rfl) T.z_bool PyProof.Rows.boot_bool rfl) aB))))))) (aF (aO fk)) aV)))
   (aF (aO (jc (eQ op_gt (dR T.fr (pv 0)) aC) (jS (eQ eJ (aK cI (dY T.fr (pv 0)) (aL aT (pv 1) aC)) (aK cI (aL aT (pv 1) aC) (dR T.fr (pv 0)))))))))),?_⟩
  walk_at"q"
  have X:SqT K H q _:=SqT.of D;have O:=den_pos x;refine⟨_,rfl,_,_,_,_,rfl,(λu h=>h),FrAt.ty T.fr B,T.k_Fraction_Fraction,_,rfl,iteF ?_⟩;walk_at"rd"
  refine⟨zL2,λl M=>?_⟩;obtain⟨G,zq,m,t⟩:=uG (o:=.lst [.int x.num,.int x.den]) M;rw[zq];refine⟨l,rfl,⟨_,SqL.of t⟩,cF (K:=K) (a:=l) (xs:=[.int x.num,.int x.den]) (λi σ j=>∃z,σ=[some (.ref p),some (.ref q),z]/\j=G) ⟨_,rfl,rfl⟩ ((by rintro i σ j _⟨_,_,e⟩;exact by rw[e];exact SqL.of t)) ?_ ?_⟩
  ·rintro i v σ j b⟨z,rfl,rfl⟩
   have b:∃y:Int,v=.int y:=by
    match i,b with
    |0,b=>exact⟨_,(lJ b).symm⟩
    |1,b=>exact⟨_,(lJ b).symm⟩
    |i+2,b=>simp at b
   obtain⟨y,rfl⟩:=b;refine⟨_,rfl,_,_,_,_,rfl,(λu h=>h),TyOf.int _,T.k_int_int,_,rfl,iteF ?_⟩;refine⟨_,rfl,_,_,_,_,rfl,(λu h=>h),TyOf.int _,T.k_int_bool,_,rfl,iteF ?_⟩;exact⟨_,rfl,rfl⟩
  ·rintro σ j⟨z,rfl,rfl⟩;have F:=B.mono m;have J:SqT K j q _:=SqT.of (m _ _ D);walk_at"rd"
   refine kG (lD (show(x.den:Int)>0 from O)) ?_;have R:atI [V.int n,.int d] 0=some (.int n):=rfl;have Z:atI [V.int n,.int d] 1=some (.int d):=rfl;walk_at"rd"
   show Q (.bl (decide (V.int (x.num*d)=V.int (n*x.den)))) j;rw[cross I ex,lD rfl];exact k _ m
inductive IspHand(a:Ad)(vs:List V)(H:Hp)(Q:VK):Prop
 |mk(t lh lp lt g:Addr)(hs ps ts:List Str)(n d:Int)(h1:vs=[.ref t])(h2:H t=some (.tup [.ref lh,.ref lp,.ref lt,.ref g]))(h3:H lh=some (.lst (hs.map V.str)))(h4:H lp=some (.lst (ps.map V.str)))(h5:H lt=some (.lst (ts.map V.str)))(h6:hs.length<=20)(h7:ps.length<=20)(h8:ts.length<=20)(h9:H g=some (.tup [.int n,.int d]))(h10:Sm n)(h11:Sm d)(h12:d≠0)(h13:∀t' lh' lp' lt' q H',H t'=none->H lh'=none->H lp'=none->H lt'=none->Same H H'->H' t'=some (.tup [.ref lh',.ref lp',.ref lt',.ref q])->H' lh'=some (.lst (hs.map V.str))->H' lp'=some (.lst (ps.map V.str))->H' lt'=some (.lst (ts.map V.str))->FrIs a H' (.ref q) (Rat.divInt n d)->Q (.ref t') H'):IspHand a vs H Q
noncomputable def spHand(K:W.Frag)(a:Ad):Sp:=λvs H Q _=>IspHand a vs H Q
theorem ok_law_handed(T:TX K mg a):FnB P w K mg base CX0 "_law_handed" 7 ["_law_strand_here"] (spHand K a):=by
 refine T.d_law_handed.okA sc_law_handed λf aa A I s H vs Q E hr h=>?_;obtain⟨t,lh,lp,lt,g,hs,ps,y,n,d,rfl,z,h1,h2,h3,l1,l2,l3,Z,sn,sd,d0,k⟩:=h;refine⟨_,(aF (aO (cE (aA (dN fA (by rfl) T.z_list mi (aA (aL aT (pv 0) aC) aB)) (aA (dN fA (by rfl) T.z_list mi (aA (aL aT (pv 0) aC) aB)) (aA (dN fA (by rfl) T.z_list mi (aA (aL aT (pv 0) aC) aB)) (aA (cL (mk2 T) hr T.mg_Fraction aJ (aA (aL aT (aL aT (pv 0) aC) aC) (aA (aL aT (aL aT (pv 0) aC) aC) aB))) aB))))))),?_⟩;walk_at"q"
 refine⟨_,rfl,t,_,_,_,rfl,rfl,SqT.of z,rfl,lh,_,rfl,.inl (SqL.of h1),λc J=>?_⟩;obtain⟨M,zq,r,Y⟩:=uG (o:=.lst (hs.map V.str)) J;rw[zq];refine⟨_,rfl,t,_,_,_,rfl,rfl,SqT.of (r _ _ z),rfl,lp,_,rfl,.inl (SqL.of (r _ _ h2)),λi B=>?_⟩;have m:=r.trans (aS (o:=.lst (ps.map V.str)) B);have m2:=B;have S:upd M i (.lst (ps.map V.str)) i=_:=aE;have N:=aS (o:=.lst (ps.map V.str)) B _ _ Y;generalize upd M i (.lst (ps.map V.str))=U at m S N⊢;refine⟨_,rfl,t,_,_,_,rfl,rfl,SqT.of (m _ _ z),rfl,lt,_,rfl,.inl (SqL.of (m _ _ h3)),λb D=>?_⟩;have l:=m.trans (aS (o:=.lst (y.map V.str)) D);have X:upd U b (.lst (y.map V.str)) b=_:=aE;have g1:=aS (o:=.lst (y.map V.str)) D _ _ N;have L:=aS (o:=.lst (y.map V.str)) D _ _ S;generalize upd U b (.lst (y.map V.str))=H3 at l X g1 L⊢;refine⟨_,rfl,t,_,_,_,rfl,rfl,SqT.of (l _ _ z),rfl,g,_,_,_,rfl,rfl,SqT.of (l _ _ Z),rfl,_,rfl,t,_,_,_,rfl,rfl,SqT.of (l _ _ z),rfl,g,_,_,_,rfl,rfl,SqT.of (l _ _ Z),rfl,?_⟩;refine⟨n,d,rfl,d0,sd,λq H4 nq R fq=>⟨zL4,λt' O=>?_⟩⟩;have s5:=aS (o:=.tup [.ref c,.ref i,.ref b,.ref q]) O;have j:=R.trans s5
 have no:∀{F G:Hp}{p:Addr},Same F G->G p=none->F p=none:=λ{F G p}s e=>by
  cases u:F p with
  |none=>rfl
  |some o=>rw[s _ _ u]at e;cases e
 exact k t' c i b q _ (no (l.trans R) O) J (no r B) (no m D) (l.trans j) aE (j _ _ g1) (j _ _ L) (j _ _ X) ⟨q,rfl,fq.mono s5⟩
inductive IspPlan(a:Ad)(vs:List V)(H:Hp)(Q:VK):Prop
 |mk(p q:Addr)(kvp kvq:List (Key×V))(k1 ks:List Str)(f:Str->Rat)(g:Str->Int×Int)(h1:vs=[.ref p,.ref q])(h2:p≠q)(h3:H p=some (.dK kvp))(h4:H q=some (.dK kvq))(h5:Tab (FrIs a) H kvp k1 f)(h6:Tab DueIs H kvq ks g)(h7:k1.Nodup)(h8:ks.Nodup)(h9:(∀n,n∈k1↔n∈ks))(h10:(∀n∈ks,SmR (f n)/\Sm (g n).1/\Sm (g n).2/\(g n).2≠0/\f n=Rat.divInt (g n).1 (g n).2))(h11:∀H',Same H H'->Q (.bl true) H'):IspPlan a vs H Q
noncomputable def spPlan(a:Ad):Sp:=λvs H Q _=>IspPlan a vs H Q
theorem jf(T:TX K mg a):FnB P w K mg base CX0 "_law_plan" 2 ["_law_found","_law_due"] (spPlan a):=by
 refine T.d_law_plan.okA sc_law_plan λf aa A S s H vs Q E J h=>?_;obtain⟨p,q,U,j,k1,ks,f,g,rfl,O,L,r,tp,tq,N,Z,D,all,k⟩:=h
 refine⟨_,(aD (bG (PW.pt (pw_or (fV (eo (bH (iA (c:=.type "dict")) (by rfl) T.z_isinstance mP (aA (pv 0) (aA (pe_bltn (v:=.ty "dict") (by rfl) T.z_dict PyProof.Rows.boot_dict rfl) aB))))) (jR (aP op_ne (bH call_lenD (by rfl) T.z_len lZ (aA (pv 0) aB)) (bH call_lenD (by rfl) T.z_len lZ (aA (pv 1) aB)))))) (aF (aO fk)) aV)
  (aD (gi (bR lj rfl (jr (pv 1)) (aQ (i:=2) sc_law_plan.nd) (aF (bG (PW.pt (pw_or (jb (jt (bS J) (pv 2) (pv 0))) (jR (fV (eo (aR (ok_law_is T) J aJ (aA (cQ (bS J) (pv 0) (pv 2) (λ_ _=>rfl)) (aA (cQ (bS J) (pv 1) (pv 2) (λ_ _=>rfl)) aB)))))))) (aF (aO fk)) aV))))
  (aF (aO fk)))),?_⟩
 walk_at"q"
 have ty:TyOf K H (.ref p) (.type "dict"):=TyOf.dK L;refine⟨_,rfl,_,_,_,_,rfl,(λu h=>h),ty,T.k_dict_dict,_,rfl,iteF ?_⟩;refine⟨_,rfl,p,_,rfl,L,_,rfl,q,_,rfl,r,rfl,_,rfl,?_⟩;rw[tp.len,tq.len,show k1.length=ks.length from((List.perm_ext_iff_of_nodup N Z).mpr D).length_eq];refine iteNS rfl ?_;refine⟨q,.dK j,r,(by intro o z e;cases e),_,rfl,q,j,rfl,r,λo=>?_⟩
 refine for_dict (a:=q) (o:=o) (kvs:=j) (λi σ l=>yE1 λz=>σ=[some (.ref p),some (.ref q),z]×' l q=some (.frz o (.dK j))×'∀b B,H b=some B->b≠q->l b=some B)
  ⟨_,rfl,aE,λb B e ne=>by rw[aG ne];exact e⟩ ((by rintro i σ l _⟨_,_,h,_⟩;exact h)) ?_ ?_
 ·rintro i kv σ l M⟨z,rfl,I,m⟩;obtain⟨n,en,e1,ev,t,et,ht⟩:=tq.at_ Z M;have hn:=kN en;have X:kV kv.1=.str n:=by rw[e1];rfl
  rw[X];obtain⟨v,y,x,rfl,G⟩:=tp.vals n ((D n).mpr hn);obtain⟨c1,c2,c3,c4,c5⟩:=all n hn;have F:=m _ _ L O;have R:=m _ _ ht (bD ht r (by intro z;cases z))
  have Y:FrAt a.Fraction l x (f n):=by
   obtain⟨dx,G⟩:=G;exact⟨dx,m _ _ G (bD G r (by intro z;cases z))⟩
  refine⟨_,rfl,_,rfl,p,_,rfl,DGet.k (k:=Sum.inr n) F,_,rfl,?_⟩;rw[y];refine iteF ?_;refine⟨_,rfl,_,rfl,p,.ref x,rfl,.inl ⟨U,Sum.inr n,.inl F,rfl,y.symm⟩,_,rfl,_,rfl,q,.ref t,rfl,.inl ⟨j,Sum.inr n,.inr ⟨o,I⟩,rfl,by rw[ev,et]⟩,x,t,f n,_,_,rfl,Y,R,c1,c2,c3,c4,c5,λH3 s3=>⟨_,rfl,iteF ?_⟩⟩;exact⟨_,rfl,s3 _ _ I,λb B e ne=>s3 _ _ (m _ _ e ne)⟩
 ·rintro σ l⟨z,rfl,I,m⟩;refine⟨o,I,k _ λb B e=>?_⟩;by_cases hb:b=q
  ·subst hb;rw[aE,<-r,e]
  ·rw[aG hb];exact m _ _ e hb
structure DuO(rs:List WR)(m M N:Nat)(ks:List Str)(f:Str->Int×Int):Prop where
 nx:∀n,Nx N (f n)
 b0:∀n,0<(f n).2
 sz:∃D:Nat,0<D/\D<=2^M/\∀n,SzQ D m (vl (f n))
 inn:∀n∈ks,n∈rs.map (·.nm)
 ps:∀n∈ks,0<vl (f n)
theorem rows_keys{kvs:List (Key×V)}{rs:List WR}(hk:kvs.map (·.1)=rs.map (λr=>Sum.inr r.nm)):kvs.map (λkv=>kV kv.1)=(rs.map (·.nm)).map V.str:=by
 rw[<-show(kvs.map (·.1)).map kV=kvs.map (λkv=>kV kv.1)from lY,hk,lY,lY];rfl
theorem dvsix{t:Int}(h0:1<=t)(h1:t<=6):t∣60:=by
 have:t=1∨t=2∨t=3∨t=4∨t=5∨t=6:=by lia
 rcases this with rfl|rfl|rfl|rfl|rfl|rfl<;>decide
theorem ifVn{A B:Prop}(h1:k≠m->A)(h2:k=m->B):if(!decide (V.int k=V.int m))=true then A else B:=by
 by_cases h:k=m
 ·rw[lD (lW V.int h),if_neg (by decide)];exact h2 h
 ·rw[lz λe=>h (V.int.inj e),if_pos (by decide)];exact h1 h
inductive IspFreeDue(K:W.Frag)(vs:List V)(H:Hp)(Q:VK):Prop
 |mk(l d:Addr)(ns:List Int)(sp:List Str)(rs:List WR)(h1:vs=[.ref l,.ref d])(h2:SqL K H l (ns.map V.int))(h3:RowsAt H d rs)(h4:RsG sp rs)(h5:∀e H' kve ks f,H e=none->Same H H'->H' e=some (.dK kve)->Tab DueIs H' kve ks f->ks.Nodup->DuO rs 310 12000 8000 ks f->Q (.ref e) H'):IspFreeDue K vs H Q
noncomputable def spFreeDue(K:W.Frag):Sp:=λvs H Q _=>IspFreeDue K vs H Q
theorem ok_law_free_due(T:TX K mg a):FnB P w K mg base CX0 "_law_free_due" 2 ["_law_script","_law_ways_here"] (spFreeDue K):=by
 refine T.d_law_free_due.okA sc_law_free_due λf ag A ae s H vs Q E Y h=>?_;obtain⟨l,d,ns,sp,j,rfl,hS,hR,G,k⟩:=h
 refine⟨_,(aD (aI (i:=2) sc_law_free_due.nd cU)
  (aD (bR lj rfl (pi_enum (by rfl) T.z_enumerate (aA (dN (gQ Y.hd) (by rfl) T.z_list mi (aA (pv 1) aB)) aB)) (hV (n:=2) rfl (bY (aQ (i:=3) sc_law_free_due.nd) (bY (aQ (i:=4) sc_law_free_due.nd) fM))) (aD (aI (i:=5) sc_law_free_due.nd (aR (cO T) Y aJ (aA (pv 0) (aA (aK bJ aC (pv 3)) aB))))
  (aF (bG (aP op_ne (aK bC (pv 5) aC) aC) (aF (cW (bS Y) (pv 2) (pv 4) (cE (aA (aK bJ aC (aK bC (aK cA (pv 5) aC) aC)) (aA (aK bJ aC (aK bC (aK cA (pv 5) aC) aC)) aB))) rfl)) aV))))
  (aF (aO (pv 2))))),?_⟩
 walk_at"q"
 intro e ne;obtain⟨H1,zq,s1,h1⟩:=uG (o:=.dK []) ne;rw[zq];obtain⟨ab,ad,hk,_⟩:=hR.mono s1;refine⟨_,rfl,d,ab,rfl,.inl ad,λq nq=>?_⟩;rw[rows_keys hk];have s2:=s1.trans (aS (o:=.lst ((j.map (·.nm)).map V.str)) nq);have aa:=aS (o:=.lst ((j.map (·.nm)).map V.str)) nq _ _ h1;have hq:upd H1 q (.lst ((j.map (·.nm)).map V.str)) q=some (.lst ((j.map (·.nm)).map V.str)):=aE;generalize upd H1 q (.lst ((j.map (·.nm)).map V.str))=H2 at s2 aa hq⊢;have af:=G.len;refine⟨q,_,rfl,SqL.of hq,?_⟩
 refine for_enum (K:=K) (a:=q) (xs:=(j.map (·.nm)).map V.str) (λi σ J=>i<=j.length/\yE6 λ(z3 z4 z5:Option V)(b:List (Key×V))(m:List Str)(f:Str->Int×Int)=>σ=[some (.ref l),some (.ref d),some (.ref e),z3,z4,z5]×' Same H J×' J q=some (.lst ((j.map (·.nm)).map V.str))×' J e=some (.dK b)×' Tab DueIs J b m f×' m.Nodup×' m.length<=i×'(∀n∈m,n∈(j.take i).map λr:WR=>r.nm)×'(∀n,Nx 4 (f n))×'(∀n,0<(f n).2)×'(∀n,SzQ 60 4 (vl (f n)))×'∀n∈m,0<vl (f n))
  ⟨kY _,none,none,none,[],[],λ_=>(0,1),rfl,s2,hq,aa,Tab.nil,mB,kM _,(λn F=>by cases F),(λ_=>⟨kY _,by show 1<=16;decide⟩),(λ_=>zI1),(λ_=>by rw[show vl (0,1)=0 from rfl];exact SzQ.zero),λn F=>by cases F⟩ ((by rintro i σ J⟨_,_,_,_,_,_,_,_,_,h3,_⟩;exact SqL.of h3)) ?_ ?_
 ·rintro i x t σ J U nt⟨_,z3,z4,z5,b,m,f,rfl,s3,L,M,tb,N,lk,sub,fx,fb,fz,fp⟩;rw[kP,kP]at U
  cases er:j[i]? with
  |none=>rw[er]at U;cases U
  |some r=>
  rw[er]at U
  cases U;have hi:=(kL.mp er).1;obtain⟨H4,zq,S,ht⟩:=uG (o:=.tup [.int i,.str r.nm]) nt;rw[zq];have X:=s3.trans S;refine⟨t,[.int i,.str r.nm],rfl,SqT.of ht,rfl,.int i,[.str r.nm],rfl,⟨.str r.nm,[],rfl,⟨rfl,?_⟩⟩⟩;have tk:(j.take (i+1)).map (·.nm)=(j.take i).map (·.nm)++[r.nm]:=by rw[kX,er,lB,kO];rfl
  have O:∀n∈m,n∈(j.take (i+1)).map (·.nm):=λn F=>by rw[tk];exact lf _ (sub n F)
  refine⟨_,rfl,_,rfl,_,_,rfl,rfl,l,ns,_,rfl,X.seq hS,by lia,by lia,λc=>?_⟩;refine⟨_,rfl,_,_,rfl,rfl,zI4,rfl,_,rfl,ifVn (λe1=>?_) (λe1=>?_)⟩
  case refine_2=>exact⟨hi,_,_,_,b,m,f,rfl,X,S _ _ L,S _ _ M,tb.mono λv x z=>z.mono S,N,by lia,O,fx,fb,fz,fp⟩
  obtain⟨p0,p1⟩:=bL (c/4) (show(0:Int)<11 by decide);obtain⟨q0,q1⟩:=bL (c/44) (show(0:Int)<6 by decide);refine⟨_,rfl,_,_,rfl,rfl,⟨by decide,by decide⟩,_,_,rfl,rfl,zI11,_,_,rfl,rfl,_,rfl,_,_,rfl,rfl,⟨by decide,by decide⟩,_,_,rfl,rfl,zI6,_,_,rfl,rfl,zL2,λg ng=>?_⟩;obtain⟨H5,zq,s5,hg⟩:=uG (o:=.tup [.int (1+c/4%11),.int (1+c/44%6)]) ng;rw[zq];obtain⟨p,I⟩:∃p:Int×Int,p=(1+c/4%11,1+c/44%6):=⟨_,rfl⟩;have pn:Nx 4 p:=by rw[I];exact⟨by show(1+c/4%11).natAbs<=16;lia,by show(1+c/44%6).natAbs<=16;lia⟩
  have pb:0<p.2:=by rw[I];show 0<1+c/44%6;lia
  have pt:0<p.1:=by rw[I];show 0<1+c/4%11;lia
  have ps:SzQ 60 4 (vl p):=by
   rw[I];exact szD (D:=60) (dvsix (show 1<=1+c/44%6 by lia) (by lia)) (by lia) (by lia) (by show 1+c/4%11<=16;lia)
  have pp:0<vl p:=by
   rw[eN,lO];exact cV (by exact_mod_cast pt) (fu (by exact_mod_cast pb))
  have ac:H5 g=some (.tup [.int p.1,.int p.2]):=by rw[I];exact hg
  have B:=S.trans s5;have rn:¬r.nm∈m:=λz=>nodup_take (f:=λr:WR=>r.nm) G.nd er (sub _ z);have R:=B _ _ M;refine⟨_,rfl,_,rfl,e,_,rfl,DPut.k (k:=Sum.inr r.nm) R (aU (by rw[tb.len];lia)),?_⟩;have kp:KeepD H5 (upd H5 e (.dK (cY b (Sum.inr r.nm) (.ref g)))):=KeepD.put R;have Z:=Tab.put (n:=r.nm) (tb.mono λv x z=>(z.mono B).keep kp) (DueIs.keep (c:=p) ⟨g,rfl,ac⟩ kp);rw[gS rn]at Z;refine⟨hi,_,_,_,_,m++[r.nm],upf f r.nm p,rfl,aZ ne (s3.trans B),?_,aE,Z,?_,by rw[k5,lP];lia,λn F=>?_,λn=>?_,λn=>?_,λn=>?_,λn F=>?_⟩
  ·rw[aG (bD (B _ _ L) R (by intro z;cases z))];exact B _ _ L
  ·exact lV.mpr ⟨N,by simp,λu hu v hv z=>rn (by rw[kS.mp hv]at z;rw[<-z];exact hu)⟩
  ·rcases kU.mp F with z|z
   ·exact O n z
   ·rw[tk,kS.mp z];simp
  ·unfold upf
   split
   ·exact pn
   ·exact fx n
  ·unfold upf
   split
   ·exact pb
   ·exact fb n
  ·unfold upf
   split
   ·exact ps
   ·exact fz n
  ·unfold upf
   split
   ·exact pp
   ·rename_i z;exact fp n ((kU.mp F).resolve_right λy=>z (kS.mp y))
 ·rintro σ J⟨_,z3,z4,z5,b,m,f,rfl,s3,L,M,tb,N,lk,sub,fx,fb,fz,fp⟩;refine⟨_,rfl,k e J b m f ne s3 M tb N ⟨λn=>(fx n).mono (by decide),fb,⟨60,by decide,kW (show 60<=2^6 by decide) (lF (by decide) (by decide)),λn=>(fz n).mono (Nat.dvd_refl _) (by decide)⟩,λn F=>?_,fp⟩⟩;have z:=sub n F;obtain⟨r,Y,rfl⟩:=kQ.mp z;exact kQ.mpr ⟨r,m6 Y,rfl⟩
theorem StIs.same(h:StIs a X H v s)(k:Same H H'):StIs a X H' v s:=by
 obtain⟨u,b,i,c,q,z,m,w,e,t,o,r,l,j,p⟩:=h;exact⟨u,b,i,c,q,z,k _ _ m,k _ _ w,k _ _ e,k _ _ t,o,r,l,j.mono k,p⟩
theorem StIs.at_(h:StIs a X H v s)(hn:NetAt a H p ps ns)(O:NsOk E ps ns)(ho:HsO ns s):∃u l1 l2 l3 q,v=.ref u/\StrAt K a H p u l1 l2 l3 q ps ns s.rg s.pa s.tl s.am 40:=by
 obtain⟨u,l1,l2,l3,q,e,o,I,j,A,_,_,_,D,_⟩:=h;have wk:∀l,l=s.rg∨l=s.pa∨l=s.tl->WkS 40 l:=λl b=>⟨λd B=>(O.g1 d ((ho.lg l b).1 d B)).2,by have:=(ho.lg l b).2.1;lia,by decide,by have:=(ho.lg l b).2.1;lia,(ho.lg l b).2.2⟩
 have t:∀l,l=s.rg∨l=s.pa∨l=s.tl->Chain l:=λl b=>by
  obtain⟨_,L,J,pt,_,G,m⟩:=ho.ge
  have c:∀{r:Str},(l≠[]->Rd r l)->Chain l:=λ{r}f=>by
   by_cases z:l=[]
   ·rw[z];exactλi x y h=>by cases h
   ·exact(f z).pt.chain
  rcases b with rfl|rfl|rfl
  ·exact c G
  ·exact pt.chain
  ·exact c m
 have on:∀{l:List WD}{w:Addr},l=s.rg∨l=s.pa∨l=s.tl->H w=some (.lst (nmV l))->OnNet K a H p w ps ns l:=λ{l w}b F=>⟨hn,O.nd,SqL.of F,(ho.lg l b).1,t l b,by have:=(ho.lg l b).2.1;lia⟩;exact⟨u,l1,l2,l3,q,e,o,on (.inl rfl) I,on (.inr (.inl rfl)) j,on (.inr (.inr rfl)) A,D,wk _ (.inl rfl),wk _ (.inr (.inl rfl)),wk _ (.inr (.inr rfl))⟩
inductive IspPut(a:Ad)(vs:List V)(H:Hp)(Q:VK):Prop
 |mk(p l:Addr)(X:List Addr)(ts:List V)(ss:List SD)(E:Nat)(ps:List (Str×Rat))(ns:List WD)(h1:vs=[.ref p,.ref l])(h2:NetAt a H p ps ns)(h3:NsOk E ps ns)(h4:H l=some (.lst ts))(h5:RowAt (StIs a X) H ts ss)(h6:ss.length<=24)(h7:(∀s∈ss,HsO ns s))(h8:∀r H',H r=none->Same H H'->PlanA a H' r (eG ss) 900->Q (.ref r) H'):IspPut a vs H Q
noncomputable def spPut(a:Ad):Sp:=λvs H Q _=>IspPut a vs H Q
theorem tot_hs(h:∀s∈ss,HsO ns s)(n:Str):0<=eG ss n/\Bd (246001*ss.length) (eG ss n):=by
 revert h
 refine cZ (P:=λss=>(∀s∈ss,HsO ns s)->0<=eG ss n/\Bd (246001*ss.length) (eG ss n)) (λ_=>⟨nP,Bd.zero.mono (by decide)⟩) (λj u c h=>?_) ss;obtain⟨i,e⟩:=c λs hs=>h s (lf _ hs);obtain⟨D,a,b,sz⟩:=(h u (by simp)).sz;rw[e9,k5,lP];exact⟨by have:=(sz n).nn;grind,(e.add ((sz n).bd a b)).mono (by lia)⟩
theorem fY(T:TX K mg a):FnB P w K mg base CX0 "put_together" 15 ["net","strands"] (spPut a):=by
 refine T.d_put_together.okA sc_put_together λf aa A y s H vs Q E U h=>?_;obtain⟨p,l,X,ts,ss,E',ps,ns,rfl,hn,O,M,m,Z,R,k⟩:=h
 refine⟨_,(aD (aI (i:=2) sc_put_together.nd cU)
  (aD (bR lj rfl (bW (pv 1)) (aQ (i:=3) sc_put_together.nd) (aF (aI (i:=2) sc_put_together.nd (aR (togA T) U aJ (aA (pv 2) (aA (aR (ok_strand_plan T) U aJ (aA (pv 0) (aA (pv 3) aB))) aB))))))
  (aF (aO (pv 2))))),?_⟩
 walk_at"q"
 intro t e;obtain⟨H1,zq,I,N⟩:=uG (o:=.dK []) e;rw[zq];refine⟨_,rfl,l,rfl,⟨_,SqL.of (I _ _ M)⟩,cF (K:=K) (a:=l) (xs:=ts) (λi σ c=>i<=ss.length/\yE2 λr z=>σ=[some (.ref p),some (.ref l),some (.ref r),z]×' Same H c×' H r=none×' PlanA a c r (eG (ss.take i)) (18*i)) ⟨kY _,t,none,rfl,I,e,[],[],N,Tab.nil,mB,kM _,λn=>⟨λz=>(by cases z),λz=>absurd rfl z⟩⟩ ((by rintro i σ c _⟨_,_,_,_,b,_⟩;exact SqL.of (b _ _ M))) ?_ ?_⟩
 ·rintro i v σ c hv⟨_,r,z,rfl,b,L,J⟩;obtain⟨x,ex,st⟩:=m.get hv;have hi:=(kL.mp ex).1;have q:=R x (kN ex);obtain⟨u,a1,a2,a3,qf,rfl,S⟩:=(st.same b).at_ (hn.mono b) O q;obtain⟨Y,gz,es⟩:=q.strand;refine⟨_,rfl,_,rfl,_,rfl,p,u,a1,a2,a3,qf,ps,ns,x.rg,x.pa,x.tl,x.am,40,223600,rfl,S,q.bd,kM _,Y,gz,λr2 H3 ab G j=>?_⟩;rw[es]at j;obtain⟨D,d0,dd,sz⟩:=q.sz;have bt:=λn=>tot_hs (ns:=ns) (ss:=ss.take i) (λs hs=>R s (m6 hs)) n;have li:(ss.take i).length<=24:=by rw[k8];lia
  refine⟨r,r2,_,_,18*i,18,5904024,rfl,J.mono G,j,by lia,λn=>⟨(bt n).2.mono (by lia),((sz n).bd d0 dd).mono (by decide)⟩,by decide,λr3 H4 F s4 B=>?_⟩;refine⟨hi,r3,_,rfl,b.trans (G.trans s4),b.free (G.free F),B.wide (by lia) (funext λn=>?_)⟩;rw[kX,ex,lB,e9]
 ·rintro σ c⟨_,r,z,rfl,b,L,j⟩;rw[m.1,kZ]at j;exact⟨_,rfl,k r c L b (j.wide (by lia) rfl)⟩
theorem Gq.bdA(h:Gq D x)(l:x<=((2^m:Nat):Rat))(l':-((2^m:Nat):Rat)<=x)(d0:0<D)(dn:D<=2^n):Bd (m+n) x:=by
 rcases(Rat.le_total:(0:Rat)<=x∨x<=0) with q|q
 ·exact h.bd q l d0 dn
 ·have:=(h.neg.bd (m:=m) (n:=n) (by grind) (by grind) d0 dn).neg
  rw[Rat.neg_neg]at this;exact this
theorem RsG.ok(h:RsG sp rs):RsOk sp rs:=⟨h.nd,by have:=h.len;lia,λr a=>(h.all r a).1⟩
theorem RsG.names(h:RsG sp rs):(rs.map WR.d).map (·.nm)=rs.map (·.nm):=by
 rw[lY];exact List.map_congr_left λr _=>WR.d_nm r
theorem RsG.ns(h:RsG sp rs)(nd:sp.Nodup)(l4:sp.length<=4):NsOk (EEr rs) (fS sp) (rs.map WR.d):=by
 refine⟨by rw[hI];exact nd,by unfold fS;rw[kK];exact l4,by rw[h.names];exact h.nd,by rw[kK];exact h.len,h.eer.1,kW h.eer.2 (lF (by decide) (by decide)),λd b=>?_,λd b=>?_,λd b=>?_⟩
 ·obtain⟨r,a,rfl⟩:=kQ.mp b;obtain⟨g1,e,c⟩:=h.gn a;exact⟨g1,e,c⟩
 ·obtain⟨r,a,rfl⟩:=kQ.mp b;rw[WR.d_st,WR.d_go];exact(h.all r a).1.ne
 ·obtain⟨r,a,rfl⟩:=kQ.mp b;rw[hI,WR.d_st,WR.d_go];exact⟨(h.all r a).1.i1,(h.all r a).1.i2⟩
theorem NsOk.sums(O:NsOk E ps ns)(hA:∀n,SzQ D 310 (A n))(d0:0<D)(hD:D*E<=2^20000):SumOk A ps ns:=by
 have b:∀n,Bd (310+20000) (A n):=λn=>(hA n).bd d0 (kW (Nat.le_mul_of_pos_right D O.e0) hD);refine⟨O.np,by have:=O.lp;lia,O.io,O.ne,λd a=>⟨(O.g1 d a).2.1,(O.g1 d a).2.2.smr (by decide)⟩,λd a=>⟨(b _).smr (by decide),((b _).mul (O.g1 d a).2.2).smr (by decide)⟩,λi s=>?_⟩;obtain⟨e,h,j⟩:=sumF_sz (s:=s) O.e0 hA (ns.take i) (λd a=>O.ne d (m6 a)) λd a=>O.g1 d (m6 a)
 have c:(((ns.take i).length*2^(310+40):Nat):Rat)<=((2^354:Nat):Rat):=by
  have l:(ns.take i).length<=12:=by
   rw[k8]
   have:=O.ln
   lia
  have:(ns.take i).length*2^(310+40)<=2^354:=kW (nD _ l) (by decide)
  exact_mod_cast this
 exact(e.bdA (m:=354) (n:=20000) (nc h c) (by grind) (nQ d0 O.e0) hD).smr (by decide)
theorem totA_cons(d:SD)(n:Str)(ss:List SD):eG (d::ss) n=sdA d n+eG ss n:=by
 refine cZ (P:=λss=>eG (d::ss) n=sdA d n+eG ss n) ?_ (λb u a=>?_) ss
 ·show 0+sdA d n=sdA d n+0;grind
 ·rw[<-List.cons_append,e9,e9,a];grind
theorem totA_rev(n:Str)(ss:List SD):eG ss.reverse n=eG ss n:=by
 refine cZ (P:=λss=>eG ss.reverse n=eG ss n) rfl (λa u b=>?_) ss;rw[List.reverse_append,e9];show eG (u::a.reverse) n=_;rw[totA_cons,b];grind
theorem RowAt.rev(d:RowAt R H ts xs):RowAt R H ts.reverse xs.reverse:=by
 refine⟨by rw[List.length_reverse,List.length_reverse,d.1],λi t x a b=>?_⟩;have c:=(kL.mp a).1;rw[List.length_reverse]at c;have e:=d.1;rw[List.getElem?_reverse c]at a;rw[List.getElem?_reverse (by lia)]at b;rw[<-e]at b;exact d.2 _ t x a b
structure Bk(a:Ad)(H:Hp)(p r e:Addr)(sp:List Str)(rs:List WR)(kvp kve:List (Key×V))(k1 ks:List Str)(f:Str->Int×Int)(A:Str->Rat):Prop where
 off:NetOff a H p r (fS sp) (rs.map WR.d)
 G:RsG sp rs
 nd:sp.Nodup
 l4:sp.length<=4
 hr:H r=some (.dK kvp)
 tp:Tab (FrIs a) H kvp k1 A
 n1:k1.Nodup
 iff:∀n,n∈k1↔n∈ks
 av:∀n∈ks,A n=vl (f n)
 he:H e=some (.dK kve)
 tb:Tab DueIs H kve ks f
 ndk:ks.Nodup
 D:DuO rs 310 12000 8000 ks f
theorem Bk.mono(h:Bk a H p r e sp rs kvp kve k1 ks f A)(s:Same H H'):Bk a H' p r e sp rs kvp kve k1 ks f A:=⟨h.off.mono s,h.G,h.nd,h.l4,s _ _ h.hr,h.tp.mono λ_ _ z=>z.mono s,h.n1,h.iff,h.av,s _ _ h.he,h.tb.mono λ_ _ z=>z.mono s,h.ndk,h.D⟩
inductive IspBack(a:Ad)(vs:List V)(H:Hp)(Q:VK):Prop
 |mk(p r e:Addr)(sp:List Str)(rs:List WR)(kvp kve:List (Key×V))(k1 ks:List Str)(f:Str->Int×Int)(A:Str->Rat)(h1:vs=[.ref p,.ref r,.ref e])(h2:Bk a H p r e sp rs kvp kve k1 ks f A)(h3:∀H',Same H H'->Q (.bl true) H'):IspBack a vs H Q
noncomputable def spBack(a:Ad):Sp:=λvs H Q _=>IspBack a vs H Q
theorem g9(T:TX K mg a):FnB P w K mg base CX0 "_law_comes_back" 16 ["_law_net_here","_law_plan_here","_law_due"] (spBack a):=by
 refine T.d_law_comes_back.okA sc_law_comes_back λf a4 A au s H vs Q E Z h=>?_;obtain⟨p,r,e,sp,F,ay,aa,Y,ks,f,A0,rfl,B,k⟩:=h
 refine⟨_,(aD (aI (i:=3) sc_law_comes_back.nd (aR (ok_taken_apart T) Z aJ (aA (pv 0) (aA (pv 1) aB))))
  (aD (bG (fV (eo (bH (iA (c:=.type "list")) (by rfl) T.z_isinstance mP (aA (pv 3) (aA (pe_bltn (v:=.ty "list") (by rfl) T.z_list mi rfl) aB))))) (aF (aO fk)) aV)
  (aD (bR lj rfl (bW (pv 3)) (aQ (i:=4) sc_law_comes_back.nd) (aF (bG (aP op_notB (aR (kC T) Z aJ (aA (pv 0) (aA (pv 4) aB))) fk) (aF (aO fk)) aV)))
  (aD (eP (i:=5) (xs:=["_law_k"]) (rest:=["_law_found"]) sc_law_comes_back.nd rfl rfl rfl (dM rfl T.z_range (aA (bH bX (by rfl) T.z_len lZ (aA (pv 3) aB)) aB))
  (λM fp C' s' H'=>(aQ (i:=0) (show(["_law_k","_law_found"]:List Str).Nodup by decide+kernel))) (λM fp C' s' H'=>dQ)
  (λM fp C' s' H'=>(aL (r:=rIxL K) aX (pv 1) (aK eZ (aK eZ (bH (r:=rLen K) bX (by rfl) T.z_len lZ (aA (pv 1) aB)) aC) (pv 0))))
  (Clos.many (ys:=["_law_found"]) rfl ⟨rfl,True.intro⟩ rfl (by decide+kernel)) (Reads.many (ys:=["_law_found"]) (js:=[3]) ⟨⟨rfl,rfl,rfl⟩,True.intro⟩))
  (aF (aO (jc (aR (jf T) Z aJ (aA (aR (fY T) Z aJ (aA (pv 0) (aA (pv 3) aB))) (aA (pv 2) aB))) (jS (aR (jf T) Z aJ (aA (aR (fY T) Z aJ (aA (pv 0) (aA (pv 5) aB))) (aA (pv 2) aB))))))))))),?_⟩
 walk_at"q"
 have O:=B.G.ns B.nd B.l4;obtain⟨D,d0,dd,sz⟩:=B.D.sz;have DE:D*EEr F<=2^20000:=kW (lU dd B.G.eer.2) (by rw[<-l0];exact lF (by decide) (by decide))
 have U:∀n∈Y,SzQ D 310 (A0 n):=λn o=>by
  rw[B.av n ((B.iff n).mp o)];exact sz n
 have hA:∀n,SzQ D 310 (bT Y A0 n):=λn=>by
  unfold bT
  split
  ·rename_i z;exact U n z
  ·exact SzQ.zero
 refine⟨_,rfl,_,rfl,p,r,_,_,ay,Y,A0,EEr F,D,rfl,B.off,O,B.hr,B.tp,B.n1,λn o=>by rw[B.G.names];exact B.D.inn n ((B.iff n).mp o),U,d0,DE,O.sums hA d0 DE,λl H1 j m nl s1 hl J aw nA I=>?_⟩
 have ac:m.length<=24:=by
  have h1:=I.ct;have h2:=ju (λd:WD=>bT Y A0 d.nm) (F.map WR.d);have X:=ju (cG (bT Y A0) (F.map WR.d)) ((fS sp).map (·.1));have h4:=O.ln;have h5:=O.lp;rw[kK]at X
  lia
 have ho:∀s∈m,HsO (F.map WR.d) s:=λs hs=>(I.each s hs).hs O;have B1:=B.mono s1;have tn:∀n,eG m n=bT Y A0 n:=λn=>(I.am n).symm
 have tk:∀n∈ks,eG m n=vl (f n):=λn o=>by
  rw[tn];unfold bT;rw[if_pos ((B.iff n).mpr o)];exact B.av n o
 have t0:∀n,eG m n≠0↔n∈ks:=λn=>by
  by_cases o:n∈ks
  ·rw[tk n o];exact⟨λ_=>o,λ_=>by have:=B.D.ps n o;grind⟩
  ·rw[tn];unfold bT;rw[if_neg λz=>o ((B.iff n).mp z)];exact⟨λz=>absurd rfl z,λz=>absurd z o⟩
 have R:∀n∈ks,SmR (eG m n)/\Sm (f n).1/\Sm (f n).2/\(f n).2≠0/\eG m n=Rat.divInt (f n).1 (f n).2:=λn o=>⟨(tot_hs ho n).2.smr (by lia),Sm.of_le (B.D.nx n).t (by decide),Sm.of_le (B.D.nx n).b (by decide),by have:=B.D.b0 n;lia,tk n o⟩;clear tn hA U DE sz I nA aw tk;have ty:TyOf K H1 (.ref l) (.type "list"):=TyOf.lst hl;refine⟨_,rfl,_,_,_,_,rfl,(λu h=>h),ty,T.k_list_list,_,rfl,iteF ?_⟩;refine⟨_,rfl,l,rfl,⟨_,SqL.of hl⟩,cF (K:=K) (a:=l) (xs:=j) (λi σ H2=>∃z,σ=[some (.ref p),some (.ref r),some (.ref e),some (.ref l),z,none]/\Same H1 H2) ⟨none,rfl,Same.refl _⟩ ((by rintro i σ H2 _⟨_,_,N⟩;exact SqL.of (N _ _ hl))) ?_ ?_⟩
 ·rintro i v σ H2 hv⟨z,rfl,N⟩;obtain⟨x,ex,st⟩:=J.get hv;have xo:=ho x (kN ex);obtain⟨u,a1,a2,a3,qf,rfl,S⟩:=(st.same N).at_ (B1.off.at_.mono N) O xo;refine⟨_,rfl,_,rfl,p,u,a1,a2,a3,qf,fS sp,F.map WR.d,x.rg,x.pa,x.tl,x.am,40,rfl,S,λH3 s3=>⟨_,_,rfl,rfl,_,rfl,?_⟩⟩;rw[xo.strand.1];exact iteF ⟨_,rfl,N.trans s3⟩
 rintro σ H2⟨z,rfl,N⟩;have ag:=N _ _ hl;refine⟨_,rfl,l,_,rfl,.inl (SqL.of ag),_,rfl,by lia,by rw[J.1];lia,λq nq=>?_⟩;have a5:=J.1;refine eF (λi H3=>i<=j.length×' Same H2 H3×' H3 q=some (.lst (j.reverse.take i))) ⟨kY _,aS nq,aE⟩ ?_ ?_
 ·rintro i H3 hi⟨_,s3,X⟩;have ah:i<j.length:=by lia
  refine g1 ⟨⟨[_],rfl,rfl⟩,yes ?_⟩;have sq:=SqL.of (K:=K) (s3 _ _ ag)
  have er:j.reverse[i]?=some (j[j.length-1-i]'(by lia)):=by
   rw[List.getElem?_reverse ah];exact kR _
  have ea:atI j ((j.length:Int)-1-(0+(i:Int)))=some (j[j.length-1-i]'(by lia)):=by
   rw[show(j.length:Int)-1-(0+(i:Int))=((j.length-1-i:Nat):Int) by lia];exact atI_nat (kR _)
  refine⟨_,rfl,_,rfl,l,_,rfl,.inl sq,_,_,rfl,rfl,_,rfl,_,_,rfl,rfl,l,_,_,_,rfl,rfl,sq,ea,?_⟩;refine⟨_,X,aU (by rw[k8,List.length_reverse];lia),eU hi ⟨ah,aZ nq s3,?_⟩⟩;rw[aE,kX,er];rfl
 rintro H3⟨_,s3,X⟩;rw[show((j.length:Int)).toNat=j.length by lia,List.take_of_length_le (by rw[List.length_reverse];exact kM _)]at X;have L:=N.trans s3;have aq:=L _ _ hl;have B3:=B1.mono L;have ae:=J.mono λ_ _ z=>z.same L
 have ad:∀{H4:Hp}{r2:Addr},Same H3 H4->H4 r2=none->r2≠e:=λ{H4 r2}s4 nr z=>by
  rw[z,s4 _ _ B3.he]at nr
  cases nr
 refine⟨_,rfl,_,rfl,p,l,[l],j,m,EEr F,fS sp,F.map WR.d,rfl,B3.off.at_,O,aq,ae,ac,ho,λr2 H4 ao s4⟨aj,ar,an,ap,a0,_,as⟩=>?_⟩;have B4:=B3.mono s4;refine⟨_,rfl,r2,e,aj,aa,ar,ks,eG m,f,rfl,ad (Same.refl _) ao,an,B4.he,ap,B4.tb,a0,B4.ndk,λn=>(as n).trans (t0 n),R,λH5 s5=>?_⟩;refine⟨_,rfl,iteT ?_⟩;have y:=s4.trans s5;have B5:=B3.mono y;have er:eG m.reverse=eG m:=funext λn=>totA_rev n m;refine⟨_,rfl,_,rfl,p,q,[l],j.reverse,m.reverse,EEr F,fS sp,F.map WR.d,rfl,B5.off.at_,O,y _ _ X,(ae.mono λ_ _ z=>z.same y).rev,by rw[List.length_reverse];exact ac,λs hs=>ho s (List.mem_reverse.mp hs),λr3 H6 ax s6⟨az,al,ai,af,ak,_,ab⟩=>?_⟩;rw[er]at af ab;have B6:=B5.mono s6;exact⟨_,rfl,r3,e,az,aa,al,ks,eG m,f,rfl,ad y ax,ai,B6.he,af,B6.tb,ak,B6.ndk,λn=>(ab n).trans (t0 n),R,λH7 s7=>k H7 (s1.trans (L.trans (y.trans (s6.trans s7))))⟩
theorem RowAt.take(d:RowAt R H ts xs)(k:Nat):RowAt R H (ts.take k) (xs.take k):=by
 refine⟨by rw[k8,k8,d.1],λi t x a b=>?_⟩;rw[mO]at a b
 split at a
 ·rw[if_pos ‹_›]at b;exact d.2 i t x a b
 ·cases a
theorem bs_of{rs:List WR}(hN:Names sp n)(hM:Names lb (2*n+4))(n2:2<=n)(n4:n<=4)(l:rs.length=2*n)(h:∀k r,rs[k]?=some r->BaseR sp lb n k r):∃as:Nat->WR,BsX sp lb n as/\∀j,j<2*n->rs[j]?=some (as j):=by
 obtain⟨b,c⟩:∃r,rs[0]?=some r:=⟨_,kR (by lia)⟩
 have at_:∀j,j<2*n->rs[j]?=some (rs.getD j b):=λj a=>by
  rw[List.getD_eq_getElem?_getD,kR (by lia)];rfl
 exact⟨λj=>rs.getD j b,⟨⟨hN.nd,hN.len,λj a=>(h _ _ (at_ j a)).st,λj a=>(h _ _ (at_ j a)).go⟩,λj a=>(h _ _ (at_ j a)).nm,λj a=>(h _ _ (at_ j a)).gs,hM.len,hM.nd,n2,n4⟩,at_⟩
theorem free_rs(hM:Names lb (2*n+4))(n2:2<=n)(l:rs.length<=8)(h:∀k r,rs[k]?=some r->FreeR sp lb k r):RsG sp rs:=by
 have q:=hM.len;refine⟨?_,by lia,λr m=>?_⟩
 ·have e:rs.map (·.nm)=lb.take rs.length:=List.ext_getElem? λk=>by
   rw[kP,mO];by_cases hk:k<rs.length
   ·have g:=kR hk;rw[if_pos hk,g,eM (by lia)];show some rs[k].nm=_;rw[(h k _ g).nm]
   ·rw[if_neg hk,List.getElem?_eq_none (by lia)];rfl
  rw[e];exact hM.nd.sublist (List.take_sublist _ _)
 ·obtain⟨j,a⟩:=lL.mp m;have F:=h j r a;obtain⟨o,c,i,b⟩:=gs200 F.gs;have p:(2:Int)^7<=2^40:=by decide
  exact⟨⟨⟨o,nN c p,i,nN b p⟩,F.ne,F.st,F.go⟩,dv_base F.gs⟩
theorem Prq.leg(h:Prq ws)(s:∀r∈ws,r∈rs)(hl:H l=some (.lst (nmR ws))):Leg H rs l ws:=⟨hl,s,h.gb,h.nd,h.len⟩
theorem SdO.v(h:SdO rs hd pa ta c):StV hd pa ta c:=⟨h.ph.gb,h.pp.gb,h.pt.gb,by have:=h.cb.b0;lia,h.he,h.te⟩
theorem SdO.ev(h:SdO rs hd pa ta c)(z:hd≠[]/\(gp hd).1=(gp hd).2):pa=[]/\ta=[]:=((h.he z.1).resolve_right λq=>by have:=z.2;lia).2
theorem CB.nx(h:CB c):Nx 40 c:=by
 obtain⟨l,i,m,j⟩:=h;have e:(2:Int)^40=((2^40:Nat):Int):=by decide
 have b:(2:Int)^10=1024:=by decide
 have a:1024<=2^40:=by decide
 exact⟨by omega,by omega⟩
theorem d_nms(ws:List WR):(ws.map WR.d).map (·.nm)=ws.map (·.nm):=by rw[lY];exact List.map_congr_left λr _=>WR.d_nm r
noncomputable def sdOf(x:DS)(ad:List Addr):SD:=⟨x.hd.map WR.d,x.pa.map WR.d,x.ta.map WR.d,vl x.c,ad⟩
theorem SdO.hs'(h:SdO rs x.hd x.pa x.ta x.c)(G:RsG sp rs)(ad:List Addr):HsO (rs.map WR.d) (sdOf x ad):=h.hs G ad
noncomputable def HdIs(a:Ad)(X:List Addr)(H:Hp)(v:V)(x:DS):Prop:=∃ad,StIs a X H v (sdOf x ad)
theorem hd_out:∀{xs:List DS}{us:List V},RowAt (HdIs a X) H us xs->∃ss,RowAt (StIs a X) H us ss/\(∀s∈ss,∃x∈xs,∃ad,s=sdOf x ad)/\∀n,eG ss n=eG (xs.map λx=>sdOf x []) n
 |[],us,h=>⟨[],⟨h.1,λi t y _ e=>by cases e⟩,(λs hs=>by cases hs),λ_=>rfl⟩
 |x::xs,[],h=>absurd h.1 (by simp)
 |x::xs,v::us,h=>by
  obtain⟨ad,o⟩:=h.2 0 v x rfl rfl;obtain⟨ss,j,p,l⟩:=hd_out (xs:=xs) (us:=us) ⟨Nat.succ.inj h.1,λi t y b c=>h.2 (i+1) t y b c⟩;refine⟨sdOf x ad::ss,⟨lW (·+1) j.1,λi t y b c=>?_⟩,λs hs=>?_,λn=>?_⟩
  ·cases i with
   |zero=>
    cases b
    cases c;exact o
   |succ i=>exact j.2 i t y b c
  ·rcases lx.mp hs with rfl|z
   ·exact⟨x,lG ..,ad,rfl⟩
   ·obtain⟨y,m,e⟩:=p s z;exact⟨y,lv _ m,e⟩
  ·rw[md,totA_cons,totA_cons,l];rfl
theorem hX:∀xs:List Str,eqVs (xs.map V.str) (xs.map V.str)=true/\(xs.map V.str).all hJ=true
 |[]=>⟨rfl,rfl⟩
 |x::xs=>by
  obtain⟨a,b⟩:=hX xs;refine⟨?_,?_⟩
  ·rw[md];simp[eqVs,eqV,a]
  ·rw[md,List.all_cons,b];rfl
theorem nmR_s(ws:List WR):nmR ws=(ws.map (·.nm)).map V.str:=by unfold nmR;rw[lY];rfl
theorem nmV_R(ws:List WR):nmV (ws.map WR.d)=nmR ws:=by unfold nmV nmR;rw[lY];exact List.map_congr_left λr _=>lW V.str (WR.d_nm r)
theorem DuO.step(D:DuO rs (302+i) (6000*i) (1120*i) ks f)(G:RsG sp rs)(nd:sp.Nodup)(l4:sp.length<=4)(xo:SdO rs x.hd x.pa x.ta x.c)(Lh:Leg H rs lh x.hd)(Lp:Leg H rs lp x.pa)(Lt:Leg H rs lt x.ta):DuO rs (302+(i+1)) (6000*(i+1)) (1120*(i+1)) (ks++x.hd.map (·.nm)++x.pa.map (·.nm)++x.ta.map (·.nm)) (plF f x.c x.hd x.pa x.ta)/\∀n,vl (plF f x.c x.hd x.pa x.ta n)=vl (f n)+sdA (sdOf x []) n:=by
 obtain⟨h,E⟩:=plF_val xo.v (λn=>Int.ne_of_gt (D.b0 n)) [];obtain⟨s,t,w,l⟩:=D.sz;obtain⟨y,p,m,j⟩:=xo.sz G [];have O:=G.ns nd l4
 have a:∀{e:List WR}{n:Str},(∀r∈e,r∈rs)->n∈e.map (·.nm)->n∈rs.map (·.nm):=λ{e n}q z=>by
  obtain⟨r,o,rfl⟩:=kQ.mp z;exact kQ.mpr ⟨r,q r o,rfl⟩
 have c:∀n,n∈x.hd.map (·.nm)∨n∈x.pa.map (·.nm)∨n∈x.ta.map (·.nm)->0<sdA (sdOf x []) n:=λn b=>(xo.hs' G []).ps O (by unfold sdOf;rw[d_nms,d_nms,d_nms];exact b);refine⟨⟨λn=>(plF_nx Lh Lp Lt D.nx xo.cb.nx n).mono (by lia),plF_pos xo.v (by have:=xo.cb.b0;lia) D.b0,⟨s*y,nQ t p,?_,λn=>?_⟩,λn b=>?_,λn b=>?_⟩,h⟩
 ·rw[show 6000*(i+1)=6000*i+6000 by lia,l0];exact lU w m
 ·rw[h n];exact((l n).mono (Nat.dvd_mul_right _ _) (kM _)).add ((j n).mono (Nat.dvd_mul_left _ _) (by lia))
 ·rcases kU.mp b with z|z
  ·rcases kU.mp z with z|z
   ·rcases kU.mp z with z|z
    ·exact D.inn n z
    ·exact a xo.ih z
   ·exact a xo.ip z
  ·exact a xo.it z
 ·rw[h n];have B:=(l n).nn;have A:0<=sdA (sdOf x []) n:=(j n).nn;have fin:n∈x.hd.map (·.nm)∨n∈x.pa.map (·.nm)∨n∈x.ta.map (·.nm)->0<vl (f n)+sdA (sdOf x []) n:=λz=>by have:=c n z;grind
  rcases kU.mp b with z|z
  ·rcases kU.mp z with z|z
   ·rcases kU.mp z with z|z
    ·have:=D.ps n z
     show 0<vl (f n)+sdA (sdOf x []) n;grind
    ·exact fin (.inl z)
   ·exact fin (.inr (.inl z))
  ·exact fin (.inr (.inr z))
theorem ok_law(N:Fun K "law" "law" s_law f fd)(T:TX K mg a):FnOk P w K mg base CX0 20 f fd ["_law_script"] (spLaw K):=by
 refine N.okA sc_law λc6 A ch s H vs Q E F h=>?_;obtain⟨l,ns,rfl,hS,cz,c7,k⟩:=h
 refine⟨_,(aD (aI (i:=1) sc_law.nd (aR (cO T) F aJ (aA (pv 0) (aA aC aB))))
  (aD (aI (i:=2) sc_law.nd (aR (kB T) F aJ (aA (aR (cO T) F aJ (aA (pv 0) (aA aC aB))) (aA (aK bJ aC (aK bC (pv 1) aC)) aB))))
  (aD (aI (i:=3) sc_law.nd (aR (kB T) F aJ (aA (aR (cO T) F aJ (aA (pv 0) (aA aC aB))) (aA (aK bJ (aK cI aC (bH bX (by rfl) T.z_len lZ (aA (pv 2) aB))) aC) aB))))
  (aD (aI (i:=4) sc_law.nd (aR (ok_law_ways T) F aJ (aA (pv 0) (aA (pv 2) (aA (pv 3) aB)))))
  (bB (bG (aP eJ (aK bC (aK cA (pv 1) aC) aC) aC) (aD (aI (i:=4) sc_law.nd (aR (ok_law_free_ways T) F aJ (aA (pv 0) (aA (pv 2) (aA (pv 3) aB)))))
  (aD (aI (i:=5) sc_law.nd (aR (ok_law_free_due T) F aJ (aA (pv 0) (aA (pv 4) aB))))
  (aD (aI (i:=6) sc_law.nd cU)
  (aD (gi (bR lj rfl (jr (pv 5)) (aQ (i:=7) sc_law.nd) (aF (cW (bS F) (pv 6) (pv 7) (cL (mk2 T) F T.mg_Fraction aJ (aA (aL aT (cQ (bS F) (pv 5) (pv 7) (λ_ _=>rfl)) aC) (aA (aL aT (cQ (bS F) (pv 5) (pv 7) (λ_ _=>rfl)) aC) aB))) rfl))))
  (aF (aO (aR (g9 T) F aJ (aA (aR (ok_law_net T) F aJ (aA (pv 2) (aA (pv 4) aB))) (aA (pv 6) (aA (pv 5) aB)))))))))) aV)
  (aD (aI (i:=8) sc_law.nd (aR (ok_law_strands T) F aJ (aA (pv 0) (aA (pv 4) (aA (pv 3) (aA (bH bX (by rfl) T.z_len lZ (aA (pv 2) aB)) (aA aC aB)))))))
  (aD (aI (i:=8) sc_law.nd (gL j9 (pv 8) iH (iG (aK bJ aC (aK bC (aK cA (pv 1) aC) aC)))))
  (aD (aI (i:=9) sc_law.nd (aR (ok_law_net T) F aJ (aA (pv 2) (aA (pv 4) aB))))
  (aD (aI (i:=5) sc_law.nd cU)
  (aD (bR lj rfl (bW (pv 8)) (aQ (i:=10) sc_law.nd) (aF (bZ (aR (ok_law_planned T) F aJ (aA (pv 5) (aA (pv 4) (aA (pv 10) aB)))))))
  (aD (eP (i:=11) (xs:=["_law_strand_here"]) (rest:=[]) sc_law.nd rfl rfl rfl (bW (pv 8))
  (λap fp C' s' H'=>(aQ (i:=0) (show(["_law_strand_here"]:List Str).Nodup by decide+kernel))) (λap fp C' s' H'=>dQ)
  (λap fp C' s' H'=>(aR (ok_law_handed T) F aJ (aA (pv 0) aB)))
  (Clos.none (by decide+kernel) (by decide+kernel)) (Reads.many (ys:=[]) (js:=[]) True.intro))
  (aD (aI (i:=6) sc_law.nd (aR (fY T) F aJ (aA (pv 9) (aA (pv 11) aB))))
  (aD (bG (PW.pt (pw_or (fV (eo (aR (jf T) F aJ (aA (pv 6) (aA (pv 5) aB))))) (jR (aP op_ne (bH bX (by rfl) T.z_len lZ (aA (pv 11) aB)) (bH bX (by rfl) T.z_len lZ (aA (pv 8) aB)))))) (aF (aO fk)) aV)
  (aD (bR lj rfl (dM rfl T.z_range (aA (bH bX (by rfl) T.z_len lZ (aA (pv 11) aB)) aB)) (aQ (i:=12) sc_law.nd) (aF (bG (PW.pt (pw_or (aP (op_neL F.units0) (aL aT (aL aX (pv 11) (pv 12)) aC) (aL aT (aL aX (pv 8) (pv 12)) aC)) (pw_or (aP (op_neL F.units0) (aL aT (aL aX (pv 11) (pv 12)) aC) (aL aT (aL aX (pv 8) (pv 12)) aC)) (jR (aP (op_neL F.units0) (aL aT (aL aX (pv 11) (pv 12)) aC) (aL aT (aL aX (pv 8) (pv 12)) aC)))))) (aF (aO fk)) aV)))
  (aF (aO (aR (g9 T) F aJ (aA (pv 9) (aA (pv 6) (aA (pv 5) aB)))))))))))))))))))),?_⟩
 walk_at"q"
 generalize bt:jP _ _=k9
 revert k9
 refine iw λk9 bt=>?_;refine⟨_,rfl,l,ns,0,rfl,hS,by decide,by decide,λc0=>?_⟩;refine⟨_,rfl,l,ns,1,rfl,hS,by decide,by decide,λc1=>?_⟩;obtain⟨a1,a2⟩:=bL c0 (show(0:Int)<3 by decide);obtain⟨n,en⟩:=mW (show 0<=2+c0%3 by omega);have n2:2<=n:=by omega
 have n4:n<=4:=by omega
 refine⟨_,rfl,_,_,rfl,rfl,zI3,_,_,rfl,rfl,c1,n,by show[V.int c1,V.int (2+c0%3)]=_;rw[en],by omega,λls H1 sp b9 s1 au hN=>?_⟩;refine⟨_,rfl,l,ns,2,rfl,s1.seq hS,by decide,by decide,λc2=>?_⟩;refine⟨_,rfl,ls,_,rfl,.inl (SqL.of au),_,_,rfl,rfl,⟨Sm.of_le (n:=10) (by decide) (by decide),by rw[kK,hN.len];exact Sm.of_le (n:=10) (by omega) (by decide)⟩,_,_,rfl,rfl,c2,2*n+4,by rw[kK,hN.len];rfl,by omega,λll J lb co L a6 hM=>?_⟩;have ar:=s1.trans L;have ag:=L _ _ au;refine⟨_,rfl,_,rfl,_,rfl,l,ls,ll,ns,sp,lb,n,rfl,ar.seq hS,SqL.of ag,SqL.of a6,hN,n2,n4,hM,λd H3 rs nd s3 hR ln good=>?_⟩;have ak:=ar.trans s3;have R:=s3 _ _ ag;have aj:=s3 _ _ a6;have l4:sp.length<=4:=by rw[hN.len];exact n4
 subst bt;refine dP (λσ' H'=>σ'=[some (.ref l),some (.int c0),some (.ref ls),some (.ref ll),some (.ref d),none,none,none,none,none,none,none,none]/\H'=H3) ?_ ?_
 ·refine⟨_,rfl,_,_,rfl,rfl,⟨by decide,by decide⟩,_,_,rfl,rfl,zI2,rfl,_,rfl,ifV (λe1=>?_) (λe1=>⟨rfl,rfl⟩)⟩;refine⟨_,rfl,_,rfl,_,rfl,l,ls,ll,ns,sp,lb,n,rfl,ak.seq hS,SqL.of R,SqL.of aj,hN,n2,n4,hM,λd2 H4 r2 dc s4 R4 l8 fr=>?_⟩;have G:=free_rs hM n2 l8 fr;have b7:=ak.trans s4;refine⟨_,rfl,_,rfl,l,d2,ns,sp,r2,rfl,b7.seq hS,R4,G,λe H5 j S f ne s5 he tb af D=>?_⟩;have R5:=R4.mono s5
  have lk:S.length<=12:=by
   have h2:=eT af λn hn=>D.inn n hn;rw[kK]at h2
   have:=G.len
   omega
  intro r nr;obtain⟨H6,zq,s6,h6⟩:=uG (o:=.dK []) nr;rw[zq];have bc:=s6 _ _ he;have a4:e≠r:=aN he nr;refine⟨e,.dK j,bc,(by intro o z q;cases q),_,rfl,e,j,rfl,bc,λo=>?_⟩
  refine for_dict (a:=e) (o:=o) (kvs:=j) (λi σ J=>i<=S.length/\∃(z7:Option V)(I:List (Key×V)),σ=[some (.ref l),some (.int c0),some (.ref ls),some (.ref ll),some (.ref d2),some (.ref e),some (.ref r),z7,none,none,none,none,none]/\J e=some (.frz o (.dK j))/\(∀b ob,H5 b=some ob->b≠e->J b=some ob)/\J r=some (.dK I)/\Tab (FrIs a) J I (S.take i) (λn=>vl (f n)))
   ⟨kY _,none,[],rfl,aE,(λb ob q ne=>by rw[aG ne];exact s6 _ _ q),by rw[aG a4.symm];exact h6,by rw[List.take_zero];exact Tab.nil⟩ (λi σ J _⟨_,_,_,_,h,_⟩=>h) ?_ ?_
  ·rintro i kv σ J cg⟨_,z7,I,rfl,ac,k2,ao,tp⟩;obtain⟨nm,bl,e1,ev,t,et,ht⟩:=tb.at_ af cg;have hi:=(kL.mp bl).1;have fn:=D.nx nm;have fb:(f nm).2≠0:=by have:=D.b0 nm;omega
   have cj:kV kv.1=.str nm:=by rw[e1];rfl
   rw[cj];rw[et]at ev;have bz:=k2 _ _ ht (bD ht he (by intro z;cases z));refine⟨_,rfl,_,rfl,e,.ref t,rfl,.inl ⟨j,Sum.inr nm,.inr ⟨o,ac⟩,rfl,ev.symm⟩,t,_,_,_,rfl,rfl,SqT.of bz,rfl,?_⟩;refine⟨_,rfl,_,rfl,e,.ref t,rfl,.inl ⟨j,Sum.inr nm,.inr ⟨o,ac⟩,rfl,ev.symm⟩,t,_,_,_,rfl,rfl,SqT.of bz,rfl,_,_,rfl,fb,Sm.of_le fn.b (by decide),λq H7 nq s7 f7=>?_⟩;obtain⟨tk,ca⟩:=gr af bl;refine⟨_,rfl,_,rfl,r,_,rfl,DPut.k (k:=Sum.inr nm) (s7 _ _ ao) (aU (by rw[tp.len,k8];omega)),?_⟩;have kp:KeepD H7 (upd H7 r (.dK (cY I (Sum.inr nm) (.ref q)))):=KeepD.put (s7 _ _ ao);have tq:=Tab.put (n:=nm) (tp.mono λv x z=>(z.mono s7).keep kp) (FrIs.keep (x:=vl (f nm)) ⟨q,rfl,f7⟩ kp);rw[gS ca,<-tk]at tq;refine⟨hi,_,_,rfl,by rw[aG a4];exact s7 _ _ ac,(λb ob z ne=>by rw[aG (aN z nr)];exact s7 _ _ (k2 _ _ z ne)),aE,tq.congr λn _=>?_⟩;unfold upf
   split
   ·rename_i h;rw[h]
   ·rfl
  ·rintro σ J⟨_,z7,I,rfl,ac,k2,ao,tp⟩;rw[tb.len,kZ]at tp
   have sf:Same H5 (upd J e (.dK j)):=λb ob q=>by
    by_cases hb:b=e
    ·subst hb;rw[aE,<-he,q]
    ·rw[aG hb];exact k2 _ _ q hb
   have a7:upd J e (.dK j) r=some (.dK I):=by rw[aG a4.symm];exact ao
   have b4:Tab (FrIs a) (upd J e (.dK j)) I S (λn=>vl (f n)):=tp.mono λv x z=>FrIs.keep z (.frz ac);refine⟨o,ac,?_⟩;generalize upd J e (.dK j)=H8 at sf a7 b4⊢;have cp:=s4.trans (s5.trans sf);refine⟨_,rfl,_,rfl,ls,d2,sp,r2,rfl,SqL.of (cp _ _ R),hN.nd,by omega,R5.mono sf,G.ok,λp H9 np s9 ae bq=>?_⟩;exact⟨_,rfl,_,rfl,p,r,e,sp,r2,I,j,S,S,f,λn=>vl (f n),rfl,⟨bq r I a7,G,hN.nd,l4,s9 _ _ a7,b4.mono λ_ _ z=>z.mono s9,af,λ_=>Iff.rfl,λ_ _=>rfl,s9 _ _ (sf _ _ he),tb.mono λ_ _ z=>z.mono (sf.trans s9),af,D⟩,λbp _=>k bp⟩
 rintro zU cq σ' H'⟨rfl,rfl⟩;obtain⟨as,B,bn⟩:=bs_of hN hM n2 n4 ln good;subst cq;refine⟨_,rfl,_,rfl,_,rfl,_,rfl,ls,_,rfl,.inl (SqL.of R),l,d,ll,ns,rs,sp,lb,as,n,by rw[kK,hN.len];rfl,ak.seq hS,hR,B,ln,bn,aj,λs0 H4 ts ds X c5 bx kp R4 bj c3 G bg=>?_⟩;obtain⟨cw,az,_⟩:=hR;have cs:=SqL.kpd (ak.seq hS) az kp;have aq:=kp _ _ (bD R az (by intro z;cases z)) R;obtain⟨b1,b2⟩:=bL (c0/3) (show(0:Int)<2 by decide);obtain⟨m1,cm⟩:=mW (show 0<=1+c0/3%2 by omega);refine⟨_,rfl,_,rfl,_,_,rfl,rfl,⟨by decide,by decide⟩,_,_,rfl,rfl,zI2,_,_,rfl,rfl,_,rfl,s0,_,rfl,SqL.of bx,λq nq=>?_⟩;rw[cm,cut_take];obtain⟨H5,zq,s5,a3⟩:=uG (o:=.lst (ts.take m1)) nq;rw[zq];have ai:=(bj.mono λ_ _ z=>z.mono s5).take m1;have br:(ds.take m1).length<=2:=by rw[k8];omega
 have ab:∀x∈ds.take m1,SdO X x.hd x.pa x.ta x.c:=λx hx=>bg x (m6 hx);have R5:=R4.mono s5;have bo:=s5 _ _ aq;clear bg bj R4 kp bx az cs aq aj R ak bn B good s3 nd a6 L co au s1 b9 ag ar hM s5 hS;generalize ts.take m1=ts at ai a3;generalize ds.take m1=xs at ai br ab;have O:=G.ns hN.nd l4;refine⟨_,rfl,_,rfl,ls,d,sp,X,rfl,SqL.of bo,hN.nd,by omega,R5,G.ok,λp H6 np s6 ae _=>?_⟩;have ax:=s6 _ _ a3;have R6:=R5.mono s6;have aa:=ai.mono λ_ _ z=>z.mono s6;obtain⟨cw,cd,_⟩:=id R6;intro e ne;obtain⟨H7,zq,s7,h7⟩:=uG (o:=.dK []) ne;rw[zq];have cv:e≠d:=(aN cd ne).symm
 refine⟨_,rfl,q,rfl,⟨_,SqL.of (s7 _ _ ax)⟩,cF (K:=K) (a:=q) (xs:=ts) (λi σ J=>i<=xs.length/\∃(an:Option V)(S:List Str)(f:Str->Int×Int),σ=[some (.ref l),some (.int c0),some (.ref ls),some (.ref ll),some (.ref d),some (.ref e),none,none,some (.ref q),some (.ref p),an,none,none]/\Same H6 J/\DueAt J e S f/\S.length<=12*i/\DuO X (302+i) (6000*i) (1120*i) S f/\∀n,vl (f n)=eG ((xs.take i).map λx=>sdOf x []) n)
  ⟨kY _,none,[],λ_=>(0,1),rfl,s7,⟨⟨[],h7,Tab.nil⟩,λ_ _=>rfl⟩,kM _,⟨λ_=>⟨kY _,kM _⟩,λ_=>(zI1),⟨1,by decide,kM _,λ_=>(by rw[show vl (0,1)=0 from rfl];exact SzQ.zero)⟩,(λn hn=>by cases hn),(λn hn=>by cases hn)⟩,λ_=>(show vl (0,1)=0 from rfl)⟩ (λi σ J _⟨_,_,_,_,_,L,_⟩=>SqL.of (L _ _ ax)) ?_ ?_⟩
 ·rintro i v σ J hv⟨_,an,S,f,rfl,L,du,bh,D,tv⟩;obtain⟨x,ex,t,lh,lp,lt,g,rfl,t1,t2,t3,t4,t5,_⟩:=aa.get hv;have hi:i<xs.length:=(kL.mp ex).1;have U:=ab x (kN ex);have Lh:=U.ph.leg U.ih (L _ _ t2);have Lp:=U.pp.leg U.ip (L _ _ t3);have Lt:=U.pt.leg U.it (L _ _ t4);have l1:=U.ph.len;have l2:=U.lp;have l3:=U.pt.len;obtain⟨D',ce⟩:=D.step G hN.nd l4 U Lh Lp Lt;refine⟨_,rfl,_,rfl,_,rfl,e,d,t,lh,lp,lt,g,X,x.hd,x.pa,x.ta,x.c,S,f,1120*i,40,rfl,cv,du,by omega,D.nx,by omega,R6.mono L,G.nd,L _ _ t1,Lh,Lp,Lt,L _ _ t5,U.cb.nx,U.ev,λH3 k3 cf=>?_⟩;refine⟨hi,_,_,_,rfl,k3.same ne L,cf,by simp only[k5,kK];omega,D',λn=>?_⟩;rw[ce n,tv n,kX,ex,lB,kO];exact(e9 _ _ n).symm
 rintro σ H8⟨_,an,S,f,rfl,s8,⟨⟨j,he,tb⟩,no⟩,bh,D,tv⟩;rw[aa.1,kZ]at tv;rw[aa.1]at bh D;have a9:=s8 _ _ ax;have M:=aa.mono λ_ _ z=>z.mono s8;have R8:=R6.mono s8;have O':=O;refine⟨_,rfl,q,rfl,⟨_,SqL.of a9⟩,λm nm=>?_⟩;have sm:=aS (o:=.lst []) nm;refine e7 (K:=K) (a:=q) (xs:=ts) (λi J=>i<=xs.length×' Same H8 J×'∃us,J m=some (.lst us)/\RowAt (HdIs a [m]) J us (xs.take i)) ⟨kY _,sm,[],aE,RowAt.nil⟩ (λi J⟨_,L,_⟩=>SqL.of (L _ _ a9)) ?_ ?_
 ·rintro i v J hv⟨_,L,us,h2,Y⟩;obtain⟨x,ex,t,lh,lp,lt,g,rfl,t1,t2,t3,t4,t5,_⟩:=M.get hv;have hi:i<xs.length:=(kL.mp ex).1;have U:=ab x (kN ex);refine g1 ⟨⟨[_],rfl,rfl⟩,yes ?_⟩;have cn:=U.cb.nx;have c9:=U.cb.b0;rw[nmR_s]at t2 t3 t4;refine⟨_,rfl,t,lh,lp,lt,g,_,_,_,x.c.1,x.c.2,rfl,L _ _ t1,L _ _ t2,L _ _ t3,L _ _ t4,by rw[kK];have:=U.ph.len;omega,by rw[kK];have:=U.pp.len;omega,by rw[kK];have:=U.pt.len;omega,L _ _ t5,Sm.of_le cn.t (by decide),Sm.of_le cn.b (by decide),by omega,λt' aw a8 a5 q' H3 c4 cy ck cx s3 e0 e1 e2 e3 fq=>?_⟩;have h3:=s3 _ _ h2;have bu:us.length=i:=by rw[Y.1,k8];omega
  have av:∀{w:Addr},J w=none->w≠m:=λ{w}nw z=>by rw[z,h2]at nw;cases nw
  have keep:∀v y,HdIs a [m] H3 v y->HdIs a [m] (upd H3 m (.lst (us++[.ref t']))) v y:=λv y⟨ad,u,l1,l2,l3,qf,z,g0,g1,g2,g3,n1,n2,n3,⟨dq,gf⟩,ea⟩=>⟨ad,u,l1,l2,l3,qf,z,by rw[aG (bD g0 h3 (by intro z;cases z))];exact g0,by rw[aG λz=>n1 (by rw[z];simp)];exact g1,by rw[aG λz=>n2 (by rw[z];simp)];exact g2,by rw[aG λz=>n3 (by rw[z];simp)];exact g3,n1,n2,n3,⟨dq,by rw[aG (bD gf h3 (by intro z;cases z))];exact gf⟩,ea⟩;obtain⟨db,b6,cr⟩:=fq
  cases b6;refine⟨_,h3,aU (by omega),eU (by rw[M.1];exact hi) ⟨hi,aZ nm (L.trans s3),_,aE,?_⟩⟩;rw[kX,ex,lB];refine RowAt.snoc (Y.mono λv y⟨ad,z⟩=>keep v y ⟨ad,z.same s3⟩) (keep _ _ ⟨[aw,a8,a5],t',aw,a8,a5,q',rfl,e0,?_,?_,?_,λz=>av cy (kS.mp z),λz=>av ck (kS.mp z),λz=>av cx (kS.mp z),cr,rfl⟩)
  ·show H3 aw=some (.lst (nmV (x.hd.map WR.d)));rw[nmV_R,nmR_s];exact e1
  ·show H3 a8=some (.lst (nmV (x.pa.map WR.d)));rw[nmV_R,nmR_s];exact e2
  ·show H3 a5=some (.lst (nmV (x.ta.map WR.d)));rw[nmV_R,nmR_s];exact e3
 rintro H9⟨_,s9,us,h9,Y⟩;rw[M.1,kZ]at Y;obtain⟨ss,bm,ct,bf⟩:=hd_out Y
 have ho:∀s∈ss,HsO (X.map WR.d) s:=λs hs=>by
  obtain⟨x,hx,ad,rfl⟩:=ct s hs;exact(ab x hx).hs' G ad
 have c8:ss.length<=2:=by rw[<-bm.1,Y.1];exact br
 have bv:=s8.trans s9;have et:eG ss=λn=>vl (f n):=funext λn=>(bf n).trans (tv n).symm
 have cu:∀n,SmR (vl (f n)):=λn=>by
  have z:=(tot_hs ho n).2.smr (by omega);rw[et]at z;exact z
 refine⟨_,rfl,_,rfl,p,m,[m],us,ss,EEr X,fS sp,X.map WR.d,rfl,ae.mono bv,O,h9,bm,by omega,ho,λr bp nr b3⟨I,k1,F,tp,bw,_,bb⟩=>?_⟩;rw[et]at tp bb
 have be:∀n,n∈k1↔n∈cB S:=λn=>by
  refine(bb n).trans ?_;show vl (f n)≠0↔_;rw[mem_keysOf];by_cases z:n∈S
  ·exact⟨λ_=>z,λ_=>by have:=D.ps n z;grind⟩
  ·have e0:vl (f n)=0:=by rw[no n z];rfl
   exact⟨λy=>absurd e0 y,λy=>absurd y z⟩
 have ba:=s9.trans b3;refine⟨_,rfl,_,rfl,r,e,I,j,k1,cB S,_,f,rfl,(λz=>by rw[z,s9 _ _ he]at nr;cases nr),F,ba _ _ he,tp,tb.mono (λ_ _ z=>z.mono ba),bw,gm S,be,λn hn=>⟨cu n,Sm.of_le (D.nx n).t (by omega),Sm.of_le (D.nx n).b (by omega),by have:=D.b0 n;omega,rfl⟩,λam a0=>?_⟩;have bu:us.length=ts.length:=by rw[Y.1,M.1]
 have sB:=b3.trans a0;have Z:=s9.trans sB;have hm:=sB _ _ h9;have hq:=Z _ _ a9;refine⟨_,rfl,iteF ?_⟩;refine⟨_,rfl,m,_,rfl,.inl (SqL.of hm),_,rfl,q,_,rfl,.inl (SqL.of hq),rfl,_,rfl,?_⟩;rw[bu];refine iteNS rfl ?_;have da:=M.1;refine⟨_,rfl,m,_,rfl,.inl (SqL.of hm),_,rfl,by omega,by omega,jw (λi σ ah=>∃ay,σ=[some (.ref l),some (.int c0),some (.ref ls),some (.ref ll),some (.ref d),some (.ref e),some (.ref r),none,some (.ref q),some (.ref p),an,some (.ref m),ay]/\ah=am) ⟨none,rfl,rfl⟩ ?_ ?_⟩
 ·rintro i σ ah hi⟨ay,rfl,al⟩;rw[al];clear al ah;have b5:i<us.length:=by omega
  obtain⟨v,ev⟩:∃v,us[i]?=some v:=⟨_,kR b5⟩;obtain⟨x,ex,ad,st⟩:=Y.get ev;obtain⟨v',ci,t,lh,lp,lt,g,rfl,t1,t2,t3,t4,_⟩:=M.get' ex;obtain⟨u,l1,l2,l3,qf,rfl,g0,g1,g2,g3,_⟩:=st.same sB;have w1:am l1=some (.lst (nmR x.hd)):=by rw[<-nmV_R];exact g1
  have w2:am l2=some (.lst (nmR x.pa)):=by rw[<-nmV_R];exact g2
  have w3:am l3=some (.lst (nmR x.ta)):=by rw[<-nmV_R];exact g3
  rw[nmR_s]at w1 w2 w3 t2 t3 t4;have a1:atI us (0+(i:Int))=some (.ref u):=by rw[Int.zero_add];exact atI_nat ev
  have a2:atI ts (0+(i:Int))=some (.ref t):=by rw[Int.zero_add];exact atI_nat ci
  have q1:=SqT.of (K:=K) g0;have q2:=SqT.of (K:=K) (Z _ _ t1);have n1:=SqL.of (K:=K) hm;have n2:=SqL.of (K:=K) hq;refine⟨_,rfl,_,rfl,m,_,_,_,rfl,rfl,n1,a1,u,_,_,_,rfl,rfl,q1,rfl,_,rfl,_,rfl,q,_,_,_,rfl,rfl,n2,a2,t,_,_,_,rfl,rfl,q2,rfl,l1,lh,_,_,rfl,rfl,SqL.of w1,SqL.of (Z _ _ t2),(hX _).2,(hX _).2,_,rfl,?_⟩;rw[(hX _).1];refine iteF ?_;refine⟨_,rfl,_,rfl,m,_,_,_,rfl,rfl,n1,a1,u,_,_,_,rfl,rfl,q1,rfl,_,rfl,_,rfl,q,_,_,_,rfl,rfl,n2,a2,t,_,_,_,rfl,rfl,q2,rfl,l2,lp,_,_,rfl,rfl,SqL.of w2,SqL.of (Z _ _ t3),(hX _).2,(hX _).2,_,rfl,?_⟩;rw[(hX _).1];refine iteF ?_;refine⟨_,rfl,_,rfl,m,_,_,_,rfl,rfl,n1,a1,u,_,_,_,rfl,rfl,q1,rfl,_,rfl,_,rfl,q,_,_,_,rfl,rfl,n2,a2,t,_,_,_,rfl,rfl,q2,rfl,l3,lt,_,_,rfl,rfl,SqL.of w3,SqL.of (Z _ _ t4),(hX _).2,(hX _).2,_,rfl,?_⟩;rw[(hX _).1];exact iteF ⟨_,rfl,rfl⟩
 ·rintro σ ah⟨ay,rfl,al⟩;rw[al];clear al ah;obtain⟨D0,d0,d1,sz⟩:=D.sz;exact⟨_,rfl,_,rfl,_,rfl,p,r,e,sp,X,I,j,k1,cB S,f,λn=>vl (f n),rfl,⟨⟨H9,ae.mono bv,sB,nr⟩,G,hN.nd,l4,a0 _ _ F,tp.mono λ_ _ z=>z.mono a0,bw,be,λ_ _=>rfl,Z _ _ he,tb.mono λ_ _ z=>z.mono Z,gm S,⟨λn=>(D.nx n).mono (by omega),D.b0,⟨D0,d0,kW d1 (lF (by decide) (by omega)),λn=>(sz n).mono (Nat.dvd_refl _) (by omega)⟩,λn hn=>D.inn n (mem_keysOf.mp hn),λn hn=>D.ps n (mem_keysOf.mp hn)⟩⟩,λcl _=>k cl⟩
end
end G
namespace G
open PySem L2
theorem ln1{α:Type}{P:List α->Prop}(h:∀a,P [a]):∀us:List α,us.length=1->P us
 |[a],_=>h a
theorem ln2{α:Type}{P:List α->Prop}(h:∀a b,P [a,b]):∀us:List α,us.length=2->P us
 |[a,b],_=>h a b
theorem ln3{α:Type}{P:List α->Prop}(h:∀a b c,P [a,b,c]):∀us:List α,us.length=3->P us
 |[a,b,c],_=>h a b c
theorem ln4{α:Type}{P:List α->Prop}(h:∀a b c d,P [a,b,c,d]):∀us:List α,us.length=4->P us
 |[a,b,c,d],_=>h a b c d
theorem ln5{α:Type}{P:List α->Prop}(h:∀a b c d e,P [a,b,c,d,e]):∀us:List α,us.length=5->P us
 |[a,b,c,d,e],_=>h a b c d e
theorem ln6{α:Type}{P:List α->Prop}(h:∀a b c d e f,P [a,b,c,d,e,f]):∀us:List α,us.length=6->P us
 |[a,b,c,d,e,f],_=>h a b c d e f
theorem ln7{α:Type}{P:List α->Prop}(h:∀a b c d e f g,P [a,b,c,d,e,f,g]):∀us:List α,us.length=7->P us
 |[a,b,c,d,e,f,g],_=>h a b c d e f g
section
variable{K:W.Frag}{h:Heap}{mg:Str->Option Value}{x qual:Str}{st:Stmt}{f C T:Addr}{fd:FuncData}{ps:List Str}{ds:Array Value}{oc:Value}{od an:Option Addr}{osl:Array (Option Value)}{kV doc pm cdv ct:Value}
noncomputable def BA(x qual:Str)(st:Stmt)(ps:List Str)(us:List Value):Prop:=∀(kV doc pm:Value)(an:Option Addr)(cdv ct:Value),bindArgs (W.fnOf x qual (fw st) (cX st) (aH st) .none kV doc pm an cdv ct) ⟨us,[]⟩=pure (ps.zip us)
noncomputable def BE(x qual:Str)(st:Stmt)(ps:List Str)(ds:Array Value)(es us:List Value):Prop:=∀(T:Addr)(kV doc pm:Value)(an:Option Addr)(cdv ct:Value),∃k,bindArgs (W.fnOf x qual (fw st) (cX st) (aH st) (.ref T) kV doc pm an cdv ct) ⟨us,[]⟩=seqItems? (.ref T)>>=k/\k (some ds)=pure (ps.zip (us++es))
theorem bi(N:Fun K x qual st f fd)(b:∀us:List Value,us.length=ps.length->BA x qual st ps us):Binds K fd ps []:=N.binds λkV c e i a h us j=>b us j kV c e i a h
theorem biD{es:List Value}{n:Nat}(N:FunD K x qual st f fd ds)(e:n+es.length=ps.length)(b:∀us:List Value,us.length=n->BE x qual st ps ds es us):Binds K fd ps es:=N.binds λT kV c h j a i us l=>b us (by rw[k5]at l;omega) T kV c h j a i
theorem mD(X:K.In h)(G:h.Ns mainGlobals mg)(a:W.nsIn K mainGlobals x=some (some (.ref f)))(N:Fun K x x st f fd)(b:∀us:List Value,us.length=ps.length->BA x x st ps us):FDe K mg x st ps:=⟨_,_,N,W.mg_of X G a,bi N b⟩
theorem mM(a:W.findIn K (.ref C) x=some (some (.ref f)))(N:Fun K x qual st f fd)(i:W.isFn K (.ref f)=true)(b:∀us:List Value,us.length=ps.length->BA x qual st ps us):MDe K C x qual st ps:=⟨_,_,N,⟨a,i,N.kp⟩,bi N b⟩
theorem mI(a:W.findIn K (.ref C) "__init__"=some (some (.ref f)))(N:Fun K "__init__" qual st f fd)(m:W.makesIn K C=true)(i:W.isFn K (.ref f)=true)(k:W.keepIn K (.ref C)=true)(b:∀us:List Value,us.length=ps.length->BA "__init__" qual st ps us):IDe K C qual st ps [[]]:=⟨_,_,N.gen,⟨m,a,i,k⟩,λe c=>by cases kS.mp c;exact⟨[],.nil,bi N b⟩⟩
theorem mJ{dvss:List (List V)}(a:W.findIn K (.ref C) "__init__"=some (some (.ref f)))(N:FunD K "__init__" qual st f fd ds)(m:W.makesIn K C=true)(i:W.isFn K (.ref f)=true)(k:W.keepIn K (.ref C)=true)(b:FunD K "__init__" qual st f fd ds->∀dvs∈dvss,∃es,Vals dvs es/\Binds K fd ps es):IDe K C qual st ps dvss:=⟨_,_,N.gen,⟨m,a,i,k⟩,b N⟩
theorem all0{P:List V->Prop}:∀d∈([]:List (List V)),P d:=λ_ h=>nomatch h
theorem all1{P:List V->Prop}{d:List V}{r:List (List V)}(h:P d)(k:∀d∈r,P d):∀e∈d::r,P e:=λe a=>by
 rcases lx.mp a with rfl|q
 ·exact h
 ·exact k e q
theorem mCD{n:Nat}(a:W.findCls K (.ref C) (.type "type") "__init__"=some (.val (.ref f)))(N:FunD K "__init__" qual st f fd ds)(r:W.readsIn K C (.type "type")=true)(s:W.specialIn K (.ref C) "__getattribute__"=some (some (.builtin "type.__getattribute__")))(k:W.keepIn K (.ref f)=true)(e:n=ps.length)(b:∀us:List Value,us.length=n->BE "__init__" qual st ps ds [] us):CDe K C qual st ps:=⟨_,_,N.gen,⟨r,s⟩,a,k,biD (es:=[]) N e b⟩
theorem mGi{v:Int}{t:Tok}(X:K.In h)(G:h.Ns mainGlobals mg)(a:W.nsIn K mainGlobals x=some (some (.int v t))):∃tk,mg x=some (.int v tk):=⟨_,W.mg_of X G a⟩
end
theorem top{l:W.OpenLaw}{w:World}{K:W.Frag}{mg:Str->Option Value}{fa A0 A1 A2 A3 A4 A5 A6 A7 A8 A9 A10 A11 A12 A13 A14 A15 A16:Addr}(hfa:mg "law"=some (.ref fa))(T:TX K mg ⟨A0,A1,A2,A3,A4,A5,A6,A7,A8,A9,A10,A11,A12,A13,A14,A15,A16⟩)(ht:l.prog.given.tree=none:=by rfl):
  ∃fd:FuncData,(∀(s:Shared)(v:Value),BindsTo s fd ⟨[v],[]⟩ [("_law_script",v)])/\∀base:Heap,K.In base->base.Ns mainGlobals mg->FnOk l.prog w K mg base CX0 20 fa fd ["_law_script"] (spLaw K):=by
 obtain⟨f,fd,N,e,_⟩:=T.d_law
 cases hfa.symm.trans e;obtain⟨h,m,kV,c,j,o,b,i,a,rfl,_,_⟩:=N.ex;exact⟨_,λs v=>.of_eq rfl,λbase _ _=>zz_all (λT f fd N=>ok_law N T) ⟨l.prog,w,K,mg,base,_⟩ ht T _ _ N⟩
theorem walkL{l:PySem.W.OpenLaw}{q:Program}{loose:List Str}{XP:(Str->Option Value)->Heap->Prop}{YP:World->Heap->Prop}{d:DefRec}{K:Params->W.Frag}(hn:l.most=some 63)(hdf:d.params.defaults=[])(hi:PyProof.Rows.importsNone q=true)
  (hY:∀(w:World)(h:Heap),YP w h->(K w.params).In h)
  (F:∀(w:World)(mg:Str->Option Value)(fa:Addr)(h:Heap),(K w.params).In h->h.Ns mainGlobals mg->mg d.name=some (.ref fa)->
   ∃fd:FuncData,(∀(s:Shared)(u:Value),BindsTo s fd ⟨[u],[]⟩ [("_law_script",u)])/\∀base:Heap,(K w.params).In base->base.Ns mainGlobals mg->FnOk l.prog w (K w.params) mg base CX0 20 fa fd ["_law_script"] (spLaw (K w.params))):
  PySem.W.WalkO q loose XP YP l.row.toRowW d [] (λf vs=>PySem.call f vs):=
 L2.walk_ofB (n:=63) (k:=20) (x:="_law_script") (CX:=λ_=>CX0) (sp:=λw=>spLaw (K w.params)) hn (by decide) hdf hi ⟨rfl,by decide,by decide⟩ hY F (λ_ _ a ns e c _ b=>⟨a,ns,rfl,b,e,λi hi=>⟨c i hi⟩,λ_=>rfl⟩) λ_ _ _ _ _ z=>z
end G
inductive PySem.W.Fast:Prop|tw6621850017243725103|tw12609322630183454745|tw14356050034046704804|tw4863842822781734079|tw14146079565220000124|tw2572659435076234821|tw5714419135645145549|tw13071535693135213071|tw12080410258665598388|tw14068686940471241207|tw13859827028441167246|tw13413118710009915019|tw10070357365272335178|tw17594694901863993525|tw4995272182937618865|tw10140336582426829429|tw12293014224616215691|tw15608892944052232624|tw1374891779244327985|tw8816723350921757057|tw12055721339061645674|tw9108263271852752653|tw15568443474464111947|tw8463839957233766488|tw5690771001720429616|tw13094020138288636436|tw5609562489212900901|tw9217223809789546045|tw10709342286912881807|tw5965245234921192672|tw5293643871638410491|tw16383489730411884699|tw14608744476506348440|tw9202264640574623649|tw12272605835728483407|tw1061901111693321086|tw12107149860893464070|tw9698958703840081283|tw5170224378353486383|tw14292946325337279130|tw6901416253556241051|tw3388629245136215297|tw2537224334678519037|tw6119165590627032901|tw17805828237238936501|tw9217605132224160704|tw7236588244848671265|tw6748481602633681518|tw10999775536014128919|tw1220302103178384828|tw10543653289115352955|tw17774513749214735101|tw16602557914712242715|tw5802887037521498806|tw15314813643160106073|tw6674968204481041062|tw1057068260389498045|tw4825055676354951070|tw5005601305330550972|tw7308665078256711214|tw5527818690251693938|tw6127585370757088727|tw8956018965338757747|tw14041901507079486974|tw5168041187683854359|tw3458318763115554555|tw12597607824654417397|tw17212002769356818396|tw13891776317767964837|tw16241149736249881433|tw7582969701982857943|tw17826131083781110909|tw5183324532448328777|tw18111180157295686185|tw7739727391583964682|tw815922923189403183|tw14345728874654925095|tw4408833195180403174|tw9533902777780708961|tw6183902708377417256|tw6590566426792433736|tw15019085682783447750|tw8464321181675766246|tw1274282327094862971|tw3028087631681380906|tw6013018605532696730|tw9404768182921561224|tw7164140824653623943|tw12517322351722189567|tw3816825206525314302|tw17979083877509819111|tw13820216210071330697|tw2349940405922810476|tw4312753453775365072|tw17033270747598735694|tw672751194564700297|tw12061800994017056501|tw8573243114389184224|tw6750987706853474335|tw13187138980730280637|tw7301049251918769391|tw7231387605557536287|tw3181203585222028632|tw14354075099202983301|tw2558363014612973317|tw14992957868248216613|tw8494883472424864853|tw2998543162608506210|tw16153598512970810658|tw15031743759306603519|tw14322597675298074946|tw6757253194803611029|tw15052825910182239107|tw16281886040349673687|tw1784044676861780634|tw12989402839672131319|tw12101535068972141600|tw386962640879592957|tw3953133285815931094|tw3720400821020774046|tw3204211072426308144|tw6916637871072761823|tw6652706578130557882|tw2726791557346330103|tw1743466981942431066|tw10249200998974966592|tw10812308128234241284|tw16274433185236033574|tw5159595754527582598|tw15433483123915373421|tw7227555677607602436|tw6264940106997340057|tw15532297562471493133|tw11095240029030639425|tw3573791582498833090|tw1858628805753369145|tw4108581434264685703|tw14137675378239742150|tw11223424815789646892|tw4586586653065306915|tw17207059436777490621|tw16835807440971421788|tw8201728392515069098|tw4221725706125920874|tw6219740720351617500|tw10691033186794345479|tw10266256821357677619|tw2052642944296874111|tw9731986183932789858|tw16790780420088168028|tw8579798479302452258|tw828403648067636989|tw5772348236863013510|tw2246195908121193174
open PySem L2 in
local macro_rules | `(tactic| walk_at $s:str) => do
  let v := (s.getString.splitOn " ").toArray
  if v.size < 3 then Lean.Macro.throwUnsupported
  let id (i : Nat) := Lean.mkIdent (Lean.Name.mkSimple s!"o{i}")
  let KX := Lean.mkIdent `KX
  let GN := Lean.mkIdent `GN
  let ln (n : Nat) := Lean.mkIdent (Lean.Name.mkStr2 "G" s!"ln{n}")
  let us (n : Nat) : Lean.MacroM (Lean.TSyntax `term) := do
    let hs ← (Array.range n).mapM fun _ => `(Lean.Parser.Term.funBinder| _)
    `(fun $hs:funBinder* => rfl)
  let ks ← `(tactic| (try dsimp only) <;> k_is)
  if v[0]! == "H" then
    let hs ← (Array.range v[2]!.toNat!).mapM fun i => `(?$(id i):ident)
    return ← `(tactic| refine' G.top $(Lean.mkIdent `hmg) ⟨$hs,*⟩)
  let i0 := v[1]!.toNat!
  let mut ts : Array (Lean.TSyntax `tactic) := #[]
  for (t, j) in (v.extract 2 v.size).zipIdx do
    let c := t.take 1 |>.toString
    let n := (t.drop 1).toString.toNat!
    let i := id (i0 + j)
    if (c == "m") != (v[0]! == "m") then continue
    let r ← match c with
      | "m" => `(tactic| case $i:ident => refine' W.mg_of $KX $GN ?_; k_is)
      | "d" => `(tactic| case $i:ident => refine' G.mD $KX $GN ?a (fun_mk ?l ?c ?k) ($(ln n) $(← us (n + 6))); (case a => k_is); (case l => k_is); (case c => k_is); (case k => k_is))
      | "M" => `(tactic| case $i:ident => dsimp only; refine' G.mM ?a (fun_mk ?l ?c ?k) ?i ($(ln n) $(← us (n + 6))); (case a => k_is); (case l => k_is); (case c => k_is); (case k => k_is); (case i => k_is))
      | "I" => `(tactic| case $i:ident => dsimp only; refine' G.mI ?a (fun_mk ?l ?c ?k) ?m ?i ?j ($(ln n) $(← us (n + 6))); (case a => k_is); (case l => k_is); (case c => k_is); (case k => k_is); (case m => k_is); (case i => k_is); (case j => k_is))
      | "X" => `(tactic| case $i:ident => dsimp only; refine' G.mX ?a (fun_mk ?l ?c ?k) ?t ?e ($(ln n) $(← us (n + 6))); (case a => k_is); (case l => k_is); (case c => k_is); (case k => k_is); (case t => k_is); (case e => kernel_rfl))
      | "C" => `(tactic| case $i:ident => dsimp only; refine' G.mC ?a (fun_mk ?l ?c ?k) ?r ?s ($(ln n) $(← us (n + 6))); (case a => k_is); (case l => k_is); (case c => k_is); (case k => k_is); (case r => k_is); (case s => k_is))
      | "c" => `(tactic| case $i:ident => refine' ⟨?_, ?_, ?_, ?_⟩ <;> $ks:tactic)
      | "n" => `(tactic| case $i:ident => refine' (?_ : W.findIn _ _ _ = _); $ks:tactic)
      | "k" => `(tactic| case $i:ident => $ks:tactic)
      | "t" => `(tactic| case $i:ident => (try dsimp only); kit_is)
      | "x" => `(tactic| case $i:ident => (try dsimp only); k_exc)
      | "e" => `(tactic| case $i:ident => refine' G.mE0 ?a; (case a => $ks:tactic))
      | "b" => `(tactic| case $i:ident => refine' ⟨?_, ?_⟩ <;> $ks:tactic)
      | "g" => `(tactic| case $i:ident => refine' G.mGi $KX $GN ?a; (case a => k_is))
      | "s" => `(tactic| case $i:ident => refine' G.mGs $KX $GN ?a; (case a => k_is))
      | "z" => `(tactic| case $i:ident => refine' W.mg_none_of $KX $GN ?_; k_is)
      | "E" => do
        let e := Lean.mkIdent (Lean.Name.mkStr2 "G" s!"mE{n}")
        `(tactic| case $i:ident => dsimp only; refine' $e ?a ?b ?c ?d; (case a => k_is); (case b => rfl); (case c => rfl); (case d => k_is))
      | _ => continue
    ts := ts.push r
  `(tactic| ($[$ts];*))
open PySem PySem.W PyProof.Rows
set_option maxRecDepth 100000 in
set_option maxHeartbeats 0 in
theorem PySem.Challenge.cw_gainstream_k37_whole_apart_and_together_holds : PySem.Challenge.rw_gainstream_k37_whole_apart_and_together.Holds := by
 w_on;o_law;k_head;(case hw=>w_witness2)
 k_fill
 refine G.walkL (l:=PySem.Challenge.rw_gainstream_k37_whole_apart_and_together) rfl rfl (by first | k_qdec | decide +kernel) (λ w h Y=>by first | exact PySem.W.kIn_of Y | exact PySem.W.km_in_of Y) ?F
 case F=>
  intro w mg fa h KX GN hmg
  walk_at "H 17 187"
  walk_at "m 60 d3 d1 c0 m0 n0 n0 w0 M2 M2 M2 M2 M2 M1 k0 k0 c0 m0 n0 n0 n0 I4 c0 m0 n0 n0 n0 n0 n0 I3 M4 M2 M2 M2 M4 c0 m0 n0 n0 n0 n0 n0 w0 w0 M1 M2 k0 k0 c0 m0 n0 n0 n0 n0 n0 n0 w0 M1 M2 k0 k0"
  walk_at "m 120 c0 m0 n0 n0 n0 n0 n0 n0 w0 M1 M2 k0 k0 c0 m0 n0 n0 n0 n0 n0 n0 M1 M2 k0 k0 c0 m0 n0 n0 I3 M1 M2 M1 k0 k0 k0 k0 m0 m0 m0 m0 m0 m0 m0 m0 m0 t0 t0 t0 t0 t0 t0 t0 t0 g0 g0 z0 z0 z0 z0"
  walk_at "r 0 d2 d2 d1 d2 d1 d2 d2 d2 d2 d2 d2 d2 d2 d2 d1 d2 d2 d3 d2 d2 d3 d4 d2 d4 d2 d3 d3 d5 d2 d2 d1 d1 d2 d2 d3 d2 d2 d1 d3 d2 d2 d2 d1 d2 d2 d2 d2 d3 d3 d2 d2 d7 d5 d5 d1 d2 d4 d3 d2 d2"
  walk_at "r 60 d3 d1 c0 m0 n0 n0 w0 M2 M2 M2 M2 M2 M1 k0 k0 c0 m0 n0 n0 n0 I4 c0 m0 n0 n0 n0 n0 n0 I3 M4 M2 M2 M2 M4 c0 m0 n0 n0 n0 n0 n0 w0 w0 M1 M2 k0 k0 c0 m0 n0 n0 n0 n0 n0 n0 w0 M1 M2 k0 k0"
  walk_at "r 120 c0 m0 n0 n0 n0 n0 n0 n0 w0 M1 M2 k0 k0 c0 m0 n0 n0 n0 n0 n0 n0 M1 M2 k0 k0 c0 m0 n0 n0 I3 M1 M2 M1 k0 k0 k0 k0 m0 m0 m0 m0 m0 m0 m0 m0 m0 t0 t0 t0 t0 t0 t0 t0 t0 g0 g0 z0 z0 z0 z0"
  walk_at "r 180 z0 z0 z0 z0 z0 z0 z0"
  (case o66=>dsimp only;refine' G.mJ ?a (L2.funD_mk ?l ?c ?t ?d) ?m ?i ?k ?b;(case a=>k_is);(case l=>k_is);(case c=>k_is);(case t=>k_is);(case d=>rfl);(case m=>k_is);(case i=>k_is);(case k=>k_is);(case b=>exact λ N=>G.all1 ⟨[],.nil,G.biD N rfl (G.ln3 λ _ _ _ _ _ _ _ _ _ _=>⟨_,rfl,rfl⟩)⟩ (G.all1 ⟨[.int 1 _],(.cons ⟨_,rfl⟩ (.nil)),G.biD N rfl (G.ln2 λ _ _ _ _ _ _ _ _ _=>⟨_,rfl,rfl⟩)⟩ (G.all0))))
  (case o101=>dsimp only;refine' G.mJ ?a (L2.funD_mk ?l ?c ?t ?d) ?m ?i ?k ?b;(case a=>k_is);(case l=>k_is);(case c=>k_is);(case t=>k_is);(case d=>rfl);(case m=>k_is);(case i=>k_is);(case k=>k_is);(case b=>exact λ N=>G.all1 ⟨[],.nil,G.biD N rfl (G.ln6 λ _ _ _ _ _ _ _ _ _ _ _ _ _=>⟨_,rfl,rfl⟩)⟩ (G.all1 ⟨[.none,.none],(.cons rfl (.cons rfl (.nil))),G.biD N rfl (G.ln4 λ _ _ _ _ _ _ _ _ _ _ _=>⟨_,rfl,rfl⟩)⟩ (G.all0))))
  (case o102=>dsimp only;refine' G.mCD ?a (L2.funD_mk ?l ?c ?t ?d) ?r ?s ?k rfl ?b;(case a=>k_is);(case l=>k_is);(case c=>k_is);(case t=>k_is);(case d=>rfl);(case r=>k_is);(case s=>k_is);(case k=>k_is);(case b=>exact G.ln6 λ _ _ _ _ _ _ _ _ _ _ _ _ _=>⟨_,rfl,rfl⟩))
  (case o115=>dsimp only;refine' G.mJ ?a (L2.funD_mk ?l ?c ?t ?d) ?m ?i ?k ?b;(case a=>k_is);(case l=>k_is);(case c=>k_is);(case t=>k_is);(case d=>rfl);(case m=>k_is);(case i=>k_is);(case k=>k_is);(case b=>exact λ N=>G.all1 ⟨[],.nil,G.biD N rfl (G.ln7 λ _ _ _ _ _ _ _ _ _ _ _ _ _ _=>⟨_,rfl,rfl⟩)⟩ (G.all1 ⟨[.none,.none],(.cons rfl (.cons rfl (.nil))),G.biD N rfl (G.ln5 λ _ _ _ _ _ _ _ _ _ _ _ _=>⟨_,rfl,rfl⟩)⟩ (G.all0))))
  (case o128=>dsimp only;refine' G.mJ ?a (L2.funD_mk ?l ?c ?t ?d) ?m ?i ?k ?b;(case a=>k_is);(case l=>k_is);(case c=>k_is);(case t=>k_is);(case d=>rfl);(case m=>k_is);(case i=>k_is);(case k=>k_is);(case b=>exact λ N=>G.all1 ⟨[],.nil,G.biD N rfl (G.ln7 λ _ _ _ _ _ _ _ _ _ _ _ _ _ _=>⟨_,rfl,rfl⟩)⟩ (G.all1 ⟨[.none,.none],(.cons rfl (.cons rfl (.nil))),G.biD N rfl (G.ln5 λ _ _ _ _ _ _ _ _ _ _ _ _=>⟨_,rfl,rfl⟩)⟩ (G.all0))))
#print axioms PySem.Challenge.cw_gainstream_k37_whole_apart_and_together_holds



