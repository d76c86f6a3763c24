import PyProof.Rows.All
import Wide.All
import OpenK.AllK
import Wide.FinOn
import Lean
import PyProof.EqAt
import PyProof.EqKinds
import PyProof.TupleCall
import PySem.Challenge.RW_gainstream_k38_whole_ends_and_costs
set_option compiler.extract_closed false
theorem zL0:0<=PySem.sizeLine:=by decide
theorem zL1:1<=PySem.sizeLine:=by decide
theorem zL2:2<=PySem.sizeLine:=by decide
theorem zL3:3<=PySem.sizeLine:=by decide
theorem zL4:4<=PySem.sizeLine:=by decide
theorem zL5:5<=PySem.sizeLine:=by decide
theorem zI1:(0:Int)<1:=by decide
theorem zI1000003:(0:Int)<1000003:=by decide
theorem zI11:(0:Int)<11:=by decide
theorem zI12:(0:Int)<12:=by decide
theorem zI2:(0:Int)<2:=by decide
theorem zI3:(0:Int)<3:=by decide
theorem zI4:(0:Int)<4:=by decide
theorem zI5:(0:Int)<5:=by decide
theorem zI6:(0:Int)<6:=by decide
theorem zI8:(0:Int)<8:=by decide
def kX.{u0,u1}:=@List.length_map.{u0,u1}
def kY.{u0}:=@List.getElem?_eq_some_iff.{u0}
def kZ.{u0}:=@List.mem_of_getElem?.{u0}
def k5:=@Nat.le_refl
def k8.{u0,u1}:=@List.mem_map.{u0,u1}
def lg.{u0,u1}:=@List.getElem?_map.{u0,u1}
def lj.{u0,u1}:=@List.map_append.{u0,u1}
def lv.{u0}:=@List.mem_singleton.{u0}
def lz.{u0}:=@List.getElem?_eq_getElem.{u0}
def lA.{u0}:=@List.take_length.{u0}
def lB.{u0}:=@List.mem_append.{u0}
def lC:=@Nat.le_trans
def lD:=@Nat.zero_le
def lE.{u0}:=@List.take_add_one.{u0}
def lF.{u0}:=@List.mem_cons_of_mem.{u0}
def lG.{u0}:=@List.length_append.{u0}
def lH:=@PySem.PassesOwn.never
def lI.{u0}:=@List.length_take.{u0}
def lJ.{u0}:=@List.mem_append_left.{u0}
def lK:=@PySem.Heap.get?_push_of_some
def lL.{u0}:=@Option.toList_some.{u0}
def lM:=@decide_eq_false
def lN.{u0}:=@List.mem_cons.{u0}
def lO.{u0}:=@List.mem_cons_self.{u0}
def lP:=@PySem.Heap.lt_size
def lQ:=@decide_eq_true
def lR.{u0}:=@List.not_mem_nil.{u0}
def lS.{u0}:=@List.mem_append_right.{u0}
def lT:=@Rat.le_of_lt
def lU.{u0,u1}:=@List.lookup_cons.{u0,u1}
def lV.{u0}:=@List.mem_iff_getElem?.{u0}
def lX:=@Bool.false_ne_true
def lY.{u0}:=@Option.some.inj.{u0}
def lZ:=@Classical.byContradiction
def l0:=@Int.natAbs_mul
def l6:=@Rat.mul_le_mul_of_nonneg_right
def l7:=@Nat.pow_le_pow_right
def l9.{u0}:=@List.length_singleton.{u0}
def ma:=@Nat.lt_of_le_of_lt
def md:=@Rat.mul_inv_cancel
def me:=@PySem.Heap.get?_push_size
def mf.{u0}:=@List.size_toArray.{u0}
def mh.{u0}:=@List.length_cons.{u0}
def mi:=@Rat.div_def
def mj.{u0,u1}:=@congrArg.{u0,u1}
def mo.{u0}:=@List.nodup_append.{u0}
def mq:=@Nat.ne_of_lt
def mr:=@Nat.lt_of_lt_of_le
def mw.{u0,u1}:=@List.map_cons.{u0,u1}
def mx:=@PySem.wpAny_bind
def mz.{u0,u1,u2}:=@List.map_map.{u0,u1,u2}
def mB.{u0}:=@List.nodup_cons.{u0}
def mF:=@Rat.intCast_mul
def mG:=@Nat.mod_lt
def mH:=@Int.mul_comm
def mK:=@Nat.pow_add
def mN:=@Rat.divInt_eq_div
def mO:=@Rat.div_mul_cancel
def mP.{u0}:=@List.getElem?_append_right.{u0}
def mQ:=@Int.mul_pos
def mR:=@PySem.boot_len
def mS.{u0}:=@List.getElem?_inj.{u0}
def mT:=@PySem.F.plainAttrs_list
def mU:=@Rat.add_zero
def mV.{u0,u1}:=@Option.map_some.{u0,u1}
def mW:=@PySem.wpAny_pure
def mY:=@Int.natAbs_natCast
def mZ:=@Nat.mul_le_mul
def m5:=@Int.mul_assoc
def m6.{u0}:=@List.append_nil.{u0}
def m7.{u0,u1}:=@List.foldl_append.{u0,u1}
def m8:=@Nat.mul_le_mul_right
def m9:=@PySem.F.slot_list_append
def nc:=@PySem.F.type_list_append
def nh.{u0}:=@List.length_filter_le.{u0}
def nj:=@Int.dvd_trans
def nv.{u0}:=@List.sum_cons.{u0}
def nC:=@Rat.mul_le_mul_of_nonneg_left
def nD.{u0}:=@List.getElem?_append_left.{u0}
def nE.{u0}:=@List.getElem?_take.{u0}
def nF:=@PySem.mem_of_lookup
def nG:=@Rat.le_trans
def nH:=@List.length_range
def nI:=@Int.eq_ofNat_of_zero_le
def nJ.{u0}:=@List.filter_cons_of_pos.{u0}
def nK.{u0}:=@List.filter_cons_of_neg.{u0}
def nL:=@PySem.W.kia_one
def nM:=@PyProof.Rows.boot_list
def nN.{u0}:=@beq_eq_false_iff_ne.{u0}
def nO:=@Rat.le_refl
def nP:=@Nat.lt_irrefl
def nQ:=@Rat.divInt_eq_divInt_iff
def nR.{u0}:=@List.nodup_nil.{u0}
def nS.{u0}:=@List.take_zero.{u0}
def nU:=@Rat.mul_assoc
def nV:=@Int.gcd_dvd_left
def nX:=@Nat.mul_dvd_mul_left
def nY:=@PySem.wpAny_mono
def nZ.{u0,u1}:=@List.map_nil.{u0,u1}
def n7.{u0,u1}:=@Option.map_eq_some_iff.{u0,u1}
def n8.{u0}:=@List.mem_filter.{u0}
def oa.{u0,u1}:=@List.foldl_cons.{u0,u1}
def oe:=@Rat.num_divInt_den
def og.{u0}:=@List.filter_append.{u0}
def oj:=@Nat.mul_comm
def ol.{u0,u1}:=@Sum.inr.inj.{u0,u1}
set_option Elab.async false
set_option linter.all false
set_option maxRecDepth 100000
inductive yA3(a b c:Prop):Prop|mk(_:a)(_:b)(_:c)
inductive yA4(a b c d:Prop):Prop|mk(_:a)(_:b)(_:c)(_:d)
inductive yA5(a b c d e:Prop):Prop|mk(_:a)(_:b)(_:c)(_:d)(_:e)
inductive yA6(a b c d e f:Prop):Prop|mk(_:a)(_:b)(_:c)(_:d)(_:e)(_:f)
inductive yA7(a b c d e f g:Prop):Prop|mk(_:a)(_:b)(_:c)(_:d)(_:e)(_:f)(_:g)
inductive yA8(a b c d e f g h:Prop):Prop|mk(_:a)(_:b)(_:c)(_:d)(_:e)(_:f)(_:g)(_:h)
inductive yA9(a b c d e f g h i:Prop):Prop|mk(_:a)(_:b)(_:c)(_:d)(_:e)(_:f)(_:g)(_:h)(_:i)
inductive yA10(a b c d e f g h i j:Prop):Prop|mk(_:a)(_:b)(_:c)(_:d)(_:e)(_:f)(_:g)(_:h)(_:i)(_:j)
inductive yA11(a b c d e f g h i j k:Prop):Prop|mk(_:a)(_:b)(_:c)(_:d)(_:e)(_:f)(_:g)(_:h)(_:i)(_:j)(_:k)
inductive yA12(a b c d e f g h i j k l:Prop):Prop|mk(_:a)(_:b)(_:c)(_:d)(_:e)(_:f)(_:g)(_:h)(_:i)(_:j)(_:k)(_:l)
inductive yA13(a b c d e f g h i j k l m:Prop):Prop|mk(_:a)(_:b)(_:c)(_:d)(_:e)(_:f)(_:g)(_:h)(_:i)(_:j)(_:k)(_:l)(_:m)
inductive yA14(a b c d e f g h i j k l m n:Prop):Prop|mk(_:a)(_:b)(_:c)(_:d)(_:e)(_:f)(_:g)(_:h)(_:i)(_:j)(_:k)(_:l)(_:m)(_:n)
inductive yE1{α:Type}(p:α->Prop):Prop|mk(a:α)(_:p a)
inductive yE2{α β:Type}(p:α->β->Prop):Prop|mk(a:α)(b:β)(_:p a b)
inductive yE3{α β γ:Type}(p:α->β->γ->Prop):Prop|mk(a:α)(b:β)(c:γ)(_:p a b c)
inductive yE4{α β γ δ:Type}(p:α->β->γ->δ->Prop):Prop|mk(a:α)(b:β)(c:γ)(d:δ)(_:p a b c d)
inductive yE5{α β γ δ ε:Type}(p:α->β->γ->δ->ε->Prop):Prop|mk(a:α)(b:β)(c:γ)(d:δ)(e:ε)(_:p a b c d e)
inductive yE6{α β γ δ ε ζ:Type}(p:α->β->γ->δ->ε->ζ->Prop):Prop|mk(a:α)(b:β)(c:γ)(d:δ)(e:ε)(f:ζ)(_:p a b c d e f)
inductive yE7{α β γ δ ε ζ η:Type}(p:α->β->γ->δ->ε->ζ->η->Prop):Prop|mk(a:α)(b:β)(c:γ)(d:δ)(e:ε)(f:ζ)(g:η)(_:p a b c d e f g)
inductive yE9{α β γ δ ε ζ η θ ι:Type}(p:α->β->γ->δ->ε->ζ->η->θ->ι->Prop):Prop|mk(a:α)(b:β)(c:γ)(d:δ)(e:ε)(f:ζ)(g:η)(h:θ)(i:ι)(_:p a b c d e f g h i)
inductive yE10{α β γ δ ε ζ η θ ι κ:Type}(p:α->β->γ->δ->ε->ζ->η->θ->ι->κ->Prop):Prop|mk(a:α)(b:β)(c:γ)(d:δ)(e:ε)(f:ζ)(g:η)(h:θ)(i:ι)(j:κ)(_:p a b c d e f g h i j)
local macro_rules|`($a ×' $b)=>do
 let rec go (r:Lean.TSyntax `term):Nat->Array (Lean.TSyntax `term)
  |0=>#[r]
  |n+1=>match r with|`($x ×' $y)=>#[x]++go y n|_=>#[r]
 let xs:=#[a]++go b 20
 `($(Lean.mkIdent (.mkSimple ("yA"++toString xs.size))) $xs*)
namespace L2
open PySem PySem.Spec PyProof.Rows
noncomputable abbrev Key:=Sum Int Str
noncomputable def keyIs:Key->Value->Bool
 |.inl k,v=>Value.isInt k v
 |.inr x,v=>Value.isStrOf x v
noncomputable def keyH(w:World):Key->Int
 |.inl k=>hashInt k
 |.inr x=>hashStr w x
theorem cX:∀{k:Key}{v:Value},keyIs k v=true->(∃i t,k=Sum.inl i/\v=Value.int i t)∨(∃x t,k=Sum.inr x/\v=Value.str x t)
 |.inl i,v,h=>by
  obtain⟨t,e⟩:=Value.isInt_shape h;exact .inl ⟨i,t,rfl,e⟩
 |.inr x,v,h=>by
  obtain⟨t,e⟩:=Value.isStrOf_shape h;exact .inr ⟨x,t,rfl,e⟩
theorem keyIs_int(i:Int)(t:Tok):keyIs (.inl i) (.int i t)=true:=by simp[keyIs,Value.isInt]
theorem keyIs_str(x:Str)(t:Tok):keyIs (.inr x) (.str x t)=true:=by simp[keyIs,Value.isStrOf]
theorem key_ll(a b:Int):decide ((Sum.inl a:Key)=Sum.inl b)=(a==b):=by
 by_cases e:a=b
 ·subst e;simp
 ·have h:¬(Sum.inl a:Key)=Sum.inl b:=λq=>e (Sum.inl.inj q);rw[lM h];exact(nN.mpr e).symm
theorem key_rr(a b:Str):decide ((Sum.inr a:Key)=Sum.inr b)=decide (a=b):=by
 by_cases e:a=b
 ·subst e;simp
 ·have h:¬(Sum.inr a:Key)=Sum.inr b:=λq=>e (ol q);rw[lM h,lM e]
theorem key_lr(a:Int)(b:Str):decide ((Sum.inl a:Key)=Sum.inr b)=false:=lM (λq=>nomatch q)
theorem key_rl(a:Str)(b:Int):decide ((Sum.inr a:Key)=Sum.inl b)=false:=lM (λq=>nomatch q)
noncomputable def cW(prog:Program)(w:World):PySem.KeyKind prog w Key where
 is:=keyIs
 hash:=keyH w
 inj:=λv a b ha hb=>by
  rcases cX ha with⟨i,t,rfl,rfl⟩|⟨x,t,rfl,rfl⟩
  ·rcases cX hb with⟨j,u,rfl,e⟩|⟨y,u,rfl,e⟩
   ·injection e with e1 _;rw[e1]
   ·exact nomatch e
  ·rcases cX hb with⟨j,u,rfl,e⟩|⟨y,u,rfl,e⟩
   ·exact nomatch e
   ·injection e with e1 _;rw[e1]
 byValue:=λk v h=>by
  rcases cX h with⟨i,t,rfl,rfl⟩|⟨x,t,rfl,rfl⟩<;>rfl
 pyHash:=λhv h=>by
  rcases cX hv with⟨i,t,rfl,rfl⟩|⟨x,t,rfl,rfl⟩
  ·exact wpAny_pyHash_int h
  ·exact wpAny_pyHash_str h
 eqBool:=λhu hv h=>by
  rcases cX hu with⟨i,t,rfl,rfl⟩|⟨x,t,rfl,rfl⟩
  ·rcases cX hv with⟨j,u,rfl,rfl⟩|⟨y,u,rfl,rfl⟩
   ·rw[key_ll]at h;exact wpAny_eqBool_int h
   ·rw[key_lr]at h;exact SeqAt.EqAt.int_str i t y u _ _ _ _ h
  ·rcases cX hv with⟨j,u,rfl,rfl⟩|⟨y,u,rfl,rfl⟩
   ·rw[key_rl]at h;exact SeqAt.EqAt.str_int x t j u _ _ _ _ h
   ·rw[key_rr]at h;exact wpAny_eqBool_str h
 «strs»:=λk x t v h=>by
  rcases cX h with⟨i,u,rfl,e⟩|⟨y,u,rfl,e⟩
  ·exact nomatch e
  ·injection e with e1 _
   subst e1
   cases v<;>rfl
theorem mixKind_int(prog:Program)(w:World)(i:Int)(t:Tok):(cW prog w).is (.inl i) (.int i t)=true:=keyIs_int i t
theorem mixKind_str(prog:Program)(w:World)(x:Str)(t:Tok):(cW prog w).is (.inr x) (.str x t)=true:=keyIs_str x t
inductive V where
 |non|bl(b:Bool)|int(i:Int)|str(x:Str)|byt(b:Array UInt8)|flt(b:UInt64)|ref(a:Addr)|ty(n:String)
 deriving DecidableEq
noncomputable def RelV:V->Value->Prop
 |.non,u=>u=Value.none
 |.bl b,u=>u=Value.bool b
 |.int i,u=>∃t,u=Value.int i t
 |.str x,u=>∃t,u=Value.str x t
 |.byt b,u=>∃t,u=Value.bytes b t
 |.flt b,u=>∃t,u=Value.float b t
 |.ref a,u=>u=Value.ref a
 |.ty n,u=>u=Value.type n
noncomputable abbrev Vals:List V->List Value->Prop:=Paired RelV
theorem Vals.length(r:Vals xs us):xs.length=us.length:=Paired.length r
theorem Vals.get:∀{xs:List V}{us:List Value}{i:Nat}{x:V},Vals xs us->xs[i]?=some x->∃u,us[i]?=some u/\RelV x u
 |_,_,_,_,.nil,e=>by simp at e
 |_,_,0,_,.cons r _,e=>by simp at e;subst e;exact⟨_,rfl,r⟩
 |_,_,i+1,x,.cons _ t,e=>by
  obtain⟨u,a,b⟩:=Vals.get (i:=i) (x:=x) t (by simpa using e);exact⟨u,by simpa using a,b⟩
theorem Vals.append:∀{xs ys:List V}{us ws:List Value},Vals xs us->Vals ys ws->Vals (xs++ys) (us++ws)
 |_,_,_,_,.nil,s=>s
 |_,_,_,_,.cons r t,s=>.cons r (Vals.append t s)
theorem Vals.take:∀{xs:List V}{us:List Value}(n:Nat),Vals xs us->Vals (xs.take n) (us.take n)
 |_,_,0,_=>.nil
 |_,_,_+1,.nil=>.nil
 |_,_,n+1,.cons r t=>.cons r (Vals.take n t)
theorem Vals.drop:∀{xs:List V}{us:List Value}(n:Nat),Vals xs us->Vals (xs.drop n) (us.drop n)
 |_,_,0,r=>r
 |_,_,_+1,.nil=>.nil
 |_,_,n+1,.cons _ t=>Vals.drop n t
noncomputable def RelO:Option V->Option Value->Prop
 |some v,some u=>RelV v u
 |none,none=>True
 |_,_=>False
noncomputable def KV{κ:Type}:List (κ×V)->List (κ×Value)->Prop:=Paired λ(p:κ×V)(q:κ×Value)=>p.1=q.1/\RelV p.2 q.2
noncomputable def kV:Key->V
 |.inl i=>.int i
 |.inr x=>.str x
inductive HO where
 |lst(xs:List V)
 |tup(xs:List V)
 |dK(kvs:List (Key×V))|dT(kvs:List (List Key×V))
 |set(S:Int->Bool)(n:Nat)
 |ins(C dx:Addr)(fs:List (Str×V))
 |own(x:Addr)
 |xd(fs:List (Str×V))
 |met(f x:Addr)
 |rng(lo hi:Int)
 |frz(o:Obj)(u:HO)
 |tbl(ps:Array Value)
 |ext(φ:Heap->Prop)
noncomputable abbrev Hp:=Addr->Option HO
noncomputable def upd(H:Hp)(a:Addr)(o:HO):Hp:=λb=>if b=a then some o else H b
theorem aE:upd H a o a=some o:=by unfold upd;rw[if_pos rfl]
theorem aG(h:b≠a):upd H a o b=H b:=by unfold upd;rw[if_neg h]
theorem jz:upd (upd H a o) a u=upd H a u:=by
 funext b;unfold upd;split<;>rfl
theorem bB{H:Hp}(h:H a=some o)(h':H b=some u)(d:o≠u):a≠b:=by
 intro e;subst e;rw[h]at h';exact d (lY h')
theorem aN{H:Hp}(h:H a=some o)(h':H b=none):a≠b:=by
 intro e;subst e;rw[h]at h';cases h'
section
variable(P:Program)(w:World)
noncomputable def ObjOk(H:Hp)(h:Heap)(a:Addr):HO->Prop
 |.lst xs=>xs.length<=sizeLine/\∃(its:List Value)(n:Nat),Vals xs its/\h.get? a=some {cls:=.type "list",data:=.seq its.toArray n}
 |.tup xs=>xs.length<=sizeLine/\∃its:List Value,Vals xs its/\IsTup h a its.toArray
 |.dK kvs=>kvs.length<=sizeLine/\(a==sysModules)=false/\∃vs,KV kvs vs/\h.DictOf (cW P w) a vs
 |.dT kvs=>kvs.length<=sizeLine/\(a==sysModules)=false/\∃xs:List (List Key×Addr×Value),
   Paired (λ(p:List Key×V)(q:List Key×Addr×Value)=>p.1=q.1/\H q.2.1=some (.tup (p.1.map kV))/\RelV p.2 q.2.2) kvs xs/\
   ∃o es ep,h.get? a=some o/\o.ExactDict/\o.data=.dict es ep/\es.toList=xs.map (entryOfKey (tupleKind (cW P w)))/\(xs.map (·.1)).Nodup
 |.set S n=>h.SetOf (intKind P w) a S n
 |.ins C dx fs=>H dx=some (.own a)/\fs.length<=1000/\dx≠a/\h.get? a=some (PySem.W.instObj C dx)/\
   ∃mA,h.Ns1 dx mA/\(∀f,RelO (fs.lookup f) (mA f))/\PySem.Within mA (fs.map (·.1))
 |.own _=>∃o,h.get? a=some o
 |.xd fs=>∃mA,h.Ns1 a mA/\∀f,RelO (fs.lookup f) (mA f)
 |.rng lo hi=>∃t u v,h.get? a=some {cls:=.type "range",data:=.fields #[.int lo t,.int hi u,.int 1 v]}
 |.frz o u=>h.get? a=some o/\ObjOk H h a u
 |.tbl ps=>h.get? a=some {cls:=.none,data:=.fields ps}
 |.met f x=>h.get? a=some (PySem.W.methodObj (.ref f) (.ref x))
 |.ext φ=>φ h/\(∃o,h.get? a=some o)/\∀h1 h2:Heap,φ h1->(∀o,h1.get? a=some o->h2.get? a=some o)->φ h2
noncomputable def HOk(H:Hp)(h:Heap):Prop:=∀a o,H a=some o->ObjOk P w H h a o
end
section
variable{P:Program}{w:World}{H H':Hp}{h h':Heap}{a:Addr}{o:HO}
theorem ObjOk.lt(x:ObjOk P w H h a o):a<h.objs.size:=by
 cases o with
 |lst xs=>obtain⟨_,_,_,_,e⟩:=x;exact lP e
 |tup xs=>obtain⟨_,_,_,p⟩:=x;exact p.lt
 |dK kvs=>obtain⟨_,_,_,_,o,_,_,e,_⟩:=x;exact lP e
 |dT kvs=>obtain⟨_,_,_,_,o,_,_,e,_⟩:=x;exact lP e
 |set S n=>obtain⟨o,_,_,_,e,_⟩:=x;exact lP e
 |ins C dx fs=>obtain⟨_,_,_,e,_⟩:=x;exact lP e
 |own y=>obtain⟨_,e⟩:=x;exact lP e
 |xd fs=>obtain⟨_,⟨_,_,_,e,_⟩,_⟩:=x;exact lP e
 |rng lo hi=>obtain⟨_,_,_,e⟩:=x;exact lP e
 |frz ob u=>obtain⟨e,_⟩:=x;exact lP e
 |tbl ps=>exact lP (show h.get? a=some _ from x)
 |met f y=>exact lP (show h.get? a=some _ from x)
 |ext φ=>obtain⟨_,⟨_,e⟩,_⟩:=x;exact lP e
theorem Paired.mapP:∀{l₁:List α}{l₂:List β},Paired F l₁ l₂->(∀a b,F a b->G a b)->Paired G l₁ l₂
 |_,_,.nil,_=>.nil
 |_,_,.cons r t,f=>.cons (f _ _ r) (Paired.mapP t f)
theorem ObjOk.stay(x:ObjOk P w H h a o)(k:∀b u,(b=a∨H b=some (.own a))->h.get? b=some u->h'.get? b=some u)
  (ho:∀b,H b=some (.own a)->H' b=some (.own a))(ht:∀b xs,H b=some (.tup xs)->H' b=some (.tup xs)):ObjOk P w H' h' a o:=by
 induction o with
 |lst xs=>obtain⟨z,m,n,r,e⟩:=x;exact⟨z,m,n,r,k _ _ (.inl rfl) e⟩
 |tup xs=>obtain⟨z,m,r,i,e,c⟩:=x;exact⟨z,m,r,i,k _ _ (.inl rfl) e,c⟩
 |dK kvs=>obtain⟨z,y,D,r,i,j,l,e,c⟩:=x;exact⟨z,y,D,r,i,j,l,k _ _ (.inl rfl) e,c⟩
 |dT kvs=>
  obtain⟨z,y,xs,r,i,j,l,e,c⟩:=x;exact⟨z,y,xs,Paired.mapP r λp q z=>⟨z.1,ht _ _ z.2.1,z.2.2⟩,i,j,l,k _ _ (.inl rfl) e,c⟩
 |set S n=>obtain⟨i,j,l,t,e,c⟩:=x;exact⟨i,j,l,t,k _ _ (.inl rfl) e,c⟩
 |ins C dx fs=>
  obtain⟨d,z,ne,e,A,⟨s,j,l,E,c⟩,r⟩:=x;exact⟨ho _ d,z,ne,k _ _ (.inl rfl) e,A,⟨s,j,l,k _ _ (.inr d) E,c⟩,r⟩
 |own y=>obtain⟨i,e⟩:=x;exact⟨i,k _ _ (.inl rfl) e⟩
 |xd fs=>obtain⟨A,⟨s,j,l,e,c⟩,r⟩:=x;exact⟨A,⟨s,j,l,k _ _ (.inl rfl) e,c⟩,r⟩
 |rng lo hi=>obtain⟨t,u,v,e⟩:=x;exact⟨t,u,v,k _ _ (.inl rfl) e⟩
 |frz i u ih=>obtain⟨e,q⟩:=x;exact⟨k _ _ (.inl rfl) e,ih q⟩
 |tbl ps=>
  have e :=x;exact k a _ (.inl rfl) e
 |met f y=>
  have e :=x;exact k a _ (.inl rfl) e
 |ext φ=>obtain⟨p,⟨o,e⟩,B⟩:=x;exact⟨B _ _ p λo q=>k _ _ (.inl rfl) q,⟨o,k _ _ (.inl rfl) e⟩,B⟩
theorem HOk.lt(x:HOk P w H h)(e:H a=some o):a<h.objs.size:=(x a o e).lt
theorem HOk.fresh(x:HOk P w H h)(e:h.objs.size<=a):H a=none:=by
 cases q:H a with
 |none=>rfl
 |some u=>exact absurd (mr (x.lt q) e) (nP _)
theorem HOk.kept(x:HOk P w H h)(k:∀b u,h.get? b=some u->h'.get? b=some u):HOk P w H h':=λa o e=>
 (x a o e).stay (λb u _ q=>k b u q) (λ_ q=>q) λ_ _ q=>q
theorem HOk.laid(x:HOk P w H h)(k:∀b u,h.get? b=some u->h'.get? b=some u)(hp:h.objs.size<=a)(new:ObjOk P w (upd H a o) h' a o):HOk P w (upd H a o) h':=λb u e=>by
 have i:=x.fresh hp;by_cases hb:b=a
 ·subst hb;rw[aE]at e;cases e;exact new
 ·rw[aG hb]at e;exact(x b u e).stay (λc v _ q=>k c v q) (λc q=>by rw[aG (aN q i)];exact q) λc j q=>by rw[aG (aN q i)];exact q
end
noncomputable def Rd(H:Hp)(a:Addr)(u:HO):Prop:=H a=some u∨∃o,H a=some (.frz o u)
theorem Rd.ok(r:Rd H a u)(x:HOk P w H h):ObjOk P w H h a u:=by
 rcases r with r|⟨o,r⟩
 ·exact x a u r
 ·obtain⟨_,q⟩:=x a _ r;exact q
noncomputable def Mut:Option HO->Prop
 |some (.lst _)=>True
 |some (.dK _)=>True
 |some (.dT _)=>True
 |some (.set _ _)=>True
 |some (.ins _ _ _)=>True
 |some (.ext _)=>True
 |_=>False
section
variable{P:Program}{w:World}{H:Hp}{h h':Heap}{x e:Addr}{o':HO}
theorem HOk.write(ok:HOk P w H h)(mu:Mut (H x))(he:e=x∨H e=some (.own x))(k:∀b u,b≠e->h.get? b=some u->h'.get? b=some u)(heo:∃u,h'.get? e=some u)
  (new:ObjOk P w (upd H x o') h' x o'):HOk P w (upd H x o') h':=λb u q=>by
 have a:∀c y,H c=some (.own y)->c≠x:=λc y r z=>by subst z;rw[r]at mu;exact mu
 have i:∀c j,H c=some (.tup j)->c≠x:=λc j r z=>by subst z;rw[r]at mu;exact mu
 by_cases hb:b=x
 ·subst hb;rw[aE]at q;cases q;exact new
 ·rw[aG hb]at q;by_cases hbe:b=e
  ·have m:H b=some (.own x):=by
    rcases he with z|z
    ·exact absurd (hbe.trans z) hb
    ·rw[hbe];exact z
   rw[q]at m;cases m;obtain⟨v,o⟩:=heo;exact⟨v,by rw[hbe];exact o⟩
  ·refine(ok b u q).stay (λc v l r=>k c v ?_ r) (λc r=>by rw[aG (a c b r)];exact r) λc j r=>by rw[aG (i c j r)];exact r
   rcases l with rfl|l
   ·exact hbe
   ·rintro rfl;rcases he with z|z
    ·exact a c b l z
    ·rw[l]at z;cases z;exact hb rfl
end
structure Un(fs ex:List Addr)(H H':Hp)(h h':Heap):Prop where
 keep:∀b o,h.get? b=some o->H b=none->b∉fs->b∉ex->h'.get? b=some o
 slot:∀b o,h.get? b=some o->H b=none->b∈fs->b∉ex->∃sl,h'.get? b=some {o with slots:=sl}
 free:∀b o,h.get? b=some o->H b=none->b∉ex->H' b=none
 there:∀b o,h.get? b=some o->b∉ex->∃o',h'.get? b=some o'
 tups:∀b xs,H b=some (.tup xs)->H' b=some (.tup xs)
 frzs:∀b o u,H b=some (.frz o u)->H' b=some (.frz o u)
 tbls:∀b ps,H b=some (.tbl ps)->∃more,H' b=some (.tbl (ps++more))
section
variable{fs fs' ex ex':List Addr}{H H1 H2:Hp}{h h1 h2 h':Heap}{a x e:Addr}{o:HO}
theorem Un.any(u:Un fs ex H H1 h h1)(q:h.get? b=some ob)(n:H b=none)(hx:b∉ex):∃sl,h1.get? b=some {ob with slots:=sl}:=by
 by_cases hb:b∈fs
 ·exact u.slot b ob q n hb hx
 ·exact⟨ob.slots,u.keep b ob q n hb hx⟩
theorem Un.kept(k:∀b u,h.get? b=some u->h'.get? b=some u):Un fs ex H H h h':=
 ⟨λb a q _ _ _=>k b a q,λb a q _ _ _=>⟨a.slots,k b a q⟩,λ_ _ _ n _=>n,λb a q _=>⟨a,k b a q⟩,λ_ _ q=>q,λ_ _ _ q=>q,λ_ c q=>⟨#[],by rw[q];simp⟩⟩
theorem Un.refl:Un fs ex H H h h:=Un.kept λ_ _ q=>q
theorem Un.laid(k:∀b u,h.get? b=some u->h'.get? b=some u)(hp:h.objs.size<=a)(hn:H a=none):Un fs ex H (upd H a o) h h' where
 keep:=λb u q _ _ _=>k b u q
 slot:=λb u q _ _ _=>⟨u.slots,k b u q⟩
 free:=λb u q n _=>by rw[aG (mq (mr (lP q) hp))];exact n
 there:=λb u q _=>⟨u,k b u q⟩
 tups:=λb c q=>by rw[aG (aN q hn)];exact q
 frzs:=λb u c q=>by rw[aG (aN q hn)];exact q
 tbls:=λb e q=>⟨#[],by rw[aG (aN q hn),q];simp⟩
theorem Un.write(mu:Mut (H x))(he:e=x∨H e=some (.own x))(k:∀b u,b≠e->h.get? b=some u->h'.get? b=some u)(heo:∃u,h'.get? e=some u):Un fs ex H (upd H x o) h h':=by
 have c:∀b,H b=none->b≠x:=λb n z=>by subst z;rw[n]at mu;exact mu
 have i:∀b,H b=none->b≠e:=λb n z=>by
  subst z;rcases he with r|r
  ·exact c b n r
  ·rw[n]at r;cases r
 have a:∀b u,H b=some u->¬Mut (some u)->b≠x:=λb u q l z=>by subst z;rw[q]at mu;exact l mu
 refine⟨λb u q n _ _=>k b u (i b n) q,λb u q n _ _=>⟨u.slots,k b u (i b n) q⟩,λb u q n _=>by rw[aG (c b n)];exact n,λb u q _=>?_,
  λb j q=>by rw[aG (a b _ q λz=>z)];exact q,λb u j q=>by rw[aG (a b _ q λz=>z)];exact q,λb m q=>⟨#[],by rw[aG (a b _ q λz=>z),q];simp⟩⟩
 by_cases hbe:b=e
 ·subst hbe;exact heo
 ·exact⟨u,k b u hbe q⟩
end
noncomputable def trk(h:Heap)(H:Hp):List Addr:=(List.range h.objs.size).filter λa=>(H a).isSome
noncomputable def hidT(h:Heap)(H:Hp):Heap:=PySem.W.hideAll h (trk h H)
theorem hidT_size(h:Heap)(H:Hp):(hidT h H).objs.size=h.objs.size:=PySem.W.hideAll_size _ _
theorem hidT_get(e:h.get? b=some o)(n:H b=none):(hidT h H).get? b=some o:=
 PySem.W.hideAll_get _ e λa=>by
  have q :=(n8.mp a).2;rw[n]at q;simp at q
theorem of_hidT(e:(hidT h H).get? b=some o):h.get? b=some o/\H b=none:=by
 have a :=PySem.W.of_hideAll (trk h H) e;refine⟨a,?_⟩
 cases q:H b with
 |none=>rfl
 |some x=>
  have c:b∈trk h H:=n8.mpr ⟨List.mem_range.mpr (lP a),by simp[q]⟩;have z:(hidT h H).get? b=none:=PySem.W.hideAll_none (trk h H) c;rw[z]at e;cases e
noncomputable def allNews(g h:Heap)(L:Addr):List (Addr×Obj):=(List.range h.objs.size).filterMap λa=>if a=L∨(g.get? a).isSome=true then none else(h.get? a).map λo=>(a,o)
noncomputable def rest(g h:Heap)(L d:Addr):List (Addr×Obj):=(allNews g h L).filter λp=>decide (p.1≠d)
structure Mod(K:W.Frag)(mg:Str->Option Value)(base:Heap):Prop where
 kin:K.In base
 glob:base.Ns mainGlobals mg
 blt:∃mb,base.Ns builtinsNs mb/\∀x:Str,x≠"__name__"->mb x=bootBuiltins x
 nolimit:base.NoLimit
structure Cx where
 prog:Program
 w:World
 K:W.Frag
 mg:Str->Option Value
 base:Heap
 A:Around
 N:List Str
 s₀:Shared
 H₀:Hp
 env:Env
 outer:List Env
 stack:List Env
 ex:List Addr
 fn:Str->Bool
 calm:Bool
 pn:List (Addr×Obj)
 xe:Value->Shared->Prop
noncomputable def frs(l:List Env):List Addr:=l.filterMap (·.frame)
noncomputable abbrev Cx.fs(X:Cx):List Addr:=frs X.outer
noncomputable def Vis(sc:Scope)(x:Str):Prop:=sc.names.lookup x=some .local∨sc.names.lookup x=some .cell∨sc.names.lookup x=some .free
noncomputable def Loc(sc:Scope)(x:Str):Prop:=sc.names.lookup x=some .local∨sc.names.lookup x=some .cell
noncomputable def Look(env:Env)(h:Heap)(m:Str->Option Value)(x:Str)(u:Value):Prop:=
 (env.kindOf x=some .local/\m x=some u)∨((env.kindOf x=some .cell∨env.kindOf x=some .free)/\∃c,env.cells.lookup x=some c/\h.IsCell c (some u))
structure Cx.Ok(X:Cx):Prop where
 mod:Mod X.K X.mg X.base
 kind:X.env.scope.kind=.function
 glob:X.env.globals=mainGlobals
 blt:X.env.builtins=builtinsNs
 above:X.s₀.heap.objs.size<=X.env.locals
 inj:∀x y c,X.env.cells.lookup x=some c->X.env.cells.lookup y=some c->x=y
 has:∀x,(X.env.kindOf x=some .cell∨X.env.kindOf x=some .free)->∃c,X.env.cells.lookup x=some c
 cab:∀x c,X.fn x=true->X.env.cells.lookup x=some c->X.s₀.heap.objs.size<=c
 hd:X.calm=true->X.A.handled=none
 frames:X.A.frames=some X.stack
 stk:X.stack=X.outer∨(X.stack=X.env::X.outer/\X.env.frame=some X.env.locals)
 exf:∀b∈X.ex,b≠X.env.locals/\∀x c,X.env.cells.lookup x=some c->c≠b
 bs:∀b o,X.base.get? b=some o->X.s₀.heap.get? b=some o/\X.H₀ b=none
 bsz:X.base.objs.size<=X.s₀.heap.objs.size
 noex:∀b o,X.base.get? b=some o->b∉X.ex
 exfs:∀b∈X.ex,b∉X.fs
 funs:X.s₀.heap.FunFrames X.base X.outer
 frf:∀b∈X.fs,X.H₀ b=none
structure Inv(X:Cx)(pins:List (Addr×Obj))(σ:List (Option V))(H:Hp)(s:Shared):Prop where
 ok:X.Ok
 os:s.os=X.s₀.os
 bare:AllBare s.gens
 base:Un X.fs X.ex X.H₀ H X.s₀.heap s.heap
 loc:∃m,s.heap.Ns X.env.locals m/\∀(i:Nat)(x:Str)(v:V),X.N[i]?=some x->σ[i]?=some (some v)->Vis X.env.scope x->∃u,RelV v u/\Look X.env s.heap m x u
 cell:∀x c,X.env.cells.lookup x=some c->∃v,s.heap.IsCell c v
 free:H X.env.locals=none
 freeC:∀x c,X.env.cells.lookup x=some c->H c=none
 pin:∀p∈X.pn++pins,s.heap.get? p.1=some p.2/\H p.1=none/\p.1≠X.env.locals/\p.1∉X.fs/\∀v,p.2.data≠.cell v
 hok:HOk X.prog X.w H s.heap
 len:σ.length=X.N.length
section
variable{X:Cx}{pins:List (Addr×Obj)}{σ:List (Option V)}{H H':Hp}{s:Shared}{h':Heap}
theorem Cx.Ok.nofr(ok:X.Ok)(e:X.base.get? b=some o):b∉X.fs:=λa=>by
 have:=(ok.funs.mem a).1
 rw[e]at this;cases this
theorem Inv.bs(I:Inv X pins σ H s):∀b o,X.base.get? b=some o->s.heap.get? b=some o/\H b=none:=λb o e=>
 ⟨I.base.keep b o (I.ok.bs b o e).1 (I.ok.bs b o e).2 (I.ok.nofr e) (I.ok.noex b o e),I.base.free b o (I.ok.bs b o e).1 (I.ok.bs b o e).2 (I.ok.noex b o e)⟩
theorem Inv.bk(I:Inv X pins σ H s):∀b o,X.base.get? b=some o->s.heap.get? b=some o:=λb o e=>(I.bs b o e).1
theorem Inv.mod(I:Inv X pins σ H s):Mod X.K X.mg X.base:=I.ok.mod
theorem Inv.kIn(I:Inv X pins σ H s):X.K.In s.heap:=I.ok.mod.kin.keeps I.bk
theorem Inv.lt(I:Inv X pins σ H s):X.env.locals<s.heap.objs.size:=by
 obtain⟨_,hn,_⟩:=I.loc;exact hn.lt
theorem Inv.sz(I:Inv X pins σ H s):X.s₀.heap.objs.size<=s.heap.objs.size:=lC I.ok.above (Nat.le_of_lt I.lt)
theorem Inv.nofs(I:Inv X pins σ H s)(h:s.heap.objs.size<=a):a∉X.fs:=λc=>by
 obtain⟨_,o,b,_⟩:=I.ok.funs.mem c;exact absurd (mr (lP b) (lC I.sz h)) (nP _)
theorem Inv.cne(I:Inv X pins σ H s):∀x c,X.env.cells.lookup x=some c->c≠X.env.locals:=λx c e z=>by
 obtain⟨v,o,h,i⟩:=I.cell x c e;obtain⟨m,⟨l,j,p,a,b,_⟩,_⟩:=I.loc;rw[z,a]at h;cases h;rw[b]at i;cases i
theorem Inv.funs(I:Inv X pins σ H s):s.heap.FunFrames X.base X.outer:=by
 have all:∀(l:List Env),(∀b∈frs l,b∈X.fs)->X.s₀.heap.FunFrames X.base l->s.heap.FunFrames X.base l:=by
  intro l
  induction l with
  |nil=>intro _ _;trivial
  |cons env r ih=>
   intro i m;obtain⟨p,⟨L,o,c,w,j,q⟩,t⟩:=m;have a :=i L (by unfold frs;rw[List.filterMap_cons,c];exact lO);obtain⟨x,e⟩:=I.base.slot L o j (I.ok.frf L a) a λz=>I.ok.exfs L z a;exact⟨p,⟨L,_,c,w,e,q⟩,ih (λb h=>i b (by unfold frs;rw[List.filterMap_cons,c];exact lF _ h)) t⟩
 exact all X.outer (λ_ h=>h) I.ok.funs
theorem Inv.stack(I:Inv X pins σ H s):s.heap.FunFrames X.base X.stack:=by
 rcases I.ok.stk with e|⟨e,hf⟩
 ·rw[e];exact I.funs
 ·rw[e];obtain⟨m,a,_⟩:=I.loc;refine .cons (by rw[I.ok.kind];decide) hf a ?_ I.funs;exact Heap.get?_none_of_le (lC I.ok.bsz I.ok.above)
theorem Inv.stkSub(I:Inv X pins σ H s):∀b∈frs X.stack,b∈X.env.locals::X.fs:=λb a=>by
 rcases I.ok.stk with e|⟨e,hf⟩
 ·rw[e]at a;exact lF _ a
 ·rw[e]at a;unfold frs at a;rw[List.filterMap_cons,hf]at a;exact a
theorem Inv.stkFree(I:Inv X pins σ H s):∀b∈frs X.stack,H b=none:=λb a=>by
 rcases lN.mp (I.stkSub b a)with e|a
 ·rw[e];exact I.free
 ·obtain⟨_,o,c,_⟩:=I.ok.funs.mem a;exact I.base.free b o c (I.ok.frf b a) λz=>I.ok.exfs b z a
theorem Inv.step{ch:List Addr}(I:Inv X pins σ H s)
  (hch:∀b∈ch,(b∈X.ex∨X.s₀.heap.objs.size<=b)/\b≠X.env.locals/\(∀x c,X.env.cells.lookup x=some c->c≠b)/\∀p∈X.pn++pins,p.1≠b)
  (keep:∀b o,b≠X.env.locals->b∉X.fs->b∉ch->s.heap.get? b=some o->H b=none->h'.get? b=some o)
  (slot:∀b o,b≠X.env.locals->b∈X.fs->b∉ch->s.heap.get? b=some o->H b=none->∃sl,h'.get? b=some {o with slots:=sl})(free:∀b o,b∉ch->s.heap.get? b=some o->H b=none->H' b=none)
  (there:∀b o,b∉ch->s.heap.get? b=some o->∃o',h'.get? b=some o')
  (tups:∀b xs,H b=some (.tup xs)->H' b=some (.tup xs))(frzs:∀b o u,H b=some (.frz o u)->H' b=some (.frz o u))(tbls:∀b ps,H b=some (.tbl ps)->∃more,H' b=some (.tbl (ps++more)))
  (ns:∀m,s.heap.Ns X.env.locals m->h'.Ns X.env.locals m)(hok:HOk X.prog X.w H' h')(hg:AllBare g'):
  Inv X pins σ H' {s with heap:=h',gens:=g',drawn:=d',toks:=t'}:=by
 have B:∀b o,X.s₀.heap.get? b=some o->b≠X.env.locals:=λb o e=>mq (mr (lP e) I.ok.above)
 have w:∀b o,X.s₀.heap.get? b=some o->b∉X.ex->b∉ch:=λb o e a y=>by
  rcases(hch b y).1 with z|z
  ·exact a z
  ·exact absurd (mr (lP e) z) (nP _)
 have j:∀x c,X.env.cells.lookup x=some c->∀v,s.heap.IsCell c v->h'.IsCell c v:=λx c e v⟨o,A,F⟩=>by
  have h:c∉ch:=λz=>(hch c z).2.2.1 x c e rfl;by_cases hc:c∈X.fs
  ·obtain⟨sl,q⟩:=slot c o (I.cne x c e) hc h A (I.freeC x c e);exact⟨_,q,F⟩
  ·exact⟨o,keep c o (I.cne x c e) hc h A (I.freeC x c e),F⟩
 refine⟨I.ok,I.os,hg,⟨λb o e n y a=>?_,λb o e n y a=>?_,λb o e n a=>?_,λb o e a=>?_,λb xs e=>tups b xs (I.base.tups b xs e),λb o xs e=>frzs b o xs (I.base.frzs b o xs e),λb ps e=>?_⟩,?_,λx c e=>?_,?_,λx c e=>?_,λp J=>?_,hok,I.len⟩
 ·exact keep b o (B b o e) y (w b o e a) (I.base.keep b o e n y a) (I.base.free b o e n a)
 ·obtain⟨sl,t⟩:=I.base.slot b o e n y a;obtain⟨E,D⟩:=slot b _ (B b o e) y (w b o e a) t (I.base.free b o e n a);exact⟨E,D⟩
 ·obtain⟨o',t⟩:=I.base.there b o e a;exact free b o' (w b o e a) t (I.base.free b o e n a)
 ·obtain⟨o',t⟩:=I.base.there b o e a;exact there b o' (w b o e a) t
 ·obtain⟨O,t⟩:=I.base.tbls b ps e;obtain⟨N,D⟩:=tbls b _ t;exact⟨O++N,by rw[D,Array.append_assoc]⟩
 ·obtain⟨m,M,K⟩:=I.loc;refine⟨m,ns m M,λi x v t D L=>?_⟩;obtain⟨u,r,l⟩:=K i x v t D L;refine⟨u,r,?_⟩;rcases l with l|⟨k,c,e,z⟩
  ·exact .inl l
  ·exact .inr ⟨k,c,e,j x c e _ z⟩
 ·obtain⟨v,z⟩:=I.cell x c e;exact⟨v,j x c e v z⟩
 ·obtain⟨m,⟨o,_,_,A,_⟩,_⟩:=I.loc;exact free _ o (λz=>(hch _ z).2.1 rfl) A I.free
 ·obtain⟨v,o,A,F⟩:=I.cell x c e;exact free c o (λz=>(hch c z).2.2.1 x c e rfl) A (I.freeC x c e)
 ·obtain⟨e,n,ne,G,d⟩:=I.pin p J;have h:p.1∉ch:=λz=>(hch p.1 z).2.2.2 p J rfl;exact⟨keep p.1 p.2 ne G h e n,free p.1 p.2 h e n,ne,G,d⟩
theorem Inv.un(I:Inv X pins σ H s)(u:Un X.fs [] H H' s.heap h')(hok:HOk X.prog X.w H' h'):Inv X pins σ H' {s with heap:=h',toks:=t'}:=by
 obtain⟨m,⟨o,t,w,j,r⟩,_⟩:=id I.loc;obtain⟨y,l⟩:=u.any j I.free (by simp)
 exact I.step (ch:=[]) (λ_ z=>nomatch z) (λb o _ h _ e n=>u.keep b o e n h (by simp)) (λb o _ h _ e n=>u.slot b o e n h (by simp)) (λb o _ e n=>u.free b o e n (by simp)) (λb o _ e=>u.there b o e (by simp)) u.tups u.frzs u.tbls (λA p=>by
  obtain⟨x,i,c,a,q⟩:=p;rw[j]at a;cases a;exact⟨_,i,c,l,q⟩) hok I.bare
theorem Inv.call(I:Inv X pins σ H s)(u:Un (frs X.stack) ch H H' s.heap h')(hok:HOk X.prog X.w H' h')(hg:AllBare g')
  (hch:∀b∈ch,(b∈X.ex∨X.s₀.heap.objs.size<=b)/\b≠X.env.locals/\(∀x c,X.env.cells.lookup x=some c->c≠b)/\∀p∈X.pn++pins,p.1≠b):
  Inv X pins σ H' {s with heap:=h',gens:=g',drawn:=d',toks:=t'}:=by
 obtain⟨m,⟨o,A,B,q,r⟩,_⟩:=id I.loc;obtain⟨E,j⟩:=u.any q I.free λz=>(hch _ z).2.1 rfl
 exact I.step hch (λb o j t a e n=>u.keep b o e n (λz=>(lN.mp (I.stkSub b z)).elim j t) a) (λb o _ _ a e n=>u.any e n a) (λb o a e n=>u.free b o e n a) (λb o a e=>u.there b o e a) u.tups u.frzs u.tbls (λF w=>by
  obtain⟨D,l,i,h,y⟩:=w;rw[q]at h;cases h;exact⟨_,l,i,j,y⟩) hok hg
theorem Inv.turned(I:Inv X pins σ H s)(k:∀b o,b≠it->s.heap.get? b=some o->h'.get? b=some o)(hn:H it=none)(hL:it≠X.env.locals)
  (h1:it∈X.ex∨X.s₀.heap.objs.size<=it)(h2:∀x c,X.env.cells.lookup x=some c->c≠it)(h3:∀p∈X.pn++pins,p.1≠it):Inv X pins σ H {s with heap:=h',toks:=t'}:=by
 have h:∀b u,H b=some u->b≠it:=λb u e z=>by rw[z,hn]at e;cases e
 refine I.step (ch:=[it]) (λb t=>?_) (λb o _ _ a e _=>k b o (λz=>a (by simp[z])) e) (λb o _ _ a e _=>⟨o.slots,k b o (λz=>a (by simp[z])) e⟩) (λ_ _ _ _ n=>n)
  (λb o a e=>⟨o,k b o (λz=>a (by simp[z])) e⟩) (λ_ _ e=>e) (λ_ _ _ e=>e) (λb y e=>⟨#[],by rw[e];simp⟩) (λm w=>?_) (λb u e=>?_) I.bare
 ·have e:b=it:=by simpa using t
  subst e;exact⟨h1,hL,h2,h3⟩
 ·obtain⟨o,i,l,j,r⟩:=w;exact⟨o,i,l,k _ o (Ne.symm hL) j,r⟩
 ·refine(I.hok b u e).stay (λc v a q=>k c v ?_ q) (λ_ q=>q) λ_ _ q=>q;rcases a with z|z
  ·rw[z];exact h b u e
  ·exact h c _ z
theorem Inv.tok(I:Inv X pins σ H s)(t:Nat):Inv X pins σ H {s with toks:=t}:=I.un Un.refl I.hok
theorem Inv.kept(I:Inv X pins σ H s)(k:∀b u,s.heap.get? b=some u->h'.get? b=some u):Inv X pins σ H {s with heap:=h',toks:=t'}:=I.un (Un.kept k) (I.hok.kept k)
theorem Inv.laid(I:Inv X pins σ H s)(k:∀b u,s.heap.get? b=some u->h'.get? b=some u)(hp:s.heap.objs.size<=a)(new:ObjOk X.prog X.w (upd H a o) h' a o):
  Inv X pins σ (upd H a o) {s with heap:=h',toks:=t'}:=I.un (Un.laid k hp (I.hok.fresh hp)) (I.hok.laid k hp new)
theorem Inv.write(I:Inv X pins σ H s)(mu:Mut (H x))(he:e=x∨H e=some (.own x))(k:∀b u,b≠e->s.heap.get? b=some u->h'.get? b=some u)(heo:∃u,h'.get? e=some u)
  (new:ObjOk X.prog X.w (upd H x o) h' x o):Inv X pins σ (upd H x o) {s with heap:=h',toks:=t'}:=I.un (Un.write mu he k heo) (I.hok.write mu he k heo new)
theorem Inv.pins_of(I:Inv X pins σ H s)(h:∀p∈pins',s.heap.get? p.1=some p.2/\H p.1=none/\p.1≠X.env.locals/\p.1∉X.fs/\∀v,p.2.data≠.cell v):Inv X pins' σ H s:=
 ⟨I.ok,I.os,I.bare,I.base,I.loc,I.cell,I.free,I.freeC,λp a=>(lB.mp a).elim (λz=>I.pin p (lJ _ z)) (h p),I.hok,I.len⟩
theorem nodup_ix{N:List Str}(hN:N.Nodup){i j:Nat}(a:N[i]?=some x)(b:N[j]?=some x):i=j:=by
 obtain⟨h,e⟩:=kY.mp a;obtain⟨l,c⟩:=kY.mp b;exact(List.getElem_inj hN).mp (e.trans c.symm)
theorem store_ok2(I:Inv X pins σ H s)(hN:X.N.Nodup)(hi:X.N[i]?=some x)(hx:Loc X.env.scope x)(r:RelV v u)
  (h:∀s',Inv X pins (σ.set i (some v)) H s'->(∃a,Heap.SameBut a s.heap s'.heap/\(a=X.env.locals∨X.env.cells.lookup x=some a))->Q () s')(hf:X.fn x=true∨X.env.scope.names.lookup x=some .local:=by first|exact .inl rfl|exact .inr rfl|assumption):wpAny M A (storeName X.env x u) Q E s:=by
 obtain⟨m,hn,hl⟩:=id I.loc;have O:(X.env.scope.kind==.class||(X.env.scope.kind==.module&&X.env.locals !=X.env.globals))=false:=by rw[I.ok.kind];rfl
 have S:i<σ.length:=by rw[I.len];exact(kY.mp hi).1
 have cne:=I.cne
 have B:∀{a:Addr}{L:Heap},(∃o,s.heap.get? a=some o/\H a=none)->Heap.SameBut a s.heap L->HOk X.prog X.w H L:=λ{a L}ha l b ob e=>by
  obtain⟨_,_,F⟩:=ha;refine(I.hok b ob e).stay (λc U D q=>(l.2 c ?_).trans q) (λ_ q=>q) λ_ _ q=>q;rintro rfl;rcases D with rfl|D
  ·rw[F]at e;cases e
  ·rw[F]at D;cases D
 rcases hx with hk|hk
 ·refine wpAny_storeName_local hk hn (λL aa l=>?_) O;obtain⟨oL,_,_,ab,_⟩:=id hn;refine h _ ⟨I.ok,I.os,I.bare,⟨λb o e n J hx=>?_,λb o e n J hx=>?_,I.base.free,λb o e hx=>?_,I.base.tups,I.base.frzs,I.base.tbls⟩,⟨_,aa,λj y Z t G e3=>?_⟩,λy c e=>?_,I.free,I.freeC,λp hp=>?_,B ⟨oL,ab,I.free⟩ l,by simpa using I.len⟩ ⟨_,l,.inl rfl⟩
  ·exact(l.2 b (mq (mr (lP e) I.ok.above))).trans (I.base.keep b o e n J hx)
  ·obtain⟨sl,t⟩:=I.base.slot b o e n J hx;exact⟨sl,(l.2 b (mq (mr (lP e) I.ok.above))).trans t⟩
  ·obtain⟨o',t⟩:=I.base.there b o e hx;exact⟨o',(l.2 b (mq (mr (lP e) I.ok.above))).trans t⟩
  ·by_cases hj:j=i
   ·subst hj;rw[hi]at t;cases t;rw[List.getElem?_set_self S]at G
    cases G;exact⟨u,r,.inl ⟨hk,by simp⟩⟩
   ·rw[List.getElem?_set_ne (Ne.symm hj)]at G;obtain⟨u',r',q⟩:=hl j y Z t G e3;refine⟨u',r',?_⟩;rcases q with⟨k,e⟩|⟨k,c,e,z⟩
    ·refine .inl ⟨k,?_⟩
     have:y≠x:=λe=>hj (nodup_ix hN t (e▸hi))
     simp[this,e]
    ·exact .inr ⟨k,c,e,z.sameBut l (cne y c e)⟩
  ·obtain⟨U,z⟩:=I.cell y c e;exact⟨U,z.sameBut l (cne y c e)⟩
  ·obtain⟨e,n,ne,Y,d⟩:=I.pin p hp;exact⟨(l.2 p.1 ne).trans e,n,ne,Y,d⟩
 ·have K:X.fn x=true:=by
   rcases hf with z|z
   ·exact z
   ·rw[z]at hk;cases hk
  obtain⟨c,D⟩:=I.ok.has x (.inl hk);obtain⟨U,z⟩:=I.cell x c D;refine wpAny_storeName_cell I.ok.kind hk D z (λL N l=>?_);obtain⟨oc,P,R⟩:=id z;refine h {s with heap:=L} ⟨I.ok,I.os,I.bare,⟨λb o e n J hx=>?_,λb o e n J hx=>?_,I.base.free,λb o e hx=>?_,I.base.tups,I.base.frzs,I.base.tbls⟩,⟨m,hn.sameBut l (Ne.symm (cne x c D)),λj y Z t G e3=>?_⟩,λy T e=>?_,I.free,I.freeC,λp hp=>?_,B ⟨oc,P,I.freeC x c D⟩ l,by simpa using I.len⟩ ⟨c,l,.inr D⟩
  ·exact(l.2 b (mq (mr (lP e) (I.ok.cab x c K D)))).trans (I.base.keep b o e n J hx)
  ·obtain⟨sl,t⟩:=I.base.slot b o e n J hx;exact⟨sl,(l.2 b (mq (mr (lP e) (I.ok.cab x c K D)))).trans t⟩
  ·obtain⟨o',t⟩:=I.base.there b o e hx;exact⟨o',(l.2 b (mq (mr (lP e) (I.ok.cab x c K D)))).trans t⟩
  ·by_cases hj:j=i
   ·subst hj;rw[hi]at t;cases t;rw[List.getElem?_set_self S]at G
    cases G;exact⟨u,r,.inr ⟨.inl hk,c,D,N⟩⟩
   ·rw[List.getElem?_set_ne (Ne.symm hj)]at G;obtain⟨u',r',q⟩:=hl j y Z t G e3;refine⟨u',r',?_⟩;rcases q with q|⟨k,T,e,z'⟩
    ·exact .inl q
    ·refine .inr ⟨k,T,e,z'.sameBut l ?_⟩;rintro rfl;exact hj (nodup_ix hN t (I.ok.inj _ _ _ e D▸hi))
  ·by_cases hcc:T=c
   ·subst hcc;exact⟨_,N⟩
   ·obtain⟨w2,z2⟩:=I.cell y T e;exact⟨w2,z2.sameBut l hcc⟩
  ·obtain⟨e,n,ne,Y,d⟩:=I.pin p hp;refine⟨(l.2 p.1 ?_).trans e,n,ne,Y,d⟩;intro q;rw[q,P]at e;have q' :=lY e;exact d U (by rw[<-q'];exact R)
theorem store_ok(I:Inv X pins σ H s)(hN:X.N.Nodup)(hi:X.N[i]?=some x)(hx:Loc X.env.scope x)(r:RelV v u)
  (h:∀s',Inv X pins (σ.set i (some v)) H s'->Q () s')(hf:X.fn x=true∨X.env.scope.names.lookup x=some .local:=by first|exact .inl rfl|exact .inr rfl|assumption):wpAny M A (storeName X.env x u) Q E s:=
 store_ok2 I hN hi hx r (λs' a _=>h s' a) hf
theorem Inv.call'(I:Inv X pins σ H s)(ho:s'.os=s.os)(u:Un (frs X.stack) ch H H' s.heap s'.heap)(hok:HOk X.prog X.w H' s'.heap)(hg:AllBare s'.gens)
  (hch:∀b∈ch,(b∈X.ex∨X.s₀.heap.objs.size<=b)/\b≠X.env.locals/\(∀x c,X.env.cells.lookup x=some c->c≠b)/\∀p∈X.pn++pins,p.1≠b):Inv X pins σ H' s':=by
 obtain⟨h,g',d',t',a⟩:=s';have e:a=s.os:=ho;subst e;exact I.call u hok hg hch
end
noncomputable abbrev XK:=Value->Option Addr->Hp->Prop
noncomputable abbrev St:=List (Option V)
noncomputable abbrev VK:=V->Hp->Prop
noncomputable abbrev TE:=St->Hp->VK->Prop
noncomputable abbrev TT:=St->Hp->(Bool->Hp->Prop)->Prop
noncomputable abbrev TA:=St->Hp->(List V->Hp->Prop)->Prop
structure Ends where
 nx:St->Hp->Prop
 rt:VK
 bk:St->Hp->Prop:=λ_ _=>False
 ct:St->Hp->Prop:=λ_ _=>False
noncomputable abbrev TS:=Ends->St->Hp->Prop
noncomputable def EP(X:Cx)(pins:List (Addr×Obj))(σ:St)(Q:VK)(u:Value)(s':Shared):Prop:=∃v H',Inv X pins σ H' s'/\RelV v u/\Q v H'
noncomputable def TP(X:Cx)(pins:List (Addr×Obj))(σ:St)(Q:Bool->Hp->Prop)(b:Bool)(s':Shared):Prop:=∃H',Inv X pins σ H' s'/\Q b H'
noncomputable def AP(X:Cx)(pins:List (Addr×Obj))(σ:St)(Q:List V->Hp->Prop)(us:List Value)(s':Shared):Prop:=∃vs H',Inv X pins σ H' s'/\Vals vs us/\Q vs H'
noncomputable def SP(X:Cx)(pins:List (Addr×Obj))(D:Ends)(f:Flow)(s':Shared):Prop:=
 match f with
 |.next=>∃σ' H',Inv X pins σ' H' s'/\D.nx σ' H'
 |.brk=>∃σ' H',Inv X pins σ' H' s'/\D.bk σ' H'
 |.cont=>∃σ' H',Inv X pins σ' H' s'/\D.ct σ' H'
 |.ret u=>∃v σ' H',Inv X pins σ' H' s'/\RelV v u/\D.rt v H'
noncomputable def PE(X:Cx)(e:Expr)(t:TE):Prop:=
 ∀(pins:List (Addr×Obj))(s:Shared)(σ:St)(H:Hp)(Q:VK),Inv X pins σ H s->t σ H Q->wpAny (model X.prog X.w) X.A (eval e X.env) (EP X pins σ Q) X.xe s
noncomputable def PT(X:Cx)(e:Expr)(t:TT):Prop:=
 ∀(pins:List (Addr×Obj))(s:Shared)(σ:St)(H:Hp)(Q:Bool->Hp->Prop),Inv X pins σ H s->t σ H Q->wpAny (model X.prog X.w) X.A (isTrue e X.env (eval e X.env)) (TP X pins σ Q) X.xe s
noncomputable def PW(X:Cx)(e:Expr)(t:TT):Prop:=
 ∀(whole:Sem Value)(pins:List (Addr×Obj))(s:Shared)(σ:St)(H:Hp)(Q:Bool->Hp->Prop),Inv X pins σ H s->t σ H Q->wpAny (model X.prog X.w) X.A (isTrue e X.env whole) (TP X pins σ Q) X.xe s
theorem PW.pt(h:PW X e t):PT X e t:=h _
noncomputable def PA(X:Cx)(es:List Expr)(t:TA):Prop:=
 ∀(pos:Pos)(pins:List (Addr×Obj))(s:Shared)(σ:St)(H:Hp)(Q:List V->Hp->Prop),Inv X pins σ H s->t σ H Q->wpAny (model X.prog X.w) X.A (spliced (backTo pos (starEach es X.env))) (AP X pins σ Q) X.xe s
noncomputable def PS(X:Cx)(st:Stmt)(t:TS):Prop:=
 ∀(pins:List (Addr×Obj))(s:Shared)(σ:St)(H:Hp)(D:Ends),Inv X pins σ H s->t D σ H->wpAny (model X.prog X.w) X.A (exec st X.env) (SP X pins D) X.xe s
noncomputable def PSs(X:Cx)(st:List Stmt)(t:TS):Prop:=
 ∀(pins:List (Addr×Obj))(s:Shared)(σ:St)(H:Hp)(D:Ends),Inv X pins σ H s->t D σ H->wpAny (model X.prog X.w) X.A (execs st X.env) (SP X pins D) X.xe s
theorem thn(h:wpAny M A t Q E s)(hQ:∀a s,Q a s->Q' a s):wpAny M A t Q' E s:=nY h hQ λ_ _ x=>x
section
variable{X:Cx}
inductive ItVar(i:Nat)(σ:St)(H:Hp)(Q:VK):Prop
 |mk(v:_)(h1:σ[i]?=some (some v))(h2:Q v H):ItVar i σ H Q
noncomputable def tVar(i:Nat):TE:=λσ H Q=>ItVar i σ H Q
noncomputable def tC(v:V):TE:=λ_ H Q=>Q v H
theorem pe_var(hN:X.N[i]?=some x)(hv:Vis X.env.scope x)(hd:(x==("__debug__":Str))=false:=by decide)(hcd:(x==("__classdict__":Str))=false:=by decide):PE X (.Name x pos) (tVar i):=by
 intro a s σ H Q I h;obtain⟨v,e,h⟩:=h;obtain⟨m,b,j⟩:=I.loc;obtain⟨u,r,l⟩:=j i x v hN e hv;have fin:EP X a σ Q u s:=⟨v,H,I,r,h⟩;rcases l with⟨hk,hm⟩|⟨hk,c,hc,hcell⟩
 ·exact wpAny_Name (wpAny_loadName_local I.ok.kind hk b hm fin) hd
 ·rcases hk with hk|hk
  ·exact wpAny_Name (wpAny_loadName_cell I.ok.kind hk hc hcell fin) hd
  ·exact wpAny_Name (wpAny_loadName_free I.ok.kind hk hc hcell fin hcd) hd
theorem aC:PE X (.Constant (.int i) j pos) (tC (.int i)):=λ_ _ _ H _ I h=>wpAny_Constant_int ⟨.int i,H,I.tok _,⟨_,rfl⟩,h⟩
theorem hX:PE X (.Constant (.bool b) j pos) (tC (.bl b)):=λ_ _ _ H _ I h=>Constant_bool ⟨.bl b,H,I,rfl,h⟩
theorem pe_non:PE X (.Constant .none j pos) (tC .non):=λ_ _ _ H _ I h=>Constant_none ⟨.non,H,I,rfl,h⟩
theorem pe_str:PE X (.Constant (.str x) j pos) (tC (.str x)):=λ_ _ _ H _ I h=>Calls.Constant_str ⟨.str x,H,I.tok _,⟨_,rfl⟩,h⟩
noncomputable def Gl(X:Cx)(x:Str):Prop:=X.env.kindOf x=some .globalImplicit
theorem kO(I:Inv X pins σ H s)(hg:Gl X x)(hm:X.mg x=some u)(h:Q u s)
  (hd:(x==("__debug__":Str))=false:=by decide):wpAny (model X.prog X.w) X.A (eval (.Name x pos) X.env) Q E s:=
 Calls.Name_function_global I.ok.kind hg (Calls.loadGlobal_global (by rw[I.ok.glob];exact I.mod.glob.keeps I.bk) hm h) hd
theorem ld_blt(I:Inv X pins σ H s)(hg:Gl X x)(hm:X.mg x=none)(hv:bootBuiltins x=some u)(h:Q u s)
  (hn:x≠"__name__":=by decide)(hd:(x==("__debug__":Str))=false:=by decide):wpAny (model X.prog X.w) X.A (eval (.Name x pos) X.env) Q E s:=by
 obtain⟨c,a,b⟩:=I.mod.blt;exact Calls.Name_function_global I.ok.kind hg (Calls.loadGlobal_builtin (by rw[I.ok.glob];exact I.mod.glob.keeps I.bk) hm (by rw[I.ok.blt];exact a.keeps I.bk) ((b x hn).trans hv) h) hd
theorem pe_glob(hg:Gl X x)(hm:X.mg x=some u)(r:RelV v u)(hd:(x==("__debug__":Str))=false:=by decide):PE X (.Name x pos) (tC v):=
 λ_ _ _ H _ I h=>kO I hg hm ⟨v,H,I,r,h⟩ hd
theorem pe_bltn(hg:Gl X x)(hm:X.mg x=none)(hv:bootBuiltins x=some u)(r:RelV v u)(hn:x≠"__name__":=by decide)(hd:(x==("__debug__":Str))=false:=by decide):PE X (.Name x pos) (tC v):=
 λ_ _ _ H _ I h=>ld_blt I hg hm hv ⟨v,H,I,r,h⟩ hn hd
noncomputable def t2I(ta tb:TE)(k:Int->Int->Hp->Prop):St->Hp->Prop:=λσ H=>ta σ H λx H1=>tb σ H1 λy H2=>∃i j,x=.int i/\y=.int j/\k i j H2
variable{a b:Expr}{ta tb:TE}{pos:Pos}
noncomputable def PC(X:Cx)(op:CmpOp)(a b:Expr)(t:TE):Prop:=
 ∀(pins:List (Addr×Obj))(s:Shared)(σ:St)(H:Hp)(Q:VK),Inv X pins σ H s->t σ H Q->
  wpAny (model X.prog X.w) X.A (eval a X.env) (λv s₁=>wpAny (model X.prog X.w) X.A (eval b X.env) (λu s₂=>wpAny (model X.prog X.w) X.A (compareOp op v u) (EP X pins σ Q) X.xe s₂) X.xe s₁) X.xe s
noncomputable def tCmp(p:Int->Int->Bool)(ta tb:TE):TE:=λσ H Q=>t2I ta tb (λi j H2=>Q (.bl (p i j)) H2) σ H
inductive ItB(Q:Bool->Hp->Prop)(x:V)(H1:Hp):Prop
 |mk(c:_)(h1:x=.bl c)(h2:Q c H1):ItB Q x H1
noncomputable def tB(t:TE):TT:=λσ H Q=>t σ H λx H1=>ItB Q x H1
theorem j0(h:PC X op a b t)(h1:behindInMarks op b=false:=by first|exact nobehind _ (by decide) (by decide)|rfl):PT X (.Compare a [op] [b] pos) (tB t):=by
 intro e s σ H Q I p;refine wpAny_isTrue_Compare1 (thn (h e s σ H _ I p) λv r h1=>thn h1 λu y l=>thn l λc w zW=>?_) h1;obtain⟨x,o,j,m,i⟩:=zW;obtain⟨d,rfl,q⟩:=i
 cases m;exact wpAny_truthy_bool ⟨o,j,q⟩
theorem eo(h:PE X e t)(he:∀whole,isTrue e X.env whole=(do let v<-whole;standAt e.pos;holding [v] (truthy v)):=by intro _;rfl):PT X e (tB t):=by
 intro a s σ H Q I l;refine isTrue_plain (thn (h a s σ H _ I l) λv m zW=>?_) (he _);obtain⟨x,j,c,i,b⟩:=zW;obtain⟨d,rfl,q⟩:=b
 cases i;exact wpAny_truthy_bool ⟨j,c,q⟩
variable{tA tB':TT}{rest:List Expr}
noncomputable def tAnd(t u:TT):TT:=λσ H Q=>t σ H λc H1=>if c=true then u σ H1 Q else Q false H1
noncomputable def tOr(t u:TT):TT:=λσ H Q=>t σ H λc H1=>if c=true then Q true H1 else u σ H1 Q
noncomputable def tNot(t:TT):TT:=λσ H Q=>t σ H λc H1=>Q (!c) H1
theorem fv(ha:PT X a tA):PW X (.BoolOp .And [a] pos) tA:=by
 intro j b s σ H Q I h;refine isTrue_and (thn (ha b s σ H Q I h) λc i e=>?_)
 cases c with
 |true=>exact isTrue_and_nil e
 |false=>exact e
theorem pw_or1(ha:PT X a tA):PW X (.BoolOp .Or [a] pos) tA:=by
 intro j b s σ H Q I h;refine isTrue_or (thn (ha b s σ H Q I h) λc i e=>?_)
 cases c with
 |false=>exact isTrue_or_nil e
 |true=>exact e
theorem gu(ha:PT X a tA)(hb:PW X (.BoolOp .And (b::rest) pos) tB'):PW X (.BoolOp .And (a::b::rest) pos) (tAnd tA tB'):=by
 intro o e s σ H Q I h;refine isTrue_and (thn (ha e s σ H _ I h) λc m zW=>?_);obtain⟨l,j,i⟩:=zW
 cases c with
 |true=>exact hb o e m σ l Q j i
 |false=>exact⟨l,j,i⟩
theorem pw_or(ha:PT X a tA)(hb:PW X (.BoolOp .Or (b::rest) pos) tB'):PW X (.BoolOp .Or (a::b::rest) pos) (tOr tA tB'):=by
 intro o e s σ H Q I h;refine isTrue_or (thn (ha e s σ H _ I h) λc m zW=>?_);obtain⟨l,j,i⟩:=zW
 cases c with
 |true=>exact⟨l,j,i⟩
 |false=>exact hb o e m σ l Q j i
theorem fM(ha:PT X a tA):PT X (.UnaryOp .Not a pos) (tNot tA):=by
 intro b s σ H Q I h;exact isTrue_not (ha b s σ H (λc e=>Q (!c) e) I h)
noncomputable def tAndV(ta tb:TE):TE:=λσ H Q=>ta σ H λx H1=>∃c,x=.bl c/\if c=true then tb σ H1 Q else Q (.bl false) H1
noncomputable def tOrV(ta tb:TE):TE:=λσ H Q=>ta σ H λx H1=>∃c,x=.bl c/\if c=true then Q (.bl true) H1 else tb σ H1 Q
noncomputable def tNotV(ta:TE):TE:=λσ H Q=>ta σ H λx H1=>∃c,x=.bl c/\Q (.bl (!c)) H1
theorem j3(h:PE X a t):PE X (.BoolOp op [a] pos) t:=λb s σ H Q I c=>BoolOp_one (h b s σ H Q I c)
theorem jn(ha:PE X a ta)(hb:PE X (.BoolOp .And (b::rest) pos) tb):PE X (.BoolOp .And (a::b::rest) pos) (tAndV ta tb):=by
 intro e s σ H Q I h;refine BoolOp_and (thn (ha e s σ H _ I h) λv m zW=>?_);obtain⟨x,l,j,o,i⟩:=zW;obtain⟨c,rfl,i⟩:=i
 cases o;refine wpAny_truthy_bool ?_
 cases c with
 |true=>exact hb e m σ l Q j i
 |false=>exact⟨.bl false,l,j,rfl,i⟩
theorem pe_or(ha:PE X a ta)(hb:PE X (.BoolOp .Or (b::rest) pos) tb):PE X (.BoolOp .Or (a::b::rest) pos) (tOrV ta tb):=by
 intro e s σ H Q I h;refine BoolOp_or (thn (ha e s σ H _ I h) λv m zW=>?_);obtain⟨x,l,j,o,i⟩:=zW;obtain⟨c,rfl,i⟩:=i
 cases o;refine wpAny_truthy_bool ?_
 cases c with
 |false=>exact hb e m σ l Q j i
 |true=>exact⟨.bl true,l,j,rfl,i⟩
theorem pe_not(ha:PE X a ta):PE X (.UnaryOp .Not a pos) (tNotV ta):=by
 intro b s σ H Q I h;refine UnaryOp_ (thn (ha b s σ H _ I h) λv m zW=>?_);obtain⟨x,l,i,j,e⟩:=zW;obtain⟨c,rfl,e⟩:=e
 cases j;exact not_of (wpAny_truthy_bool ⟨.bl (!c),l,i,rfl,e⟩)
noncomputable def tIf(t:TT)(ta tb:TE):TE:=λσ H Q=>t σ H λc H1=>if c=true then ta σ H1 Q else tb σ H1 Q
theorem pe_ifExp(hc:PT X c tA)(ha:PE X a ta)(hb:PE X b tb):PE X (.IfExp c a b pos) (tIf tA ta tb):=by
 intro e s σ H Q I h;refine wpAny_IfExp (thn (hc e s σ H _ I h) λd j zW=>?_);obtain⟨m,l,i⟩:=zW
 cases d with
 |true=>exact ha e j σ m Q l i
 |false=>exact hb e j σ m Q l i
end
noncomputable def SqL(K:W.Frag)(H:Hp)(a:Addr)(xs:List V):Prop:=
 Rd H a (.lst xs)∨
  ∃(o:Obj)(its:Array Value)(n:Nat),K.lookup a=some o/\o.cls=.type "list"/\o.dict=none/\o.data=.seq its n/\its.size<=sizeLine/\Vals xs its.toList
noncomputable def SqT(K:W.Frag)(H:Hp)(a:Addr)(xs:List V):Prop:=
 Rd H a (.tup xs)∨
  ∃(o:Obj)(its:Array Value)(n:Nat),K.lookup a=some o/\o.cls=.type "tuple"/\o.data=.seq its n/\its.size<=sizeLine/\Vals xs its.toList
noncomputable def absV:Value->Option V
 |.none=>some .non
 |.bool b=>some (.bl b)
 |.int i _=>some (.int i)
 |.str x _=>some (.str x)
 |.bytes b _=>some (.byt b)
 |.float b _=>some (.flt b)
 |.ref a=>some (.ref a)
 |.type n=>some (.ty n)
 |_=>none
theorem RelV.abs(r:RelV x u):absV u=some x:=by
 cases x with
 |non=>cases r;rfl
 |bl _=>cases r;rfl
 |int _=>obtain⟨t,rfl⟩:=r;rfl
 |str _=>obtain⟨t,rfl⟩:=r;rfl
 |byt _=>obtain⟨t,rfl⟩:=r;rfl
 |flt _=>obtain⟨t,rfl⟩:=r;rfl
 |ref _=>cases r;rfl
 |ty _=>cases r;rfl
theorem RelV.inj(r:RelV x u)(q:RelV y u):x=y:=lY (r.abs.symm.trans q.abs)
theorem Vals.inj{xs ys:List V}{us:List Value}(a:Vals xs us)(b:Vals ys us):xs=ys:=by
 induction a generalizing ys with
 |nil=>cases b;rfl
 |cons r t ih=>cases b with|cons r' t'=>rw[r.inj r',ih t']
section
variable{X:Cx}{pins:List (Addr×Obj)}{σ:St}{H:Hp}{s:Shared}{a:Addr}{xs ys:List V}
theorem SqL.of{K:W.Frag}(h:H a=some (.lst xs)):SqL K H a xs:=.inl (.inl h)
theorem SqT.of{K:W.Frag}(h:H a=some (.tup xs)):SqT K H a xs:=.inl (.inl h)
theorem Inv.list(I:Inv X pins σ H s)(h:SqL X.K H a xs):∃its:List Value,Vals xs its/\PlainL s.heap a its.toArray/\xs.length<=sizeLine:=by
 rcases h with h|⟨o,its,n,hk,hc,hd,hs,hz,r⟩
 ·obtain⟨z,its,n,r,e⟩:=h.ok I.hok;exact⟨its,r,⟨_,n,e,rfl,rfl,rfl⟩,z⟩
 ·refine⟨its.toList,r,⟨o,n,I.kIn a o hk,hc,hd,by simpa using hs⟩,?_⟩;have e:=r.length;simp only[Array.length_toList]at e
  lia
theorem Inv.tuple(I:Inv X pins σ H s)(h:SqT X.K H a xs):∃its:List Value,Vals xs its/\IsTup s.heap a its.toArray/\xs.length<=sizeLine:=by
 rcases h with h|⟨o,its,n,hk,hc,hs,hz,r⟩
 ·obtain⟨z,its,r,p⟩:=h.ok I.hok;exact⟨its,r,p,z⟩
 ·refine⟨its.toList,r,⟨o,I.kIn a o hk,hc,n,by simpa using hs⟩,?_⟩;have e:=r.length;simp only[Array.length_toList]at e
  lia
theorem Inv.list_inj(I:Inv X pins σ H s)(h:SqL X.K H a xs)(h':SqL X.K H a ys):xs=ys:=by
 obtain⟨b,r,⟨o,n,e,_,_,d⟩,_⟩:=I.list h;obtain⟨its',j,⟨l,m,c,_,_,i⟩,_⟩:=I.list h';rw[e]at c;cases c;rw[d]at i;injection i with d1 _
 have:b=its':=by simpa using mj Array.toList d1
 subst this;exact r.inj j
theorem Inv.tuple_inj(I:Inv X pins σ H s)(h:SqT X.K H a xs)(h':SqT X.K H a ys):xs=ys:=by
 obtain⟨b,r,⟨o,e,_,n,d⟩,_⟩:=I.tuple h;obtain⟨its',j,⟨l,c,_,m,i⟩,_⟩:=I.tuple h';rw[e]at c;cases c;rw[d]at i;injection i with d1 _
 have:b=its':=by simpa using mj Array.toList d1
 subst this;exact r.inj j
end
noncomputable abbrev Cx.wish(X:Cx)(E:Value->Shared->Prop):Cx:={X with xe:=E}
noncomputable abbrev Cx.nox(X:Cx):Cx:=X.wish λ_ _=>False
theorem Cx.Ok.wish{X:Cx}(ok:X.Ok)(E:Value->Shared->Prop):(X.wish E).Ok:=
 ⟨ok.mod,ok.kind,ok.glob,ok.blt,ok.above,ok.inj,ok.has,ok.cab,ok.hd,ok.frames,ok.stk,ok.exf,ok.bs,ok.bsz,ok.noex,ok.exfs,ok.funs,ok.frf⟩
theorem Cx.Ok.unwish{X:Cx}(ok:(X.wish E).Ok):X.Ok:=
 ⟨ok.mod,ok.kind,ok.glob,ok.blt,ok.above,ok.inj,ok.has,ok.cab,ok.hd,ok.frames,ok.stk,ok.exf,ok.bs,ok.bsz,ok.noex,ok.exfs,ok.funs,ok.frf⟩
section
variable{X:Cx}{pins:List (Addr×Obj)}{σ:St}{H:Hp}{s:Shared}{E:Value->Shared->Prop}
theorem Inv.wish(I:Inv X pins σ H s)(E:Value->Shared->Prop):Inv (X.wish E) pins σ H s:=⟨I.ok.wish E,I.os,I.bare,I.base,I.loc,I.cell,I.free,I.freeC,I.pin,I.hok,I.len⟩
theorem Inv.unwish(I:Inv (X.wish E) pins σ H s):Inv X pins σ H s:=⟨I.ok.unwish,I.os,I.bare,I.base,I.loc,I.cell,I.free,I.freeC,I.pin,I.hok,I.len⟩
theorem SP.unwish(h:SP (X.wish E) pins D f s'):SP X pins D f s':=by
 cases f with
 |next=>obtain⟨a,b,I,q⟩:=h;exact⟨a,b,I.unwish,q⟩
 |brk=>obtain⟨a,b,I,q⟩:=h;exact⟨a,b,I.unwish,q⟩
 |cont=>obtain⟨a,b,I,q⟩:=h;exact⟨a,b,I.unwish,q⟩
 |ret u=>obtain⟨v,a,b,I,r,q⟩:=h;exact⟨v,a,b,I.unwish,r,q⟩
theorem PSs.nox{st:List Stmt}(h:PSs X.nox st t):PSs X st t:=λa s σ H D I b=>
 nY (h a s σ H D (I.wish _) b) (λ_ _ q=>q.unwish) λ_ _ z=>False.elim z
end
section
variable{X:Cx}{st:Stmt}{rest:List Stmt}{t u:TS}{e:Expr}{te:TE}{pos:Pos}
noncomputable def tNext:TS:=λD σ H=>D.nx σ H
noncomputable def tSeq(t u:TS):TS:=λD σ H=>t {D with nx:=u D} σ H
theorem aV:PSs X [] tNext:=λ_ _ σ H _ I h=>wpAny_execs_nil ⟨σ,H,I,h⟩
theorem aD(h1:PS X st t)(h2:PSs X rest u):PSs X (st::rest) (tSeq t u):=by
 intro a s σ H D I h;refine wpAny_execs_cons (thn (h1 a s σ H {D with nx:=u D} I h) λf e q=>?_)
 cases f with
 |next=>
  obtain⟨c,i,b,q⟩:=q;exact h2 a e c i D b q
 |ret v=>exact q
 |brk=>exact q
 |cont=>exact q
theorem aF(h1:PS X st t):PSs X [st] t:=by
 intro a s σ H D I h;refine wpAny_execs_cons (thn (h1 a s σ H D I h) λf b q=>?_)
 cases f with
 |next=>exact wpAny_execs_nil q
 |ret v=>exact q
 |brk=>exact q
 |cont=>exact q
theorem Inv.quiet(I:Inv X pins σ H s):interactive X.env=false:=by simp[interactive,I.ok.kind]
noncomputable def tDrop(te:TE):TS:=λD σ H=>te σ H λ_ H1=>D.nx σ H1
theorem bY(he:PE X e te)(hs:swapsWith e none pos.line X.env=pure false:=by rfl):PS X (.Expr e pos) (tDrop te):=by
 intro a s σ H D I h;exact wpAny_Expr_any (thn (he a s σ H _ I h) (by rintro v j⟨x,i,c,l,b⟩;exact⟨σ,i,c,b⟩)) I.quiet hs
noncomputable def tRet(te:TE):TS:=λD σ H=>te σ H D.rt
theorem aP(he:PE X e te):PS X (.Return (some e) pos) (tRet te):=by
 intro a s σ H D I h;exact wpAny_Return_some (thn (he a s σ H _ I h) (by rintro v l⟨x,j,c,i,b⟩;exact⟨x,σ,j,c,i,b⟩))
noncomputable def tRetN:TS:=λD _ H=>D.rt .non H
theorem ps_retN:PS X (.Return none pos) tRetN:=λ_ _ σ H _ I h=>wpAny_Return_none ⟨.non,σ,H,I,rfl,h⟩
noncomputable def tIfS(c:TT)(t u:TS):TS:=λD σ H=>c σ H λb H1=>if b=true then t D σ H1 else u D σ H1
theorem bJ(hc:PT X c tc)(ha:PSs X a t)(hb:PSs X b u):PS X (.If c a b pos) (tIfS tc t u):=by
 intro e s σ H D I h;refine wpAny_If (thn (hc e s σ H _ I h) λd j zW=>?_);obtain⟨m,l,i⟩:=zW
 cases d with
 |true=>exact ha e j σ m D l i
 |false=>exact hb e j σ m D l i
noncomputable def tNever:TS:=λ_ _ _=>False
theorem cY:PS X st tNever:=λ_ _ _ _ _ _ h=>h.elim
end
noncomputable abbrev TG:=V->St->Hp->(St->Hp->Prop)->Prop
noncomputable abbrev TGs:=List V->St->Hp->(St->Hp->Prop)->Prop
noncomputable def PG(X:Cx)(target:Expr)(t:TG):Prop:=
 ∀(pins:List (Addr×Obj))(s:Shared)(σ:St)(H:Hp)(v:V)(u:Value)(Q:St->Hp->Prop),Inv X pins σ H s->RelV v u->t v σ H Q->
  wpAny (model X.prog X.w) X.A (assign target X.env u) (λ_ s'=>∃σ' H',Inv X pins σ' H' s'/\Q σ' H') X.xe s
noncomputable def PGs(X:Cx)(ts:List Expr)(t:TGs):Prop:=
 ∀(pins:List (Addr×Obj))(s:Shared)(σ:St)(H:Hp)(vs:List V)(us:List Value)(Q:St->Hp->Prop),Inv X pins σ H s->Vals vs us->t vs σ H Q->
  wpAny (model X.prog X.w) X.A (assignInOrder ((assignEach ts X.env).map (·.2)) us) (λ_ s'=>∃σ' H',Inv X pins σ' H' s'/\Q σ' H') X.xe s
noncomputable abbrev TSet:=V->V->V->Hp->(Hp->Prop)->Prop
noncomputable abbrev TIp:=V->V->Hp->VK->Prop
section
variable{X:Cx}{pos:Pos}
noncomputable def gName(i:Nat):TG:=λv σ H Q=>Q (σ.set i (some v)) H
theorem aR(hN:X.N.Nodup)(hi:X.N[i]?=some x:=by rfl)(hx:Loc X.env.scope x:=by first|exact Or.inl rfl|exact Or.inr rfl)(hf:X.fn x=true∨X.env.scope.names.lookup x=some .local:=by first|exact .inl rfl|exact .inr rfl|assumption):PG X (.Name x pos) (gName i):=by
 intro a s σ H v u Q I r h;exact wpAny_assign_Name (store_ok I hN hi hx r (λc b=>⟨_,H,b,h⟩) hf)
noncomputable def gNil:TGs:=λvs σ H Q=>vs=[]/\Q σ H
inductive IgCons(t:TG)(u:TGs)(vs:List V)(σ:St)(H:Hp)(Q:St->Hp->Prop):Prop
 |mk(v:_)(r:_)(h1:vs=v::r)(h2:t v σ H λσ' H'=>u r σ' H' Q):IgCons t u vs σ H Q
noncomputable def gCons(t:TG)(u:TGs):TGs:=λvs σ H Q=>IgCons t u vs σ H Q
theorem fS:PGs X [] gNil:=by
 intro a s σ H b c Q I r h;obtain⟨e,h⟩:=h;subst e
 cases r;exact assignInOrder_nil ⟨σ,H,I,h⟩
theorem cF(h1:PG X e t)(h2:PGs X es u)
  (hs:(assignEach (e::es) X.env).map (·.2)=assign e X.env::(assignEach es X.env).map (·.2):=by rfl):PGs X (e::es) (gCons t u):=by
 intro a s σ H o p Q I r h;obtain⟨v,q,b,h⟩:=h;subst b
 cases r with
 |cons r rr=>
  rw[hs];refine assignInOrder_cons (thn (h1 a s σ H _ _ _ I r h) λ_ i zW=>?_);obtain⟨c,m,l,j⟩:=zW;exact h2 a i c m _ _ Q l rr j
inductive IgTup(K:W.Frag)(n:Nat)(t:TGs)(v:V)(σ:St)(H:Hp)(Q:St->Hp->Prop):Prop
 |mk(a:_)(xs:_)(h1:v=.ref a)(h2:SqT K H a xs)(h3:xs.length=n)(h4:t xs σ H Q):IgTup K n t v σ H Q
noncomputable def gTup(K:W.Frag)(n:Nat)(t:TGs):TG:=λv σ H Q=>IgTup K n t v σ H Q
theorem iS(hc:X.calm=true)(h:PGs X es t)
  (hn:(assignEach es X.env).length=n:=by rfl)(hst:(assignEach es X.env).findIdx? (·.1)=none:=by rfl):PG X (.Tuple es k pos) (gTup X.K n t):=by
 intro c s σ H v u Q I r i;obtain⟨a,y,l,m,q,i⟩:=i;subst l
 cases r;obtain⟨w,j,z,B⟩:=I.tuple m;refine assign_Tuple_tuple (I.ok.hd hc) z (by simp[hn,<-q,j.length]) hst λx A=>?_;have p :=I.kept (t':=s.toks) λb o e=>A b o (mq (lP e)) e;exact h c _ σ H y _ Q p (by simpa using j) i
noncomputable def tAsg(te:TE)(g:TG):TS:=λD σ H=>te σ H λx H1=>g x σ H1 D.nx
theorem aH(hN:X.N.Nodup)(he:PE X e te)(hi:X.N[i]?=some x:=by rfl)(hx:Loc X.env.scope x:=by first|exact Or.inl rfl|exact Or.inr rfl)(hs:swapsWith e (some (.Name x pos')) pos.line X.env=pure false:=by rfl)(hf:X.fn x=true∨X.env.scope.names.lookup x=some .local:=by first|exact .inl rfl|exact .inr rfl|assumption):
  PS X (.Assign [.Name x pos'] e pos) (tAsg te (gName i)):=by
 intro a s σ H D I h;refine wpAny_Assign_Name (thn (he a s σ H _ I h) λv o zW=>?_) hs;obtain⟨y,m,c,l,b⟩:=zW;exact store_ok c hN hi hx l (λp j=>⟨_,m,j,b⟩) hf
inductive ItPar(i:Nat)(j:Nat)(D:Ends)(σ:St)(vs:List V)(H1:Hp):Prop
 |mk(v:_)(w:_)(h1:vs=[v,w])(h2:D.nx ((σ.set i (some v)).set j (some w)) H1):ItPar i j D σ vs H1
end
section
variable{X:Cx}{pos:Pos}
noncomputable def tWhile(c:TT)(tb:TS):TS:=λD σ H=>∃W:Nat->St->Hp->Prop,(∃m,W m σ H)/\∀m σ H,W m σ H->
 c σ H λb H1=>if b=true then∃N:St->Hp->Prop,(∀σ' H',N σ' H'->∃m',m'<m/\W m' σ' H')/\tb {D with nx:=N,ct:=N,bk:=D.nx} σ H1 else D.nx σ H1
theorem iE(hp:PassesOwn (model X.prog X.w) X.A X.env X.xe)(hc:PT X c tc)(hb:PSs X body tb):PS X (.While c body [] pos) (tWhile tc tb):=by
 intro a s σ H D I h;obtain⟨W,⟨G,K⟩,e⟩:=h;refine wpAny_While (codeAny_whileLoop (λn L=>yE2 λσ' H'=>Inv X a σ' H' L/\W n σ' H') ?_ G ⟨σ,H,I,K⟩);rintro n B⟨l,A,E,F⟩;refine wpAny_passesOwn hp (thn (hc a B l A _ E (e n l A F)) λb J zW=>?_);obtain⟨x,y,o⟩:=zW
 cases b with
 |true=>
  obtain⟨N,z,o⟩:=o;rw[if_pos rfl];refine wpAny_passesOwn hp (thn (hb a J l x _ y o) λf M m=>?_)
  cases f with
  |next=>
   obtain⟨i,j,p,q⟩:=m;obtain⟨t,r,w⟩:=z i j q;exact⟨t,r,i,j,p,w⟩
  |cont=>
   obtain⟨i,j,p,q⟩:=m;obtain⟨t,r,w⟩:=z i j q;exact⟨t,r,i,j,p,w⟩
  |brk=>exact m
  |ret v=>exact m
 |false=>
  rw[if_neg lX];exact wpAny_execs_nil ⟨l,x,y,o⟩
end
structure It where
 go:Nat->Hp->Prop
 yld:Nat->Hp->V->Hp->Prop
 stop:Nat->Hp->Prop
noncomputable def FpOk(X:Cx)(pins:List (Addr×Obj))(H:Hp)(b:Addr):Prop:=
 H b=none/\b≠X.env.locals/\b∉X.fs/\(b∈X.ex∨X.s₀.heap.objs.size<=b)/\(∀x c,X.env.cells.lookup x=some c->c≠b)/\∀p∈X.pn++pins,p.1≠b
theorem Inv.fpOk(I:Inv X pins σ H s)(hb:s.heap.objs.size<=b)(hn:H' b=none):FpOk X pins H' b:=by
 refine⟨hn,Nat.ne_of_gt (mr I.lt hb),I.nofs hb,.inr (lC I.sz hb),λx c e z=>?_,λp a z=>?_⟩
 ·obtain⟨v,q⟩:=I.cell x c e;exact absurd (mr q.lt (by rw[z];exact hb)) (nP _)
 ·exact absurd (mr (lP (I.pin p a).1) (by rw[z];exact hb)) (nP _)
structure Turn(P:Program)(w:World)(K:W.Frag)(tg:Expr)(J:It)(fp:List Addr)(it:Addr)(tn:Nat->Heap->Prop):Prop where
 mem:it∈fp
 obj:∀i h,tn i h->∀b∈fp,∃o,h.get? b=some o/\∀v,o.data≠.cell v
 keep:∀i h h',tn i h->(∀b∈fp,∀o,h.get? b=some o->h'.get? b=some o)->tn i h'
 item:∀(X:Cx),X.prog=P->X.w=w->X.K=K->X.calm=true->∀(i:Nat)(pins:List (Addr×Obj))(s:Shared)(σ:St)(H:Hp)(E:Value->Shared->Prop),Inv X pins σ H s->(∀b∈fp,FpOk X pins H b)->tn i s.heap->J.go i H->
  wpAny (model P w) X.A (pyNext (.ref it)) (λr s1=>∃u,r=some u/\
   wpAny (model P w) X.A (letOwnedTupleGo tg (.ref it) u) (λ_ s2=>∃x H',Inv X pins σ H' s2/\RelV x u/\J.yld i H x H'/\tn (i+1) s2.heap/\∀b∈fp,H' b=none) E s1) E s
 done:∀(X:Cx),X.prog=P->X.w=w->X.K=K->X.calm=true->∀(i:Nat)(pins:List (Addr×Obj))(s:Shared)(σ:St)(H:Hp)(E:Value->Shared->Prop),Inv X pins σ H s->(∀b∈fp,FpOk X pins H b)->tn i s.heap->J.stop i H->
  wpAny (model P w) X.A (pyNext (.ref it)) (λr s1=>r=none/\Inv X pins σ H s1) E s
 self:∀(A:Around)(i:Nat)(s:Shared)(Q:Value->Shared->Prop)(E:Value->Shared->Prop),tn i s.heap->Q (.ref it) s->wpAny (model P w) A (pyIter (.ref it)) Q E s
noncomputable abbrev TI:=St->Hp->(It->Hp->Prop)->Prop
noncomputable def PIE(X:Cx)(pins:List (Addr×Obj))(σ:St)(tg:Expr)(R:It->Hp->Prop)(itv:Value)(s2:Shared):Prop:=
 ∃(it:Addr)(fp:List Addr)(tn:Nat->Heap->Prop)(J:It)(H':Hp),itv=.ref it/\Inv X pins σ H' s2/\Turn X.prog X.w X.K tg J fp it tn/\tn 0 s2.heap/\(∀b∈fp,FpOk X pins H' b)/\R J H'
noncomputable def PI(X:Cx)(tg iter:Expr)(wi:TI):Prop:=
 ∀(pins:List (Addr×Obj))(s:Shared)(σ:St)(H:Hp)(R:It->Hp->Prop),Inv X pins σ H s->wi σ H R->
  wpAny (model X.prog X.w) X.A (eval iter X.env) (λv s1=>wpAny (model X.prog X.w) X.A (pyIter v) (PIE X pins σ tg R) X.xe s1) X.xe s
theorem go_of(ho:s.heap.get? it=some o)(hc:o.cls=.type n)(hd:o.data=.fields vs)
    (hn:["enumerate","zip","dict_itemiterator","dict_reverseitemiterator","odict_iterator","itertools.zip_longest","itertools.pairwise"].contains n=false)(hQ:Q () s):wpAny M A (letOwnedTupleGo tg (.ref it) u) Q E s:=by
  unfold letOwnedTupleGo
  cases tg<;>first
    |exact mW hQ
    |(cases u<;>first
        |exact mW hQ
        | (refine mx (wpAny_load ho ?_)
           rw[hc,hd];show wpAny M A (if(["enumerate","zip","dict_itemiterator","dict_reverseitemiterator","odict_iterator","itertools.zip_longest","itertools.pairwise"].contains n&&vs[0]?==some (rawInt _))=true then _ else _) Q E s;rw[if_neg (by intro h;rw[hn,Bool.false_and]at h;cases h)];exact mW hQ))
noncomputable def Itl(K:W.Frag)(a:Addr):It:=
 ⟨λi H=>∃xs x,SqL K H a xs/\xs[i]?=some x,λi H x H'=>H'=H/\∀xs,SqL K H a xs->xs[i]?=some x,λi H=>∃xs,SqL K H a xs/\xs.length<=i⟩
noncomputable def Itt(K:W.Frag)(a:Addr):It:=
 ⟨λi H=>∃xs x,SqT K H a xs/\xs[i]?=some x,λi H x H'=>H'=H/\∀xs,SqT K H a xs->xs[i]?=some x,λi H=>∃xs,SqT K H a xs/\xs.length<=i⟩
noncomputable def Itr(lo:Int)(n:Nat):It:=⟨λi _=>i<n,λi H x H'=>H'=H/\x=.int (lo+i),λi _=>n<=i⟩
theorem turn_list{K:W.Frag}(a it:Addr):Turn P w K tg (Itl K a) [it] it (λi h=>h.IsListIter it a i) where
 mem:=by simp
 obj:=λi h j b m=>by
  have e:b=it:=by simpa using m
  subst e;obtain⟨o,e,c,d⟩:=j;exact⟨o,e,λv z=>by rw[d]at z;cases z⟩
 keep:=λi h y j k=>j.at λo e=>k it (by simp) o e
 item:=by
  intro X L R N S i l s σ H E I t j F;subst L R N;obtain⟨xs,x,r,J⟩:=F;obtain⟨O,D,p,Z⟩:=I.list r;obtain⟨u,Y,ru⟩:=D.get J;obtain⟨Q,B,U,M,G,A⟩:=t it (by simp);refine wpAny_pyNext_list_item j p.isList (by simpa using Y) λy q sb=>?_;have T :=I.turned (t':=s.toks) (λb o m e=>(sb.2 b m).trans e) Q B M G A;obtain⟨o,e,c,d⟩:=id q;exact⟨u,rfl,go_of e c d (by decide) ⟨x,H,T,ru,⟨rfl,λys hy=>by rw[I.list_inj hy r];exact J⟩,q,λb m=>(t b m).1⟩⟩
 done:=by
  intro X L R N S i l s σ H E I t j F;subst L R N;obtain⟨xs,r,J⟩:=F;obtain⟨O,D,p,Z⟩:=I.list r;obtain⟨Q,B,U,M,G,A⟩:=t it (by simp);have hl:=D.length;exact wpAny_pyNext_list_end (I.ok.hd S) j p.isList (by simp;lia) λy eb=>⟨rfl,I.turned (λb o m e=>eb b o m e) Q B M G A⟩
 self:=λ_ _ _ _ _ j h=>wpAny_pyIter_listiter j h
theorem turn_tuple{K:W.Frag}(a it:Addr):Turn P w K tg (Itt K a) [it] it (λi h=>h.IsTupleIter it a i) where
 mem:=by simp
 obj:=λi h j b m=>by
  have e:b=it:=by simpa using m
  subst e;obtain⟨o,e,c,d⟩:=j;exact⟨o,e,λv z=>by rw[d]at z;cases z⟩
 keep:=λi h A j k=>j.at λo e=>k it (by simp) o e
 item:=by
  intro X M R O S i l s σ H E I y j G;subst M R O;obtain⟨xs,x,t,L⟩:=G;obtain⟨q,F,p,Z⟩:=I.tuple t;obtain⟨u,Y,ru⟩:=F.get L;obtain⟨Q,D,U,N,J,B⟩:=y it (by simp);refine wpAny_pyNext_tuple_item j (show s.heap.IsTuple a q.toArray from p) (by simpa using Y) λA r sb=>?_;have T :=I.turned (t':=s.toks) (λb o m e=>(sb.2 b m).trans e) Q D N J B;obtain⟨o,e,c,d⟩:=id r;exact⟨u,rfl,go_of e c d (by decide) ⟨x,H,T,ru,⟨rfl,λys hy=>by rw[I.tuple_inj hy t];exact L⟩,r,λb m=>(y b m).1⟩⟩
 done:=by
  intro X M R O S i l s σ H E I y j G;subst M R O;obtain⟨xs,t,L⟩:=G;obtain⟨q,F,p,Z⟩:=I.tuple t;obtain⟨Q,D,U,N,J,B⟩:=y it (by simp);have hl:=F.length;exact wpAny_pyNext_tuple_end (I.ok.hd S) j (show s.heap.IsTuple a q.toArray from p) (by simp;lia) λA eb=>⟨rfl,I.turned (λb o m e=>eb b o m e) Q D N J B⟩
 self:=λ_ _ _ _ _ j h=>wpAny_pyIter_tupleiter j h
theorem turn_range{K:W.Frag}(it:Addr)(lo:Int)(n:Nat):Turn P w K tg (Itr lo n) [it] it (λi h=>IsRangeIter h it (lo+(i:Nat)*1) ((n:Int)-(i:Nat)) 1)where
 mem:=by simp
 obj:=λi h a b j=>by
  have e:b=it:=by simpa using j
  subst e
  exact⟨_,a,λv z=>by
   have S:Data.fields _=Data.cell v:=z
   cases S⟩
 keep:=λi h p a k=>k it (by simp) _ a
 item:=by
  intro X D J F x i c s σ H E I m a y;subst D J F;obtain⟨G,r,N,B,A,q⟩:=m it (by simp);have W:=Walks.range (prog:=X.prog) (w:=X.w) (I.ok.hd x) it lo 1 n;refine W.item i s _ _ y a λv p L O l R=>?_;obtain⟨t,rfl⟩:=O;have M:Inv X c σ H {s with heap:=p,toks:=L}:=I.turned (λb o j e=>R b o (by simpa using j) e) G r B A q;refine⟨_,rfl,go_of l rfl rfl (by decide) ⟨.int (lo+i),H,M,⟨t,?_⟩,⟨rfl,rfl⟩,l,λb j=>(m b j).1⟩⟩;rw[Int.mul_one]
 done:=by
  intro X D J F x i c s σ H E I m a y;subst D J F;obtain⟨G,r,N,B,A,q⟩:=m it (by simp);exact wpAny_pyNext_range_end (I.ok.hd x) a (by have:n<=i:=y;lia) λp Q=>⟨rfl,I.turned (λb o j e=>Q b o j e) G r B A q⟩
 self:=λ_ _ _ _ _ a h=>wpAny_pyIter_rangeiter a h
section
variable{X:Cx}{tg:Expr}
inductive IiList(K:W.Frag)(R:It->Hp->Prop)(x:V)(H1:Hp):Prop
 |mk(a:_)(h1:x=.ref a)(h2:(∃xs,SqL K H1 a xs))(h3:R (Itl K a) H1):IiList K R x H1
noncomputable def iList(K:W.Frag)(tl:TE):TI:=λσ H R=>tl σ H λx H1=>IiList K R x H1
inductive IiTup(K:W.Frag)(R:It->Hp->Prop)(x:V)(H1:Hp):Prop
 |mk(a:_)(h1:x=.ref a)(h2:(∃xs,SqT K H1 a xs))(h3:R (Itt K a) H1):IiTup K R x H1
noncomputable def iTup(K:W.Frag)(tl:TE):TI:=λσ H R=>tl σ H λx H1=>IiTup K R x H1
theorem bZ(hl:PE X l tl):PI X tg l (iList X.K tl):=by
 intro c s σ H R I h;refine thn (hl c s σ H _ I h) λv i zW=>?_;obtain⟨x,z,j,y,r⟩:=zW;obtain⟨a,e,⟨B,m⟩,q⟩:=r;subst e
 cases y;obtain⟨t,A,p,D⟩:=j.list m;refine wpAny_pyIter_list p.isList ?_;refine⟨i.heap.objs.size,[i.heap.objs.size],_,_,z,rfl,j.kept λb o e=>lK _ e,turn_list a _,⟨_,me _ rfl,rfl,rfl⟩,λb w=>?_,q⟩;have e:b=i.heap.objs.size:=by simpa using w
 subst e;exact j.fpOk (k5 _) (j.hok.fresh (k5 _))
theorem pi_tup(hl:PE X l tl):PI X tg l (iTup X.K tl):=by
 intro c s σ H R I h;refine thn (hl c s σ H _ I h) λv i zW=>?_;obtain⟨x,z,j,y,t⟩:=zW;obtain⟨a,e,⟨B,r⟩,q⟩:=t;subst e
 cases y;obtain⟨m,A,p,D⟩:=j.tuple r;refine wpAny_pyIter_tuple (show i.heap.IsTuple a m.toArray from p) ?_;refine⟨i.heap.objs.size,[i.heap.objs.size],_,_,z,rfl,j.kept λb o e=>lK _ e,turn_tuple a _,⟨_,me _ rfl,rfl,rfl⟩,λb w=>?_,q⟩;have e:b=i.heap.objs.size:=by simpa using w
 subst e;exact j.fpOk (k5 _) (j.hok.fresh (k5 _))
theorem range_it{lo hi:Int}(I:Inv X pins σ H s)(h1:-(2^62)<=lo)(h2:lo<2^62)(h3:-(2^62)<=hi)(h4:hi<2^62)
  (q:R (Itr lo (hi-lo).toNat) H):wpAny (model X.prog X.w) X.A (pyIter (.ref s.heap.objs.size)) (PIE X pins σ tg R) E {s with heap:=s.heap.push {cls:=.type "range",data:=.fields #[.int lo t,.int hi u,.int 1 v]},toks:=tk}:=by
 refine wpAny_pyIter_range (IsRange.new ..) (small_one h1 h2 h3 h4) ?_;have a:Inv X pins σ H {s with heap:=s.heap.push {cls:=.type "range",data:=.fields #[.int lo t,.int hi u,.int 1 v]},toks:=tk}:=I.kept λb o e=>lK _ e
 refine⟨(s.heap.push {cls:=.type "range",data:=.fields #[.int lo t,.int hi u,.int 1 v]}).objs.size,[(s.heap.push {cls:=.type "range",data:=.fields #[.int lo t,.int hi u,.int 1 v]}).objs.size],_,_,H,rfl,
  a.kept λb o e=>lK _ e,turn_range _ lo (hi-lo).toNat,?_,λb h=>?_,q⟩
 ·have c:lo+((0:Nat):Int)*1=lo:=by simp
  have i:(((hi-lo).toNat:Nat):Int)-((0:Nat):Int)=Builtin.Range.rangeSize lo hi 1:=by rw[rangeSize_one];split<;>lia
  show IsRangeIter _ _ (lo+((0:Nat):Int)*1) ((((hi-lo).toNat:Nat):Int)-((0:Nat):Int)) 1;rw[c,i];exact me _ rfl
 ·have e:b=(s.heap.push {cls:=.type "range",data:=.fields #[.int lo t,.int hi u,.int 1 v]}).objs.size:=by simpa using h
  subst e;exact a.fpOk (k5 _) (a.hok.fresh (k5 _))
noncomputable def iRng1(ta:TA):TI:=λσ H R=>ta σ H λvs H1=>∃j:Int,vs=[.int j]/\-(2^62)<=j/\j<2^62/\R (Itr 0 j.toNat) H1
theorem dM(hg:Gl X "range")(hm:X.mg "range"=none)(ha:PA X [a] ta)(hs:starEach [a] X.env=[(false,eval a X.env)]:=by rfl):PI X tg (.Call (.Name "range" p) [a] [] pos) (iRng1 ta):=by
 intro b s σ H R I h;refine Call_ (ld_blt I hg hm boot_range (PyProof.Rows.callWith_type1 (thn (ha pos b s σ H _ I h) λw x zW=>?_) hs rfl));obtain⟨o,y,i,m,c⟩:=zW;obtain⟨j,e,c,l,q⟩:=c;subst e
 cases m with
 |cons r rr=>
  cases rr;obtain⟨t,rfl⟩:=r;exact call_range_1 (range_it i (by lia) (by lia) c l (by simpa using q))
noncomputable def tFor(wi:TI)(g:TG)(tb:TS):TS:=λD σ H=>wi σ H λJ H1=>∃W:Nat->Nat->St->Hp->Prop,(∃m,W 0 m σ H1)/\∀i m σ H,W i m σ H->
 (J.stop i H/\D.nx σ H)∨(J.go i H/\∃N:St->Hp->Prop,(∀σ' H',N σ' H'->∃m',m'<m/\W (i+1) m' σ' H')/\∀x H',J.yld i H x H'->g x σ H' λσ2 H2=>tb {D with nx:=N,ct:=N,bk:=D.nx} σ2 H2)
noncomputable def pinsAt(fp:List Addr)(h:Heap):List (Addr×Obj):=fp.filterMap λb=>(h.get? b).map λo=>(b,o)
theorem fP(hb:b∈fp)(e:h.get? b=some o):(b,o)∈pinsAt fp h:=List.mem_filterMap.mpr ⟨b,hb,by rw[e];rfl⟩
theorem of_pinsAt(hp:p∈pinsAt fp h):p.1∈fp/\h.get? p.1=some p.2:=by
 obtain⟨b,c,e⟩:=List.mem_filterMap.mp hp
 cases q:h.get? b with
 |none=>rw[q]at e;cases e
 |some o=>
  rw[q]at e;have a :=lY e;subst a;exact⟨c,q⟩
theorem Inv.pinned(I:Inv X pins σ H s)(hf:∀b∈fp,FpOk X pins H b)(ho:∀b∈fp,∃o,s.heap.get? b=some o/\∀v,o.data≠.cell v):Inv X (pins++pinsAt fp s.heap) σ H s:=
 I.pins_of λp i=>(lB.mp i).elim (λz=>I.pin p (lS _ z)) λz=>by
  obtain⟨c,e⟩:=of_pinsAt z;obtain⟨l,j,h,_⟩:=hf p.1 c;obtain⟨o,a,d⟩:=ho p.1 c;rw[e]at a;cases a;exact⟨e,l,j,h,d⟩
theorem Inv.unpinned(I:Inv X (pins++pl) σ H s):Inv X pins σ H s:=I.pins_of λp a=>I.pin p (lS _ (lJ _ a))
theorem bO(hp:PassesOwn (model X.prog X.w) X.A X.env X.xe)(hc:X.calm=true)(hi:PI X tg iter wi)(hg:PG X tg g)(hb:PSs X body tb)
  (hs:∀x,foldedSetIterable iter X.env x=pure x:=by intro _;rfl):PS X (.For tg iter body [] pos) (tFor wi g tb):=by
 intro a s σ H D I h;refine wpAny_For (thn (hi a s σ H _ I h) λv s1 h1=>thn h1 λaa s2 h2=>?_) hs;obtain⟨it,y,Z,J,H2,e,I2,T,L,Y,W,⟨m0,w0⟩,B⟩:=h2;subst e;have c:∀{H':Hp},(∀b∈y,H' b=none)->∀b∈y,FpOk X a H' b:=λhn b hb=>⟨hn b hb,(Y b hb).2⟩;refine codeAny_forLoop_any (λn U=>yE3 λi σ' H'=>Inv X a σ' H' U×' Z i U.heap×'(∀b∈y,H' b=none)×' W i n σ' H') ?_ m0 ⟨0,σ,H2,I2,L,λb hb=>(Y b hb).1,w0⟩;rintro n R⟨i,A,G,I3,F,E,w3⟩;rcases B i n A G w3 with⟨stop,qn⟩|⟨go,N,hN,step⟩
 ·refine wpAny_passesOwn hp (thn (T.done X rfl rfl rfl hc i a R A G X.xe I3 (c E) F stop) λr s4⟨P,I4⟩=>?_);subst P;exact wpAny_execs_nil ⟨A,G,I4,qn⟩
 ·refine wpAny_passesOwn hp (thn (T.item X rfl rfl rfl hc i a R A G X.xe I3 (c E) F go) λr s4⟨u,P,h4⟩=>?_);subst P;refine wpAny_passesOwn hp (thn h4 λ_ S zW=>?_);obtain⟨x,Q,I5,r5,y5,w,O⟩:=zW;have K:=I5.pinned (c O) (T.obj _ _ w);refine wpAny_passesOwn hp (thn (hg _ S A Q x u _ K r5 (step x Q y5)) λ_ s6 zW=>?_);obtain⟨σ6,H6,I6,q6⟩:=zW;refine wpAny_passesOwn hp (thn (hb _ s6 σ6 H6 _ I6 q6) λf M t=>?_)
  have l:∀{q:St}{p:Hp},Inv X (a++pinsAt y S.heap) q p M->N q p->∃m,m<n/\yE3 λi σ' H'=>Inv X a σ' H' M×' Z i M.heap×'(∀b∈y,H' b=none)×' W i m σ' H':=λ{q p}j z=>by
   obtain⟨m',hm,w7⟩:=hN q p z;refine⟨m',hm,i+1,q,p,j.unpinned,T.keep _ _ _ w λb hb o e=>(j.pin (b,o) (lS _ (lS _ (fP hb e)))).1,λb hb=>?_,w7⟩;obtain⟨o,e,d⟩:=T.obj _ _ w b hb;exact(j.pin (b,o) (lS _ (lS _ (fP hb e)))).2.1
  cases f with
  |next=>obtain⟨q,p,j,z⟩:=t;exact l j z
  |cont=>obtain⟨q,p,j,z⟩:=t;exact l j z
  |brk=>obtain⟨q,p,j,t⟩:=t;exact⟨q,p,j.unpinned,t⟩
  |ret v=>obtain⟨x7,q,p,j,r7,t⟩:=t;exact⟨x7,q,p,j.unpinned,r7,t⟩
end
theorem cG{K:W.Frag}{g:TG}{tb:TS}{D:Ends}(Pv:Nat->St->Hp->Prop)(h0:Pv 0 σ H)(hl:∀i σ H,i<=xs.length->Pv i σ H->SqL K H a xs)
  (hs:∀i x σ H,xs[i]?=some x->Pv i σ H->g x σ H λσ2 H2=>tb {D with nx:=Pv (i+1),ct:=Pv (i+1),bk:=D.nx} σ2 H2)(hd:∀σ H,Pv xs.length σ H->D.nx σ H):
  ∃W:Nat->Nat->St->Hp->Prop,(∃m,W 0 m σ H)/\∀i m σ H,W i m σ H->
   ((Itl K a).stop i H/\D.nx σ H)∨((Itl K a).go i H/\∃N:St->Hp->Prop,(∀σ' H',N σ' H'->∃m',m'<m/\W (i+1) m' σ' H')/\∀x H',(Itl K a).yld i H x H'->g x σ H' λσ2 H2=>tb {D with nx:=N,ct:=N,bk:=D.nx} σ2 H2):=by
 refine⟨λi m σ H=>m=xs.length-i×' i<=xs.length×' Pv i σ H,⟨xs.length,by simp,lD _,h0⟩,?_⟩;rintro i m σ H⟨rfl,c,p⟩;have q:=hl i σ H c p;by_cases hlt:i<xs.length
 ·refine .inr ⟨⟨xs,xs[i],q,by simp[hlt]⟩,Pv (i+1),λσ' H' b=>⟨xs.length-(i+1),by lia,rfl,hlt,b⟩,λx H' y=>?_⟩;obtain⟨e,y⟩:=y;subst e;exact hs i x σ _ (y xs q) p
 ·have e:i=xs.length:=by lia
  subst e;exact .inl ⟨⟨xs,q,k5 _⟩,hd σ H p⟩
theorem for_tup{K:W.Frag}{g:TG}{tb:TS}{D:Ends}(Pv:Nat->St->Hp->Prop)(h0:Pv 0 σ H)(hl:∀i σ H,i<=xs.length->Pv i σ H->SqT K H a xs)
  (hs:∀i x σ H,xs[i]?=some x->Pv i σ H->g x σ H λσ2 H2=>tb {D with nx:=Pv (i+1),ct:=Pv (i+1),bk:=D.nx} σ2 H2)(hd:∀σ H,Pv xs.length σ H->D.nx σ H):
  ∃W:Nat->Nat->St->Hp->Prop,(∃m,W 0 m σ H)/\∀i m σ H,W i m σ H->
   ((Itt K a).stop i H/\D.nx σ H)∨((Itt K a).go i H/\∃N:St->Hp->Prop,(∀σ' H',N σ' H'->∃m',m'<m/\W (i+1) m' σ' H')/\∀x H',(Itt K a).yld i H x H'->g x σ H' λσ2 H2=>tb {D with nx:=N,ct:=N,bk:=D.nx} σ2 H2):=by
 refine⟨λi m σ H=>m=xs.length-i×' i<=xs.length×' Pv i σ H,⟨xs.length,by simp,lD _,h0⟩,?_⟩;rintro i m σ H⟨rfl,c,p⟩;have q:=hl i σ H c p;by_cases hlt:i<xs.length
 ·refine .inr ⟨⟨xs,xs[i],q,by simp[hlt]⟩,Pv (i+1),λσ' H' b=>⟨xs.length-(i+1),by lia,rfl,hlt,b⟩,λx H' y=>?_⟩;obtain⟨e,y⟩:=y;subst e;exact hs i x σ _ (y xs q) p
 ·have e:i=xs.length:=by lia
  subst e;exact .inl ⟨⟨xs,q,k5 _⟩,hd σ H p⟩
theorem iG{lo:Int}{g:TG}{tb:TS}{D:Ends}(Pv:Nat->St->Hp->Prop)(h0:Pv 0 σ H)
  (hs:∀i σ H,i<n->Pv i σ H->g (.int (lo+i)) σ H λσ2 H2=>tb {D with nx:=Pv (i+1),ct:=Pv (i+1),bk:=D.nx} σ2 H2)(hd:∀σ H,Pv n σ H->D.nx σ H):
  ∃W:Nat->Nat->St->Hp->Prop,(∃m,W 0 m σ H)/\∀i m σ H,W i m σ H->
   ((Itr lo n).stop i H/\D.nx σ H)∨((Itr lo n).go i H/\∃N:St->Hp->Prop,(∀σ' H',N σ' H'->∃m',m'<m/\W (i+1) m' σ' H')/\∀x H',(Itr lo n).yld i H x H'->g x σ H' λσ2 H2=>tb {D with nx:=N,ct:=N,bk:=D.nx} σ2 H2):=by
 refine⟨λi m σ H=>m=n-i×' i<=n×' Pv i σ H,⟨n,by simp,lD _,h0⟩,?_⟩;rintro i m σ H⟨rfl,b,p⟩;by_cases hlt:i<n
 ·refine .inr ⟨hlt,Pv (i+1),λσ' H' a=>⟨n-(i+1),by lia,rfl,hlt,a⟩,λx H' y=>?_⟩;obtain⟨e,y⟩:=y;subst e y;exact hs i σ _ hlt p
 ·have e:i=n:=by lia
  subst e;exact .inl ⟨k5 _,hd σ H p⟩
theorem while_by(Pv:St->Hp->Prop)(μ:St->Hp->Nat)(h0:Pv σ H)
  (hs:∀σ H,Pv σ H->c σ H λb H1=>if b=true then tb {D with nx:=λσ' H'=>Pv σ' H'/\μ σ' H'<μ σ H,ct:=λσ' H'=>Pv σ' H'/\μ σ' H'<μ σ H,bk:=D.nx} σ H1 else D.nx σ H1)
  (mono:∀σ H Q Q',(∀b H1,Q b H1->Q' b H1)->c σ H Q->c σ H Q'):tWhile c tb D σ H:=by
 refine⟨λm σ H=>m=μ σ H/\Pv σ H,⟨_,rfl,h0⟩,?_⟩;rintro m σ H⟨rfl,p⟩;refine mono σ H _ _ (λb H1 q=>?_) (hs σ H p)
 cases b with
 |true=>exact⟨_,(by rintro σ' H'⟨a,l⟩;exact⟨_,l,rfl,a⟩),q⟩
 |false=>exact q
noncomputable abbrev R2:=V->V->Hp->VK->Prop
noncomputable def OpR(X:Cx)(f:Value->Value->Sem Value)(r:R2):Prop:=
 ∀(pins:List (Addr×Obj))(s:Shared)(σ:St)(H:Hp)(x y:V)(v u:Value)(Q:VK),Inv X pins σ H s->RelV x v->RelV y u->r x y H Q->
  wpAny (model X.prog X.w) X.A (f v u) (EP X pins σ Q) X.xe s
noncomputable def UnR(X:Cx)(f:Value->Sem Value)(r:V->Hp->VK->Prop):Prop:=
 ∀(pins:List (Addr×Obj))(s:Shared)(σ:St)(H:Hp)(x:V)(v:Value)(Q:VK),Inv X pins σ H s->RelV x v->r x H Q->
  wpAny (model X.prog X.w) X.A (f v) (EP X pins σ Q) X.xe s
noncomputable def ie(X:Cx)(f:Value)(r:List V->Hp->VK->Prop):Prop:=
 ∀(pins:List (Addr×Obj))(s:Shared)(σ:St)(H:Hp)(xs:List V)(us:List Value)(Q:VK),Inv X pins σ H s->Vals xs us->r xs H Q->
  wpAny (model X.prog X.w) X.A (call f us) (EP X pins σ Q) X.xe s
noncomputable def tOp(r:R2)(ta tb:TE):TE:=λσ H Q=>ta σ H λx H1=>tb σ H1 λy H2=>r x y H2 Q
noncomputable def tUn(r:V->Hp->VK->Prop)(ta:TE):TE:=λσ H Q=>ta σ H λx H1=>r x H1 Q
noncomputable def rI(C:Int->Int->Prop)(g:Int->Int->V):R2:=λx y H Q=>∃i j,x=.int i/\y=.int j/\C i j/\Q (g i j) H
inductive IrI0(g:Int->Int->V)(x:V)(y:V)(H:Hp)(Q:VK):Prop
 |mk(i:_)(j:_)(h1:x=.int i)(h2:y=.int j)(h3:Q (g i j) H):IrI0 g x y H Q
noncomputable def rI0(g:Int->Int->V):R2:=λx y H Q=>IrI0 g x y H Q
inductive IrU(g:Int->V)(x:V)(H:Hp)(Q:VK):Prop
 |mk(i:_)(h1:x=.int i)(h2:Q (g i) H):IrU g x H Q
noncomputable def rU(g:Int->V):V->Hp->VK->Prop:=λx H Q=>IrU g x H Q
section
variable{X:Cx}{a b c:Expr}{ta tb tc:TE}{pos:Pos}
theorem binT(ha:PE X a ta)(hb:PE X b tb){R:V->V->Hp->Prop}(I:Inv X pins σ H s)
  (h:ta σ H λx H1=>tb σ H1 λy H2=>R x y H2){f:Value->Value->Sem Value}
  (hf:∀v u s2 x y H2,Inv X pins σ H2 s2->RelV x v->RelV y u->R x y H2->wpAny (model X.prog X.w) X.A (f v u) Q X.xe s2):
  wpAny (model X.prog X.w) X.A (eval a X.env) (λv s₁=>wpAny (model X.prog X.w) X.A (eval b X.env) (λu s₂=>wpAny (model X.prog X.w) X.A (f v u) Q X.xe s₂) X.xe s₁) X.xe s:=by
 refine thn (ha pins s σ H _ I h) λv i zW=>?_;obtain⟨x,H1,l,o,e⟩:=zW;refine thn (hb pins i σ H1 _ l e) λu s2 zW=>?_;obtain⟨y,H2,j,c,m⟩:=zW;exact hf v u s2 x y H2 j o c m
theorem aM(ho:OpR X (binaryOp op) r)(ha:PE X a ta)(hb:PE X b tb):PE X (.BinOp a op b pos) (tOp r ta tb):=by
 intro c s σ H Q I h;exact wpAny_BinOp (binT ha hb I h λv u l x y e i m j q=>ho c l σ e x y v u Q i m j q)
theorem jm(ho:UnR X (unaryOp op) r)(ha:PE X a ta):PE X (.UnaryOp op a pos) (tUn r ta):=by
 intro b s σ H Q I h;exact UnaryOp_ (thn (ha b s σ H _ I h) (by rintro v c⟨x,l,i,j,e⟩;exact ho b c σ l x v Q i j e))
theorem opI{g:Int->Int->Int}
  (rule:∀(i j:Int)(t u:Tok)(s:Shared)(Q:Value->Shared->Prop)(E:Value->Shared->Prop),C i j->Q (.int (g i j) s.toks) {s with toks:=s.toks+1}->wpAny (model X.prog X.w) X.A (f (.int i t) (.int j u)) Q E s):
  OpR X f (rI C λi j=>.int (g i j)):=by
 intro a s σ H x y v u Q I e c h;obtain⟨i,j,rfl,rfl,b,q⟩:=h;obtain⟨t,rfl⟩:=e;obtain⟨l,rfl⟩:=c;exact rule i j t l s _ _ b ⟨.int (g i j),H,I.tok _,⟨_,rfl⟩,q⟩
theorem opI0{g:Int->Int->Int}
  (rule:∀(i j:Int)(t u:Tok)(s:Shared)(Q:Value->Shared->Prop)(E:Value->Shared->Prop),Q (.int (g i j) s.toks) {s with toks:=s.toks+1}->wpAny (model X.prog X.w) X.A (f (.int i t) (.int j u)) Q E s):
  OpR X f (rI0 λi j=>.int (g i j)):=by
 intro a s σ H x y v u Q I c b h;obtain⟨i,j,rfl,rfl,q⟩:=h;obtain⟨t,rfl⟩:=c;obtain⟨e,rfl⟩:=b;exact rule i j t e s _ _ ⟨.int (g i j),H,I.tok _,⟨_,rfl⟩,q⟩
theorem opB0{g:Int->Int->Bool}
  (rule:∀(i j:Int)(t u:Tok)(s:Shared)(Q:Value->Shared->Prop)(E:Value->Shared->Prop),Q (.bool (g i j)) s->wpAny (model X.prog X.w) X.A (f (.int i t) (.int j u)) Q E s):
  OpR X f (rI0 λi j=>.bl (g i j)):=by
 intro a s σ H x y v u Q I c b h;obtain⟨i,j,rfl,rfl,q⟩:=h;obtain⟨t,rfl⟩:=c;obtain⟨e,rfl⟩:=b;exact rule i j t e s _ _ ⟨.bl (g i j),H,I,rfl,q⟩
noncomputable def CDiv(i j:Int):Prop:=0<j/\j<1073741824
noncomputable def CPow(i j:Int):Prop:=0<=j/\j<=1000000/\i.natAbs<2^64
noncomputable def CMul(i j:Int):Prop:=(-(2^64)<i/\i<2^64)∨(-(2^64)<j/\j<2^64)
theorem CMul.ok(h:CMul i j):IntMulOk i j:=by
 rcases h with⟨h1,h2⟩|⟨h1,h2⟩
 ·exact .of_left (intBits_le_64 h1 h2)
 ·exact .of_right (intBits_le_64 h1 h2)
theorem bQ:OpR X (binaryOp .Add) (rI0 λi j=>.int (i+j)):=opI0 λ_ _ _ _ _ _ _ q=>add_int q
theorem eC:OpR X (binaryOp .Sub) (rI0 λi j=>.int (i-j)):=opI0 λ_ _ _ _ _ _ _ q=>sub_int q
theorem op_mul:OpR X (binaryOp .Mult) (rI CMul λi j=>.int (i*j)):=opI λ_ _ _ _ _ _ _ a q=>mul_int q a.ok
theorem cP:OpR X (binaryOp .FloorDiv) (rI CDiv λi j=>.int (i/j)):=opI λi j _ _ _ _ _ a q=>by
 have b :=a.1;have c :=a.2;exact floordiv_int (by omega) (by rw[Int.fdiv_eq_ediv_of_nonneg i (by omega)];exact q) (.inl (PyProof.noPylong_small (by omega)))
theorem bE:OpR X (binaryOp .Mod) (rI (λ_ j=>0<j) λi j=>.int (i%j)):=opI λi j _ _ _ _ _ a q=>by
 have b :=a;exact mod_int' (by lia) (by rw[Int.fmod_eq_emod_of_nonneg i (by lia)];exact q)
theorem unI{g:Int->Int}
  (rule:∀(i:Int)(t:Tok)(s:Shared)(Q:Value->Shared->Prop)(E:Value->Shared->Prop),Q (.int (g i) s.toks) {s with toks:=s.toks+1}->wpAny (model X.prog X.w) X.A (f (.int i t)) Q E s):
  UnR X f (rU λi=>.int (g i)):=by
 intro a s σ H x v Q I b h;obtain⟨i,rfl,q⟩:=h;obtain⟨t,rfl⟩:=b;exact rule i t s _ _ ⟨.int (g i),H,I.tok _,⟨_,rfl⟩,q⟩
theorem gM:UnR X (unaryOp .USub) (rU λi=>.int (-i)):=unI λ_ _ _ _ _ q=>neg_int q
end
noncomputable def scal:V->V->Bool
 |.non,.non=>true|.non,.int _=>true|.int _,.non=>true|.non,.bl _=>true|.bl _,.non=>true|.non,.str _=>true|.str _,.non=>true
 |.int _,.int _=>true|.bl _,.bl _=>true|.str _,.str _=>true|.byt _,.byt _=>true
 |.int _,.str _=>true|.str _,.int _=>true|.bl _,.str _=>true|.str _,.bl _=>true
 |_,_=>false
noncomputable def rEq:R2:=λx y H Q=>scal x y=true/\Q (.bl (decide (x=y))) H
noncomputable def rNe:R2:=λx y H Q=>scal x y=true/\Q (.bl (!decide (x=y))) H
theorem dec_int:decide (V.int i=V.int j)=(i==j):=by
 rw[Bool.eq_iff_iff];simp
theorem dec_bl:decide (V.bl i=V.bl j)=(i==j):=by
 rw[Bool.eq_iff_iff];simp
theorem dec_str:decide (V.str i=V.str j)=(i==j):=by
 rw[Bool.eq_iff_iff];simp
theorem dec_byt:decide (V.byt i=V.byt j)=(i.toList==j.toList):=by
 rw[Bool.eq_iff_iff]
 cases i
 cases j;simp
section
variable{X:Cx}{a b c:Expr}{ta tb tc:TE}{pos:Pos}
theorem cD(I:Inv X pins σ H s)(q:Q (.bl k) H)(e:k=k'):EP X pins σ Q (.bool k') s:=by
 subst e;exact⟨.bl k,H,I,rfl,q⟩
theorem e7:OpR X (compareOp .Eq) rEq:=by
 intro l s σ H x y v u Q I e a h;obtain⟨c,q⟩:=h
 cases x with
 |non=>
  cases e
  cases y with
  |non=>cases a;exact PySem.EqNone.eq_none_none (cD I q (by simp))
  |bl j=>cases a;exact PySem.EqNone.eq_none_bool (cD I q (by simp))
  |int j=>obtain⟨b,rfl⟩:=a;exact PySem.EqNone.eq_none_int (cD I q (by simp))
  |str j=>obtain⟨b,rfl⟩:=a;exact PySem.EqNone.eq_none_str (cD I q (by simp))
  |_=>exact absurd (show false=true from c) lX
 |bl i=>
  cases e
  cases y with
  |non=>cases a;exact PySem.EqNone.eq_bool_none (cD I q (by simp))
  |bl j=>cases a;exact eq_bool (cD I q dec_bl)
  |str j=>obtain⟨b,rfl⟩:=a;exact PySem.EqMixed.eq_bool_str (cD I q (by simp))
  |_=>exact absurd (show false=true from c) lX
 |int i=>
  obtain⟨t,rfl⟩:=e
  cases y with
  |non=>cases a;exact PySem.EqNone.eq_int_none (cD I q (by simp))
  |int j=>obtain⟨b,rfl⟩:=a;exact eq_int (cD I q dec_int)
  |str j=>obtain⟨b,rfl⟩:=a;exact PySem.EqMixed.eq_int_str (cD I q (by simp))
  |_=>exact absurd (show false=true from c) lX
 |str i=>
  obtain⟨t,rfl⟩:=e
  cases y with
  |non=>cases a;exact PySem.EqNone.eq_str_none (cD I q (by simp))
  |bl j=>cases a;exact PySem.EqMixed.eq_str_bool (cD I q (by simp))
  |int j=>obtain⟨b,rfl⟩:=a;exact PySem.EqMixed.eq_str_int (cD I q (by simp))
  |str j=>obtain⟨b,rfl⟩:=a;exact eq_str (cD I q dec_str)
  |_=>exact absurd (show false=true from c) lX
 |byt i=>
  obtain⟨t,rfl⟩:=e
  cases y with
  |byt j=>obtain⟨b,rfl⟩:=a;exact PySem.W.eq_bytes (cD I q dec_byt)
  |_=>exact absurd (show false=true from c) lX
 |_=>cases y<;>exact absurd (show false=true from c) lX
theorem op_ne:OpR X (compareOp .NotEq) rNe:=by
 intro l s σ H x y v u Q I e a h;obtain⟨c,q⟩:=h
 cases x with
 |non=>
  cases e
  cases y with
  |non=>cases a;exact PySem.EqNone.ne_none_none (cD I q (by simp))
  |bl j=>cases a;exact PySem.EqNone.ne_none_bool (cD I q (by simp))
  |int j=>obtain⟨b,rfl⟩:=a;exact PySem.EqNone.ne_none_int (cD I q (by simp))
  |str j=>obtain⟨b,rfl⟩:=a;exact PySem.EqNone.ne_none_str (cD I q (by simp))
  |_=>exact absurd (show false=true from c) lX
 |bl i=>
  cases e
  cases y with
  |non=>cases a;exact PySem.EqNone.ne_bool_none (cD I q (by simp))
  |bl j=>cases a;exact ne_bool (cD I q (mj not dec_bl))
  |str j=>obtain⟨b,rfl⟩:=a;exact PySem.EqMixed.ne_bool_str (cD I q (by simp))
  |_=>exact absurd (show false=true from c) lX
 |int i=>
  obtain⟨t,rfl⟩:=e
  cases y with
  |non=>cases a;exact PySem.EqNone.ne_int_none (cD I q (by simp))
  |int j=>obtain⟨b,rfl⟩:=a;exact ne_int (cD I q (mj not dec_int))
  |str j=>obtain⟨b,rfl⟩:=a;exact PySem.EqMixed.ne_int_str (cD I q (by simp))
  |_=>exact absurd (show false=true from c) lX
 |str i=>
  obtain⟨t,rfl⟩:=e
  cases y with
  |non=>cases a;exact PySem.EqNone.ne_str_none (cD I q (by simp))
  |bl j=>cases a;exact PySem.EqMixed.ne_str_bool (cD I q (by simp))
  |int j=>obtain⟨b,rfl⟩:=a;exact PySem.EqMixed.ne_str_int (cD I q (by simp))
  |str j=>obtain⟨b,rfl⟩:=a;exact ne_str (cD I q (mj not dec_str))
  |_=>exact absurd (show false=true from c) lX
 |byt i=>
  obtain⟨t,rfl⟩:=e
  cases y with
  |byt j=>obtain⟨b,rfl⟩:=a;exact PySem.W.ne_bytes (cD I q (mj not dec_byt))
  |_=>exact absurd (show false=true from c) lX
 |_=>cases y<;>exact absurd (show false=true from c) lX
theorem jo:OpR X (compareOp .Lt) (rI0 λi j=>.bl (decide (i<j))):=opB0 λ_ _ _ _ _ _ _ q=>lt_int q
theorem op_le:OpR X (compareOp .LtE) (rI0 λi j=>.bl (decide (i<=j))):=opB0 λ_ _ _ _ _ _ _ q=>le_int q
theorem op_gt:OpR X (compareOp .Gt) (rI0 λi j=>.bl (decide (j<i))):=opB0 λ_ _ _ _ _ _ _ q=>gt_int q
theorem op_ge:OpR X (compareOp .GtE) (rI0 λi j=>.bl (decide (j<=i))):=opB0 λ_ _ _ _ _ _ _ q=>ge_int q
theorem op_isN:OpR X (compareOp .Is) (λx y H Q=>y=.non/\Q (.bl (decide (x=.non))) H):=by
 intro a s σ H x y v u Q I b c h;obtain⟨rfl,q⟩:=h
 cases c;refine is_none_gen (cD I q ?_)
 cases x<;>first
  |(cases b;rfl)
  |(obtain⟨t,rfl⟩:=b;rfl)
theorem op_notN:OpR X (compareOp .IsNot) (λx y H Q=>y=.non/\Q (.bl (!decide (x=.non))) H):=by
 intro a s σ H x y v u Q I b c h;obtain⟨rfl,q⟩:=h
 cases c;refine isnot_none_gen (cD I q ?_)
 cases x<;>first
  |(cases b;rfl)
  |(obtain⟨t,rfl⟩:=b;rfl)
theorem nomark(b:Expr)(h:op≠.In:=by decide)(h2:op≠.NotIn:=by decide):behindInMarks op b=false:=by
 have c:(op==CmpOp.In)=false:=by cases op<;>first|rfl|exact absurd rfl h
 have a:(op==CmpOp.NotIn)=false:=by cases op<;>first|rfl|exact absurd rfl h2
 cases b<;>simp[behindInMarks,c,a]
theorem eQ(ho:OpR X (compareOp op) r)(ha:PE X a ta)(hb:PE X b tb)(hm:behindInMarks op b=false:=by exact nomark _):PE X (.Compare a [op] [b] pos) (tOp r ta tb):=by
 intro c s σ H Q I h;exact wpAny_Compare1 (binT ha hb I h λv u l x y e i m j q=>ho c l σ e x y v u Q i m j q) hm
inductive ItTest(Q:Bool->Hp->Prop)(x:V)(H':Hp):Prop
 |mk(k:_)(h1:x=.bl k)(h2:Q k H'):ItTest Q x H'
noncomputable def tTest(t:TE):TT:=λσ H Q=>t σ H λx H'=>ItTest Q x H'
theorem pt_cmpR(ho:OpR X (compareOp op) r)(ha:PE X a ta)(hb:PE X b tb)(hm:behindInMarks op b=false):PT X (.Compare a [op] [b] pos) (tTest (tOp r ta tb)):=by
 intro i s σ H Q I h
 refine wpAny_isTrue_Compare1 (thn (ha i s σ H _ I h) λv o⟨x,G,q,F,p⟩=>thn (hb i o σ G _ q p) λu A⟨y,m,t,j,E⟩=>
  thn (ho i A σ m x y v u _ t F j E) λc J⟨z,D,B,l,k,e,w⟩=>?_) hm
 subst e
 cases l;exact wpAny_truthy_bool ⟨D,B,w⟩
theorem aS(ho:OpR X (compareOp op) r)(ha:PE X a ta)(hb:PE X b tb)(hm:behindInMarks op b=false:=by exact nomark _):PT X (.Compare a [op] [b] pos) (tTest (tOp r ta tb)):=by
 intro i s σ H Q I h
 refine wpAny_isTrue_Compare1 (thn (ha i s σ H _ I h) λv o⟨x,G,q,F,p⟩=>thn (hb i o σ G _ q p) λu A⟨y,m,t,j,E⟩=>
  thn (ho i A σ m x y v u _ t F j E) λc J⟨z,D,B,l,k,e,w⟩=>?_) hm
 subst e
 cases l;exact wpAny_truthy_bool ⟨D,B,w⟩
theorem line63:(sizeLine:Nat)<2^63:=by rw[sizeLine_eq];decide
theorem op_add_str:OpR X (binaryOp .Add) (λx y H Q=>∃i j,x=.str i/\y=.str j/\i.length+j.length<=sizeLine/\Q (.str (i++j)) H):=by
 intro a s σ H x y v u Q I c b h;obtain⟨i,j,rfl,rfl,l,q⟩:=h;obtain⟨t,rfl⟩:=c;obtain⟨e,rfl⟩:=b;exact add_str (λe m=>⟨.str (i++j),H,I.tok _,⟨_,rfl⟩,q⟩) l
theorem jL(r:Vals [x] us):∃u,us=[u]/\RelV x u:=by
 cases r with
 |cons r1 r2=>cases r2;exact⟨_,rfl,r1⟩
theorem call_abs:ie X (.builtin "abs") (λxs H Q=>∃i,xs=[.int i]/\Q (.int (if i<0 then-i else i)) H):=by
 intro a s σ H xs b Q I r h;obtain⟨i,rfl,q⟩:=h;obtain⟨u,rfl,t,rfl⟩:=jL r;exact call_abs_int λu c=>⟨.int (if i<0 then-i else i),H,I.tok _,⟨_,rfl⟩,q⟩
end
structure ObjM(h:Heap)(x dx C:Addr)(mA:Str->Option Value):Prop where
 obj:h.get? x=some (PySem.W.instObj C dx)
 ns:h.Ns1 dx mA
 ne:dx≠x
theorem lookIn_ns{h:Heap}(n:h.Ns1 dx mA):∃od,h.get? dx=some od/\∀name,PySem.W.lookIn name od=some (mA name):=by
 obtain⟨o,c,s,i,p,m,_,l⟩:=n;refine⟨o,i,λname=>?_⟩;have e:=l name;unfold nsFind findBy at e;rw[<-Array.find?_toList]at e;unfold PySem.W.lookIn;rw[p];dsimp only
 split
 ·rename_i y q;rw[q]at e;exact mj some e
 ·rename_i q;rw[q]at e
  have a:c.toList.any (·.refKey)=false:=by
   rw[List.any_eq_false];intro y j;obtain⟨z,t,b⟩:=m y (Array.mem_toList_iff.mp j);simp[DictEntry.refKey,b]
  have r:¬c.toList.any (·.refKey)=true:=by rw[a];exact lX
  rw[if_neg r];exact mj some e
theorem ObjM.look(I:ObjM h x dx C mA):∃od,PySem.W.InstAt h x (PySem.W.instObj C dx) C (some od)/\∀name,PySem.W.lookIn name od=some (mA name):=
 let⟨od,ho,hl⟩:=lookIn_ns I.ns
 ⟨od,⟨I.obj,rfl,rfl,ho⟩,hl⟩
section
variable{prog:Program}{w:World}{A:Around}{E:Value->Shared->Prop}{s:Shared}{K:W.Frag}{x dx C f:Addr}{mA:Str->Option Value}{name:Str}{v:Value}
theorem get_map(X:K.In s.heap)(I:ObjM s.heap x dx C mA)(hg:PySem.W.plainGet K C name=true)(hh:PySem.W.hasDictIn K C=true)
  (ha:PySem.W.findIn K (.ref C) name=some none)(hv:mA name=some v)(hv':PySem.W.handedIn v=true)(h:Q v {s with toks:=s.toks+1}):
  wpAny (model prog w) A (getAttr (.ref x) name expr) Q E s:=by
 obtain⟨b,J,a⟩:=I.look;exact PySem.W.get_value X J (PySem.W.plainGet_of hg).1 (PySem.W.findObj_own hh ha rfl (by rw[a,hv])) hv' h
theorem get_meth(X:K.In s.heap)(I:ObjM s.heap x dx C mA)(hg:PySem.W.plainGet K C name=true)
  (hf:PySem.W.findIn K (.ref C) name=some (some (.ref f)))(ht:PySem.W.isFn K (.ref f)=true)(hv:mA name=none)(h:Q (.ref f,[.ref x]) s):
  wpAny (model prog w) A (getMethod (.ref x) name pl) Q E s:=by
 obtain⟨a,J,b⟩:=I.look;exact PySem.W.method_fn X J (PySem.W.plainGet_of hg).1 (PySem.W.plainGet_of hg).2 hf (beq_iff_eq.mp ht) (by show(PySem.W.lookIn name a).map (·.isSome)=some false;rw[b,hv];rfl) h
theorem set_map(X:K.In s.heap)(I:ObjM s.heap x dx C mA)
  (hs:PySem.W.findIn K (.ref C) "__setattr__"=some (some (.builtin "object.__setattr__")))(hp:PySem.W.plainOver K C=true)(ht:PySem.W.takerIn K C name=some none)(hh:PySem.W.hasDictIn K C=true)
  (hw:PySem.Within mA ns)(hsz:ns.length<=sizeLine)
  (h:∀h',ObjM h' x dx C (λy=>if y=name then some v else mA y)->Heap.SameBut dx s.heap h'->Q () {s with heap:=h',toks:=s.toks+2}):
  wpAny (model prog w) A (setAttr (.ref x) name v) Q E s:=by
 obtain⟨B,J,D⟩:=I.look;refine PySem.W.set_plain X J hs (PySem.W.osa_open X J hp ht λb=>?_);obtain⟨z,q,j⟩:=PySem.W.any_some hh;have o :=I.obj;refine mx (mW (mx (mx (wpAny_loadPart o (mx (PySem.W.Looks.here (PySem.W.looks_clsIn X q) ?_))))));rw[j];refine mW (mx (mW (mx ?_)));refine wpAny_nsSet1 I.ns λh' e c=>?_;obtain⟨F,p,t,l,i,m⟩:=e.count (PySem.Within.cons name v hw);refine mx (wpAny_lookBehind l (by rw[i];exact pastItsLine_dict (lC m (by rw[mh];lia))) ?_);exact mW (h _ ⟨(c.2 _ (Ne.symm I.ne)).trans I.obj,e,I.ne⟩ c)
theorem make_map(X:K.In s.heap)(hm:PySem.W.makesIn K C=true)
  (hi:PySem.W.findIn K (.ref C) "__init__"=some (some (.ref f)))(hf:PySem.W.typeIn K (.ref f)=some (.type "function"))
  (h:codeAny (model prog w) (A.under (.builtin "type.__call__" ⟨.ref C::vs,kw⟩)) (.call (.ref f) ⟨.ref (s.heap.objs.size+1)::vs,kw⟩) (PySem.W.InitBack (s.heap.objs.size+1) R)
   {s with heap:=(s.heap.push PySem.W.emptyDict).push (PySem.W.instObj C s.heap.objs.size)}):
  codeAny (model prog w) A (.call (.ref C) ⟨vs,kw⟩) R s:=by
 obtain⟨c,g,d,t,b⟩:=s;exact PySem.W.make_core (PySem.W.makes_of X hm) (PySem.W.looks_findIn X hi) (λa=>PySem.W.bind_fn X a hf) (.inl rfl) h
end
noncomputable def cH(f:Str)(v:V):List (Str×V)->List (Str×V)
 |[]=>[(f,v)]
 |(g,x)::r=>if g=f then(g,v)::r else(g,x)::cH f v r
theorem fe(f g:Str)(v:V):∀fs:List (Str×V),(cH f v fs).lookup g=if g=f then some v else fs.lookup g
 |[]=>by
  show List.lookup g [(f,v)]=_;by_cases h:g=f
  ·have a:(g==f)=true:=beq_iff_eq.mpr h;simp only[List.lookup,a,if_pos h]
  ·have a:(g==f)=false:=nN.mpr h;simp only[List.lookup,a,if_neg h]
 |(k,x)::r=>by
  have b:=fe f g v r;rw[show cH f v ((k,x)::r)=(if k=f then(k,v)::r else(k,x)::cH f v r)from rfl];by_cases hk:k=f
  ·rw[if_pos hk];by_cases h:g=k
   ·have a:(g==k)=true:=beq_iff_eq.mpr h;simp only[List.lookup,a,if_pos (h.trans hk)]
   ·have a:(g==k)=false:=nN.mpr h;simp only[List.lookup,a,if_neg (λe:g=f=>h (e.trans hk.symm))]
  ·rw[if_neg hk];by_cases h:g=k
   ·have a:(g==k)=true:=beq_iff_eq.mpr h;simp only[List.lookup,a,if_neg (λe:g=f=>hk (h.symm.trans e))]
   ·have a:(g==k)=false:=nN.mpr h;simp only[List.lookup,a];exact b
theorem keys_putF(f:Str)(v:V):∀fs:List (Str×V),f∈(cH f v fs).map (·.1)/\∀g,g∈fs.map (·.1)->g∈(cH f v fs).map (·.1)
 |[]=>⟨by simp[cH],λg h=>by simp at h⟩
 |(k,x)::r=>by
  obtain⟨a,b⟩:=keys_putF f v r;rw[show cH f v ((k,x)::r)=(if k=f then(k,v)::r else(k,x)::cH f v r)from rfl];by_cases hk:k=f
  ·rw[if_pos hk];subst hk;exact⟨by simp,λg h=>by simpa using h⟩
  ·rw[if_neg hk];refine⟨?_,λg h=>?_⟩
   ·rw[mw];exact lF _ a
   ·rw[mw]at h⊢;rcases lN.mp h with e|e
    ·exact lN.mpr (.inl e)
    ·exact lF _ (b g e)
theorem dD(f:Str)(v:V):∀fs:List (Str×V),(cH f v fs).length<=fs.length+1
 |[]=>by simp[cH]
 |(k,x)::r=>by
  have a:=dD f v r;rw[show cH f v ((k,x)::r)=(if k=f then(k,v)::r else(k,x)::cH f v r)from rfl];by_cases hk:k=f
  ·rw[if_pos hk,mh,mh];omega
  ·rw[if_neg hk,mh,mh];omega
theorem RelO.some_of(r:RelO (some v) o):∃u,o=some u/\RelV v u:=by
 cases o with
 |none=>exact(show False from r).elim
 |some u=>exact⟨u,rfl,r⟩
theorem RelO.none_of(r:RelO none o):o=none:=by
 cases o with
 |none=>rfl
 |some u=>exact(show False from r).elim
theorem handed_of(r:RelV v u):PySem.W.handedIn u=true:=by
 cases v with
 |non=>cases(show u=Value.none from r);rfl
 |bl b=>cases(show u=Value.bool b from r);rfl
 |int i=>obtain⟨t,e⟩:=(show∃t,u=Value.int i t from r);cases e;rfl
 |str x=>obtain⟨t,e⟩:=(show∃t,u=Value.str x t from r);cases e;rfl
 |byt b=>obtain⟨t,e⟩:=(show∃t,u=Value.bytes b t from r);cases e;rfl
 |flt b=>obtain⟨t,e⟩:=(show∃t,u=Value.float b t from r);cases e;rfl
 |ref a=>cases(show u=Value.ref a from r);rfl
 |ty n=>cases(show u=Value.type n from r);rfl
section
variable{P:Program}{w:World}{H H':Hp}{h h':Heap}{a C dx:Addr}{fs fs':List (Str×V)}
theorem ins_get(hok:HOk P w H h)(e:H a=some (.ins C dx fs)):∃mA,ObjM h a dx C mA/\(∀f,RelO (fs.lookup f) (mA f))/\PySem.Within mA (fs.map (·.1))/\fs.length<=1000/\H dx=some (.own a):=by
 obtain⟨d,z,ne,b,mA,n,r,q⟩:=(show ObjOk P w H h a (.ins C dx fs)from hok a _ e);exact⟨mA,⟨b,n,ne⟩,r,q,z,d⟩
end
structure Cls(K:W.Frag)(C:Addr):Prop where
 pg:PySem.W.plainGet K C Str.empty=true
 hd:PySem.W.hasDictIn K C=true
 po:PySem.W.plainOver K C=true
 sa:PySem.W.findIn K (.ref C) "__setattr__"=some (some (.builtin "object.__setattr__"))
theorem Cls.get{K:W.Frag}(c:Cls K C)(f:Str):PySem.W.plainGet K C f=true:=c.pg
noncomputable def NoAttr(K:W.Frag)(C:Addr)(f:Str):Prop:=PySem.W.findIn K (.ref C) f=some none
theorem NoAttr.taker{K:W.Frag}(n:NoAttr K C f):PySem.W.takerIn K C f=some none:=by
 unfold PySem.W.takerIn;rw[show PySem.W.findIn K (.ref C) f=some none from n];rfl
structure Con(K:W.Frag)(C:Addr)(f:Str)(v:V)(u:Value):Prop where
 at_:PySem.W.findIn K (.ref C) f=some (some u)
 rel:RelV v u
 get:PySem.W.specialIn K u "__get__"=some none
 cp:PySem.W.copiedNames.contains f=false
structure Meth(K:W.Frag)(C:Addr)(m:Str)(f:Addr):Prop where
 at_:PySem.W.findIn K (.ref C) m=some (some (.ref f))
 fn:PySem.W.isFn K (.ref f)=true
 kp:PySem.W.keepIn K (.ref f)=true
section
variable{X:Cx}{pins:List (Addr×Obj)}{σ:St}{H:Hp}{s:Shared}{a C dx:Addr}{fs:List (Str×V)}{f:Str}{v:V}{A:Around}{E:Value->Shared->Prop}
theorem j8(I:Inv X pins σ H s)(e:H a=some (.ins C dx fs))(c:Cls X.K C)(n:NoAttr X.K C f)(l:fs.lookup f=some v)
  (h:∀u s',Inv X pins σ H s'->RelV v u->Q u s'):wpAny (model X.prog X.w) A (getAttr (.ref a) f b) Q E s:=by
 obtain⟨m,O,r,_,_,_⟩:=ins_get I.hok e;obtain⟨u,j,i⟩:=RelO.some_of (by rw[<-l];exact r f);exact get_map I.kIn O (c.get f) c.hd n j (handed_of i) (h u _ (I.tok _) i)
theorem iU(I:Inv X pins σ H s)(e:H a=some (.ins C dx fs))(c:Cls X.K C)(k:Meth X.K C m g)(l:fs.lookup m=none)
  (h:Q (.ref g,[.ref a]) s):wpAny (model X.prog X.w) A (getMethod (.ref a) m pl) Q E s:=by
 obtain⟨i,O,r,_,_,_⟩:=ins_get I.hok e;have b :=RelO.none_of (by rw[<-l];exact r m);exact get_meth I.kIn O (c.get m) k.at_ k.fn b h
theorem setattr_ok(I:Inv X pins σ H s)(e:H a=some (.ins C dx fs))(c:Cls X.K C)(n:NoAttr X.K C f)(hl:fs.length<1000)(ry:RelV y u)
  (h:∀s',Inv X pins σ (upd H a (.ins C dx (cH f y fs))) s'->Q () s'):wpAny (model X.prog X.w) A (setAttr (.ref a) f u) Q E s:=by
 obtain⟨m,O,r,l,_,j⟩:=ins_get I.hok e;have D:(fs.map (·.1)).length<=sizeLine:=by rw[kX,sizeLine_eq];lia
 refine set_map I.kIn O c.sa c.po n.taker c.hd l D λp i t=>h _ ?_;have w:∃o,p.get? dx=some o:=let⟨o,_,_,e',_⟩:=i.ns;⟨o,e'⟩
 refine I.write (by rw[e];exact True.intro) (.inr j) (λb q B z=>(t.2 b B).trans z) w ?_;refine⟨by rw[aG O.ne];exact j,?_,O.ne,i.obj,_,i.ns,λg=>?_,λg F=>?_⟩
 ·have:=dD f y fs;lia
 ·rw[fe];by_cases q:g=f
  ·rw[if_pos q,if_pos q];exact ry
  ·rw[if_neg q,if_neg q];exact r g
 ·by_cases q:g=f
  ·rw[q];exact(keys_putF f y fs).1
  ·refine(keys_putF f y fs).2 g (l g λz=>F ?_);show(if g=f then some u else m g)=none;rw[if_neg q];exact z
theorem Inv.made(I:Inv X pins σ H s):Inv X pins σ (upd (upd H s.heap.objs.size (.own (s.heap.objs.size+1))) (s.heap.objs.size+1) (.ins C s.heap.objs.size []))
  {s with heap:=(s.heap.push PySem.W.emptyDict).push (PySem.W.instObj C s.heap.objs.size)}:=by
 have c:(s.heap.push PySem.W.emptyDict).get? s.heap.objs.size=some PySem.W.emptyDict:=me s.heap rfl
 have i:((s.heap.push PySem.W.emptyDict).push (PySem.W.instObj C s.heap.objs.size)).get? (s.heap.objs.size+1)=some (PySem.W.instObj C s.heap.objs.size):=by
  have:=me (s.heap.push PySem.W.emptyDict) (o:=PySem.W.instObj C s.heap.objs.size) rfl
  rwa[Heap.size_push]at this
 have h:(s.heap.push PySem.W.emptyDict).Ns s.heap.objs.size (λ_=>none):=⟨PySem.W.emptyDict,#[],_,c,rfl,(λe j=>absurd j (by simp)),λ_=>rfl⟩;have l:=I.laid (o:=.own (s.heap.objs.size+1)) (t':=s.toks) (λb u q=>lK _ q) (k5 _) ⟨_,c⟩;refine l.laid (λb u q=>lK _ q) (Nat.le_of_eq (Heap.size_push _ _)) ?_;have ne:s.heap.objs.size≠s.heap.objs.size+1:=mq (Nat.lt_succ_self _);refine⟨by rw[aG ne,aE],lD _,ne,i,λ_=>none,(Heap.Ns1.of_empty h).at λo q=>lK _ q,λ_=>True.intro,λy m=>absurd rfl m⟩
theorem attr_of(hb:attributeBase e f env (eval e env)=eval e env)
  (h:wpAny (model prog w) A (eval e env) (λo s₁=>wpAny (model prog w) A (getAttr o f true) Q E s₁) E s):wpAny (model prog w) A (eval (.Attribute e f pos) env) Q E s:=
 Attribute_any_ h (by rw[arm_eval_Attribute,hb])
end
inductive ItFld(K:W.Frag)(f:Str)(Q:VK)(x:V)(H1:Hp):Prop
 |mk(a:_)(C:_)(dx:_)(fs:_)(v:_)(h1:x=.ref a)(h2:H1 a=some (.ins C dx fs))(h3:Cls K C)(h4:NoAttr K C f)(h5:fs.lookup f=some v)(h6:Q v H1):ItFld K f Q x H1
noncomputable def tFld(K:W.Frag)(ta:TE)(f:Str):TE:=λσ H Q=>ta σ H λx H1=>ItFld K f Q x H1
noncomputable def sFld(K:W.Frag)(ta tv:TE)(f:Str):TS:=λD σ H=>tv σ H λy H1=>ta σ H1 λx H2=>∃a C dx fs,x=.ref a/\H2 a=some (.ins C dx fs)/\Cls K C/\NoAttr K C f/\fs.length<1000/\
 D.nx σ (upd H2 a (.ins C dx (cH f y fs)))
section
variable{X:Cx}{o e value:Expr}{f:Str}{pos pos' tpos:Pos}{ta tv:TE}
theorem aZ(he:PE X e ta)(hb:attributeBase e f X.env (eval e X.env)=eval e X.env):PE X (.Attribute e f pos) (tFld X.K ta f):=by
 intro b s σ H Q I h;refine attr_of hb (thn (he b s σ H _ I h) λu t zW=>?_);obtain⟨x,r,m,p,a,C,w,fs,v,ex,j,c,n,l,q⟩:=zW;subst ex;obtain rfl :=p;exact j8 m j c n l λz y o i=>⟨v,r,o,i,q⟩
theorem cT(ha:PE X o ta)(hv:PE X value tv)(hs:swapsWith value (some (.Attribute o f pos')) pos.line X.env=pure false):PS X (.Assign [.Attribute o f pos'] value pos) (sFld X.K ta tv f):=by
 intro b s σ H D I h;refine plainObj_wpAny_Assign_Attribute (thn (hv b s σ H _ I h) λu e zW=>?_) hs;obtain⟨y,A,j,r,q⟩:=zW;refine thn (ha b e σ A _ j q) λp G zW=>?_;obtain⟨x,B,i,w,a,C,F,fs,ex,m,c,n,l,z⟩:=zW;subst ex;obtain rfl :=w;exact setattr_ok i m c n l r λE t=>⟨σ,_,t,z⟩
end
section
variable{X:Cx}{pins:List (Addr×Obj)}{σ:St}{H:Hp}{s:Shared}{A:Around}{E:Value->Shared->Prop}{Q:Value->Shared->Prop}{c:Value}{b:Bool}
inductive TyOf(K:W.Frag)(H:Hp):V->Value->Prop where
 |non:TyOf K H .non (.type "NoneType")
 |bl(x:Bool):TyOf K H (.bl x) (.type "bool")
 |int(i:Int):TyOf K H (.int i) (.type "int")
 |str(x:Str):TyOf K H (.str x) (.type "str")
 |flt(x:UInt64):TyOf K H (.flt x) (.type "float")
 |lst{a:Addr}{xs:List V}(e:H a=some (.lst xs)):TyOf K H (.ref a) (.type "list")
 |frz{a:Addr}{o:Obj}{xs:List V}(e:H a=some (.frz o (.lst xs))):TyOf K H (.ref a) (.type "list")
 |tup{a:Addr}{xs:List V}(e:H a=some (.tup xs)):TyOf K H (.ref a) (.type "tuple")
 |dK{a:Addr}{kvs:List (Key×V)}(e:H a=some (.dK kvs)):TyOf K H (.ref a) (.type "dict")
 |dT{a:Addr}{kvs:List (List Key×V)}(e:H a=some (.dT kvs)):TyOf K H (.ref a) (.type "dict")
 |ins{a C dx:Addr}{fs:List (Str×V)}(e:H a=some (.ins C dx fs))(cl:Cls K C)(ha:PySem.W.findIn K (.ref C) "__class__"=some (some (.builtin "object.__class__")))
   (hn:PySem.W.specialIn K (.builtin "object.__class__") "__get__"=some (some (.builtin "getset_descriptor.__get__")))(htk:PySem.W.takesIn K (.builtin "object.__class__")=some true)
   (hm:PySem.W.mroIn K C (.type "object")=some true):TyOf K H (.ref a) (.ref C)
theorem isinst_ok(I:Inv X pins σ H s)(rx:RelV x u)(ty:TyOf X.K H x t)(e:PySem.W.kitOne X.K t c=some b)(h:∀tk,Q (.bool b) {s with toks:=tk}):
  wpAny (model X.prog X.w) A (call (.builtin "isinstance") [u,c]) Q E s:=by
 cases ty with
 |non=>cases(show u=Value.none from rx);exact nL PySem.W.kitx_none I.kIn True.intro e (λz=>nomatch z) h
 |bl y=>cases(show u=Value.bool y from rx);exact nL PySem.W.kitx_bool I.kIn True.intro e (λz=>nomatch z) h
 |int i=>obtain⟨t,q⟩:=(show∃t,u=Value.int i t from rx);cases q;exact nL PySem.W.kitx_int I.kIn True.intro e (λz=>nomatch z) h
 |str y=>obtain⟨t,q⟩:=(show∃t,u=Value.str y t from rx);cases q;exact nL PySem.W.kitx_str I.kIn True.intro e (λz=>nomatch z) h
 |flt y=>obtain⟨t,q⟩:=(show∃t,u=Value.float y t from rx);cases q;exact nL PySem.W.kitx_float I.kIn True.intro e (λz=>nomatch z) h
 |@lst a l ea=>
  cases(show u=Value.ref a from rx);obtain⟨_,_,n,_,j⟩:=(show ObjOk X.prog X.w H s.heap a (.lst l) from I.hok a _ ea);exact nL PySem.W.kitx_list I.kIn ⟨_,j,rfl⟩ e (λz=>nomatch z) h
 |@frz a ob l ea=>
  cases(show u=Value.ref a from rx);obtain⟨_,_,_,n,_,j⟩:=(show ObjOk X.prog X.w H s.heap a (.frz ob (.lst l)) from I.hok a _ ea);exact nL PySem.W.kitx_list I.kIn ⟨_,j,rfl⟩ e (λz=>nomatch z) h
 |@tup a l ea=>
  cases(show u=Value.ref a from rx);obtain⟨_,_,_,p⟩:=(show ObjOk X.prog X.w H s.heap a (.tup l) from I.hok a _ ea);obtain⟨o,j,m,_⟩:=p;exact nL PySem.W.kitx_tuple I.kIn ⟨o,j,m⟩ e (λz=>nomatch z) h
 |@dK a kvs ea=>
  cases(show u=Value.ref a from rx);obtain⟨_,_,D,_,p⟩:=(show ObjOk X.prog X.w H s.heap a (.dK kvs) from I.hok a _ ea);obtain⟨o,r,B,j,m,_⟩:=p;exact nL PySem.W.kitx_dict I.kIn ⟨o,j,m.1⟩ e (λz=>nomatch z) h
 |@dT a kvs ea=>
  cases(show u=Value.ref a from rx);obtain⟨_,_,l,_,o,r,B,j,m,_⟩:=(show ObjOk X.prog X.w H s.heap a (.dT kvs) from I.hok a _ ea);exact nL PySem.W.kitx_dict I.kIn ⟨o,j,m.1⟩ e (λz=>nomatch z) h
 |@ins a C dx fs ea cl ha hn htk hm=>
  cases(show u=Value.ref a from rx);obtain⟨G,O,_⟩:=ins_get I.hok ea;obtain⟨F,J,_⟩:=O.look;exact nL (PySem.W.kitx_own (cl.get _) cl.hd ha hn htk hm) I.kIn J e (λz=>nomatch z) h
end
structure Room(k:Nat)(A:Around):Prop where
 hd:A.handled=none
 dp:A.depth+3*k+5<recursionLimit
 un:A.units+16*k+200<cLine
theorem Room.mono(r:Room k A)(h:j<=k):Room j A:=⟨r.hd,by have:=r.dp;lia,by have:=r.un;lia⟩
theorem Room.deeper(r:Room (k+1) A)(env:Env):Room k (A.deeper env):=
 ⟨r.hd,by have:=r.dp;show A.depth+1+3*k+5<_;lia,by have:=r.un;show A.units+3+16*k+200<_;lia⟩
theorem make_depth{A:Around}:(A.under (.builtin "type.__call__" ⟨.ref C::us,kw⟩)).depth=A.depth+1:=by
 first|rfl|simp[Around.under,Code.weight,Code.isCreation,Code.isGuard,Code.isCaller,Code.frames,Code.isFrame,guardIds]
theorem make_units{A:Around}:(A.under (.builtin "type.__call__" ⟨.ref C::us,kw⟩)).units=A.units+1:=by
 first|rfl|simp[Around.under,Code.cUnits,Code.frames,Code.isFrame]
theorem Room.make(r:Room (k+1) A)(C:Addr)(us:List Value)(kw:List (Str×Value)):Room k (A.under (.builtin "type.__call__" ⟨.ref C::us,kw⟩)):=
 ⟨r.hd,by have:=r.dp;rw[make_depth];lia,by have:=r.un;rw[make_units];lia⟩
theorem Room.depth(r:Room k A):A.depth<recursionLimit:=by have:=r.dp;lia
theorem Room.units(r:Room k A):A.units+64<cLine:=by have:=r.un;lia
theorem Room.units0(r:Room k A):A.units<cLine:=by have:=r.un;lia
noncomputable def tNil:TA:=λ_ H Q=>Q [] H
noncomputable def tCons(ta:TE)(tr:TA):TA:=λσ H Q=>ta σ H λx H1=>tr σ H1 λxs H2=>Q (x::xs) H2
section
variable{X:Cx}{e:Expr}{es:List Expr}{te:TE}{t:TA}{pos:Pos}
theorem aB:PA X [] tNil:=λ_ _ _ _ H Q I h=>Calls.spliced_nil ⟨[],H,I,.nil,h⟩
theorem aA(ha:PE X e te)(hr:PA X es t)(hs:starEach (e::es) X.env=(false,eval e X.env)::starEach es X.env:=by rfl):PA X (e::es) (tCons te t):=by
 intro b a s σ H Q I h;rw[hs];show wpAny _ _ (spliced ((false,eval e X.env)::backTo b (starEach es X.env))) _ _ s;refine Calls.spliced_cons (thn (ha a s σ H _ I h) λu j zW=>?_);obtain⟨x,w,m,r,l⟩:=zW;exact thn (hr b a j σ w _ m l) (by rintro y z⟨p,i,o,c,q⟩;exact⟨x::p,i,o,.cons r c,q⟩)
noncomputable def tTup(t:TA):TE:=λσ H Q=>t σ H λxs H1=>xs.length<=sizeLine/\∀p,H1 p=none->Q (.ref p) (upd H1 p (.tup xs))
noncomputable def tLst(t:TA):TE:=λσ H Q=>t σ H λxs H1=>xs.length<=sizeLine/\∀p,H1 p=none->Q (.ref p) (upd H1 p (.lst xs))
theorem bP(h:PA X es t):PE X (.Tuple es x1 pos) (tTup t):=by
 intro a s σ H Q I l;refine wpAny_Tuple_spliced (thn (h pos a s σ H _ I l) λm c zW=>?_);obtain⟨p,j,i,r,z,q⟩:=zW;refine⟨by rw[<-r.length];exact z,?_⟩;have o :=i.hok.fresh (k5 _);refine⟨.ref c.heap.objs.size,upd j c.heap.objs.size (.tup p),i.laid (λb u e=>lK _ e) (k5 _) ?_,rfl,q _ o⟩;exact⟨z,m,r,⟨_,me _ rfl,rfl,_,rfl⟩⟩
theorem bH(h:PA X es t):PE X (.List es pos) (tLst t):=by
 intro a s σ H Q I l;refine wpAny_List_spliced (thn (h pos a s σ H _ I l) λm c zW=>?_);obtain⟨p,j,i,r,z,q⟩:=zW;refine⟨by rw[<-r.length];exact z,?_⟩;have o :=i.hok.fresh (k5 _);refine⟨.ref c.heap.objs.size,upd j c.heap.objs.size (.lst p),i.laid (λb u e=>lK _ e) (k5 _) ?_,rfl,q _ o⟩;exact⟨z,m,0,r,me _ rfl⟩
end
noncomputable abbrev Sp:=List V->Hp->VK->XK->Prop
noncomputable abbrev CXT:=List Env->Hp->Shared->XK->Value->Shared->Prop
structure Env0(P:Program)(w:World)(K:W.Frag)(mg:Str->Option Value)(base:Heap)(A:Around)(outer:List Env)(s:Shared)(H:Hp):Prop where
 frames:A.frames=some outer
 mod:Mod K mg base
 bs:∀b o,base.get? b=some o->s.heap.get? b=some o/\H b=none
 bsz:base.objs.size<=s.heap.objs.size
 funs:s.heap.FunFrames base outer
 frf:∀b∈frs outer,H b=none
 hok:HOk P w H s.heap
 bare:AllBare s.gens
noncomputable def CE(outer:List Env)(P:Program)(w:World)(H:Hp)(s:Shared)(Q:VK)(u:Value)(s':Shared):Prop:=
 ∃v H',s'.os=s.os/\AllBare s'.gens/\Un (frs outer) [] H H' s.heap s'.heap/\HOk P w H' s'.heap/\RelV v u/\Q v H'
noncomputable def CR(CX:CXT)(outer:List Env)(P:Program)(w:World)(H:Hp)(s:Shared)(Q:VK)(E:XK)(r:Result)(s':Shared):Prop:=
 match r with
 |.ok (.ret u)=>CE outer P w H s Q u s'
 |.ok _=>False
 |.error e=>CX outer H s E e s'
structure FnOk(P:Program)(w:World)(K:W.Frag)(mg:Str->Option Value)(base:Heap)(CX:CXT)(k:Nat)(f:Addr)(fd:FuncData)(ps:List Str)(sp:Sp):Prop where
 len:∀vs H Q E,sp vs H Q E->vs.length=ps.length
 run:∀(A:Around)(outer:List Env)(s:Shared)(H:Hp)(args:Args)(us:List Value)(vs:List V)(Q:VK)(E:XK),Room k A->Env0 P w K mg base A outer s H->BindsTo s fd args (ps.zip us)->Vals vs us->sp vs H Q E->
  codeAny (model P w) A (.call (.ref f) args) (CR CX outer P w H s Q E) s
theorem FnOk.imp{K:W.Frag}(F:FnOk P w K mg base CX k f fd ps sp)
  (h:∀vs H Q E,sp' vs H Q E->sp vs H Q E):FnOk P w K mg base CX k f fd ps sp':=
 ⟨λvs H Q E q=>F.len vs H Q E (h _ _ _ _ q),λA a s H b e vs Q E m i l c j=>F.run A a s H b e vs Q E m i l c (h _ _ _ _ j)⟩
theorem Env0.make{K:W.Frag}(e:Env0 P w K mg base A outer s H)(C:Addr)(us:List Value)(kw:List (Str×Value)):
  Env0 P w K mg base (A.under (.builtin "type.__call__" ⟨.ref C::us,kw⟩)) outer s H:=⟨by first|exact e.frames|(simpa[Around.under,Code.envs,Code.isFrame,pushEnvs]using e.frames),e.mod,e.bs,e.bsz,e.funs,e.frf,e.hok,e.bare⟩
section
variable{X:Cx}{pins:List (Addr×Obj)}{σ:St}{H:Hp}{s s':Shared}
theorem Inv.env0(I:Inv X pins σ H s):Env0 X.prog X.w X.K X.mg X.base X.A X.stack s H:=
 ⟨I.ok.frames,I.ok.mod,I.bs,lC I.ok.bsz I.sz,I.stack,I.stkFree,I.hok,I.bare⟩
theorem Inv.after(I:Inv X pins σ H s)(h:CE X.stack X.prog X.w H s Q u s'):EP X pins σ Q u s':=by
 obtain⟨v,j,os,a,un,c,r,q⟩:=h;obtain⟨i,g,d,t,e⟩:=s';obtain rfl :=os;exact⟨v,j,I.call un c a (λb z=>absurd z (by simp)),r,q⟩
end
noncomputable def tCall(sp:Sp)(dvs:List V)(E:XK)(t:TA):TE:=λσ H Q=>t σ H λvs H1=>sp (vs++dvs) H1 Q E
inductive ItMeth(C:Addr)(m:Str)(sp:Sp)(dvs:List V)(E:XK)(t:TA)(σ:St)(Q:VK)(x:V)(H1:Hp):Prop
 |mk(a:_)(dx:_)(fs:_)(h1:x=.ref a)(h2:H1 a=some (.ins C dx fs))(h3:fs.lookup m=none)(h4:t σ H1 λvs H2=>sp (x::(vs++dvs)) H2 Q E):ItMeth C m sp dvs E t σ Q x H1
noncomputable def tMake(C:Addr)(sp:Sp)(dvs:List V)(E:XK)(t:TA):TE:=λσ H Q=>t σ H λvs H1=>∀x dx,H1 x=none->H1 dx=none->dx≠x->
 sp (.ref x::(vs++dvs)) (upd (upd H1 dx (.own x)) x (.ins C dx [])) (λv H2=>v=.non/\Q (.ref x) H2) E
noncomputable def Binds(K:W.Frag)(fd:FuncData)(ps:List Str)(ds:List Value):Prop:=
 ∀(s:Shared)(us:List Value),K.In s.heap->(us++ds).length=ps.length->BindsTo s fd ⟨us,[]⟩ (ps.zip (us++ds))
theorem Binds.all{K:W.Frag}(h:∀us:List Value,us.length=ps.length->bindArgs fd ⟨us,[]⟩=pure (ps.zip us)):Binds K fd ps []:=λs us _ a=>by
 rw[m6]at a⊢;exact .of_eq (h us a)
noncomputable def fJ(CX:CXT)(X:Cx)(E:XK):Prop:=∀(pins:List (Addr×Obj))(σ:St)(H:Hp)(s:Shared)(e:Value)(s':Shared),Inv X pins σ H s->CX X.stack H s E e s'->X.xe e s'
section
variable{X:Cx}{CX:CXT}{k:Nat}{f C:Addr}{fd:FuncData}{ps:List Str}{sp:Sp}{dvs:List V}{ds:List Value}{E:XK}{x m:Str}{p pos apos:Pos}{e o:Expr}{es:List Expr}{ta:TE}{t:TA}
theorem run_fn(F:FnOk X.prog X.w X.K X.mg X.base CX k f fd ps sp)(hr:Room k X.A)(hb:Binds X.K fd ps ds)(hd:Vals dvs ds)(hx:fJ CX X E)
  (I:Inv X pins σ H s)(r:Vals vs us)(h:sp (vs++dvs) H Q E):wpAny (model X.prog X.w) X.A (call (.ref f) us) (EP X pins σ Q) X.xe s:=by
 have b :=r.append hd;have c:(us++ds).length=ps.length:=by rw[<-b.length];exact F.len _ _ _ _ h
 refine wpAny_call (codeAny_mono (F.run X.A X.stack s H ⟨us,[]⟩ (us++ds) (vs++dvs) Q E hr I.env0 (hb s us I.kIn c) b h) λr i a=>?_)
 cases r with
 |error e=>exact hx pins σ H s e i I a
 |ok fl=>
  cases fl with
  |ret u=>exact I.after a
  |next=>exact False.elim a
  |brk=>exact False.elim a
  |cont=>exact False.elim a
theorem pe_call(F:FnOk X.prog X.w X.K X.mg X.base CX k f fd ps sp)(hr:Room k X.A)(hg:Gl X x)(hm:X.mg x=some (.ref f))(hk:PySem.W.keepIn X.K (.ref f)=true)(hb:Binds X.K fd ps ds)(hd:Vals dvs ds)(hx:fJ CX X E)
  (ha:PA X (e::es) t)(hdb:(x==("__debug__":Str))=false:=by decide)(he:starEach (e::es) X.env=(false,eval e X.env)::starEach es X.env:=by rfl)(hpl:(backTo pos (starEach es X.env)).any (·.1)=false:=by rfl):
  PE X (.Call (.Name x p) (e::es) [] pos) (tCall sp dvs E t):=by
 intro a s σ H Q I h;refine wpAny_Call_Name_kw (kO I hg hm ?_ hdb);refine PySem.W.callWith_K I.ok.mod.kin hk (thn (ha pos a s σ H _ I h) λi j zW=>?_) he hpl;obtain⟨c,l,b,r,q⟩:=zW;refine⟨b.kIn,?_⟩;exact run_fn F hr hb hd hx b r q
structure Mk(K:W.Frag)(C f:Addr):Prop where
 makes:PySem.W.makesIn K C=true
 init:PySem.W.findIn K (.ref C) "__init__"=some (some (.ref f))
 fn:PySem.W.isFn K (.ref f)=true
 kp:PySem.W.keepIn K (.ref C)=true
theorem run_make(M:Mk X.K C f)(F:FnOk X.prog X.w X.K X.mg X.base CX k f fd ps sp)(hr:Room (k+1) X.A)(hb:Binds X.K fd ps ds)(hd:Vals dvs ds)
  (hx:fJ CX X E)(I:Inv X pins σ H s)(r:Vals vs us)
  (h:∀x dx,H x=none->H dx=none->dx≠x->sp (.ref x::(vs++dvs)) (upd (upd H dx (.own x)) x (.ins C dx [])) (λv H2=>v=.non/\Q (.ref x) H2) E):
  wpAny (model X.prog X.w) X.A (call (.ref C) us) (EP X pins σ Q) X.xe s:=by
 have i:=h (s.heap.objs.size+1) s.heap.objs.size (I.hok.fresh (Nat.le_succ _)) (I.hok.fresh (k5 _)) (mq (Nat.lt_succ_self _));have b:=Inv.made (C:=C) I;have c:Vals (V.ref (s.heap.objs.size+1)::(vs++dvs)) (Value.ref (s.heap.objs.size+1)::(us++ds)):=.cons rfl (r.append hd)
 have p:(Value.ref (s.heap.objs.size+1)::us++ds).length=ps.length:=by
  have e:=c.length;rw[F.len _ _ _ _ i]at e;exact e.symm
 refine wpAny_call (make_map I.kIn M.makes M.init (beq_iff_eq.mp M.fn) (codeAny_mono (F.run _ X.stack _ _ ⟨Value.ref (s.heap.objs.size+1)::us,[]⟩ (Value.ref (s.heap.objs.size+1)::(us++ds)) _ _ E (hr.make C us [])
  (b.env0.make C us []) (hb _ (Value.ref (s.heap.objs.size+1)::us) b.kIn p) c i) λr l a=>?_))
 cases r with
 |error e=>exact hx pins σ _ _ e l b a
 |ok fl=>
  cases fl with
  |ret u=>
   obtain⟨v,m,j,o,ev,q⟩:=b.after a;subst ev;exact⟨o,⟨V.ref (s.heap.objs.size+1),m,j,rfl,q⟩⟩
  |next=>exact False.elim a
  |brk=>exact False.elim a
  |cont=>exact False.elim a
theorem pe_make(M:Mk X.K C f)(F:FnOk X.prog X.w X.K X.mg X.base CX k f fd ps sp)(hr:Room (k+1) X.A)(hg:Gl X x)(hm:X.mg x=some (.ref C))(hb:Binds X.K fd ps ds)(hd:Vals dvs ds)(hx:fJ CX X E)
  (ha:PA X (e::es) t)(hdb:(x==("__debug__":Str))=false:=by decide)(he:starEach (e::es) X.env=(false,eval e X.env)::starEach es X.env:=by rfl)(hpl:(backTo pos (starEach es X.env)).any (·.1)=false:=by rfl):
  PE X (.Call (.Name x p) (e::es) [] pos) (tMake C sp dvs E t):=by
 intro a s σ H Q I h;refine wpAny_Call_Name_kw (kO I hg hm ?_ hdb);refine PySem.W.callWith_K I.ok.mod.kin M.kp (thn (ha pos a s σ H _ I h) λi j zW=>?_) he hpl;obtain⟨c,l,b,r,q⟩:=zW;refine⟨b.kIn,?_⟩;exact run_make M F hr hb hd hx b r q
end
structure FnScope(N P:List Str)(sc:Scope):Prop where
 kind:sc.kind=.function
 co:sc.isCoroutine=false
 gen:sc.isGenerator=false
 nd:N.Nodup
 pre:N.take P.length=P
 par:∀x∈P,sc.names.lookup x=some .local∨sc.names.lookup x=some .cell
 nofree:∀y∈sc.names,y.2≠.free
theorem bindL_out{kindOf:Str->Option NameKind}:∀{binds:List (Str×Value)}{m:Str->Option Value},(∀v,(x,v)∉binds)->bindL kindOf binds m x=m x
 |[],_,_=>rfl
 |(n,v)::r,m,h=>by
  unfold bindL;rw[bindL_out λw a=>h w (lF _ a)]
  split
  ·have:x≠n:=by rintro rfl;exact h v lO
   simp[this]
  ·rfl
theorem bindC_out{kindOf:Str->Option NameKind}:∀{binds:List (Str×Value)}{m:Str->Option Value},(∀v,(x,v)∉binds)->bindC kindOf binds m x=m x
 |[],_,_=>rfl
 |(n,v)::r,m,h=>by
  unfold bindC;rw[bindC_out λw a=>h w (lF _ a)]
  split
  ·rfl
  ·have:x≠n:=by rintro rfl;exact h v lO
   simp[this]
theorem bindL_get{kindOf:Str->Option NameKind}:∀{P:List Str}{vs:List Value}{i:Nat}{m:Str->Option Value},P.Nodup->P[i]?=some x->vs[i]?=some v->kindOf x=some .local->
  bindL kindOf (P.zip vs) m x=some v
 |[],_,_,_,_,h,_,_=>by simp at h
 |_::_,[],_,_,_,_,h,_=>by simp at h
 |p::P,w::vs,0,m,nd,h1,h2,hk=>by
  simp at h1 h2;subst h1;subst h2;show bindL kindOf ((p,w)::P.zip vs) m p=_;unfold bindL;rw[bindL_out λv a=>(mB.mp nd).1 (List.of_mem_zip a).1,if_pos hk];simp
 |p::P,w::vs,i+1,m,nd,h1,h2,hk=>by
  show bindL kindOf ((p,w)::P.zip vs) m x=_;unfold bindL;exact bindL_get (i:=i) (mB.mp nd).2 (by simpa using h1) (by simpa using h2) hk
theorem bindC_get{kindOf:Str->Option NameKind}:∀{P:List Str}{vs:List Value}{i:Nat}{m:Str->Option Value},P.Nodup->P[i]?=some x->vs[i]?=some v->kindOf x≠some .local->
  bindC kindOf (P.zip vs) m x=some v
 |[],_,_,_,_,h,_,_=>by simp at h
 |_::_,[],_,_,_,_,h,_=>by simp at h
 |p::P,w::vs,0,m,nd,h1,h2,hk=>by
  simp at h1 h2;subst h1;subst h2;show bindC kindOf ((p,w)::P.zip vs) m p=_;unfold bindC;rw[bindC_out λv a=>(mB.mp nd).1 (List.of_mem_zip a).1,if_neg hk];simp
 |p::P,w::vs,i+1,m,nd,h1,h2,hk=>by
  show bindC kindOf ((p,w)::P.zip vs) m x=_;unfold bindC;exact bindC_get (i:=i) (mB.mp nd).2 (by simpa using h1) (by simpa using h2) hk
noncomputable def hI(N:List Str)(vs:List V):St:=vs.map some++List.replicate (N.length-vs.length) none
noncomputable def cxOf(CX:CXT)(P:Program)(w:World)(K:W.Frag)(mg:Str->Option Value)(base:Heap)(N:List Str)(qual:Str)(scope:Scope)(f:Addr)(cd:Value)(A:Around)(outer:List Env)(s:Shared)(H:Hp)(E:XK):Cx where
 prog:=P
 w:=w
 K:=K
 mg:=mg
 base:=base
 A:=A.deeper (envOfC qual scope s.heap.objs.size f cd)
 N:=N
 s₀:=s
 H₀:=H
 env:=envOfC qual scope s.heap.objs.size f cd
 outer:=outer
 stack:=envOfC qual scope s.heap.objs.size f cd::outer
 ex:=[]
 calm:=true
 fn:=λ_=>true
 pn:=[]
 xe:=λe s'=>wpAny (model P w) (A.deeper (envOfC qual scope s.heap.objs.size f cd)) (leaving (envOfC qual scope s.heap.objs.size f cd) e) (λ_ s''=>CX outer H s E e s'') (λe' s''=>CX outer H s E e' s'') s'
theorem cell_has{sc:Scope}(h:sc.names.lookup x=some .cell):∃c,(cellsFrom n sc.names []).lookup x=some c:=by
 have q:=PySem.W.cellsFrom_some sc.names n [] (.inl h);exact Option.isSome_iff_exists.mp q
theorem inv_start{K:W.Frag}
  (S:FnScope N ps scope)(hd:A.handled=none)(e0:Env0 P w K mg base A outer s H)(hl:vs.length=ps.length)(r:Vals vs us)
  (x:InCallC s s.heap.objs.size (bindL (envOfC qual scope s.heap.objs.size f cd).kindOf (ps.zip us) λ_=>none) (cellsFrom (s.heap.objs.size+1) scope.names []) (bindC (envOfC qual scope s.heap.objs.size f cd).kindOf (ps.zip us) λ_=>none) s1):
  Inv (cxOf CX P w K mg base N qual scope f cd A outer s H E) [] (hI N vs) H s1:=by
 have J:ps.length<=N.length:=by have:=mj List.length S.pre;rw[lI]at this;lia
 obtain⟨D,O,rfl,F⟩:=x.done;have l:∀b:Addr,b∉(cxOf CX P w K mg base N qual scope f cd A outer s H E).ex:=λb z=>absurd (show b∈([]:List Addr) from z) (by simp)
 refine⟨⟨e0.mod,S.kind,rfl,rfl,k5 _,λy z c D j=>?_,λy m=>?_,λy c _ h=>?_,λ_=>hd,Around.frames_deeper e0.frames,.inr ⟨rfl,rfl⟩,λb z=>absurd z (l b),e0.bs,e0.bsz,λb _ _=>l b,λb z=>absurd z (l b),e0.funs,e0.frf⟩,
  rfl,e0.bare,Un.kept F,⟨_,x.toInCall.ns,λi y v D j M=>?_⟩,λy c h=>⟨_,x.cell y c h⟩,e0.hok.fresh (k5 _),λy c h=>?_,λp o=>absurd (show p∈([]:List (Addr×Obj)) from o) (by simp),e0.hok.kept F,?_⟩
 ·exact name_of_addr x.apart (nF D) (nF j)
 ·have m :=m;rcases m with m|m
  ·exact cell_has m
  ·exact absurd rfl (S.nofree _ (nF m))
 ·exact Nat.le_of_lt (x.above y c (nF h))
 ·have B:i<vs.length:=by
   unfold hI at j;by_cases B:i<vs.length
   ·exact B
   ·rw[mP (by simpa using B)]at j;rw[List.getElem?_replicate]at j
    split at j<;>cases j
  have L:vs[i]?=some v:=by
   unfold hI at j;rw[nD (by simpa using B),lg]at j
   cases e:vs[i]? with
   |none=>rw[e]at j;cases j
   |some a=>rw[e]at j;cases j;rfl
  obtain⟨u,G,I⟩:=r.get L
  have o:ps[i]?=some y:=by
   rw[<-S.pre,List.getElem?_take_of_lt (by lia)];exact D
  have t:ps.Nodup:=by rw[<-S.pre];exact S.nd.sublist (List.take_sublist _ _)
  refine⟨u,I,?_⟩;rcases S.par y (kZ o) with k|k
  ·exact .inl ⟨k,bindL_get t o G k⟩
  ·obtain⟨c,e⟩:=cell_has k;refine .inr ⟨.inl k,c,e,?_⟩;have q:=x.cell y c e;rw[bindC_get t o G (by show scope.names.lookup y≠_;rw[k];decide)]at q;exact q
 ·exact e0.hok.fresh (Nat.le_of_lt (x.above y c (nF h)))
 ·unfold hI;show _=N.length;rw[lG,kX,List.length_replicate]
  lia
theorem fn_of{K:W.Frag}{dV kV doc pm cdv ct oc:Value}
  (lk:K.lookup f=some ⟨oc,od,.func (PySem.W.fnOf name qual params body scope dV kV doc pm an cdv ct),osl⟩)(hcd:PySem.W.codeIn K cdv qual=true)(S:FnScope N ps scope)
  (len:∀vs H Q E,sp vs H Q E->vs.length=ps.length)
  (hbody:∀(A:Around)(outer:List Env)(s:Shared)(H:Hp)(vs:List V)(Q:VK)(E:XK),Room k (A.deeper (envOfC qual scope s.heap.objs.size f cdv))->sp vs H Q E->
   ∃t,PSs (cxOf CX P w K mg base N qual scope f cdv A outer s H E) body t/\t {nx:=λ_ H'=>Q .non H',rt:=Q} (hI N vs) H):
  FnOk P w K mg base CX (k+1) f (PySem.W.fnOf name qual params body scope dV kV doc pm an cdv ct) ps sp:=by
 refine⟨len,λA outer s H F G vs Q E z h O r i=>?_⟩;have M:=len _ _ _ _ i;have D :=h.mod.kin.keeps λb o e=>(h.bs b o e).1;have m :=h.mod.nolimit.keeps λb o e=>(h.bs b o e).1
 have a:∀y∈ps.zip G,scope.names.lookup y.1=some .local∨(scope.names.lookup y.1=some .cell/\((cellsFrom (s.heap.objs.size+1) scope.names []).lookup y.1).isSome=true):=λ⟨n,v⟩Y=>by
  rcases S.par n (List.of_mem_zip Y).1 with q|q
  ·exact .inl q
  ·exact .inr ⟨q,PySem.W.cellsFrom_some _ _ _ (.inl q)⟩
 refine codeAny_call_function z.depth (D _ _ lk) rfl S.co S.gen rfl (PySem.W.codeRec_of D hcd) (O _ _ _ _ ?_);refine wpAny_newFunctionEnv_cells S.kind a λU L B x=>?_;subst L;refine⟨m.keeps x.toInCall.keep,codeAny_func ?_⟩;obtain⟨t,R,T⟩:=hbody A outer s H vs Q E (z.deeper _) i;have I:Inv (cxOf CX P w K mg base N qual scope f cdv A outer s H E) [] (hI N vs) H B:=inv_start S z.hd h M r x;refine nY (R [] B (hI N vs) H _ I T) (λX p c=>?_) λe p c=>c
 have fin:∀{j:St}{H':Hp}{v:V}{u:Value},Inv (cxOf CX P w K mg base N qual scope f cdv A outer s H E) [] j H' p->RelV v u->Q v H'->CE outer P w H s Q u p:=
  λ{j H' v u}J l q=>⟨v,H',J.os,J.bare,J.base,J.hok,l,q⟩
 cases X with
 |ret u=>
  obtain⟨v,j,H',J,l,q⟩:=c;exact fin J l q
 |next=>
  obtain⟨j,H',J,q⟩:=c;exact fin (v:=V.non) J rfl q
 |brk=>
  obtain⟨_,_,_,q⟩:=c;exact False.elim q
 |cont=>
  obtain⟨_,_,_,q⟩:=c;exact False.elim q
section
variable{X:Cx}{x:Str}{p pos:Pos}{e:Expr}{es:List Expr}{t:TA}{id T:String}{r:List V->Hp->VK->Prop}
noncomputable def tCB(r:List V->Hp->VK->Prop)(t:TA):TE:=λσ H Q=>t σ H λvs H1=>r vs H1 Q
theorem bV(hc:ie X (.builtin id) r)(hg:Gl X x)(hm:X.mg x=none)(hv:bootBuiltins x=some (.builtin id))(ha:PA X (e::es) t)(hn:x≠"__name__":=by decide)(hdb:(x==("__debug__":Str))=false:=by decide)
  (he:starEach (e::es) X.env=(false,eval e X.env)::starEach es X.env:=by rfl)(hpl:(backTo pos (starEach es X.env)).any (·.1)=false:=by rfl):PE X (.Call (.Name x p) (e::es) [] pos) (tCB r t):=by
 intro a s σ H Q I h;refine wpAny_Call_Name_kw (ld_blt I hg hm hv ?_ hn hdb);exact PyProof.Rows.callWith_builtin1 (thn (ha pos a s σ H _ I h) (by rintro c i⟨b,o,l,m,j⟩;exact hc a i σ o b c Q l m j)) he hpl
theorem eJ(hc:ie X (.type T) r)(hg:Gl X x)(hm:X.mg x=none)(hv:bootBuiltins x=some (.type T))(ha:PA X (e::es) t)(hn:x≠"__name__":=by decide)(hdb:(x==("__debug__":Str))=false:=by decide)
  (he:starEach (e::es) X.env=(false,eval e X.env)::starEach es X.env:=by rfl)(hpl:(backTo pos (starEach es X.env)).any (·.1)=false:=by rfl):PE X (.Call (.Name x p) (e::es) [] pos) (tCB r t):=by
 intro a s σ H Q I h;refine wpAny_Call_Name_kw (ld_blt I hg hm hv ?_ hn hdb);exact PyProof.Rows.callWith_type1 (thn (ha pos a s σ H _ I h) (by rintro c i⟨b,o,l,m,j⟩;exact hc a i σ o b c Q l m j)) he hpl
end
end L2
namespace HT
open PySem PyProof.Rows
noncomputable def lexLt:List Int->List Int->Bool
 |[],[]=>false
 |[],_::_=>true
 |_::_,[]=>false
 |x::xs,y::ys=>if x=y then lexLt xs ys else decide (x<y)
section
variable{prog:Program}{w:World}{A:Around}{E:Value->Shared->Prop}{s:Shared}
noncomputable def sIx(n d:Nat):Option Int->Nat
 |none=>d
 |some v=>if v<0 then(v+(n:Int)).toNat else min v.toNat n
theorem sIx_none(n d:Nat):sIx n d none=d:=rfl
theorem sIx_nat(n d k:Nat):sIx n d (some (k:Int))=min k n:=by
 show(if(k:Int)<0 then((k:Int)+(n:Int)).toNat else min (k:Int).toNat n)=min k n;rw[if_neg (by lia),Int.toNat_natCast]
end
end HT
namespace L2
open PySem PySem.Spec PyProof.Rows
noncomputable abbrev TO:=St->Hp->(Option Int->Hp->Prop)->Prop
noncomputable def PO(X:Cx)(e:Option Expr)(t:TO):Prop:=
 ∀(pins:List (Addr×Obj))(s:Shared)(σ:St)(H:Hp)(Q:Option Int->Hp->Prop),Inv X pins σ H s->t σ H Q->
  wpAny (model X.prog X.w) X.A (evalPart e X.env) (λu s'=>∃o H',Inv X pins σ H' s'/\IsPart u o/\Q o H') X.xe s
noncomputable def tNoPart:TO:=λ_ H Q=>Q none H
noncomputable def tPart(t:TE):TO:=λσ H Q=>t σ H λx H1=>∃i,x=.int i/\Q (some i) H1
section
variable{X:Cx}{e:Expr}{te:TE}{lo hi:Option Expr}{tl th:TO}{pos p2:Pos}
theorem iQ:PO X none tNoPart:=by
 intro a s σ H Q I h;rw[evalPart_none];exact mW ⟨none,H,I,.none,h⟩
theorem iP(h:PE X e te):PO X (some e) (tPart te):=by
 intro a s σ H Q I m;rw[evalPart_some];refine thn (h a s σ H _ I m) λu o zW=>?_;obtain⟨x,l,c,j,b⟩:=zW;obtain⟨i,rfl,q⟩:=b;obtain⟨t,rfl⟩:=j;exact⟨some i,l,c,.int i t,q⟩
noncomputable def SlR(X:Cx)(r:V->Option Int->Option Int->Hp->VK->Prop):Prop:=
 ∀(pins:List (Addr×Obj))(s:Shared)(σ:St)(H:Hp)(x:V)(v vl vu:Value)(lo hi:Option Int)(sl:Addr)(Q:VK),Inv X pins σ H s->RelV x v->s.heap.IsSliceOf sl vl vu .none->IsPart vl lo->IsPart vu hi->r x lo hi H Q->
  ∃T id,typeLookup (.type T) "__getitem__"=pure (some (.builtin id))/\s.TypeIs v T/\wpAny (model X.prog X.w) X.A (getItem v (.ref sl)) (EP X pins σ Q) X.xe s
noncomputable def tSl(r:V->Option Int->Option Int->Hp->VK->Prop)(te:TE)(tl th:TO):TE:=λσ H Q=>te σ H λx H1=>tl σ H1 λl H2=>th σ H2 λu H3=>r x l u H3 Q
theorem gT(hr:SlR X r)(he:PE X e te)(hl:PO X lo tl)(hu:PO X hi th):PE X (.Subscript e (.Slice lo hi none p2) pos) (tSl r te tl th):=by
 intro a s σ H Q I h;refine Subscript_ (thn (he a s σ H _ I h) λv o zW=>?_);obtain⟨x,O,y,N,p⟩:=zW;refine wpAny_Slice (thn (hl a o σ O _ y p) λvl E zW=>?_);obtain⟨l,m,z,B,M⟩:=zW;refine thn (hu a E σ m _ z M) λi c zW=>?_;obtain⟨u,j,G,L,D⟩:=zW;rw[evalPart_none];refine mW ?_;have t:Inv X a σ j {c with heap:=c.heap.push {cls:=.type "slice",data:=.fields #[vl,i,.none]}}:=G.kept λb P q=>lK _ q;obtain⟨T,id,J,K,F⟩:=hr a {c with heap:=c.heap.push {cls:=.type "slice",data:=.fields #[vl,i,.none]}} σ j x v vl i l u c.heap.objs.size Q t N (Heap.IsSliceOf.new ..) B L D;exact tail_any K J F (by with_unfolding_all rfl)
noncomputable def cutV(xs:List V)(lo hi:Option Int):List V:=(xs.drop (HT.sIx xs.length 0 lo)).take (HT.sIx xs.length xs.length hi-HT.sIx xs.length 0 lo)
theorem cutV_length(xs:List V)(lo hi:Option Int):(cutV xs lo hi).length<=xs.length:=by
 unfold cutV;rw[lI,List.length_drop]
 lia
end
noncomputable def ixN(n:Nat)(i:Int):Option Nat:=if 0<=i then(if i<n then some i.toNat else none)else if-(n:Int)<=i then some (i+n).toNat else none
noncomputable def atI{α:Type}(xs:List α)(i:Int):Option α:=(ixN xs.length i).bind λj=>xs[j]?
theorem ixN_seq(h:ixN n i=some j):seqIndex? i n=some j/\j<n/\-(n:Int)<=i/\i<n:=by
 unfold ixN at h;by_cases h0:0<=i
 ·rw[if_pos h0]at h;by_cases h1:i<n
  ·rw[if_pos h1]at h;have e :=lY h;exact⟨by rw[seqIndex_of h0 h1,e],by lia,by lia,h1⟩
  ·rw[if_neg h1]at h;cases h
 ·rw[if_neg h0]at h;by_cases h1:-(n:Int)<=i
  ·rw[if_pos h1]at h;have e :=lY h;exact⟨by rw[seqIndex_neg (by lia) h1,e],by lia,h1,by lia⟩
  ·rw[if_neg h1]at h;cases h
theorem atI_get(h:atI xs i=some v):∃j,seqIndex? i xs.length=some j/\xs[j]?=some v/\j<xs.length/\-(xs.length:Int)<=i/\i<xs.length:=by
 unfold atI at h
 cases e:ixN xs.length i with
 |none=>rw[e]at h;cases h
 |some j=>
  rw[e]at h;obtain⟨b,l,c,a⟩:=ixN_seq e;exact⟨j,b,h,l,c,a⟩
theorem atI_nat{j:Nat}(h:xs[j]?=some v):atI xs (j:Int)=some v:=by
 have a :=(kY.mp h).1
 have e:ixN xs.length (j:Int)=some j:=by
  unfold ixN;rw[if_pos (by lia),if_pos (by lia)];simp
 unfold atI;rw[e];exact h
theorem atI_last(xs:List α)(v:α):atI (xs++[v]) (-1)=some v:=by
 have a:(xs++[v]).length=xs.length+1:=by simp
 have e:ixN (xs++[v]).length (-1)=some xs.length:=by
  unfold ixN;rw[a,if_neg (by decide),if_pos (by lia)]
  congr 1
  lia
 unfold atI;rw[e];simp
noncomputable def PlainIx(b:Expr):Prop:=∀o i,subscripted b false o i=operate [o,i] (getItem o i)
noncomputable def IxR(X:Cx)(r:R2):Prop:=
 ∀(value slice:Expr)(pins:List (Addr×Obj))(s:Shared)(σ:St)(H:Hp)(x y:V)(v u:Value)(Q:VK),Inv X pins σ H s->RelV x v->RelV y u->r x y H Q->
  subscripted slice false v u=operate [v,u] (getItem v u)->wpAny (model X.prog X.w) X.A (subscriptTail value slice v u) (EP X pins σ Q) X.xe s
noncomputable def MtR(X:Cx)(id:String)(r:V->List V->Hp->VK->Prop):Prop:=
 ∀(pins:List (Addr×Obj))(s:Shared)(σ:St)(H:Hp)(x:V)(xs:List V)(v:Value)(us:List Value)(Q:VK),Inv X pins σ H s->RelV x v->Vals xs us->r x xs H Q->
  wpAny (model X.prog X.w) X.A (call (.builtin id) (v::us)) (EP X pins σ Q) X.xe s
section
variable{X:Cx}{a b:Expr}{ta tb:TE}{pos:Pos}
theorem aK(hr:IxR X r)(ha:PE X a ta)(hb:PE X b tb)(hs:PlainIx b:=by exactλ_ _=>rfl):PE X (.Subscript a b pos) (tOp r ta tb):=by
 intro c s σ H Q I h;exact Subscript_ (binT ha hb I h λv u l x y e i m j q=>hr a b c l σ e x y v u Q i m j q (hs _ _))
inductive IrIxL(K:W.Frag)(x:V)(y:V)(H:Hp)(Q:VK):Prop
 |mk(p:_)(xs:_)(i:_)(v:_)(h1:x=.ref p)(h2:y=.int i)(h3:SqL K H p xs)(h4:atI xs i=some v)(h5:Q v H):IrIxL K x y H Q
noncomputable def rIxL(K:W.Frag):R2:=λx y H Q=>IrIxL K x y H Q
inductive IrIxT(K:W.Frag)(x:V)(y:V)(H:Hp)(Q:VK):Prop
 |mk(p:_)(xs:_)(i:_)(v:_)(h1:x=.ref p)(h2:y=.int i)(h3:SqT K H p xs)(h4:atI xs i=some v)(h5:Q v H):IrIxT K x y H Q
noncomputable def rIxT(K:W.Frag):R2:=λx y H Q=>IrIxT K x y H Q
noncomputable def rIxS:R2:=λx y H Q=>∃z i c,x=.str z/\y=.int i/\z.length<=sizeLine/\atI z.cps.toList i=some c/\Q (.str ⟨#[c]⟩) H
theorem bC:IxR X (rIxL X.K):=by
 intro A c a s σ H x y v u Q I K N h B;obtain⟨p,S,i,z,rfl,rfl,M,E,q⟩:=h
 cases K;obtain⟨t,rfl⟩:=N;obtain⟨m,r,o,R⟩:=I.list M;obtain⟨j,b,L,T,F,O⟩:=atI_get E;obtain⟨w,D,l⟩:=r.get L;have G:=r.length;have P:=line63;have fin:EP X a σ Q w s:=⟨z,H,I,l,q⟩;by_cases h0:0<=i
 ·have e:i.toNat=j:=by
   rw[seqIndex_of h0 O]at b;exact lY b
  exact item_listR o.isList h0 (by lia) (by rw[e];simpa using D) fin B
 ·have e:(i+(m.toArray.size:Int)).toNat=j:=by
   rw[seqIndex_neg (by lia) F]at b;rw[mf,<-G];exact lY b
  exact subscriptTail_builtinR o.isList.typeIs slot_list_getitem.lookup
   (wpAny_getItem_list_neg o.isList (by lia) (by rw[mf]<;>lia) (by lia) (by rw[e];simpa using D) ⟨rfl,fin⟩) B
theorem aQ:IxR X (rIxT X.K):=by
 intro e b a s σ H x y v u Q I D J h o;obtain⟨p,P,i,z,rfl,rfl,F,m,q⟩:=h
 cases D;obtain⟨t,rfl⟩:=J;obtain⟨G,r,l,O⟩:=I.tuple F;obtain⟨j,K,E,R,M,S⟩:=atI_get m;obtain⟨w,L,c⟩:=r.get E;have A:=r.length;have N:=line63;have fin:EP X a σ Q w s:=⟨z,H,I,c,q⟩
 exact subscriptTail_builtinR l.typeIs slot_tuple_getitem.lookup
  (getItem_tuple l (by lia) (by lia) (by rw[mf,<-A];exact K) (by simpa using L) ⟨rfl,fin⟩) o
theorem ix_str:IxR X rIxS:=by
 intro b a e s σ H x y v u Q I D A h p;obtain⟨z,i,c,rfl,rfl,L,o,q⟩:=h;obtain⟨t,rfl⟩:=D;obtain⟨J,rfl⟩:=A;obtain⟨j,l,E,G,r,F⟩:=atI_get o;have w:z.cps.toList.length=z.length:=by simp[Str.length]
 rw[w]at l r F;have K:=line63
 exact tail_any (typeIs_str s z t) slot_str_getitem.lookup (getItem_str (by
  have m:decide (i< -(2^63:Int))=false:=lM (by lia);have B:decide (i≥2^63)=false:=lM (by lia);rw[m,B,Bool.or_false]) (by rw[l];simpa using E) ⟨.str ⟨#[c]⟩,H,I.tok _,⟨_,rfl⟩,q⟩) p
theorem slice_bounds(lo hi:Option Int)(n:Nat):(sliceBounds lo hi none n).1=((HT.sIx n 0 lo:Nat):Int)/\(sliceBounds lo hi none n).2.1=((HT.sIx n n hi:Nat):Int)/\(sliceBounds lo hi none n).2.2=1:=by
 refine⟨?_,?_,rfl⟩
 ·cases lo with
  |none=>simp[sliceBounds,HT.sIx]
  |some i=>
   simp only[sliceBounds,HT.sIx,Option.getD_none,show(1:Int)>0 by decide,if_true];by_cases h:i<0
   ·simp only[h,if_true]<;>lia
   ·simp only[h,if_false]<;>lia
 ·cases hi with
  |none=>simp[sliceBounds,HT.sIx]
  |some i=>
   simp only[sliceBounds,HT.sIx,Option.getD_none,show(1:Int)>0 by decide,if_true];by_cases h:i<0
   ·simp only[h,if_true]<;>lia
   ·simp only[h,if_false]<;>lia
theorem slicePick_cut(its:List Value)(lo hi:Option Int):slicePick its.toArray lo hi none=((its.drop (HT.sIx its.length 0 lo)).take (HT.sIx its.length its.length hi-HT.sIx its.length 0 lo)).toArray:=by
 obtain⟨a,c,b⟩:=slice_bounds lo hi its.toArray.size;unfold slicePick;rw[a,c,b];simp only[sliceRange_one,pick_run,mf]<;>rfl
inductive IrSlL(K:W.Frag)(x:V)(lo:Option Int)(hi:Option Int)(H:Hp)(Q:VK):Prop
 |mk(a:_)(xs:_)(h1:x=.ref a)(h2:SqL K H a xs)(h3:∀p,H p=none->Q (.ref p) (upd H p (.lst (cutV xs lo hi)))):IrSlL K x lo hi H Q
noncomputable def rSlL(K:W.Frag):V->Option Int->Option Int->Hp->VK->Prop:=λx lo hi H Q=>IrSlL K x lo hi H Q
theorem ki:SlR X (rSlL X.K):=by
 intro l s σ H x v vl E i j F Q I z p w A h;obtain⟨a,c,rfl,y,q⟩:=h
 cases z;obtain⟨t,r,m,B⟩:=I.list y;have e:=r.length;refine⟨"list",_,slot_list_getitem.lookup,m.isList.typeIs,?_⟩;refine wpAny_getItem_list_slice m.isList p w A .none (by simp) ?_ (by rw[mf]<;>lia);rw[slicePick_cut,<-e];refine⟨.ref s.heap.objs.size,_,I.laid (λb D q=>lK _ q) (k5 _) ?_,rfl,q _ (I.hok.fresh (k5 _))⟩;exact⟨lC (cutV_length c i j) B,_,0,(r.drop (HT.sIx c.length 0 i)).take (HT.sIx c.length c.length j-HT.sIx c.length 0 i),me _ rfl⟩
noncomputable def ic:V->Bool
 |.non=>true
 |.bl _=>true
 |.int _=>true
 |.str _=>true
 |_=>false
noncomputable def eqV:V->V->Bool
 |.non,.non=>true
 |.bl a,.bl b=>a==b
 |.bl a,.int b=>(if a then 1 else 0)==b
 |.int a,.bl b=>a==(if b then 1 else 0)
 |.int a,.int b=>a==b
 |.str a,.str b=>a==b
 |_,_=>false
theorem eqAt_V(ry:RelV y u)(rx:RelV x v)(fy:ic y=true)(fx:ic x=true):SeqAt.EqAt A s u v (eqV y x):=by
 cases y with
 |non=>
  cases ry
  cases x with
  |non=>cases rx;exact SeqAt.EqAt.same _
  |bl b=>cases rx;exact SeqAt.EqAt.none_bool b
  |int b=>obtain⟨t,rfl⟩:=rx;exact SeqAt.EqAt.none_int b t
  |str b=>obtain⟨t,rfl⟩:=rx;exact SeqAt.EqAt.none_str b t
  |_=>exact absurd (show false=true from fx) lX
 |bl a=>
  cases ry
  cases x with
  |non=>cases rx;exact SeqAt.EqAt.bool_none a
  |bl b=>cases rx;exact SeqAt.EqAt.bool_bool a b
  |int b=>obtain⟨t,rfl⟩:=rx;exact SeqAt.EqAt.bool_int a b t
  |str b=>obtain⟨t,rfl⟩:=rx;exact SeqAt.EqAt.bool_str a b t
  |_=>exact absurd (show false=true from fx) lX
 |int a=>
  obtain⟨c,rfl⟩:=ry
  cases x with
  |non=>cases rx;exact SeqAt.EqAt.int_none a c
  |bl b=>cases rx;exact SeqAt.EqAt.int_bool a c b
  |int b=>obtain⟨t,rfl⟩:=rx;exact SeqAt.EqAt.int_int a c b t
  |str b=>obtain⟨t,rfl⟩:=rx;exact SeqAt.EqAt.int_str a c b t
  |_=>exact absurd (show false=true from fx) lX
 |str a=>
  obtain⟨c,rfl⟩:=ry
  cases x with
  |non=>cases rx;exact SeqAt.EqAt.str_none a c
  |bl b=>cases rx;exact SeqAt.EqAt.str_bool a c b
  |int b=>obtain⟨t,rfl⟩:=rx;exact SeqAt.EqAt.str_int a c b t
  |str b=>obtain⟨t,rfl⟩:=rx;exact SeqAt.EqAt.str_str a c b t
  |_=>exact absurd (show false=true from fx) lX
 |_=>exact absurd (show false=true from fy) lX
noncomputable def eqU(x:V)(u:Value):Bool:=match u with
 |.none=>eqV .non x
 |.bool b=>eqV (.bl b) x
 |.int i _=>eqV (.int i) x
 |.str z _=>eqV (.str z) x
 |_=>false
theorem eqU_of(r:RelV y u)(f:ic y=true):eqU x u=eqV y x:=by
 cases y with
 |non=>cases r;rfl
 |bl b=>cases r;rfl
 |int i=>obtain⟨t,rfl⟩:=r;rfl
 |str z=>obtain⟨t,rfl⟩:=r;rfl
 |_=>exact absurd (show false=true from f) lX
theorem any_eqU:∀{xs:List V}{us:List Value},Vals xs us->xs.all ic=true->us.any (eqU x)=xs.any λy=>eqV y x
 |_,_,.nil,_=>rfl
 |y::xs,u::us,.cons r t,f=>by
  rw[List.all_cons,Bool.and_eq_true]at f;rw[List.any_cons,List.any_cons,eqU_of r f.1,any_eqU t f.2]
theorem kL(rx:RelV x v)(fx:ic x=true):∀{xs:List V}{us:List Value},Vals xs us->xs.all ic=true->∀u∈us,SeqAt.EqAt A s u v (eqU x u)
 |_,_,.nil,_=>λu a=>by cases a
 |y::xs,u::us,.cons r t,f=>λb a=>by
  rw[List.all_cons,Bool.and_eq_true]at f;rcases lN.mp a with rfl|a
  ·rw[eqU_of r f.1];exact eqAt_V r rx f.1 fx
  ·exact kL rx fx t f.2 b a
noncomputable def inV(x:V)(xs:List V):Bool:=xs.any λy=>eqV y x
noncomputable def rIn(K:W.Frag)(neg:Bool):R2:=λx y H Q=>∃p xs,y=.ref p/\(SqL K H p xs∨SqT K H p xs)/\ic x=true/\xs.all ic=true/\Q (.bl (if neg then !inV x xs else inV x xs)) H
theorem op_notIn_seq:OpR X (compareOp .NotIn) (rIn X.K true):=by
 intro i s σ H x y v u Q I j m h;obtain⟨p,t,rfl,b,l,fs,q⟩:=h
 cases m;rcases b with b|b
 ·obtain⟨a,r,c,o⟩:=I.list b;refine SeqAt.notIn_listAt (eqU x) c.isList (λw e=>kL j l r fs w (by simpa using e)) ⟨.bl _,H,I,rfl,?_⟩;rw[show a.toArray.any (eqU x)=a.any (eqU x) by simp,any_eqU r fs];exact q
 ·obtain⟨a,r,c,o⟩:=I.tuple b;refine SeqAt.notIn_tupleAt (eqU x) c (λw e=>kL j l r fs w (by simpa using e)) ⟨.bl _,H,I,rfl,?_⟩;rw[show a.toArray.any (eqU x)=a.any (eqU x) by simp,any_eqU r fs];exact q
theorem call_len_seq:ie X (.builtin "len") (λxs H Q=>∃p ys,xs=[.ref p]/\(SqL X.K H p ys∨SqT X.K H p ys)/\Q (.int ys.length) H):=by
 intro j s σ H xs o Q I r h;obtain⟨p,ys,rfl,b,q⟩:=h;obtain⟨u,rfl,l⟩:=jL r
 cases l;have t:=line63;rcases b with b|b
 ·obtain⟨c,i,e,m⟩:=I.list b;have a:=i.length;exact Calls.call_len_list e.isList (by simp only[mf]<;>lia) ⟨.int ys.length,H,I.tok _,⟨s.toks+1,by rw[mf,a]⟩,q⟩
 ·obtain⟨c,i,e,m⟩:=I.tuple b;have a:=i.length;exact len_tuple e (by simp only[mf]<;>lia) ⟨.int ys.length,H,I.tok _,⟨s.toks+1,by rw[mf,a]⟩,q⟩
theorem call_len_str:ie X (.builtin "len") (λxs H Q=>∃z,xs=[.str z]/\z.length<=sizeLine/\Q (.int z.length) H):=by
 intro a s σ H xs b Q I r h;obtain⟨z,rfl,e,q⟩:=h;obtain⟨u,rfl,t,rfl⟩:=jL r;have c:=line63;exact len_str (by lia) ⟨.int z.length,H,I.tok _,⟨_,rfl⟩,q⟩
theorem kU:ie X (.type "list") (λxs H Q=>∃p ys,xs=[.ref p]/\(SqL X.K H p ys∨SqT X.K H p ys)/\∀l,H l=none->Q (.ref l) (upd H l (.lst ys))):=by
 intro x s σ H xs F Q I r h;obtain⟨p,ys,rfl,m,q⟩:=h;obtain⟨u,rfl,E⟩:=jL r
 cases E
 have fin:∀(a:List Value),Vals ys a->ys.length<=sizeLine->∀(c:Heap)(i:Nat),(∀b o',s.heap.get? b=some o'->c.get? b=some o')->
   c.get? s.heap.objs.size=some {cls:=.type "list",dict:=none,data:=.seq a.toArray i,slots:=#[]}->EP X x σ Q (.ref s.heap.objs.size) {s with heap:=c}:=λa j y c i kp e=>
  ⟨.ref s.heap.objs.size,_,I.laid kp (k5 _) (show ObjOk X.prog X.w _ c _ (.lst ys) from⟨y,a,i,j,e⟩),rfl,q _ (I.hok.fresh (k5 _))⟩
 rcases m with m|m
 ·obtain⟨a,j,B,y⟩:=I.list m;have t:=j.length;obtain⟨o,z,A,n,D⟩:=B.isList;exact call_list_seq p (.inl rfl) z A D (λc i kp e=>fin a j y c i kp e) (by simp only[mf]<;>lia)
 ·obtain⟨a,j,B,y⟩:=I.tuple m;have t:=j.length;obtain⟨o,z,A,n,D⟩:=B;exact call_list_seq p (.inr rfl) z A D (λc i kp e=>fin a j y c i kp e) (by simp only[mf]<;>lia)
noncomputable def tyV(K:W.Frag)(T:String)(x:V)(H:Hp):Prop:=match x with
 |.str _=>T="str"
 |.int _=>T="int"
 |.ref p=>(T="list"/\∃xs,SqL K H p xs)∨(T="tuple"/\∃o,K.lookup p=some o/\o.cls=.type "tuple"/\o.dict=none)∨
   (T="dict"/\((∃kvs,H p=some (.dK kvs))∨∃kvs,H p=some (.dT kvs)))∨(T="set"/\∃S n,H p=some (.set S n))
 |_=>False
theorem tyV_is(I:Inv X pins σ H s)(r:RelV x v)(ty:tyV X.K T x H):
  s.TypeIs v T/\∀a,v=.ref a->∃ob,s.heap.get? a=some ob/\ob.dict=none:=by
 cases x with
 |str z=>
  obtain⟨t,rfl⟩:=r
  cases(show T="str"from ty);exact⟨typeIs_str s z t,λ_ e=>nomatch e⟩
 |int i=>
  obtain⟨t,rfl⟩:=r
  cases(show T="int"from ty);exact⟨typeIs_int s i t,λ_ e=>nomatch e⟩
 |ref p=>
  cases r;rcases ty with⟨rfl,xs,hq⟩|⟨rfl,o,hk,hc,h⟩|⟨rfl,hk⟩|⟨rfl,S,n,hk⟩
  ·obtain⟨l,_,j,_⟩:=I.list hq;refine⟨j.isList.typeIs,λa e=>?_⟩
   cases e;obtain⟨o,n,e,c,h,_⟩:=j;exact⟨o,e,h⟩
  ·refine⟨⟨o,I.kIn p o hk,hc⟩,λa e=>?_⟩
   cases e;exact⟨o,I.kIn _ o hk,h⟩
  ·have z:∃o,s.heap.get? p=some o/\o.ExactDict:=by
    rcases hk with⟨kvs,hk⟩|⟨kvs,hk⟩
    ·obtain⟨_,_,_,_,o,_,_,e,ex,_⟩:=I.hok p _ hk;exact⟨o,e,ex⟩
    ·obtain⟨_,_,_,_,o,_,_,e,ex,_⟩:=I.hok p _ hk;exact⟨o,e,ex⟩
   obtain⟨o,e,ex⟩:=z;refine⟨⟨o,e,ex.1⟩,λa b=>?_⟩
   cases b;exact⟨o,e,ex.2.1⟩
  ·obtain⟨o,_,_,_,e,ex,_⟩:=I.hok p _ hk;refine⟨⟨o,e,ex.1⟩,λa b=>?_⟩
   cases b;exact⟨o,e,ex.2.1⟩
 |_=>exact False.elim ty
noncomputable def tBM0(K:W.Frag)(T:String)(r:V->List V->Hp->VK->Prop)(to:TE):TE:=λσ H Q=>to σ H λx H1=>tyV K T x H1/\r x [] H1 Q
noncomputable def tBM(K:W.Frag)(T:String)(r:V->List V->Hp->VK->Prop)(to:TE)(t:TA):TE:=λσ H Q=>to σ H λx H1=>tyV K T x H1/\t σ H1 λxs H2=>r x xs H2 Q
variable{o e:Expr}{es:List Expr}{to:TE}{t:TA}{name:Str}{apos cpos:Pos}{T id:String}{r:V->List V->Hp->VK->Prop}
theorem pe_bm0(pa:PlainAttrs T)(slot:Slot T name id)(hty:typeOf (.builtin id)=pure (.type "method_descriptor"))(hm:MtR X id r)(ho:PE X o to)
  (hbase:attributeBase o name X.env (eval o X.env)=eval o X.env:=by rfl)(hline:(apos.endLine==cpos.line)=true:=by rfl):PE X (.Call (.Attribute o name apos) [] [] cpos) (tBM0 X.K T r to):=by
 intro a s σ H Q I h;refine wpAny_Call_method0_late hbase hline (thn (ho a s σ H _ I h) λv i zW=>?_);obtain⟨x,m,b,c,ty,j⟩:=zW;obtain⟨l,e⟩:=tyV_is b c ty;exact⟨T,id,pa,slot,hty,l,e,Calls.callWith_builtin rfl (PySem.evalArgs_none (hm a i σ m x [] v [] Q b c .nil j))⟩
theorem kF(pa:PlainAttrs T)(slot:Slot T name id)(hty:typeOf (.builtin id)=pure (.type "method_descriptor"))(hm:MtR X id r)(ho:PE X o to)(ha:PA X (e::es) t)
  (hbase:attributeBase o name X.env (eval o X.env)=eval o X.env:=by rfl)
  (hfew:((backTo cpos (starEach (e::es) X.env)).all (λx=>!x.1)&&(backToKw cpos (keywordEach [] X.env)).all (λx=>x.1.isSome)
   &&decide ((e::es).length+([]:List Keyword).length+(if([]:List Keyword).isEmpty then 0 else 1)<30))=true:=by rfl)
  (hline:(apos.endLine==cpos.line)=true:=by rfl)(hs:starEach (e::es) X.env=(false,eval e X.env)::starEach es X.env:=by rfl)(hplain:(backTo cpos (starEach es X.env)).any (·.1)=false:=by rfl):
  PE X (.Call (.Attribute o name apos) (e::es) [] cpos) (tBM X.K T r to t):=by
 intro a s σ H Q I h;refine wpAny_Call_method_late hbase hfew hline rfl (thn (ho a s σ H _ I h) λv q zW=>?_);obtain⟨x,E,b,i,ty,w⟩:=zW;obtain⟨A,B⟩:=tyV_is b i ty;refine⟨T,id,pa,slot,hty,A,B,?_⟩;have c:=ha cpos a q σ E _ b w;rw[hs]at c⊢;refine Calls.callWith_builtin (by show(false||(backTo cpos (starEach es X.env)).any (·.1))=false;rw[hplain]<;>rfl) (Calls.evalArgs_plain ?_);exact thn c (by rintro p z⟨m,l,y,j,D⟩;exact hm a z σ l x m v p Q y i j D)
end
noncomputable def MtM(X:Cx)(id:String)(r:V->List V->Hp->VK->Prop):Prop:=
 ∀(pins:List (Addr×Obj))(s:Shared)(σ:St)(H:Hp)(x:V)(xs:List V)(v:Value)(us:List Value)(Q:VK),Inv X pins σ H s->RelV x v->Vals xs us->r x xs H Q->
  wpAny (model X.prog X.w) X.A (call (.builtin id) (v::us)) (EP X pins σ Q) X.xe s
theorem Vals.one{x:V}{us:List Value}(h:Vals [x] us):∃u,us=[u]/\RelV x u:=by cases h with|cons r t=>cases t;exact ⟨_,rfl,r⟩
section
variable{X:Cx}{pins:List (Addr×Obj)}{σ:St}{H:Hp}{s:Shared}{l b:Addr}{xs ys zs:List V}
theorem Inv.lset{its its':List Value}(I:Inv X pins σ H s)(hH:H l=some (.lst xs))
  (e:s.heap.get? l=some {cls:=.type "list",data:=.seq its.toArray n})(hf:f its.toArray=its'.toArray)(hv:Vals ys its')(hz:ys.length<=sizeLine):
  Inv X pins σ (upd H l (.lst ys)) {s with heap:=s.heap.update l (Obj.mapSeq f),toks:=t'}:=by
 have q:=PySem.IsL.update e f;rw[hf]at q;refine I.write (by rw[hH];exact trivial) (.inl rfl) (λc u a b=>(Heap.get?_update_other s.heap (Obj.mapSeq f) (Ne.symm a)).trans b) ⟨_,q⟩ ?_;exact⟨hz,its',_,hv,q⟩
theorem Inv.lnew(I:Inv X pins σ H s)(hv:Vals ys its)(hz:ys.length<=sizeLine):
  Inv X pins σ (upd H s.heap.objs.size (.lst ys)) {s with heap:=s.heap.push {cls:=.type "list",data:=.seq its.toArray},toks:=t'}:=
 I.laid (λ_ _ q=>lK _ q) (k5 _) ⟨hz,its,0,hv,me _ rfl⟩
theorem Inv.fresh(I:Inv X pins σ H s):H s.heap.objs.size=none:=I.hok.fresh (k5 _)
theorem Inv.lstM(I:Inv X pins σ H s)(hH:H l=some (.lst xs)):xs.length<=sizeLine/\∃(its:List Value)(n:Nat),Vals xs its/\xs.length=its.length/\s.heap.get? l=some {cls:=.type "list",data:=.seq its.toArray n}:=by
 obtain⟨z,its,n,r,e⟩:=I.hok l _ hH;exact⟨z,its,n,r,r.length,e⟩
end
section
variable{X:Cx}
inductive IrAppend(x:V)(vs:List V)(H:Hp)(Q:VK):Prop
 |mk(l:_)(xs:_)(y:_)(h1:x=.ref l)(h2:vs=[y])(h3:H l=some (.lst xs))(h4:xs.length<sizeLine)(h5:Q .non (upd H l (.lst (xs++[y])))):IrAppend x vs H Q
noncomputable def rAppend:V->List V->Hp->VK->Prop:=λx vs H Q=>IrAppend x vs H Q
theorem eN:MtM X "list.append" rAppend:=by
 intro b s σ H x o v p Q I m i h;obtain⟨l,w,y,rfl,rfl,c,A,q⟩:=h
 cases m;obtain⟨u,rfl,j⟩:=i.one;obtain⟨z,a,n,r,t,e⟩:=I.lstM c;refine call_meets F.slot_list_append ⟨_,e,rfl⟩ F.entry_list_append (F.args_list_append_2 _ _) (PySem.list_append l a.toArray n u (by rw[mf];lia)) ⟨e,?_⟩;refine⟨.non,_,I.lset c e (by simp) (r.append (.cons j .nil)) ?_,rfl,q⟩;rw[lG,l9]
 lia
inductive IrCat(x:V)(y:V)(H:Hp)(Q:VK):Prop
 |mk(l:_)(b:_)(xs:_)(zs:_)(h1:x=.ref l)(h2:y=.ref b)(h3:H l=some (.lst xs))(h4:H b=some (.lst zs))(h5:xs.length+zs.length<=sizeLine)(h6:∀p,H p=none->Q (.ref p) (upd H p (.lst (xs++zs)))):IrCat x y H Q
noncomputable def rCat:R2:=λx y H Q=>IrCat x y H Q
theorem op_cat:OpR X (binaryOp .Add) rCat:=by
 intro i s σ H x y v u Q I B w h;obtain⟨l,b,F,G,rfl,rfl,A,t,K,q⟩:=h
 cases B
 cases w;obtain⟨z,c,n,r,D,e⟩:=I.lstM A;obtain⟨J,a,E,j,p,m⟩:=I.lstM t;refine PySem.P.add_list e m ?_ (by rw[mf,mf];lia);have o:c.toArray++a.toArray=(c++a).toArray:=by simp
 rw[o];exact⟨.ref _,_,I.lnew (r.append j) (by rw[lG];lia),rfl,q _ I.fresh⟩
end
end L2
namespace Att
open PySem PySem.W PySem.Calls PyProof.Rows
theorem ints_of_wellAll:∀(ns:List Int)(vs:List Value),WellAll P h vs (ns.map WData.int)->IntsAre vs ns:=by
 intro ns
 induction ns with
 |nil=>
  intro vs w;rw[nZ]at w
  cases w;exact .nil
 |cons n ns ih=>
  intro vs w;rw[mw]at w
  cases w with
  |cons a b=>
   cases a;exact .cons _ _ (ih _ b)
theorem script_of{l:OpenLaw}(hn:l.most=some n)
  (hpre:l.row.toRowW.claim.pre args=true)(hwl:WellAll P h vals args):
  ∃a vs ns,vals=[Value.ref a]/\args=[WData.list (ns.map WData.int)]/\h.get? a=some {cls:=.type "list",data:=.seq vs.toArray}/\IntsAre vs ns/\ns.length<=n:=by
 have i:WShape.hasAll [] args [.list .int]=true:=(pre_splitW hpre).1;have j:l.pre.holds [] {args:=args}=true:=(pre_splitW hpre).2;obtain⟨d,r,rfl,s,p⟩:=hasAllW_cons i;obtain rfl:=hasAllW_nil p;obtain⟨t,rfl,o⟩:=hasW_list s;obtain⟨ns,rfl⟩:=items_int o
 have b:ns.length<=n:=by
  unfold OpenLaw.pre at j
  have c:(WTm.not (.lt (.lit (.int (n:Int))) (.len (.arg 0)))).holds [] {args:=[.list (ns.map .int)]}=true:=by
   have c:=(holds_andW j).1;rw[hn]at c;exact c
  have e:=condW_of c (w_not (w_lt w_lit (w_len_list (w_arg rfl))));rw[kX]at e;refine Nat.le_of_not_lt λq=>?_;have m:(n:Int)<((ns.length:Nat):Int):=by omega
  first
   |(rw[lQ m]at e;exact absurd e (by decide))
   |(simp at e;lia)
 cases hwl with
 |cons w1 w2=>
  cases w2
  cases w1 with
  |list ho hall=>exact⟨_,_,ns,rfl,rfl,ho,ints_of_wellAll ns _ hall,b⟩
theorem post_true(l:OpenLaw)(args:List WData):l.row.toRowW.claim.post args (.bool true) args=true:=
 postW_of
  (show WShape.has [] (.bool true) .bool=true by first|rfl|decide|simp[WShape.has,WShape.arms,WShape.armsAll])
  (show(WTm.eq .res (.lit (.bool true))).value [] {args:=args,res:=some (.bool true),after:=args}=some (.bool (true==true)) from w_eq_bool (w_res rfl) w_lit) rfl
end Att
namespace L2
open PySem PySem.Spec PyProof.Rows
theorem vals_ints:∀{vs:List Value}{ns:List Int},IntsAre vs ns->Vals (ns.map V.int) vs
 |_,_,.nil=>.nil
 |_,_,.cons n t h=>.cons ⟨t,rfl⟩ (vals_ints h)
noncomputable def Only(H:Hp):Prop:=∀b,H b=none∨∃o xs,H b=some (.frz o (.lst xs))
theorem law_call{K:W.Frag}
  (KX:K.In s₁.heap)(hns:s₁.heap.Ns mainGlobals mg)(hb:s₁.heap.Ns builtinsNs mb)(hbb:∀x:Str,x≠"__name__"->mb x=bootBuiltins x)(hlim:s₁.heap.NoLimit)(hg:s₁.gens=#[])
  (ha:s₁.heap.get? a=some {cls:=.type "list",data:=.seq vs.toArray})(hi:IntsAre vs ns)(hl:ns.length<=sizeLine)(hr:Room k callerA)
  (F:∀base:Heap,K.In base->base.Ns mainGlobals mg->FnOk P w K mg base CX k fa fd [x] sp)(hbind:∀(s:Shared)(u:Value),BindsTo s fd ⟨[u],[]⟩ [(x,u)])
  (hsp:∀H:Hp,Only H->SqL K H a (ns.map V.int)->sp [.ref a] H (λv _=>v=.bl true) λ_ _ _=>False)
  (hCX:∀H e s',CX [] H s₁ (λ_ _ _=>False) e s'->False):
  codeAny (model P w) callerA (.call (.ref fa) ⟨[.ref a],[]⟩) (λr s'=>r=.ok (.ret (.bool true))/\OldK s₁.heap s'.heap/\s'.os=s₁.os/\AllBare s'.gens) s₁:=by
 have L:=vals_ints hi;have B:=hi.length
 have j:∀H:Hp,Only H->SqL K H a (ns.map V.int)->HOk P w H s₁.heap->(∀b,H b≠none->b=a)->(H a≠none->K.lookup a=none)->
   codeAny (model P w) callerA (.call (.ref fa) ⟨[.ref a],[]⟩) (λr s'=>r=.ok (.ret (.bool true))/\OldK s₁.heap s'.heap/\s'.os=s₁.os/\AllBare s'.gens) s₁:=by
  intro H N X y M U;have c:∀{b:Addr}{o:Obj},s₁.heap.get? b=some o->H b=none->(hidT s₁.heap H).get? b=some o:=λe n=>hidT_get e n
  have I:∀{b:Addr}{o:Obj}{l:Array DictEntry}{t:Nat},s₁.heap.get? b=some o->o.data=.dict l t->H b=none:=λ{b o l t}e d=>by
   cases q:H b with
   |none=>rfl
   |some u=>
    have G :=M b (by rw[q];simp);subst G;rw[ha]at e;cases e;have R:Data.seq vs.toArray _=Data.dict l t:=d
    cases R
  have i:∀{b:Addr}{m:Str->Option Value},s₁.heap.Ns b m->(hidT s₁.heap H).Ns b m:=λ{b m}⟨o,l,t,e,d,r⟩=>⟨o,l,t,c e (I e d),d,r⟩
  have p:K.In (hidT s₁.heap H):=λb o e=>c (KX b o e) (by
   cases q:H b with
   |none=>rfl
   |some u=>
    have G :=M b (by rw[q];simp);subst G;rw[U (by rw[q];simp)]at e;cases e)
  have Q:Mod K mg (hidT s₁.heap H):=⟨p,i hns,⟨mb,i hb,hbb⟩,let⟨mc,h1,h2⟩:=hlim;⟨mc,i h1,h2⟩⟩;have S:Env0 P w K mg (hidT s₁.heap H) callerA [] s₁ H:=⟨rfl,Q,λb o e=>of_hidT e,Nat.le_of_eq (hidT_size _ _),trivial,λb hb=>absurd (show b∈([]:List Addr) from hb) (by simp),y,.of_eq hg⟩;refine codeAny_mono ((F _ p (i hns)).run callerA [] s₁ H ⟨[.ref a],[]⟩ [.ref a] [.ref a] _ _ hr S (hbind s₁ (.ref a)) (.cons rfl .nil) (hsp H N X)) λr s' h=>?_
  cases r with
  |error e=>exact(hCX H e s' h).elim
  |ok fl=>
   cases fl with
   |next=>exact False.elim h
   |brk=>exact False.elim h
   |cont=>exact False.elim h
   |ret u=>
    obtain⟨v,H',T,D,un,A,r',q⟩:=h;have O :=q;subst O;obtain rfl :=r';refine⟨rfl,OldK.of_keep λb o e=>?_,T,D⟩
    cases q:H b with
    |none=>exact un.keep b o e q (by intro z;exact absurd (show b∈([]:List Addr) from z) (by simp)) (by simp)
    |some u=>
     rcases N b with z|⟨ob,xs,z⟩
     ·rw[q]at z;cases z
     ·have Z:=un.frzs b ob _ z;obtain⟨J,_⟩:=y b _ z;obtain⟨Y,_⟩:=A b _ Z;rw[e]at J;cases J;exact Y
 cases hk:K.lookup a with
 |some o=>
  have e:=KX a o hk;rw[ha]at e
  cases e;refine j (λ_=>none) (λ_=>.inl rfl) (.inr ⟨_,vs.toArray,_,hk,rfl,rfl,rfl,by rw[mf,B];exact hl,by simpa using L⟩) (λb u z=>by have E:(none:Option HO)=some u:=z;cases E) (λb z=>absurd rfl z) λz=>absurd rfl z
 |none=>
  refine j (λb=>if b=a then some (.frz {cls:=.type "list",data:=.seq vs.toArray} (.lst (ns.map V.int))) else none) (λb=>?_) (.inl (.inr ⟨{cls:=.type "list",data:=.seq vs.toArray},if_pos rfl⟩)) (λb u z=>?_) (λb z=>?_) λ_=>hk
  ·by_cases hb:b=a
   ·exact .inr ⟨_,_,if_pos hb⟩
   ·exact .inl (if_neg hb)
  ·by_cases hb:b=a
   ·have E:=(if_pos hb).symm.trans z
    cases E;subst hb;exact⟨ha,by rw[kX];exact hl,vs,_,L,ha⟩
   ·have E:=(if_neg hb).symm.trans z
    cases E
  ·by_cases hb:b=a
   ·exact hb
   ·exact absurd (if_neg hb) z
noncomputable def bX(s:Stmt)(j:Nat):Stmt:=match s with
 |.ClassDef _ _ _ body _ _ _ _ _ _ _=>body.getD j (.Pass ⟨0,0,0,0⟩)
 |_=>.Pass ⟨0,0,0,0⟩
noncomputable def fH(s:Stmt):Arguments:=match s with
 |.FunctionDef _ a _ _ _ _ _ _ _ _=>a
 |_=>{posonlyargs:=[],args:=[],vararg:=none,kwonlyargs:=[],kw_defaults:=[],kwarg:=none,defaults:=[]}
noncomputable def cZ(s:Stmt):List Stmt:=match s with
 |.FunctionDef _ _ b _ _ _ _ _ _ _=>b
 |_=>[]
noncomputable def aI(s:Stmt):Scope:=match s with
 |.FunctionDef _ _ _ _ _ _ sc _ _ _=>sc
 |_=>{kind:=.function,names:=[],isGenerator:=false,isCoroutine:=false}
noncomputable abbrev CX0:CXT:=λ_ _ _ _ _ _=>False
noncomputable abbrev E0:XK:=λ_ _ _=>False
theorem aJ:fJ CX0 X E0:=λ_ _ _ _ _ _ _ h=>h.elim
structure Fun(K:W.Frag)(x qual:Str)(st:Stmt)(f:Addr)(fd:FuncData):Prop where
 ex:∃(oc:Value)(od:Option Addr)(kV doc pm:Value)(an:Option Addr)(cdv ct:Value)(osl:Array (Option Value)),
  fd=PySem.W.fnOf x qual (fH st) (cZ st) (aI st) .none kV doc pm an cdv ct/\K.lookup f=some ⟨oc,od,.func fd,osl⟩/\PySem.W.codeIn K cdv qual=true
 kp:PySem.W.keepIn K (.ref f)=true
section
variable{P:Program}{w:World}{K:W.Frag}{mg:Str->Option Value}{base:Heap}
theorem Fun.okA{st:Stmt}(F:Fun K x qual st f fd)(S:FnScope N ps (aI st))
  (hbody:∀(cdv:Value)(A:Around)(outer:List Env)(s:Shared)(H:Hp)(vs:List V)(Q:VK)(E:XK),Room k (A.deeper (envOfC qual (aI st) s.heap.objs.size f cdv))->sp vs H Q E->
   ∃t,PSs (cxOf CX0 P w K mg base N qual (aI st) f cdv A outer s H E).nox (cZ st) t/\t {nx:=λ_ H'=>Q .non H',rt:=Q} (hI N vs) H)(len:∀vs H Q E,sp vs H Q E->vs.length=ps.length:=by intro _ _ _ _ h;cases h;subst_vars;rfl):FnOk P w K mg base CX0 (k+1) f fd ps sp:=by
 obtain⟨o,l,kV,i,p,r,cdv,m,c,rfl,e,b⟩:=F.ex;refine fn_of e b S len λA outer s H vs Q E j a=>?_;obtain⟨t,h,q⟩:=hbody cdv A outer s H vs Q E j a;exact⟨t,h.nox,q⟩
theorem Fun.binds{st:Stmt}(F:Fun K x qual st f fd)
  (h:∀(kV doc pm:Value)(an:Option Addr)(cdv ct:Value)(us:List Value),us.length=ps.length->bindArgs (PySem.W.fnOf x qual (fH st) (cZ st) (aI st) .none kV doc pm an cdv ct) ⟨us,[]⟩=pure (ps.zip us)):Binds K fd ps []:=by
 obtain⟨i,c,kV,doc,pm,an,cdv,ct,a,rfl,e,b⟩:=F.ex;exact .all (h kV doc pm an cdv ct)
theorem fun_mk{st:Stmt}{kV doc pm cdv ct:Value}(l:K.lookup f=some ⟨oc,od,.func (PySem.W.fnOf x qual (fH st) (cZ st) (aI st) .none kV doc pm an cdv ct),osl⟩)
  (c:PySem.W.codeIn K cdv qual=true)(k:PySem.W.keepIn K (.ref f)=true):Fun K x qual st f (PySem.W.fnOf x qual (fH st) (cZ st) (aI st) .none kV doc pm an cdv ct):=⟨⟨oc,od,kV,doc,pm,an,cdv,ct,osl,rfl,l,c⟩,k⟩
end
theorem bI(hr:Room k A):A.units+1<cLine:=ma (Nat.add_le_add_left (by decide:1<=64) _) hr.units
theorem aT(h:n<=1000):n<sizeLine:=ma h (by decide)
section
variable{X:Cx}
theorem pv(i:Nat)(hN:X.N[i]?=some x:=by rfl)(hv:Vis X.env.scope x:=by first|exact Or.inl rfl|exact Or.inr (Or.inl rfl)|exact Or.inr (Or.inr rfl))(hd:(x==("__debug__":Str))=false:=by decide)
  (hcd:(x==("__classdict__":Str))=false:=by decide):PE X (.Name x pos) (tVar i):=pe_var hN hv hd hcd
end
theorem iteF{A B:Prop}(h:B):if false=true then A else B:=by
 rw[if_neg lX];exact h
theorem iteT{A B:Prop}(h:A):if true=true then A else B:=by
 rw[if_pos rfl];exact h
theorem iteNS{c A B:Prop}[Decidable c](hc:c)(h:B):if(!decide c)=true then A else B:=by
 rw[lQ hc];exact iteF h
noncomputable def Same(H H':Hp):Prop:=∀b o,H b=some o->H' b=some o
theorem Same.refl(H:Hp):Same H H:=λ_ _ h=>h
theorem Same.trans(a:Same H H1)(b:Same H1 H2):Same H H2:=λc o h=>b c o (a c o h)
theorem Same.free(e:Same H H')(h:H' l=Option.none):H l=Option.none:=by
 cases q:H l with
 |none=>rfl
 |some o=>
  rw[e l o q]at h
  cases h
theorem Same.seq{K:W.Frag}(e:Same H H')(h:SqL K H a xs):SqL K H' a xs:=by
 rcases h with(h|⟨o,h⟩)|h
 ·exact .inl (.inl (e _ _ h))
 ·exact .inl (.inr ⟨o,e _ _ h⟩)
 ·exact .inr h
end L2
set_option maxHeartbeats 4000000
set_option exponentiation.threshold 300
namespace L2
open PySem PySem.Spec PyProof.Rows
section
variable{X:Cx}
theorem bits_le(h:k.natAbs<2^n):Builtin.Int.intBits k<=n:=by
 unfold Builtin.Int.intBits
 split
 ·exact lD _
 ·rename_i b
  have a:k.natAbs≠0:=by
   intro z;apply b
   have:k=0:=by lia
   simp[this]
  have :=(Nat.log2_lt a).mpr h
  lia
noncomputable def CMulB(i j:Int):Prop:=i.natAbs<2^9000/\j.natAbs<2^9000
theorem CMulB.ok(h:CMulB i j):IntMulOk i j:=by
 refine IntMulOk.of_bits (lC (bits_le h.1) (by decide)) (lC (bits_le h.2) (by decide))
theorem cR:OpR X (binaryOp .Mult) (rI CMulB λi j=>.int (i*j)):=opI λ_ _ _ _ _ _ _ a q=>mul_int q a.ok
noncomputable def CDivB(_ j:Int):Prop:=j≠0/\j.natAbs<2^9000
theorem CDivB.ok(h:CDivB i j):Builtin.divisionGoesByPylong i j=false:=
 PyProof.noPylong_of_log2 ((Nat.log2_lt (by have:=h.1;lia)).mpr h.2)
theorem cQ:OpR X (binaryOp .FloorDiv) (rI CDivB λi j=>.int (i.fdiv j)):=opI λ_ _ _ _ _ _ _ a q=>floordiv_int a.1 q (.inl a.ok)
inductive IrIsI(K:W.Frag)(c:Value)(vs:List V)(H:Hp)(Q:VK):Prop
 |mk(x:_)(y:_)(t:_)(b:_)(h1:vs=[x,y])(h2:(∀u,RelV y u->u=c))(h3:TyOf K H x t)(h4:PySem.W.kitOne K t c=some b)(h5:Q (.bl b) H):IrIsI K c vs H Q
noncomputable def rIsI(K:W.Frag)(c:Value):List V->Hp->VK->Prop:=λvs H Q=>IrIsI K c vs H Q
theorem kW:ie X (.builtin "isinstance") (rIsI X.K c):=by
 intro a s σ H m l Q I r h;obtain⟨x,y,t,b,rfl,i,ty,e,q⟩:=h
 cases r with
 |cons r1 r2=>
  cases r2 with
  |cons r3 r4=>
   cases r4
   have:=i _ r3
   subst this;exact isinst_ok I r1 ty e λj=>⟨.bl b,H,I.tok j,rfl,q⟩
end
section
variable{X:Cx}
noncomputable def eG(X:Cx)(pins:List (Addr×Obj))(N':List Str)(scope:Scope)(cl:List (Str×Addr))(C:Addr)(fp:List Addr)(s:Shared)(H:Hp):Cx:=
 {X with N:=N',s₀:=s,H₀:=H,env:=compEnvC scope cl C X.env,outer:=X.stack,stack:=X.stack,ex:=fp,fn:=λ_=>false,pn:=X.pn++pins,xe:=λ_ _=>False}
structure Clos(X:Cx)(scope:Scope)(cl:List (Str×Addr)):Prop where
 clos:closureFor scope X.env=pure cl
 sub:∀y c,cl.lookup y=some c->X.env.cells.lookup y=some c
 has:∀y,((relabel scope X.env).names.lookup y=some .cell∨(relabel scope X.env).names.lookup y=some .free)->∃c,cl.lookup y=some c
theorem relabel_none(hf:∀x∈scope.names,x.2≠.free):relabel scope env=scope:=by
 unfold relabel
 have:(scope.names.map λ(n,k)=>if(k==NameKind.free&&env.scope.kind==.function&&env.kindOf n==some .cell)then(n,NameKind.cell)else(n,k))=scope.names:=by
  refine map_eq_self λx a=>?_;obtain⟨n,k⟩:=x;have b:(k==NameKind.free)=false:=by simpa using hf _ a
  simp[b]
 rw[this]
theorem Clos.none(hf:∀x∈scope.names,x.2≠.free)(hc:∀x∈scope.names,x.2≠.cell):Clos X scope []:=by
 refine⟨closureFor_none hf,λy c h=>by simp at h,λy h=>?_⟩;rw[relabel_none hf]at h;rcases h with h|h
 ·exact absurd rfl (hc _ (nF h))
 ·exact absurd rfl (hf _ (nF h))
noncomputable def Reads(X:Cx)(scope:Scope)(rest:List Str)(sel:St->St):Prop:=
 ∀σ,(sel σ).length=rest.length/\∀(i:Nat)(y:Str)(v:V),rest[i]?=some y->(sel σ)[i]?=some (some v)->∃j:Nat,X.N[j]?=some y/\σ[j]?=some (some v)/\X.env.scope.names.lookup y=some .cell/\(relabel scope X.env).names.lookup y=some .cell
end
theorem ifV{A B:Prop}(h1:k=m->A)(h2:k≠m->B):if decide (V.int k=V.int m)=true then A else B:=by
 by_cases h:k=m
 ·rw[if_pos (by rw[h];exact lQ rfl)];exact h1 h
 ·rw[if_neg (by rw[lM (by intro z;exact h (V.int.inj z))];decide)];exact h2 h
theorem ifB{c A B:Prop}[Decidable c](h1:c->A)(h2:¬c->B):if decide c=true then A else B:=by
 by_cases h:c
 ·rw[if_pos (lQ h)];exact h1 h
 ·rw[if_neg (by rw[lM h];decide)];exact h2 h
theorem kP{A B:Prop}(h:c=true)(a:A):if c=true then A else B:=by
 rw[if_pos h];exact a
theorem hE{A B:Prop}(h:c=false)(b:B):if c=true then A else B:=by
 rw[if_neg (by rw[h];decide)];exact b
theorem neV(h:k≠m):decide (V.int k=V.int m)=false:=lM (by intro z;exact h (V.int.inj z))
section
variable{X:Cx}{st:Stmt}{rest:List Stmt}{t u:TS}
noncomputable def i9(t u:TS):TS:=λD σ H=>∃M:St->Hp->Prop,t {D with nx:=M} σ H/\∀σ' H',M σ' H'->u D σ' H'
theorem aX(h1:PS X st t)(h2:PSs X rest u):PSs X (st::rest) (i9 t u):=by
 intro a s σ H D I⟨M,h,i⟩;refine wpAny_execs_cons (thn (h1 a s σ H {D with nx:=M} I h) λf j q=>?_)
 cases f with
 |next=>
  obtain⟨b,c,e,q⟩:=q;exact h2 a j b c D e (i b c q)
 |ret v=>exact q
 |brk=>exact q
 |cont=>exact q
end
theorem dA(M:St->Hp->Prop)(h1:t {D with nx:=M} σ H)(h2:∀U:TS,U=u->∀σ' H',M σ' H'->U D σ' H'):i9 t u D σ H:=⟨M,h1,h2 u rfl⟩
theorem gB{p:Prop}(h:p):p:=h
noncomputable def rLen(K:W.Frag):List V->Hp->VK->Prop:=λxs H Q=>∃p ys,xs=[.ref p]/\(SqL K H p ys∨SqT K H p ys)/\Q (.int ys.length) H
theorem cO:ie X (.builtin "len") (rLen X.K):=call_len_seq
end L2
namespace L2
open PySem
noncomputable def Trail(h:Heap)(e:Addr)(vs:Array Value):Option Addr->Prop
 |none=>vs[1]?=some .none
 |some T=>vs[1]?=some (.ref T)/\T≠e/\∃oT ts,h.get? T=some oT/\oT.data=.fields ts/\ts[3]?=some .none
end L2
namespace L2
open PySem PySem.Spec PyProof.Rows
section
variable{X:Cx}{pins:List (Addr×Obj)}{σ:St}{H H':Hp}{s s':Shared}{h':Heap}
noncomputable def Off(X:Cx)(pins:List (Addr×Obj))(b:Addr):Prop:=
 X.s₀.heap.get? b=none/\b≠X.env.locals/\b∉X.fs/\(∀x c,X.env.cells.lookup x=some c->c≠b)/\∀p∈X.pn++pins,p.1≠b
noncomputable def XFly(X:Cx)(pins:List (Addr×Obj))(H:Hp)(h:Heap)(x:Addr)(cls:Value)(d:Option Addr):Prop:=
 H x=none/\Off X pins x/\∃vs sl tr,h.get? x=some ⟨cls,d,.fields vs,sl⟩/\Trail h x vs tr/\∀T,tr=some T->H T=none/\Off X pins T
noncomputable def XP(X:Cx)(pins:List (Addr×Obj))(σ:St)(E:XK)(e:Value)(s':Shared):Prop:=∃x cls d H',e=.ref x/\Inv X pins σ H' s'/\XFly X pins H' s'.heap x cls d/\E cls d H'
noncomputable def Fly(g:Heap)(H:Hp)(h:Heap)(x:Addr)(cls:Value)(d:Option Addr):Prop:=
 g.get? x=none/\H x=none/\∃vs sl tr,h.get? x=some ⟨cls,d,.fields vs,sl⟩/\Trail h x vs tr/\∀T,tr=some T->g.get? T=none/\H T=none
noncomputable def CX1(P:Program)(w:World):CXT:=λouter H s E e s'=>∃x cls d H',e=.ref x/\s'.os=s.os/\AllBare s'.gens/\Un (frs outer) [] H H' s.heap s'.heap/\HOk P w H' s'.heap/\Fly s.heap H' s'.heap x cls d/\E cls d H'
end
abbrev bmV:List Value:=[.type "ValueError",.type "Exception",.type "BaseException",.type "object"]
section
variable{X:Cx}
noncomputable abbrev Cx.hnd(X:Cx)(x:Addr):Cx:={X with A:=X.A.mark (some (.ref x)),calm:=false,xe:=λ_ _=>False}
variable{pins:List (Addr×Obj)}{σ:St}{H:Hp}{s:Shared}{x:Addr}
noncomputable def XO(x C:Addr)(d:Option Addr):HO:=.ext λh=>∃vs sl,h.get? x=some ⟨.ref C,d,.fields vs,sl⟩
noncomputable def XHeld(X:Cx)(pins:List (Addr×Obj))(H:Hp)(h:Heap)(x:Addr)(cls:Value)(d:Option Addr):Prop:=
 H x=none/\Off X pins x/\∃vs sl T,h.get? x=some ⟨cls,d,.fields vs,sl⟩/\Trail h x vs (some T)/\H T=none/\Off X pins T
noncomputable abbrev TH:=Ends->St->Value->Option Addr->Hp->Prop
end
noncomputable def FnB(P:Program)(w:World)(K:W.Frag)(mg:Str->Option Value)(base:Heap)(CX:CXT)(x:Str)(k:Nat)(ps:List Str)(sp:Sp):Prop:=
 ∃f fd,mg x=some (.ref f)/\PySem.W.keepIn K (.ref f)=true/\Binds K fd ps []/\FnOk P w K mg base CX k f fd ps sp
noncomputable def MtB(P:Program)(w:World)(K:W.Frag)(mg:Str->Option Value)(base:Heap)(CX:CXT)(C:Addr)(m:Str)(k:Nat)(ps:List Str)(sp:Sp):Prop:=
 ∃f fd,Meth K C m f/\Binds K fd ps []/\FnOk P w K mg base CX k f fd ps sp
noncomputable def MkB(P:Program)(w:World)(K:W.Frag)(mg:Str->Option Value)(base:Heap)(CX:CXT)(C:Addr)(k:Nat)(ps:List Str)(dvs:List V)(sp:Sp):Prop:=
 ∃f fd ds,Mk K C f/\Binds K fd ps ds/\Vals dvs ds/\FnOk P w K mg base CX k f fd ps sp
section
variable{P:Program}{w:World}{K:W.Frag}{mg:Str->Option Value}{base:Heap}{CX:CXT}{x m:Str}{C:Addr}{k:Nat}{ps:List Str}{sp:Sp}{dvs:List V}
theorem FnB.imp(h:FnB P w K mg base CX x k ps sp)(i:∀vs H Q E,sp' vs H Q E->sp vs H Q E):FnB P w K mg base CX x k ps sp':=by
 obtain⟨f,fd,a,b,c,d⟩:=h;exact⟨f,fd,a,b,c,d.imp i⟩
end
section
variable{X:Cx}{CX:CXT}{k j:Nat}{C:Addr}{ps:List Str}{sp:Sp}{dvs:List V}{E:XK}{x m:Str}{p pos apos:Pos}{e o:Expr}{es:List Expr}{ta:TE}{t:TA}
theorem aO(F:FnB X.prog X.w X.K X.mg X.base CX x k ps sp)(hr:Room j X.A)(hx:fJ CX X E)(ha:PA X (e::es) t)(hj:k<=j:=by decide)(hg:Gl X x:=by rfl)(hdb:(x==("__debug__":Str))=false:=by decide)
  (he:starEach (e::es) X.env=(false,eval e X.env)::starEach es X.env:=by rfl)(hpl:(backTo pos (starEach es X.env)).any (·.1)=false:=by rfl):PE X (.Call (.Name x p) (e::es) [] pos) (tCall sp [] E t):=by
 obtain⟨f,h,a,b,c,d⟩:=F;exact pe_call d (hr.mono hj) hg a b c .nil hx ha hdb he hpl
theorem pe_mk(F:MkB X.prog X.w X.K X.mg X.base CX C k ps dvs sp)(hr:Room j X.A)(hm:X.mg x=some (.ref C))(hx:fJ CX X E)(ha:PA X (e::es) t)(hj:k+1<=j:=by decide)(hg:Gl X x:=by rfl)(hdb:(x==("__debug__":Str))=false:=by decide)
  (he:starEach (e::es) X.env=(false,eval e X.env)::starEach es X.env:=by rfl)(hpl:(backTo pos (starEach es X.env)).any (·.1)=false:=by rfl):PE X (.Call (.Name x p) (e::es) [] pos) (tMake C sp dvs E t):=by
 obtain⟨f,i,h,a,b,c,d⟩:=F;exact pe_make a d (hr.mono hj) hg hm b c hx ha hdb he hpl
end
noncomputable def FDe(K:W.Frag)(mg:Str->Option Value)(x:Str)(st:Stmt)(ps:List Str):Prop:=∃f fd,Fun K x x st f fd/\mg x=some (.ref f)/\Binds K fd ps []
noncomputable def MDe(K:W.Frag)(C:Addr)(x qual:Str)(st:Stmt)(ps:List Str):Prop:=∃f fd,Fun K x qual st f fd/\Meth K C x f/\Binds K fd ps []
section
variable{P:Program}{w:World}{K:W.Frag}{mg:Str->Option Value}{base:Heap}{x qual:Str}{C:Addr}{st:Stmt}{N ps:List Str}{k:Nat}{sp:Sp}
theorem FDe.okA(F:FDe K mg x st ps)(S:FnScope N ps (aI st))
  (hbody:∀(f:Addr)(cdv:Value)(A:Around)(outer:List Env)(s:Shared)(H:Hp)(vs:List V)(Q:VK)(E:XK),Room k (A.deeper (envOfC x (aI st) s.heap.objs.size f cdv))->sp vs H Q E->
   ∃t,PSs (cxOf CX0 P w K mg base N x (aI st) f cdv A outer s H E).nox (cZ st) t/\t {nx:=λ_ H'=>Q .non H',rt:=Q} (hI N vs) H)(len:∀vs H Q E,sp vs H Q E->vs.length=ps.length:=by intro _ _ _ _ h;cases h;subst_vars;rfl):FnB P w K mg base CX0 x (k+1) ps sp:=
 let⟨f,fd,a,b,c⟩:=F
 ⟨f,fd,b,a.kp,c,a.okA S (hbody f) len⟩
theorem MDe.okA(F:MDe K C x qual st ps)(S:FnScope N ps (aI st))
  (hbody:∀(f:Addr)(cdv:Value)(A:Around)(outer:List Env)(s:Shared)(H:Hp)(vs:List V)(Q:VK)(E:XK),Room k (A.deeper (envOfC qual (aI st) s.heap.objs.size f cdv))->sp vs H Q E->
   ∃t,PSs (cxOf CX0 P w K mg base N qual (aI st) f cdv A outer s H E).nox (cZ st) t/\t {nx:=λ_ H'=>Q .non H',rt:=Q} (hI N vs) H)(len:∀vs H Q E,sp vs H Q E->vs.length=ps.length:=by intro _ _ _ _ h;cases h;subst_vars;rfl):MtB P w K mg base CX0 C x (k+1) ps sp:=
 let⟨f,fd,a,b,c⟩:=F
 ⟨f,fd,b,c,a.okA S (hbody f) len⟩
end
noncomputable def FunG(K:W.Frag)(x qual:Str)(st:Stmt)(f:Addr)(fd:FuncData):Prop:=∃(oc:Value)(od:Option Addr)(dV kV doc pm:Value)(an:Option Addr)(cdv ct:Value)(osl:Array (Option Value)),
  fd=PySem.W.fnOf x qual (fH st) (cZ st) (aI st) dV kV doc pm an cdv ct/\K.lookup f=some ⟨oc,od,.func fd,osl⟩/\PySem.W.codeIn K cdv qual=true
structure FunD(K:W.Frag)(x qual:Str)(st:Stmt)(f:Addr)(fd:FuncData)(ds:Array Value):Prop where
 ex:∃(oc:Value)(od:Option Addr)(T:Addr)(kV doc pm:Value)(an:Option Addr)(cdv ct:Value)(osl:Array (Option Value))(o:Obj)(n:Nat),
  fd=PySem.W.fnOf x qual (fH st) (cZ st) (aI st) (.ref T) kV doc pm an cdv ct/\K.lookup f=some ⟨oc,od,.func fd,osl⟩/\PySem.W.codeIn K cdv qual=true/\K.lookup T=some o/\o.data=.seq ds n
section
variable{P:Program}{w:World}{K:W.Frag}{mg:Str->Option Value}{base:Heap}{x qual:Str}{C:Addr}{st:Stmt}{f:Addr}{fd:FuncData}{ds:Array Value}{N ps:List Str}{k:Nat}{sp:Sp}
theorem FunD.gen(F:FunD K x qual st f fd ds):FunG K x qual st f fd:=by
 obtain⟨oc,od,T,kV,doc,pm,an,cdv,ct,osl,_,_,e,l,c,_⟩:=F.ex;exact⟨oc,od,.ref T,kV,doc,pm,an,cdv,ct,osl,e,l,c⟩
theorem Fun.gen(F:Fun K x qual st f fd):FunG K x qual st f fd:=by
 obtain⟨oc,od,kV,doc,pm,an,cdv,ct,osl,e,l,c⟩:=F.ex;exact⟨oc,od,.none,kV,doc,pm,an,cdv,ct,osl,e,l,c⟩
theorem FunD.binds(F:FunD K x qual st f fd ds)
  (h:∀(T:Addr)(kV doc pm:Value)(an:Option Addr)(cdv ct:Value)(us:List Value),(us++es).length=ps.length->∃k,bindArgs (PySem.W.fnOf x qual (fH st) (cZ st) (aI st) (.ref T) kV doc pm an cdv ct) ⟨us,[]⟩=seqItems? (.ref T)>>=k/\k (some ds)=pure (ps.zip (us++es))):Binds K fd ps es:=by
 obtain⟨q,m,T,kV,doc,pm,an,cdv,ct,b,o,n,rfl,p,l,lt,e⟩:=F.ex;intro s us a c;obtain⟨k,i,j⟩:=h T kV doc pm an cdv ct us c;exact PySem.W.binds_K a rfl lt e i j
theorem funD_mk{kV doc pm cdv ct:Value}(l:K.lookup f=some ⟨oc,od,.func (PySem.W.fnOf x qual (fH st) (cZ st) (aI st) (.ref T) kV doc pm an cdv ct),osl⟩)
  (c:PySem.W.codeIn K cdv qual=true)(t:K.lookup T=some o)(hd:o.data=.seq ds n):FunD K x qual st f (PySem.W.fnOf x qual (fH st) (cZ st) (aI st) (.ref T) kV doc pm an cdv ct) ds:=⟨⟨oc,od,T,kV,doc,pm,an,cdv,ct,osl,o,n,rfl,l,c,t,hd⟩⟩
theorem FunG.okA(F:FunG K x qual st f fd)(S:FnScope N ps (aI st))
  (hbody:∀(cdv:Value)(A:Around)(outer:List Env)(s:Shared)(H:Hp)(vs:List V)(Q:VK)(E:XK),Room k (A.deeper (envOfC qual (aI st) s.heap.objs.size f cdv))->sp vs H Q E->
   ∃t,PSs (cxOf CX0 P w K mg base N qual (aI st) f cdv A outer s H E).nox (cZ st) t/\t {nx:=λ_ H'=>Q .non H',rt:=Q} (hI N vs) H)(len:∀vs H Q E,sp vs H Q E->vs.length=ps.length:=by intro _ _ _ _ h;cases h;subst_vars;rfl):FnOk P w K mg base CX0 (k+1) f fd ps sp:=by
 obtain⟨o,l,p,kV,i,r,y,cdv,m,c,rfl,e,b⟩:=F;refine fn_of e b S len λA outer s H vs Q E j a=>?_;obtain⟨t,h,q⟩:=hbody cdv A outer s H vs Q E j a;exact⟨t,h.nox,q⟩
noncomputable def IDe(K:W.Frag)(C:Addr)(qual:Str)(st:Stmt)(ps:List Str)(dvss:List (List V)):Prop:=∃f fd,FunG K "__init__" qual st f fd/\Mk K C f/\∀dvs∈dvss,∃es,Vals dvs es/\Binds K fd ps es
theorem IDe.okA(F:IDe K C qual st ps dvss)(S:FnScope N ps (aI st))
  (hbody:∀(f:Addr)(cdv:Value)(A:Around)(outer:List Env)(s:Shared)(H:Hp)(vs:List V)(Q:VK)(E:XK),Room k (A.deeper (envOfC qual (aI st) s.heap.objs.size f cdv))->sp vs H Q E->
   ∃t,PSs (cxOf CX0 P w K mg base N qual (aI st) f cdv A outer s H E).nox (cZ st) t/\t {nx:=λ_ H'=>Q .non H',rt:=Q} (hI N vs) H)(len:∀vs H Q E,sp vs H Q E->vs.length=ps.length:=by intro _ _ _ _ h;cases h;subst_vars;rfl):∀dvs∈dvss,MkB P w K mg base CX0 C (k+1) ps dvs sp:=λdvs e=>
 let⟨f,fd,a,b,c⟩:=F
 let⟨es,v,d⟩:=c dvs e
 ⟨f,fd,es,b,d,v,a.okA S (hbody f) len⟩
end
end L2
namespace L2
open PySem PySem.Spec PyProof.Rows PySem.W PySem.Calls
theorem weight_mem:∀(ns:List Int)(n:Int),n∈ns->Builtin.Int.intBits n<=WData.weightAll (ns.map WData.int)
 |m::r,n,h=>by
  rw[mw];show Builtin.Int.intBits n<=WData.weight (.int m)+1+WData.weightAll (r.map WData.int);rcases lN.mp h with z|z
  ·subst z
   have:WData.weight (.int n)=Builtin.Int.intBits n:=by
    simp only[WData.weight,Builtin.Int.intBits]
   omega
  ·have:=weight_mem r n z
   omega
theorem bits_of_lay{ns:List Int}(h:WData.layableAll [WData.list (ns.map WData.int)]=true):∀n∈ns,Builtin.Int.intBits n<=2^20:=λn b=>by
 have c:(WData.list (ns.map WData.int)).layable=true:=by
  unfold WData.layableAll at h;simpa using h
 have e:=(layableW_iff.mp c).2.2;have a:=weight_mem ns n b;exact lC a e
theorem walk_ofB{l:PySem.W.OpenLaw}{XP:(Str->Option Value)->Heap->Prop}{K:Params->W.Frag}{CX:World->CXT}{sp:World->Sp}
  (hn:l.most=some n)(hn2:n<=sizeLine)(hdf:d.params.defaults=[])(hr:Room k callerA)
  (hY:∀(w:World)(h:Heap),YP w h->(K w.params).In h)
  (F:∀(w:World)(mg:Str->Option Value)(fa:Addr)(h:Heap),(K w.params).In h->h.Ns mainGlobals mg->mg d.name=some (.ref fa)->
   ∃fd:FuncData,(∀(s:Shared)(u:Value),BindsTo s fd ⟨[u],[]⟩ [(x,u)])/\
    ∀base:Heap,(K w.params).In base->base.Ns mainGlobals mg->FnOk l.prog w (K w.params) mg base (CX w) k fa fd [x] (sp w))
  (hsp:∀(w:World)(H:Hp)(a:Addr)(ns:List Int),ns.length<=n->(∀i∈ns,Builtin.Int.intBits i<=2^20)->Only H->SqL (K w.params) H a (ns.map V.int)->sp w [.ref a] H (λv _=>v=.bl true) λ_ _ _=>False)
  (hCX:∀(w:World)(H:Hp)(s:Shared)(e:Value)(s':Shared),CX w [] H s (λ_ _ _=>False) e s'->False):
  PySem.W.WalkO q loose XP YP l.row.toRowW d [] (λf vs=>PySem.call f vs):=by
 intro w s₀ s₁ mg mb G Y fa o pm cd X dV kV ho hd Q D z N I B as t y S A M;obtain rfl :=Dflts.none D hdf;obtain rfl :=Dflts.noKw D;obtain⟨a,vs,ns,rfl,rfl,p,m,c⟩:=Att.script_of hn t A;have j:=bits_of_lay y;have E:=hY w _ Y;obtain⟨fd,L,U⟩:=F w mg fa _ E G.T.g z;refine enter_call (codeAny_mono (law_call E G.T.g G.T.b G.T.builtins G.T.nolimit N p m (lC c hn2) hr U L (λH hO hS=>hsp w H a ns c j hO hS) λH e s'=>hCX w H s₁ e s') λr s' R=>?_);obtain⟨rfl,O,Z,J⟩:=R;exact⟨.inl ⟨.bool true,.bool true,[],rfl,λ_=>rfl,.bool true,Att.post_true l _,λ_=>⟨List.Pairwise.nil,λ_ P=>(nomatch P)⟩⟩,O,Z,J⟩
section
variable{X:Cx}
theorem fA:OpR X (binaryOp .Mult) (rI IntMulOk λi j=>.int (i*j)):=opI λ_ _ _ _ _ _ _ a q=>mul_int q a
end
theorem mulOk_bits(h:Builtin.Int.intBits i+Builtin.Int.intBits j<=2^27):IntMulOk i j:=by
 have:Builtin.Int.intTooBig (Builtin.Int.intBits i+Builtin.Int.intBits j)=false:=by
  unfold Builtin.Int.intTooBig bitsLine;exact lM (by lia)
 unfold IntMulOk;rw[this];simp
end L2
namespace L2
open PySem PySem.Spec PyProof.Rows
section
variable{prog:Program}{w:World}{A:Around}{E:Value->Shared->Prop}{s:Shared}{K:W.Frag}{x D:Addr}{ox:Obj}{od:Option Obj}{name:Str}
structure ExA(K:W.Frag)(D:Addr):Prop where
 ga:PySem.W.findIn K (.ref D) "__getattribute__"=some (some (.builtin "BaseException.__getattribute__"))
 gh:PySem.W.findIn K (.ref D) "__getattr__"=some none
 be:PySem.W.mroIn K D (.type "BaseException")=some true
 ca:PySem.W.findIn K (.ref D) "__class__"=some (some (.builtin "object.__class__"))
 gs:PySem.W.specialIn K (.builtin "object.__class__") "__get__"=some (some (.builtin "getset_descriptor.__get__"))
 tk:PySem.W.takesIn K (.builtin "object.__class__")=some true
 ob:PySem.W.mroIn K D (.type "object")=some true
 cl:∃cd,PySem.W.clsIn K D=some cd
end
section
variable{X:Cx}
noncomputable def XAt(H:Hp)(x D:Addr):Prop:=H x=some (XO x D none)
noncomputable def eqVs:List V->List V->Bool
 |[],[]=>true
 |x::xs,y::ys=>eqV x y&&eqVs xs ys
 |_,_=>false
theorem vals_at(r:Vals xs us):∀{j:Nat}{x:V}{u:Value},xs[j]?=some x->us[j]?=some u->RelV x u:=by
 induction r with
 |nil=>intro j x u h;cases h
 |cons r1 _ ih=>
  intro j x u b a
  cases j with
  |zero=>cases b;cases a;exact r1
  |succ j=>exact ih b a
inductive IrEqL(K:W.Frag)(x:V)(y:V)(H:Hp)(Q:VK):Prop
 |mk(p:_)(q:_)(xs:_)(ys:_)(h1:x=.ref p)(h2:y=.ref q)(h3:SqL K H p xs)(h4:SqL K H q ys)(h5:xs.all ic=true)(h6:ys.all ic=true)(h7:Q (.bl (eqVs xs ys)) H):IrEqL K x y H Q
end
inductive ItMethD(P:Program)(w:World)(K:W.Frag)(mg:Str->Option Value)(base:Heap)(CX:CXT)(m:Str)(j:Nat)(E:XK)(t:TA)(σ:St)(Q:VK)(x:V)(H1:Hp):Prop
 |mk(a:_)(C:_)(dx:_)(fs:_)(k:_)(ps:_)(sp:_)(h1:x=.ref a)(h2:H1 a=some (.ins C dx fs))(h3:fs.lookup m=none)(h4:Cls K C)(h5:k<=j)(h6:MtB P w K mg base CX C m k ps sp)(h7:t σ H1 λvs H2=>sp ((.ref a::vs)++[]) H2 Q E):ItMethD P w K mg base CX m j E t σ Q x H1
noncomputable def tMethD(P:Program)(w:World)(K:W.Frag)(mg:Str->Option Value)(base:Heap)(CX:CXT)(m:Str)(j:Nat)(E:XK)(ta:TE)(t:TA):TE:=λσ H Q=>ta σ H λx H1=>ItMethD P w K mg base CX m j E t σ Q x H1
structure ClsRd(K:W.Frag)(C:Addr):Prop where
 rd:PySem.W.readsIn K C (.type "type")=true
 sg:PySem.W.specialIn K (.ref C) "__getattribute__"=some (some (.builtin "type.__getattribute__"))
noncomputable def CfB(P:Program)(w:World)(K:W.Frag)(mg:Str->Option Value)(base:Heap)(CX:CXT)(C:Addr)(m:Str)(k:Nat)(ps:List Str)(sp:Sp):Prop:=
 ∃f fd,ClsRd K C/\PySem.W.findCls K (.ref C) (.type "type") m=some (.val (.ref f))/\PySem.W.keepIn K (.ref f)=true/\Binds K fd ps []/\FnOk P w K mg base CX k f fd ps sp
section
variable{X:Cx}{CX:CXT}{k j:Nat}{C:Addr}{ps:List Str}{sp:Sp}{E:XK}{x m:Str}{p pos apos:Pos}{e o:Expr}{es:List Expr}{ta:TE}{t:TA}
theorem eV(he:PE X o ta)(hr:Room j X.A)(hx:fJ CX X E)(ha:PA X (e::es) t)
  (hst:starEach (e::es) X.env=(false,eval e X.env)::starEach es X.env:=by rfl)(hpl:(backTo pos (starEach es X.env)).any (·.1)=false:=by rfl)
  (ht:eval (.Call (.Attribute o m apos) (e::es) [] pos) X.env=(do
   let ov<-eval o X.env
   standAt apos.atName
   let(f,first)<-holding [ov] (getMethod ov m pl)
   callWith pos f first (backTo pos (starEach (e::es) X.env)) (backToKw pos (keywordEach [] X.env))):=by rfl):PE X (.Call (.Attribute o m apos) (e::es) [] pos) (tMethD X.prog X.w X.K X.mg X.base CX m j E ta t):=by
 intro b s σ H Q I h;refine PySem.W.methodCall_KW (thn (he b s σ H _ I h) λu y zW=>?_) ht;obtain⟨x,D,p,A,a,C,P,fs,k,L,M,ex,G,l,c,B,⟨f,O,w,z,F⟩,q⟩:=zW;subst ex;obtain rfl :=A;refine iU p G c w l ?_;refine PySem.W.callWith_K (first:=[.ref a]) I.ok.mod.kin w.kp (thn (ha pos b y σ D _ p q) λus N zW=>?_) hst hpl;obtain⟨vs,K,i,r,J⟩:=zW;refine⟨i.kIn,?_⟩;exact run_fn (us:=.ref a::us) (vs:=.ref a::vs) F (hr.mono B) z .nil hx i (.cons rfl r) J
theorem pe_mtD0(he:PE X o ta)(hr:Room j X.A)(hx:fJ CX X E)
  (ht:eval (.Call (.Attribute o m apos) [] [] pos) X.env=(do
   let ov<-eval o X.env
   standAt apos.atName
   let(f,first)<-holding [ov] (getMethod ov m pl)
   callWith pos f first (backTo pos (starEach [] X.env)) (backToKw pos (keywordEach [] X.env))):=by rfl):PE X (.Call (.Attribute o m apos) [] [] pos) (tMethD X.prog X.w X.K X.mg X.base CX m j E ta tNil):=by
 intro b s σ H Q I h;refine PySem.W.methodCall_KW (thn (he b s σ H _ I h) λu y zW=>?_) ht;obtain⟨x,z,e,r,a,C,G,fs,k,A,B,ex,w,l,c,t,⟨f,D,i,p,F⟩,q⟩:=zW;subst ex;obtain rfl :=r;refine iU e w c i l ?_;exact PySem.W.callWith_K0 (first:=[.ref a]) e.kIn i.kp (run_fn (us:=[.ref a]) (vs:=[.ref a]) F (hr.mono t) p .nil hx e (.cons rfl .nil) q)
theorem pe_cf(F:CfB X.prog X.w X.K X.mg X.base CX C m k ps sp)(hr:Room j X.A)(hm:X.mg x=some (.ref C))(hx:fJ CX X E)(ha:PA X (e::es) t)(hj:k<=j:=by decide)(hg:Gl X x:=by rfl)(hdb:(x==("__debug__":Str))=false:=by decide)
  (hst:starEach (e::es) X.env=(false,eval e X.env)::starEach es X.env:=by rfl)(hpl:(backTo pos (starEach es X.env)).any (·.1)=false:=by rfl)
  (ht:eval (.Call (.Attribute (.Name x np) m apos) (e::es) [] pos) X.env=(do
   let ov<-eval (.Name x np) X.env
   standAt apos.atName
   let(f,first)<-holding [ov] (getMethod ov m pl)
   callWith pos f first (backTo pos (starEach (e::es) X.env)) (backToKw pos (keywordEach [] X.env))):=by rfl):PE X (.Call (.Attribute (.Name x np) m apos) (e::es) [] pos) (tCall sp [] E t):=by
 intro a s σ H Q I h;obtain⟨f,z,c,o,l,p,F⟩:=F;refine PySem.W.methodCall_KW (kO I hg hm ?_ hdb) ht;refine PySem.W.method_cls I.kIn c.sg (PySem.W.cls_value I.kIn c.rd o rfl ?_);have i:=I.tok (s.toks+1);refine PySem.W.callWith_K (first:=[]) I.ok.mod.kin l (thn (ha pos a _ σ H _ i h) λus y zW=>?_) hst hpl;obtain⟨vs,w,b,r,q⟩:=zW;refine⟨b.kIn,?_⟩;exact run_fn F (hr.mono hj) p .nil hx b r q
noncomputable def rRepS:R2:=λx y H Q=>∃z n,x=.str z/\y=.int n/\z.length=1/\n.natAbs<1000/\Q (.str (Txt.mul z n)) H
theorem op_rep_str:OpR X (binaryOp .Mult) rRepS:=by
 intro a s σ H x y v u Q I i c h;obtain⟨z,n,rfl,rfl,b,m,q⟩:=h;obtain⟨t,rfl⟩:=i;obtain⟨j,rfl⟩:=c;refine SB.mul ⟨?_,λe _=>?_,λe _=>?_⟩ λj l=>⟨.str _,H,I.tok _,⟨_,rfl⟩,q⟩
 ·simp;omega
 ·rw[b]
  have:(1:Int)<=(2^63-1)/n:=Int.le_ediv_of_mul_le (by omega) (by omega)
  omega
 ·rw[b];unfold Builtin.Str.tooLong;simp only[PySem.sizeLine_eq,gt_iff_lt,decide_eq_false_iff_not];omega
end
section
variable{P:Program}{w:World}{K:W.Frag}{mg:Str->Option Value}{base:Heap}{x qual:Str}{C:Addr}{st:Stmt}{N ps:List Str}{k:Nat}{sp:Sp}
noncomputable def CDe(K:W.Frag)(C:Addr)(qual:Str)(st:Stmt)(ps:List Str):Prop:=∃f fd,FunG K "__init__" qual st f fd/\ClsRd K C/\PySem.W.findCls K (.ref C) (.type "type") "__init__"=some (.val (.ref f))/\PySem.W.keepIn K (.ref f)=true/\Binds K fd ps []
theorem CDe.okA(F:CDe K C qual st ps)(S:FnScope N ps (aI st))
  (hbody:∀(f:Addr)(cdv:Value)(A:Around)(outer:List Env)(s:Shared)(H:Hp)(vs:List V)(Q:VK)(E:XK),Room k (A.deeper (envOfC qual (aI st) s.heap.objs.size f cdv))->sp vs H Q E->
   ∃t,PSs (cxOf CX0 P w K mg base N qual (aI st) f cdv A outer s H E).nox (cZ st) t/\t {nx:=λ_ H'=>Q .non H',rt:=Q} (hI N vs) H)(len:∀vs H Q E,sp vs H Q E->vs.length=ps.length:=by intro _ _ _ _ h;cases h;subst_vars;rfl):CfB P w K mg base CX0 C "__init__" (k+1) ps sp:=
 let⟨f,fd,a,b,c,d,e⟩:=F
 ⟨f,fd,b,c,d,e,a.okA S (hbody f) len⟩
end
noncomputable def BodyOk(P:Program)(w:World)(K:W.Frag)(mg:Str->Option Value)(base:Heap)(qual:Str)(st:Stmt)(N:List Str)(k:Nat)(sp:Sp):Prop:=
 ∀(f:Addr)(cdv:Value)(A:Around)(outer:List Env)(s:Shared)(H:Hp)(vs:List V)(Q:VK)(E:XK),Room k (A.deeper (envOfC qual (aI st) s.heap.objs.size f cdv))->sp vs H Q E->
  ∃t,PSs (cxOf CX0 P w K mg base N qual (aI st) f cdv A outer s H E).nox (cZ st) t/\t {nx:=λ_ H'=>Q .non H',rt:=Q} (hI N vs) H
section
variable{X:Cx}
theorem isPart_of(h:IsPart v i):∃l:Option (Int×Tok),v=partValue l/\l.map (·.1)=i:=by
 cases h with
 |none=>exact⟨none,rfl,rfl⟩
 |int i t=>exact⟨some (i,t),rfl,rfl⟩
noncomputable def rSlS:V->Option Int->Option Int->Hp->VK->Prop:=λx lo hi H Q=>∃z,x=.str z/\z.length<=sizeLine/\Q (.str (Txt.slice z lo hi)) H
theorem sl_str:SlR X rSlS:=by
 intro a s σ H x v vl y B A D Q I m c i p h;obtain⟨z,rfl,w,q⟩:=h;obtain⟨t,rfl⟩:=m;obtain⟨l,rfl,rfl⟩:=isPart_of i;obtain⟨u,rfl,rfl⟩:=isPart_of p;obtain⟨o,b,e,j⟩:=c
 exact⟨"str",_,F.slot_str_getitem.lookup,typeIs_str _ _ _,wpAny_getItem_str_slice (st:=none) ⟨o,b,e,j⟩ rfl
  (post_val_or_str ⟨lC (Txt.slice_le z _ _) w,λr k=>⟨.str (Txt.slice z (l.map (·.1)) (u.map (·.1))),H,I.tok k,⟨r,rfl⟩,q⟩⟩)⟩
theorem pe_gi(h:∃tk,X.mg x=some (.int i tk))(hg:Gl X x:=by rfl)(hd:(x==("__debug__":Str))=false:=by decide):PE X (.Name x pos) (tC (.int i)):=by
 obtain⟨tk,h⟩:=h;exact pe_glob hg h ⟨tk,rfl⟩ hd
inductive IrEqN(K:W.Frag)(x:V)(y:V)(H:Hp)(Q:VK):Prop
 |mk(p:_)(q:_)(xs:_)(h1:x=.ref p)(h2:y=.ref q)(h3:SqL K H p xs)(h4:SqL K H q [])(h5:Q (.bl xs.isEmpty) H):IrEqN K x y H Q
noncomputable def rEqN(K:W.Frag):R2:=λx y H Q=>IrEqN K x y H Q
inductive IrNeN(K:W.Frag)(x:V)(y:V)(H:Hp)(Q:VK):Prop
 |mk(p:_)(q:_)(xs:_)(h1:x=.ref p)(h2:y=.ref q)(h3:SqL K H p xs)(h4:SqL K H q [])(h5:Q (.bl (!xs.isEmpty)) H):IrNeN K x y H Q
noncomputable def rNeN(K:W.Frag):R2:=λx y H Q=>IrNeN K x y H Q
theorem ig(hu:X.A.units<cLine):OpR X (compareOp .Eq) (rEqN X.K):=by
 intro b s σ H x y v u Q I w o h;obtain⟨p,q,B,rfl,rfl,l,i,k⟩:=h
 cases w
 cases o;obtain⟨A,r,c,E⟩:=I.list l;obtain⟨D,z,a,m⟩:=I.list i
 cases z
 cases r with
 |nil=>exact SeqAt.eq_listAt (e:=λ_=>true) c.isList a.isList rfl hu (λj t _=>absurd t (by simp)) ⟨.bl true,H,I,rfl,k⟩
 |cons=>exact SeqAt.eq_list_lengthsAt c.isList a.isList (by simp) hu ⟨.bl false,H,I,rfl,k⟩
theorem gw(hu:X.A.units<cLine):OpR X (compareOp .NotEq) (rNeN X.K):=by
 intro b s σ H x y v u Q I z o h;obtain⟨p,q,D,rfl,rfl,l,i,k⟩:=h
 cases z
 cases o;obtain⟨B,r,c,F⟩:=I.list l;obtain⟨E,A,a,m⟩:=I.list i
 cases A
 cases r with
 |nil=>exact SeqAt.RcNeAt.lists (e:=λ_=>true) c.isList a.isList rfl hu (λj t _=>absurd t (by simp)) X.prog X.w X.xe _ ⟨.bl false,H,I,rfl,k⟩
 |cons=>exact SeqAt.RcNeAt.lists_lengths c.isList a.isList (by simp) hu X.prog X.w X.xe _ ⟨.bl true,H,I,rfl,k⟩
theorem jD{K:W.Frag}(hK:X.K=K)(h:PE X o ta)(hb:attributeBase o f X.env (eval o X.env)=eval o X.env):PE X (.Attribute o f pos) (tFld K ta f):=by
 subst hK;exact aZ h hb
end
section
variable{κ:Type}[DecidableEq κ]
noncomputable def cV(kvs:List (κ×V))(k:κ):Option V:=(kvs.find? λkv=>decide (kv.1=k)).map (·.2)
noncomputable def cK(kvs:List (κ×V))(k:κ)(v:V):List (κ×V):=
 if(kvs.any λkv=>decide (kv.1=k))=true then kvs.map (λkv=>if kv.1=k then(kv.1,v)else kv)else kvs++[(k,v)]
noncomputable def dropK(kvs:List (κ×V))(k:κ):List (κ×V):=kvs.filter λkv=>decide (kv.1≠k)
theorem dI{k:κ}(e:p.1=k):cV (p::r) k=some p.2:=by simp[cV,List.find?_cons,e]
theorem dJ{k:κ}(e:¬p.1=k):cV (p::r) k=cV r k:=by simp[cV,List.find?_cons,e]
theorem fU(k:κ):∀kvs:List (κ×V),(kvs.any λkv=>decide (kv.1=k))=(cV kvs k).isSome
 |[]=>rfl
 |p::r=>by
  rw[List.any_cons];by_cases e:p.1=k
  ·simp only[dI e,lQ e,Bool.true_or,Option.isSome_some]
  ·rw[dJ e,lM e,Bool.false_or];exact fU k r
theorem valV_map(k j:κ)(y:V):∀kvs:List (κ×V),cV (kvs.map λkv=>if kv.1=k then(kv.1,y)else kv) j=(cV kvs j).map λx=>if j=k then y else x
 |[]=>rfl
 |p::r=>by
  have a:=valV_map k j y r;rw[mw];by_cases h:p.1=k
  ·rw[if_pos h];by_cases e:p.1=j
   ·rw[dI (p:=(p.1,y)) e,dI e,mV,if_pos (e.symm.trans h)]
   ·rw[dJ (p:=(p.1,y)) e,dJ e,a]
  ·rw[if_neg h];by_cases e:p.1=j
   ·rw[dI (p:=p) e,dI e,mV,if_neg (λz=>h (e.trans z))]
   ·rw[dJ (p:=p) e,dJ e,a]
theorem valV_snoc(k j:κ)(y:V):∀kvs:List (κ×V),cV kvs k=none->cV (kvs++[(k,y)]) j=if j=k then some y else cV kvs j
 |[],_=>by
  by_cases e:k=j
  ·rw[if_pos e.symm];exact dI (p:=(k,y)) e
  ·rw[if_neg (λz=>e z.symm)];exact dJ (p:=(k,y)) e
 |p::r,hn=>by
  rw[List.cons_append];have a:¬p.1=k:=λz=>by rw[dI z]at hn;cases hn
  rw[dJ a]at hn;have b:=valV_snoc k j y r hn;by_cases e:p.1=j
  ·rw[dI e,dI e,if_neg (λz=>a (e.trans z))]
  ·rw[dJ e,dJ e,b]
theorem valV_put(kvs:List (κ×V))(k j:κ)(y:V):cV (cK kvs k y) j=if j=k then some y else cV kvs j:=by
 unfold cK;by_cases a:(kvs.any λc=>decide (c.1=k))=true
 ·rw[if_pos a,valV_map];rw[fU]at a;by_cases e:j=k
  ·obtain⟨x,b⟩:=Option.isSome_iff_exists.mp a;rw[if_pos e,e,b,mV,if_pos rfl]
  ·rw[if_neg e]
   cases cV kvs j with
   |none=>rfl
   |some x=>rw[mV,if_neg e]
 ·rw[if_neg a];refine valV_snoc k j y kvs ?_;rw[fU]at a
  cases q:cV kvs k with
  |none=>rfl
  |some x=>rw[q]at a;exact(a rfl).elim
theorem jt(kvs:List (κ×V))(k:κ)(v:V):(cK kvs k v).length<=kvs.length+1:=by
 unfold cK
 split
 ·rw[kX];lia
 ·rw[lG,mh,List.length_nil];lia
theorem iD{k:κ}(v:V)(h:cV kvs k=none):cK kvs k v=kvs++[(k,v)]:=by
 unfold cK;rw[fU,h];exact if_neg (by decide)
theorem RelO.isSome_eq(r:RelO o u):o.isSome=u.isSome:=by
 cases o with
 |none=>cases u with
  |none=>rfl
  |some _=>exact(show False from r).elim
 |some _=>cases u with
  |none=>exact(show False from r).elim
  |some _=>rfl
theorem RelO.getD(r:RelO o u)(rd:RelV d d'):RelV (o.getD d) (u.getD d'):=by
 cases o with
 |none=>cases u with
  |none=>exact rd
  |some _=>exact(show False from r).elim
 |some _=>cases u with
  |none=>exact(show False from r).elim
  |some _=>exact r
theorem KV.val(r:KV kvs vs)(k:κ):RelO (cV kvs k) (valueAt vs k):=by
 unfold KV at r
 induction r with
 |nil=>exact True.intro
 |@cons p q ps qs h t ih=>
  obtain⟨c,i⟩:=h;by_cases e:p.1=k
  ·have a:q.1=k:=c.symm.trans e;have b:valueAt (q::qs) k=some q.2:=by simp[valueAt,List.find?_cons,a]
   rw[dI e,b];exact i
  ·have a:¬q.1=k:=λz=>e (c.trans z);have b:valueAt (q::qs) k=valueAt qs k:=by simp[valueAt,List.find?_cons,a]
   rw[dJ e,b];exact ih
theorem KV.any(r:KV kvs vs)(k:κ):(kvs.any λkv=>decide (kv.1=k))=vs.any λkv=>decide (kv.1=k):=by
 unfold KV at r
 induction r with
 |nil=>rfl
 |cons h t ih=>rw[List.any_cons,List.any_cons,ih,h.1]
theorem KV.repl(r:KV kvs vs)(k:κ)(ry:RelV y u):
  KV (kvs.map λkv=>if kv.1=k then(kv.1,y)else kv) (vs.map λkv=>if kv.1=k then(kv.1,u)else kv):=by
 unfold KV at r⊢
 induction r with
 |nil=>exact .nil
 |@cons p q ps qs h t ih=>
  rw[mw,mw];refine .cons ?_ ih;obtain⟨a,b⟩:=h;by_cases e:p.1=k
  ·rw[if_pos e,if_pos (a.symm.trans e)];exact⟨a,ry⟩
  ·rw[if_neg e,if_neg (λz=>e (a.trans z))];exact⟨a,b⟩
theorem KV.put(r:KV kvs vs)(k:κ)(ry:RelV y u):KV (cK kvs k y) (stored vs k u):=by
 unfold cK stored;rw[r.any k];by_cases e:(vs.any λa=>decide (a.1=k))=true
 ·rw[if_pos e,if_pos e];exact r.repl k ry
 ·rw[if_neg e,if_neg e];exact Paired.snoc r ⟨rfl,ry⟩
theorem KV.length{vs:List (κ×Value)}(r:KV kvs vs):kvs.length=vs.length:=Paired.length r
end
theorem kV_is(r:RelV (kV k) u):(cW P w).is k u=true:=by
 cases k with
 |inl i=>obtain⟨t,e⟩:=(show∃t,u=Value.int i t from r);subst e;exact mixKind_int P w i t
 |inr x=>obtain⟨t,e⟩:=(show∃t,u=Value.str x t from r);subst e;exact mixKind_str P w x t
theorem kV_inj(e:kV a=kV b):a=b:=by
 cases a with
 |inl i=>cases b with
  |inl j=>have c:V.int i=V.int j:=e;injection c with c;rw[c]
  |inr y=>exact nomatch(show V.int i=V.str y from e)
 |inr x=>cases b with
  |inl j=>exact nomatch(show V.str x=V.int j from e)
  |inr y=>have c:V.str x=V.str y:=e;injection c with c;rw[c]
theorem items_are:∀{ks:List Key}{us:List Value},Vals (ks.map kV) us->ItemsAre (cW P w) ks us
 |[],_,r=>by rw[nZ]at r;cases r;exact .nil
 |k::ks,_,r=>by
  rw[mw]at r
  cases r with
  |cons h t=>exact .cons (kV_is h) (items_are t)
noncomputable abbrev KT(H:Hp):List (List Key×V)->List (List Key×Addr×Value)->Prop:=Paired λp q=>p.1=q.1/\H q.2.1=some (.tup (p.1.map kV))/\RelV p.2 q.2.2
theorem KT.val(r:KT H kvs xs)(k:List Key):RelO (cV kvs k) ((atKey xs k).map (·.2)):=by
 induction r with
 |nil=>exact True.intro
 |@cons p q ps qs h t ih=>
  obtain⟨c,_,i⟩:=h;by_cases e:p.1=k
  ·have a:q.1=k:=c.symm.trans e;have b:atKey (q::qs) k=some q.2:=by simp[atKey,List.find?_cons,a]
   rw[dI e,b];exact i
  ·have a:¬q.1=k:=λz=>e (c.trans z);have b:atKey (q::qs) k=atKey qs k:=by simp[atKey,List.find?_cons,a]
   rw[dJ e,b];exact ih
theorem KT.repl(r:KT H kvs xs)(k:List Key)(ry:RelV y u):
  KT H (kvs.map λkv=>if kv.1=k then(kv.1,y)else kv) (xs.map (putAt k u)):=by
 induction r with
 |nil=>exact .nil
 |@cons p q ps qs h t ih=>
  rw[mw,mw];refine .cons ?_ ih;obtain⟨a,b,c⟩:=h;unfold putAt;by_cases e:p.1=k
  ·rw[if_pos e,if_pos (a.symm.trans e)];exact⟨a,b,ry⟩
  ·rw[if_neg e,if_neg (λz=>e (a.trans z))];exact⟨a,b,c⟩
theorem KT.put(r:KT H kvs xs)(k:List Key)(hb:H b=some (.tup (k.map kV)))(ry:RelV y u):
  KT H (cK kvs k y) (storedH xs k b u):=by
 have e:(kvs.any λa=>decide (a.1=k))=(atKey xs k).isSome:=by
  rw[fU,(r.val k).isSome_eq,Option.isSome_map]
 unfold cK storedH;rw[e];by_cases q:(atKey xs k).isSome=true
 ·rw[if_pos q,if_pos q];exact r.repl k ry
 ·rw[if_neg q,if_neg q];exact Paired.snoc r ⟨rfl,hb,ry⟩
theorem KT.keeps(r:KT H kvs xs)(ht:∀b ys,H b=some (.tup ys)->H' b=some (.tup ys)):KT H' kvs xs:=
 Paired.mapP r λ_ _ z=>⟨z.1,ht _ _ z.2.1,z.2.2⟩
section
variable{P:Program}{w:World}{H:Hp}{h:Heap}{a:Addr}
theorem rd_of(ok:HOk P w H h)(e:Rd H a u):ObjOk P w H h a u:=e.ok ok
theorem i8(ok:HOk P w H h)(e:Rd H a (.dK kvs)):kvs.length<=sizeLine/\(a==sysModules)=false/\∃vs,KV kvs vs/\h.DictOf (cW P w) a vs:=
 show ObjOk P w H h a (.dK kvs)from rd_of ok e
theorem dk_of(ok:HOk P w H h)(e:H a=some (.dK kvs)):kvs.length<=sizeLine/\(a==sysModules)=false/\∃vs,KV kvs vs/\h.DictOf (cW P w) a vs:=i8 ok (.inl e)
theorem key_of(ok:HOk P w H h)(e:H a=some (.tup (ks.map kV))):(tupleKind (cW P w)).is h ks a:=by
 obtain⟨_,b,r,o,j,i,n,c⟩:=(show ObjOk P w H h a (.tup (ks.map kV))from ok a _ e);exact⟨o,b.toArray,n,j,i,c,by simpa using items_are r⟩
theorem dt_rd(ok:HOk P w H h)(e:Rd H a (.dT kvs)):kvs.length<=sizeLine/\(a==sysModules)=false/\
  ∃xs,KT H kvs xs/\h.DictOfH (tupleKind (cW P w)) a xs:=by
 obtain⟨z,y,xs,r,o,c,j,s,B,A,i,D⟩:=(show ObjOk P w H h a (.dT kvs) from rd_of ok e);refine⟨z,y,xs,r,o,c,j,s,B,A,i,λx b=>?_,D⟩
 have all:∀{l:List (List Key×V)}{m:List (List Key×Addr×Value)},KT H l m->∀x∈m,(tupleKind (cW P w)).is h x.1 x.2.1:=by
  intro l m q
  induction q with
  |nil=>intro x b;exact nomatch b
  |@cons p q ps qs hq t ih=>
   intro x b;rcases lN.mp b with e|b
   ·subst e;exact key_of ok (by rw[<-hq.1];exact hq.2.1)
   ·exact ih x b
 exact all r x b
theorem dt_of(ok:HOk P w H h)(e:H a=some (.dT kvs)):kvs.length<=sizeLine/\(a==sysModules)=false/\
  ∃xs,KT H kvs xs/\h.DictOfH (tupleKind (cW P w)) a xs:=dt_rd ok (.inl e)
end
noncomputable def DGet(H:Hp)(a:Addr)(y:V)(r:Option V):Prop:=
 (∃kvs k,Rd H a (.dK kvs)/\y=kV k/\r=cV kvs k)∨∃kvs k b,Rd H a (.dT kvs)/\y=.ref b/\H b=some (.tup (k.map kV))/\r=cV kvs k
noncomputable def DPut(H:Hp)(a:Addr)(y v:V)(H':Hp):Prop:=
 (∃kvs k,H a=some (.dK kvs)/\y=kV k/\kvs.length<sizeLine/\H'=upd H a (.dK (cK kvs k v)))∨
 ∃kvs k b,H a=some (.dT kvs)/\y=.ref b/\H b=some (.tup (k.map kV))/\kvs.length<sizeLine/\H'=upd H a (.dT (cK kvs k v))
theorem DGet.k{k:Key}(e:H a=some (.dK kvs)):DGet H a (kV k) (cV kvs k):=.inl ⟨kvs,k,.inl e,rfl,rfl⟩
theorem DPut.k{k:Key}(e:H a=some (.dK kvs))(hl:kvs.length<sizeLine):DPut H a (kV k) v (upd H a (.dK (cK kvs k v))):=.inl ⟨kvs,k,e,rfl,hl,rfl⟩
section
variable{X:Cx}{pins:List (Addr×Obj)}{σ:St}{H:Hp}{s:Shared}{a:Addr}{y v:V}{u r:Value}{o:Option V}{A:Around}{E:Value->Shared->Prop}
theorem Inv.big(I:Inv X pins σ H s):sysModules<s.heap.objs.size:=by
 have h :=(I.mod.glob.keeps I.bk).lt;exact Nat.lt_trans (by decide) h
theorem d_getItem(hu:A.units+1<cLine)(I:Inv X pins σ H s)(g:DGet H a y (some v))(ry:RelV y u)(h:∀w' s',Inv X pins σ H s'->RelV v w'->Q w' s'):
  wpAny (model X.prog X.w) A (getItem (.ref a) u) Q E s:=by
 rcases g with⟨kvs,k,e,ey,l⟩|⟨kvs,k,b,e,ey,eb,l⟩
 ·subst ey;obtain⟨z,x,t,i,j⟩:=i8 I.hok e;obtain⟨w',q,c⟩:=RelO.some_of (by rw[l];exact i.val k);exact wpAny_getItem_of (kV_is ry) j.mapOf q (h w' _ (I.tok _) c)
 ·subst ey
  cases(show u=Value.ref b from ry);obtain⟨z,x,r,i,j⟩:=dt_rd I.hok e;obtain⟨w',q,c⟩:=RelO.some_of (by rw[l];exact i.val k);obtain⟨p,w,m⟩:=n7.mp q;refine wpAny_getItem_heap (tupleKind_room_in1 hu) (key_of I.hok eb) j w ?_;rw[m];exact h w' _ (I.tok _) c
theorem d_in(hu:A.units+1<cLine)(I:Inv X pins σ H s)(g:DGet H a y o)(ry:RelV y u)(h:∀s',Inv X pins σ H s'->Q (.bool o.isSome) s'):
  wpAny (model X.prog X.w) A (compareOp .In u (.ref a)) Q E s:=by
 rcases g with⟨kvs,k,e,ey,l⟩|⟨kvs,k,b,e,ey,eb,l⟩
 ·subst ey;obtain⟨z,j,p,c,i⟩:=i8 I.hok e;refine wpAny_in_of (kV_is ry) j i.mapOf ?_;rw[<-(c.val k).isSome_eq,<-l];exact h _ (I.tok _)
 ·subst ey
  cases(show u=Value.ref b from ry);obtain⟨z,j,m,c,i⟩:=dt_rd I.hok e;refine wpAny_in_heap (tupleKind_room_in1 hu) (key_of I.hok eb) j i ?_;have q:=(c.val k).isSome_eq;rw[Option.isSome_map]at q;rw[<-q,<-l];exact h _ (I.tok _)
theorem d_notIn(hu:A.units+1<cLine)(I:Inv X pins σ H s)(g:DGet H a y o)(ry:RelV y u)(h:∀s',Inv X pins σ H s'->Q (.bool (!o.isSome)) s'):
  wpAny (model X.prog X.w) A (compareOp .NotIn u (.ref a)) Q E s:=by
 rcases g with⟨kvs,k,e,ey,l⟩|⟨kvs,k,b,e,ey,eb,l⟩
 ·subst ey;obtain⟨z,j,p,c,i⟩:=i8 I.hok e;refine wpAny_notIn_of (kV_is ry) j i.mapOf ?_;rw[<-(c.val k).isSome_eq,<-l];exact h _ (I.tok _)
 ·subst ey
  cases(show u=Value.ref b from ry);obtain⟨z,j,m,c,i⟩:=dt_rd I.hok e;refine wpAny_notIn_heap (tupleKind_room_in1 hu) (key_of I.hok eb) j i ?_;have q:=(c.val k).isSome_eq;rw[Option.isSome_map]at q;rw[<-q,<-l];exact h _ (I.tok _)
theorem d_write(I:Inv X pins σ H s)(mu:Mut (H a))(hs:Heap.SameBut a s.heap h')(he:∃q,h'.get? a=some q)(new:ObjOk X.prog X.w (upd H a ob) h' a ob):
  Inv X pins σ (upd H a ob) {s with heap:=h',toks:=t'}:=
 I.write mu (.inl rfl) (λb q c z=>(hs.2 b c).trans z) he new
theorem dk_new(z:kvs.length<=sizeLine)(hd:(a==sysModules)=false)(rel:KV kvs vs)(dd:h'.DictOf (cW P w) a vs):
  ObjOk P w H' h' a (.dK kvs):=⟨z,hd,vs,rel,dd⟩
theorem d_setItem(hu:A.units+1<cLine)(I:Inv X pins σ H s)(g:DPut H a y v H')(ry:RelV y u)(rv:RelV v r)(h:∀s',Inv X pins σ H' s'->Q () s'):
  wpAny (model X.prog X.w) A (setItem (.ref a) u r) Q E s:=by
 rcases g with⟨kvs,k,e,ey,l,eH⟩|⟨kvs,k,b,e,ey,eb,l,eH⟩
 ·subst ey eH;obtain⟨z,t,G,i,w⟩:=dk_of I.hok e;have x:G.length<=sizeLine:=by rw[<-i.length];exact z
  have p:(cK kvs k v).length<=sizeLine:=by have:=jt kvs k v;lia
  refine wpAny_setItem_pairs (kV_is ry) w λD j o=>h _ ?_;have J:∃q,D.get? a=some q:=let⟨q,_,_,m,_⟩:=j;⟨q,m⟩
  exact d_write I (by rw[e];exact True.intro) o J (dk_new p t (i.put k rv) j)
 ·subst ey eH
  cases(show u=Value.ref b from ry);obtain⟨z,t,M,i,w⟩:=dt_of I.hok e;have x:M.length<=sizeLine:=by rw[<-Paired.length i];exact z
  have p:(cK kvs k v).length<=sizeLine:=by have:=jt kvs k v;lia
  refine wpAny_setItem_heap (tupleKind_room_in1 hu) (key_of I.hok eb) w λD j o=>h _ ?_;obtain⟨q,F,L,m,O,N,K,_,P⟩:=j;refine d_write I (by rw[e];exact True.intro) o ⟨q,m⟩ ⟨p,t,_,(i.put k eb rv).keeps λc R B=>?_,q,F,L,m,O,N,K,P⟩;rw[aG (bB B e (λz=>nomatch z))];exact B
end
section
variable{X:Cx}{pins:List (Addr×Obj)}{σ:St}{H:Hp}{s:Shared}{a:Addr}{kvs:List (Key×V)}{k:Key}{u:Value}{A:Around}{E:Value->Shared->Prop}
theorem d_len(I:Inv X pins σ H s)(e:Rd H a (.dK kvs))(h:∀t s',Inv X pins σ H s'->Q (.int kvs.length t) s'):wpAny (model X.prog X.w) A (call (.builtin "len") [.ref a]) Q E s:=by
 obtain⟨z,c,j,b,i⟩:=i8 I.hok e;refine call_len_dict c i (by rw[<-b.length];rw[sizeLine_eq]at z;lia) ?_;rw[<-b.length];exact h _ _ (I.tok _)
end
noncomputable def NoSl(i:Expr):Prop:=∀ov iv,subscripted i false ov iv=operate [ov,iv] (getItem ov iv)
theorem subD_of{T id:String}
  (hl:typeLookup (.type T) "__getitem__"=pure (some (.builtin id)))(hs:NoSl slice)
  (h:wpAny (model prog w) A (eval value env) (λo s₁=>wpAny (model prog w) A (eval slice env) (λi s₂=>s₂.TypeIs o T/\wpAny (model prog w) A (getItem o i) Q E s₂) E s₁) E s):
  wpAny (model prog w) A (eval (.Subscript value slice pos) env) Q E s:=by
 refine Subscript_ (nY h (λo s₁ e=>nY e (λi s₂ a=>?_) λ_ _ x=>x) λ_ _ x=>x);obtain⟨b,a⟩:=a;unfold subscriptTail;refine mx ?_;rw[getitemInPython_of_ne b.not_modules];refine mx (wpAny_specialOf b hl ?_)
 have fin:wpAny (model prog w) A (subscripted slice false o i) (λr c=>wpAny (model prog w) A (letTemporaryGo value o r>>=λ_=>pure r) Q E c) E s₂:=by
  rw[hs o i];exact wpAny_operating (nY a (λr c j=>mx (wpAny_letTemporaryGo (mW j))) λ_ _ x=>x)
 first
  |exact mW (mx fin)
  |exact mx (mW (mx fin))
  |exact mx fin
theorem dict_typeIs(I:Inv X pins σ H s)(g:DGet H a y o):s.TypeIs (.ref a) "dict":=by
 rcases g with⟨kvs,k,e,_,_⟩|⟨kvs,k,b,e,_,_,_⟩
 ·obtain⟨_,_,i,_,c⟩:=i8 I.hok e;exact c.typeIs
 ·obtain⟨_,_,h,_,c⟩:=dt_rd I.hok e;exact c.typeIs
inductive ItDGet(Q:VK)(x:V)(y:V)(H2:Hp):Prop
 |mk(a:_)(v:_)(h1:x=.ref a)(h2:DGet H2 a y (some v))(h3:Q v H2):ItDGet Q x y H2
noncomputable def tDGet(td ty:TE):TE:=λσ H Q=>td σ H λx H1=>ty σ H1 λy H2=>ItDGet Q x y H2
noncomputable def tDIn(ty td:TE):TE:=λσ H Q=>ty σ H λy H1=>td σ H1 λx H2=>∃a o,x=.ref a/\DGet H2 a y o/\Q (.bl o.isSome) H2
noncomputable def tDNotIn(ty td:TE):TE:=λσ H Q=>ty σ H λy H1=>td σ H1 λx H2=>∃a o,x=.ref a/\DGet H2 a y o/\Q (.bl (!o.isSome)) H2
noncomputable def sDPut(td ty tv:TE):TS:=λD σ H=>tv σ H λv H1=>td σ H1 λx H2=>ty σ H2 λy H3=>∃a H4,x=.ref a/\DPut H3 a y v H4/\D.nx σ H4
section
variable{X:Cx}{o i e value:Expr}{pos pos' tpos:Pos}{td ty tv:TE}
theorem cE(hu:X.A.units+1<cLine)(ho:PE X o td)(hi:PE X i ty)(hs:NoSl i):PE X (.Subscript o i pos) (tDGet td ty):=by
 intro b s σ H Q I h;refine subD_of PySem.F.slot_dict_getitem.lookup hs (thn (ho b s σ H _ I h) λu l zW=>?_);obtain⟨x,z,p,t,m⟩:=zW;refine thn (hi b l σ z _ p m) λE B zW=>?_;obtain⟨y,j,e,q,a,v,ex,g,w⟩:=zW;subst ex;obtain rfl :=t;exact⟨dict_typeIs e g,d_getItem hu e g q λD A r c=>⟨v,j,r,c,w⟩⟩
theorem pc_din(hu:X.A.units+1<cLine)(hi:PE X i ty)(ho:PE X o td):PC X .In i o (tDIn ty td):=by
 intro b s σ H Q I h;refine thn (hi b s σ H _ I h) λD e zW=>?_;obtain⟨y,z,l,q,j⟩:=zW;refine thn (ho b e σ z _ l j) λu B zW=>?_;obtain⟨x,c,m,t,a,p,ex,g,w⟩:=zW;subst ex;obtain rfl :=t;exact d_in hu m g q λA r=>⟨.bl p.isSome,c,r,rfl,w⟩
theorem pc_dnotin(hu:X.A.units+1<cLine)(hi:PE X i ty)(ho:PE X o td):PC X .NotIn i o (tDNotIn ty td):=by
 intro b s σ H Q I h;refine thn (hi b s σ H _ I h) λD e zW=>?_;obtain⟨y,z,l,q,j⟩:=zW;refine thn (ho b e σ z _ l j) λu B zW=>?_;obtain⟨x,c,m,t,a,p,ex,g,w⟩:=zW;subst ex;obtain rfl :=t;exact d_notIn hu m g q λA r=>⟨.bl (!p.isSome),c,r,rfl,w⟩
theorem cI(hu:X.A.units+1<cLine)(ho:PE X o td)(hi:PE X i ty)(hv:PE X value tv)(hs:swapsWith value (some (.Subscript o i pos')) pos.line X.env=pure false):
  PS X (.Assign [.Subscript o i pos'] value pos) (sDPut td ty tv):=by
 intro b s σ H D I h;refine wpAny_Assign_Subscript (thn (hv b s σ H _ I h) λr j zW=>?_) hs;obtain⟨v,G,m,e,l⟩:=zW;refine thn (ho b j σ G _ m l) λu z zW=>?_;obtain⟨x,c,p,E,F⟩:=zW;refine thn (hi b z σ c _ p F) λM J zW=>?_;obtain⟨y,L,B,A,a,q,ex,g,t⟩:=zW;subst ex;obtain rfl :=E;exact d_setItem hu B g A e λK w=>⟨σ,q,w,t⟩
end
theorem dk_empty(h:Heap)(hb:sysModules<h.objs.size):ObjOk P w H (h.push {cls:=.type "dict",data:=.dict #[]}) h.objs.size (.dK []):=
 ⟨lD _,nN.mpr (Ne.symm (mq hb)),[],.nil,Heap.DictOf.new h⟩
noncomputable def tDNewK:TE:=λ_ H Q=>∀p,H p=none->Q (.ref p) (upd H p (.dK []))
section
variable{X:Cx}{pos:Pos}
theorem cU:PE X (.Dict [] [] pos) tDNewK:=λb s σ H Q I h=>
 wpAny_Dict_empty ⟨.ref s.heap.objs.size,_,I.laid (λ_ _ q=>lK _ q) (k5 _) (dk_empty s.heap I.big),rfl,h _ (I.hok.fresh (k5 _))⟩
end
noncomputable def tPairs:List (TE×TE)->St->Hp->(List (V×V)->Hp->Prop)->Prop
 |[],_,H,Q=>Q [] H
 |(tk,tv)::r,σ,H,Q=>tk σ H λx H1=>tv σ H1 λy H2=>tPairs r σ H2 λps H3=>Q ((x,y)::ps) H3
noncomputable abbrev VV:List (V×V)->List (Value×Value)->Prop:=Paired λp q=>RelV p.1 q.1/\RelV p.2 q.2
noncomputable def mergeK(kvs more:List (Key×V)):List (Key×V):=more.foldl (λacc kv=>cK acc kv.1 kv.2) kvs
structure M1(X:Cx)(o:Expr)(m:Str)(apos:Pos)(e:Expr)(cpos:Pos):Prop where
 base:attributeBase o m X.env (eval o X.env)=eval o X.env
 few:((backTo cpos (starEach [e] X.env)).all (λx=>!x.1)&&(backToKw cpos (keywordEach [] X.env)).all (λx=>x.1.isSome)
  &&decide (([e]:List Expr).length+([]:List Keyword).length+(if([]:List Keyword).isEmpty then 0 else 1)<30))=true
 line:(apos.endLine==cpos.line)=true
 trees:backTo cpos (starEach [e] X.env)=[(false,eval e X.env)]
structure M2(X:Cx)(o:Expr)(m:Str)(apos:Pos)(e f:Expr)(cpos:Pos):Prop where
 base:attributeBase o m X.env (eval o X.env)=eval o X.env
 few:((backTo cpos (starEach [e,f] X.env)).all (λx=>!x.1)&&(backToKw cpos (keywordEach [] X.env)).all (λx=>x.1.isSome)
  &&decide (([e,f]:List Expr).length+([]:List Keyword).length+(if([]:List Keyword).isEmpty then 0 else 1)<30))=true
 line:(apos.endLine==cpos.line)=true
 trees:backTo cpos (starEach [e,f] X.env)=[(false,eval e X.env),(false,eval f X.env)]
noncomputable def IsD(H:Hp)(a:Addr):Prop:=(∃kvs,Rd H a (.dK kvs))∨∃kvs,Rd H a (.dT kvs)
theorem isD_at(I:Inv X pins σ H s)(d:IsD H a):
  s.TypeIs (.ref a) "dict"/\(∀b,Value.ref a=.ref b->∃ob,s.heap.get? b=some ob/\ob.dict=none)/\(a==sysModules)=false:=by
 rcases d with⟨kvs,e⟩|⟨kvs,e⟩
 ·obtain⟨_,i,m,_,c⟩:=i8 I.hok e;refine⟨c.typeIs,λb q=>?_,i⟩
  cases q;obtain⟨ob,_,_,j,h,_⟩:=c;exact⟨ob,j,h.2.1⟩
 ·obtain⟨_,i,l,_,c⟩:=dt_rd I.hok e;refine⟨c.typeIs,λb q=>?_,i⟩
  cases q;obtain⟨ob,_,_,j,h,_⟩:=c;exact⟨ob,j,h.2.1⟩
section
variable{X:Cx}{pins:List (Addr×Obj)}{σ:St}{H:Hp}{s:Shared}{a:Addr}{y d:V}{u r:Value}{o:Option V}{A:Around}{E:Value->Shared->Prop}
theorem d_get2(hu:A.units+1<cLine)(I:Inv X pins σ H s)(g:DGet H a y o)(ry:RelV y u)(rd:RelV d r)(h:∀w' s',Inv X pins σ H s'->RelV (o.getD d) w'->Q w' s'):
  wpAny (model X.prog X.w) A (call (.builtin "dict.get") [.ref a,u,r]) Q E s:=by
 rcases g with⟨kvs,k,e,ey,l⟩|⟨kvs,k,b,e,ey,eb,l⟩
 ·subst ey;obtain⟨z,j,p,c,i⟩:=i8 I.hok e;refine call_meetsIn PySem.F.slot_dict_get i.typeIs PySem.F.entry_dict_get (PySem.F.args_dict_get_3 _ _ _) (meets_dict_get_default (cW X.prog X.w) a (kV_is ry) j r) ⟨_,i.mapOf,h _ _ (I.tok _) ?_⟩;rw[l];exact(c.val k).getD rd
 ·subst ey
  cases(show u=Value.ref b from ry);obtain⟨z,j,m,c,i⟩:=dt_rd I.hok e;refine call_meetsIn PySem.F.slot_dict_get i.typeIs PySem.F.entry_dict_get (PySem.F.args_dict_get_3 _ _ _) (meetsH_dict_get_default (tupleKind (cW X.prog X.w)) a b j r) ⟨tupleKind_room_in1 hu,k,m,key_of I.hok eb,i,h _ _ (I.tok _) ?_⟩;rw[l];exact(c.val k).getD rd
end
noncomputable def tDGet2(td ty tx:TE):TE:=λσ H Q=>td σ H λx H1=>∃a,x=.ref a/\IsD H1 a/\ty σ H1 λy H2=>tx σ H2 λz H3=>∃o,DGet H3 a y o/\Q (o.getD z) H3
section
variable{X:Cx}{o e f:Expr}{apos cpos:Pos}{td ty tx:TE}
theorem f9(hu:X.A.units+1<cLine)(ho:PE X o td)(he:PE X e ty)(hf:PE X f tx)(m:M2 X o "get" apos e f cpos):PE X (.Call (.Attribute o "get" apos) [e,f] [] cpos) (tDGet2 td ty tx):=by
 intro b s σ H Q I h;refine wpAny_Call_method m.base m.few m.line PySem.F.plainAttrs_dict PySem.F.slot_dict_get PySem.F.type_dict_get (thn (ho b s σ H _ I h) λu l zW=>?_);obtain⟨x,A,i,t,a,ex,d,D⟩:=zW;subst ex;obtain rfl :=t;obtain⟨M,j,_⟩:=isD_at i d;refine⟨M,j,?_⟩;rw[m.trees]
 refine Calls.callWith_builtin rfl (Calls.evalArgs_plain (Calls.spliced_cons (thn (he b l σ A _ i D) λT J⟨y,B,p,G,L⟩=>
  Calls.spliced_cons (thn (hf b J σ B _ p L) λS O⟨z,w,K,r,N,g,q⟩=>Calls.spliced_nil ?_))))
 exact d_get2 hu K g G r λR P E c=>⟨_,w,E,c,q⟩
end
section
variable{X:Cx}{pins:List (Addr×Obj)}{σ:St}{H:Hp}{s:Shared}{a:Addr}{kvs:List (Key×V)}{A:Around}{E:Value->Shared->Prop}
theorem d_copyOf(I:Inv X pins σ H s)(e:Rd H a (.dK kvs))(h:∀p s',H p=none->Inv X pins σ (upd H p (.dK kvs)) s'->Q (.ref p) s'):wpAny (model X.prog X.w) A (call (.type "dict") [.ref a]) Q E s:=by
 obtain⟨z,r,w,c,l⟩:=i8 I.hok e;refine kt_call_dict r l (by rw[<-c.length];exact z) λt i m=>?_;refine h _ _ (I.hok.fresh (k5 _)) (I.laid (λb q j=>?_) (k5 _) (dk_new z (nN.mpr (Ne.symm (mq I.big))) c i));exact(m.2 b (mq (lP j))).trans (lK _ j)
end
section
variable{X:Cx}
theorem call_lenD:ie X (.builtin "len") (λxs H Q=>∃a kvs,xs=[V.ref a]/\H a=some (.dK kvs)/\Q (.int kvs.length) H):=by
 intro b s σ H xs j Q I r h;obtain⟨a,kvs,rfl,i,q⟩:=h;obtain⟨u,rfl,e⟩:=jL r
 cases e;exact d_len I (.inl i) λt l c=>⟨.int kvs.length,H,c,⟨t,rfl⟩,q⟩
end
section
variable{κ:Type}[DecidableEq κ]
theorem valV_not{k:κ}(h:cV kvs k=none):¬k∈kvs.map (·.1):=by
 intro m;obtain⟨p,b,e⟩:=k8.mp m;have q:(kvs.any λa=>decide (a.1=k))=true:=List.any_eq_true.mpr ⟨p,b,lQ e⟩;rw[fU,h]at q;exact absurd q (by simp)
theorem valV_in{k:κ}(h:cV kvs k=some v):k∈kvs.map (·.1):=by
 have q:(kvs.any λa=>decide (a.1=k))=true:=by
  rw[fU,h]
  all_goals rfl
 obtain⟨p,b,e⟩:=List.any_eq_true.mp q;exact k8.mpr ⟨p,b,of_decide_eq_true e⟩
theorem dropK_pos{k:κ}(e:p.1=k):dropK (p::r) k=dropK r k:=by
 unfold dropK;rw[List.filter_cons,if_neg (by simp[e])]
theorem dropK_neg{k:κ}(e:¬p.1=k):dropK (p::r) k=p::dropK r k:=by
 unfold dropK;rw[List.filter_cons,if_pos (by simp[e])]
theorem dropK_no:∀{kvs:List (κ×V)}{k:κ},¬k∈kvs.map (·.1)->dropK kvs k=kvs
 |[],_,_=>rfl
 |p::r,k,h=>by
  have a:¬k∈r.map (·.1):=λm=>by
   obtain⟨q,b,e⟩:=k8.mp m;exact h (k8.mpr ⟨q,lN.mpr (Or.inr b),e⟩)
  rw[dropK_neg λe=>h (k8.mpr ⟨p,lN.mpr (Or.inl rfl),e⟩),dropK_no a]
theorem dropK_mem{p:κ×V}(h:p∈dropK kvs k):p∈kvs:=(n8.mp h).1
end
section
variable{X:Cx}
noncomputable def PTs(X:Cx)(ifs:List Expr)(t:TT):Prop:=
 ∀(pins:List (Addr×Obj))(s:Shared)(σ:St)(H:Hp)(Q:Bool->Hp->Prop),Inv X pins σ H s->t σ H Q->
  wpAny (model X.prog X.w) X.A (forIn ifs true λc r=>if r=true then do let ok<-isTrue c X.env (eval c X.env);pure (ForInStep.yield ok) else pure (ForInStep.yield r)) (TP X pins σ Q) X.xe s
noncomputable def tYes:TT:=λ_ H Q=>Q true H
theorem eI:PTs X [] tYes:=λa s σ H Q I h=>wpAny_tests_nil ⟨H,I,h⟩
theorem pts_one(h:PT X c t):PTs X [c] t:=λa s σ H Q I q=>wpAny_tests_one (h a s σ H Q I q)
noncomputable def ClSub(X:Cx):List (Str×Addr)->Prop
 |[]=>True
 |p::r=>X.env.cells.lookup p.1=some p.2/\ClSub X r
theorem ClSub.at:∀{cl:List (Str×Addr)},ClSub X cl->∀y c,cl.lookup y=some c->X.env.cells.lookup y=some c
 |[],_,y,c,e=>by simp at e
 |(z,d)::r,h,y,c,e=>by
  by_cases q:y=z
  ·subst q;simp at e;subst e;exact h.1
  ·rw[lU,nN.mpr q]at e;exact ClSub.at h.2 y c e
theorem lookup_has{cl:List (Str×Addr)}:y∈cl.map (·.1)->∃c,cl.lookup y=some c:=by
 induction cl with
 |nil=>intro h;simp at h
 |cons p r ih=>
  intro h;by_cases q:y=p.1
  ·subst q;exact⟨p.2,by cases p;simp⟩
  ·obtain⟨c,e⟩:=ih (by
    rcases lN.mp h with z|z
    ·exact absurd z q
    ·exact z)
   exact⟨c,by rw[lU,nN.mpr q];exact e⟩
theorem jV(h:(z,k)∈(relabel scope env).names)(hk:k=.cell∨k=.free):(z,NameKind.cell)∈scope.names∨(z,NameKind.free)∈scope.names:=by
 unfold relabel at h;obtain⟨⟨n,b⟩,a,e⟩:=k8.mp h;dsimp only at e
 split at e
 ·rename_i c
  cases e
  have:b=.free:=by
   have:=(Bool.and_eq_true_iff.mp (Bool.and_eq_true_iff.mp c).1).1
   simpa using this
  subst this;exact .inr a
 ·cases e;rcases hk with rfl|rfl
  ·exact .inl a
  ·exact .inr a
theorem Clos.many(h:closureFor scope X.env=pure cl)(hs:ClSub X cl)(hy:cl.map (·.1)=ys)
  (hr:∀p∈scope.names,(p.2=.cell∨p.2=.free)->p.1∈ys):Clos X scope cl:=by
 refine⟨h,λy c e=>hs.at y c e,λy a=>lookup_has ?_⟩;rw[hy];rcases a with q|q
 ·rcases jV (nF q) (.inl rfl)with m|m
  ·exact hr _ m (.inl rfl)
  ·exact hr _ m (.inr rfl)
 ·rcases jV (nF q) (.inr rfl)with m|m
  ·exact hr _ m (.inl rfl)
  ·exact hr _ m (.inr rfl)
noncomputable def RdAll(X:Cx)(scope:Scope):List Str->List Nat->Prop
 |[],[]=>True
 |y::ys,j::js=>(X.N[j]?=some y/\X.env.scope.names.lookup y=some .cell/\(relabel scope X.env).names.lookup y=some .cell)/\RdAll X scope ys js
 |_,_=>False
theorem RdAll.len:∀{ys:List Str}{js:List Nat},RdAll X scope ys js->js.length=ys.length
 |[],[],_=>rfl
 |y::ys,j::js,h=>by rw[mh,mh,RdAll.len h.2]
theorem RdAll.at:∀{ys:List Str}{js:List Nat},RdAll X scope ys js->∀(i:Nat)(y:Str)(j:Nat),ys[i]?=some y->js[i]?=some j->X.N[j]?=some y/\X.env.scope.names.lookup y=some .cell/\(relabel scope X.env).names.lookup y=some .cell
 |[],[],_,i,y,j,e,_=>by simp at e
 |y'::ys,j'::js,h,0,y,j,e1,e2=>by
  simp at e1 e2;subst e1 e2;exact h.1
 |y'::ys,j'::js,h,i+1,y,j,e1,e2=>RdAll.at h.2 i y j (by simpa using e1) (by simpa using e2)
theorem Reads.many(h:RdAll X scope ys js):Reads X scope ys (λσ=>js.map λj=>σ.getD j Option.none):=by
 refineλσ=>⟨by rw[kX,h.len],λi y v c b=>?_⟩;rw[lg]at b
 cases q:js[i]? with
 |none=>rw[q]at b;cases b
 |some j=>
  rw[q]at b;obtain⟨m,l,e⟩:=h.at i y j c q;refine⟨j,m,?_,l,e⟩;have a:σ.getD j Option.none=some v:=lY b;rw[List.getD_eq_getElem?_getD]at a
  cases z:σ[j]? with
  |none=>rw[z]at a;cases a
  |some o=>rw[z]at a;exact mj some a
noncomputable def tCompG(k:Nat)(wi:TI)(g:TG)(tc:TT)(te:TE)(sel:St->St):TE:=λσ H Q=>wi σ H λJ H1=>∀l,H1 l=none->∃W:Nat->Nat->Hp->Prop,(∃m,W 0 m (upd H1 l (.lst [])))/\∀i m H,W i m H->
 (J.stop i H/\Q (.ref l) H)∨(J.go i H/\∀x H',J.yld i H x H'->∀zs:St,zs.length=k->g x (zs++sel σ) H' λσ2 H2=>(∃zs':St,zs'.length=k/\σ2=zs'++sel σ)/\tc σ2 H2 λb H3=>if b=true then te σ2 H3 λy H4=>∃ys,H4 l=some (.lst ys)/\ys.length<sizeLine/\∃m',m'<m/\W (i+1) m' (upd H4 l (.lst (ys++[y]))) else∃m',m'<m/\W (i+1) m' H3)
theorem jc{prog:Program}{w:World}{A:Around}{R:Result->Shared->Prop}{s:Shared}{elt target iter:Expr}{ifs:List Expr}{scope:Scope}{pos:Pos}{it acc:Value}{env:Env}(I:Nat->Shared->Prop)
  (turn:∀n s,I n s->wpAny (model prog w) A (pyNext it) (λr s₁=>match r with
   |none=>R (.ok .next) s₁
   |some v=>wpAny (model prog w) A (letOwnedTupleGo target it v) (λ_ s₁'=>wpAny (model prog w) A (assign target env v) (λ_ s₂=>
     wpAny (model prog w) A (forIn ifs true λc r=>if r=true then do let ok<-isTrue c env (eval c env);pure (ForInStep.yield ok) else pure (ForInStep.yield r)) (λok s₃=>if ok=true then wpAny (model prog w) A (eval elt env) (λx s₄=>
      wpAny (model prog w) A (call (.builtin "list.append") [acc,x]) (λ_ s₅=>∃m,m<n/\I m s₅) (λ_ _=>False) s₄) (λ_ _=>False) s₃ else∃m,m<n/\I m s₃) (λ_ _=>False) s₂) (λ_ _=>False) s₁') (λ_ _=>False) s₁) (λ_ _=>False) s)
  (n:Nat)(h:I n s):
  codeAny (model prog w) A (.compLoop (.ListComp elt [⟨target,iter,ifs,0⟩] scope pos) 0 it acc env) R s:=by
 refine codeAny_loop rfl I (λn s j=>?_) n h;refine wpAny_noted ?_;rw[compTurn_list];refine mx (wpAny_standAt (mx (nY (turn n s j) (λr s₁ e=>?_) λ_ _ a=>a.elim)))
 cases r with
 |none=>exact mW e
 |some v=>
  refine mx (nY e (λ_ s₁' b=>?_) λ_ _ a=>a.elim);refine mx (nY b (λ_ s₂ l=>mx (nY l (λok s₃ i=>?_) λ_ _ a=>a.elim)) λ_ _ a=>a.elim)
  cases ok with
  |false=>exact mW ⟨rfl,i⟩
  |true=>exact mx (mx (nY i (λx s₄ o=>mx (nY o (λ_ s₅ p=>mW (mW ⟨rfl,p⟩)) λ_ _ a=>a.elim)) λ_ _ a=>a.elim))
theorem comp_blockG{rest:List Str}{Q:VK}
  {RR:Value->Addr->Result->Shared->Prop}
  (hcalm:X.calm=true)(hkind:scope.kind=.function)(hcell:∀z∈scope.names,z.2≠.cell)(hc:Clos X scope cl)(hr:Reads X scope rest sel)
  (hg:∀(C:Addr)(s:Shared)(H:Hp),PG (eG X pins (xs++rest) scope cl C fp s H) tg g)(ht:∀(C:Addr)(s:Shared)(H:Hp),PTs (eG X pins (xs++rest) scope cl C fp s H) ifs tc)
  (he:∀(C:Addr)(s:Shared)(H:Hp),PE (eG X pins (xs++rest) scope cl C fp s H) elt te)
  (I:Inv X pins σ H s)(T:Turn X.prog X.w X.K tg J fp it tn)(t0:tn 0 s.heap)(hf:∀b∈fp,FpOk X pins H b)
  (h:∀l,H l=none->∃W:Nat->Nat->Hp->Prop,(∃m,W 0 m (upd H l (.lst [])))/\∀i m H,W i m H->
   (J.stop i H/\Q (.ref l) H)∨(J.go i H/\∀x H',J.yld i H x H'->∀zs:St,zs.length=xs.length->g x (zs++sel σ) H' λσ2 H2=>(∃zs':St,zs'.length=xs.length/\σ2=zs'++sel σ)/\tc σ2 H2 λb H3=>if b=true then te σ2 H3 λy H4=>∃ys,H4 l=some (.lst ys)/\ys.length<sizeLine/\∃m',m'<m/\W (i+1) m' (upd H4 l (.lst (ys++[y]))) else∃m',m'<m/\W (i+1) m' H3))
  (hRR:∀(D C:Addr)(H':Hp)(s':Shared),Inv X pins σ H' s'->FpOk X pins H' C->(∃m,s'.heap.Ns C m)->Q (.ref D) H'->RR (.ref D) C (.ok .next) s'):
  wpAny (model X.prog X.w) X.A (newList []) (λacc s₃=>wpAny (model X.prog X.w) X.A (newFunctionEnv scope X.env.globals cl [] X.env.qual none .none (some X.env)) (λcenv s₄=>
   codeAny (model X.prog X.w) X.A (.compStart (.ListComp elt [⟨tg,iter,ifs,0⟩] scope pos) 0 (.ref it) acc {cenv with scope:=relabel scope X.env}) (RR acc cenv.locals) s₄) E s₃) E s:=by
 have hD :=I.hok.fresh (k5 _);obtain⟨W,⟨m0,w0⟩,aa⟩:=h _ hD;refine wpAny_newObj_type ?_
 have F:Inv X pins σ (upd H s.heap.objs.size (.lst [])) {s with heap:=s.heap.push {cls:=.type "list",dict:=none,data:=.seq ([]:List Value).toArray}}:=
  I.laid (λb u e=>lK _ e) (k5 _) ⟨lD _,[],0,.nil,me _ rfl⟩
 generalize ag:({s with heap:=s.heap.push {cls:=.type "list",dict:=none,data:=.seq ([]:List Value).toArray}}:Shared)=t at F⊢;have N:∀b o,s.heap.get? b=some o->t.heap.get? b=some o:=λb o e=>by rw[<-ag];exact lK _ e
 refine wpAny_newFunctionEnv hcell (by intro y hy;simp at hy) (λh1 Z U=>?_) hkind;have B:∀b o,t.heap.get? b=some o->h1.get? b=some o:=λb o e=>U.extBut b o (mq (lP e)) (lK _ e)
 have fD:∀b∈fp,b≠s.heap.objs.size:=λb a z=>by
  obtain⟨o,e,_⟩:=T.obj 0 _ t0 b a;exact absurd (lP e) (by rw[z];exact nP _)
 have ah:∀b∈fp,FpOk X pins (upd H s.heap.objs.size (.lst [])) b:=λb a=>⟨by rw[aG (fD b a)];exact(hf b a).1,(hf b a).2⟩
 have fC:∀b∈fp,b≠t.heap.objs.size:=λb a z=>by
  obtain⟨o,e,_⟩:=T.obj 0 _ t0 b a;exact absurd (lP (N b o e)) (by rw[z];exact nP _)
 have M:∀b∈fp,b∉frs X.stack:=λb a z=>(lN.mp (F.stkSub b z)).elim (hf b a).2.1 (hf b a).2.2.1
 have ok:(eG X pins (xs++rest) scope cl t.heap.objs.size fp t (upd H s.heap.objs.size (.lst []))).Ok:=by
  refine⟨I.ok.mod,hkind,I.ok.glob,I.ok.blt,k5 _,λy z c P K=>I.ok.inj y z c (hc.sub y c P) (hc.sub z c K),λy hy=>hc.has y hy,λy c e=>(nomatch e),I.ok.hd,I.ok.frames,.inl rfl,λb a=>⟨fC b a,λy c e=>(hf b a).2.2.2.2.1 y c (hc.sub y c e)⟩,
   F.bs,lC I.ok.bsz F.sz,λb o e a=>?_,M,F.stack,F.stkFree⟩
  rcases(hf b a).2.2.2.1 with z|z
  ·exact I.ok.noex b o e z
  ·exact absurd (mr (lP e) I.ok.bsz) (Nat.not_lt.mpr z)
 have I4:Inv (eG X pins (xs++rest) scope cl t.heap.objs.size fp t (upd H s.heap.objs.size (.lst []))) [] (xs.map (λ_=>none)++sel σ) (upd H s.heap.objs.size (.lst [])) {t with heap:=h1,toks:=t.toks+([]:List (Str×Value)).length}:=by
  refine⟨ok,rfl,F.bare,Un.kept B,⟨_,Z,λi y v P K e3=>?_⟩,λy c e=>?_,F.hok.fresh (k5 _),λy c e=>F.freeC y c (hc.sub y c e),λp hp=>?_,F.hok.kept B,?_⟩
  ·have ab:xs.length<=i:=by
    apply lZ
    intro ao;rw[nD (by rw[kX];lia),lg]at K
    cases q:xs[i]? with
    |none=>rw[q]at K;cases K
    |some z=>rw[q]at K;cases K
   have aj:rest[i-xs.length]?=some y:=by
    have P:(xs++rest)[i]?=some y:=P;rw[mP ab]at P;exact P
   have af:(sel σ)[i-xs.length]?=some (some v):=by
    rw[mP (by rw[kX];exact ab),kX]at K;exact K
   obtain⟨j,q1,q2,q3,q4⟩:=(hr σ).2 _ y v aj af;obtain⟨m,hn,hl⟩:=F.loc;obtain⟨u,r,l⟩:=hl j y v q1 q2 (.inr (.inl q3));refine⟨u,r,.inr ⟨.inl q4,?_⟩⟩;obtain⟨c,ec⟩:=hc.has y (.inl q4);refine⟨c,ec,?_⟩;rcases l with⟨k,_⟩|⟨_,c',e',z⟩
   ·have k':X.env.scope.names.lookup y=some .local:=k;rw[q3]at k';cases k'
   ·rw[hc.sub y c ec]at e'
    cases e';obtain⟨o,ho,hd⟩:=z;exact⟨o,B c o ho,hd⟩
  ·obtain⟨v,o,ho,hd⟩:=F.cell y c (hc.sub y c e);exact⟨v,o,B c o ho,hd⟩
  ·have ak:p∈X.pn++pins:=by simpa[eG]using hp
   obtain⟨e,n,ne,nf,d⟩:=F.pin p ak;exact⟨B _ _ e,n,mq (lP e),λz=>(lN.mp (F.stkSub _ z)).elim ne nf,d⟩
  ·show(xs.map (λ_=>none)++sel σ).length=(xs++rest).length;rw[lG,lG,kX,(hr σ).1]
 have G:∀{H':Hp},(∀b∈fp,H' b=none)->∀b∈fp,FpOk (eG X pins (xs++rest) scope cl t.heap.objs.size fp t (upd H s.heap.objs.size (.lst []))) [] H' b:=λhn b a=>
  ⟨hn b a,fC b a,M b a,.inl a,λy c e=>(hf b a).2.2.2.2.1 y c (hc.sub y c e),λp hp=>(hf b a).2.2.2.2.2 p (by simpa[eG]using hp)⟩
 have t4 :=T.keep _ _ _ t0 λb a o e=>B b o (N b o e)
 have L:∀s4:Shared,s4={t with heap:=h1,toks:=t.toks+([]:List (Str×Value)).length}->
   codeAny (model X.prog X.w) X.A (.compLoop (.ListComp elt [⟨tg,iter,ifs,0⟩] scope pos) 0 (.ref it) (.ref s.heap.objs.size) (compEnvC scope cl t.heap.objs.size X.env)) (RR (.ref s.heap.objs.size) t.heap.objs.size) s4:=by
  rintro s4 rfl
  refine jc (λn s'=>yE3 λi zs H'=>zs.length=xs.length×' Inv (eG X pins (xs++rest) scope cl t.heap.objs.size fp t (upd H s.heap.objs.size (.lst []))) [] (zs++sel σ) H' s'×' tn i s'.heap×'(∀b∈fp,H' b=none)×' W i n H') ?_ m0
   ⟨0,_,_,kX _,I4,t4,λb a=>(ah b a).1,w0⟩
  rintro n s5⟨i,zs,Y,ai,I5,t5,f5,w5⟩;rcases aa i n Y w5 with⟨stop,qn⟩|⟨go,step⟩
  ·refine thn (T.done (eG X pins (xs++rest) scope cl t.heap.objs.size fp t (upd H s.heap.objs.size (.lst []))) rfl rfl rfl hcalm i [] s5 _ Y _ I5 (G f5) t5 stop) λr s6⟨er,S⟩=>?_;subst er;have J6 :=F.call' (ch:=fp) S.os S.base S.hok S.bare λb a=>⟨(hf b a).2.2.2.1,(hf b a).2.1,(hf b a).2.2.2.2.1,(hf b a).2.2.2.2.2⟩;exact hRR _ _ Y s6 J6 (F.fpOk (k5 _) S.free) (let⟨m,hn,_⟩:=S.loc;⟨m,hn⟩) qn
  ·refine thn (T.item (eG X pins (xs++rest) scope cl t.heap.objs.size fp t (upd H s.heap.objs.size (.lst []))) rfl rfl rfl hcalm i [] s5 _ Y _ I5 (G f5) t5 go) λr s6⟨u,er,h6⟩=>?_;subst er;refine thn h6 λ_ s7 zW=>?_;obtain⟨y,H7,I7,r7,y7,t7,f7⟩:=zW;have ae:=I7.pinned (G f7) (T.obj _ _ t7);refine thn (hg _ _ _ _ s7 _ H7 y u _ ae r7 (step y H7 y7 zs ai)) λ_ s8 zW=>?_;obtain⟨σ8,H8,I8,⟨zs',ac,e8⟩,q8⟩:=zW;subst e8;refine thn (ht _ _ _ _ s8 _ H8 _ I8 q8) λb s9 zW=>?_;obtain⟨H9,R,q9⟩:=zW
   cases b with
   |false=>
    rw[if_neg lX]at q9⊢;obtain⟨m',hm,w9⟩:=q9;refine⟨m',hm,i+1,zs',_,ac,R.unpinned,T.keep _ _ _ t7 λb a o e=>(R.pin (b,o) (lS _ (lS _ (fP a e)))).1,λb a=>?_,w9⟩;obtain⟨o,e,d⟩:=T.obj _ _ t7 b a;exact(R.pin (b,o) (lS _ (lS _ (fP a e)))).2.1
   |true=>
    rw[if_pos rfl]at q9⊢;refine thn (he _ _ _ _ s9 _ H9 _ R q9) λz s9 zW=>?_;obtain⟨yv,H9,R,r9,ys,hl,hz,m',hm,w9⟩:=zW
    refine thn (eN _ s9 _ H9 (.ref s.heap.objs.size) [yv] (.ref s.heap.objs.size) [z]
     (λv H'=>H'=upd H9 s.heap.objs.size (.lst (ys++[yv]))) R rfl (.cons r9 .nil) ⟨_,ys,yv,rfl,rfl,hl,hz,rfl⟩) λ_ al⟨am,an,O,_,ad⟩=>?_
    subst ad;refine⟨m',hm,i+1,zs',_,ac,O.unpinned,T.keep _ _ _ t7 λb a o e=>(O.pin (b,o) (lS _ (lS _ (fP a e)))).1,λb a=>?_,w9⟩;obtain⟨o,e,d⟩:=T.obj _ _ t7 b a;exact(O.pin (b,o) (lS _ (lS _ (fP a e)))).2.1
 exact codeAny_compStart_list (L _ rfl) (T.self _ 0 _ _ _ t4 (L _ rfl))
theorem gc{rest:List Str}
  (hcalm:X.calm=true)(hi:PI X tg iter wi)(hg:∀(pins:List (Addr×Obj))(fp:List Addr)(C:Addr)(s:Shared)(H:Hp),PG (eG X pins (xs++rest) scope cl C fp s H) tg g)(ht:∀(pins:List (Addr×Obj))(fp:List Addr)(C:Addr)(s:Shared)(H:Hp),PTs (eG X pins (xs++rest) scope cl C fp s H) ifs tc)
  (he:∀(pins:List (Addr×Obj))(fp:List Addr)(C:Addr)(s:Shared)(H:Hp),PE (eG X pins (xs++rest) scope cl C fp s H) elt te)
  (hc:Clos X scope cl)(hr:Reads X scope rest sel)(hkind:scope.kind=.function:=by rfl)(hcell:∀z∈scope.names,z.2≠.cell:=by decide+kernel)(hnames:∀z∈scope.names,z.2=.local->scope.names.lookup z.1=some .local:=by decide+kernel)
  (hs:∀x,foldedSetIterable iter X.env x=pure x:=by intro _;rfl):
  PE X (.ListComp elt [⟨tg,iter,ifs,0⟩] scope pos) (tCompG xs.length wi g tc te sel):=by
 intro pins s σ H Q I h;rw[eval_ListComp];refine wpAny_comprehension_free rfl hs hc.clos hkind hnames (thn (hi pins s σ H _ I h) λv M G=>thn G λF R B=>?_);obtain⟨N,fp,O,J,P,rfl,p,T,l,y,j⟩:=B;refine comp_blockG hcalm hkind hcell hc hr (hg pins fp) (ht pins fp) (he pins fp) p T l y j λD C L t i a⟨m,E⟩q=>?_;exact⟨m,E,λS K=>⟨.ref D,L,i.turned (λb o r e=>(K.2 b r).trans e) a.1 a.2.1 a.2.2.2.1 a.2.2.2.2.1 a.2.2.2.2.2,rfl,q⟩⟩
theorem fY{rest:List Str}
  (hNX:X.N.Nodup)(hi':X.N[i]?=some y)(hy:X.env.scope.names.lookup y=some .local)
  (hcalm:X.calm=true)(hi:PI X tg iter wi)(hg:∀(pins:List (Addr×Obj))(fp:List Addr)(C:Addr)(s:Shared)(H:Hp),PG (eG X pins (xs++rest) scope cl C fp s H) tg g)(ht:∀(pins:List (Addr×Obj))(fp:List Addr)(C:Addr)(s:Shared)(H:Hp),PTs (eG X pins (xs++rest) scope cl C fp s H) ifs tc)
  (he:∀(pins:List (Addr×Obj))(fp:List Addr)(C:Addr)(s:Shared)(H:Hp),PE (eG X pins (xs++rest) scope cl C fp s H) elt te)
  (hc:Clos X scope cl)(hr:Reads X scope rest sel)(hkind:scope.kind=.function:=by rfl)(hcell:∀z∈scope.names,z.2≠.cell:=by decide+kernel)(hnames:∀z∈scope.names,z.2=.local->scope.names.lookup z.1=some .local:=by decide+kernel)
  (hs:∀x,foldedSetIterable iter X.env x=pure x:=by intro _;rfl)
  (hsw:swapsWith (.ListComp elt [⟨tg,iter,ifs,0⟩] scope pos) (some (.Name y py)) spos.line X.env=pure true:=by rfl):
  PS X (.Assign [.Name y py] (.ListComp elt [⟨tg,iter,ifs,0⟩] scope pos) spos) (tAsg (tCompG xs.length wi g tc te sel) (gName i)):=by
 intro pins s σ H D I h;rw[exec_Assign_Name_used _ _ _ _ hsw];refine mx (wpAny_standAt (mx ?_))
 refine mx (nY (wpAny_comprehension_free rfl hs hc.clos hkind hnames
  (thn (hi pins s σ H _ I h) λv s1 Y=>thn Y λU B O=>?_)) (λ_ j S=>mW (mW S)) λ_ _ e=>e)
 obtain⟨it,fp,tn,J,H2,rfl,G,T,F,N,q2⟩:=O;refine comp_blockG (Q:=λx R=>gName i x σ R D.nx) hcalm hkind hcell hc hr (hg pins fp) (ht pins fp) (he pins fp) G T F N q2 λL C H' j E c⟨m,P⟩q=>?_;refine wpAny_assign_Name (store_ok2 E hNX hi' (.inl hy) (v:=.ref L) rfl (λB l zW=>?_) (.inr hy));obtain⟨a,Z,K⟩:=zW
 have r:C≠a:=λz=>by
  rcases K with z'|z'
  ·exact c.2.1 (z.trans z')
  ·exact c.2.2.2.2.1 y a z' z.symm
 exact⟨m,P.sameBut Z r,λh' p=>⟨_,H',l.turned (λb o M e=>(p.2 b M).trans e) c.1 c.2.1 c.2.2.2.1 c.2.2.2.2.1 c.2.2.2.2.2,q⟩⟩
end
section
variable{X:Cx}{pins:List (Addr×Obj)}{σ:St}{H:Hp}{s:Shared}{a:Addr}{o:Obj}{u:HO}
theorem Inv.freeze(I:Inv X pins σ H s)(ha:H a=some u)(mu:Mut (some u))(ho:s.heap.get? a=some o):Inv X pins σ (upd H a (.frz o u)) s:=by
 have b:Mut (H a):=by rw[ha];exact mu
 have i:∀c y,H c=some (.own y)->c≠a:=λc y r z=>by subst z;rw[r]at b;exact b
 have h:∀c j,H c=some (.tup j)->c≠a:=λc j r z=>by subst z;rw[r]at b;exact b
 refine I.un (Un.write b (.inl rfl) (λ_ _ _ q=>q) ⟨o,ho⟩) (I.hok.write b (.inl rfl) (λ_ _ _ q=>q) ⟨o,ho⟩ ⟨ho,?_⟩);exact(I.hok a u ha).stay (λ_ _ _ q=>q) (λc r=>by rw[aG (i c a r)];exact r) λc j r=>by rw[aG (h c j r)];exact r
theorem Inv.thaw(I:Inv X pins σ H s)(ha:H a=some (.frz o u))(h0:∀o' u',X.H₀ a≠some (.frz o' u')):Inv X pins σ (upd H a u) s:=by
 have j:∀c y,H c=some (.own y)->c≠a:=λc y r z=>by subst z;rw[r]at ha;cases ha
 have h:∀c i,H c=some (.tup i)->c≠a:=λc i r z=>by subst z;rw[r]at ha;cases ha
 have nn:∀c,H c=none->c≠a:=λc r z=>by subst z;rw[r]at ha;cases ha
 have up:∀c,H c=none->upd H a u c=none:=λc r=>by rw[aG (nn c r)];exact r
 refine⟨I.ok,I.os,I.bare,⟨I.base.keep,I.base.slot,λb l e n D=>up b (I.base.free b l e n D),I.base.there,λb i e=>?_,λb l z e=>?_,λb B e=>?_⟩,I.loc,I.cell,up _ I.free,λx c e=>up _ (I.freeC x c e),λp A=>?_,λb l e=>?_,I.len⟩
 ·have q:=I.base.tups b i e;rw[aG (h b i q)];exact q
 ·have q:=I.base.frzs b l z e;have w:b≠a:=λt=>by subst t;exact h0 _ _ e
  rw[aG w];exact q
 ·obtain⟨m,q⟩:=I.base.tbls b B e;have w:b≠a:=λt=>by subst t;rw[q]at ha;cases ha
  exact⟨m,by rw[aG w];exact q⟩
 ·obtain⟨e,n,r⟩:=I.pin p A;exact⟨e,up _ n,r⟩
 ·by_cases hb:b=a
  ·subst hb;rw[aE]at e
   cases e;obtain⟨_,q⟩:=I.hok b _ ha;exact q.stay (λ_ _ _ q=>q) (λc r=>by rw[aG (j c b r)];exact r) λc i r=>by rw[aG (h c i r)];exact r
  ·rw[aG hb]at e;exact(I.hok b l e).stay (λ_ _ _ q=>q) (λc r=>by rw[aG (j c b r)];exact r) λc i r=>by rw[aG (h c i r)];exact r
theorem Inv.nofrz(I:Inv X pins σ H s)(ha:H a=some u)(nu:∀o' u',u≠.frz o' u'):∀o' u',X.H₀ a≠some (.frz o' u'):=λo' u' e=>by
 have q:=I.base.frzs a o' u' e;rw[ha]at q;exact nu _ _ (lY q)
noncomputable def tThaw(t:TE):TE:=λσ H Q=>∃a u,H a=some u/\(∀o' u',u≠.frz o' u')/\t σ H λv H'=>∃o,H' a=some (.frz o u)/\Q v (upd H' a u)
theorem pe_thaw(h:PE X e t):PE X e (tThaw t):=by
 intro b s σ H Q I q;obtain⟨a,u,l,m,q⟩:=q;exact thn (h b s σ H _ I q) (by rintro v r⟨x,w,j,p,o,c,i⟩;exact⟨x,_,j.thaw c (I.nofrz l m),p,i⟩)
noncomputable def tThawS(t:TS):TS:=λD σ H=>∃a u,H a=some u/\(∀o' u',u≠.frz o' u')/\t {D with nx:=λσ' H'=>∃o,H' a=some (.frz o u)/\D.nx σ' (upd H' a u),rt:=λv H'=>∃o,H' a=some (.frz o u)/\D.rt v (upd H' a u),ct:=λσ' H'=>∃o,H' a=some (.frz o u)/\D.ct σ' (upd H' a u),bk:=λσ' H'=>∃o,H' a=some (.frz o u)/\D.bk σ' (upd H' a u)} σ H
theorem fw{st:Stmt}(h:PS X st t):PS X st (tThawS t):=by
 intro j s σ H D I q;obtain⟨a,u,r,w,q⟩:=q;have m:=I.nofrz r w;refine thn (h j s σ H _ I q) λf z l=>?_
 cases f with
 |next=>obtain⟨c,p,e,o,b,i⟩:=l;exact⟨c,_,e.thaw b m,i⟩
 |cont=>obtain⟨c,p,e,o,b,i⟩:=l;exact⟨c,_,e.thaw b m,i⟩
 |brk=>obtain⟨c,p,e,o,b,i⟩:=l;exact⟨c,_,e.thaw b m,i⟩
 |ret v=>obtain⟨x,c,p,e,y,o,b,i⟩:=l;exact⟨x,c,_,e.thaw b m,y,i⟩
noncomputable def Itd(a:Addr)(o:Obj)(kvs:List (Key×V)):It:=
 ⟨λi H=>H a=some (.frz o (.dK kvs))/\i<kvs.length,λi H x H'=>H'=H/\∃kv,kvs[i]?=some kv/\x=kV kv.1,λi H=>H a=some (.frz o (.dK kvs))/\kvs.length<=i⟩
theorem KV.get:∀{kvs:List (κ×V)}{vs:List (κ×Value)}{i:Nat}{kv:κ×V},KV kvs vs->kvs[i]?=some kv->∃v,vs[i]?=some (kv.1,v)/\RelV kv.2 v
 |_,_,_,_,.nil,e=>by simp at e
 |_,_,0,kv,.cons (b:=b) r t,e=>by
  simp at e;subst e;exact⟨b.2,by simp[r.1],r.2⟩
 |_,_,i+1,kv,.cons r t,e=>by
  obtain⟨v,a,c⟩:=KV.get (i:=i) t (by simpa using e);exact⟨v,by simpa using a,c⟩
theorem is_kV{u:Value}(h:(cW P w).is k u=true):RelV (kV k) u:=by
 rcases cX (show keyIs k u=true from h) with⟨i,t,rfl,rfl⟩|⟨x,t,rfl,rfl⟩
 ·exact⟨t,rfl⟩
 ·exact⟨t,rfl⟩
theorem turn_dict{K:W.Frag}(a it:Addr)(o:Obj)(kvs:List (Key×V))(hd:o.data=.dict es ep):Turn P w K tg (Itd a o kvs) [it] it (λi h=>h.IsKeyIter it a i kvs.length ep) where
 mem:=by simp
 obj:=λi h j b m=>by
  have e:b=it:=by simpa using m
  subst e;obtain⟨o,e,c,d⟩:=j;exact⟨o,e,λv z=>by rw[d]at z;cases z⟩
 keep:=λi h B j k=>j.at λo e=>k it (by simp) o e
 item:=by
  intro X R hw T hc i l s σ H E I A j L;subst R hw T;obtain⟨J,Z⟩:=L;obtain⟨x,hz,hs,U,r,o',Q,Y,t,e2,y,M,O,G⟩:=I.hok a _ J;rw[x]at t;cases t;rw[hd]at y;cases y;have hx :=lz Z;obtain⟨v,hv,rv⟩:=KV.get r hx;obtain⟨f0,F,f2,S,N,D⟩:=A it (by simp);have q:s.heap.IsKeyIter it a i U.length ep:=by rw[<-r.length];exact j
  refine wpAny_pyNext_dict_item q ⟨o,es,x,e2,hd,M,O,G⟩ hv λaa B hk p sb=>?_;rw[<-r.length]at p;have I1 :=I.turned (t':=s.toks) (λb o m e=>(sb.2 b m).trans e) f0 F S N D;obtain⟨oi,e,c,d⟩:=id p;exact⟨aa,rfl,go_of e c d (by decide) ⟨kV (kvs[i]).1,H,I1,is_kV hk,⟨rfl,_,hx,rfl⟩,p,λb m=>(A b m).1⟩⟩
 done:=by
  intro X R hw T hc i l s σ H E I A j L;subst R hw T;obtain⟨J,Z⟩:=L;obtain⟨x,hz,hs,U,r,o',Q,Y,t,e2,y,M,O,G⟩:=I.hok a _ J;rw[x]at t;cases t;rw[hd]at y;cases y;obtain⟨f0,F,f2,S,N,D⟩:=A it (by simp);have q:s.heap.IsKeyIter it a i U.length ep:=by rw[<-r.length];exact j
  exact wpAny_pyNext_dict_end (I.ok.hd hc) q ⟨o,es,x,e2,hd,M,O,G⟩ (List.getElem?_eq_none (by rw[<-r.length];exact Z)) λB eb=>⟨rfl,I.turned (λb o m e=>eb b o m e) f0 F S N D⟩
 self:=λ_ _ _ _ _ j h=>wpAny_pyIter_keyiter j h
noncomputable def iDic(tl:TE):TI:=λσ H R=>tl σ H λx H1=>∃a kvs,x=.ref a/\H1 a=some (.dK kvs)/\∀o,R (Itd a o kvs) (upd H1 a (.frz o (.dK kvs)))
theorem iR(hl:PE X l tl):PI X tg l (iDic tl):=by
 intro c s σ H R I h;refine thn (hl c s σ H _ I h) λv i zW=>?_;obtain⟨x,L,t,K,D⟩:=zW;obtain⟨a,j,e,w,q⟩:=D;subst e
 cases K;obtain⟨O,A,M,r,o,z,N,p,G,y,F,J,B⟩:=dk_of t.hok w;have m :=t.freeze w True.intro p;refine wpAny_pyIter_dict A ⟨o,z,p,G,y,F,J,B⟩ ?_;refine⟨i.heap.objs.size,[i.heap.objs.size],_,_,_,rfl,m.kept λb o e=>lK _ e,turn_dict a _ o j y,⟨_,me _ rfl,rfl,by rw[r.length];rfl⟩,λb E=>?_,q o⟩;have e:b=i.heap.objs.size:=by simpa using E
 subst e;exact m.fpOk (k5 _) (m.hok.fresh (k5 _))
end
theorem jv{g:TG}{tb:TS}{D:Ends}(Pv:Nat->St->Hp->Prop)(h0:Pv 0 σ H)(hl:∀i σ H,i<=kvs.length->Pv i σ H->H a=some (.frz o (.dK kvs)))
  (hs:∀i kv σ H,kvs[i]?=some kv->Pv i σ H->g (kV kv.1) σ H λσ2 H2=>tb {D with nx:=Pv (i+1),ct:=Pv (i+1),bk:=D.nx} σ2 H2)(hd:∀σ H,Pv kvs.length σ H->D.nx σ H):
  ∃W:Nat->Nat->St->Hp->Prop,(∃m,W 0 m σ H)/\∀i m σ H,W i m σ H->
   ((Itd a o kvs).stop i H/\D.nx σ H)∨((Itd a o kvs).go i H/\∃N:St->Hp->Prop,(∀σ' H',N σ' H'->∃m',m'<m/\W (i+1) m' σ' H')/\∀x H',(Itd a o kvs).yld i H x H'->g x σ H' λσ2 H2=>tb {D with nx:=N,ct:=N,bk:=D.nx} σ2 H2):=by
 refine⟨λi m σ H=>m=kvs.length-i×' i<=kvs.length×' Pv i σ H,⟨kvs.length,by simp,lD _,h0⟩,?_⟩;rintro i m σ H⟨rfl,h,p⟩;have q:=hl i σ H h p;by_cases hlt:i<kvs.length
 ·refine .inr ⟨⟨q,hlt⟩,Pv (i+1),λσ' H' c=>⟨kvs.length-(i+1),by lia,rfl,hlt,c⟩,λx H' y=>?_⟩;obtain⟨e,kv,b,ex⟩:=y;subst e ex;exact hs i kv σ _ b p
 ·have e:i=kvs.length:=by lia
  subst e;exact .inl ⟨⟨q,k5 _⟩,hd σ H p⟩
noncomputable def jy(n:Nat)(Pv:Nat->Hp->Prop)(i:Nat)(H:Hp):Prop:=∃m',m'<n-i/\m'=n-(i+1)/\i+1<=n/\Pv (i+1) H
theorem fE(hi:i<n)(h:Pv (i+1) H):jy n Pv i H:=⟨n-(i+1),by omega,rfl,hi,h⟩
section
variable{l:Addr}{k:Nat}{g:TG}{tc:TT}{te:TE}{ρ:St}{R:Hp->Prop}{H₀:Hp}
theorem kS{J:It}(Pv:Nat->Hp->Prop)(h0:Pv 0 (upd H₀ l (.lst [])))(hgo:∀i H,i<n->Pv i H->J.go i H)(hst:∀H,Pv n H->J.stop n H)
  (hs:∀i x H H',i<n->J.yld i H x H'->Pv i H->∀zs:St,zs.length=k->g x (zs++ρ) H' λσ2 H2=>(∃zs':St,zs'.length=k/\σ2=zs'++ρ)/\tc σ2 H2 λb H3=>if b=true then te σ2 H3 λy H4=>∃ys,H4 l=some (.lst ys)/\ys.length<sizeLine/\jy n Pv i (upd H4 l (.lst (ys++[y])))else jy n Pv i H3)
  (hd:∀H,Pv n H->R H):
  ∃W:Nat->Nat->Hp->Prop,(∃m,W 0 m (upd H₀ l (.lst [])))/\∀i m H,W i m H->
   (J.stop i H/\R H)∨(J.go i H/\∀x H',J.yld i H x H'->∀zs:St,zs.length=k->g x (zs++ρ) H' λσ2 H2=>(∃zs':St,zs'.length=k/\σ2=zs'++ρ)/\tc σ2 H2 λb H3=>if b=true then te σ2 H3 λy H4=>∃ys,H4 l=some (.lst ys)/\ys.length<sizeLine/\∃m',m'<m/\W (i+1) m' (upd H4 l (.lst (ys++[y])))else∃m',m'<m/\W (i+1) m' H3):=by
 refine⟨λi m H=>m=n-i/\i<=n/\Pv i H,⟨n,by simp,lD _,h0⟩,?_⟩;rintro i m H⟨rfl,a,p⟩;by_cases hlt:i<n
 ·exact .inr ⟨hgo i H hlt p,λx H' y=>hs i x H H' hlt y p⟩
 ·have e:i=n:=by lia
  subst e;exact .inl ⟨hst H p,hd H p⟩
theorem fQ{K:W.Frag}(Pv:Nat->Hp->Prop)(h0:Pv 0 (upd H₀ l (.lst [])))(hl:∀i H,Pv i H->SqL K H a xs)
  (hs:∀i x H,xs[i]?=some x->Pv i H->∀zs:St,zs.length=k->g x (zs++ρ) H λσ2 H2=>(∃zs':St,zs'.length=k/\σ2=zs'++ρ)/\tc σ2 H2 λb H3=>if b=true then te σ2 H3 λy H4=>∃ys,H4 l=some (.lst ys)/\ys.length<sizeLine/\jy xs.length Pv i (upd H4 l (.lst (ys++[y]))) else jy xs.length Pv i H3)
  (hd:∀H,Pv xs.length H->R H):
  ∃W:Nat->Nat->Hp->Prop,(∃m,W 0 m (upd H₀ l (.lst [])))/\∀i m H,W i m H->
   ((Itl K a).stop i H/\R H)∨((Itl K a).go i H/\∀x H',(Itl K a).yld i H x H'->∀zs:St,zs.length=k->g x (zs++ρ) H' λσ2 H2=>(∃zs':St,zs'.length=k/\σ2=zs'++ρ)/\tc σ2 H2 λb H3=>if b=true then te σ2 H3 λy H4=>∃ys,H4 l=some (.lst ys)/\ys.length<sizeLine/\∃m',m'<m/\W (i+1) m' (upd H4 l (.lst (ys++[y]))) else∃m',m'<m/\W (i+1) m' H3):=
 kS Pv h0 (λi H c p=>⟨xs,xs[i],hl i H p,lz c⟩) (λH p=>⟨xs,hl _ H p,k5 _⟩) (λi x H H' c y p=>by
  obtain⟨e,y⟩:=y;subst e;exact hs i x _ (y xs (hl i _ p)) p) hd
theorem fj{lo:Int}(Pv:Nat->Hp->Prop)(h0:Pv 0 (upd H₀ l (.lst [])))
  (hs:∀i H,i<n->Pv i H->∀zs:St,zs.length=k->g (.int (lo+i)) (zs++ρ) H λσ2 H2=>(∃zs':St,zs'.length=k/\σ2=zs'++ρ)/\tc σ2 H2 λb H3=>if b=true then te σ2 H3 λy H4=>∃ys,H4 l=some (.lst ys)/\ys.length<sizeLine/\jy n Pv i (upd H4 l (.lst (ys++[y]))) else jy n Pv i H3)
  (hd:∀H,Pv n H->R H):
  ∃W:Nat->Nat->Hp->Prop,(∃m,W 0 m (upd H₀ l (.lst [])))/\∀i m H,W i m H->
   ((Itr lo n).stop i H/\R H)∨((Itr lo n).go i H/\∀x H',(Itr lo n).yld i H x H'->∀zs:St,zs.length=k->g x (zs++ρ) H' λσ2 H2=>(∃zs':St,zs'.length=k/\σ2=zs'++ρ)/\tc σ2 H2 λb H3=>if b=true then te σ2 H3 λy H4=>∃ys,H4 l=some (.lst ys)/\ys.length<sizeLine/\∃m',m'<m/\W (i+1) m' (upd H4 l (.lst (ys++[y]))) else∃m',m'<m/\W (i+1) m' H3):=
 kS Pv h0 (λi H a p=>a) (λH p=>k5 _) (λi x H H' a y p=>by
  obtain⟨e,y⟩:=y;subst e y;exact hs i _ a p) hd
theorem compG_dict(Pv:Nat->Hp->Prop)(h0:Pv 0 (upd H₀ l (.lst [])))(hl:∀i H,Pv i H->H a=some (.frz o (.dK kvs)))
  (hs:∀i kv H,kvs[i]?=some kv->Pv i H->∀zs:St,zs.length=k->g (kV kv.1) (zs++ρ) H λσ2 H2=>(∃zs':St,zs'.length=k/\σ2=zs'++ρ)/\tc σ2 H2 λb H3=>if b=true then te σ2 H3 λy H4=>∃ys,H4 l=some (.lst ys)/\ys.length<sizeLine/\jy kvs.length Pv i (upd H4 l (.lst (ys++[y]))) else jy kvs.length Pv i H3)
  (hd:∀H,Pv kvs.length H->R H):
  ∃W:Nat->Nat->Hp->Prop,(∃m,W 0 m (upd H₀ l (.lst [])))/\∀i m H,W i m H->
   ((Itd a o kvs).stop i H/\R H)∨((Itd a o kvs).go i H/\∀x H',(Itd a o kvs).yld i H x H'->∀zs:St,zs.length=k->g x (zs++ρ) H' λσ2 H2=>(∃zs':St,zs'.length=k/\σ2=zs'++ρ)/\tc σ2 H2 λb H3=>if b=true then te σ2 H3 λy H4=>∃ys,H4 l=some (.lst ys)/\ys.length<sizeLine/\∃m',m'<m/\W (i+1) m' (upd H4 l (.lst (ys++[y]))) else∃m',m'<m/\W (i+1) m' H3):=
 kS Pv h0 (λi H h p=>⟨hl i H p,h⟩) (λH p=>⟨hl _ H p,k5 _⟩) (λi x H H' h y p=>by
  obtain⟨e,kv,c,ex⟩:=y;subst e ex;exact hs i kv _ c p) hd
end
theorem g1(h:Q (some v::ρ) H):∀zs:St,zs.length=1->gName 0 v (zs++ρ) H Q:=λzs a=>by
 cases zs with
 |nil=>cases a
 |cons z r=>cases r with|nil=>exact h|cons=>cases a
theorem yes{A B:Hp->Prop}(h:A H):tYes σ H (λb H3=>if b=true then A H3 else B H3):=by
 show if true=true then A H else B H
 rw[if_pos rfl];exact h
section
variable{X:Cx}
noncomputable def Iti(a:Addr)(o:Obj)(kvs:List (Key×V)):It:=
 ⟨λi H=>H a=some (.frz o (.dK kvs))/\i<kvs.length,λi H x H'=>∃kv t,kvs[i]?=some kv/\H t=none/\x=.ref t/\H'=upd H t (.tup [kV kv.1,kv.2]),λi H=>H a=some (.frz o (.dK kvs))/\kvs.length<=i⟩
theorem jK:entryFor table "dict_itemiterator.__iter__"=some Builtin.«dict_keyiterator.__iter__»:=entryFor_alias (id':="dict_keyiterator.__iter__") (by kernel_rfl) rfl (by decide+kernel) (by kernel_rfl)
theorem Inv.trackI(I:Inv X pins σ H s)(h0:X.s₀.heap.objs.size<=t)(hn:H t=none)(hL:t≠X.env.locals)(hc:∀x c,X.env.cells.lookup x=some c->c≠t)(hp:∀p∈X.pn++pins,p.1≠t)(hok:HOk X.prog X.w (upd H t o) s.heap):Inv X pins σ (upd H t o) s:=by
 have up:∀c,c≠t->H c=none->upd H t o c=none:=λc n r=>by rw[aG n];exact r
 refine⟨I.ok,I.os,I.bare,⟨I.base.keep,I.base.slot,λb h e n j=>up b (mq (mr (lP e) h0)) (I.base.free b h e n j),I.base.there,λb i e=>?_,λb h z e=>?_,λb l e=>?_⟩,I.loc,I.cell,up _ hL.symm I.free,λx c e=>up _ (hc x c e) (I.freeC x c e),λp a=>?_,hok,I.len⟩
 ·have q:=I.base.tups b i e;rw[aG (aN q hn)];exact q
 ·have q:=I.base.frzs b h z e;rw[aG (aN q hn)];exact q
 ·obtain⟨m,q⟩:=I.base.tbls b l e;exact⟨m,by rw[aG (aN q hn)];exact q⟩
 ·obtain⟨e,n,r⟩:=I.pin p a;exact⟨e,up _ (hp p a) n,r⟩
theorem turn_items{K:W.Frag}(a it:Addr)(o:Obj)(kvs:List (Key×V))(hd:o.data=.dict es ep):
  Turn P w K (.Tuple elts x1 tpos) (Iti a o kvs) [it] it (λi h=>∃ok ov,IsItemIter h it a i kvs.length ep ok ov)where
 mem:=by simp
 obj:=λi h j b l=>by
  have e:b=it:=by simpa using l
  subst e;obtain⟨ok,ov,e⟩:=j
  exact⟨_,e,λv z=>by
   have z':Data.fields _=Data.cell v:=z
   cases z'⟩
 keep:=λi h h' j k=>let⟨ok,ov,e⟩:=j;⟨ok,ov,k it (by simp) _ e⟩
 item:=by
  intro X Y hw hK hc i y s σ H E I hf j Q;subst Y hw hK;obtain⟨ha,hi⟩:=Q;obtain⟨B,hz,hs,vs,r,o',T,aa,A,e2,D,R,e5,e6⟩:=I.hok a _ ha;rw[B]at A;cases A;rw[hd]at D;cases D;have hx :=lz hi;obtain⟨v,hv,rv⟩:=KV.get r hx;obtain⟨L,N,f2,U,f4,f5⟩:=hf it (by simp);obtain⟨ok,ov,j⟩:=j;have m:IsItemIter s.heap it a i vs.length ep ok ov:=by rw[<-r.length];exact j
  refine wpAny_pyNext_items_item m ⟨o,es,B,e2,hd,R,e5,e6⟩ hv λJ h' hk G ht ac kk=>?_;rw[<-r.length]at G;refine⟨_,rfl,?_⟩;refine wpAny_letOwnedTupleGo_items G λZ ab sb=>?_;have nt :=Nat.ne_of_gt (lP m);have I1 :=I.turned (t':=s.toks) (λb o l e=>(sb.2 b l).trans (kk b o l e)) L N U f4 f5;have M :=I.hok.fresh (k5 _);have O :=(sb.2 _ nt).trans ht
  have S:HOk X.prog X.w (upd H s.heap.objs.size (.tup [kV (kvs[i]).1,(kvs[i]).2])) Z:=λb u e=>by
   by_cases l:b=s.heap.objs.size
   ·subst l;rw[aE]at e
    cases e;exact⟨zL2,[J,v],.cons (is_kV hk) (.cons rv .nil),_,O,rfl,_,rfl⟩
   ·rw[aG l]at e;exact(I1.hok b u e).stay (λ_ _ _ q=>q) (λc q=>by rw[aG (aN q M)];exact q) λc xs q=>by rw[aG (aN q M)];exact q
  have I2:=I1.trackI I.sz M (Nat.ne_of_gt I.lt) (λx c e z=>by
   obtain⟨v,q⟩:=I.cell x c e;exact absurd q.lt (by rw[z];exact nP _)) (λp hp z=>absurd (lP (I.pin p hp).1) (by rw[z];exact nP _)) S
  refine⟨.ref s.heap.objs.size,_,I2,rfl,⟨_,_,hx,M,rfl,rfl⟩,⟨_,_,ab⟩,λb l=>?_⟩;have e:b=it:=by simpa using l
  subst e;rw[aG nt.symm];exact L
 done:=by
  intro X Y hw hK hc i y s σ H E I hf j Q;subst Y hw hK;obtain⟨ha,hi⟩:=Q;obtain⟨B,hz,hs,vs,r,o',T,aa,A,e2,D,R,e5,e6⟩:=I.hok a _ ha;rw[B]at A;cases A;rw[hd]at D;cases D;obtain⟨L,N,f2,U,f4,f5⟩:=hf it (by simp);obtain⟨ok,ov,j⟩:=j;have m:IsItemIter s.heap it a i vs.length ep ok ov:=by rw[<-r.length];exact j
  exact wpAny_pyNext_items_end (I.ok.hd hc) m ⟨o,es,B,e2,hd,R,e5,e6⟩ (List.getElem?_eq_none (by rw[<-r.length];exact hi)) λh' eb=>⟨rfl,I.turned (λb o l e=>eb b o l e) L N U f4 f5⟩
 self:=λ_ _ _ _ _ j h=>by
  obtain⟨ok,ov,j⟩:=j;have hT:Shared.TypeIs _ (.ref it) "dict_itemiterator":=⟨_,j,rfl⟩;refine wpAny_pyIter_slot hT F.slot_dict_itemiterator_iter (wpAny_call_entry F.slot_dict_itemiterator_iter hT jK ?_ (F.args_dict_itemiterator_iter_1 _));exact mW ⟨_,rfl,"dict_itemiterator",_,hT,F.slot_dict_itemiterator_next.lookup,h⟩
noncomputable def iItems(to:TE):TI:=λσ H R=>to σ H λx H1=>∃a kvs,x=.ref a/\H1 a=some (.dK kvs)/\∀o,R (Iti a o kvs) (upd H1 a (.frz o (.dK kvs)))
theorem fZ(ho:PE X o to)(hbase:attributeBase o "items" X.env (eval o X.env)=eval o X.env:=by rfl)(hline:(apos.endLine==cpos.line)=true:=by rfl):
  PI X (.Tuple elts x1 tpos) (.Call (.Attribute o "items" apos) [] [] cpos) (iItems to):=by
 intro c s σ H R I h;refine wpAny_Call_method0_late hbase hline (thn (ho c s σ H _ I h) λv i zW=>?_);obtain⟨x,G,l,P,a,kvs,e,m,q⟩:=zW;subst e
 cases P;obtain⟨Q,K,t,r,o,z,ep,j,J,p,B,D,A⟩:=dk_of l.hok m;have E:i.heap.DictOf (cW X.prog X.w) a t:=⟨o,z,ep,j,J,p,B,D,A⟩;obtain⟨O,N⟩:=tyV_is l (x:=.ref a) rfl (.inr (.inr (.inl ⟨rfl,.inl ⟨kvs,m⟩⟩)));refine⟨"dict","dict.items",F.plainAttrs_dict,F.slot_dict_items,F.type_dict_items,O,N,?_⟩;have L :=l.freeze m True.intro j;refine method_meetsIn F.slot_dict_items F.entry_dict_items rfl (PySem.evalArgs_none ⟨rfl,E.typeIs,F.args_dict_items_1 _,_,meets_dict_items (cW X.prog X.w) a K,⟨t,E⟩,?_⟩);have y:Inv X c σ (upd G a (.frz o (.dK kvs))) {i with heap:=i.heap.push {cls:=.type "dict_items",data:=.fields #[.ref a]}}:=L.kept λb o e=>lK _ e;refine wpAny_pyIter_items ⟨_,me _ rfl,rfl,rfl⟩ ⟨o,z,lK _ j,J,p,B,D,A⟩ ?_;refine⟨_,[_],_,_,_,rfl,y.kept λb o e=>lK _ e,turn_items a _ o kvs p,⟨.none,.none,?_⟩,λb M=>?_,q o⟩
 ·rw[r.length];exact me _ rfl
 ·have e:=lv.mp M;subst e;exact y.fpOk (k5 _) (y.hok.fresh (k5 _))
end
theorem gJ{g:TG}{tb:TS}{D:Ends}(Pv:Nat->St->Hp->Prop)(h0:Pv 0 σ H)(hl:∀i σ H,i<=kvs.length->Pv i σ H->H a=some (.frz o (.dK kvs)))
  (hs:∀i kv t σ H,kvs[i]?=some kv->H t=none->Pv i σ H->g (.ref t) σ (upd H t (.tup [kV kv.1,kv.2])) λσ2 H2=>tb {D with nx:=Pv (i+1),ct:=Pv (i+1),bk:=D.nx} σ2 H2)(hd:∀σ H,Pv kvs.length σ H->D.nx σ H):
  ∃W:Nat->Nat->St->Hp->Prop,(∃m,W 0 m σ H)/\∀i m σ H,W i m σ H->
   ((Iti a o kvs).stop i H/\D.nx σ H)∨((Iti a o kvs).go i H/\∃N:St->Hp->Prop,(∀σ' H',N σ' H'->∃m',m'<m/\W (i+1) m' σ' H')/\∀x H',(Iti a o kvs).yld i H x H'->g x σ H' λσ2 H2=>tb {D with nx:=N,ct:=N,bk:=D.nx} σ2 H2):=by
 refine⟨λi m σ H=>m=kvs.length-i×' i<=kvs.length×' Pv i σ H,⟨kvs.length,by simp,lD _,h0⟩,?_⟩;rintro i m σ H⟨rfl,c,p⟩;have q:=hl i σ H c p;by_cases hlt:i<kvs.length
 ·refine .inr ⟨⟨q,hlt⟩,Pv (i+1),λσ' H' j=>⟨kvs.length-(i+1),by lia,rfl,hlt,j⟩,λx H' y=>?_⟩;obtain⟨kv,t,b,h,ex,l⟩:=y;subst ex l;exact hs i kv t σ _ b h p
 ·have e:i=kvs.length:=by lia
  subst e;exact .inl ⟨⟨q,k5 _⟩,hd σ H p⟩
theorem vals_idx:∀{xs:List V}{us:List Value},xs.length=us.length->(∀(j:Nat)(x:V)(u:Value),xs[j]?=some x->us[j]?=some u->RelV x u)->Vals xs us
 |[],[],_,_=>.nil
 |[],_::_,h,_=>by cases h
 |_::_,[],h,_=>by cases h
 |x::xs,u::us,h,k=>.cons (k 0 x u rfl rfl) (vals_idx (Nat.succ.inj h) λj y w a b=>k (j+1) y w (by simpa using a) (by simpa using b))
section
variable{X:Cx}
theorem fI(hh:X.A.handled=none):ie X (.type "list") (λxs H Q=>∃p kvs,xs=[.ref p]/\Rd H p (.dK kvs)/\∀l,H l=none->Q (.ref l) (upd H l (.lst (kvs.map λkv=>kV kv.1)))):=by
 intro E s σ H xs T Q I r h;obtain⟨p,kvs,rfl,N,q⟩:=h;obtain⟨u,rfl,J⟩:=jL r
 cases J;obtain⟨B,G,M,kv,L⟩:=i8 I.hok N;obtain⟨ep,t⟩:=L.dictAt;have D:=kv.length;refine PySem.W.kdl_call (PySem.W.kdl_dict G) hh t (by rw[<-D];exact B) λP S A c m o i=>?_;obtain⟨F,R⟩:=i;refine⟨.ref s.heap.objs.size,_,I.laid m (k5 _) (show ObjOk X.prog X.w _ P _ (.lst (kvs.map λkv=>kV kv.1)) from⟨by rw[kX];exact B,A.toList,c,vals_idx (by rw[kX,D,<-F];simp) λj x w a b=>?_,by simpa using o⟩),rfl,q _ (I.hok.fresh (k5 _))⟩;rw[lg]at a
 cases e:kvs[j]? with
 |none=>rw[e]at a;cases a
 |some z=>
  rw[e]at a
  cases a;obtain⟨v,K,_⟩:=KV.get kv e;obtain⟨k,y,m,O⟩:=R j w (by simpa using b);rw[K]at m
  cases m;exact is_kV O
noncomputable def ViewO(v d:Addr):HO:=.ext λh=>h.IsValuesView v d
noncomputable def rValues:V->List V->Hp->VK->Prop:=λx vs H Q=>∃a kvs,x=.ref a/\vs=[]/\Rd H a (.dK kvs)/\∀v,H v=none->Q (.ref v) (upd H v (ViewO v a))
theorem mt_values:MtM X "dict.values" rValues:=by
 intro j s σ H x B v D Q I y m h;obtain⟨a,A,rfl,rfl,r,q⟩:=h
 cases y
 cases m;obtain⟨J,p,t,E,i⟩:=i8 I.hok r;refine call_meetsIn PySem.F.slot_dict_values i.typeIs PySem.F.entry_dict_values (PySem.F.args_dict_values_1 _) (meets_dict_values (cW X.prog X.w) a p) ⟨⟨t,i⟩,?_⟩;have e:(s.heap.push {cls:=.type "dict_values",data:=.fields #[.ref a]}).get? s.heap.objs.size=some {cls:=.type "dict_values",data:=.fields #[.ref a]}:=me _ rfl;refine⟨.ref s.heap.objs.size,_,I.laid (λb o e=>lK _ e) (k5 _) (show ObjOk X.prog X.w _ _ _ (ViewO _ a) from⟨⟨_,e,rfl,rfl⟩,⟨_,e⟩,λG K z k=>?_⟩),rfl,q _ (I.hok.fresh (k5 _))⟩;obtain⟨o,l,c⟩:=z;exact⟨o,k _ l,c⟩
theorem call_list_vals(hh:X.A.handled=none):ie X (.type "list") (λxs H Q=>∃v a kvs,xs=[.ref v]/\H v=some (ViewO v a)/\Rd H a (.dK kvs)/\∀l,H l=none->Q (.ref l) (upd H l (.lst (kvs.map (·.2))))):=by
 intro G s σ H xs Y Q I r h;obtain⟨v,p,kvs,rfl,L,O,q⟩:=h;obtain⟨u,rfl,K⟩:=jL r
 cases K;obtain⟨E,Z,N,D,M⟩:=i8 I.hok O;obtain⟨ep,A⟩:=M.dictAt;obtain⟨i,_⟩:=(show ObjOk X.prog X.w H s.heap v (ViewO v p)from I.hok v _ L);have F:=D.length;refine PySem.W.kdl_call (PySem.W.kdl_values) hh ⟨i,A⟩ (by rw[<-F];exact E) λR T B c o t m=>?_;obtain⟨J,S⟩:=m;refine⟨.ref s.heap.objs.size,_,I.laid o (k5 _) (show ObjOk X.prog X.w _ R _ (.lst (kvs.map (·.2)))from⟨by rw[kX];exact E,B.toList,c,vals_idx (by rw[kX,F,<-J];simp) λj x w a b=>?_,by simpa using t⟩),rfl,q _ (I.hok.fresh (k5 _))⟩;rw[lg]at a
 cases e:kvs[j]? with
 |none=>rw[e]at a;cases a
 |some z=>
  rw[e]at a
  cases a;obtain⟨y,U,P⟩:=KV.get D e;obtain⟨k,o⟩:=S j w (by simpa using b);rw[U]at o
  cases o;exact P
end
section
variable{X:Cx}
theorem call_dict_copy:ie X (.type "dict") (λxs H Q=>∃p kvs,xs=[.ref p]/\Rd H p (.dK kvs)/\∀l,H l=none->Q (.ref l) (upd H l (.dK kvs))):=by
 intro a s σ H xs j Q I r h;obtain⟨p,kvs,rfl,c,q⟩:=h;obtain⟨u,rfl,i⟩:=jL r
 cases i;exact d_copyOf I c λl m e b=>⟨.ref l,_,b,rfl,q l e⟩
end
section
variable{l:Addr}{k:Nat}{g:TG}{tc:TT}{te:TE}{ρ:St}{R:Hp->Prop}{H₀:Hp}
theorem compG_items(Pv:Nat->Hp->Prop)(h0:Pv 0 (upd H₀ l (.lst [])))(hl:∀i H,Pv i H->H a=some (.frz o (.dK kvs)))
  (hs:∀i kv t H,kvs[i]?=some kv->H t=none->Pv i H->∀zs:St,zs.length=k->g (.ref t) (zs++ρ) (upd H t (.tup [kV kv.1,kv.2])) λσ2 H2=>(∃zs':St,zs'.length=k/\σ2=zs'++ρ)/\tc σ2 H2 λb H3=>if b=true then te σ2 H3 λy H4=>∃ys,H4 l=some (.lst ys)/\ys.length<sizeLine/\jy kvs.length Pv i (upd H4 l (.lst (ys++[y]))) else jy kvs.length Pv i H3)
  (hd:∀H,Pv kvs.length H->R H):
  ∃W:Nat->Nat->Hp->Prop,(∃m,W 0 m (upd H₀ l (.lst [])))/\∀i m H,W i m H->
   ((Iti a o kvs).stop i H/\R H)∨((Iti a o kvs).go i H/\∀x H',(Iti a o kvs).yld i H x H'->∀zs:St,zs.length=k->g x (zs++ρ) H' λσ2 H2=>(∃zs':St,zs'.length=k/\σ2=zs'++ρ)/\tc σ2 H2 λb H3=>if b=true then te σ2 H3 λy H4=>∃ys,H4 l=some (.lst ys)/\ys.length<sizeLine/\∃m',m'<m/\W (i+1) m' (upd H4 l (.lst (ys++[y]))) else∃m',m'<m/\W (i+1) m' H3):=
 kS Pv h0 (λi H e p=>⟨hl i H p,e⟩) (λH p=>⟨hl _ H p,k5 _⟩) (λi x H H' e y p=>by
  obtain⟨kv,t,c,h,ex,j⟩:=y;subst ex j;exact hs i kv t _ c h p) hd
end
section
variable{X:Cx}{CX:CXT}{j:Nat}{E:XK}{m:Str}{pos apos:Pos}{e o:Expr}{es:List Expr}{ta:TE}{t:TA}
theorem pe_mtDK{K:W.Frag}(hP:X.prog=P)(hw:X.w=w)(hK:X.K=K)(hmg:X.mg=mg)(hb:X.base=base)(he:PE X o ta)(hr:Room j X.A)(hx:fJ CX X E)(ha:PA X (e::es) t)
  (hst:starEach (e::es) X.env=(false,eval e X.env)::starEach es X.env:=by rfl)(hpl:(backTo pos (starEach es X.env)).any (·.1)=false:=by rfl)
  (ht:eval (.Call (.Attribute o m apos) (e::es) [] pos) X.env=(do
   let ov<-eval o X.env
   standAt apos.atName
   let(f,first)<-holding [ov] (getMethod ov m pl)
   callWith pos f first (backTo pos (starEach (e::es) X.env)) (backToKw pos (keywordEach [] X.env))):=by rfl):PE X (.Call (.Attribute o m apos) (e::es) [] pos) (tMethD P w K mg base CX m j E ta t):=by
 subst hP hw hK hmg hb;exact eV he hr hx ha hst hpl ht
theorem pg_tupK{K:W.Frag}{t:TGs}(hK:X.K=K)(hc:X.calm=true)(h:PGs X es t)
  (hn:(assignEach es X.env).length=n:=by rfl)(hst:(assignEach es X.env).findIdx? (·.1)=none:=by rfl):PG X (.Tuple es k pos) (gTup K n t):=by
 subst hK;exact iS hc h hn hst
end
theorem eqV_str(x y:Str):eqV (.str x) (.str y)=decide (x=y):=by
 unfold eqV;by_cases h:x=y
 ·subst h;simp
 ·simp[h]
theorem flat_strs(ts:List Str):(ts.map V.str).all ic=true:=by
 rw[List.all_eq_true];intro v a;obtain⟨t,_,rfl⟩:=k8.mp a;rfl
theorem ne_idx:∀{ts:List Str}{m:Nat},m<ts.idxOf y->ts[m]?≠some y
 |[],_,_=>by simp
 |t::ts,m,h=>by
  rw[List.idxOf_cons]at h;by_cases e:t=y
  ·simp[e]at h
  ·have a:(t==y)=false:=by simpa using e
   rw[a]at h
   cases m with
   |zero=>simpa using e
   |succ m=>simpa using ne_idx (ts:=ts) (m:=m) (by simpa using h)
section
variable{X:Cx}
noncomputable def rIndexT(K:W.Frag):V->List V->Hp->VK->Prop:=λx vs H Q=>∃(l:Addr)(ts:List Str)(y:Str),x=.ref l/\vs=[.str y]/\SqL K H l (ts.map V.str)/\y∈ts/\Q (.int (ts.idxOf y:Nat)) H
theorem mt_indexT:MtM X "list.index" (rIndexT X.K):=by
 intro t s σ H x Y v U Q I E B h;obtain⟨l,a,y,rfl,rfl,N,T,q⟩:=h
 cases E;obtain⟨u,rfl,O⟩:=B.one;obtain⟨b,r,R,L⟩:=I.list N;have M:=r.length;rw[kX]at M L;obtain⟨⟨J,G,z,S⟩,o,p,n,A⟩:=R.isList;simp only at p A;subst p A;have K :=List.idxOf_lt_length_iff.mpr T;have P:=PySem.sizeLine_eq
 have i:∀(m:Nat)(c:m<b.length),eqU (.str y) b[m]=decide (a[m]'(by lia)=y):=λm c=>by
  have g1:(a.map V.str)[m]?=some (.str (a[m]'(by lia))):=by rw[lg,lz (by lia)];rfl
  rw[eqU_of (vals_at r g1 (lz c)) rfl,eqV_str]
 refine call_meets F.slot_list_index ⟨_,o,rfl⟩ F.entry_list_index (F.args_list_index_2 _ _) (SeqAt.list_indexAt l b.toArray n G S u (eqU (.str y)) (a.idxOf y) (by rw[mf];lia) (by lia) ?_ ?_) ⟨o,λw D=>kL O rfl r (flat_strs a) w (by simpa using D),?_⟩
 ·rw[List.getElem_toArray,i _ (by lia)];exact lQ (List.getElem_idxOf K)
 ·intro m c j;rw[mf]at c;rw[List.getElem_toArray,i _ c];refine lM λe=>?_;exact ne_idx j (by rw[lz (by lia),e])
 ·exact⟨.int _,H,I.tok _,⟨_,rfl⟩,q⟩
end
section
variable{prog:Program}{w:World}{A:Around}
variable{E:Value->Shared->Prop}{s:Shared}
noncomputable def dU(led:Bool):Obj:={cls:=.type "set",dict:=none,data:=.set #[] 0 (.fresh 0 0 led)}
end
section
variable{X:Cx}
inductive IrNeL(K:W.Frag)(x:V)(y:V)(H:Hp)(Q:VK):Prop
 |mk(p:_)(q:_)(xs:_)(ys:_)(h1:x=.ref p)(h2:y=.ref q)(h3:SqL K H p xs)(h4:SqL K H q ys)(h5:xs.all ic=true)(h6:ys.all ic=true)(h7:Q (.bl (!eqVs xs ys)) H):IrNeL K x y H Q
end
noncomputable def dput(acc:List Str)(x:Str):List Str:=if x∈acc then acc else acc++[x]
noncomputable def hG(ts:List Str):List Str:=ts.foldl dput []
theorem dset_snoc(ts:List Str)(x:Str):hG (ts++[x])=if x∈hG ts then hG ts else hG ts++[x]:=by
 unfold hG;rw[m7];rfl
theorem dgo_mem:∀{ts acc:List Str},x∈ts.foldl dput acc↔x∈acc∨x∈ts
 |[],acc=>by simp
 |t::ts,acc=>by
  rw[oa,dgo_mem,lN];unfold dput
  split
  ·rename_i h;constructor
   ·exactλz=>z.imp id .inr
   ·rintro(z|rfl|z)
    ·exact .inl z
    ·exact .inl h
    ·exact .inr z
  ·rw[lB,lv,or_assoc]
theorem mem_dset:x∈hG ts↔x∈ts:=by
 unfold hG;rw[dgo_mem];simp
theorem dgo_len:∀(ts acc:List Str),(ts.foldl dput acc).length<=acc.length+ts.length/\((ts.foldl dput acc).length=acc.length+ts.length↔ts.Nodup/\∀x∈ts,¬x∈acc)
 |[],acc=>by simp
 |t::ts,acc=>by
  rw[oa,mh,mB];obtain⟨c,b⟩:=dgo_len ts (dput acc t);unfold dput at c b⊢;by_cases m:t∈acc
  ·rw[if_pos m]at c b⊢;exact⟨by omega,λz=>by omega,λz=>absurd m (z.2 t lO)⟩
  ·rw[if_neg m]at c b⊢;rw[lG]at c b;simp only[l9]at c b;refine⟨by omega,λz=>?_,λz=>?_⟩
   ·obtain⟨h,e⟩:=b.mp (by omega);refine⟨⟨λq=>e t q (lS _ (lv.mpr rfl)),h⟩,λx a q=>?_⟩;rcases lN.mp a with rfl|a
    ·exact m q
    ·exact e x a (lJ _ q)
   ·have:=b.mpr ⟨z.1.2,λx a q=>?_⟩
    ·omega
    ·rcases lB.mp q with q|q
     ·exact z.2 x (lF _ a) q
     ·rw[lv.mp q]at a;exact z.1.1 a
theorem dset_len(ts:List Str):(hG ts).length<=ts.length:=by
 have:=(dgo_len ts []).1
 unfold hG;simpa using this
theorem dset_nodup(ts:List Str):(hG ts).length=ts.length↔ts.Nodup:=by
 have:=(dgo_len ts []).2
 unfold hG;simpa using this
section
variable{prog:Program}{w:World}{A:Around}
theorem setD_loop{St:Nat->Shared->Prop}(W:WalksS prog w A.in1 it fp wr G ts.length Pv St)
  (hv:∀i v,Pv i v->∃x t,ts[i]?=some x/\v=.str x t)(hb:ts.length+1<scanBound)(hp:p∉fp):
  ∀(k i:Nat)(s:Shared),i+k=ts.length->St i s->s.heap.SetOf (PySem.strKind prog w) p (λx=>decide (x∈ts.take i)) (hG (ts.take i)).length->
   (∀s',Moved (p::wr) G s s'->s'.heap.SetOf (PySem.strKind prog w) p (λx=>decide (x∈ts)) (hG ts).length->R (.ok (.ret .none)) s')->
   codeAny (model prog w) A (.builtin "set.update.loop" ⟨[.ref p,.ref it],[]⟩) R s
 |0,i,s,hk,st,hS,hR=>by
  have J:i=ts.length:=by omega
  refine codeAny_builtin PyProof.Rows.F.entry_set_update_loop ?_;rw[Around.under_plainId PyProof.Rows.F.plain_set_update_loop _];show wpAny _ A.in1 (pyNext (.ref it)>>=_) _ _ s;rw[J]at st;refine mx (W.done s _ _ st λs' j=>?_);show wpAny _ A.in1 (ret Value.none) _ _ s';refine mW (hR s' (j.mono λb h=>lF _ h) ?_);rw[J,lA]at hS;obtain⟨o,l,B,t,q,c⟩:=hS;exact⟨o,l,B,t,j.heap p _ (λh=>hp (W.sub _ h)) q,c⟩
 |k+1,i,s,hk,st,hS,hR=>by
  refine codeAny_builtin PyProof.Rows.F.entry_set_update_loop ?_;rw[Around.under_plainId PyProof.Rows.F.plain_set_update_loop _];show wpAny _ A.in1 (pyNext (.ref it)>>=_) _ _ s;refine mx (W.item i s _ _ (by omega) st λv a M H j=>?_);obtain⟨x,t,ex,rfl⟩:=hv i v M
  have E:a.heap.SetOf (PySem.strKind prog w) p (λx=>decide (x∈ts.take i)) (hG (ts.take i)).length:=by
   obtain⟨o,l,B,t,q,c⟩:=hS;exact⟨o,l,B,t,j.heap p _ (λh=>hp (W.sub _ h)) q,c⟩
  have O:=dset_len (ts.take i);rw[lI]at O;show wpAny _ A.in1 (holding [Value.str x t] (setAdd p (.str x t))>>=_) _ _ a;refine mx (wpAny_holding ?_);unfold setAdd;refine wpAny_holding (mx ((PySem.strKind prog w).pyHash (k:=x) (PySem.strKind_is _ _ _ _) ?_));refine wpAny_setAddHashed_of (knd:=PySem.strKind prog w) (s:={a with toks:=a.toks+1}) (PySem.strKind_is _ _ _ _) rfl E (by omega) λN K r=>?_
  have D:N.SetOf (PySem.strKind prog w) p (λx=>decide (x∈ts.take (i+1))) (hG (ts.take (i+1))).length:=by
   refine PyProof.Rows.SetOf_congr r (λz=>?_) ?_
   ·rw[lE,ex,lL,Bool.eq_iff_iff];simp
   ·rw[lE,ex,lL,dset_snoc];by_cases m:x∈ts.take i
    ·rw[if_pos (lQ m),if_pos (mem_dset.mpr m)]
    ·rw[if_neg (by rw[lM m];decide),if_neg (λz=>m (mem_dset.mp z)),lG];rfl
  refine mW ⟨plainId_quiet PyProof.Rows.F.plain_set_update_loop _,setD_loop W hv hb hp k (i+1) _ (by omega) (W.frame _ a _ _ H (Nat.le_succ _) λb hb o e=>?_) D λL I y=>?_⟩
  ·rw[K.2 b λz=>hp (z▸hb)];exact e
  ·refine hR L (Moved.trans W.gtrans ((j.mono λb h=>lF _ h).then_heap (Nat.le_succ _) λb o hb e=>?_) I) y;rw[K.2 b λz=>hb (z▸lO)];exact e
variable{E:Value->Shared->Prop}{s:Shared}
theorem init_setD(hh:A.handled=none)(hl:s.heap.IsList l its.toArray)(hv:Vals (ts.map V.str) its)(hb:ts.length+1<scanBound)
  {R:Value->Shared->Prop}(h:∀(h':Heap)(tk:Nat),h'.SetOf (PySem.strKind prog w) s.heap.objs.size (λx=>decide (x∈ts)) (hG ts).length->(∀b o,s.heap.get? b=some o->h'.get? b=some o)->R .none {s with heap:=h',toks:=tk}):
  wpAny (model prog w) A (Builtin.«set.__init__» ⟨[.ref s.heap.objs.size,.ref l],[]⟩) (λfin s'=>∃r,fin=.done (.ret r)/\R r s') E {s with heap:=s.heap.push (dU led)}:=by
 obtain⟨⟨S,dd,J,sl⟩,H,I,n,L⟩:=id hl;simp only at I L;subst I L;have j:(s.heap.push (dU led)).get? l=some _:=lK _ H;have z1:=PySem.F.sub_list_set;have z2:=PySem.F.sub_list_frozenset;unfold Builtin.«set.__init__»noKeywords Builtin.Frozenset.updateFrom;generalize G:pyIter=PI
 wp_walk
 subst G;have lt:=lP H;have a:(s.heap.push (dU led)).IsList l its.toArray:=⟨_,j,rfl,n,rfl⟩;have X:(s.heap.push (dU led)).get? s.heap.objs.size=some (dU led):=me _ rfl;refine wpAny_pyIter_list a (mx (wpAny_runValue ?_));have p:=hv.length;rw[kX]at p;have O:l≠(s.heap.push (dU led)).objs.size:=by rw[Heap.size_push];exact mq (Nat.lt_succ_of_lt lt)
 have N:s.heap.objs.size∉[(s.heap.push (dU led)).objs.size,l]:=by
  rw[Heap.size_push];intro m;rcases lN.mp m with z|z
  ·exact absurd z (mq (Nat.lt_succ_self _))
  ·exact absurd (lv.mp z) (Nat.ne_of_gt lt)
 have Y:its.toArray.size=ts.length:=by rw[mf,p]
 have W:=(Walks.list (prog:=prog) (w:=w) (A:=A.in1) (by simpa using hh) (s.heap.push (dU led)).objs.size l O its.toArray).toS;rw[Y]at W;refine setD_loop W (λi v D=>?_) hb N ts.length 0 _ (by lia) ⟨⟨_,me _ rfl,rfl,rfl⟩,a.push _⟩ ?_ λs' c B=>?_
 ·have g:its[i]?=some v:=by simpa using D
  have K:i<ts.length:=by rw[p];exact(kY.mp g).1
  have g1:(ts.map V.str)[i]?=some (.str ts[i]):=by rw[lg,lz K];rfl
  obtain⟨t,e⟩:=vals_at hv g1 g;exact⟨_,t,lz K,e⟩
 ·exact PyProof.Rows.SetOf_congr ((PyProof.Rows.setObjOf_fresh (knd:=PySem.strKind prog w) led).setOf (lK _ X) (by unfold scanBound;lia)) (λ_=>by simp) rfl
 ·obtain⟨h',P,Q,q,y⟩:=s';have T:P=s.gens:=c.gens;have U:Q=s.drawn:=c.drawn;have Z:y=s.os:=c.os;subst T U Z;refine mW ?_;refine mW ⟨_,rfl,h h' q B λb o e=>?_⟩;have M:=lP e;refine c.heap b o (λm=>?_) (lK _ (lK _ e));rcases lN.mp m with z|z
  ·exact absurd z (mq M)
  ·refine absurd (lv.mp z) (mq ?_);rw[Heap.size_push];exact Nat.lt_succ_of_lt M
theorem call_set_strsD(hh:A.handled=none)(hl:s.heap.IsList l its.toArray)(hv:Vals (ts.map V.str) its)(hb:ts.length+1<scanBound)
  (h:∀(h':Heap)(tk:Nat),h'.SetOf (PySem.strKind prog w) s.heap.objs.size (λx=>decide (x∈ts)) (hG ts).length->(∀b o,s.heap.get? b=some o->h'.get? b=some o)->Q (.ref s.heap.objs.size) {s with heap:=h',toks:=tk}):
  wpAny (model prog w) A (call (.type "set") [.ref l]) Q E s:=by
 obtain⟨c,O,H⟩:=F.called_set.mro;have D:=F.called_set.made;have G:=F.called_set.sub;have K:=F.called_set.notType;have I:=PySem.F.typeCall_set_1 (.ref l);refine wpAny_call (codeAny_of_tree ?_);refine mW ⟨Code.quiet_builtin _ (by decide+kernel),codeAny_builtin F.entry_type_call ?_⟩;rw[Around.under_plain (weight_type_call_type "set" [.ref l] []) rfl]
 repeat(any_goals(first|assumption|wp_step))
 refine codeAny_mono (code_set_new_1 (.ref l) (E:=E) (Q₁:=λv q=>∃led:Bool,v=.ref s.heap.objs.size/\q={s with heap:=s.heap.push (dU led)}) λled=>⟨led,rfl,rfl⟩) λr q p=>?_
 cases r with
 |error e=>exact p
 |ok fl=>
  cases fl with
  |ret v=>
   obtain⟨led,rfl,rfl⟩:=p;have B:(s.heap.push (dU led)).get? s.heap.objs.size=some (dU led):=me _ rfl;have y:Shared.TypeIs {s with heap:=s.heap.push (dU led)} (.ref s.heap.objs.size) "set":=⟨_,B,rfl⟩;have M:=F.called_set.init.lookup;have L:=F.called_set.init.bind (.ref s.heap.objs.size)
   repeat(any_goals(first|assumption|wp_step))
   refine codeAny_mono (codeAny_call_builtin (R:=wants (λr i=>r=.none/\yE2 λh' tk=>i={s with heap:=h',toks:=tk}×' h'.SetOf (PySem.strKind prog w) s.heap.objs.size (λx=>decide (x∈ts)) (hG ts).length×'(∀b o,s.heap.get? b=some o->h'.get? b=some o)) E) F.called_set.init.plain F.entry_set_init (check_set_init_1 y ?_)) λt i a=>?_
   ·refine nY (init_setD (E:=E) (led:=led) (R:=λr i=>r=.none/\yE2 λh' tk=>i={s with heap:=h',toks:=tk}×' h'.SetOf (PySem.strKind prog w) s.heap.objs.size (λx=>decide (x∈ts)) (hG ts).length×'(∀b o,s.heap.get? b=some o->h'.get? b=some o)) (by simpa using hh) hl hv hb λh' tk m j=>⟨rfl,h',tk,rfl,m,j⟩) (λfin J⟨r,e,z⟩=>?_) λ_ _ x=>x;subst e;exact z
   ·cases t with
    |error e=>exact a
    |ok fl2=>
     cases fl2 with
     |ret r=>
      obtain⟨rfl,h',tk,rfl,m,j⟩:=a
      repeat(any_goals(first|assumption|wp_step))
      exact h _ _ m j
     |_=>exact a.elim
  |_=>exact p.elim
end
section
variable{X:Cx}
noncomputable def SetD(P:Program)(w:World)(p:Addr)(ts:List Str):HO:=.ext λh=>h.SetOf (PySem.strKind P w) p (λx=>decide (x∈ts)) (hG ts).length
theorem call_setD(hh:X.A.handled=none):ie X (.type "set") (λxs H Q=>∃(p:Addr)(ts:List Str),xs=[.ref p]/\SqL X.K H p (ts.map V.str)/\ts.length<=1000/\∀l,H l=none->Q (.ref l) (upd H l (SetD X.prog X.w l ts))):=by
 intro a s σ H xs G Q I r h;obtain⟨p,ts,rfl,m,J,q⟩:=h;obtain⟨u,rfl,E⟩:=jL r
 cases E;obtain⟨x,F,y,M⟩:=I.list m;refine call_set_strsD hh y.isList F (by unfold scanBound;lia) λB D b j=>?_;refine⟨.ref s.heap.objs.size,_,I.laid j (k5 _) (show ObjOk X.prog X.w _ B _ (SetD X.prog X.w _ ts)from⟨b,?_,λK L z k=>?_⟩),rfl,q _ (I.hok.fresh (k5 _))⟩
 ·obtain⟨o,_,_,_,e,_⟩:=b;exact⟨o,e⟩
 ·obtain⟨o,i,A,t,e,c⟩:=z;exact⟨o,i,A,t,k _ e,c⟩
theorem call_len_setD:ie X (.builtin "len") (λxs H Q=>∃(p:Addr)(ts:List Str),xs=[.ref p]/\H p=some (SetD X.prog X.w p ts)/\ts.length<=1000/\Q (.int (hG ts).length) H):=by
 intro b s σ H xs x Q I r h;obtain⟨p,ts,rfl,c,y,q⟩:=h;obtain⟨u,rfl,l⟩:=jL r
 cases l;obtain⟨⟨o,w,z,t,e,a,j,_,_,_,i,m⟩,_⟩:=I.hok p _ c;have A:=dset_len ts;refine PySem.call_len_set e a j i (by lia) ⟨.int _,H,I.tok _,⟨_,rfl⟩,?_⟩;rw[m];exact q
end
section
variable{X:Cx}
theorem Inv.turnedL{its:List Addr}(I:Inv X pins σ H s)(k:∀b o,b∉its->s.heap.get? b=some o->h'.get? b=some o)(hf:∀b∈its,FpOk X pins H b):Inv X pins σ H {s with heap:=h',toks:=t'}:=by
 have h:∀b u,H b=some u->b∉its:=λb u e z=>by rw[(hf b z).1]at e;cases e
 have p:X.env.locals∉its:=λz=>(hf _ z).2.1 rfl
 refine I.step (λb w=>?_) (λb o _ _ a e _=>k b o a e) (λb o _ _ a e _=>⟨o.slots,k b o a e⟩) (λ_ _ _ _ n=>n)
  (λb o a e=>⟨o,k b o a e⟩) (λ_ _ e=>e) (λ_ _ _ e=>e) (λb D e=>⟨#[],by rw[e];simp⟩) (λm A=>?_) (λb u e=>?_) I.bare
 ·obtain⟨_,x,_,y,l,B⟩:=hf b w;exact⟨y,x,l,B⟩
 ·obtain⟨o,i,t,j,r⟩:=A;exact⟨o,i,t,k _ o p j,r⟩
 ·refine(I.hok b u e).stay (λc v a q=>k c v ?_ q) (λ_ q=>q) λ_ _ q=>q;rcases a with z|z
  ·rw[z];exact h b u e
  ·exact h c _ z
noncomputable def Itz(K:W.Frag)(a b:Addr)(xs ys:List V):It:=
 ⟨λi H=>SqL K H a xs/\SqL K H b ys/\i<xs.length/\i<ys.length,λi H v H'=>∃x y t,xs[i]?=some x/\ys[i]?=some y/\H t=none/\v=.ref t/\H'=upd H t (.tup [x,y]),λi H=>SqL K H a xs/\SqL K H b ys/\(xs.length<=i∨ys.length<=i)⟩
theorem vals_get:∀{xs:List V}{us:List Value},Vals xs us->∀{i:Nat}{x:V},xs[i]?=some x->∃u,us[i]?=some u/\RelV x u
 |_,_,.nil,i,x,e=>by simp at e
 |_,_,.cons r t,0,x,e=>by
  simp at e;subst e;exact⟨_,rfl,r⟩
 |_,_,.cons r t,i+1,x,e=>by
  obtain⟨u,a,b⟩:=vals_get t (i:=i) (x:=x) (by simpa using e);exact⟨u,by simpa using a,b⟩
theorem turn_zip{K:W.Frag}{z TI TO i1 i2 a b:Addr}(D:ZipApart z TI TO i1 i2 a b)(xs ys:List V):
  Turn P w K (.Tuple elts x1 tpos) (Itz K a b xs ys) [z,TI,TO,i1,i2] z (λi h=>∃p q,IsZip h z TI TO .none/\IsPair h TI (.ref i1) (.ref i2)/\IsPair h TO p q/\h.IsListIter i1 a i/\h.IsListIter i2 b i) where
 mem:=by simp
 obj:=λi h y c j=>by
  obtain⟨p,q,l,m,B,⟨o4,M,_,d4⟩,⟨o5,Q,_,d5⟩⟩:=y;simp only[lN,lR,or_false]at j;rcases j with rfl|rfl|rfl|rfl|rfl
  ·exact⟨_,l,λv z=>by have O:Data.fields _=Data.cell v:=z;cases O⟩
  ·exact⟨_,m,λv z=>by have O:Data.seq _=Data.cell v:=z;cases O⟩
  ·exact⟨_,B,λv z=>by have O:Data.seq _=Data.cell v:=z;cases O⟩
  ·exact⟨_,M,λv z=>by rw[d4]at z;cases z⟩
  ·exact⟨_,Q,λv z=>by rw[d5]at z;cases z⟩
 keep:=λi h h' y k=>by
  obtain⟨p,q,l,m,B,⟨o4,M,r4⟩,⟨o5,Q,r5⟩⟩:=y;exact⟨p,q,k z (by simp) _ l,k TI (by simp) _ m,k TO (by simp) _ B,⟨o4,k i1 (by simp) _ M,r4⟩,⟨o5,k i2 (by simp) _ Q,r5⟩⟩
 item:=by
  intro X hP hw hK j i A s σ H E I T y hg;subst hP hw hK;obtain⟨ha,J,hx,hy⟩:=hg;obtain⟨p,q,l,m,B,R,U⟩:=y;obtain⟨us,ru,pu,_⟩:=I.list ha;obtain⟨ws,G,pw,_⟩:=I.list J;have ex :=lz hx;have ey :=lz hy;obtain⟨u,eu,Z⟩:=vals_get ru ex;obtain⟨v,ev,ab⟩:=vals_get G ey;refine wpAny_pyNext_zip_item D l m B R U pu.isList pw.isList (by simpa using eu) (by simpa using ev) λh' a1 a2 a3 a4 a5 a6 S=>?_;refine⟨_,rfl,?_⟩;refine wpAny_letOwnedTupleGo_zip (s:={s with heap:=h'}) a1 λF z2 L=>?_;have nt :=Nat.ne_of_gt (lP l)
  have I1 :=I.turnedL (its:=[z,TI,TO,i1,i2]) (t':=s.toks) (λc o j e=>by
   simp only[lN,lR,or_false,not_or]at j;exact(L.2 c j.1).trans (S c o j.1 j.2.2.1 j.2.2.2.1 j.2.2.2.2 e)) T
  have Y :=I.hok.fresh (k5 _);have aa :=(L.2 _ nt).trans a5
  have ac:HOk X.prog X.w (upd H s.heap.objs.size (.tup [xs[i],ys[i]])) F:=λc o e=>by
   by_cases J:c=s.heap.objs.size
   ·subst J;rw[aE]at e
    cases e;exact⟨zL2,[u,v],.cons Z (.cons ab .nil),_,aa,rfl,_,rfl⟩
   ·rw[aG J]at e;exact(I1.hok c o e).stay (λ_ _ _ q=>q) (λc q=>by rw[aG (aN q Y)];exact q) λc xs q=>by rw[aG (aN q Y)];exact q
  have I2:=I1.trackI (t:=s.heap.objs.size) I.sz Y (Nat.ne_of_gt I.lt) (λx c e z=>by
   obtain⟨v,q⟩:=I.cell x c e;exact absurd q.lt (by rw[z];exact nP _)) (λp hp z=>absurd (lP (I.pin p hp).1) (by rw[z];exact nP _)) ac
  refine⟨.ref s.heap.objs.size,_,I2,rfl,⟨_,_,_,ex,ey,Y,rfl,rfl⟩,⟨u,v,z2,(L.2 _ D.TIz).trans (S _ _ D.TIz D.TITO D.TIi1 D.TIi2 m),(L.2 _ D.TOz).trans a2,?_,?_⟩,λc j=>?_⟩
  ·obtain⟨o,e,r⟩:=a3;exact⟨o,(L.2 _ D.i1z).trans e,r⟩
  ·obtain⟨o,e,r⟩:=a4;exact⟨o,(L.2 _ D.i2z).trans e,r⟩
  ·have:c≠s.heap.objs.size:=by
    obtain⟨o4,M,_⟩:=R;obtain⟨o5,Q,_⟩:=U;simp only[lN,lR,or_false]at j;rcases j with rfl|rfl|rfl|rfl|rfl
    ·exact mq (lP l)
    ·exact mq (lP m)
    ·exact mq (lP B)
    ·exact mq (lP M)
    ·exact mq (lP Q)
   rw[aG this];exact(T c j).1
 done:=by
  intro X hP hw hK j i A s σ H E I T y hg;subst hP hw hK;obtain⟨ha,J,N⟩:=hg;obtain⟨p,q,l,m,B,R,U⟩:=y;obtain⟨us,ru,pu,_⟩:=I.list ha;obtain⟨ws,G,pw,_⟩:=I.list J;have lu:=ru.length;have lw:=G.length
  refine wpAny_pyNext_zip_end (I.ok.hd j) D l m B R U pu.isList pw.isList (N.imp (λh=>by simp;lia) (λh=>by simp;lia)) λh' S=>⟨rfl,I.turnedL (its:=[z,TI,TO,i1,i2]) (t':=s.toks) (λc o j e=>by
   simp only[lN,lR,or_false,not_or]at j;exact S c o j.1 j.2.2.1 j.2.2.2.1 j.2.2.2.2 e) T⟩
 self:=λ_ _ _ _ _ y h=>by
  obtain⟨p,q,l,_⟩:=y;exact wpAny_pyIter_zip l h
noncomputable def iZip(K:W.Frag)(ta:TA):TI:=λσ H R=>ta σ H λvs H1=>∃a b xs ys,vs=[.ref a,.ref b]/\SqL K H1 a xs/\SqL K H1 b ys/\R (Itz K a b xs ys) H1
theorem pi_zip(hg:Gl X "zip")(hm:X.mg "zip"=none)(ha:PA X [a,b] ta)(hs:starEach [a,b] X.env=[(false,eval a X.env),(false,eval b X.env)]:=by rfl)(hs2:starEach [b] X.env=[(false,eval b X.env)]:=by rfl):
  PI X (.Tuple elts x1 tpos) (.Call (.Name "zip" p) [a,b] [] pos) (iZip X.K ta):=by
 intro j s σ H R I h;refine Call_ (ld_blt I hg hm boot_zip (PyProof.Rows.callWith_type1 (thn (ha pos j s σ H _ I h) λB i zW=>?_) (by rw[hs,hs2]) (by rw[hs2];rfl)));obtain⟨vs,M,l,Z,Q⟩:=zW;obtain⟨x,y,U,O,e,S,G,q⟩:=Q;subst e
 cases Z with
 |cons r rr=>
  cases rr with
  |cons r' rr=>
   cases rr
   cases r
   cases r';obtain⟨B,ru,A,_⟩:=l.list S;obtain⟨ws,L,t,_⟩:=l.list G;have K:x<i.heap.objs.size:=by obtain⟨o,n,e,_⟩:=A;exact lP e
   have D:y<i.heap.objs.size:=by obtain⟨o,n,e,_⟩:=t;exact lP e
   refine call_zip_2 A.isList t.isList λT z Y N P J z6 F=>?_;have E :=l.kept (t':=i.toks) F;refine wpAny_pyIter_zip z ⟨_,[i.heap.objs.size+4,i.heap.objs.size+2,i.heap.objs.size+3,i.heap.objs.size,i.heap.objs.size+1],_,_,_,rfl,E,turn_zip (PySem.W.ktu_apart i.heap.objs.size x y K D) U O,⟨.none,.none,z,Y,N,P,J⟩,λc m=>?_,q⟩
   have w:i.heap.objs.size<=c:=by
    simp only[lN,lR,or_false]at m;rcases m with rfl|rfl|rfl|rfl|rfl
    ·exact Nat.le_add_right _ _
    ·exact Nat.le_add_right _ _
    ·exact Nat.le_add_right _ _
    ·exact k5 _
    ·exact Nat.le_add_right _ _
   exact l.fpOk w (l.hok.fresh w)
end
theorem for_zip{K:W.Frag}{g:TG}{tb:TS}{D:Ends}(Pv:Nat->St->Hp->Prop)(h0:Pv 0 σ H)(hl:∀i σ H,Pv i σ H->SqL K H a xs/\SqL K H b ys)
  (hs:∀i x y t σ H,xs[i]?=some x->ys[i]?=some y->H t=none->Pv i σ H->g (.ref t) σ (upd H t (.tup [x,y])) λσ2 H2=>tb {D with nx:=Pv (i+1),ct:=Pv (i+1),bk:=D.nx} σ2 H2)(hd:∀σ H,Pv (min xs.length ys.length) σ H->D.nx σ H):
  ∃W:Nat->Nat->St->Hp->Prop,(∃m,W 0 m σ H)/\∀i m σ H,W i m σ H->
   ((Itz K a b xs ys).stop i H/\D.nx σ H)∨((Itz K a b xs ys).go i H/\∃N:St->Hp->Prop,(∀σ' H',N σ' H'->∃m',m'<m/\W (i+1) m' σ' H')/\∀x H',(Itz K a b xs ys).yld i H x H'->g x σ H' λσ2 H2=>tb {D with nx:=N,ct:=N,bk:=D.nx} σ2 H2):=by
 refine⟨λi m σ H=>m=min xs.length ys.length-i×' i<=min xs.length ys.length×' Pv i σ H,⟨min xs.length ys.length,by simp,lD _,h0⟩,?_⟩;rintro i m σ H⟨rfl,s,p⟩;obtain⟨c,h⟩:=hl i σ H p;by_cases hlt:i<min xs.length ys.length
 ·refine .inr ⟨⟨c,h,by lia,by lia⟩,Pv (i+1),λσ' H' o=>⟨min xs.length ys.length-(i+1),by lia,rfl,hlt,o⟩,λv H' y=>?_⟩;obtain⟨x,y,t,l,r,j,ev,q⟩:=y;subst ev q;exact hs i x y t σ _ l r j p
 ·have e:i=min xs.length ys.length:=by lia
  subst e;exact .inl ⟨⟨c,h,by lia⟩,hd σ H p⟩
section
variable{X:Cx}
inductive EqD(K:W.Frag)(H:Hp):Nat->V->V->Prop
 |flat{n:Nat}{v:V}(h:ic v=true):EqD K H n v v
 |lst{n:Nat}{p q:Addr}{xs ys:List V}(hp:SqL K H p xs)(hq:SqL K H q ys)(hl:xs.length=ys.length)(h:∀(j:Nat)(x y:V),xs[j]?=some x->ys[j]?=some y->EqD K H n x y):EqD K H (n+1) (.ref p) (.ref q)
 |tup{n:Nat}{p q:Addr}{xs ys:List V}(hp:SqT K H p xs)(hq:SqT K H q ys)(hl:xs.length=ys.length)(h:∀(j:Nat)(x y:V),xs[j]?=some x->ys[j]?=some y->EqD K H n x y):EqD K H (n+1) (.ref p) (.ref q)
end
section
variable{X:Cx}
noncomputable def rLClear:V->List V->Hp->VK->Prop:=λx vs H Q=>∃l xs,x=.ref l/\vs=[]/\H l=some (.lst xs)/\Q .non (upd H l (.lst []))
theorem mt_lclear:MtM X "list.clear" rLClear:=by
 intro b s σ H x m v o Q I j i h;obtain⟨l,t,rfl,rfl,c,q⟩:=h
 cases j
 cases i;obtain⟨z,a,n,r,p,e⟩:=I.lstM c;have w:=r.length;refine call_meets PySem.F.slot_list_clear ⟨_,e,rfl⟩ PySem.F.entry_list_clear (PySem.F.args_list_clear_1 _) (PySem.AutoSeq1.list_clear_list_0 l a.toArray n (by rw[mf];lia)) ⟨e,?_⟩;exact⟨.non,_,I.lset c e (by simp) .nil (lD _),rfl,q⟩
end
end L2
namespace G
noncomputable def gcd(a b:Int):Int:=(Int.gcd a b:Int)
theorem gcd_nonneg(a b:Int):0<=gcd a b:=Int.natCast_nonneg _
theorem gcd_zero(a:Int)(h:0<=a):gcd a 0=a:=by
 unfold gcd;rw[Int.gcd_zero_right];lia
theorem gcd_abs(a b:Int):gcd (if a<0 then-a else a) (if b<0 then-b else b)=gcd a b:=by
 unfold gcd;congr 1
 split<;>split<;>simp[Int.neg_gcd,Int.gcd_neg]
theorem gcd_step(a b:Int)(hb:0<b):gcd b (a%b)=gcd a b:=by
 unfold gcd;congr 1;rw[Int.gcd_comm b];have e:a=a%b+(a/b)*b:=by have:=Int.emod_add_mul_ediv a b;rw[mH]at this;lia
 have h:=Int.gcd_add_mul_right_left b (a%b) (a/b);rw[<-e]at h;exact h.symm
theorem iH(a b:Nat):(a:Int).fdiv (b:Int)=((a/b:Nat):Int):=by
 rw[Int.fdiv_eq_ediv_of_nonneg _ (Int.natCast_nonneg _)];rfl
theorem den_pos(x:Rat):(0:Int)<(x.den:Int):=by have:=x.den_nz;lia
theorem gcd_den(x:Rat):gcd x.num x.den=1:=by
 have h:=x.reduced;have e:Int.gcd x.num x.den=1:=h;unfold gcd;rw[e];rfl
theorem init_spec(a b:Int)(hb:b≠0):a.fdiv (if b<0 then-(gcd a b) else gcd a b)=(Rat.divInt a b).num/\b.fdiv (if b<0 then-(gcd a b) else gcd a b)=((Rat.divInt a b).den:Int):=by
 have gp :=Int.gcd_pos_of_ne_zero_right a hb;obtain⟨k,e⟩:=nV a b;obtain⟨m,c⟩:=Int.gcd_dvd_right a b;have i:(Int.gcd a b:Int)≠0:=by lia
 rw[Rat.num_divInt,Rat.den_divInt,if_neg hb,Int.gcd_comm b a];unfold gcd;generalize q:Int.gcd a b=g at*;have j:∀z:Int,(g*z).fdiv g=z:=λz=>by rw[mH,Int.mul_fdiv_cancel _ i]
 have l:∀z:Int,(g*z).fdiv (-(g:Int))=-z:=λz=>by
  have:(g:Int)*z=(-z)*(-(g:Int)):=by rw[Int.neg_mul_neg,mH]
  rw[this,Int.mul_fdiv_cancel _ (by lia)]
 by_cases hs:b<0
 ·rw[if_pos hs,Int.sign_eq_neg_one_of_neg hs];constructor
  ·conv=>lhs;rw[e,l]
   have:-1*a=-k*g:=by rw[e,mH (g:Int) k,Int.neg_mul,Int.neg_mul,Int.one_mul]
   rw[this,Int.mul_ediv_cancel _ i]
  ·conv=>lhs;rw[c,l]
   have o:m<0:=by
    rcases Int.lt_trichotomy m 0 with h|h|h
    ·exact h
    ·rw[h]at c;lia
    ·have:=mQ (show(0:Int)<g by lia) h;lia
   have:b.natAbs=m.natAbs*g:=by rw[c,l0,mY,oj]
   rw[this,Nat.mul_div_cancel _ gp];lia
 ·rw[if_neg hs,Int.sign_eq_one_of_pos (by lia)];constructor
  ·conv=>lhs;rw[e,j]
   have:1*a=k*g:=by rw[e,mH (g:Int) k,Int.one_mul]
   rw[this,Int.mul_ediv_cancel _ i]
  ·conv=>lhs;rw[c,j]
   have p:0<m:=by
    rcases Int.lt_trichotomy m 0 with h|h|h
    ·have:=Int.mul_neg_of_pos_of_neg (show(0:Int)<g by lia) h;lia
    ·rw[h]at c;lia
    ·exact h
   have:b.natAbs=m.natAbs*g:=by rw[c,l0,mY,oj]
   rw[this,Nat.mul_div_cancel _ gp];lia
theorem kb{a:Int}{g:Nat}(h:(g:Int)∣a):a.fdiv (g:Int)=a.tdiv g:=by
 rw[Int.fdiv_eq_ediv_of_nonneg _ (Int.natCast_nonneg _),Int.tdiv_eq_ediv_of_dvd h]
theorem add_spec(x y:Rat):
  let g:=gcd x.den y.den
  let a:=(x.den:Int).fdiv g
  let top:=x.num*((y.den:Int).fdiv g)+y.num*a
  let left:=gcd top g
  top.fdiv left=(x+y).num/\a*((y.den:Int).fdiv left)=((x+y).den:Int):=by
 have p:=x.den_nz;have q:=y.den_nz;have h:gcd x.den y.den=((x.den.gcd y.den:Nat):Int):=by unfold gcd;rw[Int.gcd_natCast_natCast]
 have i:0<x.den.gcd y.den:=Nat.gcd_pos_of_pos_left _ (by lia);intro g a top left;have c:a=((x.den/x.den.gcd y.den:Nat):Int):=by show(x.den:Int).fdiv (gcd x.den y.den)=_;rw[h,iH]
 have b:top=x.num*((y.den/x.den.gcd y.den:Nat):Int)+y.num*((x.den/x.den.gcd y.den:Nat):Int):=by
  show x.num*((y.den:Int).fdiv (gcd x.den y.den))+y.num*a=_;rw[c,h,iH]
 have e:left=((top.natAbs.gcd (x.den.gcd y.den):Nat):Int):=by
  show((Int.gcd top (gcd x.den y.den):Nat):Int)=_;rw[h];rfl
 have m:x+y=Rat.add x y:=rfl;rw[m];delta Rat.add;dsimp only;rw[e,c]
 split
 ·rename_i j;rw[b];simp only[j,Nat.div_one,Nat.gcd_one_right,iH];simp
 ·rename_i j;rw[Rat.maybeNormalize_eq];simp only[Int.divExact_eq_tdiv];rw[<-b];have l:((top.natAbs.gcd (x.den.gcd y.den):Nat):Int)∣top:=Int.ofNat_dvd_left.2 (Nat.gcd_dvd_left _ _);have o:(top.natAbs.gcd (x.den.gcd y.den):Nat)∣y.den:=Nat.dvd_trans (Nat.gcd_dvd_right _ _) (Nat.gcd_dvd_right _ _);refine⟨?_,?_⟩
  ·rw[kb l]
  ·rw[iH,<-Int.natCast_mul,Nat.mul_div_assoc _ o]
theorem mul_spec(x y:Rat):
  let first:=gcd x.num y.den
  let a:=gcd y.num x.den
  x.num.fdiv first*y.num.fdiv a=(x*y).num/\(x.den:Int).fdiv a*(y.den:Int).fdiv first=((x*y).den:Int):=by
 intro first a
 have b:x*y=Rat.mul x y:=rfl;rw[b];delta Rat.mul;dsimp only;have c:first=((x.num.natAbs.gcd y.den:Nat):Int):=rfl
 have e:a=((y.num.natAbs.gcd x.den:Nat):Int):=rfl;rw[c,e];simp only[Int.divExact_eq_tdiv,Nat.divExact_eq_div];rw[kb (Int.ofNat_dvd_left.2 (Nat.gcd_dvd_left _ _)),kb (Int.ofNat_dvd_left.2 (Nat.gcd_dvd_left _ _)),iH,iH];exact⟨rfl,by rw[Int.natCast_mul]⟩
theorem inv_pos_spec(y:Rat)(h:0<y.num):(y⁻¹).num=y.den/\((y⁻¹).den:Int)=y.num:=by
 rw[Rat.num_inv,Rat.den_inv,Int.sign_eq_one_of_pos h,if_neg (by lia)];constructor<;>lia
theorem inv_neg_spec(y:Rat)(h:y.num<0):(y⁻¹).num=-y.den/\((y⁻¹).den:Int)=-y.num:=by
 rw[Rat.num_inv,Rat.den_inv,Int.sign_eq_neg_one_of_neg h,if_neg (by lia)];constructor<;>lia
end G
namespace G
noncomputable def Bd(n:Nat)(x:Rat):Prop:=x.num.natAbs<=2^n/\x.den<=2^n
theorem pow_le(h:m<=n):2^m<=2^n:=l7 (by decide) h
theorem Bd.mono(b:Bd m x)(h:m<=n):Bd n x:=⟨lC b.1 (pow_le h),lC b.2 (pow_le h)⟩
theorem gV(a:Int)(d:Nat):(a/(d:Int)).natAbs<=a.natAbs:=by
 rcases Nat.eq_zero_or_pos d with h|h
 ·subst h;simp
 ·have b:(0:Int)<d:=by omega
  rcases Int.le_total 0 a with ha|ha
  ·have c:=Int.ediv_nonneg ha (Int.le_of_lt b);have i:=Int.ediv_le_self (d:Int) ha;omega
  ·have c :=Int.ediv_nonpos_of_nonpos_of_neg ha b
   have i:a<=a/(d:Int):=by
    rw[Int.le_ediv_iff_mul_le b];have e:0<=(-a)*((d:Int)-1):=Int.mul_nonneg (by lia) (by lia);rw[Int.neg_mul,Int.mul_sub,Int.mul_one]at e;omega
   omega
theorem Bd.divInt{a b:Int}(ha:a.natAbs<=2^n)(hb:b.natAbs<=2^n):Bd n (Rat.divInt a b):=by
 constructor
 ·rw[Rat.num_divInt];refine lC (gV _ _) ?_;rw[l0]
  have:b.sign.natAbs<=1:=by
   rcases Int.lt_trichotomy b 0 with h|h|h
   ·rw[Int.sign_eq_neg_one_of_neg h];decide
   ·rw[h];decide
   ·rw[Int.sign_eq_one_of_pos h];decide
  calc b.sign.natAbs*a.natAbs<=1*a.natAbs:=m8 _ this
   _<=2^n:=by lia
 ·rw[Rat.den_divInt]
  split
  ·exact Nat.one_le_two_pow
  ·exact lC (Nat.div_le_self _ _) hb
theorem eF{a b m n:Nat}(ha:a<=2^m)(hb:b<=2^n):a*b<=2^(m+n):=by
 rw[mK];exact mZ ha hb
theorem Bd.add(hx:Bd m x)(hy:Bd n y):Bd (m+n+1) (x+y):=by
 constructor
 ·rw[Rat.num_add];refine lC (gV _ _) ?_;have c:=eF hx.1 hy.2;have e:=eF hx.2 hy.1;have b:(x.num*(y.den:Int)).natAbs=x.num.natAbs*y.den:=by rw[l0,mY]
  have a:(y.num*(x.den:Int)).natAbs=x.den*y.num.natAbs:=by rw[l0,mY,oj]
  have:=Int.natAbs_add_le (x.num*(y.den:Int)) (y.num*(x.den:Int))
  rw[b,a]at this;rw[Nat.pow_succ];lia
 ·rw[Rat.den_add];refine lC (Nat.div_le_self _ _) (lC (eF hx.2 hy.2) (pow_le (by lia)))
theorem Bd.neg(hx:Bd m x):Bd m (-x):=⟨by rw[Rat.neg_num,Int.natAbs_neg];exact hx.1,hx.2⟩
theorem Bd.sub(hx:Bd m x)(hy:Bd n y):Bd (m+n+1) (x-y):=by
 rw[Rat.sub_eq_add_neg];exact hx.add hy.neg
theorem Bd.mul(hx:Bd m x)(hy:Bd n y):Bd (m+n) (x*y):=by
 constructor
 ·rw[Rat.num_mul];refine lC (gV _ _) ?_;rw[l0];exact eF hx.1 hy.1
 ·rw[Rat.den_mul];exact lC (Nat.div_le_self _ _) (eF hx.2 hy.2)
theorem Bd.inv(hx:Bd m x):Bd m x⁻¹:=by
 constructor
 ·rw[Rat.num_inv,l0,mY]
  have:x.num.sign.natAbs<=1:=by
   rcases Int.lt_trichotomy x.num 0 with h|h|h
   ·rw[Int.sign_eq_neg_one_of_neg h];decide
   ·rw[h];decide
   ·rw[Int.sign_eq_one_of_pos h];decide
  calc x.num.sign.natAbs*x.den<=1*x.den:=m8 _ this
   _<=2^m:=by have:=hx.2;lia
 ·rw[Rat.den_inv];split
  ·exact Nat.one_le_two_pow
  ·exact hx.1
theorem Bd.div(hx:Bd m x)(hy:Bd n y):Bd (m+n) (x/y):=by
 rw[mi];exact hx.mul hy.inv
theorem Bd.zero:Bd 0 0:=⟨by decide,by decide⟩
theorem Bd.one:Bd 0 1:=⟨by decide,by decide⟩
end G
namespace G
theorem divInt_nn(n:Int)(h:0<d):0<=Rat.divInt n d↔0<=n:=Rat.divInt_nonneg_iff_of_pos_right h
theorem lt_div{a b c d:Int}(hb:0<b)(hd:0<d):Rat.divInt a b<Rat.divInt c d↔a*d<c*b:=by
 rw[<-Rat.not_le,Rat.le_iff_sub_nonneg,Rat.divInt_sub_divInt _ _ (by lia) (by lia),divInt_nn _ (mQ hb hd)]
 lia
end G
namespace G
open PySem
theorem str_ext{x y:Str}(h:x.cps.toList=y.cps.toList):x=y:=by
 cases x;cases y;exact mj Str.mk (Array.toList_inj.mp h)
theorem cps_app(x y:Str):(x++y).cps.toList=x.cps.toList++y.cps.toList:=by
 exact Array.toList_append
theorem app_left{x y z:Str}(h:x++y=x++z):y=z:=by
 have:=mj (λu:Str=>u.cps.toList) h
 simp only[cps_app]at this;exact str_ext (List.append_cancel_left this)
theorem app_right{x y z:Str}(h:x++y=z++y):x=z:=by
 have:=mj (λu:Str=>u.cps.toList) h
 simp only[cps_app]at this;exact str_ext (List.append_cancel_right this)
theorem rep_cps(c n:Nat):((List.replicate n #[c]).foldl (·++·) (#[]:Array Nat)).toList=List.replicate n c:=by
 have:∀(n:Nat)(a:Array Nat),((List.replicate n #[c]).foldl (·++·) a).toList=a.toList++List.replicate n c:=by
  intro n
  induction n with
  |zero=>intro a;simp
  |succ n ih=>
   intro a;rw[List.replicate_succ,oa,ih];simp[List.replicate_succ]
 simpa using this n #[]
theorem mul_cps(c:Nat)(n:Int):(Txt.mul ⟨#[c]⟩ n).cps.toList=List.replicate n.toNat c:=by
 unfold Txt.mul;by_cases h1:n<1
 ·rw[if_pos h1,show n.toNat=0 by lia];rfl
 ·rw[if_neg h1];by_cases h2:n=1
  ·subst h2;rfl
  ·rw[if_neg (by simp[h2,Str.length])];exact rep_cps c n.toNat
theorem len_cps(x:Str):x.length=x.cps.toList.length:=by show x.cps.size=_;rw[Array.length_toList]
noncomputable def sgs:Str:="abcdefghijklmnopqrstuvwxyz0123456789."
noncomputable def sgAt(i:Int):Nat:=sgs.cps.toList.getD i.toNat 0
noncomputable def turnK(k c:Int):Int:=(k*(1+c/5%36)+c/180)%37
theorem sgs_list:sgs.cps.toList=[97,98,99,100,101,102,103,104,105,106,107,108,109,110,111,112,113,114,115,116,117,118,119,120,121,122,48,49,50,51,52,53,54,55,56,57,46]:=by decide+kernel
theorem sgAt_some(h0:0<=i)(h1:i<37):L2.atI sgs.cps.toList i=some (sgAt i):=by
 obtain⟨n,rfl⟩:=nI h0;have a:n<37:=by lia
 refine L2.atI_nat ?_;unfold sgAt;rw[sgs_list,List.getD_eq_getElem?_getD,Int.toNat_natCast];rw[lz (by simpa using a)];rfl
theorem sgAt_inj:∀i<37,∀j<37,sgs.cps.toList.getD i 0=sgs.cps.toList.getD j 0->i=j:=by
 rw[sgs_list];decide+kernel
end G
namespace G
noncomputable def Cop(a b:Int):Prop:=∀d:Int,d∣a->d∣b->d∣1
theorem Cop.one{a b:Int}(h:gcd a b=1):Cop a b:=λd c e=>by
 have:=Int.dvd_coe_gcd c e
 rw[show((Int.gcd a b:Nat):Int)=1 from h]at this;exact this
theorem Cop.gcd{a b:Int}(h:Cop a b):Int.gcd a b=1:=by
 have c:=Int.eq_one_of_dvd_one (Int.natCast_nonneg _) (h _ (nV a b) (Int.gcd_dvd_right a b))
 lia
theorem Cop.gauss(h:Cop d m)(hd:d∣m*n):d∣n:=by
 have e:=h.gcd;rw[<-Int.natAbs_dvd_natAbs]at hd⊢;rw[l0]at hd;exact Nat.Coprime.dvd_of_dvd_mul_left e hd
theorem Cop.quot(hc:c=G.gcd B b)(c0:c≠0)(hB:B=c*u)(hb:b=c*v):Cop u v:=λd i e=>by
 have k:c*d∣c:=by
  have:=Int.dvd_coe_gcd (a:=B) (b:=b) (by rw[hB];exact Int.mul_dvd_mul_left c i) (by rw[hb];exact Int.mul_dvd_mul_left c e)
  rw[show((Int.gcd B b:Nat):Int)=c from hc.symm]at this;exact this
 obtain⟨z,h⟩:=k;refine⟨z,?_⟩
 have:c*(d*z)=c*1:=by rw[<-m5,<-h,Int.mul_one]
 exact(Int.eq_of_mul_eq_mul_left c0 this).symm
theorem den_ne'(x:Rat):(x.den:Int)≠0:=by have:=x.den_nz;lia
structure TInv(x:Rat)(T B s:Int):Prop where
 pB:0<B
 ps:0<s
 r:∃r,B=s*r/\Cop T r
 v:Rat.divInt T B=x
theorem TInv.zero:TInv 0 0 1 1:=⟨by decide,by decide,⟨1,by decide,λd _ h=>h⟩,by rw[Rat.zero_divInt]⟩
theorem jw{c k:Int}(h:c≠0):(c*k).fdiv c=k:=by rw[mH,Int.mul_fdiv_cancel _ h]
theorem TInv.step(I:TInv x T B s):
  TInv (x+y) (T*(y.den:Int).fdiv (gcd B y.den)+y.num*B.fdiv (gcd B y.den)) (B*(y.den:Int).fdiv (gcd B y.den)) (s*(gcd B y.den).fdiv (gcd s (gcd B y.den))):=by
 obtain⟨pB,P,⟨r,S,cr⟩,hv⟩:=I;have yp:=den_pos y
 have A:0<gcd B y.den:=by
  have:=Int.gcd_pos_of_ne_zero_left (y.den:Int) (show B≠0 by lia)
  unfold gcd;lia
 generalize F:gcd B y.den=c at A⊢;have E:=F.symm;have dB:c∣B:=by rw[E];exact nV _ _
 have db:c∣(y.den:Int):=by rw[E];exact Int.gcd_dvd_right _ _
 obtain⟨u,w⟩:=dB;obtain⟨v,h⟩:=db;have J:c≠0:=by lia
 have K :=Cop.quot E J w h;have ey:(y.den:Int).fdiv c=v:=by rw[h,jw J]
 have eB:B.fdiv c=u:=by rw[w,jw J]
 have N :=Int.pos_of_mul_pos_left (by rw[mH,<-h];exact yp) A;rw[ey,eB]
 have gp:0<gcd s c:=by
  have:=Int.gcd_pos_of_ne_zero_left c (show s≠0 by lia)
  unfold gcd;lia
 generalize H:gcd s c=g at gp⊢;have G:=H.symm;have d1:g∣s:=by rw[G];exact nV _ _
 have d2:g∣c:=by rw[G];exact Int.gcd_dvd_right _ _
 obtain⟨o,q⟩:=d1;obtain⟨j,i⟩:=d2;have D:g≠0:=by lia
 have cs :=Cop.quot G D q i;have Z:c.fdiv g=j:=by rw[i,jw D]
 rw[Z];have L :=Int.pos_of_mul_pos_left (by rw[mH,<-i];exact A) gp
 have M:j*u=o*r:=by
  apply Int.eq_of_mul_eq_mul_left D
  rw[<-m5,<-m5,<-i,<-q,<-w,S]
 have k1 :=Cop.gauss (λd a b=>cs d b a) ⟨u,M.symm⟩;obtain⟨z,p⟩:=k1
 have e2:u=o*z:=by
  apply Int.eq_of_mul_eq_mul_left (show j≠0 by lia)
  rw[M,p,<-m5,<-m5,mH o j]
 refine⟨mQ pB N,mQ P L,⟨z*v,?_,?_⟩,?_⟩
 ·rw[S,p];simp only[m5]
 ·intro d R h2
  have t:Cop d v:=λe X l=>by
   have Q:e∣y.num*u:=by
    have:=Int.dvd_sub (nj X R) (nj l (Int.dvd_mul_left T v))
    rw[Int.add_comm,Int.add_sub_cancel]at this;exact this
   rw[mH]at Q;have z2 :=Cop.gauss (λf h3 Y=>K f Y (nj h3 l)) Q;exact Cop.one (gcd_den y) e z2 (by rw[h];exact nj l (Int.dvd_mul_left c v))
  have O :=Cop.gauss t (by rw[mH];exact h2);have z4:d∣u:=by rw[e2];exact nj O (Int.dvd_mul_left o z)
  have z5:d∣v*T:=by
   have:=Int.dvd_sub R (nj z4 (Int.dvd_mul_left y.num u))
   rw[Int.add_sub_cancel,mH]at this;exact this
  exact cr d (Cop.gauss t z5) (by rw[p];exact nj O (Int.dvd_mul_left j z))
 ·rw[<-hv]
  conv=>rhs;rw[<-oe y]
  rw[Rat.divInt_add_divInt _ _ (show B≠0 by lia) (den_ne' y),nQ (show B*v≠0 by have:=mQ pB N;lia) (Int.mul_ne_zero (by lia) (den_ne' y)),h,w];grind
theorem TInv.fin(I:TInv x T B s):T.fdiv (gcd T s)=x.num/\B.fdiv (gcd T s)=(x.den:Int):=by
 obtain⟨pB,o,⟨r,c,j⟩,h⟩:=I
 have e:gcd T s=gcd T B:=by
  refine Int.dvd_antisymm (gcd_nonneg _ _) (gcd_nonneg _ _) (Int.dvd_coe_gcd (nV _ _) (nj (Int.gcd_dvd_right _ _) ⟨r,c⟩)) (Int.dvd_coe_gcd (nV _ _) ?_);refine Cop.gauss (λd l i=>j d (nj l (nV _ _)) i) ?_;rw[mH,<-c];exact Int.gcd_dvd_right _ _
 obtain⟨b,a⟩:=init_spec T B (by lia);rw[if_neg (by lia),h]at b a;rw[e];exact⟨b,a⟩
end G
namespace G
open PySem L2
theorem sum_snoc(xs:List Rat)(a:Rat):(xs++[a]).sum=xs.sum+a:=by
 induction xs with
 |nil=>simp;grind
 |cons x xs ih=>rw[List.cons_append,nv,nv,ih];grind
noncomputable def addK(ks:List Str)(n:Str):List Str:=if n∈ks then ks else ks++[n]
noncomputable def cC(ns:List Str):List Str:=ns.foldl addK []
theorem gj(ns:List Str)(n:Str):cC (ns++[n])=addK (cC ns) n:=by unfold cC;rw[m7];rfl
theorem mem_addK:m∈addK ks n↔m∈ks∨m=n:=by
 unfold addK
 split
 ·exact⟨.inl,λh=>h.elim id λe=>by rw[e];assumption⟩
 ·simp
theorem nodup_addK(h:ks.Nodup):(addK ks n).Nodup:=by
 unfold addK
 split
 ·exact h
 ·rename_i b;exact mo.mpr ⟨h,by simp,λx a y c e=>b (by rw[lv.mp c]at e;rw[<-e];exact a)⟩
theorem len_addK(ks:List Str)(n:Str):(addK ks n).length<=ks.length+1:=by
 unfold addK
 split
 ·lia
 ·simp
theorem mem_fold{ns:List Str}:∀{ks:List Str}{m:Str},m∈ns.foldl addK ks↔m∈ks∨m∈ns:=by
 induction ns with
 |nil=>intro ks m;simp
 |cons n ns ih=>intro ks m;rw[oa,ih,mem_addK,lN,or_assoc]
theorem mem_keysOf:m∈cC ns↔m∈ns:=by unfold cC;rw[mem_fold];simp
theorem nodup_fold{ns:List Str}:∀{ks:List Str},ks.Nodup->(ns.foldl addK ks).Nodup:=by
 induction ns with
 |nil=>intro ks h;exact h
 |cons n ns ih=>intro ks h;exact ih (nodup_addK h)
theorem gG(ns:List Str):(cC ns).Nodup:=nodup_fold nR
theorem len_fold{ns:List Str}:∀{ks:List Str},(ns.foldl addK ks).length<=ks.length+ns.length:=by
 induction ns with
 |nil=>intro ks;exact k5 _
 |cons n ns ih=>intro ks;have a:=ih (ks:=addK ks n);have b:=len_addK ks n;rw[oa,mh];lia
theorem dQ(ns:List Str):(cC ns).length<=ns.length:=by unfold cC;have:=len_fold (ns:=ns) (ks:=[]);simpa using this
noncomputable def upf{α:Type}(f:Str->α)(n:Str)(y:α):Str->α:=λm=>if m=n then y else f m
theorem upf_same:upf f n y n=y:=if_pos rfl
theorem jd(h:m≠n):upf f n y m=f m:=if_neg h
structure Tab{α:Type}(R:Hp->V->α->Prop)(H:Hp)(kvs:List (Key×V))(ks:List Str)(f:Str->α):Prop where
 keys:kvs.map (·.1)=ks.map (λn=>(Sum.inr n:Key))
 vals:∀n∈ks,∃v,cV kvs (Sum.inr n:Key)=some v/\R H v (f n)
section
variable{α:Type}{R:Hp->V->α->Prop}{H H':Hp}{kvs:List (Key×V)}{ks:List Str}{f:Str->α}{n:Str}{v:V}{y:α}
theorem Tab.mono(t:Tab R H kvs ks f)(h:∀v x,R H v x->R H' v x):Tab R H' kvs ks f:=⟨t.keys,λn a=>let⟨v,e,r⟩:=t.vals n a;⟨v,e,h _ _ r⟩⟩
theorem Tab.congr(t:Tab R H kvs ks f)(h:∀n∈ks,f n=g n):Tab R H kvs ks g:=⟨t.keys,λn a=>let⟨v,e,r⟩:=t.vals n a;⟨v,e,by rw[<-h n a];exact r⟩⟩
theorem Tab.nil:Tab R H [] [] f:=⟨rfl,λn h=>absurd h lR⟩
theorem inr_in:(Sum.inr n:Key)∈ks.map (λn=>(Sum.inr n:Key))↔n∈ks:=by
 constructor
 ·intro h;obtain⟨y,a,e⟩:=k8.mp h;rw[<-ol e];exact a
 ·exactλh=>k8.mpr ⟨n,h,rfl⟩
theorem Tab.none(t:Tab R H kvs ks f)(h:¬n∈ks):cV kvs (Sum.inr n:Key)=none:=by
 cases e:cV kvs (Sum.inr n:Key) with
 |none=>rfl
 |some v=>
  have:=valV_in e
  rw[t.keys]at this;exact absurd (inr_in.mp this) h
theorem Tab.len(t:Tab R H kvs ks f):kvs.length=ks.length:=by have:=mj List.length t.keys;rwa[kX,kX]at this
theorem Tab.put(t:Tab R H kvs ks f)(r:R H v y):Tab R H (cK kvs (Sum.inr n:Key) v) (addK ks n) (upf f n y):=by
 refine⟨?_,λm b=>?_⟩
 ·by_cases hn:n∈ks
  ·obtain⟨u,e,_⟩:=t.vals n hn;unfold cK addK;rw[fU,e,if_pos (show(some u).isSome=true from rfl),if_pos hn,<-t.keys,mz];refine List.map_congr_left λa _=>?_;show(if a.1=_ then _ else _:Key×V).1=a.1
   split<;>rfl
  ·rw[iD _ (t.none hn)];unfold addK;rw[if_neg hn,lj,lj,t.keys];rfl
 ·rw[valV_put];by_cases e:m=n
  ·subst e;rw[if_pos rfl,upf_same];exact⟨v,rfl,r⟩
  ·rw[if_neg λz=>e (ol z),jd e];exact t.vals m ((mem_addK.mp b).resolve_right e)
theorem val_idx[DecidableEq κ]:∀{kvs:List (κ×V)}{i:Nat}{kv:κ×V},(kvs.map (·.1)).Nodup->kvs[i]?=some kv->cV kvs kv.1=some kv.2
 |[],_,_,_,e=>by simp at e
 |p::r,0,kv,_,e=>by
  simp at e;subst e;exact dI rfl
 |p::r,i+1,kv,nd,e=>by
  have e:r[i]?=some kv:=by simpa using e
  obtain⟨b,a⟩:=mB.mp (show(p.1::r.map (·.1)).Nodup from nd);rw[dJ λz=>b (by rw[z];exact k8.mpr ⟨kv,kZ e,rfl⟩)];exact val_idx a e
theorem Tab.at_{i:Nat}(t:Tab R H kvs ks f)(nd:ks.Nodup)(e:kvs[i]?=some kv):∃n,ks[i]?=some n/\kv.1=Sum.inr n/\cV kvs (Sum.inr n:Key)=some kv.2/\R H kv.2 (f n):=by
 have b:i<ks.length:=by rw[<-t.len];exact(kY.mp e).1
 have c:kv.1=Sum.inr ks[i]:=by
  have g:=mj (λl=>l[i]?) t.keys;simp only[lg,e,lz b,mV]at g;exact lY g
 have a:(kvs.map (·.1)).Nodup:=by
  rw[t.keys];exact nd.map _ (λu v h e=>h (ol e))
 have ev:=val_idx a e;rw[c]at ev;obtain⟨v,j,r⟩:=t.vals _ (List.getElem_mem b);rw[ev]at j
 cases j;exact⟨ks[i],lz b,c,ev,r⟩
end
theorem eY{ks:List Str}(nd:ks.Nodup)(e:ks[i]?=some n):ks.take (i+1)=ks.take i++[n]/\¬n∈ks.take i:=by
 have c:=(kY.mp e).1;refine⟨by rw[lE,e];rfl,λm=>?_⟩;obtain⟨j,a⟩:=lV.mp m
 have b:j<i:=by
  have:=(kY.mp a).1
  rw[lI]at this
  lia
 rw[nE,if_pos b]at a
 have:=(mS (by lia) nd).mp (a.trans e.symm)
 lia
theorem gZ(h:¬n∈ks):addK ks n=ks++[n]:=if_neg h
noncomputable def KeepD(H H':Hp):Prop:=∀b ob,H b=some ob->(∀kvs,ob≠.dK kvs)->(∀o u,ob≠.frz o u)->H' b=some ob
theorem KeepD.of(s:Same H H'):KeepD H H':=λb a e _ _=>s b a e
theorem KeepD.trans(s:KeepD H H')(t:KeepD H' H''):KeepD H H'':=λb a e h c=>t b a (s b a e h c) h c
theorem KeepD.put(hd:H d=some (.dK kvs)):KeepD H (upd H d o):=λb c e a _=>by
 have:b≠d:=λz=>by rw[z,hd]at e;exact a kvs (lY e).symm
 rw[aG this];exact e
theorem KeepD.frz(hd:H d=some (.frz ob u)):KeepD H (upd H d o):=λb a e _ c=>by
 have:b≠d:=λz=>by rw[z,hd]at e;exact c _ _ (lY e).symm
 rw[aG this];exact e
noncomputable def occ(zs:List (Str×Rat))(n:Str):List Rat:=(zs.filter (λz=>decide (z.1=n))).map (·.2)
theorem occ_snoc(zs:List (Str×Rat))(m n:Str)(y:Rat):occ (zs++[(m,y)]) n=if m=n then occ zs n++[y]else occ zs n:=by
 unfold occ;rw[og,lj];by_cases h:m=n
 ·rw[if_pos h];simp[h]
 ·rw[if_neg h];simp[h]
theorem occ_none(h:¬n∈zs.map (·.1)):occ zs n=[]:=by
 unfold occ;rw[List.filter_eq_nil_iff.mpr,nZ];intro z a e;exact h (k8.mpr ⟨z,a,of_decide_eq_true e⟩)
inductive BdS:List Rat->Nat->Prop
 |nil:BdS [] 0
 |snoc{xs:List Rat}{N m:Nat}{x:Rat}:BdS xs N->Bd m x->BdS (xs++[x]) (N+(m+1))
theorem BdS.fn(h:BdS xs N):∃S:Nat->Nat,S 0=0/\(∀i,i<=xs.length->S i<=N)/\∀i y,xs[i]?=some y->∃m,Bd m y/\S i+(m+1)<=S (i+1):=by
 induction h with
 |nil=>exact⟨λ_=>0,rfl,λ_ _=>lD _,λi y e=>by simp at e⟩
 |@snoc xs N m x _ b ih=>
  obtain⟨S,s,l,r⟩:=ih;refine⟨λj=>if j<=xs.length then S j else N+(m+1),by simp[s],λi c=>?_,λi y e=>?_⟩
  ·show(if i<=xs.length then S i else N+(m+1))<=_
   split
   ·rename_i h
    have:=l i h
    lia
   ·exact k5 _
  ·show∃a,Bd a y/\(if i<=xs.length then S i else N+(m+1))+(a+1)<=(if i+1<=xs.length then S (i+1)else N+(m+1));have c:=(kY.mp e).1;rw[lG,mh,List.length_nil]at c;by_cases hl:i<xs.length
   ·rw[nD hl]at e;obtain⟨a,p,q⟩:=r i y e;exact⟨a,p,by rw[if_pos (by lia),if_pos (by lia)];exact q⟩
   ·have o:i=xs.length:=by lia
    subst o;rw[mP (k5 _),Nat.sub_self]at e
    have:x=y:=by simpa using e
    subst this;refine⟨m,b,?_⟩;rw[if_pos (k5 _),if_neg (by lia)]
    have:=l _ (k5 _)
    lia
end G
namespace G
open PySem L2
noncomputable def Sm(i:Int):Prop:=i.natAbs<2^9000
noncomputable def SmR(x:Rat):Prop:=Sm x.num/\Sm (x.den:Int)
theorem Sm.le{a b:Int}(h:Sm b)(l:a.natAbs<=b.natAbs):Sm a:=ma l h
theorem fT(a:Int)(hb:0<b)(ha:0<=a):(a.fdiv b).natAbs<=a.natAbs:=by
 rw[Int.fdiv_eq_ediv_of_nonneg a (Int.le_of_lt hb)];have c:=Int.ediv_nonneg ha (Int.le_of_lt hb);have e:=Int.ediv_le_self b ha
 lia
theorem fdiv_le'(a:Int)(hb:0<b)(hd:b∣a):(a.fdiv b).natAbs<=a.natAbs:=by
 obtain⟨k,rfl⟩:=hd;have e:(b*k).fdiv b=k:=by rw[mH,Int.mul_fdiv_cancel _ (by omega)]
 rw[e,l0];exact Nat.le_mul_of_pos_left _ (by omega)
theorem dX(a:Int)(h:b≠0):0<gcd a b:=by
 have:=Int.gcd_pos_of_ne_zero_right a h
 unfold gcd;lia
theorem gcd_le_r(a:Int)(h:b≠0):(gcd a b).natAbs<=b.natAbs:=by
 have:=Int.gcd_le_natAbs_right a h
 unfold gcd;omega
theorem gcd_dvd_l(a b:Int):gcd a b∣a:=nV a b
theorem Sm.gcd_r(a:Int)(h:b≠0)(s:Sm b):Sm (gcd a b):=s.le (gcd_le_r a h)
theorem iX(x:Rat):(x.den:Int)≠0:=by have:=x.den_nz;lia
theorem tb:¬(("top":Str)="bottom"):=by decide+kernel
noncomputable def ff(t b:Int):List (Str×V):=[("top",.int t),("bottom",.int b)]
theorem ff_T(t b:Int):(ff t b).lookup ("top":Str)=some (.int t):=rfl
theorem ff_B(t b:Int):(ff t b).lookup ("bottom":Str)=some (.int b):=by
 have h:(("bottom":Str)=="top")=false:=by decide+kernel
 show List.lookup ("bottom":Str) [(("top":Str),V.int t),("bottom",V.int b)]=_;rw[lU,h];rfl
theorem ff_no(t b:Int){m:Str}(h1:(m=="top")=false)(h2:(m=="bottom")=false):(ff t b).lookup m=none:=by
 show List.lookup m [(("top":Str),V.int t),("bottom",V.int b)]=_;rw[lU,h1,lU,h2];rfl
theorem ff_new(t b:Int):cH "bottom" (.int b) (cH "top" (.int t) [])=ff t b:=by
 show(if("top":Str)="bottom"then _ else(("top":Str),V.int t)::[(("bottom":Str),V.int b)])=ff t b;rw[if_neg tb];rfl
theorem ff_put(a c t b:Int):cH "bottom" (.int b) (cH "top" (.int t) (ff a c))=ff t b:=by
 show cH "bottom" (.int b) (if("top":Str)="top"then(("top":Str),V.int t)::[(("bottom":Str),V.int c)]else _)=ff t b;rw[if_pos rfl];show(if("top":Str)="bottom"then _ else(("top":Str),V.int t)::(if("bottom":Str)="bottom"then(("bottom":Str),V.int b)::[]else _))=ff t b;rw[if_neg tb,if_pos rfl];rfl
noncomputable def FrAt(C:Addr)(H:Hp)(p:Addr)(x:Rat):Prop:=∃dx,H p=some (.ins C dx (ff x.num x.den))
theorem FrAt.mono(h:FrAt C H p x)(s:Same H H'):FrAt C H' p x:=by
 obtain⟨dx,e⟩:=h;exact⟨dx,s _ _ e⟩
theorem FrAt.up(s:Same H H')(h:FrAt C H p x):FrAt C H' p x:=h.mono s
structure FrC(K:W.Frag)(C:Addr):Prop where
 cl:Cls K C
 nT:NoAttr K C "top"
 nB:NoAttr K C "bottom"
 c1:PySem.W.findIn K (.ref C) "__class__"=some (some (.builtin "object.__class__"))
 c2:PySem.W.specialIn K (.builtin "object.__class__") "__get__"=some (some (.builtin "getset_descriptor.__get__"))
 c3:PySem.W.takesIn K (.builtin "object.__class__")=some true
 c4:PySem.W.mroIn K C (.type "object")=some true
theorem FrAt.ty{K:W.Frag}(F:FrC K C)(h:FrAt C H p x):TyOf K H (.ref p) (.ref C):=by
 obtain⟨_,e⟩:=h;exact TyOf.ins e F.cl F.c1 F.c2 F.c3 F.c4
noncomputable def tTop(C:Addr)(ta:TE):TE:=λσ H Q=>ta σ H λv H1=>∃p x,v=.ref p/\FrAt C H1 p x/\Q (.int x.num) H1
noncomputable def tBot(C:Addr)(ta:TE):TE:=λσ H Q=>ta σ H λv H1=>∃p x,v=.ref p/\FrAt C H1 p x/\Q (.int x.den) H1
section
variable{X:Cx}{C:Addr}{e o:Expr}{ta:TE}{pos:Pos}
theorem dY(F:FrC X.K C)(he:PE X e ta)(hb:attributeBase e "top" X.env (eval e X.env)=eval e X.env:=by rfl):PE X (.Attribute e "top" pos) (tTop C ta):=by
 intro a s σ H Q I h;refine attr_of hb (thn (he a s σ H _ I h) λu m zW=>?_);obtain⟨v,l,i,r,p,x,e,⟨w,c⟩,q⟩:=zW;subst e;obtain rfl :=r;exact j8 i c F.cl F.nT (ff_T _ _) λo t b j=>⟨_,l,b,j,q⟩
theorem dZ(F:FrC X.K C)(he:PE X e ta)(hb:attributeBase e "bottom" X.env (eval e X.env)=eval e X.env:=by rfl):PE X (.Attribute e "bottom" pos) (tBot C ta):=by
 intro a s σ H Q I h;refine attr_of hb (thn (he a s σ H _ I h) λu m zW=>?_);obtain⟨v,l,i,r,p,x,e,⟨w,c⟩,q⟩:=zW;subst e;obtain rfl :=r;exact j8 i c F.cl F.nB (ff_B _ _) λo t b j=>⟨_,l,b,j,q⟩
noncomputable def tFrM(C:Addr)(sp:Sp)(E:XK)(ta:TE)(t:TA):TE:=λσ H Q=>ta σ H λv H1=>∃p x,v=.ref p/\FrAt C H1 p x/\t σ H1 λvs H2=>sp (v::vs) H2 Q E
variable{CX:CXT}{k j:Nat}{ps:List Str}{sp:Sp}{E:XK}{m:Str}{p apos:Pos}{es:List Expr}{t:TA}
theorem cM(F:FrC X.K C)(he:PE X o ta)(M:MtB X.prog X.w X.K X.mg X.base CX C m k ps sp)(hr:Room j X.A)(hx:fJ CX X E)(ha:PA X (e::es) t)(hj:k<=j:=by decide)(h1:(m=="top")=false:=by decide+kernel)(h2:(m=="bottom")=false:=by decide+kernel)
  (hst:starEach (e::es) X.env=(false,eval e X.env)::starEach es X.env:=by rfl)(hpl:(backTo pos (starEach es X.env)).any (·.1)=false:=by rfl)
  (ht:eval (.Call (.Attribute o m apos) (e::es) [] pos) X.env=(do
   let ov<-eval o X.env
   standAt apos.atName
   let(f,first)<-holding [ov] (getMethod ov m pl)
   callWith pos f first (backTo pos (starEach (e::es) X.env)) (backToKw pos (keywordEach [] X.env))):=by rfl):PE X (.Call (.Attribute o m apos) (e::es) [] pos) (tFrM C sp E ta t):=by
 obtain⟨f,J,p,b,d⟩:=M;intro c s σ H Q I h;refine PySem.W.methodCall_KW (thn (he c s σ H _ I h) λu w zW=>?_) ht;obtain⟨v,B,i,z,a,x,ex,⟨K,y⟩,q⟩:=zW;subst ex;obtain rfl :=z;refine iU i y F.cl p (ff_no _ _ h1 h2) ?_;refine PySem.W.callWith_K (first:=[.ref a]) I.ok.mod.kin p.kp (thn (ha pos c w σ B _ i q) λus G zW=>?_) hst hpl;obtain⟨vs,D,l,r,A⟩:=zW;refine⟨l.kIn,?_⟩;exact run_fn (us:=.ref a::us) (vs:=.ref a::vs) d (hr.mono hj) b .nil hx l (.cons rfl r) (by simpa using A)
theorem eT(F:FrC X.K C)(he:PE X o ta)(M:MtB X.prog X.w X.K X.mg X.base CX C m k ps sp)(hr:Room j X.A)(hx:fJ CX X E)(hj:k<=j:=by decide)(h1:(m=="top")=false:=by decide+kernel)(h2:(m=="bottom")=false:=by decide+kernel)
  (ht:eval (.Call (.Attribute o m apos) [] [] pos) X.env=(do
   let ov<-eval o X.env
   standAt apos.atName
   let(f,first)<-holding [ov] (getMethod ov m pl)
   callWith pos f first (backTo pos (starEach [] X.env)) (backToKw pos (keywordEach [] X.env))):=by rfl):PE X (.Call (.Attribute o m apos) [] [] pos) (tFrM C sp E ta tNil):=by
 obtain⟨f,t,i,b,d⟩:=M;intro c s σ H Q I h;refine PySem.W.methodCall_KW (thn (he c s σ H _ I h) λu r zW=>?_) ht;obtain⟨v,y,e,p,a,x,ex,⟨w,l⟩,q⟩:=zW;subst ex;obtain rfl :=p;refine iU e l F.cl i (ff_no _ _ h1 h2) ?_;exact PySem.W.callWith_K0 (first:=[.ref a]) e.kIn i.kp (run_fn (us:=[.ref a]) (vs:=[.ref a]) d (hr.mono hj) b .nil hx e (.cons rfl .nil) q)
noncomputable def spDiv:Sp:=λvs H Q _=>∃a b:Int,vs=[.int a,.int b]/\Q (.int (gcd a b)) H
noncomputable def spInit(C:Addr):Sp:=λvs H Q _=>∃(p dx:Addr)(a b:Int),vs=[.ref p,.int a,.int b]/\H p=some (.ins C dx [])/\b≠0/\Sm b/\∀H',H'=upd H p (.ins C dx (ff (Rat.divInt a b).num (Rat.divInt a b).den))->Q .non H'
noncomputable def NewFr(C:Addr)(H:Hp)(Q:VK)(x:Rat):Prop:=∀(r:Addr)(H':Hp),H r=none->Same H H'->FrAt C H' r x->Q (.ref r) H'
noncomputable def spLow(C:Addr):Sp:=λvs H Q _=>∃t b:Int,vs=[.int t,.int b]/\∀(r dx:Addr)(H':Hp),H r=none->Same H H'->H' r=some (.ins C dx (ff t b))->Q (.ref r) H'
noncomputable def spR2(C:Addr)(f:Rat->Rat->Rat)(pre:Rat->Rat->Prop):Sp:=λvs H Q _=>∃(p q:Addr)(x y:Rat),vs=[.ref p,.ref q]/\FrAt C H p x/\FrAt C H q y/\SmR x/\SmR y/\pre x y/\NewFr C H Q (f x y)
theorem mk_fr{a b:Int}(nx:H x=none)(nd:H dx=none)(hb:b≠0)(hs:Sm b)(k:∀H':Hp,Same H H'->FrAt C H' x (Rat.divInt a b)->Q .non H'):
  spInit C [.ref x,.int a,.int b] (upd (upd H dx (.own x)) x (.ins C dx [])) Q E:=by
 refine⟨x,dx,a,b,rfl,aE,hb,hs,λH' e=>?_⟩;subst e;refine k _ (λc o e=>?_) ⟨dx,aE⟩;rw[aG (aN e nx),aG (aN e nx),aG (aN e nd)];exact e
noncomputable def tMkFr(C:Addr)(dvs:List V)(t:TA):TE:=λσ H Q=>t σ H λvs H1=>∃a b:Int,vs++dvs=[.int a,.int b]/\b≠0/\Sm b/\NewFr C H1 Q (Rat.divInt a b)
theorem cJ(F:MkB X.prog X.w X.K X.mg X.base CX C k ["self","top","bottom"] dvs (spInit C))(hr:Room j X.A)(hm:X.mg x=some (.ref C))(hx:fJ CX X E)(ha:PA X (e::es) t)(hj:k+1<=j:=by decide)(hg:Gl X x:=by rfl)(hdb:(x==("__debug__":Str))=false:=by decide)
  (he:starEach (e::es) X.env=(false,eval e X.env)::starEach es X.env:=by rfl)(hpl:(backTo pos (starEach es X.env)).any (·.1)=false:=by rfl):PE X (.Call (.Name x p) (e::es) [] pos) (tMkFr C dvs t):=by
 obtain⟨f,O,G,M,b,c,d⟩:=F;intro a s σ H Q I h;refine wpAny_Call_Name_kw (kO I hg hm ?_ hdb);refine PySem.W.callWith_K I.ok.mod.kin M.kp (thn (ha pos a s σ H _ I h) λJ L zW=>?_) he hpl;obtain⟨D,R,i,r,N,K,ev,z,m,q⟩:=zW;refine⟨i.kIn,?_⟩;refine run_make M d (hr.mono hj) b c hx i r λy P l w _=>?_;rw[ev];exact mk_fr l w z m λB A o=>⟨rfl,q y B l A o⟩
end
end G
namespace G
open PySem L2
noncomputable def bG(i:Nat):Stmt:=PySem.Challenge.pw_gainstream_k38_whole_ends_and_costs.main.body.getD i (.Pass ⟨0,0,0,0⟩)
noncomputable abbrev s_divisor:Stmt:=bG 12
noncomputable abbrev hV:Stmt:=bG 14
noncomputable abbrev s_total:Stmt:=bG 15
noncomputable abbrev s_amount:Stmt:=bG 17
noncomputable abbrev hJ:Stmt:=bG 18
noncomputable abbrev fX:Stmt:=bG 19
noncomputable abbrev gN:Stmt:=bG 20
noncomputable abbrev s_sums:Stmt:=bG 21
noncomputable abbrev s_worth:Stmt:=bG 22
noncomputable abbrev s_together:Stmt:=bG 23
noncomputable abbrev s_scaled:Stmt:=bG 24
noncomputable abbrev kx:Stmt:=bG 26
noncomputable abbrev s_ways_of:Stmt:=bG 28
noncomputable abbrev s_places_of:Stmt:=bG 29
noncomputable abbrev s_gain_of:Stmt:=bG 30
noncomputable abbrev kC:Stmt:=bG 31
noncomputable abbrev s_is_path:Stmt:=bG 32
noncomputable abbrev s_is_ring:Stmt:=bG 33
noncomputable abbrev s_sent:Stmt:=bG 34
noncomputable abbrev s_is_walk:Stmt:=bG 36
noncomputable abbrev s_growth:Stmt:=bG 37
noncomputable abbrev ji:Stmt:=bG 38
noncomputable abbrev s_is_round:Stmt:=bG 39
noncomputable abbrev ky:Stmt:=bG 40
noncomputable abbrev s_is_road:Stmt:=bG 41
noncomputable abbrev s_is_strand:Stmt:=bG 42
noncomputable abbrev s_head_plan:Stmt:=bG 43
noncomputable abbrev s_tail_plan:Stmt:=bG 44
noncomputable abbrev s_road_plan:Stmt:=bG 45
noncomputable abbrev jN:Stmt:=bG 46
noncomputable abbrev jh:Stmt:=bG 49
noncomputable abbrev s_least:Stmt:=bG 50
noncomputable abbrev s_by_start:Stmt:=bG 51
noncomputable abbrev s_ring_in:Stmt:=bG 52
noncomputable abbrev kz:Stmt:=bG 53
noncomputable abbrev s_less:Stmt:=bG 54
noncomputable abbrev jM:Stmt:=bG 56
noncomputable abbrev iZ:Stmt:=bG 65
noncomputable abbrev s_check_way:Stmt:=bG 66
noncomputable abbrev jg:Stmt:=bG 67
noncomputable abbrev jR:Stmt:=bG 70
noncomputable abbrev s_law_names:Stmt:=bG 71
noncomputable abbrev s_law_gain:Stmt:=bG 72
noncomputable abbrev kB:Stmt:=bG 73
noncomputable abbrev s_law_way:Stmt:=bG 74
noncomputable abbrev s_law_cost:Stmt:=bG 75
noncomputable abbrev s_law_net:Stmt:=bG 76
noncomputable abbrev s_law_plus:Stmt:=bG 77
noncomputable abbrev s_law_times:Stmt:=bG 78
noncomputable abbrev s_law_ways:Stmt:=bG 79
noncomputable abbrev i3:Stmt:=bG 80
noncomputable abbrev s_law_ring:Stmt:=bG 81
noncomputable abbrev kA:Stmt:=bG 82
noncomputable abbrev jO:Stmt:=bG 83
noncomputable abbrev jP:Stmt:=bG 84
noncomputable abbrev s_law_send:Stmt:=bG 85
noncomputable abbrev jQ:Stmt:=bG 86
noncomputable abbrev s_law_due:Stmt:=bG 87
noncomputable abbrev jS:Stmt:=bG 88
noncomputable abbrev s_law_whole:Stmt:=bG 89
noncomputable abbrev s_law_told:Stmt:=bG 90
noncomputable abbrev jT:Stmt:=bG 91
noncomputable abbrev s_law_same:Stmt:=bG 92
noncomputable abbrev s_law_above:Stmt:=bG 93
noncomputable abbrev ix:Stmt:=bG 94
noncomputable abbrev hU:Stmt:=bG 95
noncomputable abbrev s_law:Stmt:=bG 96
noncomputable abbrev i7:Stmt:=bX (bG 13) 0
noncomputable abbrev i5:Stmt:=bX (bG 13) 1
noncomputable abbrev iC:Stmt:=bX (bG 13) 2
noncomputable abbrev iB:Stmt:=bX (bG 13) 3
noncomputable abbrev i6:Stmt:=bX (bG 13) 4
noncomputable abbrev iA:Stmt:=bX (bG 13) 5
noncomputable abbrev i4:Stmt:=bX (bG 13) 7
noncomputable abbrev s_End_init:Stmt:=bX (bG 48) 0
noncomputable abbrev jU:Stmt:=bX (bG 55) 0
noncomputable abbrev iz:Stmt:=bX (bG 55) 1
noncomputable abbrev gP:Stmt:=bX (bG 55) 2
noncomputable abbrev iy:Stmt:=bX (bG 55) 3
noncomputable abbrev gO:Stmt:=bX (bG 55) 4
noncomputable abbrev gQ:Stmt:=bX (bG 55) 5
noncomputable abbrev iM:Stmt:=bX (bG 58) 0
noncomputable abbrev s_Way_may_stay:Stmt:=bX (bG 58) 1
noncomputable abbrev s_Way_gain:Stmt:=bX (bG 58) 2
noncomputable abbrev gI:Stmt:=bX (bG 58) 3
noncomputable abbrev gS:Stmt:=bX (bG 59) 0
noncomputable abbrev jk:Stmt:=bX (bG 59) 1
noncomputable abbrev gR:Stmt:=bX (bG 60) 0
noncomputable abbrev fu:Stmt:=bX (bG 60) 1
noncomputable abbrev s_Store_init:Stmt:=bX (bG 61) 0
noncomputable abbrev s_Store_may_stay:Stmt:=bX (bG 61) 1
noncomputable abbrev s_Net_init:Stmt:=bX (bG 68) 0
noncomputable abbrev s_Net_names:Stmt:=bX (bG 68) 1
noncomputable abbrev s_Net_want:Stmt:=bX (bG 68) 2
noncomputable abbrev s_Net_way:Stmt:=bX (bG 68) 3
noncomputable abbrev jj:Stmt:=bX (bG 68) 4
structure Ad where
 Fraction:Addr
 End:Addr
 Taking:Addr
 Way:Addr
 Growing:Addr
 Leaking:Addr
 Store:Addr
 Net:Addr
 GainError:Addr
 NoNumber:Addr
 TooMany:Addr
 NoStrand:Addr
 NoWay:Addr
 Broken:Addr
 Twice:Addr
 NoPlace:Addr
 OverBound:Addr
structure TX(K:W.Frag)(mg:Str->Option Value)(a:Ad):Prop where
 d_divisor:FDe K mg "divisor" s_divisor ["one","other"]
 d_in_lowest_terms:FDe K mg "in_lowest_terms" hV ["top","bottom"]
 d_total:FDe K mg "total" s_total ["some"]
 d_amount:FDe K mg "amount" s_amount ["plan","name"]
 d_without_noughts:FDe K mg "without_noughts" hJ ["plan"]
 d_refuse_other_names:FDe K mg "refuse_other_names" fX ["net","plan"]
 d_sums_of_own_ways:FDe K mg "sums_of_own_ways" gN ["net","plan"]
 d_sums:FDe K mg "sums" s_sums ["net","plan"]
 d_worth:FDe K mg "worth" s_worth ["net","plan"]
 d_together:FDe K mg "together" s_together ["one","other"]
 d_scaled:FDe K mg "scaled" s_scaled ["plan","number"]
 d_ring_along:FDe K mg "ring_along" kx ["pointers","place"]
 d_ways_of:FDe K mg "ways_of" s_ways_of ["net","walk"]
 d_places_of:FDe K mg "places_of" s_places_of ["net","walk"]
 d_gain_of:FDe K mg "gain_of" s_gain_of ["net","walk"]
 d_all_unlike:FDe K mg "all_unlike" kC ["names"]
 d_is_path:FDe K mg "is_path" s_is_path ["net","walk"]
 d_is_ring:FDe K mg "is_ring" s_is_ring ["net","walk"]
 d_sent:FDe K mg "sent" s_sent ["net","walk","amount"]
 d_is_walk:FDe K mg "is_walk" s_is_walk ["net","names"]
 d_growth:FDe K mg "growth" s_growth ["net","walk"]
 d_is_ring_with:FDe K mg "is_ring_with" ji ["net","walk","wanted"]
 d_is_round:FDe K mg "is_round" s_is_round ["net","head","path","tail"]
 d_parts_meet:FDe K mg "parts_meet" ky ["net","parts"]
 d_is_road:FDe K mg "is_road" s_is_road ["net","head","path","tail"]
 d_is_strand:FDe K mg "is_strand" s_is_strand ["net","strand"]
 d_head_plan:FDe K mg "head_plan" s_head_plan ["net","head","amount"]
 d_tail_plan:FDe K mg "tail_plan" s_tail_plan ["net","tail","amount"]
 d_road_plan:FDe K mg "road_plan" s_road_plan ["net","head","path","tail","amount"]
 d_strand_plan:FDe K mg "strand_plan" jN ["net","strand"]
 d_refuse_unfit:FDe K mg "refuse_unfit" jh ["net","plan"]
 d_least:FDe K mg "least" s_least ["numbers"]
 d_by_start:FDe K mg "by_start" s_by_start ["ways"]
 d_ring_in:FDe K mg "ring_in" s_ring_in ["net","plan"]
 d_most_along:FDe K mg "most_along" kz ["plan","unit"]
 d_less:FDe K mg "less" s_less ["plan","unit","amount"]
 d_taken_apart:FDe K mg "taken_apart" jM ["net","plan"]
 d_wants_by_name:FDe K mg "wants_by_name" iZ ["places"]
 d_check_way:FDe K mg "check_way" s_check_way ["way","ahead","wants"]
 d_ways_by_name:FDe K mg "ways_by_name" jg ["ways","wants"]
 d_law_cell_at:FDe K mg "_law_cell_at" jR ["_law_script","_law_k"]
 d_law_names:FDe K mg "_law_names" s_law_names ["_law_cell","_law_count"]
 d_law_gain:FDe K mg "_law_gain" s_law_gain ["_law_cell"]
 d_law_factor:FDe K mg "_law_factor" kB ["_law_cell","_law_equal"]
 d_law_way:FDe K mg "_law_way" s_law_way ["_law_name","_law_parts","_law_high","_law_cost_here"]
 d_law_cost:FDe K mg "_law_cost" s_law_cost ["_law_name","_law_ways_here","_law_cell"]
 d_law_net:FDe K mg "_law_net" s_law_net ["_law_spots","_law_ways_here","_law_cell"]
 d_law_plus:FDe K mg "_law_plus" s_law_plus ["_law_one","_law_other"]
 d_law_times:FDe K mg "_law_times" s_law_times ["_law_one","_law_other"]
 d_law_ways:FDe K mg "_law_ways" s_law_ways ["_law_script","_law_spots","_law_labels"]
 d_law_free_ways:FDe K mg "_law_free_ways" i3 ["_law_script","_law_spots","_law_labels"]
 d_law_ring:FDe K mg "_law_ring" s_law_ring ["_law_ways_here","_law_around","_law_begin","_law_size","_law_name","_law_gain_here","_law_kind"]
 d_law_strand:FDe K mg "_law_strand" kA ["_law_ways_here","_law_labels","_law_count","_law_which","_law_cells"]
 d_law_strands:FDe K mg "_law_strands" jO ["_law_script","_law_ways_here","_law_labels","_law_count","_law_many"]
 d_law_product:FDe K mg "_law_product" jP ["_law_ways_here","_law_walk"]
 d_law_send:FDe K mg "_law_send" s_law_send ["_law_due_here","_law_ways_here","_law_walk","_law_put"]
 d_law_planned:FDe K mg "_law_planned" jQ ["_law_due_here","_law_ways_here","_law_strand_here"]
 d_law_due:FDe K mg "_law_due" s_law_due ["_law_script","_law_ways_here","_law_strands_here"]
 d_law_brought:FDe K mg "_law_brought" jS ["_law_spots","_law_ways_here","_law_due_here"]
 d_law_whole:FDe K mg "_law_whole" s_law_whole ["_law_found"]
 d_law_told:FDe K mg "_law_told" s_law_told ["_law_found"]
 d_law_as_plan:FDe K mg "_law_as_plan" jT ["_law_due_here"]
 d_law_same:FDe K mg "_law_same" s_law_same ["_law_one","_law_other"]
 d_law_above:FDe K mg "_law_above" s_law_above ["_law_pair"]
 d_law_ends_right:FDe K mg "_law_ends_right" ix ["_law_spots","_law_ways_here","_law_due_here","_law_found"]
 d_law_costs_right:FDe K mg "_law_costs_right" hU ["_law_net_here","_law_ways_here","_law_due_here","_law_cell","_law_found"]
 d_law:FDe K mg "law" s_law ["_law_script"]
 cl_Fraction:Cls K a.Fraction
 mg_Fraction:mg "Fraction"=some (.ref a.Fraction)
 na_Fraction_top:NoAttr K a.Fraction "top"
 na_Fraction_bottom:NoAttr K a.Fraction "bottom"
 i_Fraction:IDe K a.Fraction "Fraction.__init__" i7 ["self","top","bottom"] [[],[V.int 1]]
 m_Fraction_plus:MDe K a.Fraction "plus" "Fraction.plus" i5 ["self","other"]
 m_Fraction_minus:MDe K a.Fraction "minus" "Fraction.minus" iC ["self","other"]
 m_Fraction_times:MDe K a.Fraction "times" "Fraction.times" iB ["self","other"]
 m_Fraction_over:MDe K a.Fraction "over" "Fraction.over" i6 ["self","other"]
 m_Fraction_under:MDe K a.Fraction "under" "Fraction.under" iA ["self","other"]
 m_Fraction_sign:MDe K a.Fraction "sign" "Fraction.sign" i4 ["self"]
 c1_Fraction:PySem.W.findIn K (.ref a.Fraction) "__class__"=some (some (.builtin "object.__class__"))
 c4_Fraction:PySem.W.mroIn K a.Fraction (.type "object")=some true
 cl_End:Cls K a.End
 mg_End:mg "End"=some (.ref a.End)
 na_End_place:NoAttr K a.End "place"
 na_End_ring:NoAttr K a.End "ring"
 na_End_rest:NoAttr K a.End "rest"
 i_End:IDe K a.End "End.__init__" s_End_init ["self","place","ring","rest"] [[]]
 cl_Taking:Cls K a.Taking
 mg_Taking:mg "Taking"=some (.ref a.Taking)
 na_Taking_on:NoAttr K a.Taking "on"
 na_Taking_rest:NoAttr K a.Taking "rest"
 na_Taking_strands:NoAttr K a.Taking "strands"
 na_Taking_sources:NoAttr K a.Taking "sources"
 na_Taking_sinks:NoAttr K a.Taking "sinks"
 i_Taking:IDe K a.Taking "Taking.__init__" jU ["self","net","plan"] [[]]
 m_Taking_add_end:MDe K a.Taking "add_end" "Taking.add_end" iz ["self","place","ring","come"]
 m_Taking_take_ring:MDe K a.Taking "take_ring" "Taking.take_ring" gP ["self","ring"]
 m_Taking_sink_at:MDe K a.Taking "sink_at" "Taking.sink_at" iy ["self","place"]
 m_Taking_take_road:MDe K a.Taking "take_road" "Taking.take_road" gO ["self","source"]
 m_Taking_take_path:MDe K a.Taking "take_path" "Taking.take_path" gQ ["self","source","path","sink"]
 cl_Way:Cls K a.Way
 mg_Way:mg "Way"=some (.ref a.Way)
 na_Way_name:NoAttr K a.Way "name"
 na_Way_start:NoAttr K a.Way "start"
 na_Way_goal:NoAttr K a.Way "goal"
 na_Way_high:NoAttr K a.Way "high"
 na_Way_cost:NoAttr K a.Way "cost"
 i_Way:IDe K a.Way "Way.__init__" iM ["self","name","start","goal","high","cost"] [[],[V.non,V.non]]
 c_Way:CDe K a.Way "Way.__init__" iM ["self","name","start","goal","high","cost"]
 m_Way_gain:MDe K a.Way "gain" "Way.gain" s_Way_gain ["self"]
 m_Way_out:MDe K a.Way "out" "Way.out" gI ["self","amount"]
 c1_Way:PySem.W.findIn K (.ref a.Way) "__class__"=some (some (.builtin "object.__class__"))
 c4_Way:PySem.W.mroIn K a.Way (.type "object")=some true
 cl_Growing:Cls K a.Growing
 mg_Growing:mg "Growing"=some (.ref a.Growing)
 na_Growing_rate:NoAttr K a.Growing "rate"
 na_Growing_name:NoAttr K a.Growing "name"
 na_Growing_start:NoAttr K a.Growing "start"
 na_Growing_goal:NoAttr K a.Growing "goal"
 na_Growing_high:NoAttr K a.Growing "high"
 na_Growing_cost:NoAttr K a.Growing "cost"
 i_Growing:IDe K a.Growing "Growing.__init__" gS ["self","name","start","goal","rate","high","cost"] [[],[V.non,V.non]]
 m_Growing_gain:MDe K a.Growing "gain" "Growing.gain" jk ["self"]
 m_Growing_out:MDe K a.Growing "out" "Way.out" gI ["self","amount"]
 c1_Growing:PySem.W.findIn K (.ref a.Growing) "__class__"=some (some (.builtin "object.__class__"))
 c4_Growing:PySem.W.mroIn K a.Growing (.type "object")=some true
 cl_Leaking:Cls K a.Leaking
 mg_Leaking:mg "Leaking"=some (.ref a.Leaking)
 na_Leaking_loss:NoAttr K a.Leaking "loss"
 na_Leaking_name:NoAttr K a.Leaking "name"
 na_Leaking_start:NoAttr K a.Leaking "start"
 na_Leaking_goal:NoAttr K a.Leaking "goal"
 na_Leaking_high:NoAttr K a.Leaking "high"
 na_Leaking_cost:NoAttr K a.Leaking "cost"
 i_Leaking:IDe K a.Leaking "Leaking.__init__" gR ["self","name","start","goal","loss","high","cost"] [[],[V.non,V.non]]
 m_Leaking_gain:MDe K a.Leaking "gain" "Leaking.gain" fu ["self"]
 m_Leaking_out:MDe K a.Leaking "out" "Way.out" gI ["self","amount"]
 c1_Leaking:PySem.W.findIn K (.ref a.Leaking) "__class__"=some (some (.builtin "object.__class__"))
 c4_Leaking:PySem.W.mroIn K a.Leaking (.type "object")=some true
 cl_Store:Cls K a.Store
 mg_Store:mg "Store"=some (.ref a.Store)
 na_Store_loss:NoAttr K a.Store "loss"
 na_Store_name:NoAttr K a.Store "name"
 na_Store_start:NoAttr K a.Store "start"
 na_Store_goal:NoAttr K a.Store "goal"
 na_Store_high:NoAttr K a.Store "high"
 na_Store_cost:NoAttr K a.Store "cost"
 m_Store_gain:MDe K a.Store "gain" "Leaking.gain" fu ["self"]
 m_Store_out:MDe K a.Store "out" "Way.out" gI ["self","amount"]
 c1_Store:PySem.W.findIn K (.ref a.Store) "__class__"=some (some (.builtin "object.__class__"))
 c4_Store:PySem.W.mroIn K a.Store (.type "object")=some true
 cl_Net:Cls K a.Net
 mg_Net:mg "Net"=some (.ref a.Net)
 na_Net_wants:NoAttr K a.Net "wants"
 na_Net_ways:NoAttr K a.Net "ways"
 i_Net:IDe K a.Net "Net.__init__" s_Net_init ["self","places","ways"] [[]]
 m_Net_names:MDe K a.Net "names" "Net.names" s_Net_names ["self"]
 m_Net_way:MDe K a.Net "way" "Net.way" s_Net_way ["self","name"]
 m_Net_all_ways:MDe K a.Net "all_ways" "Net.all_ways" jj ["self"]
 no_Net_times:PySem.W.findIn K (.ref a.Net) "times"=some none
 no_Net_out:PySem.W.findIn K (.ref a.Net) "out"=some none
 c2:PySem.W.specialIn K (.builtin "object.__class__") "__get__"=some (some (.builtin "getset_descriptor.__get__"))
 c3:PySem.W.takesIn K (.builtin "object.__class__")=some true
 mg_GainError:mg "GainError"=some (.ref a.GainError)
 mg_NoNumber:mg "NoNumber"=some (.ref a.NoNumber)
 mg_TooMany:mg "TooMany"=some (.ref a.TooMany)
 mg_NoStrand:mg "NoStrand"=some (.ref a.NoStrand)
 mg_NoWay:mg "NoWay"=some (.ref a.NoWay)
 mg_Broken:mg "Broken"=some (.ref a.Broken)
 mg_Twice:mg "Twice"=some (.ref a.Twice)
 mg_NoPlace:mg "NoPlace"=some (.ref a.NoPlace)
 mg_OverBound:mg "OverBound"=some (.ref a.OverBound)
 k_Fraction_Fraction:PySem.W.kitOne K (.ref a.Fraction) (.ref a.Fraction)=some true
 k_Way_Store:PySem.W.kitOne K (.ref a.Way) (.ref a.Store)=some false
 k_Growing_Store:PySem.W.kitOne K (.ref a.Growing) (.ref a.Store)=some false
 k_Leaking_Store:PySem.W.kitOne K (.ref a.Leaking) (.ref a.Store)=some false
 k_int_bool:PySem.W.kitOne K (.type "int") (.type "bool")=some false
 k_int_int:PySem.W.kitOne K (.type "int") (.type "int")=some true
 gi_MOST_PLACES:∃tk,mg "MOST_PLACES"=some (.int 12 tk)
 gi_MOST_WAYS:∃tk,mg "MOST_WAYS"=some (.int 24 tk)
 z_abs:mg "abs"=none
 z_bool:mg "bool"=none
 z_dict:mg "dict"=none
 z_int:mg "int"=none
 z_isinstance:mg "isinstance"=none
 z_len:mg "len"=none
 z_list:mg "list"=none
 z_range:mg "range"=none
 z_set:mg "set"=none
 z_zip:mg "zip"=none
open PySem L2 in
local macro_rules | `(tactic| walk_at "sc") => `(tactic| exact ⟨rfl, rfl, rfl, by decide +kernel, rfl, by decide +kernel, by decide +kernel⟩)
structure Bt(i:Int):Prop where
 le:Builtin.Int.intBits i<=2^20
inductive IspLaw(K:W.Frag)(vs:List V)(H:Hp)(Q:VK):Prop
 |mk(l:Addr)(ns:List Int)(h1:vs=[.ref l])(h2:SqL K H l (ns.map V.int))(h3:ns.length<=63)(h4:(∀i∈ns,Bt i))(h5:∀H',Q (.bl true) H'):IspLaw K vs H Q
noncomputable def spLaw(K:W.Frag):Sp:=λvs H Q _=>IspLaw K vs H Q
structure Zz where
 P:Program
 w:World
 K:W.Frag
 mg:Str->Option Value
 base:Heap
 a:Ad
noncomputable def ZzB(z:Zz):Prop:=TX z.K z.mg z.a->∀f fd,Fun z.K "law" "law" s_law f fd->FnOk z.P z.w z.K z.mg z.base CX0 20 f fd ["_law_script"] (spLaw z.K)
theorem Zz.ex:∃z:Zz,ZzB z->∀z,ZzB z:=by
 by_cases h:∃z,¬ZzB z
 ·obtain⟨z,a⟩:=h;exact⟨z,λk=>absurd k a⟩
 ·exact⟨⟨default,⟨λ_ _=>0,⟨λ_=>0,λ_=>0,λt=>t,λ_=>0,λ_ _=>0,λ_=>false,λ_=>0,.refcount,.text,λ_=>0,λ_=>none,λ_=>false,λ_ _ _=>true,λ_ _ _=>true,true,λ_=>false,λ_=>none,λ_=>none,λ_ _ _=>0,λ_ _=>none,λ_=>none,λ_=>(0,false,Str.ofString ""),λ_=>none,λd=>d,λ_=>false⟩⟩,[],λ_=>none,default,⟨0,0,0,0,0,0,0,0,0,0,0,0,0,0,0,0,0⟩⟩,λ_ z=>lZ λk=>h ⟨z,k⟩⟩
@[irreducible]noncomputable def zz:Zz:=Classical.choose Zz.ex
@[irreducible]noncomputable def P:Program:=zz.P
@[irreducible]noncomputable def w:World:=zz.w
@[irreducible]noncomputable def K:W.Frag:=zz.K
@[irreducible]noncomputable def mg:Str->Option Value:=zz.mg
@[irreducible]noncomputable def base:Heap:=zz.base
@[irreducible]noncomputable def a:Ad:=zz.a
theorem zz_all(h:TX K mg a->∀f fd,Fun K "law" "law" s_law f fd->FnOk P w K mg base CX0 20 f fd ["_law_script"] (spLaw K)):∀z,ZzB z:=by
 unfold K mg a P w base zz at h;exact Classical.choose_spec Zz.ex h
section
theorem sc_divisor:FnScope ["one","other","rest"] ["one","other"] (aI s_divisor):=by walk_at"sc"
theorem sc_in_lowest_terms:FnScope ["top","bottom","made"] ["top","bottom"] (aI hV):=by walk_at"sc"
theorem sc_total:FnScope ["some","top","bottom","shared","number","common","own","left"] ["some"] (aI s_total):=by walk_at"sc"
theorem sc_amount:FnScope ["plan","name"] ["plan","name"] (aI s_amount):=by walk_at"sc"
theorem sc_without_noughts:FnScope ["plan","kept","name","part"] ["plan"] (aI hJ):=by walk_at"sc"
theorem sc_refuse_other_names:FnScope ["net","plan","name"] ["net","plan"] (aI fX):=by walk_at"sc"
theorem sc_sums_of_own_ways:FnScope ["net","plan","result","place","way","part"] ["net","plan"] (aI gN):=by walk_at"sc"
theorem sc_sums:FnScope ["net","plan"] ["net","plan"] (aI s_sums):=by walk_at"sc"
theorem sc_worth:FnScope ["net","plan"] ["net","plan"] (aI s_worth):=by walk_at"sc"
theorem sc_together:FnScope ["one","other","added","name","part"] ["one","other"] (aI s_together):=by walk_at"sc"
theorem sc_scaled:FnScope ["plan","number","result","name","part"] ["plan","number"] (aI s_scaled):=by walk_at"sc"
theorem sc_ring_along:FnScope ["pointers","place","seen","ring"] ["pointers","place"] (aI kx):=by walk_at"sc"
theorem sc_ways_of:FnScope ["net","walk","ways","name","way"] ["net","walk"] (aI s_ways_of):=by walk_at"sc"
theorem sc_places_of:FnScope ["net","walk","ways"] ["net","walk"] (aI s_places_of):=by walk_at"sc"
theorem sc_gain_of:FnScope ["net","walk","gain","way"] ["net","walk"] (aI s_gain_of):=by walk_at"sc"
theorem sc_all_unlike:FnScope ["names"] ["names"] (aI kC):=by walk_at"sc"
theorem sc_is_path:FnScope ["net","walk"] ["net","walk"] (aI s_is_path):=by walk_at"sc"
theorem sc_is_ring:FnScope ["net","walk","places"] ["net","walk"] (aI s_is_ring):=by walk_at"sc"
theorem sc_sent:FnScope ["net","walk","amount","parts","going","way","plan","name","some"] ["net","walk","amount"] (aI s_sent):=by walk_at"sc"
theorem sc_is_walk:FnScope ["net","names"] ["net","names"] (aI s_is_walk):=by walk_at"sc"
theorem sc_growth:FnScope ["net","walk"] ["net","walk"] (aI s_growth):=by walk_at"sc"
theorem sc_is_ring_with:FnScope ["net","walk","wanted"] ["net","walk","wanted"] (aI ji):=by walk_at"sc"
theorem sc_is_round:FnScope ["net","head","path","tail"] ["net","head","path","tail"] (aI s_is_round):=by walk_at"sc"
theorem sc_parts_meet:FnScope ["net","parts","met","ahead","behind"] ["net","parts"] (aI ky):=by walk_at"sc"
theorem sc_is_road:FnScope ["net","head","path","tail"] ["net","head","path","tail"] (aI s_is_road):=by walk_at"sc"
theorem sc_is_strand:FnScope ["net","strand","head","path","tail","names"] ["net","strand"] (aI s_is_strand):=by walk_at"sc"
theorem sc_head_plan:FnScope ["net","head","amount","more"] ["net","head","amount"] (aI s_head_plan):=by walk_at"sc"
theorem sc_tail_plan:FnScope ["net","tail","amount","less"] ["net","tail","amount"] (aI s_tail_plan):=by walk_at"sc"
theorem sc_road_plan:FnScope ["net","head","path","tail","amount","plan","left"] ["net","head","path","tail","amount"] (aI s_road_plan):=by walk_at"sc"
theorem sc_strand_plan:FnScope ["net","strand","head","path","tail"] ["net","strand"] (aI jN):=by walk_at"sc"
theorem sc_refuse_unfit:FnScope ["net","plan","name","part"] ["net","plan"] (aI jh):=by walk_at"sc"
theorem sc_least:FnScope ["numbers","found","number"] ["numbers"] (aI s_least):=by walk_at"sc"
theorem sc_by_start:FnScope ["ways","found","way"] ["ways"] (aI s_by_start):=by walk_at"sc"
theorem sc_ring_in:FnScope ["net","plan","ways","onward","kept"] ["net","plan"] (aI s_ring_in):=by walk_at"sc"
theorem sc_most_along:FnScope ["plan","unit"] ["plan","unit"] (aI kz):=by walk_at"sc"
theorem sc_less:FnScope ["plan","unit","amount"] ["plan","unit","amount"] (aI s_less):=by walk_at"sc"
theorem sc_taken_apart:FnScope ["net","plan","taking","ring","source"] ["net","plan"] (aI jM):=by walk_at"sc"
theorem sc_wants_by_name:FnScope ["places","wants","name","want"] ["places"] (aI iZ):=by walk_at"sc"
theorem sc_check_way:FnScope ["way","ahead","wants","place"] ["way","ahead","wants"] (aI s_check_way):=by walk_at"sc"
theorem sc_ways_by_name:FnScope ["ways","wants","ahead","way"] ["ways","wants"] (aI jg):=by walk_at"sc"
theorem sc_law_cell_at:FnScope ["_law_script","_law_k"] ["_law_script","_law_k"] (aI jR):=by walk_at"sc"
theorem sc_law_names:FnScope ["_law_cell","_law_count","_law_signs","_law_fill","_law_at"] ["_law_cell","_law_count"] (aI s_law_names):=by walk_at"sc"
theorem sc_law_gain:FnScope ["_law_cell"] ["_law_cell"] (aI s_law_gain):=by walk_at"sc"
theorem sc_law_factor:FnScope ["_law_cell","_law_equal"] ["_law_cell","_law_equal"] (aI kB):=by walk_at"sc"
theorem sc_law_way:FnScope ["_law_name","_law_parts","_law_high","_law_cost_here","_law_gain_here"] ["_law_name","_law_parts","_law_high","_law_cost_here"] (aI s_law_way):=by walk_at"sc"
theorem sc_law_cost:FnScope ["_law_name","_law_ways_here","_law_cell"] ["_law_name","_law_ways_here","_law_cell"] (aI s_law_cost):=by walk_at"sc"
theorem sc_law_net:FnScope ["_law_spots","_law_ways_here","_law_cell","_law_made","_law_name","_law_high"] ["_law_spots","_law_ways_here","_law_cell"] (aI s_law_net):=by walk_at"sc"
theorem sc_law_plus:FnScope ["_law_one","_law_other"] ["_law_one","_law_other"] (aI s_law_plus):=by walk_at"sc"
theorem sc_law_times:FnScope ["_law_one","_law_other"] ["_law_one","_law_other"] (aI s_law_times):=by walk_at"sc"
theorem sc_law_ways:FnScope ["_law_script","_law_spots","_law_labels","_law_count","_law_ways_here","_law_k","_law_goal","_law_cell"] ["_law_script","_law_spots","_law_labels"] (aI s_law_ways):=by walk_at"sc"
theorem sc_law_free_ways:FnScope ["_law_script","_law_spots","_law_labels","_law_count","_law_ways_here","_law_k","_law_cell","_law_start","_law_goal"] ["_law_script","_law_spots","_law_labels"] (aI i3):=by walk_at"sc"
theorem sc_law_ring:FnScope ["_law_ways_here","_law_around","_law_begin","_law_size","_law_name","_law_gain_here","_law_kind","_law_names_here","_law_product_here","_law_label"] ["_law_ways_here","_law_around","_law_begin","_law_size","_law_name","_law_gain_here","_law_kind"] (aI s_law_ring):=by walk_at"sc"
theorem sc_law_strand:FnScope ["_law_ways_here","_law_labels","_law_count","_law_which","_law_cells","_law_kind","_law_start","_law_size","_law_ahead","_law_behind","_law_more","_law_less","_law_many","_law_head","_law_last","_law_tail","_law_path"] ["_law_ways_here","_law_labels","_law_count","_law_which","_law_cells"] (aI kA):=by walk_at"sc"
theorem sc_law_strands:FnScope ["_law_script","_law_ways_here","_law_labels","_law_count","_law_many","_law_strands_here","_law_k","_law_cells"] ["_law_script","_law_ways_here","_law_labels","_law_count","_law_many"] (aI jO):=by walk_at"sc"
theorem sc_law_product:FnScope ["_law_ways_here","_law_walk","_law_gain_here","_law_name"] ["_law_ways_here","_law_walk"] (aI jP):=by walk_at"sc"
theorem sc_law_send:FnScope ["_law_due_here","_law_ways_here","_law_walk","_law_put","_law_name"] ["_law_due_here","_law_ways_here","_law_walk","_law_put"] (aI s_law_send):=by walk_at"sc"
theorem sc_law_planned:FnScope ["_law_due_here","_law_ways_here","_law_strand_here","_law_put","_law_gain_here","_law_out"] ["_law_due_here","_law_ways_here","_law_strand_here"] (aI jQ):=by walk_at"sc"
theorem sc_law_due:FnScope ["_law_script","_law_ways_here","_law_strands_here","_law_due_here","_law_strand_here","_law_labels","_law_k","_law_cell"] ["_law_script","_law_ways_here","_law_strands_here"] (aI s_law_due):=by walk_at"sc"
theorem sc_law_brought:FnScope ["_law_spots","_law_ways_here","_law_due_here","_law_at_spots","_law_spot","_law_name","_law_way_here","_law_put"] ["_law_spots","_law_ways_here","_law_due_here"] (aI jS):=by walk_at"sc"
theorem sc_law_whole:FnScope ["_law_found"] ["_law_found"] (aI s_law_whole):=by walk_at"sc"
theorem sc_law_told:FnScope ["_law_found"] ["_law_found"] (aI s_law_told):=by walk_at"sc"
theorem sc_law_as_plan:FnScope ["_law_due_here","_law_plan","_law_name"] ["_law_due_here"] (aI jT):=by walk_at"sc"
theorem sc_law_same:FnScope ["_law_one","_law_other"] ["_law_one","_law_other"] (aI s_law_same):=by walk_at"sc"
theorem sc_law_above:FnScope ["_law_pair"] ["_law_pair"] (aI s_law_above):=by walk_at"sc"
theorem sc_law_ends_right:FnScope ["_law_spots","_law_ways_here","_law_due_here","_law_found","_law_begins","_law_ends","_law_strand_here","_law_put","_law_walk","_law_gain_here","_law_at","_law_at_spots","_law_spot","_law_over"] ["_law_spots","_law_ways_here","_law_due_here","_law_found"] (aI ix):=by walk_at"sc"
theorem sc_law_costs_right:FnScope ["_law_net_here","_law_ways_here","_law_due_here","_law_cell","_law_found","_law_told_here","_law_strand_here","_law_whole_here","_law_name"] ["_law_net_here","_law_ways_here","_law_due_here","_law_cell","_law_found"] (aI hU):=by walk_at"sc"
theorem sc_law:FnScope ["_law_script","_law_cell","_law_spots","_law_labels","_law_ways_here","_law_strands_here","_law_net_here","_law_due_here","_law_plan","_law_k","_law_found"] ["_law_script"] (aI s_law):=by walk_at"sc"
theorem sc_Fraction_init:FnScope ["self","top","bottom","common"] ["self","top","bottom"] (aI i7):=by walk_at"sc"
theorem sc_Fraction_plus:FnScope ["self","other","common","own","top","left"] ["self","other"] (aI i5):=by walk_at"sc"
theorem kr:FnScope ["self","other"] ["self","other"] (aI iC):=by walk_at"sc"
theorem sc_Fraction_times:FnScope ["self","other","first","second","top"] ["self","other"] (aI iB):=by walk_at"sc"
theorem sc_Fraction_over:FnScope ["self","other"] ["self","other"] (aI i6):=by walk_at"sc"
theorem kq:FnScope ["self","other"] ["self","other"] (aI iA):=by walk_at"sc"
theorem sc_Fraction_sign:FnScope ["self"] ["self"] (aI i4):=by walk_at"sc"
theorem sc_End_init:FnScope ["self","place","ring","rest"] ["self","place","ring","rest"] (aI s_End_init):=by walk_at"sc"
theorem sc_Taking_init:FnScope ["self","net","plan","place","come"] ["self","net","plan"] (aI jU):=by walk_at"sc"
theorem km:FnScope ["self","place","ring","come"] ["self","place","ring","come"] (aI iz):=by walk_at"sc"
theorem sc_Taking_take_ring:FnScope ["self","ring","unit","amount","eaten"] ["self","ring"] (aI gP):=by walk_at"sc"
theorem sc_Taking_sink_at:FnScope ["self","place","end"] ["self","place"] (aI iy):=by walk_at"sc"
theorem sc_Taking_take_road:FnScope ["self","source","onward","path","place"] ["self","source"] (aI gO):=by walk_at"sc"
theorem sc_Taking_take_path:FnScope ["self","source","path","sink","unit","gain","amount"] ["self","source","path","sink"] (aI gQ):=by walk_at"sc"
theorem sc_Way_init:FnScope ["self","name","start","goal","high","cost"] ["self","name","start","goal","high","cost"] (aI iM):=by walk_at"sc"
theorem sc_Way_gain:FnScope ["self"] ["self"] (aI s_Way_gain):=by walk_at"sc"
theorem iL:FnScope ["self","amount"] ["self","amount"] (aI gI):=by walk_at"sc"
theorem sc_Growing_init:FnScope ["self","name","start","goal","rate","high","cost"] ["self","name","start","goal","rate","high","cost"] (aI gS):=by walk_at"sc"
theorem sc_Growing_gain:FnScope ["self"] ["self"] (aI jk):=by walk_at"sc"
theorem sc_Leaking_init:FnScope ["self","name","start","goal","loss","high","cost"] ["self","name","start","goal","loss","high","cost"] (aI gR):=by walk_at"sc"
theorem iY:FnScope ["self"] ["self"] (aI fu):=by walk_at"sc"
theorem sc_Net_init:FnScope ["self","places","ways"] ["self","places","ways"] (aI s_Net_init):=by walk_at"sc"
theorem sc_Net_names:FnScope ["self"] ["self"] (aI s_Net_names):=by walk_at"sc"
theorem sc_Net_way:FnScope ["self","name"] ["self","name"] (aI s_Net_way):=by walk_at"sc"
theorem sc_Net_all_ways:FnScope ["self"] ["self"] (aI jj):=by walk_at"sc"
end
end G
local macro_rules | `(tactic| walk_at "q") => `(tactic| try dsimp only [L2.cxOf, L2.Cx.nox, L2.Cx.wish])
open PySem L2 in
local macro_rules | `(tactic| walk_at "kit") => `(tactic| first | exact G.TX.k_Fraction_Fraction (by assumption) | exact G.TX.k_Way_Store (by assumption) | exact G.TX.k_Growing_Store (by assumption) | exact G.TX.k_Leaking_Store (by assumption) | exact G.TX.k_int_bool (by assumption) | exact G.TX.k_int_int (by assumption))
open PySem L2 in
local macro_rules | `(tactic| walk_at "sm") => `(tactic| first | assumption | (refine And.left (?_ : G.SmR _); assumption) | (refine And.right (?_ : G.SmR _); assumption))
open PySem L2 in
local macro_rules | `(tactic| walk_at "fa") => `(tactic| first | rfl | assumption | exact True.intro | exact (fun _ h => h) | ((with_reducible show L2.TyOf _ _ _ _); first | exact TyOf.int _ | exact TyOf.str _ | exact TyOf.bl _ | exact TyOf.non | exact G.FrAt.ty (G.TX.fr (by assumption)) (by walk_at "fa")) | ((with_reducible show PySem.W.kitOne _ _ _ = _); walk_at "kit") | ((with_reducible show G.FrAt _ _ _ _); apply G.FrAt.up; assumption; walk_at "fa") | ((with_reducible show L2.SqL _ _ _ _); apply Same.seq; assumption; walk_at "fa") | (show (0 : Int) < _; decide) | (refine (And.intro ?_ ?_ : CDiv _ _) <;> decide) | (refine (And.intro ?_ (And.intro ?_ ?_) : CPow _ _) <;> decide) | exact (PySem.IntMulOk.of_right (by decide)) | exact (PySem.IntMulOk.of_left (by decide)) | (refine (And.intro ?_ ?_ : CMulB _ _) <;> walk_at "sm"))
open PySem L2 in
local macro_rules | `(tactic| walk_at "rd") => `(tactic| repeat (first | refine L2.ItVar.mk _ (by walk_at "fa") ?_ | refine L2.ItB.mk _ (by walk_at "fa") ?_ | refine L2.ItTest.mk _ (by walk_at "fa") ?_ | refine L2.IrU.mk _ (by walk_at "fa") ?_ | refine L2.IrI0.mk _ _ (by walk_at "fa") (by walk_at "fa") ?_ | refine L2.IrIxL.mk _ _ _ _ (by walk_at "fa") (by walk_at "fa") (by walk_at "fa") (by walk_at "fa") ?_ | refine L2.IrIxT.mk _ _ _ _ (by walk_at "fa") (by walk_at "fa") (by walk_at "fa") (by walk_at "fa") ?_ | refine L2.ItFld.mk _ _ _ _ _ (by walk_at "fa") (by walk_at "fa") (by walk_at "fa") (by walk_at "fa") (by walk_at "fa") ?_ | apply @Exists.intro V | apply @Exists.intro Int | apply @Exists.intro Addr | apply @Exists.intro Rat | apply @Exists.intro Bool | apply @Exists.intro Value | apply @Exists.intro (List V) | apply @Exists.intro (List (Str × V)) | apply @Exists.intro Str | apply @Exists.intro (List Int) | refine And.intro (by walk_at "fa") ?_ | refine L2.iteT ?_ | refine L2.iteF ?_))
namespace G
open PySem L2
section
theorem TX.fr(T:TX K mg a):FrC K a.Fraction:=⟨T.cl_Fraction,T.na_Fraction_top,T.na_Fraction_bottom,T.c1_Fraction,T.c2,T.c3,T.c4_Fraction⟩
theorem gcd_turn{a b n m:Int}(h:gcd n m=gcd a b)(hm:0<=m)(p:m≠0):0<=n%m/\n%m<m/\gcd m (n%m)=gcd a b:=
 ⟨Int.emod_nonneg n p,Int.emod_lt_of_pos n (by lia),by rw[gcd_step n m (by lia),h]⟩
theorem eD(T:TX K mg a):FnB P w K mg base CX0 "divisor" 1 ["one","other"] spDiv:=by
 refine T.d_divisor.okA sc_divisor (λf B A j s H I Q E N h=>?_) (λI H Q E h=>?_)
 rotate_left
 ·obtain⟨a,b,rfl,_⟩:=h;rfl
 ·obtain⟨a,b,rfl,k⟩:=h
  refine⟨_,(aD (aH (i:=0) sc_divisor.nd (bV call_abs (by rfl) T.z_abs PyProof.Rows.boot_abs (aA (pv 0) aB)))
   (aD (aH (i:=1) sc_divisor.nd (bV call_abs (by rfl) T.z_abs PyProof.Rows.boot_abs (aA (pv 1) aB)))
   (aD (iE lH (aS op_ne (pv 1) aC) (aD (aH (i:=2) sc_divisor.nd (aM bE (pv 0) (pv 1)))
   (aD (aH (i:=0) sc_divisor.nd (pv 1))
   (aF (aH (i:=1) sc_divisor.nd (pv 2))))))
   (aF (aP (pv 0)))))),?_⟩
  walk_at"q"
  refine⟨_,rfl,_,rfl,_,rfl,_,rfl,?_⟩;refine while_by (λσ o=>yE3 λ(n m:Int)(r:Option V)=>σ=[some (.int n),some (.int m),r]×' o=H×' 0<=n×' 0<=m×' gcd n m=gcd a b) (λσ _=>match σ with|[_,some (.int m),_]=>m.toNat|_=>0) ?_ ?_ ?_
  ·refine⟨_,_,_,rfl,rfl,?_,?_,gcd_abs a b⟩<;>split<;>lia
  ·rintro σ o⟨n,m,r,rfl,rfl,F,p,l⟩;refine⟨_,rfl,rfl,_,rfl,?_⟩;by_cases z:m=0
   ·subst z;refine iteNS rfl ?_;refine⟨_,rfl,?_⟩;rw[gcd_zero n F]at l;rw[l];exact k
   ·refine kP (by rw[neV z];rfl) ?_;obtain⟨g1,J,D⟩:=gcd_turn l p z;refine⟨_,rfl,_,rfl,_,_,rfl,rfl,(by lia),_,rfl,_,rfl,⟨_,_,_,rfl,rfl,p,g1,D⟩,?_⟩;show(n%m).toNat<m.toNat
    lia
  ·rintro σ o M L G⟨v,e,y,c,t,q⟩;exact⟨v,e,y,c,t,G _ _ q⟩
theorem ok_init(T:TX K mg a):∀dvs∈[[],[V.int 1]],MkB P w K mg base CX0 a.Fraction 2 ["self","top","bottom"] dvs (spInit a.Fraction):=by
 refine T.i_Fraction.okA sc_Fraction_init (λf G A o s H D Q E L h=>?_) (λD H Q E h=>?_)
 rotate_left
 ·obtain⟨p,r,n,b,rfl,_⟩:=h;rfl
 ·obtain⟨p,r,n,b,rfl,F,l,I,k⟩:=h
  refine⟨_,(aD (bJ (aS e7 (pv 2) aC) (aF cY) aV)
   (aD (aH (i:=3) sc_Fraction_init.nd (aO (eD T) L aJ (aA (pv 1) (aA (pv 2) aB))))
   (aD (bJ (aS jo (pv 2) aC) (aF (aH (i:=3) sc_Fraction_init.nd (jm gM (pv 3)))) aV)
   (aD (cT (pv 0) (aM cQ (pv 1) (pv 3)) rfl)
   (aF (cT (pv 0) (aM cQ (pv 2) (pv 3)) rfl)))))),?_⟩
  walk_at"q"
  refine⟨_,rfl,rfl,_,rfl,?_⟩;refine hE (neV l) ?_;refine⟨_,rfl,_,rfl,n,b,rfl,?_⟩;refine⟨_,rfl,_,_,rfl,rfl,_,rfl,?_⟩;obtain⟨e,m⟩:=init_spec n b l;have gp:=dX n l;have z:=Sm.gcd_r n l I
  have fin:∀c:Int,c≠0->Sm c->n.fdiv c=(Rat.divInt n b).num->b.fdiv c=((Rat.divInt n b).den:Int)->
    tSeq (sFld K (tVar 0) (tOp (rI CDivB λi j=>.int (i.fdiv j)) (tVar 1) (tVar 3)) "top") (sFld K (tVar 0) (tOp (rI CDivB λi j=>.int (i.fdiv j)) (tVar 2) (tVar 3)) "bottom") {nx:=λ_ M=>Q .non M,rt:=Q} [some (.ref p),some (.int n),some (.int b),some (.int c)] H:=by
   intro c y t B J;refine⟨_,rfl,_,rfl,_,_,rfl,rfl,⟨y,t⟩,_,rfl,p,a.Fraction,r,_,rfl,F,T.cl_Fraction,T.na_Fraction_top,(by decide),?_⟩;refine⟨_,rfl,_,rfl,_,_,rfl,rfl,⟨y,t⟩,_,rfl,p,a.Fraction,r,_,rfl,aE,T.cl_Fraction,T.na_Fraction_bottom,(by show 1<1000;decide),?_⟩;refine k _ ?_;rw[jz];dsimp only;rw[B,J,ff_new]
  refine ifB (λq=>?_) (λq=>?_)
  ·rw[if_pos q]at e m;refine⟨_,rfl,_,rfl,?_⟩;exact fin _ (by lia) (z.le (by lia)) e m
  ·rw[if_neg q]at e m;exact fin _ (by lia) z e m
theorem sm1:Sm 1:=Nat.one_lt_two_pow (by decide)
theorem mk2(T:TX K mg a):MkB P w K mg base CX0 a.Fraction 2 ["self","top","bottom"] [] (spInit a.Fraction):=ok_init T _ (by simp)
theorem mk1(T:TX K mg a):MkB P w K mg base CX0 a.Fraction 2 ["self","top","bottom"] [.int 1] (spInit a.Fraction):=ok_init T _ (by simp)
theorem cN(T:TX K mg a):FnB P w K mg base CX0 "in_lowest_terms" 4 ["top","bottom"] (spLow a.Fraction):=by
 refine T.d_in_lowest_terms.okA sc_in_lowest_terms (λf q A j s H m Q E y h=>?_) (λm H Q E h=>?_)
 rotate_left
 ·obtain⟨t,b,rfl,_⟩:=h;rfl
 ·obtain⟨t,b,rfl,k⟩:=h
  refine⟨_,(aD (aH (i:=2) sc_in_lowest_terms.nd (cJ (mk1 T) y T.mg_Fraction aJ (aA aC aB)))
   (aD (cT (pv 2) (pv 0) rfl)
   (aD (cT (pv 2) (pv 1) rfl)
   (aF (aP (pv 2)))))),?_⟩
  walk_at"q"
  refine⟨0,1,rfl,by decide,sm1,λx z nx p zW=>?_⟩;obtain⟨l,r⟩:=zW;refine⟨_,rfl,_,rfl,x,a.Fraction,l,_,rfl,r,T.cl_Fraction,T.na_Fraction_top,(by show 2<1000;decide),?_⟩;refine⟨_,rfl,_,rfl,x,a.Fraction,l,_,rfl,aE,T.cl_Fraction,T.na_Fraction_bottom,(by show 2<1000;decide),?_⟩;refine⟨_,rfl,?_⟩;refine k x l _ nx (λc o e=>?_) ?_
  ·rw[aG (aN e nx),aG (aN e nx)];exact p _ _ e
  ·rw[aE,ff_put]
noncomputable abbrev always:Rat->Rat->Prop:=λ_ _=>True
theorem ok_plus(T:TX K mg a):MtB P w K mg base CX0 a.Fraction "plus" 5 ["self","other"] (spR2 a.Fraction (λx y=>x+y) always):=by
 refine T.m_Fraction_plus.okA sc_Fraction_plus (λf O A l s H U Q E z h=>?_) (λU H Q E h=>?_)
 rotate_left
 ·obtain⟨p,q,x,y,rfl,_⟩:=h;rfl
 ·obtain⟨p,q,x,y,rfl,o,c,L,e,_,k⟩:=h
  refine⟨_,(aD (aH (i:=2) sc_Fraction_plus.nd (aO (eD T) z aJ (aA (dZ T.fr (pv 0)) (aA (dZ T.fr (pv 1)) aB))))
   (aD (aH (i:=3) sc_Fraction_plus.nd (aM cQ (dZ T.fr (pv 0)) (pv 2)))
   (aD (aH (i:=4) sc_Fraction_plus.nd (aM bQ (aM cR (dY T.fr (pv 0)) (aM cQ (dZ T.fr (pv 1)) (pv 2))) (aM cR (dY T.fr (pv 1)) (pv 3))))
   (aD (aH (i:=5) sc_Fraction_plus.nd (aO (eD T) z aJ (aA (pv 4) (aA (pv 2) aB))))
   (aF (aP (aO (cN T) z aJ (aA (aM cQ (pv 4) (pv 5)) (aA (aM cR (pv 3) (aM cQ (dZ T.fr (pv 1)) (pv 5))) aB))))))))),?_⟩
  walk_at"q"
  have X:=iX x;have M:=iX y;have gp:=dX (x.den:Int) M;have m:=Sm.gcd_r (x.den:Int) M e.2;have gn:gcd x.den y.den≠0:=by lia
  have F :=L.2.le (fT _ gp (by lia));have B :=e.2.le (fT _ gp (by lia));refine⟨_,rfl,p,x,rfl,o,_,rfl,q,y,rfl,c,_,_,rfl,?_⟩;refine⟨_,rfl,p,x,rfl,o,_,rfl,_,_,rfl,rfl,⟨by lia,m⟩,?_⟩;refine⟨_,rfl,p,x,rfl,o,_,rfl,q,y,rfl,c,_,rfl,_,_,rfl,rfl,⟨by lia,m⟩,_,_,rfl,rfl,⟨L.1,B⟩,_,rfl,q,y,rfl,c,_,rfl,_,_,rfl,rfl,⟨e.1,F⟩,_,_,rfl,rfl,?_⟩;refine⟨_,rfl,_,rfl,_,_,rfl,?_⟩;generalize b:x.num*(y.den:Int).fdiv (gcd x.den y.den)+y.num*(x.den:Int).fdiv (gcd x.den y.den)=top;have R:=dX top gn;have G:=Sm.gcd_r top gn m;refine⟨_,rfl,_,rfl,_,_,rfl,rfl,⟨by lia,G⟩,_,rfl,_,rfl,q,y,rfl,c,_,rfl,_,_,rfl,rfl,⟨by lia,G⟩,_,_,rfl,rfl,⟨F,e.2.le (fT _ R (by lia))⟩,_,_,rfl,?_⟩;intro r J I S N D;obtain⟨j,t⟩:=add_spec x y;try dsimp only at j t
  rw[b]at j t;refine k r I S N ⟨J,?_⟩;try rw[b]at D
  rw[D,<-j,<-t]
theorem eR(T:TX K mg a):MtB P w K mg base CX0 a.Fraction "minus" 6 ["self","other"] (spR2 a.Fraction (λx y=>x-y) always):=by
 refine T.m_Fraction_minus.okA kr (λf D A b s H z Q E o h=>?_) (λz H Q E h=>?_)
 rotate_left
 ·obtain⟨p,q,x,y,rfl,_⟩:=h;rfl
 ·obtain⟨p,q,x,y,rfl,l,j,M,m,_,k⟩:=h;refine⟨_,(aF (aP (cM T.fr (pv 0) (ok_plus T) o aJ (aA (aO (cN T) o aJ (aA (jm gM (dY T.fr (pv 1))) (aA (dZ T.fr (pv 1)) aB))) aB)))),?_⟩;walk_at"q"
  refine⟨_,rfl,p,x,rfl,l,_,rfl,q,y,rfl,j,_,rfl,_,rfl,q,y,rfl,j,_,_,rfl,λr L I N c G=>?_⟩;have B:FrAt a.Fraction I r (-y):=⟨L,G⟩;refine⟨p,r,x,-y,rfl,l.mono c,B,M,⟨by show Sm (-y.num);exact m.1.le (by omega),m.2⟩,trivial,λt i e F J=>?_⟩;refine k t i (c.free e) (c.trans F) ?_;show FrAt a.Fraction i t (x-y);rw[Rat.sub_eq_add_neg];exact J
theorem gf(T:TX K mg a):MtB P w K mg base CX0 a.Fraction "times" 5 ["self","other"] (spR2 a.Fraction (λx y=>x*y) always):=by
 refine T.m_Fraction_times.okA sc_Fraction_times (λf M A j s H U Q E m h=>?_) (λU H Q E h=>?_)
 rotate_left
 ·obtain⟨p,q,x,y,rfl,_⟩:=h;rfl
 ·obtain⟨p,q,x,y,rfl,e,c,o,l,_,k⟩:=h
  refine⟨_,(aD (aH (i:=2) sc_Fraction_times.nd (aO (eD T) m aJ (aA (dY T.fr (pv 0)) (aA (dZ T.fr (pv 1)) aB))))
   (aD (aH (i:=3) sc_Fraction_times.nd (aO (eD T) m aJ (aA (dY T.fr (pv 1)) (aA (dZ T.fr (pv 0)) aB))))
   (aD (aH (i:=4) sc_Fraction_times.nd (aM cR (aM cQ (dY T.fr (pv 0)) (pv 2)) (aM cQ (dY T.fr (pv 1)) (pv 3))))
   (aF (aP (aO (cN T) m aJ (aA (pv 4) (aA (aM cR (aM cQ (dZ T.fr (pv 0)) (pv 3)) (aM cQ (dZ T.fr (pv 1)) (pv 2))) aB)))))))),?_⟩
  walk_at"q"
  have z:=iX x;have I:=iX y;have t:=dX x.num I;have D:=dX y.num z;have b:=Sm.gcd_r x.num I l.2;have B:=Sm.gcd_r y.num z o.2;have R :=o.1.le (fdiv_le' _ t (gcd_dvd_l _ _));have L :=l.1.le (fdiv_le' _ D (gcd_dvd_l _ _));have N :=o.2.le (fT _ D (by lia));have O :=l.2.le (fT _ t (by lia));refine⟨_,rfl,p,x,rfl,e,_,rfl,q,y,rfl,c,_,_,rfl,?_⟩;refine⟨_,rfl,q,y,rfl,c,_,rfl,p,x,rfl,e,_,_,rfl,?_⟩;refine⟨_,rfl,p,x,rfl,e,_,rfl,_,_,rfl,rfl,⟨by lia,b⟩,_,rfl,q,y,rfl,c,_,rfl,_,_,rfl,rfl,⟨by lia,B⟩,_,_,rfl,rfl,⟨R,L⟩,?_⟩;refine⟨_,rfl,_,rfl,p,x,rfl,e,_,rfl,_,_,rfl,rfl,⟨by lia,B⟩,_,rfl,q,y,rfl,c,_,rfl,_,_,rfl,rfl,⟨by lia,b⟩,_,_,rfl,rfl,⟨N,O⟩,_,_,rfl,?_⟩;intro r G F S b X;obtain⟨J,Y⟩:=mul_spec x y;refine k r F S b ⟨G,?_⟩;rw[X,<-J,<-Y]
end
end G
namespace G
open PySem L2
section
noncomputable def spB2(C:Addr)(f:Rat->Rat->Bool):Sp:=λvs H Q _=>∃(p q:Addr)(x y:Rat),vs=[.ref p,.ref q]/\FrAt C H p x/\FrAt C H q y/\SmR x/\SmR y/\Q (.bl (f x y)) H
theorem ok_under(T:TX K mg a):MtB P w K mg base CX0 a.Fraction "under" 1 ["self","other"] (spB2 a.Fraction λx y=>decide (x<y)):=by
 refine T.m_Fraction_under.okA kq (λf e A b s H c Q E m h=>?_) (λc H Q E h=>?_)
 rotate_left
 ·obtain⟨p,q,x,y,rfl,_⟩:=h;rfl
 ·obtain⟨p,q,x,y,rfl,j,i,o,l,k⟩:=h;refine⟨_,(aF (aP (eQ jo (aM cR (dY T.fr (pv 0)) (dZ T.fr (pv 1))) (aM cR (dY T.fr (pv 1)) (dZ T.fr (pv 0)))))),?_⟩;walk_at"q"
  walk_at"rd"
  rw[decide_eq_decide.mpr (Rat.lt_iff x y).symm];exact k
noncomputable def sgn(x:Rat):Int:=if 0<x.num then 1 else if x.num<0 then-1 else 0
theorem eU(T:TX K mg a):MtB P w K mg base CX0 a.Fraction "sign" 1 ["self"] (λvs H Q _=>∃(p:Addr)(x:Rat),vs=[.ref p]/\FrAt a.Fraction H p x/\Q (.int (sgn x)) H):=by
 refine T.m_Fraction_sign.okA sc_Fraction_sign (λf i A c s H vs Q E l h=>?_) (λvs H Q E h=>?_)
 rotate_left
 ·obtain⟨p,x,rfl,_⟩:=h;rfl
 ·obtain⟨p,x,rfl,j,k⟩:=h
  refine⟨_,(aD (bJ (aS op_gt (dY T.fr (pv 0)) aC) (aF (aP aC)) aV)
   (aD (bJ (aS jo (dY T.fr (pv 0)) aC) (aF (aP (jm gM aC))) aV)
   (aF (aP aC)))),?_⟩
  walk_at"q"
  walk_at"rd"
  refine ifB (λb=>?_) (λb=>?_)
  ·rw[show sgn x=1 from if_pos b]at k;exact k
  ·walk_at"rd"
   refine ifB (λe=>?_) (λe=>?_)
   ·rw[show sgn x=-1 from(if_neg b).trans (if_pos e)]at k;walk_at"rd"
    exact k
   ·rw[show sgn x=0 from(if_neg b).trans (if_neg e)]at k;exact k
end
end G
namespace G
open PySem L2
section
structure WayC(K:W.Frag)(C:Addr):Prop where
 cl:Cls K C
 n1:NoAttr K C "name"
 n2:NoAttr K C "start"
 n3:NoAttr K C "goal"
 n4:NoAttr K C "high"
 n5:NoAttr K C "cost"
theorem TX.wW(T:TX K mg a):WayC K a.Way:=⟨T.cl_Way,T.na_Way_name,T.na_Way_start,T.na_Way_goal,T.na_Way_high,T.na_Way_cost⟩
theorem TX.wG(T:TX K mg a):WayC K a.Growing:=⟨T.cl_Growing,T.na_Growing_name,T.na_Growing_start,T.na_Growing_goal,T.na_Growing_high,T.na_Growing_cost⟩
theorem TX.wL(T:TX K mg a):WayC K a.Leaking:=⟨T.cl_Leaking,T.na_Leaking_name,T.na_Leaking_start,T.na_Leaking_goal,T.na_Leaking_high,T.na_Leaking_cost⟩
theorem TX.wS(T:TX K mg a):WayC K a.Store:=⟨T.cl_Store,T.na_Store_name,T.na_Store_start,T.na_Store_goal,T.na_Store_high,T.na_Store_cost⟩
structure W5(fs:List (Str×V))(n s g:Str)(vh vc:V):Prop where
 nm:fs.lookup ("name":Str)=some (.str n)
 st:fs.lookup ("start":Str)=some (.str s)
 go:fs.lookup ("goal":Str)=some (.str g)
 hi:fs.lookup ("high":Str)=some vh
 co:fs.lookup ("cost":Str)=some vc
 ga:fs.lookup ("gain":Str)=none
 ou:fs.lookup ("out":Str)=none
 len:fs.length<=10
theorem W5.new:W5 (cH "cost" vc (cH "high" vh (cH "goal" (.str g) (cH "start" (.str s) (cH "name" (.str n) []))))) n s g vh vc:=by
 refine⟨?_,?_,?_,?_,?_,?_,?_,?_⟩
 iterate 7
  simp only[fe]
  (repeat rw[if_neg (by decide+kernel)])
  try rw[if_pos rfl]
  try rfl
 ·have h:=dD "cost" vc (cH "high" vh (cH "goal" (.str g) (cH "start" (.str s) (cH "name" (.str n) []))));have e:=dD "high" vh (cH "goal" (.str g) (cH "start" (.str s) (cH "name" (.str n) [])));have b:=dD "goal" (.str g) (cH "start" (.str s) (cH "name" (.str n) []));have c:=dD "start" (.str s) (cH "name" (.str n) []);have a:=dD "name" (.str n) [];simp only[List.length_nil]at a
  lia
theorem W5.put(h:W5 fs n s g vh vc)(hf:f∈(["rate","loss"]:List Str))(hl:fs.length<=5):W5 (cH f v fs) n s g vh vc:=by
 have e:∀x∈(["name","start","goal","high","cost","gain","out"]:List Str),x≠f:=by
  intro x a z;subst z
  revert a hf
  simp only[lN,lR,or_false];rintro(rfl|rfl|rfl|rfl|rfl|rfl|rfl)(h|h)<;>exact absurd h (by decide+kernel)
 have l:=dD f v fs;refine⟨?_,?_,?_,?_,?_,?_,?_,by lia⟩<;>rw[fe,if_neg (e _ (by simp))]
 ·exact h.nm
 ·exact h.st
 ·exact h.go
 ·exact h.hi
 ·exact h.co
 ·exact h.ga
 ·exact h.ou
theorem cL(h:fs.length<=m):(cH f v fs).length<=m+1:=lC (dD f v fs) (Nat.succ_le_succ h)
theorem sgn_nn(h:0<=x.num):¬sgn x<0:=by
 unfold sgn
 repeat' split
 all_goals lia
theorem sgn_p(h:0<x.num):¬sgn x<=0:=by
 unfold sgn;rw[if_pos h];decide
noncomputable def HiOk(C:Addr)(H:Hp)(v:V):Prop:=v=.non∨∃(q:Addr)(x:Rat),v=.ref q/\FrAt C H q x/\0<=x.num
theorem HiOk.mono(h:HiOk C H v)(s:Same H H'):HiOk C H' v:=h.imp id (by rintro⟨q,x,e,f,z⟩;exact⟨q,x,e,f.mono s,z⟩)
noncomputable def CoIs(C:Addr)(H:Hp)(p:Addr)(vc vc':V):Prop:=(vc≠.non/\vc'=vc)∨(vc=.non/\∃q,vc'=.ref q/\q≠p/\FrAt C H q (Rat.divInt 0 1))
theorem CoIs.upd{C p:Addr}{H:Hp}{vc vc':V}{o:HO}(h:CoIs C H p vc vc'):CoIs C (upd H p o) p vc vc':=h.imp id λ⟨e,q,b,ne,a,f⟩=>⟨e,q,b,ne,a,by rw[aG ne];exact f⟩
inductive IspWayN(K:W.Frag)(a:Ad)(vs:List V)(H:Hp)(Q:VK):Prop
 |mk(p C dx:Addr)(n s g:Str)(vh vc:V)(h1:vs=[.ref p,.str n,.str s,.str g,vh,vc])(h2:H p=some (.ins C dx []))(h3:WayC K C)(h4:s≠g)(h5:HiOk a.Fraction H vh)(h6:∀H' fs vc',W5 fs n s g vh vc'->fs.length<=5->CoIs a.Fraction H' p vc vc'->(∀b o,H b=some o->b≠p->H' b=some o)->H' p=some (.ins C dx fs)->Q .non H'):IspWayN K a vs H Q
noncomputable def spWayN(K:W.Frag)(a:Ad):Sp:=λvs H Q _=>IspWayN K a vs H Q
theorem b_Way(T:TX K mg a):BodyOk P w K mg base "Way.__init__" iM ["self","name","start","goal","high","cost"] 3 (spWayN K a):=by
 intro f M A y U H Z Q E D h;obtain⟨p,C,i,n,s,g,J,r,rfl,O,c,R,S,k⟩:=h
 refine⟨_,(aX (bJ (PW.pt (gu (aS e7 (pv 2) (pv 3)) (fv (fM (eo (pe_mtD0 (pv 0) D aJ)))))) (aF cY) aV)
   (aX (bJ (PW.pt (gu (aS op_notN (pv 4) pe_non) (fv (aS jo (eT T.fr (pv 4) (eU T) D aJ) aC)))) (aF cY) aV)
   (aD (cT (pv 0) (pv 1) rfl)
   (aD (cT (pv 0) (pv 2) rfl)
   (aD (cT (pv 0) (pv 3) rfl)
   (aD (cT (pv 0) (pv 4) rfl)
   (aF (cT (pv 0) (pe_ifExp (aS op_isN (pv 5) pe_non) (cJ (mk1 T) D T.mg_Fraction aJ (aA aC aB)) (pv 5)) rfl)))))))),?_⟩
 walk_at"q"
 refine dA (λm G=>m=[some (.ref p),some (.str n),some (.str s),some (.str g),some J,some r]/\G=H) ?_ ?_
 ·walk_at"rd"
  refine hE (lM λz=>R (V.str.inj z)) ?_;walk_at"rd"
  first|exact⟨rfl,rfl⟩|exact rfl
 rintro X F m G⟨rfl,rfl⟩;subst F;refine⟨λm l=>m=[some (.ref p),some (.str n),some (.str s),some (.str g),some J,some r]/\l=G,?_,?_⟩
 ·rcases S with rfl|⟨q,x,rfl,fq,hx⟩
  ·walk_at"rd"
   first|exact⟨rfl,rfl⟩|exact rfl
  ·walk_at"rd"
   refine hE (lM (sgn_nn hx)) ?_;first|exact⟨rfl,rfl⟩|exact rfl
 rintro m l⟨rfl,rfl⟩;refine⟨_,rfl,_,rfl,p,C,i,[],rfl,O,c.cl,c.n1,by decide,?_⟩;refine⟨_,rfl,_,rfl,p,C,i,_,rfl,aE,c.cl,c.n2,ma (cL (k5 0)) (by decide),?_⟩;refine⟨_,rfl,_,rfl,p,C,i,_,rfl,aE,c.cl,c.n3,ma (cL (cL (k5 0))) (by decide),?_⟩;refine⟨_,rfl,_,rfl,p,C,i,_,rfl,aE,c.cl,c.n4,ma (cL (cL (cL (k5 0)))) (by decide),?_⟩;simp only[jz];walk_at"rd"
 by_cases hc:r=.non
 ·refine kP (lQ hc) ?_;walk_at"rd"
  refine⟨by decide,sm1,λq Y L I B=>?_⟩;refine⟨_,rfl,p,C,i,_,rfl,I _ _ aE,c.cl,c.n5,ma (cL (cL (cL (cL (k5 0))))) (by decide),?_⟩;have j:q≠p:=λz=>by rw[z,aE]at L;cases L
  obtain⟨N,B⟩:=B;refine k _ _ (.ref q) W5.new (cL (cL (cL (cL (cL (k5 0)))))) (.inr ⟨hc,q,rfl,j,N,by rw[aG j];exact B⟩) (λb o e t=>?_) aE;rw[aG t];refine I _ _ ?_;rw[aG t];exact e
 ·refine hE (lM hc) ?_;refine⟨_,rfl,_,rfl,p,C,i,_,rfl,aE,c.cl,c.n5,ma (cL (cL (cL (cL (k5 0))))) (by decide),?_⟩;rw[jz];refine k _ _ r W5.new (cL (cL (cL (cL (cL (k5 0)))))) (.inl ⟨hc,rfl⟩) (λb o e t=>?_) aE;rw[aG t];exact e
theorem len_WayN:∀vs H Q E,spWayN K a vs H Q E->vs.length=(["self","name","start","goal","high","cost"]:List Str).length:=λvs H Q E h=>by
 obtain⟨_,_,_,_,_,_,_,_,rfl,_⟩:=h;rfl
theorem mk_WayN(T:TX K mg a):∀dvs∈[[],[V.non,V.non]],MkB P w K mg base CX0 a.Way 4 ["self","name","start","goal","high","cost"] dvs (spWayN K a):=T.i_Way.okA sc_Way_init (b_Way T) len_WayN
theorem mk_Way(T:TX K mg a):MkB P w K mg base CX0 a.Way 4 ["self","name","start","goal","high","cost"] [] (spWayN K a):=mk_WayN T _ (by simp)
theorem cf_Way(T:TX K mg a):CfB P w K mg base CX0 a.Way "__init__" 4 ["self","name","start","goal","high","cost"] (spWayN K a):=T.c_Way.okA sc_Way_init (b_Way T) len_WayN
inductive IspPartN(K:W.Frag)(a:Ad)(f:Str)(ok:Rat->Prop)(vs:List V)(H:Hp)(Q:VK):Prop
 |mk(p C dx:Addr)(n s g:Str)(vh vc:V)(q:Addr)(x:Rat)(h1:vs=[.ref p,.str n,.str s,.str g,.ref q,vh,vc])(h2:H p=some (.ins C dx []))(h3:WayC K C)(h4:NoAttr K C f)(h5:s≠g)(h6:FrAt a.Fraction H q x)(h7:ok x)(h8:HiOk a.Fraction H vh)(h9:∀H' fs vc',W5 fs n s g vh vc'->fs.lookup f=some (.ref q)->CoIs a.Fraction H' p vc vc'->(∀b o,H b=some o->b≠p->H' b=some o)->H' p=some (.ins C dx fs)->Q .non H'):IspPartN K a f ok vs H Q
noncomputable def gD(K:W.Frag)(a:Ad)(f:Str)(ok:Rat->Prop):Sp:=λvs H Q _=>IspPartN K a f ok vs H Q
theorem len_PartN:∀vs H Q E,gD K a f ok vs H Q E->vs.length=(["self","name","start","goal",z,"high","cost"]:List Str).length:=λvs H Q E h=>by
 obtain⟨_,_,_,_,_,_,_,_,_,_,rfl,_⟩:=h;rfl
noncomputable abbrev growOk:Rat->Prop:=λx=>0<x.num
noncomputable abbrev leakOk:Rat->Prop:=λx=>0<=x.num/\x<1/\SmR x
theorem b_Growing(T:TX K mg a):BodyOk P w K mg base "Growing.__init__" gS ["self","name","start","goal","rate","high","cost"] 4 (gD K a "rate" growOk):=by
 intro f B A i O H S Q E m h;obtain⟨p,C,r,n,s,g,G,I,q,x,rfl,J,c,D,L,U,F,M,k⟩:=h
 refine⟨_,(aD (bJ (aS op_le (eT T.fr (pv 4) (eU T) m aJ) aC) (aF cY) aV)
   (aD (bY (pe_cf (cf_Way T) m T.mg_Way aJ (aA (pv 0) (aA (pv 1) (aA (pv 2) (aA (pv 3) (aA (pv 5) (aA (pv 6) aB))))))))
   (aF (cT (pv 0) (pv 4) rfl)))),?_⟩
 walk_at"q"
 walk_at"rd"
 refine hE (lM (sgn_p F)) ?_;refine⟨_,rfl,_,rfl,_,rfl,_,rfl,_,rfl,_,rfl,p,C,r,n,s,g,G,I,rfl,J,c,L,M,λR fs j N l t z y=>?_⟩;refine⟨_,rfl,_,rfl,p,C,r,fs,rfl,y,c.cl,D,ma l (by decide),?_⟩;refine k _ _ j (N.put (by simp) l) ?_ t.upd (λb o e ne=>?_) aE
 ·rw[fe,if_pos rfl]
 ·rw[aG ne];exact z b o e ne
theorem mk_GrowingN(T:TX K mg a):∀dvs∈[[],[V.non,V.non]],MkB P w K mg base CX0 a.Growing 5 ["self","name","start","goal","rate","high","cost"] dvs (gD K a "rate" growOk):=T.i_Growing.okA sc_Growing_init (b_Growing T) len_PartN
theorem mk_Growing(T:TX K mg a):MkB P w K mg base CX0 a.Growing 5 ["self","name","start","goal","rate","high","cost"] [] (gD K a "rate" growOk):=mk_GrowingN T _ (by simp)
theorem b_Leaking(T:TX K mg a):BodyOk P w K mg base "Leaking.__init__" gR ["self","name","start","goal","loss","high","cost"] 4 (gD K a "loss" leakOk):=by
 intro f S A j s₀ H vs Q E i h;obtain⟨p,C,I,n,s,g,B,D,q,x,rfl,Y,c,U,Z,fq,⟨X,m,sx⟩,hh,k⟩:=h
 refine⟨_,(aX (bJ (PW.pt (pw_or (aS jo (eT T.fr (pv 4) (eU T) i aJ) aC) (pw_or1 (fM (eo (cM T.fr (pv 4) (ok_under T) i aJ (aA (cJ (mk1 T) i T.mg_Fraction aJ (aA aC aB)) aB))))))) (aF cY) aV)
   (aD (bY (pe_cf (cf_Way T) i T.mg_Way aJ (aA (pv 0) (aA (pv 1) (aA (pv 2) (aA (pv 3) (aA (pv 5) (aA (pv 6) aB))))))))
   (aF (cT (pv 0) (pv 4) rfl)))),?_⟩
 walk_at"q"
 refine dA (λF G=>F=[some (.ref p),some (.str n),some (.str s),some (.str g),some (.ref q),some B,some D]/\Same H G) ?_ ?_
 ·walk_at"rd"
  refine hE (lM (sgn_nn X)) ?_;walk_at"rd"
  refine⟨by decide,sm1,λr H1 nr R M=>?_⟩;have J:Rat.divInt 1 1=1:=rfl;rw[J]at M;have s2:SmR (1:Rat):=⟨sm1,sm1⟩;walk_at"rd"
  refine hE (by dsimp only;rw[lQ m];rfl) ?_;exact⟨rfl,R⟩
 rintro zU y F G⟨rfl,t⟩;subst y;refine⟨_,rfl,_,rfl,_,rfl,_,rfl,_,rfl,_,rfl,p,C,I,n,s,g,B,D,rfl,t _ _ Y,c,Z,hh.mono t,λH2 fs l h5 z L O N=>?_⟩;refine⟨_,rfl,_,rfl,p,C,I,fs,rfl,N,c.cl,U,ma z (by decide),?_⟩;refine k _ _ l (h5.put (by simp) z) ?_ L.upd (λb o e ne=>?_) aE
 ·rw[fe,if_pos rfl]
 ·rw[aG ne];exact O b o (t _ _ e) ne
theorem mk_LeakingN(T:TX K mg a):∀dvs∈[[],[V.non,V.non]],MkB P w K mg base CX0 a.Leaking 5 ["self","name","start","goal","loss","high","cost"] dvs (gD K a "loss" leakOk):=T.i_Leaking.okA sc_Leaking_init (b_Leaking T) len_PartN
theorem mk_Leaking(T:TX K mg a):MkB P w K mg base CX0 a.Leaking 5 ["self","name","start","goal","loss","high","cost"] [] (gD K a "loss" leakOk):=mk_LeakingN T _ (by simp)
inductive Kd where
 |way
 |gro
 |lea
 |sto
noncomputable def Kd.n:Kd->Int
 |.way=>0
 |.gro=>1
 |.lea=>2
 |.sto=>3
noncomputable def Kd.C(a:Ad):Kd->Addr
 |.way=>a.Way
 |.gro=>a.Growing
 |.lea=>a.Leaking
 |.sto=>a.Store
noncomputable def Kd.f:Kd->Str
 |.gro=>"rate"
 |_=>"loss"
noncomputable def Kd.ok:Kd->Rat->Prop
 |.way=>λ_=>True
 |.gro=>growOk
 |_=>leakOk
noncomputable def aW:Kd->Rat->Rat
 |.way=>λ_=>1
 |.gro=>λx=>x
 |_=>λx=>1-x
structure WayAt(a:Ad)(H:Hp)(p:Addr)(kd:Kd)(n s g:Str)(vh vc:V)(q:Addr)(x:Rat):Prop where
 ob:∃dx fs,H p=some (.ins (kd.C a) dx fs)/\W5 fs n s g vh vc/\(kd≠.way->fs.lookup kd.f=some (.ref q))
 fq:kd≠.way->FrAt a.Fraction H q x
noncomputable def Stays(a:Ad)(H H':Hp):Prop:=∀b C dx fs,(C=a.Fraction∨∃kd:Kd,C=kd.C a)->H b=some (.ins C dx fs)->H' b=some (.ins C dx fs)
theorem Stays.of{a:Ad}(s:Same H H'):Stays a H H':=λb C c fs _ e=>s _ _ e
theorem Stays.fr{a:Ad}(k:Stays a H H')(h:FrAt a.Fraction H q x):FrAt a.Fraction H' q x:=by
 obtain⟨dq,f⟩:=h;exact⟨dq,k _ _ _ _ (.inl rfl) f⟩
theorem WayAt.keep{a:Ad}(h:WayAt a H p kd n s g vh vc q x)(k:Stays a H H'):WayAt a H' p kd n s g vh vc q x:=
 ⟨let⟨dx,fs,e,r⟩:=h.ob;⟨dx,fs,k _ _ _ _ (.inr ⟨kd,rfl⟩) e,r⟩,λz=>k.fr (h.fq z)⟩
theorem WayAt.mono{a:Ad}(h:WayAt a H p kd n s g vh vc q x)(ss:Same H H'):WayAt a H' p kd n s g vh vc q x:=h.keep (.of ss)
theorem Stays.put{a:Ad}(hd:H d=some o)(ho:∀C dx fs,o≠.ins C dx fs):Stays a H (upd H d o'):=λb C dx fs _ e=>by rw[aG (bB e hd (ho C dx fs).symm)];exact e
theorem cS(T:TX K mg a)(kd:Kd):WayC K (kd.C a):=by
 cases kd
 ·exact T.wW
 ·exact T.wG
 ·exact T.wL
 ·exact T.wS
noncomputable def NewWay(a:Ad)(H:Hp)(Q:VK)(kd:Kd)(n s g:Str)(vh vc:V)(x:Rat):Prop:=∀p H' vc' q,H p=none->Same H H'->WayAt a H' p kd n s g vh vc' q x->CoIs a.Fraction H' p vc vc'->Q (.ref p) H'
theorem iw(h1:H x=none)(h2:H dx=none)(h:∀b o,(upd (upd H dx (.own x)) x (.ins C dx [])) b=some o->b≠x->H' b=some o):Same H H':=by
 intro b o e;have a:=aN e h1;refine h b o ?_ a;rw[aG a,aG (aN e h2)];exact e
theorem ku(h1:H x=none)(h2:H dx=none):Same H (upd (upd H dx (.own x)) x (.ins C dx [])):=by
 intro b o e;rw[aG (aN e h1),aG (aN e h2)];exact e
theorem mkW(T:TX K mg a)(sg:s≠g)(hh:HiOk a.Fraction H vh)(k:NewWay a H Q .way n s g vh vc x)(p dx:Addr)(h1:H p=none)(h2:H dx=none)(_:dx≠p):
  spWayN K a [.ref p,.str n,.str s,.str g,vh,vc] (upd (upd H dx (.own p)) p (.ins a.Way dx [])) (λv H2=>v=.non/\Q (.ref p) H2) E0:=by
 have i:=ku (C:=a.Way) h1 h2;refine⟨p,_,dx,n,s,g,vh,vc,rfl,aE,T.wW,sg,hh.mono i,λo fs b j m c h e=>⟨rfl,?_⟩⟩;have l:=iw h1 h2 h;exact k p _ b p h1 l ⟨⟨dx,fs,e,j,λz=>absurd rfl z⟩,λz=>absurd rfl z⟩ c
theorem mkG(T:TX K mg a)(sg:s≠g)(fq:FrAt a.Fraction H q x)(hx:growOk x)(hh:HiOk a.Fraction H vh)(k:NewWay a H Q .gro n s g vh vc x)(p dx:Addr)(h1:H p=none)(h2:H dx=none)(_:dx≠p):
  gD K a "rate" growOk [.ref p,.str n,.str s,.str g,.ref q,vh,vc] (upd (upd H dx (.own p)) p (.ins a.Growing dx [])) (λv H2=>v=.non/\Q (.ref p) H2) E0:=by
 have c:=ku (C:=a.Growing) h1 h2;refine⟨p,_,dx,n,s,g,vh,vc,q,x,rfl,aE,T.wG,T.na_Growing_rate,sg,fq.mono c,hx,hh.mono c,λo fs b m l h j i=>⟨rfl,?_⟩⟩;have e:=iw h1 h2 j;exact k p _ b q h1 e ⟨⟨dx,fs,i,m,λ_=>l⟩,λ_=>fq.mono e⟩ h
theorem mkL(T:TX K mg a)(sg:s≠g)(fq:FrAt a.Fraction H q x)(hx:leakOk x)(hh:HiOk a.Fraction H vh)(k:NewWay a H Q .lea n s g vh vc x)(p dx:Addr)(h1:H p=none)(h2:H dx=none)(_:dx≠p):
  gD K a "loss" leakOk [.ref p,.str n,.str s,.str g,.ref q,vh,vc] (upd (upd H dx (.own p)) p (.ins a.Leaking dx [])) (λv H2=>v=.non/\Q (.ref p) H2) E0:=by
 have c:=ku (C:=a.Leaking) h1 h2;refine⟨p,_,dx,n,s,g,vh,vc,q,x,rfl,aE,T.wL,T.na_Leaking_loss,sg,fq.mono c,hx,hh.mono c,λo fs b m l h j i=>⟨rfl,?_⟩⟩;have e:=iw h1 h2 j;exact k p _ b q h1 e ⟨⟨dx,fs,i,m,λ_=>l⟩,λ_=>fq.mono e⟩ h
inductive IspGain(a:Ad)(kd:Kd)(vs:List V)(H:Hp)(Q:VK):Prop
 |mk(p:Addr)(n s g:Str)(vh vc:V)(q:Addr)(x:Rat)(h1:vs=[.ref p])(h2:WayAt a H p kd n s g vh vc q x)(h3:SmR x)(h4:∀r H',Same H H'->FrAt a.Fraction H' r (aW kd x)->Q (.ref r) H'):IspGain a kd vs H Q
noncomputable def je(a:Ad)(kd:Kd):Sp:=λvs H Q _=>IspGain a kd vs H Q
theorem kM:∀vs H Q E,je a kd vs H Q E->vs.length=(["self"]:List Str).length:=λvs H Q E h=>by
 obtain⟨_,_,_,_,_,_,_,_,rfl,_⟩:=h;rfl
theorem gain_Way(T:TX K mg a):MtB P w K mg base CX0 a.Way "gain" 7 ["self"] (je a .way):=by
 refine T.m_Way_gain.okA sc_Way_gain (λf i A b o H m Q E l h=>?_) kM;obtain⟨p,n,s,g,t,z,q,x,rfl,W,y,k⟩:=h;refine⟨_,(aF (aP (cJ (mk1 T) l T.mg_Fraction aJ (aA aC aB)))),?_⟩;walk_at"q"
 walk_at"rd"
 exact⟨by decide,sm1,λr j _ e c=>k r j e c⟩
theorem gain_Growing(T:TX K mg a):MtB P w K mg base CX0 a.Growing "gain" 7 ["self"] (je a .gro):=by
 refine T.m_Growing_gain.okA sc_Growing_gain (λf i A b m H l Q E t h=>?_) kM;obtain⟨p,n,s,g,o,z,q,x,rfl,W,y,k⟩:=h;refine⟨_,(aF (aP (aZ (pv 0) rfl))),?_⟩;walk_at"q"
 obtain⟨j,fs,c,r,e⟩:=W.ob;exact⟨_,rfl,p,_,j,fs,_,rfl,c,T.wG.cl,T.na_Growing_rate,e (by nofun),k q H (Same.refl _) (W.fq (by nofun))⟩
theorem b_gainL(T:TX K mg a)(kd:Kd)(C:Addr)(hC:kd.C a=C)(hk:kd≠.way)(hf:kd.f="loss")(hg:∀x,aW kd x=1-x)(cl:Cls K C)(nl:NoAttr K C "loss"):BodyOk P w K mg base "Leaking.gain" fu ["self"] 6 (je a kd):=by
 intro f z A b I H O Q E l h;obtain⟨p,n,s,g,J,N,q,x,rfl,W,X,k⟩:=h;refine⟨_,(aF (aP (cM T.fr (cJ (mk1 T) l T.mg_Fraction aJ (aA aC aB)) (eR T) l aJ (aA (aZ (pv 0) rfl) aB)))),?_⟩;walk_at"q"
 obtain⟨U,fs,j,S,e⟩:=W.ob;have e:=e hk;rw[hf]at e;rw[hC]at j;walk_at"rd"
 refine⟨by decide,sm1,λr M L c y=>?_⟩;have o:Rat.divInt 1 1=1:=rfl;rw[o]at y;have R:SmR (1:Rat):=⟨sm1,sm1⟩;have D:=c _ _ j;have G:=(W.fq hk).mono c;walk_at"rd"
 intro m F t i B;refine k m F (c.trans i) ?_;rw[hg];exact B
theorem gain_Leaking(T:TX K mg a):MtB P w K mg base CX0 a.Leaking "gain" 7 ["self"] (je a .lea):=T.m_Leaking_gain.okA iY (b_gainL T .lea _ rfl (by nofun) rfl (λ_=>rfl) T.wL.cl T.na_Leaking_loss) kM
theorem gain_Store(T:TX K mg a):MtB P w K mg base CX0 a.Store "gain" 7 ["self"] (je a .sto):=T.m_Store_gain.okA iY (b_gainL T .sto _ rfl (by nofun) rfl (λ_=>rfl) T.wS.cl T.na_Store_loss) kM
theorem gain_any(T:TX K mg a)(kd:Kd):MtB P w K mg base CX0 (kd.C a) "gain" 7 ["self"] (je a kd):=by
 cases kd
 ·exact gain_Way T
 ·exact gain_Growing T
 ·exact gain_Leaking T
 ·exact gain_Store T
inductive IspOut(a:Ad)(kd:Kd)(vs:List V)(H:Hp)(Q:VK):Prop
 |mk(p r:Addr)(n s g:Str)(vh vc:V)(q:Addr)(x y:Rat)(h1:vs=[.ref p,.ref r])(h2:WayAt a H p kd n s g vh vc q x)(h3:FrAt a.Fraction H r y)(h4:SmR x)(h5:SmR y)(h6:SmR (aW kd x))(h7:∀r' H',Same H H'->FrAt a.Fraction H' r' (y*aW kd x)->Q (.ref r') H'):IspOut a kd vs H Q
noncomputable def spOut(a:Ad)(kd:Kd):Sp:=λvs H Q _=>IspOut a kd vs H Q
theorem len_Out:∀vs H Q E,spOut a kd vs H Q E->vs.length=(["self","amount"]:List Str).length:=λvs H Q E h=>by
 obtain⟨_,_,_,_,_,_,_,_,_,_,rfl,_⟩:=h;rfl
theorem b_out(T:TX K mg a)(kd:Kd):BodyOk P w K mg base "Way.out" gI ["self","amount"] 7 (spOut a kd):=by
 intro f m A b O H S Q E e h;obtain⟨p,r,n,s,g,t,z,q,x,y,rfl,W,fr,M,D,F,k⟩:=h;refine⟨_,(aF (aP (cM T.fr (pv 1) (gf T) e aJ (aA (pe_mtD0 (pv 0) e aJ) aB)))),?_⟩;walk_at"q"
 obtain⟨L,fs,j,I,N⟩:=W.ob;refine⟨_,rfl,r,y,rfl,fr,_,rfl,p,kd.C a,L,fs,7,["self"],je a kd,rfl,j,I.ga,(cS T kd).cl,by decide,gain_any T kd,p,n,s,g,t,z,q,x,rfl,W,M,λJ R c l=>?_⟩;exact⟨r,J,y,_,rfl,fr.mono c,l,D,F,trivial,λi B _ G o=>k i B (c.trans G) o⟩
theorem out_any(T:TX K mg a)(kd:Kd):MtB P w K mg base CX0 (kd.C a) "out" 8 ["self","amount"] (spOut a kd):=by
 cases kd
 ·exact T.m_Way_out.okA iL (b_out T _) len_Out
 ·exact T.m_Growing_out.okA iL (b_out T _) len_Out
 ·exact T.m_Leaking_out.okA iL (b_out T _) len_Out
 ·exact T.m_Store_out.okA iL (b_out T _) len_Out
end
end G
namespace G
open PySem L2
section
structure WD where
 nm:Str
 st:Str
 go:Str
 kd:Kd
 x:Rat
 co:Rat
noncomputable def WayIs(a:Ad)(H:Hp)(v:V)(d:WD):Prop:=∃p vh vc q,v=.ref p/\WayAt a H p d.kd d.nm d.st d.go vh vc q d.x/\d.kd≠.sto/\∃qc,vc=.ref qc/\FrAt a.Fraction H qc d.co
theorem WayIs.mono(h:WayIs a H v d)(s:Same H H'):WayIs a H' v d:=by
 obtain⟨p,vh,vc,q,e,W,k,qc,ec,fc⟩:=h;exact⟨p,vh,vc,q,e,W.mono s,k,qc,ec,fc.mono s⟩
noncomputable def RowAt{α:Type}(R:Hp->V->α->Prop)(H:Hp)(ts:List V)(xs:List α):Prop:=ts.length=xs.length/\∀(i:Nat)(t:V)(x:α),ts[i]?=some t->xs[i]?=some x->R H t x
theorem RowAt.mono(hR:∀v x,R H v x->R H' v x)(h:RowAt R H ts xs):RowAt R H' ts xs:=⟨h.1,λi t x a b=>hR t x (h.2 i t x a b)⟩
theorem RowAt.nil:RowAt R H [] []:=⟨rfl,λi t x h=>by simp at h⟩
theorem RowAt.snoc(d:RowAt R H ts xs)(hf:R H t x):RowAt R H (ts++[t]) (xs++[x]):=by
 refine⟨by rw[lG,lG,d.1];rfl,λi u z a b=>?_⟩;by_cases hi:i<ts.length
 ·rw[nD hi]at a;rw[nD (by rw[<-d.1];exact hi)]at b;exact d.2 i u z a b
 ·rw[mP (by lia)]at a;rw[mP (by rw[<-d.1];lia),<-d.1]at b
  have c:i-ts.length=0:=by
   have:=(kY.mp a).1
   simp at this
   lia
  rw[c]at a b;simp at a b;subst a b;exact hf
theorem RowAt.get{i:Nat}(d:RowAt R H ts xs)(h:ts[i]?=some t):∃x,xs[i]?=some x/\R H t x:=by
 have a:i<xs.length:=by rw[<-d.1];exact(kY.mp h).1
 exact⟨xs[i],lz a,d.2 i t _ h (lz a)⟩
theorem RowAt.get'{i:Nat}(d:RowAt R H ts xs)(h:xs[i]?=some x):∃t,ts[i]?=some t/\R H t x:=by
 have a:i<ts.length:=by rw[d.1];exact(kY.mp h).1
 exact⟨ts[i],lz a,d.2 i _ x (lz a) h⟩
noncomputable def PlIs(a:Ad)(H:Hp)(v:V)(p:Str×Rat):Prop:=∃t q,v=.ref t/\H t=some (.tup [.str p.1,.ref q])/\FrAt a.Fraction H q p.2
theorem PlIs.mono(h:PlIs a H v p)(s:Same H H'):PlIs a H' v p:=by
 obtain⟨t,q,e,h1,h2⟩:=h;exact⟨t,q,e,s _ _ h1,h2.mono s⟩
theorem aU(h:H d=none):Same H (upd H d o):=λb u e=>by rw[aG (aN e h)];exact e
theorem uG{H:Hp}{e:Addr}{o:HO}(n:H e=none):∃H',upd H e o=H'/\Same H H'/\H' e=some o:=⟨_,rfl,aU n,aE⟩
theorem aY(h:H d=none)(s:Same H H'):Same H (upd H' d o):=λb u e=>by rw[aG (aN e h)];exact s _ _ e
theorem gL[DecidableEq κ]{k:κ}(h:¬k∈kvs.map (·.1)):cV kvs k=none:=by
 cases e:cV kvs k with
 |none=>rfl
 |some v=>exact absurd (valV_in e) h
theorem val_some[DecidableEq κ]{k:κ}(h:k∈kvs.map (·.1)):∃v,cV kvs k=some v:=by
 cases e:cV kvs k with
 |none=>exact absurd h (valV_not e)
 |some v=>exact⟨v,rfl⟩
noncomputable def WantsAt(a:Ad)(H:Hp)(d:Addr)(ps:List (Str×Rat)):Prop:=∃kvs,H d=some (.dK kvs)/\kvs.map (·.1)=ps.map (λp=>Sum.inr p.1)/\RowAt (λH v x=>∃q,v=.ref q/\FrAt a.Fraction H q x) H (kvs.map (·.2)) (ps.map (·.2))
theorem WantsAt.mono(h:WantsAt a H d ps)(s:Same H H'):WantsAt a H' d ps:=
 let⟨kvs,h1,h2,h3⟩:=h;⟨kvs,s _ _ h1,h2,h3.mono (by rintro v x⟨q,e,f⟩;exact⟨q,e,f.mono s⟩)⟩
inductive IspWants(K:W.Frag)(a:Ad)(vs:List V)(H:Hp)(Q:VK):Prop
 |mk(l:Addr)(ts:List V)(ps:List (Str×Rat))(h1:vs=[.ref l])(h2:SqL K H l ts)(h3:RowAt (PlIs a) H ts ps)(h4:(ps.map (·.1)).Nodup)(h5:ps.length<=1000)(h6:∀d H',H d=none->Same H H'->WantsAt a H' d ps->Q (.ref d) H'):IspWants K a vs H Q
noncomputable def spWants(K:W.Frag)(a:Ad):Sp:=λvs H Q _=>IspWants K a vs H Q
theorem ok_wants_by_name(T:TX K mg a):FnB P w K mg base CX0 "wants_by_name" 1 ["places"] (spWants K a):=by
 refine T.d_wants_by_name.okA sc_wants_by_name λf aa A F s H vs Q E hr h=>?_;obtain⟨l,ts,B,rfl,Z,X,nd,Y,k⟩:=h
 refine⟨_,(aD (aH (i:=1) sc_wants_by_name.nd cU)
  (aD (bO lH rfl (bZ (pv 0)) (iS (n:=2) rfl (cF (aR (i:=2) sc_wants_by_name.nd) (cF (aR (i:=3) sc_wants_by_name.nd) fS))) (aD (bJ (j0 (pc_din (bI hr) (pv 2) (pv 1))) (aF cY) aV)
  (aF (cI (bI hr) (pv 1) (pv 2) (pv 3) rfl))))
  (aF (aP (pv 1))))),?_⟩
 walk_at"q"
 intro d c;have U:Same H (upd H d (.dK [])):=aU c;refine⟨_,rfl,l,rfl,⟨_,U.seq Z⟩,cG (K:=K) (a:=l) (xs:=ts) (λi σ r=>i<=B.length/\yE2 λO J=>σ=[some (.ref l),some (.ref d),O,J]×' Same H r×' WantsAt a r d (B.take i)) ⟨lD _,_,_,rfl,U,[],aE,rfl,RowAt.nil⟩ ((by rintro i σ r _⟨_,_,_,_,y,_⟩;exact y.seq Z)) ?_ ?_⟩
 ·rintro i t σ r ht⟨hi,O,J,rfl,y,b,M,L,hv⟩;obtain⟨p,D,t',q,rfl,h1,h2⟩:=X.get ht;have G :=(kY.mp D).1
  have nk:¬(Sum.inr p.1:Key)∈b.map (·.1):=by
   rw[L];intro m;obtain⟨p',N,e⟩:=k8.mp m;have e :=ol e;obtain⟨j,I⟩:=lV.mp N
   have R:j<i:=by
    have:=(kY.mp I).1
    rw[lI]at this
    lia
   rw[nE,if_pos R]at I;have g1:(B.map (·.1))[j]?=some p.1:=by rw[lg,I,mV,e]
   have g2:(B.map (·.1))[i]?=some p.1:=by rw[lg,D,mV]
   have:=(mS (by rw[kX];lia) nd).mp (g1.trans g2.symm)
   lia
  refine⟨t',[.str p.1,.ref q],rfl,SqT.of (y _ _ h1),rfl,.str p.1,[.ref q],rfl,⟨.ref q,[],rfl,⟨rfl,?_⟩⟩⟩;refine⟨_,rfl,_,rfl,d,_,rfl,DGet.k (k:=Sum.inr p.1) M,_,rfl,?_⟩;rw[gL nk];refine iteF ?_
  have hl:b.length=i:=by
   have:=mj List.length L
   rw[kX,kX,lI]at this
   lia
  refine⟨_,rfl,_,rfl,_,rfl,d,_,rfl,DPut.k (k:=Sum.inr p.1) M (aT (by lia)),?_⟩;rw[iD _ (gL nk)];have S:=aY (o:=.dK (b++[(Sum.inr p.1,.ref q)])) c y;refine⟨G,_,_,rfl,S,b++[(Sum.inr p.1,.ref q)],aE,?_,?_⟩
  ·rw[lj,L,lE,D,lL,lj];rfl
  ·rw[lj,lE,D,lL,lj];refine RowAt.snoc (hv.mono λv x zW=>?_) ⟨q,rfl,h2.mono S⟩;obtain⟨q',e,dq,f⟩:=zW;refine⟨q',e,dq,?_⟩;rw[aG (bB f M (by intro z;cases z))];exact f
 ·rintro σ r⟨_,O,J,rfl,y,hw⟩;rw[X.1,lA]at hw;exact⟨_,rfl,k d r c y hw⟩
inductive IspCheck(a:Ad)(vs:List V)(H:Hp)(Q:VK):Prop
 |mk(v:V)(d:WD)(da dw:Addr)(ka kw:List (Key×V))(h1:vs=[v,.ref da,.ref dw])(h2:WayIs a H v d)(h3:H da=some (.dK ka))(h4:H dw=some (.dK kw))(h5:¬(Sum.inr d.nm:Key)∈ka.map (·.1))(h6:(Sum.inr d.st:Key)∈kw.map (·.1))(h7:(Sum.inr d.go:Key)∈kw.map (·.1))(h8:∀H',Same H H'->Q .non H'):IspCheck a vs H Q
noncomputable def spCheck(a:Ad):Sp:=λvs H Q _=>IspCheck a vs H Q
theorem noStore(T:TX K mg a){kd:Kd}(h:kd≠.sto):PySem.W.kitOne K (.ref (kd.C a)) (.ref a.Store)=some false:=by
 cases kd
 ·exact T.k_Way_Store
 ·exact T.k_Growing_Store
 ·exact T.k_Leaking_Store
 ·exact absurd rfl h
theorem tyWay(T:TX K mg a){kd:Kd}(h:H p=some (.ins (kd.C a) dx fs)):TyOf K H (.ref p) (.ref (kd.C a)):=by
 have c:=(cS T kd).cl
 cases kd
 ·exact TyOf.ins h c T.c1_Way T.c2 T.c3 T.c4_Way
 ·exact TyOf.ins h c T.c1_Growing T.c2 T.c3 T.c4_Growing
 ·exact TyOf.ins h c T.c1_Leaking T.c2 T.c3 T.c4_Leaking
 ·exact TyOf.ins h c T.c1_Store T.c2 T.c3 T.c4_Store
theorem ok_check_way(T:TX K mg a):FnB P w K mg base CX0 "check_way" 1 ["way","ahead","wants"] (spCheck a):=by
 refine T.d_check_way.okA sc_check_way λf J A m s H vs Q E I h=>?_;obtain⟨v,d,G,F,ka,S,rfl,⟨p,vh,vc,q,rfl,W,X⟩,L,Z,N,M,O,k⟩:=h
 refine⟨_,(aD (bJ (eo (bV (kW (c:=.ref a.Store)) (by rfl) T.z_isinstance PyProof.Rows.boot_isinstance (aA (pv 0) (aA (pe_glob (v:=.ref a.Store) (by rfl) T.mg_Store rfl) aB)))) (aF cY) aV)
  (aD (bJ (j0 (pc_din (bI I) (aZ (pv 0) rfl) (pv 1))) (aF cY) aV)
  (aF (bO lH rfl (pi_tup (bP (aA (aZ (pv 0) rfl) (aA (aZ (pv 0) rfl) aB)))) (aR (i:=3) sc_check_way.nd) (aF (bJ (j0 (pc_dnotin (bI I) (pv 3) (pv 2))) (aF cY) aV)))))),?_⟩
 walk_at"q"
 obtain⟨B,fs,j,r,_⟩:=W.ob;have c:=cS T d.kd;refine⟨_,rfl,_,_,_,_,rfl,(λu h=>h),tyWay T j,noStore T X.1,_,rfl,iteF ?_⟩;refine⟨_,rfl,p,_,B,fs,_,rfl,j,c.cl,c.n1,r.nm,_,rfl,G,_,rfl,DGet.k (k:=Sum.inr d.nm) L,_,rfl,?_⟩;rw[gL N];refine iteF ?_;refine⟨_,rfl,p,_,B,fs,_,rfl,j,c.cl,c.n2,r.st,_,rfl,p,_,B,fs,_,rfl,j,c.cl,c.n3,r.go,zL2,λt U=>?_⟩;have D:=aU (o:=.tup [.str d.st,.str d.go]) U;refine⟨t,rfl,⟨_,SqT.of aE⟩,for_tup (xs:=[.str d.st,.str d.go]) (λi σ l=>∃z,σ=[some (.ref p),some (.ref G),some (.ref F),z]/\l=upd H t (.tup [.str d.st,.str d.go])) ⟨_,rfl,rfl⟩ ((by rintro i σ l _⟨_,_,e⟩;exact by rw[e];exact SqT.of aE)) ?_ ?_⟩
 ·rintro i x σ l b⟨z,rfl,rfl⟩
  have b:∃y,x=.str y/\(Sum.inr y:Key)∈S.map (·.1):=by
   match i,b with
   |0,b=>exact⟨d.st,(lY b).symm,M⟩
   |1,b=>exact⟨d.go,(lY b).symm,O⟩
   |i+2,b=>simp at b
  obtain⟨y,rfl,Y⟩:=b;obtain⟨u,R⟩:=val_some Y;refine⟨_,rfl,_,rfl,F,_,rfl,DGet.k (k:=Sum.inr y) (D _ _ Z),_,rfl,?_⟩;rw[R];exact iteF ⟨_,rfl,rfl⟩
 ·rintro σ l⟨z,rfl,rfl⟩;exact k _ D
noncomputable def WaysAt(a:Ad)(H:Hp)(d:Addr)(ds:List WD):Prop:=∃kvs,H d=some (.dK kvs)/\kvs.map (·.1)=ds.map (λx=>Sum.inr x.nm)/\RowAt (WayIs a) H (kvs.map (·.2)) ds
theorem WaysAt.mono(h:WaysAt a H d ds)(s:Same H H'):WaysAt a H' d ds:=
 let⟨kvs,h1,h2,h3⟩:=h;⟨kvs,s _ _ h1,h2,h3.mono λv x z=>z.mono s⟩
inductive IspWaysBy(K:W.Frag)(a:Ad)(vs:List V)(H:Hp)(Q:VK):Prop
 |mk(l dw:Addr)(ts:List V)(ds:List WD)(ps:List (Str×Rat))(h1:vs=[.ref l,.ref dw])(h2:SqL K H l ts)(h3:RowAt (WayIs a) H ts ds)(h4:WantsAt a H dw ps)(h5:(ds.map (·.nm)).Nodup)(h6:ds.length<=1000)(h7:(∀d∈ds,d.st∈ps.map (·.1)/\d.go∈ps.map (·.1)))(h8:∀d H',H d=none->Same H H'->WaysAt a H' d ds->Q (.ref d) H'):IspWaysBy K a vs H Q
noncomputable def spWaysBy(K:W.Frag)(a:Ad):Sp:=λvs H Q _=>IspWaysBy K a vs H Q
theorem WayIs.keep(h:WayIs a H v x)(k:Stays a H H'):WayIs a H' v x:=by
 obtain⟨p,vh,vc,q,e,W,hk,qc,ec,fc⟩:=h;exact⟨p,vh,vc,q,e,W.keep k,hk,qc,ec,k.fr fc⟩
theorem WayIs.put(h:WayIs a H v x)(hd:H d=some (.dK kvs)):WayIs a (upd H d o) v x:=h.keep (.put hd (by intro _ _ _ z;cases z))
theorem nodup_take{α β:Type}{xs:List α}{f:α->β}{x:α}(nd:(xs.map f).Nodup)(e:xs[i]?=some x):¬f x∈(xs.take i).map f:=by
 intro m;obtain⟨y,l,c⟩:=k8.mp m;obtain⟨j,a⟩:=lV.mp l;have o:=(kY.mp e).1
 have b:j<i:=by
  have:=(kY.mp a).1
  rw[lI]at this
  lia
 rw[nE,if_pos b]at a;have g1:(xs.map f)[j]?=some (f x):=by rw[lg,a,mV,c]
 have h:(xs.map f)[i]?=some (f x):=by rw[lg,e,mV]
 have:=(mS (by rw[kX];lia) nd).mp (g1.trans h.symm)
 lia
theorem inr_mem{ns:List Str}:(Sum.inr n:Key)∈ns.map (λx=>(Sum.inr x:Key))↔n∈ns:=by
 constructor
 ·intro h;obtain⟨y,a,e⟩:=k8.mp h;rw[<-ol e];exact a
 ·exactλh=>k8.mpr ⟨n,h,rfl⟩
theorem ok_ways_by_name(T:TX K mg a):FnB P w K mg base CX0 "ways_by_name" 2 ["ways","wants"] (spWaysBy K a):=by
 refine T.d_ways_by_name.okA sc_ways_by_name λf aa A J s H vs Q E hr h=>?_;obtain⟨l,dw,ts,O,ps,rfl,hS,Y,hw,nd,Z,R,k⟩:=h
 refine⟨_,(aD (aH (i:=2) sc_ways_by_name.nd cU)
  (aD (bO lH rfl (bZ (pv 0)) (aR (i:=3) sc_ways_by_name.nd) (aD (bY (aO (ok_check_way T) hr aJ (aA (pv 3) (aA (pv 2) (aA (pv 1) aB)))))
  (aF (cI (bI hr) (pv 2) (aZ (pv 3) rfl) (pv 3) rfl))))
  (aF (aP (pv 2))))),?_⟩
 walk_at"q"
 intro d B;have X:Same H (upd H d (.dK [])):=aU B;refine⟨_,rfl,l,rfl,⟨_,X.seq hS⟩,cG (λi σ D=>i<=O.length/\yE1 λU=>σ=[some (.ref l),some (.ref dw),some (.ref d),U]×' Same H D×' WaysAt a D d (O.take i)) ⟨lD _,_,rfl,X,[],aE,rfl,RowAt.nil⟩ ((by rintro i σ D _⟨_,_,_,j,_⟩;exact j.seq hS)) ?_ ?_⟩
 ·rintro i t σ D ht⟨hi,U,rfl,j,b,hd,M,hv⟩;obtain⟨x,ex,hx⟩:=Y.get ht;have L :=(kY.mp ex).1
  have nk:¬(Sum.inr x.nm:Key)∈b.map (·.1):=by
   rw[M]
   have:=nodup_take (f:=λz:WD=>(Sum.inr z.nm:Key)) (by
    rw[show(λz:WD=>(Sum.inr z.nm:Key))=(λn=>(Sum.inr n:Key))∘(λz:WD=>z.nm)from rfl,<-mz];exact nd.map _ (λu v h e=>h (ol e))) ex
   exact this
  obtain⟨kw,N,S,_⟩:=hw.mono j;obtain⟨i1,i2⟩:=R x (kZ ex);have m:kw.map (·.1)=(ps.map (·.1)).map (λn=>(Sum.inr n:Key)):=by rw[S,mz];rfl
  refine⟨_,rfl,_,rfl,_,rfl,t,x,d,dw,b,kw,rfl,hx.mono j,hd,N,nk,by rw[m];exact inr_mem.mpr i1,by rw[m];exact inr_mem.mpr i2,λH3 I=>?_⟩;have r:=I _ _ hd;have G:=hx.mono (j.trans I);obtain⟨p,vh,vc,q,rfl,W,ab⟩:=id G;obtain⟨dx,fs,ho,h5,_⟩:=W.ob;have c:=cS T x.kd
  have hl:b.length=i:=by
   have:=mj List.length M
   rw[kX,kX,lI]at this
   lia
  refine⟨_,rfl,_,rfl,_,rfl,p,_,dx,fs,_,rfl,ho,c.cl,c.n1,h5.nm,d,_,rfl,DPut.k (k:=Sum.inr x.nm) r (aT (by lia)),?_⟩;rw[iD _ (gL nk)];have s4:=aY (o:=.dK (b++[(Sum.inr x.nm,.ref p)])) B (j.trans I);refine⟨L,_,rfl,s4,b++[(Sum.inr x.nm,.ref p)],aE,?_,?_⟩
  ·rw[lj,M,lE,ex,lL,lj];rfl
  ·rw[lj,lE,ex,lL];exact RowAt.snoc (hv.mono λv y z=>(z.mono I).put r) (G.put r)
 ·rintro σ D⟨_,U,rfl,j,F⟩;rw[Y.1,lA]at F;exact⟨_,rfl,k d D B j F⟩
noncomputable def fsN(dw dy:Addr):List (Str×V):=[("wants",.ref dw),("ways",.ref dy)]
theorem fsN_new(dw dy:Addr):cH "ways" (.ref dy) (cH "wants" (.ref dw) [])=fsN dw dy:=by
 show(if("wants":Str)="ways"then _ else(("wants":Str),V.ref dw)::[(("ways":Str),V.ref dy)])=fsN dw dy;rw[if_neg (by decide+kernel)];rfl
theorem fsN_w(dw dy:Addr):(fsN dw dy).lookup ("wants":Str)=some (.ref dw):=rfl
theorem fsN_y(dw dy:Addr):(fsN dw dy).lookup ("ways":Str)=some (.ref dy):=by
 show List.lookup ("ways":Str) [(("wants":Str),V.ref dw),("ways",V.ref dy)]=_;rw[lU,show(("ways":Str)=="wants")=false by decide+kernel];rfl
theorem iV(dw dy:Addr){m:Str}(h1:(m=="wants")=false)(h2:(m=="ways")=false):(fsN dw dy).lookup m=none:=by
 show List.lookup m [(("wants":Str),V.ref dw),("ways",V.ref dy)]=_;rw[lU,h1,lU,h2];rfl
noncomputable def NetAt(a:Ad)(H:Hp)(p:Addr)(ps:List (Str×Rat))(ds:List WD):Prop:=∃dx dw dy,H p=some (.ins a.Net dx (fsN dw dy))/\WantsAt a H dw ps/\WaysAt a H dy ds
theorem NetAt.mono(h:NetAt a H p ps ds)(s:Same H H'):NetAt a H' p ps ds:=by
 obtain⟨dx,dw,dy,e,h1,h2⟩:=h;exact⟨dx,dw,dy,s _ _ e,h1.mono s,h2.mono s⟩
structure NetOk(ps:List (Str×Rat))(ds:List WD):Prop where
 np:(ps.map (·.1)).Nodup
 lp:ps.length<=12
 nd:(ds.map (·.nm)).Nodup
 ld:ds.length<=24
 io:∀d∈ds,d.st∈ps.map (·.1)/\d.go∈ps.map (·.1)
inductive IspNetI(K:W.Frag)(a:Ad)(vs:List V)(H:Hp)(Q:VK):Prop
 |mk(p dx lp lw:Addr)(tp tw:List V)(ps:List (Str×Rat))(ds:List WD)(h1:vs=[.ref p,.ref lp,.ref lw])(h2:H p=some (.ins a.Net dx []))(h3:SqL K H lp tp)(h4:RowAt (PlIs a) H tp ps)(h5:SqL K H lw tw)(h6:RowAt (WayIs a) H tw ds)(h7:NetOk ps ds)(h8:∀H',(∀b o,H b=some o->b≠p->H' b=some o)->NetAt a H' p ps ds->Q .non H'):IspNetI K a vs H Q
noncomputable def spNetI(K:W.Frag)(a:Ad):Sp:=λvs H Q _=>IspNetI K a vs H Q
theorem WantsAt.ins(h:WantsAt a H d ps)(hp:H p=some (.ins C dx fs))(hC:C≠a.Fraction):WantsAt a (upd H p (.ins C dx gs)) d ps:=by
 obtain⟨b,c,l,j⟩:=h;refine⟨b,by rw[aG (bB c hp (by intro z;cases z))];exact c,l,j.mono λv x zW=>?_⟩;obtain⟨q,e,i,f⟩:=zW;refine⟨q,e,i,?_⟩;rw[aG (bB f hp (by intro z;cases z;exact hC rfl))];exact f
theorem Stays.ins(hp:H p=some (.ins C dx fs))(hC:C≠a.Fraction/\∀kd:Kd,C≠kd.C a):Stays a H (upd H p (.ins C dx gs)):=λb l i j h e=>by
 rw[aG (bB e hp λz=>?_)]
 ·exact e
 ·have c:=(HO.ins.inj z).1;rcases h with rfl|⟨kd,rfl⟩
  ·exact hC.1 c.symm
  ·exact hC.2 kd c.symm
theorem WaysAt.ins(h:WaysAt a H d ds)(hp:H p=some (.ins C dx fs))(hC:C≠a.Fraction/\∀kd:Kd,C≠kd.C a):WaysAt a (upd H p (.ins C dx gs)) d ds:=by
 obtain⟨b,c,i,e⟩:=h;exact⟨b,by rw[aG (bB c hp (by intro z;cases z))];exact c,i,e.mono λv x z=>z.keep (.ins hp hC)⟩
theorem netC(T:TX K mg a):a.Net≠a.Fraction/\∀kd:Kd,a.Net≠kd.C a:=by
 have i:a.Net≠a.Fraction:=λe=>by
  have h:=T.na_Fraction_top;have c:=T.m_Fraction_times;rw[<-e]at c;obtain⟨f,b,_,⟨m,_,_⟩,_⟩:=c
  cases T.no_Net_times.symm.trans m
 refine⟨i,λkd e=>?_⟩
 have:=T.no_Net_out
 cases kd
 ·obtain⟨f,b,_,⟨m,_,_⟩,_⟩:=T.m_Way_out;rw[show a.Way=a.Net from e.symm]at m
  cases this.symm.trans m
 ·obtain⟨f,b,_,⟨m,_,_⟩,_⟩:=T.m_Growing_out;rw[show a.Growing=a.Net from e.symm]at m
  cases this.symm.trans m
 ·obtain⟨f,b,_,⟨m,_,_⟩,_⟩:=T.m_Leaking_out;rw[show a.Leaking=a.Net from e.symm]at m
  cases this.symm.trans m
 ·obtain⟨f,b,_,⟨m,_,_⟩,_⟩:=T.m_Store_out;rw[show a.Store=a.Net from e.symm]at m
  cases this.symm.trans m
theorem mk_Net(T:TX K mg a):MkB P w K mg base CX0 a.Net 4 ["self","places","ways"] [] (spNetI K a):=by
 refine T.i_Net.okA sc_Net_init (λf ab A I s H vs Q E hr h=>?_) (λvs H Q E h=>?_) _ (by simp)
 rotate_left
 ·obtain⟨_,_,_,_,_,_,_,_,rfl,_⟩:=h;rfl
 ·obtain⟨p,j,lp,N,O,m,M,X,rfl,G,hS,hP,hL,hW,ok,k⟩:=h
  refine⟨_,(aD (bJ (PW.pt (pw_or (aS op_gt (bV cO (by rfl) T.z_len mR (aA (pv 1) aB)) (pe_gi T.gi_MOST_PLACES)) (pw_or1 (aS op_gt (bV cO (by rfl) T.z_len mR (aA (pv 2) aB)) (pe_gi T.gi_MOST_WAYS))))) (aF cY) aV)
   (aD (cT (pv 0) (aO (ok_wants_by_name T) hr aJ (aA (pv 1) aB)) rfl)
   (aF (cT (pv 0) (aO (ok_ways_by_name T) hr aJ (aA (pv 2) (aA (aZ (pv 0) rfl) aB))) rfl)))),?_⟩
  walk_at"q"
  have e1:(O.length:Int)<=12:=by have:=ok.lp;rw[<-hP.1]at this;lia
  have e2:(m.length:Int)<=24:=by have:=ok.ld;rw[<-hW.1]at this;lia
  refine⟨_,rfl,lp,O,rfl,.inl hS,_,_,rfl,rfl,_,rfl,hE (lM (by lia)) ?_⟩;refine⟨_,rfl,N,m,rfl,.inl hL,_,_,rfl,rfl,_,rfl,hE (lM (by lia)) ?_⟩;refine⟨_,rfl,lp,O,M,rfl,hS,hP,ok.np,lC ok.lp (by decide),λl H1 n1 Z R=>?_⟩;have t:=Z _ _ G;refine⟨_,rfl,p,a.Net,j,[],rfl,t,T.cl_Net,T.na_Net_wants,by decide,?_⟩;have r:=netC T;generalize i:upd H1 p (.ins a.Net j (cH "wants" (.ref l) []))=q;have D:q p=some (.ins a.Net j (cH "wants" (.ref l) [])):=by rw[<-i];exact aE
  have B:WantsAt a q l M:=by rw[<-i];exact R.ins t r.1
  have F:∀b o,H b=some o->b≠p->q b=some o:=λb o e ne=>by rw[<-i,aG ne];exact Z _ _ e
  have U:SqL K q N m:=by
   rcases hL with(h|⟨o,h⟩)|h
   ·exact .inl (.inl (F _ _ h (bB h G (by intro z;cases z))))
   ·exact .inl (.inr ⟨o,F _ _ h (bB h G (by intro z;cases z))⟩)
   ·exact .inr h
  have S:RowAt (WayIs a) q m X:=hW.mono λv x z=>z.keep λb C' aa ac h e=>F _ _ e (bB e G λy=>by
   have Y:=(HO.ins.inj y).1;rcases h with rfl|⟨kd,rfl⟩
   ·exact r.1 Y.symm
   ·exact r.2 kd Y.symm)
  refine⟨_,rfl,_,rfl,p,_,j,_,_,rfl,D,T.cl_Net,T.na_Net_wants,rfl,N,l,m,X,M,rfl,U,S,B,ok.nd,lC ok.ld (by decide),ok.io,λdy H3 n3 J L=>?_⟩;have c:=J _ _ D;refine⟨_,rfl,p,a.Net,j,_,rfl,c,T.cl_Net,T.na_Net_ways,ma (cL (k5 0)) (by decide),?_⟩;rw[fsN_new];refine k _ (λb o e ne=>?_) ⟨j,l,dy,aE,(B.mono J).ins c r.1,L.ins c r⟩;rw[aG ne];exact J _ _ (F _ _ e ne)
theorem mkN{Q:VK}(hS:SqL K H lp tp)(hP:RowAt (PlIs a) H tp ps)(hL:SqL K H lw tw)(hW:RowAt (WayIs a) H tw ds)(ok:NetOk ps ds)
  (k:∀p H',H p=none->Same H H'->NetAt a H' p ps ds->Q (.ref p) H')(p dx:Addr)(h1:H p=none)(h2:H dx=none)(_:dx≠p):
  spNetI K a [.ref p,.ref lp,.ref lw] (upd (upd H dx (.own p)) p (.ins a.Net dx [])) (λv H2=>v=.non/\Q (.ref p) H2) E0:=by
 have b:=ku (C:=a.Net) h1 h2;exact⟨p,dx,lp,lw,tp,tw,ps,ds,rfl,aE,b.seq hS,hP.mono λv x z=>z.mono b,b.seq hL,hW.mono λv x z=>z.mono b,ok,λH' c e=>⟨rfl,k p H' h1 (iw h1 h2 c) e⟩⟩
theorem WaysAt.get(h:WaysAt a H dy ds)(nd:(ds.map (·.nm)).Nodup)(hd:d∈ds):∃kvs v,H dy=some (.dK kvs)/\cV kvs (Sum.inr d.nm)=some v/\WayIs a H v d:=by
 obtain⟨kvs,A,s,B⟩:=h;obtain⟨i,q⟩:=lV.mp hd;obtain⟨t,l,G⟩:=B.get' q;have y:=(kY.mp q).1;rw[lg]at l
 cases e:kvs[i]? with
 |none=>rw[e]at l;cases l
 |some c=>
  rw[e]at l;have D:c.2=t:=lY l
  have r:c.1=Sum.inr d.nm:=by
   have g1:(kvs.map (·.1))[i]?=some c.1:=by rw[lg,e];rfl
   rw[s,lg,q]at g1;exact(lY g1).symm
  refine⟨kvs,t,A,?_,G⟩;obtain⟨v,b⟩:=val_some (kvs:=kvs) (k:=(Sum.inr d.nm:Key)) (k8.mpr ⟨c,kZ e,r⟩);rw[b];unfold cV at b
  cases f:kvs.find? (λc=>decide (c.1=(Sum.inr d.nm:Key))) with
  |none=>rw[f]at b;cases b
  |some kv'=>
   rw[f]at b;have w:=List.find?_some f;have m:=List.mem_of_find?_eq_some f;obtain⟨j,o⟩:=lV.mp m;have F:kv'.1=Sum.inr d.nm:=of_decide_eq_true w
   have p:(kvs.map (·.1)).Nodup:=by
    rw[s,show(λz:WD=>(Sum.inr z.nm:Key))=(λn=>(Sum.inr n:Key))∘(λz:WD=>z.nm) from rfl,<-mz];exact nd.map _ (λu v h e=>h (ol e))
   have g1:(kvs.map (·.1))[j]?=some (Sum.inr d.nm):=by rw[lg,o,mV,F]
   have x:(kvs.map (·.1))[i]?=some (Sum.inr d.nm):=by rw[lg,e,mV,r]
   have E:=(mS (by rw[kX];exact(kY.mp o).1) p).mp (g1.trans x.symm);subst E;rw[o]at e
   cases e;rw[<-D];exact b.symm
inductive IspNetWay(a:Ad)(vs:List V)(H:Hp)(Q:VK):Prop
 |mk(p:Addr)(ps:List (Str×Rat))(ds:List WD)(d:WD)(h1:vs=[.ref p,.str d.nm])(h2:NetAt a H p ps ds)(h3:(ds.map (·.nm)).Nodup)(h4:d∈ds)(h5:∀v,WayIs a H v d->Q v H):IspNetWay a vs H Q
noncomputable def fW(a:Ad):Sp:=λvs H Q _=>IspNetWay a vs H Q
theorem eX(T:TX K mg a):MtB P w K mg base CX0 a.Net "way" 1 ["self","name"] (fW a):=by
 refine T.m_Net_way.okA sc_Net_way λf r A b s H B Q E l h=>?_;obtain⟨p,F,D,d,rfl,⟨m,G,c,e,I,z⟩,o,t,k⟩:=h
 refine⟨_,(aD (bJ (j0 (pc_dnotin (bI l) (pv 1) (aZ (pv 0) rfl))) (aF cY) aV)
  (aF (aP (cE (bI l) (aZ (pv 0) rfl) (pv 1) (λ_ _=>rfl))))),?_⟩
 walk_at"q"
 obtain⟨q,v,i,j,y⟩:=z.get o t;refine⟨_,rfl,_,rfl,p,_,m,_,_,rfl,e,T.cl_Net,T.na_Net_ways,fsN_y _ _,c,_,rfl,DGet.k (k:=Sum.inr d.nm) i,_,rfl,?_⟩;rw[j];refine iteF ?_;refine⟨_,rfl,p,_,m,_,_,rfl,e,T.cl_Net,T.na_Net_ways,fsN_y _ _,_,rfl,c,v,rfl,?_,k v y⟩;rw[<-j];exact DGet.k (k:=Sum.inr d.nm) i
end
end G
namespace G
open PySem L2
section
noncomputable def Chain(ds:List WD):Prop:=∀(i:Nat)(x y:WD),ds[i]?=some x->ds[i+1]?=some y->x.go=y.st
theorem WayIs.lst(h:WayIs a H v x)(hl:H l=some (.lst us)):WayIs a (upd H l (.lst zs)) v x:=h.keep (.put hl (by intro _ _ _ z;cases z))
structure OnNet(K:W.Frag)(a:Ad)(H:Hp)(p l:Addr)(ps:List (Str×Rat))(ns ds:List WD):Prop where
 net:NetAt a H p ps ns
 nd:(ns.map (·.nm)).Nodup
 sq:SqL K H l (ds.map λd=>.str d.nm)
 sub:∀d∈ds,d∈ns
 ch:Chain ds
 len:ds.length<=900
theorem OnNet.mono(h:OnNet K a H p l ps ns ds)(s:Same H H'):OnNet K a H' p l ps ns ds:=⟨h.net.mono s,h.nd,s.seq h.sq,h.sub,h.ch,h.len⟩
theorem last_of{α:Type}{xs:List α}(h:xs≠[]):∃ys y,xs=ys++[y]:=⟨xs.dropLast,xs.getLast h,(List.dropLast_concat_getLast h).symm⟩
theorem Bd.smr(b:Bd n x)(hn:n<9000):SmR x:=⟨ma b.1 (Nat.pow_lt_pow_right (by decide) hn),by unfold Sm;rw[mY];exact ma b.2 (Nat.pow_lt_pow_right (by decide) hn)⟩
inductive IspWaysOf(K:W.Frag)(a:Ad)(vs:List V)(H:Hp)(Q:VK):Prop
 |mk(p l:Addr)(ps:List (Str×Rat))(ns ds:List WD)(h1:vs=[.ref p,.ref l])(h2:OnNet K a H p l ps ns ds)(h3:∀r H' ts,H r=none->Same H H'->H' r=some (.lst ts)->RowAt (WayIs a) H' ts ds->Q (.ref r) H'):IspWaysOf K a vs H Q
noncomputable def spWaysOf(K:W.Frag)(a:Ad):Sp:=λvs H Q _=>IspWaysOf K a vs H Q
theorem j4(T:TX K mg a):FnB P w K mg base CX0 "ways_of" 2 ["net","walk"] (spWaysOf K a):=by
 refine T.d_ways_of.okA sc_ways_of λf al A ac s H vs Q E hr h=>?_;obtain⟨p,l,ps,ns,D,rfl,O,k⟩:=h
 refine⟨_,(aD (aH (i:=2) sc_ways_of.nd (bH aB))
  (aD (bO lH rfl (bZ (pv 1)) (aR (i:=3) sc_ways_of.nd) (aD (aH (i:=4) sc_ways_of.nd (eV (pv 0) hr aJ (aA (pv 3) aB)))
  (aD (bJ (PW.pt (gu (aS (gw hr.units0) (pv 2) (bH aB)) (fv (aS op_ne (aZ (aK bC (pv 2) (jm gM aC)) rfl) (aZ (pv 4) rfl))))) (aF cY) aV)
  (aF (bY (kF mT m9 nc eN (pv 2) (aA (pv 4) aB)))))))
  (aF (aP (pv 2))))),?_⟩
 walk_at"q"
 refine⟨by decide,λr nr=>?_⟩;have s0:Same H (upd H r (.lst [])):=aU nr;refine⟨_,rfl,l,rfl,⟨_,s0.seq O.sq⟩,cG (xs:=D.map λd=>.str d.nm) (λi σ m=>i<=D.length/\yE3 λY Z c=>σ=[some (.ref p),some (.ref l),some (.ref r),Y,Z]×' Same H m×' m r=some (.lst c)×' RowAt (WayIs a) m c (D.take i)) ⟨lD _,_,_,[],rfl,s0,aE,RowAt.nil⟩ ((by rintro i σ m _⟨_,_,_,_,_,J,_⟩;exact J.seq O.sq)) ?_ ?_⟩
 ·rintro i t σ m N⟨hi,Y,Z,c,rfl,J,j,X⟩;rw[lg]at N
  cases ex:D[i]? with
  |none=>rw[ex]at N;cases N
  |some x=>
   rw[ex]at N
   cases N;have af :=(kY.mp ex).1;obtain⟨dx,dw,dy,hp,hw,hy⟩:=O.net.mono J;have L:c.length=i:=by rw[X.1,lI];lia
   refine⟨_,rfl,p,a.Net,dx,_,1,["self","name"],fW a,rfl,hp,iV _ _ (by decide+kernel) (by decide+kernel),T.cl_Net,by decide,eX T,_,rfl,p,ps,ns,x,rfl,⟨dx,dw,dy,hp,hw,hy⟩,O.nd,O.sub _ (kZ ex),λv hx=>?_⟩;refine⟨_,rfl,by decide,λe ne=>?_⟩;have I:=aU (o:=.lst []) ne;refine⟨r,e,c,rfl,rfl,SqL.of (I _ _ j),SqL.of aE,_,rfl,?_⟩;have b:=I _ _ j;have G:=hx.mono I;have B:=X.mono λv y z=>z.mono I;have S:=J.trans I;generalize upd m e (.lst [])=H3 at I b G B S⊢;obtain⟨R,vh,vc,q,rfl,W,hk⟩:=id G;obtain⟨ab,ak,aj,ae,_⟩:=W.ob;have c':=cS T x.kd
   have nx:i+1<=D.length/\yE3 λY Z M=>([some (.ref p),some (.ref l),some (.ref r),some (.str x.nm),some (.ref R)]:St)=[some (.ref p),some (.ref l),some (.ref r),Y,Z]×' Same H (upd H3 r (.lst (c++[.ref R])))×' upd H3 r (.lst (c++[.ref R])) r=some (.lst M)×' RowAt (WayIs a) (upd H3 r (.lst (c++[.ref R]))) M (D.take (i+1)):=by
    refine⟨af,_,_,_,rfl,aY nr S,aE,?_⟩;rw[lE,ex,lL];exact RowAt.snoc (B.mono λv y z=>z.lst b) (G.lst b)
   by_cases hz:c=[]
   ·subst hz;refine iteF ?_;exact⟨_,rfl,.inl ⟨rfl,_,SqL.of b⟩,_,rfl,r,_,_,rfl,rfl,b,by decide,nx⟩
   ·have ad:(!c.isEmpty)=true:=by cases c with|nil=>exact absurd rfl hz|cons _ _=>rfl
    rw[ad];refine iteT ?_
    have ao:0<i:=by
     cases i with
     |zero=>exact absurd (List.length_eq_zero_iff.mp L) hz
     |succ i=>exact Nat.succ_pos i
    have U:c[i-1]?=some c[i-1]:=lz (by omega);generalize c[i-1]=u at U;obtain⟨y,ey,p2,am,ap,q2,rfl,W2,an⟩:=B.get U;rw[nE,if_pos (by omega)]at ey;obtain⟨ah,ag,aa,ai,_⟩:=W2.ob;have c2:=cS T y.kd;have eg :=O.ch (i-1) y x ey (by rw[show i-1+1=i by omega];exact ex)
    have lst:atI c (-1)=some (.ref p2):=by
     obtain⟨M,u,rfl⟩:=last_of hz
     have:M.length=i-1:=by simp at L;omega
     rw[<-this,mP (k5 _)]at U;simp at U;rw[U];exact atI_last M _
    refine⟨_,rfl,_,rfl,r,_,_,_,rfl,rfl,SqL.of b,lst,p2,_,ah,ag,_,rfl,aa,c2.cl,c2.n3,ai.go,_,rfl,R,_,ab,ak,_,rfl,aj,c'.cl,c'.n2,ae.st,rfl,_,rfl,?_⟩;rw[eg];refine iteNS rfl ?_;exact⟨_,rfl,.inl ⟨rfl,_,SqL.of b⟩,_,rfl,r,_,_,rfl,rfl,b,aT (by have:=O.len;lia),nx⟩
 ·rintro σ m⟨_,Y,Z,c,rfl,J,j,X⟩;rw[kX,lA]at X;exact⟨_,rfl,k r m c nr J j X⟩
noncomputable def bS:List WD->List Str
 |[]=>[]
 |d::r=>d.st::(d::r).map (·.go)
inductive IspPlacesOf(K:W.Frag)(a:Ad)(vs:List V)(H:Hp)(Q:VK):Prop
 |mk(p l:Addr)(ps:List (Str×Rat))(ns ds:List WD)(h1:vs=[.ref p,.ref l])(h2:OnNet K a H p l ps ns ds)(h3:∀r H',H r=none->Same H H'->H' r=some (.lst ((bS ds).map V.str))->Q (.ref r) H'):IspPlacesOf K a vs H Q
noncomputable def spPlacesOf(K:W.Frag)(a:Ad):Sp:=λvs H Q _=>IspPlacesOf K a vs H Q
theorem gF(T:TX K mg a):FnB P w K mg base CX0 "places_of" 3 ["net","walk"] (spPlacesOf K a):=by
 refine T.d_places_of.okA sc_places_of λf af A X s H vs Q E hr h=>?_;obtain⟨p,l,ps,ns,ds,rfl,O,k⟩:=h
 refine⟨_,(aD (aH (i:=2) sc_places_of.nd (aO (j4 T) hr aJ (aA (pv 0) (aA (pv 1) aB))))
  (aD (bJ (aS (ig hr.units0) (pv 2) (bH aB)) (aF (aP (bH aB))) aV)
  (aF (aP (aM op_cat (bH (aA (aZ (aK bC (pv 2) aC) rfl) aB)) (gc (xs:=["way"]) rfl (bZ (pv 2))
  (λF fp C' s' H'=>(aR (i:=0) (show(["way"]:List Str).Nodup by decide+kernel))) (λF fp C' s' H'=>eI)
  (λF fp C' s' H'=>(jD rfl (pv 0) rfl))
  (Clos.none (by decide+kernel) (by decide+kernel)) (Reads.many (ys:=[]) (js:=[]) True.intro))))))),?_⟩
 walk_at"q"
 refine⟨_,rfl,_,rfl,p,l,ps,ns,ds,rfl,O,λr H1 ts nr s1 ac R=>?_⟩;refine⟨_,rfl,by decide,λe ne=>?_⟩;have S:=aU (o:=.lst []) ne;have m:=S _ _ ac;refine⟨r,e,ts,rfl,rfl,SqL.of m,SqL.of aE,_,rfl,?_⟩;have G:=R.mono λv y z=>z.mono S;have D:=s1.trans S;generalize upd H1 e (.lst [])=H2 at S m G D⊢
 cases ds with
 |nil=>
  have :=List.length_eq_zero_iff.mp R.1;subst this;refine iteT ⟨by decide,λz nz=>?_⟩;exact k z _ (D.free nz) (D.trans (aU nz)) aE
 |cons d0 dr=>
  cases ts with
  |nil=>cases R.1
  |cons t0 tr=>
   refine iteF ?_;obtain⟨y,U,p0,vh,vc,q,rfl,W,hk⟩:=G.get (i:=0) (t:=t0) rfl
   cases U;obtain⟨dx,fs,ho,h5,_⟩:=W.ob;have c:=cS T d0.kd;refine⟨_,rfl,r,_,_,_,rfl,rfl,SqL.of m,atI_nat (j:=0) rfl,p0,_,dx,fs,_,rfl,ho,c.cl,c.n2,h5.st,zL1,λz1 n1=>?_⟩;have L:=aU (o:=.lst [.str d0.st]) n1;generalize Z:upd H2 z1 (.lst [.str d0.st])=H3 at L⊢;have Y:H3 z1=some (.lst [.str d0.st]):=by rw[<-Z];exact aE
   refine⟨_,rfl,r,rfl,⟨_,SqL.of (L _ _ m)⟩,λz2 n2=>?_⟩;have len:=O.len;refine fQ (K:=K) (a:=r) (xs:=.ref p0::tr) (λi N=>i<=(d0::dr).length×'(∀b o,H3 b=some o->N b=some o)×' N z2=some (.lst (((d0::dr).take i).map λd=>V.str d.go))) ?_ ?_ ?_ ?_
   ·exact⟨lD _,aU n2,aE⟩
   ·rintro i N⟨_,I,_⟩;exact SqL.of (I _ _ (L _ _ m))
   ·rintro i x N hx⟨hi,I,B⟩;refine g1 ⟨⟨[_],rfl,rfl⟩,?_⟩;obtain⟨y,U,p1,ah,ag,q1,rfl,W1,_⟩:=G.get hx;have M:=(kY.mp U).1;obtain⟨aa,ad,ab,ae,_⟩:=W1.ob;have c1:=cS T y.kd;refine yes ⟨_,rfl,p1,_,aa,ad,_,rfl,I _ _ (L _ _ ab),c1.cl,c1.n3,ae.go,_,B,aT (by rw[kX,lI];lia),fE (by rw[R.1];exact M) ⟨M,λb o e=>?_,?_⟩⟩
    ·rw[aG (aN e n2)];exact I _ _ e
    ·rw[aE,lE,U,lL,lj];rfl
   ·rintro N⟨_,I,B⟩;rw[R.1,lA]at B;refine⟨z1,z2,_,_,rfl,rfl,I _ _ Y,B,lC (by simp;simp at len;lia) (Nat.le_of_lt (aT (k5 1000))),λz3 n3=>?_⟩;have J:=D.trans (L.trans I);refine k z3 _ (J.free n3) (J.trans (aU n3)) ?_;rw[aE];show _=some (HO.lst (V.str d0.st::((d0::dr).map (·.go)).map V.str));rw[mz];rfl
noncomputable def aL(ds:List WD):Rat:=ds.foldl (λy d=>y*aW d.kd d.x) 1
theorem gprod_snoc(ds:List WD)(d:WD):aL (ds++[d])=aL ds*aW d.kd d.x:=by
 unfold aL;rw[m7];rfl
theorem kQ(ds:List WD)(h:∀d∈ds,Bd n (aW d.kd d.x)):∀i,i<=ds.length->Bd (i*n) (aL (ds.take i))
 |0,_=>by
  rw[Nat.zero_mul,nS];exact Bd.one
 |i+1,hi=>by
  have a:i<ds.length:=by omega
  rw[lE,lz a,lL,gprod_snoc,Nat.succ_mul];exact(kQ ds h i (by omega)).mul (h _ (List.getElem_mem a))
inductive IspGainOf(K:W.Frag)(a:Ad)(vs:List V)(H:Hp)(Q:VK):Prop
 |mk(p l:Addr)(ps:List (Str×Rat))(ns ds:List WD)(n:Nat)(h1:vs=[.ref p,.ref l])(h2:OnNet K a H p l ps ns ds)(h3:(∀d∈ds,SmR d.x/\Bd n (aW d.kd d.x)))(h4:n<9000)(h5:ds.length*n<9000)(h6:∀r H',Same H H'->FrAt a.Fraction H' r (aL ds)->Q (.ref r) H'):IspGainOf K a vs H Q
noncomputable def spGainOf(K:W.Frag)(a:Ad):Sp:=λvs H Q _=>IspGainOf K a vs H Q
theorem fN(T:TX K mg a):FnB P w K mg base CX0 "gain_of" 9 ["net","walk"] (spGainOf K a):=by
 refine T.d_gain_of.okA sc_gain_of λf X A o s H vs Q E G h=>?_;obtain⟨p,l,ps,ns,j,n,rfl,O,M,hn,F,k⟩:=h
 refine⟨_,(aD (aH (i:=2) sc_gain_of.nd (cJ (mk1 T) G T.mg_Fraction aJ (aA aC aB)))
  (aD (bO lH rfl (bZ (aO (j4 T) G aJ (aA (pv 0) (aA (pv 1) aB)))) (aR (i:=3) sc_gain_of.nd) (aF (aH (i:=2) sc_gain_of.nd (eV (pv 3) G aJ (aA (pv 2) aB)))))
  (aF (aP (pv 2))))),?_⟩
 walk_at"q"
 refine⟨1,1,rfl,by decide,sm1,λg0 H1 n0 J I=>?_⟩;rw[show Rat.divInt 1 1=1 from rfl]at I;refine⟨_,rfl,_,rfl,p,l,ps,ns,j,rfl,O.mono J,λr H2 ts nr S e N=>?_⟩;refine⟨r,rfl,⟨_,SqL.of e⟩,cG (λi σ c=>i<=j.length/\yE2 λz g=>σ=[some (.ref p),some (.ref l),some (.ref g),z]×' Same H2 c×' FrAt a.Fraction c g (aL (j.take i))) ⟨lD _,_,_,rfl,Same.refl _,I.mono S⟩ ((by rintro i σ c _⟨_,_,_,_,b,_⟩;exact SqL.of (b _ _ e))) ?_ ?_⟩
 ·rintro i t σ c ht⟨R,z,g,rfl,b,m⟩;obtain⟨x,ex,L,vh,vc,q,rfl,W,hk⟩:=(N.mono λv y z=>z.mono b).get ht;have D:=(kY.mp ex).1;obtain⟨dx,fs,U,h5,_⟩:=id W.ob;obtain⟨Z,b2⟩:=M x (kZ ex);have bi:=kQ j (λd hd=>(M d hd).2) i R;have B :=ma (m8 _ R) F;refine⟨_,rfl,L,_,dx,fs,8,["self","amount"],spOut a x.kd,rfl,U,h5.ou,(cS T x.kd).cl,by decide,out_any T x.kd,_,rfl,L,g,x.nm,x.st,x.go,vh,vc,q,x.x,_,rfl,W,m,Z,bi.smr B,b2.smr hn,λr' H4 Y f4=>?_⟩;refine⟨D,_,_,rfl,b.trans Y,?_⟩;rw[lE,ex,lL,gprod_snoc];exact f4
 ·rintro σ c⟨_,z,g,rfl,b,m⟩;rw[N.1,lA]at m;exact⟨_,rfl,k g c (J.trans (S.trans b)) m⟩
end
end G
namespace G
open PySem L2
section
theorem Sm.of_le{a:Int}(h:a.natAbs<=2^n)(hn:n<9000):Sm a:=ma h (Nat.pow_lt_pow_right (by decide) hn)
theorem tot_bd{T B o c u:Int}(hT:T.natAbs<=2^s)(hB:B.natAbs<=2^s)(ho:o.natAbs<=2^m)(hc:c.natAbs<=2^m)(hu:u.natAbs<=B.natAbs):
  (T*o+c*u).natAbs<=2^(s+(m+1))/\(B*o).natAbs<=2^(s+(m+1)):=by
 have e:2^(s+(m+1))=2^(s+m)*2:=by rw[<-Nat.add_assoc,Nat.pow_succ]
 constructor
 ·have a:(T*o).natAbs<=2^(s+m):=by rw[l0];exact eF hT ho
  have b:(c*u).natAbs<=2^(m+s):=by rw[l0];exact eF hc (lC hu hB)
  rw[Nat.add_comm m s]at b;have h:=Int.natAbs_add_le (T*o) (c*u)
  lia
 ·have a:(B*o).natAbs<=2^(s+m):=by rw[l0];exact eF hB ho
  lia
theorem TInv.le(I:TInv x T B s):s.natAbs<=B.natAbs:=by
 obtain⟨pB,b,⟨r,a,_⟩,_⟩:=I
 have:=Int.le_of_dvd pB ⟨r,a⟩
 omega
noncomputable def FrIs(a:Ad)(H:Hp)(v:V)(x:Rat):Prop:=∃q,v=.ref q/\FrAt a.Fraction H q x
theorem FrIs.mono(h:FrIs a H v x)(s:Same H H'):FrIs a H' v x:=by
 obtain⟨q,e,f⟩:=h;exact⟨q,e,f.mono s⟩
theorem FrIs.keep(h:FrIs a H v x)(s:KeepD H H'):FrIs a H' v x:=let⟨q,e,d,f⟩:=h;⟨q,e,d,s _ _ f (by intro _ z;cases z) (by intro _ _ z;cases z)⟩
structure TZ(xs:List Rat)(Z:Nat->Int->Int->Prop):Prop where
 z0:Z 0 0 1
 st:∀i y t b,xs[i]?=some y->Z i t b->0<b->Z (i+1) (t*(y.den:Int).fdiv (gcd b y.den)+y.num*b.fdiv (gcd b y.den)) (b*(y.den:Int).fdiv (gcd b y.den))
 sm:∀i t b,i<=xs.length->Z i t b->Sm t/\Sm b
 sy:∀y∈xs,SmR y
noncomputable def TOk(xs:List Rat):Prop:=∃Z,TZ xs Z
theorem BdS.tok(h:BdS xs N)(hN:N<9000):TOk xs:=by
 obtain⟨S,r,o,m⟩:=h.fn;refine⟨λi t b=>t.natAbs<=2^S i/\b.natAbs<=2^S i,⟨lD _,by rw[r];decide⟩,λi y t b e⟨j,c⟩q=>?_,λi t b p⟨j,c⟩=>?_,λy w=>?_⟩
 ·obtain⟨n,a,bs⟩:=m i y e;have l:=dX b (iX y);have x:=den_pos y;have s:((y.den:Int).fdiv (gcd b y.den)).natAbs<=(y.den:Int).natAbs:=fT _ l (by lia);have tb:=tot_bd j c (lC s (by rw[mY];exact a.2)) a.1 (fT _ l (Int.le_of_lt q));exact⟨lC tb.1 (pow_le bs),lC tb.2 (pow_le bs)⟩
 ·have:=o i p
  exact⟨Sm.of_le j (by lia),Sm.of_le c (by lia)⟩
 ·obtain⟨i,e⟩:=lV.mp w;obtain⟨n,a,bs⟩:=m i y e
  have:=o (i+1) (kY.mp e).1
  exact⟨Sm.of_le a.1 (by lia),Sm.of_le (by rw[mY];exact a.2) (by lia)⟩
inductive IspTotal(K:W.Frag)(a:Ad)(vs:List V)(H:Hp)(Q:VK):Prop
 |mk(l:Addr)(ts:List V)(xs:List Rat)(h1:vs=[.ref l])(h2:SqL K H l ts)(h3:RowAt (FrIs a) H ts xs)(h4:TOk xs)(h5:∀(r:Addr)(H':Hp),H r=none->Same H H'->FrAt a.Fraction H' r xs.sum->Q (.ref r) H'):IspTotal K a vs H Q
noncomputable def spTotal(K:W.Frag)(a:Ad):Sp:=λvs H Q _=>IspTotal K a vs H Q
theorem ok_total(T:TX K mg a):FnB P w K mg base CX0 "total" 5 ["some"] (spTotal K a):=by
 refine T.d_total.okA sc_total λf aa A F s H vs Q E q h=>?_;obtain⟨l,ts,xs,rfl,X,fs,⟨Z,z⟩,k⟩:=h
 refine⟨_,(aD (aH (i:=1) sc_total.nd aC)
  (aD (aH (i:=2) sc_total.nd aC)
  (aD (aH (i:=3) sc_total.nd aC)
  (aD (bO lH rfl (bZ (pv 0)) (aR (i:=4) sc_total.nd) (aD (aH (i:=5) sc_total.nd (aO (eD T) q aJ (aA (pv 2) (aA (dZ T.fr (pv 4)) aB))))
  (aD (aH (i:=6) sc_total.nd (aM cQ (dZ T.fr (pv 4)) (pv 5)))
  (aD (aH (i:=1) sc_total.nd (aM bQ (aM cR (pv 1) (pv 6)) (aM cR (dY T.fr (pv 4)) (aM cQ (pv 2) (pv 5)))))
  (aD (aH (i:=2) sc_total.nd (aM cR (pv 2) (pv 6)))
  (aF (aH (i:=3) sc_total.nd (aM cR (pv 3) (aM cQ (pv 5) (aO (eD T) q aJ (aA (pv 3) (aA (pv 5) aB))))))))))))
  (aD (aH (i:=7) sc_total.nd (aO (eD T) q aJ (aA (pv 1) (aA (pv 3) aB))))
  (aF (aP (aO (cN T) q aJ (aA (aM cQ (pv 1) (pv 7)) (aA (aM cQ (pv 2) (pv 7)) aB)))))))))),?_⟩
 walk_at"q"
 refine⟨_,rfl,l,rfl,⟨_,X⟩,cG (K:=K) (a:=l) (xs:=ts) (λi σ o=>i<=xs.length/\yE7 λ(t b s:Int)(N L D J:Option V)=>σ=[some (.ref l),some (.int t),some (.int b),some (.int s),N,L,D,J]×' o=H×' TInv (xs.take i).sum t b s×' Z i t b)
  ⟨lD _,0,1,1,_,_,_,_,rfl,rfl,TInv.zero,z.z0⟩ ((by rintro i σ o _⟨_,_,_,_,_,_,_,_,_,e,_⟩;exact by rw[e];exact X)) ?_ ?_⟩
 ·rintro i u σ o O⟨_,t,b,s,N,L,D,J,rfl,rfl,I,c⟩;have U:i<xs.length:=by rw[<-fs.1];exact(kY.mp O).1
  have ex :=lz U;generalize xs[i]=y at ex;obtain⟨p,rfl,G⟩:=fs.2 i u _ O ex;obtain⟨sn,M⟩:=z.sy y (kZ ex);have S:=dX b (iX y);have B:=Sm.gcd_r b (iX y) M;obtain⟨st,j⟩:=z.sm i t b (by lia) c;have Y:((y.den:Int).fdiv (gcd b y.den)).natAbs<=(y.den:Int).natAbs:=fT _ S (by lia);have lu :=fT _ S (Int.le_of_lt I.pB);have ss :=j.le I.le;have gp:=dX s (b:=gcd b y.den) (by lia);have m:=Sm.gcd_r s (b:=gcd b y.den) (by lia) B;have lc:((gcd b y.den).fdiv (gcd s (gcd b y.den))).natAbs<=(gcd b y.den).natAbs:=fT _ gp (by lia);refine⟨_,rfl,_,rfl,p,y,rfl,G,_,_,rfl,?_⟩;refine⟨_,rfl,p,y,rfl,G,_,rfl,_,_,rfl,rfl,⟨by lia,B⟩,?_⟩;refine⟨_,rfl,_,rfl,_,_,rfl,rfl,⟨st,M.le Y⟩,_,rfl,p,y,rfl,G,_,rfl,_,rfl,_,_,rfl,rfl,⟨by lia,B⟩,_,_,rfl,rfl,⟨sn,j.le lu⟩,_,_,rfl,rfl,?_⟩;refine⟨_,rfl,_,rfl,_,_,rfl,rfl,⟨j,M.le Y⟩,?_⟩;refine⟨_,rfl,_,rfl,_,rfl,_,rfl,_,_,rfl,_,_,rfl,rfl,⟨by lia,m⟩,_,_,rfl,rfl,⟨ss,B.le lc⟩,?_⟩;refine⟨U,_,_,_,_,_,_,_,rfl,rfl,?_,z.st i y t b ex c I.pB⟩;rw[lE,ex,lL,sum_snoc];exact I.step
 ·rintro σ o⟨_,t,b,s,N,L,D,J,rfl,rfl,I,c⟩;rw[fs.1]at I c;rw[lA]at I;have j:=(z.sm _ _ _ (k5 _) c).2;have R:s≠0:=by have:=I.ps;lia
  have gp:=dX t R;have m:=Sm.gcd_r t R (j.le I.le);obtain⟨e1,e2⟩:=I.fin;refine⟨_,rfl,_,rfl,_,_,rfl,?_⟩;refine⟨_,rfl,_,rfl,_,_,rfl,rfl,⟨by lia,m⟩,_,rfl,_,rfl,_,_,rfl,rfl,⟨by lia,m⟩,_,_,rfl,λr dx H' nr s1 h1=>k r H' nr s1 ⟨dx,?_⟩⟩;rw[h1,e1,e2]
end
end G
namespace G
open PySem L2
section
noncomputable def LstIs(a:Ad)(H:Hp)(v:V)(xs:List Rat):Prop:=∃l ts,v=.ref l/\H l=some (.lst ts)/\RowAt (FrIs a) H ts xs
theorem LstIs.mono(h:LstIs a H v xs)(s:Same H H'):LstIs a H' v xs:=by
 obtain⟨l,ts,e,f,r⟩:=h;exact⟨l,ts,e,s _ _ f,r.mono λv x z=>z.mono s⟩
theorem LstIs.keep(h:LstIs a H v xs)(s:KeepD H H'):LstIs a H' v xs:=let⟨l,ts,e,f,r⟩:=h;⟨l,ts,e,s _ _ f (by intro _ z;cases z) (by intro _ _ z;cases z),r.mono λv x z=>z.keep s⟩
noncomputable def going(x:Rat)(ds:List WD):Rat:=ds.foldl (λy d=>y*aW d.kd d.x) x
theorem j7(x:Rat)(ds:List WD)(d:WD):going x (ds++[d])=going x ds*aW d.kd d.x:=by unfold going;rw[m7];rfl
noncomputable def dL:Rat->List WD->List (Str×Rat)
 |_,[]=>[]
 |x,d::r=>(d.nm,x)::dL (x*aW d.kd d.x) r
theorem jZ(ds:List WD)(d:WD):∀x,dL x (ds++[d])=dL x ds++[(d.nm,going x ds)]:=by
 induction ds with
 |nil=>intro x;rfl
 |cons e r ih=>intro x;show _::dL _ (r++[d])=_;rw[ih];rfl
theorem steps_names(ds:List WD):∀x,(dL x ds).map (·.1)=ds.map (·.nm):=by
 induction ds with
 |nil=>intro x;rfl
 |cons e r ih=>intro x;show e.nm::(dL _ r).map _=_;rw[ih];rfl
theorem sgn_zero:sgn x=0↔x=0:=by
 unfold sgn;constructor
 ·intro h
  have:x.num=0:=by
   split at h
   ·cases h
   ·split at h
    ·cases h
    ·lia
  exact Rat.num_eq_zero.mp this
 ·rintro rfl;rfl
noncomputable def gA(f:Str->Rat)(ks:List Str):List Str:=ks.filter (λn=>decide (f n≠0))
theorem some0_snoc(f:Str->Rat)(ks:List Str)(n:Str):gA f (ks++[n])=if f n=0 then gA f ks else gA f ks++[n]:=by
 unfold gA;rw[og];by_cases h:f n=0
 ·rw[if_pos h];simp[h]
 ·rw[if_neg h];simp[h]
inductive IspNoughts(a:Ad)(vs:List V)(H:Hp)(Q:VK):Prop
 |mk(d:Addr)(kvs:List (Key×V))(ks:List Str)(f:Str->Rat)(h1:vs=[.ref d])(h2:H d=some (.dK kvs))(h3:Tab (FrIs a) H kvs ks f)(h4:ks.Nodup)(h5:ks.length<=900)(h6:∀r H' kvs',H r=none->Same H H'->H' r=some (.dK kvs')->Tab (FrIs a) H' kvs' (gA f ks) f->Q (.ref r) H'):IspNoughts a vs H Q
noncomputable def spNoughts(a:Ad):Sp:=λvs H Q _=>IspNoughts a vs H Q
theorem dP(T:TX K mg a):FnB P w K mg base CX0 "without_noughts" 5 ["plan"] (spNoughts a):=by
 refine T.d_without_noughts.okA sc_without_noughts λf ad A aa s H vs Q E hr h=>?_;obtain⟨d,kvs,R,f,rfl,Y,tb,nd,hl,k⟩:=h
 refine⟨_,(aD (aH (i:=1) sc_without_noughts.nd cU)
  (aD (fw (bO lH rfl (fZ (pv 0)) (iS (n:=2) rfl (cF (aR (i:=2) sc_without_noughts.nd) (cF (aR (i:=3) sc_without_noughts.nd) fS))) (aF (bJ (aS op_ne (eT T.fr (pv 3) (eU T) hr aJ) aC) (aF (cI (bI hr) (pv 1) (pv 2) (pv 3) rfl)) aV))))
  (aF (aP (pv 1))))),?_⟩
 walk_at"q"
 intro r X;have U:Same H (upd H r (.dK [])):=aU X;have B:=U _ _ Y;have N:upd H r (.dK []) r=some (.dK []):=aE;have O:=tb.mono λv x z=>z.mono U;generalize upd H r (.dK [])=H0 at U B N O⊢;have I:d≠r:=λz=>by rw[z,X]at Y;cases Y
 refine⟨d,.dK kvs,B,(by intro o z e;cases e),_,rfl,d,kvs,rfl,B,λo=>?_⟩
 refine gJ (λi σ p=>i<=R.length/\yE3 λz2 z3 c=>σ=[some (.ref d),some (.ref r),z2,z3]×' p d=some (.frz o (.dK kvs))×'(∀b J,H b=some J->b≠d->p b=some J)×' KeepD H0 p×' p r=some (.dK c)×' Tab (FrIs a) p c (gA f (R.take i)) f)
  ⟨lD _,_,_,[],rfl,aE,(λb J e ne=>by rw[aG ne];exact U _ _ e),KeepD.put B,by rw[aG I.symm];exact N,Tab.nil⟩ ((by rintro i σ p _⟨_,_,_,_,_,h,_⟩;exact h)) ?_ ?_
 ·rintro i kv t σ p Z nt⟨_,z2,z3,c,rfl,L,S,kp,D,j⟩;obtain⟨n,en,e1,ev,q,eq,fq⟩:=O.at_ nd Z;have hi :=(kY.mp en).1;have ac:kV kv.1=.str n:=by rw[e1];rfl
  rw[ac,eq];obtain⟨H3,zq,l,ht⟩:=uG (o:=.tup [.str n,.ref q]) nt;rw[zq]
  have F:FrAt a.Fraction H3 q (f n):=by
   obtain⟨q',e',f'⟩:=FrIs.keep ⟨q,rfl,fq⟩ (kp.trans (.of l))
   cases e';exact f'
  obtain⟨tk,nk⟩:=eY nd en;refine⟨t,[.str n,.ref q],rfl,SqT.of ht,rfl,.str n,[.ref q],rfl,⟨.ref q,[],rfl,⟨rfl,?_⟩⟩⟩;have fr:=F;refine⟨_,rfl,q,_,rfl,F,?_⟩;walk_at"rd"
  by_cases hz:f n=0
  ·refine hE (by rw[sgn_zero.mpr hz];rfl) ?_;refine⟨hi,_,_,c,rfl,l _ _ L,(λb J e ne=>l _ _ (S _ _ e ne)),kp.trans (.of l),l _ _ D,?_⟩;rw[tk,some0_snoc,if_pos hz];exact j.mono λv x z=>z.mono l
  ·refine kP (by
    rw[lM (λz=>hz (sgn_zero.mp (V.int.inj z)))];rfl) ?_
   have M:=l _ _ D;have ab:¬n∈gA f (R.take i):=λz=>nk (n8.mp z).1
   have ls:c.length<=900:=by
    rw[j.len];have h1:=nh (λn=>decide (f n≠0)) (R.take i);rw[lI]at h1;unfold gA
    lia
   refine⟨_,rfl,_,rfl,_,rfl,r,_,rfl,DPut.k (k:=Sum.inr n) M (aT (by lia)),?_⟩;have G:KeepD H3 (upd H3 r (.dK (cK c (Sum.inr n) (.ref q)))):=KeepD.put M;refine⟨hi,_,_,_,rfl,by rw[aG I];exact l _ _ L,(λb J e ne=>?_),(kp.trans (.of l)).trans G,aE,?_⟩
   ·rw[aG (aN e X)];exact l _ _ (S _ _ e ne)
   ·rw[tk,some0_snoc,if_neg hz,<-gZ ab];refine(Tab.put (j.mono λv x z=>(z.mono l).keep G) (FrIs.keep ⟨q,rfl,F⟩ G)).congr λm _=>?_;unfold upf
    split
    ·rename_i e;rw[e]
    ·rfl
 ·rintro σ p⟨_,z2,z3,c,rfl,L,S,kp,D,j⟩;rw[tb.len,lA]at j;refine⟨o,L,_,rfl,k r _ c X (λb J e=>?_) (by rw[aG I.symm];exact D) (j.mono λv x z=>z.keep (.frz L))⟩;by_cases hb:b=d
  ·subst hb;rw[aE,<-Y,e]
  ·rw[aG hb];exact S _ _ e hb
inductive IspSent(K:W.Frag)(a:Ad)(vs:List V)(H:Hp)(Q:VK):Prop
 |mk(p l q:Addr)(ps:List (Str×Rat))(ns ds:List WD)(x:Rat)(h1:vs=[.ref p,.ref l,.ref q])(h2:OnNet K a H p l ps ns ds)(h3:FrAt a.Fraction H q x)(h4:(∀d∈ds,SmR d.x/\SmR (aW d.kd d.x)))(h5:(∀i,i<=ds.length->SmR (going x (ds.take i))))(h6:(∀n,∃N,BdS (occ (dL x ds) n) N/\N<9000))(h7:∀r H' kvs,H r=none->Same H H'->H' r=some (.dK kvs)->Tab (FrIs a) H' kvs (gA (λn=>(occ (dL x ds) n).sum) (cC (ds.map (·.nm)))) (λn=>(occ (dL x ds) n).sum)->Q (.ref r) H'):IspSent K a vs H Q
noncomputable def spSent(K:W.Frag)(a:Ad):Sp:=λvs H Q _=>IspSent K a vs H Q
theorem ok_sent(T:TX K mg a):FnB P w K mg base CX0 "sent" 9 ["net","walk","amount"] (spSent K a):=by
 refine T.d_sent.okA sc_sent λf be A aw s H vs Q E hr h=>?_;obtain⟨p,l,q,ps,ns,B,x,rfl,O,fq,hg,hb,hB,k⟩:=h
 refine⟨_,(aD (aH (i:=3) sc_sent.nd cU)
  (aD (aH (i:=4) sc_sent.nd (pv 2))
  (aX (bO lH rfl (bZ (aO (j4 T) hr aJ (aA (pv 0) (aA (pv 1) aB)))) (aR (i:=5) sc_sent.nd) (aD (cI (bI hr) (pv 3) (aZ (pv 5) rfl) (aM op_cat (f9 (bI hr) (pv 3) (aZ (pv 5) rfl) (bH aB) ⟨rfl,rfl,rfl,rfl⟩) (bH (aA (pv 4) aB))) rfl)
  (aF (aH (i:=4) sc_sent.nd (eV (CX:=CX0) (pv 5) hr aJ (aA (pv 4) aB))))))
  (aD (aH (i:=6) sc_sent.nd cU)
  (aX (fw (bO lH rfl (fZ (pv 3)) (iS (n:=2) rfl (cF (aR (i:=7) sc_sent.nd) (cF (aR (i:=8) sc_sent.nd) fS))) (aF (cI (bI hr) (pv 6) (pv 7) (aO (ok_total T) hr aJ (aA (pv 8) aB)) rfl))))
  (aF (aP (aO (dP T) hr aJ (aA (pv 6) aB))))))))),?_⟩
 walk_at"q"
 intro F np;have s0:Same H (upd H F (.dK [])):=aU np;have ai:upd H F (.dK []) F=some (.dK []):=aE;generalize upd H F (.dK [])=H0 at s0 ai⊢;refine⟨_,rfl,?_⟩;refine dA (λσ' H'=>yE6 λz5 S z7 R M kvs=>σ'=[some (.ref p),some (.ref l),some (.ref q),some (.ref F),z5,S,z7,R,M]×' Same H H'×' H' F=some (.dK kvs)×' Tab (LstIs a) H' kvs (cC (B.map (·.nm))) (occ (dL x B))) ?_ ?_
 ·refine⟨_,rfl,_,rfl,p,l,ps,ns,B,rfl,O.mono s0,λr H1 ts nr s1 ak hv=>?_⟩;have len:=O.len
  refine⟨r,rfl,⟨_,SqL.of ak⟩,cG (K:=K) (a:=r) (xs:=ts) (λi σ I=>i<=B.length/\yE6 λS z7 R M g kvs=>σ=[some (.ref p),some (.ref l),some (.ref q),some (.ref F),some (.ref g),S,z7,R,M]×' Same H I×' KeepD H1 I×' FrAt a.Fraction I g (going x (B.take i))×' I F=some (.dK kvs)×' Tab (LstIs a) I kvs (cC ((B.take i).map (·.nm))) (occ (dL x (B.take i))))
   ⟨lD _,_,_,_,_,q,[],rfl,s0.trans s1,.of (Same.refl _),fq.mono (s0.trans s1),s1 _ _ ai,Tab.nil⟩ ((by rintro i σ I _⟨_,_,_,_,_,_,_,_,_,kp,_⟩;exact SqL.of (kp _ _ ak (by intro _ z;cases z) (by intro _ _ z;cases z)))) ?_ ?_⟩
  ·rintro i t σ I ht⟨hi,S,z7,R,M,g,kvs,rfl,s2,kp,fg,D,tb⟩;obtain⟨y,ey,wy⟩:=hv.get ht;have a6:=(kY.mp ey).1;have a4:WayIs a I t y:=wy.keep λb C dx fs _ e=>kp _ _ e (by intro _ z;cases z) (by intro _ _ z;cases z);obtain⟨p1,vh,vc,q1,rfl,W,hk⟩:=a4;obtain⟨dx,fs,ho,h5,_⟩:=id W.ob;have c:=cS T y.kd;refine⟨_,rfl,F,rfl,.inl ⟨kvs,.inl D⟩,_,rfl,p1,_,dx,fs,_,rfl,ho,c.cl,c.n1,h5.nm,by decide,λe ne=>?_⟩;obtain⟨J,zq,Z,he⟩:=uG (o:=.lst []) ne;rw[zq];have a5:=Z _ _ D;refine⟨_,DGet.k (k:=Sum.inr y.nm) a5,?_⟩;have af:=tb.mono λv x z=>z.mono Z
   have ad:LstIs a J ((cV kvs (Sum.inr y.nm)).getD (.ref e)) (occ (dL x (B.take i)) y.nm):=by
    by_cases hn:y.nm∈cC ((B.take i).map (·.nm))
    ·obtain⟨v,ev,r⟩:=af.vals _ hn;rw[ev];exact r
    ·rw[af.none hn,occ_none (by rw[steps_names];exactλz=>hn (mem_keysOf.mpr z))];exact⟨e,[],rfl,he,RowAt.nil⟩
   generalize(cV kvs (Sum.inr y.nm)).getD (.ref e)=vl at ad⊢;obtain⟨e1,ac,rfl,a0,aj⟩:=ad;refine⟨_,rfl,zL1,λe2 ay=>?_⟩;obtain⟨H4,zq,s4,as⟩:=uG (o:=.lst [.ref g]) ay;rw[zq]
   have bc:(occ (dL x (B.take i)) y.nm).length<=i:=by
    unfold occ;rw[kX];refine lC (nh _ _) ?_
    have:=mj List.length (steps_names (B.take i) x)
    rw[kX,kX,lI]at this
    lia
   refine⟨e1,e2,_,_,rfl,rfl,s4 _ _ a0,as,lC (by rw[aj.1];simp;lia) (Nat.le_of_lt (aT (k5 1000))),λe3 a9=>?_⟩;obtain⟨H5,zq,s5,al⟩:=uG (o:=.lst (ac++[.ref g])) a9;rw[zq];have ag:=s4.trans s5;have U:=Z.trans ag
   have lk:kvs.length<=900:=by
    rw[tb.len]
    have:=dQ ((B.take i).map (·.nm))
    rw[kX,lI]at this
    lia
   refine⟨_,rfl,_,rfl,p1,_,dx,fs,_,rfl,U _ _ ho,c.cl,c.n1,h5.nm,F,_,rfl,DPut.k (k:=Sum.inr y.nm) (U _ _ D) (aT (by lia)),?_⟩;have G:KeepD H5 (upd H5 F (.dK (cK kvs (Sum.inr y.nm) (.ref e3)))):=KeepD.put (U _ _ D);have an:LstIs a H5 (.ref e3) (occ (dL x (B.take i)) y.nm++[going x (B.take i)]):=⟨e3,_,rfl,al,(aj.mono λv x z=>z.mono ag).snoc ⟨g,rfl,fg.mono U⟩⟩;have ar:=Tab.put (n:=y.nm) (af.mono λv x z=>(z.mono ag).keep G) (an.keep G);have s6:=aY (o:=.dK (cK kvs (Sum.inr y.nm) (.ref e3))) np (s2.trans U);have am:upd H5 F (.dK (cK kvs (Sum.inr y.nm) (.ref e3))) F=some (.dK (cK kvs (Sum.inr y.nm) (.ref e3))):=aE;generalize upd H5 F (.dK (cK kvs (Sum.inr y.nm) (.ref e3)))=H6 at G ar s6 am⊢;have aa:KeepD I H6:=(KeepD.of U).trans G;have W6:=W.keep λb C dx fs _ e=>aa _ _ e (by intro _ z;cases z) (by intro _ _ z;cases z);obtain⟨ba,a7,a3,az,_⟩:=id W6.ob
   have ax:FrAt a.Fraction H6 g (going x (B.take i)):=by
    obtain⟨q',e',f'⟩:=FrIs.keep ⟨g,rfl,fg⟩ aa
    cases e';exact f'
   obtain⟨b1,b2⟩:=hg y (kZ ey);refine⟨_,rfl,p1,_,ba,a7,8,["self","amount"],spOut a y.kd,rfl,a3,az.ou,c.cl,by decide,out_any T y.kd,_,rfl,p1,g,y.nm,y.st,y.go,vh,vc,q1,y.x,_,rfl,W6,ax,b1,hb i hi,b2,λr' H7 s7 f7=>?_⟩;refine⟨a6,_,_,_,_,r',_,rfl,s6.trans s7,(kp.trans aa).trans (.of s7),?_,s7 _ _ am,?_⟩
   ·rw[lE,ey,lL,j7];exact f7
   ·rw[lE,ey,lL,lj,mw,nZ,gj,jZ];refine(ar.mono λv x z=>z.mono s7).congr λm _=>?_;rw[occ_snoc];unfold upf;by_cases e:m=y.nm
    ·rw[if_pos e,if_pos e.symm,e]
    ·rw[if_neg e,if_neg λz=>e z.symm]
  ·rintro σ I⟨_,S,z7,R,M,g,kvs,rfl,s2,kp,fg,D,tb⟩;rw[hv.1,lA]at tb;exact⟨_,_,_,_,_,kvs,rfl,s2,D,tb⟩
 rintro zU ah σ' H1⟨z5,S,z7,R,M,kvs,rfl,s1,au,tb⟩;subst ah;intro Y nq;have ae:Y≠F:=λz=>by rw[z,au]at nq;cases nq
 have s2:Same H1 (upd H1 Y (.dK [])):=aU nq;have ao:upd H1 Y (.dK []) Y=some (.dK []):=aE;generalize upd H1 Y (.dK [])=I at s2 ao⊢;have aq:=tb.mono λv x z=>z.mono s2;have D:=s2 _ _ au;have ab:=gG (B.map (·.nm))
 have ap:(cC (B.map (·.nm))).length<=900:=by
  have h1:=dQ (B.map (·.nm));have h2:=O.len;rw[kX]at h1
  lia
 generalize cC (B.map (·.nm))=ks at tb aq ab ap k;refine dA (λσ' H'=>yE5 λz5 S R M j=>σ'=[some (.ref p),some (.ref l),some (.ref q),some (.ref F),z5,S,some (.ref Y),R,M]×' Same H H'×' H' Y=some (.dK j)×' Tab (FrIs a) H' j ks (λn=>(occ (dL x B) n).sum)) ?_ ?_
 ·refine⟨F,.dK kvs,D,(by intro o z e;cases e),_,rfl,F,kvs,rfl,D,λo=>?_⟩
  refine gJ (a:=F) (o:=o) (kvs:=kvs) (λi σ J=>i<=ks.length/\yE5 λz5 S R M j=>σ=[some (.ref p),some (.ref l),some (.ref q),some (.ref F),z5,S,some (.ref Y),R,M]×' J F=some (.frz o (.dK kvs))×' Same H J×' KeepD I J×' J Y=some (.dK j)×' Tab (FrIs a) J j (ks.take i) (λn=>(occ (dL x B) n).sum))
   ⟨lD _,_,_,_,_,[],rfl,aE,aY np (s1.trans s2),KeepD.put D,by rw[aG ae];exact ao,Tab.nil⟩ ((by rintro i σ I _⟨_,_,_,_,_,_,_,h,_⟩;exact h)) ?_ ?_
  ·rintro i kv t σ J av nt⟨_,z5,S,R,M,j,rfl,hf,Z,kp,X,tq⟩;obtain⟨n,en,e1,ev,vl⟩:=aq.at_ ab av;have hi:i<ks.length:=(kY.mp en).1;have bb:kV kv.1=.str n:=by rw[e1];rfl
   obtain⟨le,ts,el,hl,a1⟩:=vl.keep kp;rw[bb,el];obtain⟨H4,zq,s4,ht⟩:=uG (o:=.tup [.str n,.ref le]) nt;rw[zq];obtain⟨tk,nk⟩:=eY ab en;refine⟨t,[.str n,.ref le],rfl,SqT.of ht,rfl,.str n,[.ref le],rfl,⟨.ref le,[],rfl,⟨rfl,?_⟩⟩⟩;obtain⟨N,bN,hN⟩:=hB n;refine⟨_,rfl,le,ts,_,rfl,SqL.of (s4 _ _ hl),a1.mono λv x z=>z.mono s4,bN.tok hN,λr H5 nr s5 f5=>?_⟩;have L:=s4.trans s5
   have lq:j.length<=900:=by
    rw[tq.len,lI]
    lia
   refine⟨_,rfl,_,rfl,Y,_,rfl,DPut.k (k:=Sum.inr n) (L _ _ X) (aT (by lia)),?_⟩;have G:KeepD H5 (upd H5 Y (.dK (cK j (Sum.inr n) (.ref r)))):=KeepD.put (L _ _ X);refine⟨hi,_,_,_,_,_,rfl,by rw[aG ae.symm];exact L _ _ hf,aY (s1.free nq) (Z.trans L),(kp.trans (.of L)).trans G,aE,?_⟩;rw[tk,<-gZ nk];refine(Tab.put (n:=n) (tq.mono λv x z=>(z.mono L).keep G) (y:=(occ (dL x B) n).sum) (FrIs.keep ⟨r,rfl,f5⟩ G)).congr λm _=>?_;unfold upf
   split
   ·rename_i e;rw[e]
   ·rfl
  ·rintro σ J⟨_,z5,S,R,M,j,rfl,hf,Z,kp,X,tq⟩;rw[tb.len,lA]at tq;exact⟨o,hf,_,_,_,_,j,rfl,aY np Z,by rw[aG ae];exact X,tq.mono λv x z=>z.keep (.frz hf)⟩
 rintro zU ah σ' J⟨z5,S,R,M,j,rfl,Z,X,tq⟩;subst ah;exact⟨_,rfl,Y,j,ks,_,rfl,X,tq,ab,ap,λr H4 a8 nr s4 a2 tr=>k r H4 a8 (Z.free nr) (Z.trans s4) a2 tr⟩
end
end G
namespace G
open PySem L2
section
noncomputable def NetOff(a:Ad)(H:Hp)(p d:Addr)(ps:List (Str×Rat))(ds:List WD):Prop:=∃H0,NetAt a H0 p ps ds/\Same H0 H/\H0 d=none
theorem NetOff.mono(h:NetOff a H p d ps ds)(s:Same H H'):NetOff a H' p d ps ds:=by
 obtain⟨H0,n,s0,e⟩:=h;exact⟨H0,n,s0.trans s,e⟩
theorem NetOff.at_(h:NetOff a H p d ps ds):NetAt a H p ps ds:=by
 obtain⟨_,n,s0,_⟩:=h;exact n.mono s0
theorem NetOff.but(h:NetOff a H p d ps ds)(k:∀b ob,H b=some ob->b≠d->H' b=some ob):NetOff a H' p d ps ds:=by
 obtain⟨H0,n,s0,e⟩:=h;exact⟨H0,n,λb ob x=>k b ob (s0 b ob x) (aN x e),e⟩
inductive IspNNames(a:Ad)(vs:List V)(H:Hp)(Q:VK):Prop
 |mk(p:Addr)(ps:List (Str×Rat))(ds:List WD)(h1:vs=[.ref p])(h2:NetAt a H p ps ds)(h3:∀l,H l=none->Q (.ref l) (upd H l (.lst (ps.map λx=>V.str x.1)))):IspNNames a vs H Q
noncomputable def spNNames(a:Ad):Sp:=λvs H Q _=>IspNNames a vs H Q
theorem ok_Net_names(T:TX K mg a):MtB P w K mg base CX0 a.Net "names" 1 ["self"] (spNNames a):=by
 refine T.m_Net_names.okA sc_Net_names λf o A c s H F Q E z h=>?_;obtain⟨p,j,G,rfl,⟨B,m,D,i,⟨b,r,y,I⟩,J⟩,k⟩:=h;refine⟨_,(aF (aP (eJ (fI z.hd) (by rfl) T.z_list nM (aA (aZ (pv 0) rfl) aB)))),?_⟩;walk_at"q"
 refine⟨_,rfl,p,_,B,_,_,rfl,i,T.cl_Net,T.na_Net_wants,fsN_w _ _,m,b,rfl,.inl r,λl t=>?_⟩
 have e:(b.map λq=>kV q.1)=j.map λx=>V.str x.1:=by
  have:=mj (List.map kV) y
  rw[mz,mz]at this;exact this
 rw[e];exact k l t
inductive IspNAll(a:Ad)(vs:List V)(H:Hp)(Q:VK):Prop
 |mk(p:Addr)(ps:List (Str×Rat))(ds:List WD)(h1:vs=[.ref p])(h2:NetAt a H p ps ds)(h3:∀l H' ts,H l=none->Same H H'->H' l=some (.lst ts)->RowAt (WayIs a) H' ts ds->Q (.ref l) H'):IspNAll a vs H Q
noncomputable def spNAll(a:Ad):Sp:=λvs H Q _=>IspNAll a vs H Q
theorem ok_Net_all_ways(T:TX K mg a):MtB P w K mg base CX0 a.Net "all_ways" 1 ["self"] (spNAll a):=by
 refine T.m_Net_all_ways.okA sc_Net_all_ways λf t A e s H I Q E G h=>?_;obtain⟨p,L,J,rfl,⟨B,M,c,r,O,⟨b,j,N,D⟩⟩,k⟩:=h;refine⟨_,(aF (aP (eJ (call_list_vals G.hd) (by rfl) T.z_list nM (aA (pe_bm0 PySem.F.plainAttrs_dict PySem.F.slot_dict_values PySem.F.type_dict_values mt_values (aZ (pv 0) rfl)) aB)))),?_⟩;walk_at"q"
 refine⟨_,rfl,p,_,B,_,_,rfl,r,T.cl_Net,T.na_Net_ways,fsN_y _ _,(.inr (.inr (.inl ⟨rfl,.inl ⟨b,j⟩⟩))),c,b,rfl,rfl,.inl j,λv y=>?_⟩;have i:=aU (o:=ViewO v c) y;refine⟨v,c,b,rfl,aE,.inl (i _ _ j),λl q=>?_⟩;have m:=i.trans (aU (o:=.lst (b.map (·.2))) q);exact k l _ _ (i.free q) m aE (D.mono λv x z=>z.mono m)
noncomputable def bM(ks:List Str)(f:Str->Rat)(n:Str):Rat:=if n∈ks then f n else 0
inductive IspAmount(a:Ad)(vs:List V)(H:Hp)(Q:VK):Prop
 |mk(d:Addr)(kvs:List (Key×V))(ks:List Str)(f:Str->Rat)(n:Str)(h1:vs=[.ref d,.str n])(h2:Rd H d (.dK kvs))(h3:Tab (FrIs a) H kvs ks f)(h4:∀q H',Same H H'->FrAt a.Fraction H' q (bM ks f n)->Q (.ref q) H'):IspAmount a vs H Q
noncomputable def spAmount(a:Ad):Sp:=λvs H Q _=>IspAmount a vs H Q
theorem ok_amount(T:TX K mg a):FnB P w K mg base CX0 "amount" 5 ["plan","name"] (spAmount a):=by
 refine T.d_amount.okA sc_amount λf r A e s H B Q E p h=>?_;obtain⟨d,b,y,f,n,rfl,m,tb,k⟩:=h;refine⟨_,(aF (aP (f9 (bI p) (pv 0) (pv 1) (cJ (mk1 T) p T.mg_Fraction aJ (aA aC aB)) ⟨rfl,rfl,rfl,rfl⟩))),?_⟩;walk_at"q"
 refine⟨_,rfl,d,rfl,.inl ⟨b,m⟩,_,rfl,0,1,rfl,by decide,sm1,λz j D c l=>?_⟩;have i:Rd j d (.dK b):=m.imp (λh=>c _ _ h) (by rintro⟨o,h⟩;exact⟨o,c _ _ h⟩);refine⟨cV b (Sum.inr n),.inl ⟨b,Sum.inr n,i,rfl,rfl⟩,?_⟩;unfold bM at k;by_cases hn:n∈y
 ·obtain⟨v,ev,q,rfl,t⟩:=tb.vals n hn;rw[ev];rw[if_pos hn]at k;exact k q j c (t.mono c)
 ·rw[tb.none hn];rw[if_neg hn]at k;rw[Rat.zero_divInt]at l;exact k z j c l
noncomputable def sumStep(A:Str->Rat)(F:Str->Rat)(d:WD):Str->Rat:=upf (upf F d.st (F d.st-A d.nm)) d.go (F d.go+A d.nm*aW d.kd d.x)
noncomputable def bK(A:Str->Rat)(ds:List WD):Str->Rat:=ds.foldl (sumStep A) (λ_=>0)
theorem gH(A:Str->Rat)(ds:List WD)(d:WD):bK A (ds++[d])=sumStep A (bK A ds) d:=by unfold bK;rw[m7];rfl
structure SumOk(A:Str->Rat)(ps:List (Str×Rat))(ds:List WD):Prop where
 np:(ps.map (·.1)).Nodup
 lp:ps.length<=900
 io:∀d∈ds,d.st∈ps.map (·.1)/\d.go∈ps.map (·.1)
 ne:∀d∈ds,d.st≠d.go
 sx:∀d∈ds,SmR d.x/\SmR (aW d.kd d.x)
 sa:∀d∈ds,SmR (A d.nm)/\SmR (A d.nm*aW d.kd d.x)
 sf:∀i s,SmR (bK A (ds.take i) s)
inductive IspSumsOwn(a:Ad)(vs:List V)(H:Hp)(Q:VK):Prop
 |mk(p d:Addr)(ps:List (Str×Rat))(ds:List WD)(kvs:List (Key×V))(ks:List Str)(f:Str->Rat)(h1:vs=[.ref p,.ref d])(h2:NetAt a H p ps ds)(h3:H d=some (.dK kvs))(h4:Tab (FrIs a) H kvs ks f)(h5:SumOk (bM ks f) ps ds)(h6:∀r H' kvr,H r=none->Same H H'->H' r=some (.dK kvr)->Tab (FrIs a) H' kvr (ps.map (·.1)) (bK (bM ks f) ds)->Q (.ref r) H'):IspSumsOwn a vs H Q
noncomputable def spSumsOwn(a:Ad):Sp:=λvs H Q _=>IspSumsOwn a vs H Q
theorem jG(T:TX K mg a):FnB P w K mg base CX0 "sums_of_own_ways" 9 ["net","plan"] (spSumsOwn a):=by
 refine T.d_sums_of_own_ways.okA sc_sums_of_own_ways λf a3 A ap s H vs Q E L h=>?_;obtain⟨p,d,B,ds,aq,ks,f,rfl,hn,hd,tb,ok,k⟩:=h
 refine⟨_,(aD (aH (i:=2) sc_sums_of_own_ways.nd cU)
  (aX (bO lH rfl (bZ (pe_mtD0 (CX:=CX0) (pv 0) L aJ)) (aR (i:=3) sc_sums_of_own_ways.nd) (aF (cI (bI L) (pv 2) (pv 3) (cJ (mk1 T) L T.mg_Fraction aJ (aA aC aB)) rfl)))
  (aD (bO lH rfl (bZ (pe_mtD0 (CX:=CX0) (pv 0) L aJ)) (aR (i:=4) sc_sums_of_own_ways.nd) (aD (aH (i:=5) sc_sums_of_own_ways.nd (aO (ok_amount T) L aJ (aA (pv 1) (aA (aZ (pv 4) rfl) aB))))
  (aD (cI (bI L) (pv 2) (aZ (pv 4) rfl) (cM T.fr (cE (bI L) (pv 2) (aZ (pv 4) rfl) (λ_ _=>rfl)) (eR T) L aJ (aA (pv 5) aB)) rfl)
  (aF (cI (bI L) (pv 2) (aZ (pv 4) rfl) (cM T.fr (cE (bI L) (pv 2) (aZ (pv 4) rfl) (λ_ _=>rfl)) (ok_plus T) L aJ (aA (eV (CX:=CX0) (pv 4) L aJ (aA (pv 5) aB)) aB)) rfl)))))
  (aF (aP (pv 2)))))),?_⟩
 walk_at"q"
 intro r nr;have s0:Same H (upd H r (.dK [])):=aU nr;have ah:upd H r (.dK []) r=some (.dK []):=aE;generalize upd H r (.dK [])=H0 at s0 ah⊢;refine dA (λσ' H'=>yE4 λX Y U j=>σ'=[some (.ref p),some (.ref d),some (.ref r),X,Y,U]×' Same H H'×' H' r=some (.dK j)×' Tab (FrIs a) H' j (B.map (·.1)) (λ_=>0)) ?_ ?_
 ·obtain⟨dx,dw,dy,hp,hw,hy⟩:=hn.mono s0;refine⟨_,rfl,p,a.Net,dx,_,1,["self"],spNNames a,rfl,hp,iV _ _ (by decide+kernel) (by decide+kernel),T.cl_Net,by decide,ok_Net_names T,p,B,ds,rfl,⟨dx,dw,dy,hp,hw,hy⟩,λl nl=>?_⟩;obtain⟨H1,zq,s1,hl⟩:=uG (o:=.lst (B.map λx=>V.str x.1)) nl;rw[zq];have lr:l≠r:=λz=>by rw[z,ah]at nl;cases nl
  refine⟨l,rfl,⟨_,SqL.of hl⟩,cG (K:=K) (a:=l) (xs:=B.map λx=>V.str x.1) (λi σ Z=>i<=B.length/\yE4 λX Y U j=>σ=[some (.ref p),some (.ref d),some (.ref r),X,Y,U]×' Same H Z×' Z l=some (.lst (B.map λx=>V.str x.1))×' Z r=some (.dK j)×' Tab (FrIs a) Z j ((B.map (·.1)).take i) (λ_=>0))
   ⟨lD _,_,_,_,[],rfl,s0.trans s1,hl,s1 _ _ ah,Tab.nil⟩ ((by rintro i σ Z _⟨_,_,_,_,_,_,_,h,_⟩;exact SqL.of h)) ?_ ?_⟩
  ·rintro i t σ Z ht⟨hi,X,Y,U,j,rfl,s2,N,aa,tr⟩;rw[lg]at ht
   cases ex:B[i]? with
   |none=>rw[ex]at ht;cases ht
   |some x=>
    rw[ex]at ht
    cases ht;have ad:=(kY.mp ex).1;have en:(B.map (·.1))[i]?=some x.1:=by rw[lg,ex];rfl
    obtain⟨tk,nk⟩:=eY ok.np en;refine⟨0,1,rfl,by decide,sm1,λz D nz M f3=>?_⟩;rw[Rat.zero_divInt]at f3
    have lk:j.length<=900:=by
     rw[tr.len,lI,kX]
     have:=ok.lp
     lia
    refine⟨_,rfl,_,rfl,r,_,rfl,DPut.k (k:=Sum.inr x.1) (M _ _ aa) (aT (by lia)),?_⟩;have kp:KeepD D (upd D r (.dK (cK j (Sum.inr x.1) (.ref z)))):=KeepD.put (M _ _ aa);refine⟨ad,_,_,_,_,rfl,aY nr (s2.trans M),by rw[aG lr];exact M _ _ N,aE,?_⟩;rw[tk,<-gZ nk];refine(Tab.put (n:=x.1) (tr.mono λv x z=>(z.mono M).keep kp) (y:=0) (FrIs.keep ⟨z,rfl,f3⟩ kp)).congr λm _=>?_;unfold upf
    split<;>rfl
  ·rintro σ Z⟨_,X,Y,U,j,rfl,s2,N,aa,tr⟩;rw[kX]at tr;rw[show B.length=(B.map (·.1)).length by rw[kX],lA]at tr;exact⟨_,_,_,j,rfl,s2,aa,tr⟩
 rintro zU az σ' H1⟨X,Y,U,j,rfl,s1,aw,tr⟩;obtain⟨dx,dw,dy,hp,hw,hy⟩:=hn.mono s1;subst az;refine⟨_,rfl,p,a.Net,dx,_,1,["self"],spNAll a,rfl,hp,iV _ _ (by decide+kernel) (by decide+kernel),T.cl_Net,by decide,ok_Net_all_ways T,p,B,ds,rfl,⟨dx,dw,dy,hp,hw,hy⟩,λl Z ts nl s2 N hv=>?_⟩
 refine⟨l,rfl,⟨_,SqL.of N⟩,cG (K:=K) (a:=l) (xs:=ts) (λi σ D=>i<=ds.length/\yE4 λX Y U j=>σ=[some (.ref p),some (.ref d),some (.ref r),X,Y,U]×' Same H D×' KeepD Z D×' D r=some (.dK j)×' Tab (FrIs a) D j (B.map (·.1)) (bK (bM ks f) (ds.take i)))
  ⟨lD _,_,_,_,j,rfl,s1.trans s2,.of (Same.refl _),s2 _ _ aw,tr.mono λv x z=>z.mono s2⟩ ((by rintro i σ D _⟨_,_,_,_,_,_,_,kp,_⟩;exact SqL.of (kp _ _ N (by intro _ z;cases z) (by intro _ _ z;cases z)))) ?_ ?_⟩
 ·rintro i t σ D ht⟨hi,X,Y,U,j,rfl,M,kp,O,G⟩;obtain⟨y,ey,wy⟩:=hv.get ht;have ad:=(kY.mp ey).1;have my:=kZ ey;have au:WayIs a D t y:=wy.keep λb C dx fs _ e=>kp _ _ e (by intro _ z;cases z) (by intro _ _ z;cases z);obtain⟨p1,vh,vc,q1,rfl,W,hk⟩:=au;obtain⟨ae,al,ho,h5,_⟩:=id W.ob;have c:=cS T y.kd;obtain⟨i1,i2⟩:=ok.io y my;obtain⟨a1,a2⟩:=ok.sa y my;obtain⟨x1,x2⟩:=ok.sx y my;have as:=ok.ne y my
  have lk:j.length<=900:=by
   rw[G.len,kX];exact ok.lp
  refine⟨_,rfl,_,rfl,p1,_,ae,al,_,rfl,ho,c.cl,c.n1,h5.nm,d,aq,ks,f,y.nm,rfl,.inl (M _ _ hd),tb.mono (λv x z=>z.mono M),λq H4 s4 f4=>?_⟩;have ay:=s4 _ _ ho;obtain⟨v1,ax,r1,rfl,ao⟩:=(G.mono λv x z=>z.mono s4).vals _ i1;refine⟨_,rfl,_,rfl,p1,_,ae,al,_,rfl,ay,c.cl,c.n2,h5.st,r,_,rfl,.inl ⟨j,Sum.inr y.st,.inl (s4 _ _ O),rfl,ax.symm⟩,r1,_,rfl,ao,_,rfl,r1,q,_,_,rfl,ao,f4,ok.sf i _,a1,True.intro,λr2 H5 a0 s5 f5=>?_⟩;have F:=s4.trans s5;refine⟨_,rfl,_,rfl,p1,_,ae,al,_,rfl,F _ _ ho,c.cl,c.n2,h5.st,r,_,rfl,DPut.k (k:=Sum.inr y.st) (F _ _ O) (aT (by lia)),?_⟩;have I:KeepD H5 (upd H5 r (.dK (cK j (Sum.inr y.st) (.ref r2)))):=KeepD.put (F _ _ O);have R:=Tab.put (n:=y.st) (G.mono λv x z=>(z.mono F).keep I) (FrIs.keep ⟨r2,rfl,f5⟩ I);have s6:=aY (o:=.dK (cK j (Sum.inr y.st) (.ref r2))) nr (M.trans F);have S:upd H5 r (.dK (cK j (Sum.inr y.st) (.ref r2))) r=some (.dK (cK j (Sum.inr y.st) (.ref r2))):=aE;have av:(cK j (Sum.inr y.st:Key) (.ref r2)).length<=901:=lC (jt _ _ _) (by lia);generalize cK j (Sum.inr y.st) (.ref r2)=an at I R s6 S av⊢;generalize upd H5 r (.dK an)=H6 at I R s6 S⊢;rw[show addK (B.map (·.1)) y.st=B.map (·.1) from if_pos i1]at R;have ab:KeepD D H6:=(KeepD.of F).trans I;have W6:=W.keep λb C dx fs _ e=>ab _ _ e (by intro _ z;cases z) (by intro _ _ z;cases z);obtain⟨aj,af,ac,ag,_⟩:=id W6.ob;obtain⟨q6,e6,f6⟩:=FrIs.keep ⟨q,rfl,f4⟩ ((KeepD.of s5).trans I)
  cases e6;obtain⟨v7,ar,r7,rfl,ak⟩:=R.vals _ i2;rw[jd (Ne.symm as)]at ak;refine⟨_,rfl,_,rfl,p1,_,aj,af,_,rfl,ac,c.cl,c.n3,ag.go,r,_,rfl,.inl ⟨_,Sum.inr y.go,.inl S,rfl,ar.symm⟩,r7,_,rfl,ak,_,rfl,p1,_,aj,af,8,["self","amount"],spOut a y.kd,rfl,ac,ag.ou,c.cl,by decide,out_any T y.kd,_,rfl,p1,q,y.nm,y.st,y.go,vh,vc,q1,y.x,_,rfl,W6,f6,x1,a1,x2,λr8 H7 s7 f7=>?_⟩;refine⟨r7,r8,_,_,rfl,ak.mono s7,f7,ok.sf i _,a2,True.intro,λr9 H8 a4 s8 f8=>?_⟩;have J:=s7.trans s8;refine⟨_,rfl,_,rfl,p1,_,aj,af,_,rfl,J _ _ ac,c.cl,c.n3,ag.go,r,_,rfl,DPut.k (k:=Sum.inr y.go) (J _ _ S) (aT (by lia)),?_⟩;have ai:KeepD H8 (upd H8 r (.dK (cK an (Sum.inr y.go) (.ref r9)))):=KeepD.put (J _ _ S);have am:=Tab.put (n:=y.go) (R.mono λv x z=>(z.mono J).keep ai) (FrIs.keep ⟨r9,rfl,f8⟩ ai);rw[show addK (B.map (·.1)) y.go=B.map (·.1) from if_pos i2]at am;refine⟨ad,_,_,_,_,rfl,aY nr (s6.trans J),((kp.trans ab).trans (.of J)).trans ai,aE,?_⟩;rw[lE,ey,lL,gH];exact am
 ·rintro σ D⟨_,X,Y,U,j,rfl,M,kp,O,G⟩;rw[hv.1,lA]at G;exact⟨_,rfl,k r D j nr M O G⟩
inductive IspRefO(a:Ad)(vs:List V)(H:Hp)(Q:VK):Prop
 |mk(p d:Addr)(ps:List (Str×Rat))(ds:List WD)(kvs:List (Key×V))(ks:List Str)(f:Str->Rat)(h1:vs=[.ref p,.ref d])(h2:NetOff a H p d ps ds)(h3:(ds.map (·.nm)).Nodup)(h4:H d=some (.dK kvs))(h5:Tab (FrIs a) H kvs ks f)(h6:ks.Nodup)(h7:(∀n∈ks,n∈ds.map (·.nm)))(h8:∀H',Same H H'->Q .non H'):IspRefO a vs H Q
noncomputable def spRefO(a:Ad):Sp:=λvs H Q _=>IspRefO a vs H Q
theorem ja(T:TX K mg a):FnB P w K mg base CX0 "refuse_other_names" 2 ["net","plan"] (spRefO a):=by
 refine T.d_refuse_other_names.okA sc_refuse_other_names λf N A r s H vs Q E hr h=>?_;obtain⟨p,d,X,L,kvs,ks,f,rfl,U,Z,D,tb,q,sub,k⟩:=h;refine⟨_,(aF (fw (bO lH rfl (iR (pv 1)) (aR (i:=2) sc_refuse_other_names.nd) (aF (bY (eV (pv 0) hr aJ (aA (pv 2) aB))))))),?_⟩;walk_at"q"
 refine⟨d,.dK kvs,D,(by intro o z e;cases e),_,rfl,d,kvs,rfl,D,λo=>?_⟩
 refine jv (λi σ c=>yE1 λz=>σ=[some (.ref p),some (.ref d),z]×' c d=some (.frz o (.dK kvs))×'∀b l,H b=some l->b≠d->c b=some l)
  ⟨_,rfl,aE,λb l e ne=>by rw[aG ne];exact e⟩ ((by rintro i σ c _⟨_,_,h,_⟩;exact h)) ?_ ?_
 ·rintro i O σ c m⟨z,rfl,B,j⟩;obtain⟨n,S,I,ev,_⟩:=tb.at_ q m;have t:kV O.1=.str n:=by rw[I];rfl
  rw[t];obtain⟨y,Y,rfl⟩:=k8.mp (sub n (kZ S));obtain⟨G,M,J,F,R,hy⟩:=(U.but j).at_;refine⟨_,rfl,p,a.Net,G,_,1,["self","name"],fW a,rfl,F,iV _ _ (by decide+kernel) (by decide+kernel),T.cl_Net,by decide,eX T,_,rfl,p,X,L,y,rfl,⟨G,M,J,F,R,hy⟩,Z,Y,λv _=>?_⟩;exact⟨_,rfl,B,j⟩
 ·rintro σ c⟨z,rfl,B,j⟩;refine⟨o,B,k _ λb l e=>?_⟩;by_cases hb:b=d
  ·subst hb;rw[aE,<-D,e]
  ·rw[aG hb];exact j _ _ e hb
inductive IspSums(a:Ad)(vs:List V)(H:Hp)(Q:VK):Prop
 |mk(p d:Addr)(ps:List (Str×Rat))(ds:List WD)(kvs:List (Key×V))(ks:List Str)(f:Str->Rat)(h1:vs=[.ref p,.ref d])(h2:NetOff a H p d ps ds)(h3:(ds.map (·.nm)).Nodup)(h4:H d=some (.dK kvs))(h5:Tab (FrIs a) H kvs ks f)(h6:ks.Nodup)(h7:(∀n∈ks,n∈ds.map (·.nm)))(h8:SumOk (bM ks f) ps ds)(h9:∀r H' kvr,H r=none->Same H H'->H' r=some (.dK kvr)->Tab (FrIs a) H' kvr (ps.map (·.1)) (bK (bM ks f) ds)->Q (.ref r) H'):IspSums a vs H Q
noncomputable def spSums(a:Ad):Sp:=λvs H Q _=>IspSums a vs H Q
theorem ok_sums(T:TX K mg a):FnB P w K mg base CX0 "sums" 10 ["net","plan"] (spSums a):=by
 refine T.d_sums.okA sc_sums λf D A i s H N Q E y h=>?_;obtain⟨p,d,q,m,c,B,f,rfl,o,J,t,tb,e,sub,ok,k⟩:=h
 refine⟨_,(aD (bY (aO (ja T) y aJ (aA (pv 0) (aA (pv 1) aB))))
  (aF (aP (aO (jG T) y aJ (aA (pv 0) (aA (pv 1) aB)))))),?_⟩
 walk_at"q"
 refine⟨_,rfl,_,rfl,p,d,q,m,c,B,f,rfl,o,J,t,tb,e,sub,λM b=>?_⟩;exact⟨_,rfl,_,rfl,p,d,q,m,c,B,f,rfl,(o.mono b).at_,b _ _ t,tb.mono (λv x z=>z.mono b),ok,λr I l G L j F=>k r I l (b.free G) (b.trans L) j F⟩
end
end G
namespace G
open PySem L2
section
inductive IspScaled(a:Ad)(vs:List V)(H:Hp)(Q:VK):Prop
 |mk(d q:Addr)(kvs:List (Key×V))(ks:List Str)(f:Str->Rat)(y:Rat)(h1:vs=[.ref d,.ref q])(h2:H d=some (.dK kvs))(h3:Tab (FrIs a) H kvs ks f)(h4:ks.Nodup)(h5:ks.length<=900)(h6:FrAt a.Fraction H q y)(h7:SmR y)(h8:(∀n∈ks,SmR (f n)))(h9:∀r H' kvs',H r=none->Same H H'->H' r=some (.dK kvs')->Tab (FrIs a) H' kvs' (gA (λn=>f n*y) ks) (λn=>f n*y)->Q (.ref r) H'):IspScaled a vs H Q
noncomputable def spScaled(a:Ad):Sp:=λvs H Q _=>IspScaled a vs H Q
theorem ok_scaled(T:TX K mg a):FnB P w K mg base CX0 "scaled" 6 ["plan","number"] (spScaled a):=by
 refine T.d_scaled.okA sc_scaled λf ai A ab s H vs Q E hr h=>?_;obtain⟨d,q,kvs,U,f,y,rfl,hd,tb,nd,hl,fq,sy,sf,k⟩:=h
 refine⟨_,(aD (aH (i:=2) sc_scaled.nd cU)
  (aX (fw (bO lH rfl (fZ (pv 0)) (iS (n:=2) rfl (cF (aR (i:=3) sc_scaled.nd) (cF (aR (i:=4) sc_scaled.nd) fS))) (aF (cI (bI hr) (pv 2) (pv 3) (cM T.fr (pv 4) (gf T) hr aJ (aA (pv 1) aB)) rfl))))
  (aF (aP (aO (dP T) hr aJ (aA (pv 2) aB)))))),?_⟩
 walk_at"q"
 intro r nr;have R:Same H (upd H r (.dK [])):=aU nr;have D:=R _ _ hd;have X:upd H r (.dK []) r=some (.dK []):=aE;have Y:=tb.mono λv x z=>z.mono R;have O:=fq.mono R;generalize upd H r (.dK [])=H0 at R D X Y O⊢;have L:d≠r:=λz=>by rw[z,nr]at hd;cases hd
 refine dA (λσ' H'=>yE3 λM N F=>σ'=[some (.ref d),some (.ref q),some (.ref r),M,N]×' Same H H'×' H' r=some (.dK F)×' Tab (FrIs a) H' F U (λn=>f n*y)) ?_ ?_
 ·refine⟨d,.dK kvs,D,(by intro o z e;cases e),_,rfl,d,kvs,rfl,D,λo=>?_⟩
  refine gJ (a:=d) (o:=o) (kvs:=kvs) (λi σ j=>i<=U.length/\yE3 λM N c=>σ=[some (.ref d),some (.ref q),some (.ref r),M,N]×' j d=some (.frz o (.dK kvs))×'(∀b S,H b=some S->b≠d->j b=some S)×' KeepD H0 j×' j r=some (.dK c)×' Tab (FrIs a) j c (U.take i) (λn=>f n*y))
   ⟨lD _,_,_,[],rfl,aE,(λb S e ne=>by rw[aG ne];exact R _ _ e),KeepD.put D,by rw[aG L.symm];exact X,Tab.nil⟩ ((by rintro i σ j _⟨_,_,_,_,_,h,_⟩;exact h)) ?_ ?_
  ·rintro i kv t σ j aa nt⟨_,M,N,c,rfl,hf,k2,kp,G,B⟩;obtain⟨n,en,e1,ev,p,ep,fp⟩:=Y.at_ nd aa;have hi :=(kY.mp en).1;have af:kV kv.1=.str n:=by rw[e1];rfl
   rw[af,ep];obtain⟨H3,zq,s3,ht⟩:=uG (o:=.tup [.str n,.ref p]) nt;rw[zq];have J:=kp.trans (.of s3);obtain⟨p',e',Z⟩:=FrIs.keep ⟨p,rfl,fp⟩ J
   cases e';obtain⟨q',e',ac⟩:=FrIs.keep ⟨q,rfl,O⟩ J
   cases e';obtain⟨tk,nk⟩:=eY nd en;refine⟨t,[.str n,.ref p],rfl,SqT.of ht,rfl,.str n,[.ref p],rfl,⟨.ref p,[],rfl,⟨rfl,?_⟩⟩⟩;refine⟨_,rfl,p,_,rfl,Z,_,rfl,p,q,_,_,rfl,Z,ac,sf n (kZ en),sy,True.intro,λz H4 nz s4 f4=>?_⟩;have l:=s3.trans s4
   have ls:c.length<=900:=by
    rw[B.len,lI]
    lia
   refine⟨_,rfl,_,rfl,r,_,rfl,DPut.k (k:=Sum.inr n) (l _ _ G) (aT (by lia)),?_⟩;have I:KeepD H4 (upd H4 r (.dK (cK c (Sum.inr n) (.ref z)))):=KeepD.put (l _ _ G);refine⟨hi,_,_,_,rfl,by rw[aG L];exact l _ _ hf,(λb S e ne=>?_),(J.trans (.of s4)).trans I,aE,?_⟩
   ·rw[aG (aN e nr)];exact l _ _ (k2 _ _ e ne)
   ·rw[tk,<-gZ nk];refine(Tab.put (n:=n) (B.mono λv x z=>(z.mono l).keep I) (y:=f n*y) (FrIs.keep ⟨z,rfl,f4⟩ I)).congr λm _=>?_;unfold upf
    split
    ·rename_i e;rw[e]
    ·rfl
  ·rintro σ j⟨_,M,N,c,rfl,hf,k2,kp,G,B⟩;rw[tb.len,lA]at B;refine⟨o,hf,_,_,c,rfl,(λb S e=>?_),by rw[aG L.symm];exact G,B.mono λv x z=>z.keep (.frz hf)⟩;by_cases hb:b=d
   ·subst hb;rw[aE,<-hd,e]
   ·rw[aG hb];exact k2 _ _ e hb
 rintro zU ah σ' H1⟨M,N,F,rfl,s1,ag,tr⟩;subst ah;exact⟨_,rfl,r,F,U,_,rfl,ag,tr,nd,hl,λz j ae nz s2 ad tz=>k z j ae (s1.free nz) (s1.trans s2) ad tz⟩
noncomputable def sumA(ks1:List Str)(f1:Str->Rat)(ks2:List Str)(f2:Str->Rat)(n:Str):Rat:=bM ks1 f1 n+bM ks2 f2 n
noncomputable def gC(ks1 ks2:List Str):List Str:=ks2.foldl addK ks1
theorem bothK_snoc(ks1 ks2:List Str)(n:Str):gC ks1 (ks2++[n])=addK (gC ks1 ks2) n:=by unfold gC;rw[m7];rfl
theorem mem_bothK:n∈gC ks1 ks2↔n∈ks1∨n∈ks2:=mem_fold
inductive IspTogether(a:Ad)(vs:List V)(H:Hp)(Q:VK):Prop
 |mk(d e:Addr)(kv1 kv2:List (Key×V))(ks1 ks2:List Str)(f1 f2:Str->Rat)(h1:vs=[.ref d,.ref e])(h2:H d=some (.dK kv1))(h3:Tab (FrIs a) H kv1 ks1 f1)(h4:ks1.Nodup)(h5:H e=some (.dK kv2))(h6:Tab (FrIs a) H kv2 ks2 f2)(h7:ks2.Nodup)(h8:ks1.length+ks2.length<=900)(h9:(∀n∈ks2,SmR (bM ks1 f1 n)/\SmR (f2 n)))(h10:∀r H' kvs',H r=none->Same H H'->H' r=some (.dK kvs')->Tab (FrIs a) H' kvs' (gA (sumA ks1 f1 ks2 f2) (gC ks1 ks2)) (sumA ks1 f1 ks2 f2)->Q (.ref r) H'):IspTogether a vs H Q
noncomputable def spTogether(a:Ad):Sp:=λvs H Q _=>IspTogether a vs H Q
theorem ok_together(T:TX K mg a):FnB P w K mg base CX0 "together" 6 ["one","other"] (spTogether a):=by
 refine T.d_together.okA sc_together λf ao A af s H vs Q E hr h=>?_;obtain⟨d,e,B,L,j,c,S,N,rfl,hd,t1,n1,he,t2,n2,hl,sm,k⟩:=h
 refine⟨_,(aD (aH (i:=2) sc_together.nd (eJ call_dict_copy (by rfl) T.z_dict PyProof.Rows.boot_dict (aA (pv 0) aB)))
  (aX (fw (bO lH rfl (fZ (pv 1)) (iS (n:=2) rfl (cF (aR (i:=3) sc_together.nd) (cF (aR (i:=4) sc_together.nd) fS))) (aF (cI (bI hr) (pv 2) (pv 3) (cM T.fr (aO (ok_amount T) hr aJ (aA (pv 2) (aA (pv 3) aB))) (ok_plus T) hr aJ (aA (pv 4) aB)) rfl))))
  (aF (aP (aO (dP T) hr aJ (aA (pv 2) aB)))))),?_⟩
 walk_at"q"
 generalize ad:i9 _ _=k9
 revert k9
 refine gB λk9 ad=>?_;refine⟨_,rfl,d,B,rfl,.inl hd,λr nr=>?_⟩;have s0:Same H (upd H r (.dK B)):=aU nr;have J:=s0 _ _ he;have ac:upd H r (.dK B) r=some (.dK B):=aE;have ab:=t1.mono λv x z=>z.mono s0;have aa:=t2.mono λv x z=>z.mono s0;generalize upd H r (.dK B)=H0 at s0 J ac ab aa⊢;have R:e≠r:=λz=>by rw[z,nr]at he;cases he
 have lb:∀i,(gC j (c.take i)).length<=900:=λi=>by
  have U:=len_fold (ns:=c.take i) (ks:=j);rw[lI]at U;show(List.foldl addK j (c.take i)).length<=900
  lia
 subst ad;refine dA (λσ' H'=>yE3 λX Y l=>σ'=[some (.ref d),some (.ref e),some (.ref r),X,Y]×' Same H H'×' H' r=some (.dK l)×' Tab (FrIs a) H' l (gC j c) (sumA j S c N)) ?_ ?_
 ·refine⟨e,.dK L,J,(by intro o z e;cases e),_,rfl,e,L,rfl,J,λo=>?_⟩
  have M:Tab (FrIs a) H0 B (gC j []) (sumA j S [] N):=ab.congr λn hn=>by
   unfold sumA bM;rw[if_pos hn,if_neg lR];grind
  refine gJ (a:=e) (o:=o) (kvs:=L) (λi σ G=>i<=c.length/\yE3 λX Y l=>σ=[some (.ref d),some (.ref e),some (.ref r),X,Y]×' G e=some (.frz o (.dK L))×'(∀b ob,H b=some ob->b≠e->G b=some ob)×' KeepD H0 G×' G r=some (.dK l)×' Tab (FrIs a) G l (gC j (c.take i)) (sumA j S (c.take i) N))
   ⟨lD _,_,_,B,rfl,aE,(λb ob e ne=>by rw[aG ne];exact s0 _ _ e),KeepD.put J,by rw[aG R.symm];exact ac,M.mono λv x z=>z.keep (.put J)⟩ ((by rintro i σ G _⟨_,_,_,_,_,h,_⟩;exact h)) ?_ ?_
  ·rintro i kv t σ G ae nt⟨_,X,Y,l,rfl,hf,k2,kp,I,F⟩;obtain⟨n,en,e1,ev,p,ep,fp⟩:=aa.at_ n2 ae;have hi :=(kY.mp en).1;have ak:kV kv.1=.str n:=by rw[e1];rfl
   rw[ak,ep];obtain⟨H3,zq,s3,ht⟩:=uG (o:=.tup [.str n,.ref p]) nt;rw[zq];have ah:=kp.trans (.of s3);obtain⟨p',e',aj⟩:=FrIs.keep ⟨p,rfl,fp⟩ ah
   cases e';obtain⟨tk,nk⟩:=eY n2 en;obtain⟨sm1,am⟩:=sm n (kZ en);refine⟨t,[.str n,.ref p],rfl,SqT.of ht,rfl,.str n,[.ref p],rfl,⟨.ref p,[],rfl,⟨rfl,?_⟩⟩⟩
   have eA:bM (gC j (c.take i)) (sumA j S (c.take i) N) n=bM j S n:=by
    unfold bM sumA bM;rw[if_neg nk];by_cases U:n∈j
    ·rw[if_pos (mem_bothK.mpr (.inl U)),if_pos U];grind
    ·rw[if_neg (λz=>(mem_bothK.mp z).elim U nk),if_neg U]
   refine⟨_,rfl,_,rfl,r,l,_,_,n,rfl,.inl (s3 _ _ I),F.mono (λv x z=>z.mono s3),λq H4 s4 f4=>?_⟩;rw[eA]at f4;refine⟨q,_,rfl,f4,_,rfl,q,p,_,_,rfl,f4,aj.mono s4,sm1,am,True.intro,λz H5 nz s5 f5=>?_⟩;have D:=s3.trans (s4.trans s5);have ls:l.length<=900:=by rw[F.len];exact lb i
   refine⟨_,rfl,_,rfl,r,_,rfl,DPut.k (k:=Sum.inr n) (D _ _ I) (aT (by lia)),?_⟩;have O:KeepD H5 (upd H5 r (.dK (cK l (Sum.inr n) (.ref z)))):=KeepD.put (D _ _ I);refine⟨hi,_,_,_,rfl,by rw[aG R];exact D _ _ hf,(λb ob e ne=>?_),(kp.trans (.of D)).trans O,aE,?_⟩
   ·rw[aG (aN e nr)];exact D _ _ (k2 _ _ e ne)
   ·rw[tk,bothK_snoc];refine(Tab.put (n:=n) (F.mono λv x z=>(z.mono D).keep O) (y:=bM j S n+N n) (FrIs.keep ⟨z,rfl,f5⟩ O)).congr λm _=>?_;unfold upf sumA;by_cases h:m=n
    ·subst h;rw[if_pos rfl];unfold bM;rw[if_pos (show m∈c.take i++[m]by simp)]
    ·rw[if_neg h]
     have:bM (c.take i++[n]) N m=bM (c.take i) N m:=by
      unfold bM;by_cases h2:m∈c.take i
      ·rw[if_pos h2,if_pos (lJ _ h2)]
      ·rw[if_neg h2,if_neg (λz=>(lB.mp z).elim h2 λq=>h (lv.mp q))]
     rw[this]
  ·rintro σ G⟨_,X,Y,l,rfl,hf,k2,kp,I,F⟩;rw[t2.len,lA]at F;refine⟨o,hf,_,_,l,rfl,(λb ob x=>?_),by rw[aG R.symm];exact I,F.mono λv x z=>z.keep (.frz hf)⟩;by_cases hb:b=e
   ·subst hb;rw[aE,<-he,x]
   ·rw[aG hb];exact k2 _ _ x hb
 rintro zU an σ' H1⟨X,Y,l,rfl,s1,al,tr⟩;have Z:=lb c.length;subst an;rw[lA]at Z;exact⟨_,rfl,r,l,_,_,rfl,al,tr,nodup_fold n1,Z,λz G ai nz s2 ag tz=>k z G ai (s1.free nz) (s1.trans s2) ag tz⟩
inductive IspWorth(a:Ad)(vs:List V)(H:Hp)(Q:VK):Prop
 |mk(p d:Addr)(ps:List (Str×Rat))(ds:List WD)(kvs:List (Key×V))(ks:List Str)(f co:Str->Rat)(h1:vs=[.ref p,.ref d])(h2:NetOff a H p d ps ds)(h3:(ds.map (·.nm)).Nodup)(h4:H d=some (.dK kvs))(h5:Tab (FrIs a) H kvs ks f)(h6:ks.Nodup)(h7:ks.length<=900)(h8:(∀n∈ks,n∈ds.map (·.nm)))(h9:(∀x∈ds,x.co=co x.nm))(h10:(∀n∈ks,SmR (f n)/\SmR (co n)))(h11:TOk (ks.map λn=>co n*f n))(h12:∀r H',H r=none->Same H H'->FrAt a.Fraction H' r (ks.map λn=>co n*f n).sum->Q (.ref r) H'):IspWorth a vs H Q
noncomputable def spWorth(a:Ad):Sp:=λvs H Q _=>IspWorth a vs H Q
theorem ok_worth(T:TX K mg a):FnB P w K mg base CX0 "worth" 6 ["net","plan"] (spWorth a):=by
 refine T.d_worth.okA sc_worth λf aj A Z s H vs Q E hr h=>?_;obtain⟨p,d,ps,ds,kvs,ks,f,co,rfl,hn,nd,U,tb,ad,hl,sub,ab,sm,bN,k⟩:=h
 refine⟨_,(aF (aP (aO (ok_total T) hr aJ (aA (pe_thaw (gc (xs:=["name","part"]) rfl (fZ (pv 1))
  (λD fp C' s' H'=>by exact(pg_tupK (n:=2) rfl rfl (cF (aR (i:=0) (show(["name","part","net"]:List Str).Nodup by decide+kernel)) (cF (aR (i:=1) (show(["name","part","net"]:List Str).Nodup by decide+kernel)) fS)))) (λD fp C' s' H'=>by exact eI)
  (λD fp C' s' H'=>by exact(cM T.fr (jD rfl (pe_mtDK rfl rfl rfl rfl rfl (pv 2) hr aJ (aA (pv 0) aB)) rfl) (gf T) hr aJ (aA (pv 1) aB)))
  (Clos.many (ys:=["net"]) rfl ⟨rfl,True.intro⟩ rfl (by decide+kernel)) (Reads.many (ys:=["net"]) (js:=[0]) ⟨⟨rfl,rfl,rfl⟩,True.intro⟩))) aB)))),?_⟩
 walk_at"q"
 refine⟨d,.dK kvs,U,(by intro o z e;cases e),_,rfl,d,kvs,rfl,U,λo l S=>?_⟩;have m:d≠l:=λz=>by rw[z,aE]at S;cases S
 have J:H l=none:=by rw[aG m.symm]at S;exact S
 refine compG_items (a:=d) (o:=o) (kvs:=kvs) (λi c=>i<=ks.length×' c d=some (.frz o (.dK kvs))×'(∀b M,H b=some M->b≠d->c b=some M)×'∃B,c l=some (.lst B)/\RowAt (FrIs a) c B ((ks.take i).map λn=>co n*f n))
  ⟨lD _,by rw[aG m,aE],(λb M e ne=>by rw[aG (aN e J),aG ne];exact e),[],aE,RowAt.nil⟩ ((by rintro i c⟨_,h,_⟩;exact h)) ?_ ?_
 ·rintro i kv t c Y nt⟨_,R,I,B,F,N⟩zs hz;obtain⟨n,O,e1,ev,q,eq,fq⟩:=tb.at_ ad Y;have hi :=(kY.mp O).1;have ae:kV kv.1=.str n:=by rw[e1];rfl
  rw[ae,eq];obtain⟨H3,zq,G,ht⟩:=uG (o:=.tup [.str n,.ref q]) nt;rw[zq]
  match zs,hz with
  |[z1,z2],_=>
   have ag:=(hn.but I).mono G;obtain⟨y,my,ey⟩:=k8.mp (sub n (kZ O));obtain⟨dx,dw,dy,hp,hw,hy⟩:=ag.at_;obtain⟨sm1,ah⟩:=sm n (kZ O)
   have aa:FrAt a.Fraction H3 q (f n):=by
    obtain⟨dq,g⟩:=fq;exact⟨dq,G _ _ (I _ _ g (bB g U (by intro z;cases z)))⟩
   refine⟨t,[.str n,.ref q],rfl,SqT.of ht,rfl,.str n,[.ref q],rfl,⟨.ref q,[],rfl,⟨rfl,⟨[_,_],rfl,rfl⟩,yes ?_⟩⟩⟩;refine⟨_,rfl,p,a.Net,dx,_,1,["self","name"],fW a,rfl,hp,iV _ _ (by decide+kernel) (by decide+kernel),T.cl_Net,by decide,eX T,_,rfl,p,ps,ds,y,by rw[ey];rfl,⟨dx,dw,dy,hp,hw,hy⟩,nd,my,λv hx=>?_⟩;obtain⟨p',vh,vc,q',rfl,W,hk,qc,rfl,fc⟩:=hx;obtain⟨X,ai,af,ac,_⟩:=W.ob;have c':=cS T y.kd;rw[ab y my,ey]at fc;refine⟨p',_,X,ai,_,rfl,af,c'.cl,c'.n5,ac.co,qc,_,rfl,fc,_,rfl,qc,q,_,_,rfl,fc,aa,ah,sm1,True.intro,λr H4 nr s4 f4=>?_⟩;have j:=G.trans s4;have L:=j _ _ F;have ak:B.length=i:=by rw[N.1,kX,lI];lia
   refine⟨_,L,aT (by lia),fE (by rw[tb.len];exact hi) ⟨hi,by rw[aG m];exact j _ _ R,(λb M e ne=>by rw[aG (aN e J)];exact j _ _ (I _ _ e ne)),_,aE,?_⟩⟩;rw[lE,O,lL,lj];have ko:∀v x,FrIs a H4 v x->FrIs a (upd H4 l (.lst (B++[.ref r]))) v x:=(by rintro v x⟨q,e,dq,g⟩;exact⟨q,e,dq,by rw[aG (bB g L (by intro z;cases z))];exact g⟩);exact RowAt.snoc (N.mono λv x z=>ko v x (z.mono j)) (ko _ _ ⟨r,rfl,f4⟩)
 ·rintro c⟨_,R,I,B,F,N⟩;rw[tb.len,lA]at N
  have s2:Same H (upd c d (.dK kvs)):=λb M e=>by
   by_cases hb:b=d
   ·subst hb;rw[aE,<-U,e]
   ·rw[aG hb];exact I _ _ e hb
  refine⟨o,R,l,B,_,rfl,SqL.of (show upd c d (.dK kvs) l=some (.lst B) by rw[aG m.symm];exact F),N.mono λv x z=>z.keep (.frz R),bN,λr H3 nr G f3=>k r H3 (s2.free nr) (s2.trans G) f3⟩
end
end G
namespace G
open PySem L2
section
theorem ok_over(T:TX K mg a):MtB P w K mg base CX0 a.Fraction "over" 6 ["self","other"] (spR2 a.Fraction (λx y=>x/y) (λ_ y=>y≠0)):=by
 refine T.m_Fraction_over.okA sc_Fraction_over (λf O A o s H S Q E m h=>?_) (λS H Q E h=>?_)
 rotate_left
 ·obtain⟨p,q,x,y,rfl,_⟩:=h;rfl
 ·obtain⟨p,q,x,y,rfl,M,U,N,l,G,k⟩:=h
  refine⟨_,(aD (bJ (aS e7 (dY T.fr (pv 1)) aC) (aF cY) aV)
   (aD (bJ (aS jo (dY T.fr (pv 1)) aC) (aF (aP (cM T.fr (pv 0) (gf T) m aJ (aA (aO (cN T) m aJ (aA (jm gM (dZ T.fr (pv 1))) (aA (jm gM (dY T.fr (pv 1))) aB))) aB)))) aV)
   (aF (aP (cM T.fr (pv 0) (gf T) m aJ (aA (aO (cN T) m aJ (aA (dZ T.fr (pv 1)) (aA (dY T.fr (pv 1)) aB))) aB)))))),?_⟩
  walk_at"q"
  walk_at"rd"
  refine ifV (λe=>?_) (λe=>?_)
  ·exact absurd (Rat.num_eq_zero.mp e) G
  walk_at"rd"
  refine ifB (λL=>?_) (λL=>?_)
  ·obtain⟨i,j⟩:=inv_neg_spec y L;walk_at"rd"
   intro r J B R b e;have t:FrAt a.Fraction B r (y⁻¹):=⟨J,by rw[e,i,j]⟩;refine⟨p,r,x,y⁻¹,rfl,M.mono b,t,N,⟨by rw[i];exact l.2.le (by lia),by rw[j];exact l.1.le (by lia)⟩,trivial,λI D c F z=>?_⟩;exact k I D (b.free c) (b.trans F) z
  ·obtain⟨i,j⟩:=inv_pos_spec y (by lia);walk_at"rd"
   intro r J B R b e;have t:FrAt a.Fraction B r (y⁻¹):=⟨J,by rw[e,i,j]⟩;refine⟨p,r,x,y⁻¹,rfl,M.mono b,t,N,⟨by rw[i];exact l.2,by rw[j];exact l.1⟩,trivial,λI D c F z=>?_⟩;exact k I D (b.free c) (b.trans F) z
end
end G
namespace G
open PySem L2
section
theorem dR{α:Type}{P:List α->Prop}(h0:P [])(h1:∀xs x,P xs->P (xs++[x]))(xs:List α):P xs:=by
 rw[<-List.reverse_reverse xs]
 induction xs.reverse with
 |nil=>exact h0
 |cons x r ih=>rw[List.reverse_cons];exact h1 _ _ ih
theorem dS{xs ys:List Str}(nd:xs.Nodup)(h:∀x∈xs,x∈ys):xs.length<=ys.length:=by
 induction xs generalizing ys with
 |nil=>exact lD _
 |cons x xs ih=>
  obtain⟨c,i⟩:=mB.mp nd;have a:=h x lO
  have:=ih (ys:=ys.erase x) i λz b=>by
   rw[List.mem_erase_of_ne (λe=>c (by rw[<-e];exact b))];exact h z (lF _ b)
  rw[List.length_erase_of_mem a]at this
  have:=List.length_pos_of_mem a
  rw[mh]
  lia
noncomputable def onw(ws:List WD)(p:Str):Option WD:=ws.foldl (λo x=>if x.st=p then some x else o) none
theorem onw_snoc(ws:List WD)(x:WD)(p:Str):onw (ws++[x]) p=if x.st=p then some x else onw ws p:=by unfold onw;rw[m7];rfl
theorem onw_some:∀{ws:List WD},onw ws p=some x->x∈ws/\x.st=p:=by
 refineλ{ws}=>dR (P:=λws=>onw ws p=some x->x∈ws/\x.st=p) (λh=>by cases h) (λi u b h=>?_) ws;rw[onw_snoc]at h
 split at h
 ·rename_i e
  cases h;exact⟨by simp,e⟩
 ·obtain⟨c,a⟩:=b h;exact⟨lJ _ c,a⟩
theorem onw_in:∀{ws:List WD},p∈ws.map (·.st)->∃x,onw ws p=some x:=by
 refineλ{ws}=>dR (P:=λws=>p∈ws.map (·.st)->∃x,onw ws p=some x) (λh=>by cases h) (λb u a h=>?_) ws;rw[onw_snoc];by_cases e:u.st=p
 ·exact⟨u,if_pos e⟩
 ·rw[if_neg e];rw[lj,lB]at h;exact a (h.resolve_right λz=>e (lv.mp z).symm)
noncomputable def dF(ws:List WD):List WD:=ws.filter λx=>decide (x.go∈ws.map (·.st))
theorem mem_kept:x∈dF ws↔x∈ws/\x.go∈ws.map (·.st):=by unfold dF;rw[n8,decide_eq_true_iff]
theorem kept_le(ws:List WD):(dF ws).length<=ws.length:=nh _ _
theorem kept_all(h:¬(dF ws).length<ws.length):∀x∈ws,x.go∈ws.map (·.st):=λx a=>by
 have e :=Nat.le_antisymm (kept_le ws) (by lia);unfold dF at e;exact of_decide_eq_true (List.length_filter_eq_length_iff.mp e x a)
noncomputable def Acyc(ws:List WD):Prop:=∃rk:Str->Nat,∀x∈ws,rk x.go<rk x.st
theorem Acyc.nil:Acyc []:=⟨λ_=>0,λx h=>absurd h lR⟩
theorem Acyc.back(h:Acyc (dF ws)):Acyc ws:=by
 obtain⟨a,k⟩:=h;refine⟨λp=>if p∈ws.map (·.st)then a p+1 else 0,λx b=>?_⟩;have c:x.st∈ws.map (·.st):=k8.mpr ⟨x,b,rfl⟩;show(if x.go∈ws.map (·.st)then a x.go+1 else 0)<if x.st∈ws.map (·.st)then a x.st+1 else 0
 rw[if_pos c];by_cases h2:x.go∈ws.map (·.st)
 ·rw[if_pos h2]
  have:=k x (mem_kept.mpr ⟨b,h2⟩)
  lia
 ·rw[if_neg h2]
  lia
noncomputable def PthW:Str->List WD->Str->Prop
 |p,[],q=>p=q
 |p,x::r,q=>x.st=p/\PthW x.go r q
theorem PthW.snoc:∀{l:List WD}{p q:Str},PthW p l q->x.st=q->PthW p (l++[x]) x.go
 |[],_,_,h,e=>⟨e.trans h.symm,rfl⟩
 |_::_,_,_,h,e=>⟨h.1,h.2.snoc e⟩
theorem PthW.split:∀{l1 l2:List WD}{p q:Str},PthW p (l1++l2) q->∃m,PthW p l1 m/\PthW m l2 q
 |[],_,p,_,h=>⟨p,rfl,h⟩
 |_::_,_,_,_,h=>by
  obtain⟨m,a,b⟩:=PthW.split h.2;exact⟨m,⟨h.1,a⟩,b⟩
theorem PthW.chain:∀{l:List WD}{p q:Str},PthW p l q->Chain l
 |[],_,_,_=>λi x y h=>by cases h
 |[x],_,_,_=>λi u v b a=>by
  cases i with
  |zero=>cases a
  |succ i=>cases b
 |x::y::r,_,_,h=>λi u v b a=>by
  cases i with
  |zero=>
   cases b
   cases a;exact h.2.1.symm
  |succ i=>exact(PthW.chain (l:=y::r) h.2) i u v (by simpa using b) (by simpa using a)
theorem PthW.last{l:List WD}{p q:Str}(h:PthW p l q):∀x,l.getLast?=some x->x.go=q:=by
 induction l generalizing p with
 |nil=>intro x e;cases e
 |cons d r ih=>
  intro x e;cases r with
  |nil=>cases e;exact h.2
  |cons y s=>exact ih h.2 x (by rw[<-e];rfl)
theorem PthW.head(h:PthW p l q):∀x,l.head?=some x->x.st=p:=by
 cases l with
 |nil=>intro x e;cases e
 |cons y r=>intro x e;cases e;exact h.1
theorem PthW.down{rk:Str->Nat}:∀{l:List WD}{p q:Str},PthW p l q->(∀x∈l,rk x.go<rk x.st)->(∀x∈l,rk x.go<rk p)/\(p::l.map (·.go)).Nodup
 |[],p,_,_,_=>⟨λx h=>absurd h lR,by simp⟩
 |x::r,p,q,h,k=>by
  have b:=k x lO;obtain⟨i,c⟩:=PthW.down h.2 λy a=>k y (lF _ a);rw[h.1]at b
  have all:∀y∈x::r,rk y.go<rk p:=λy a=>by
   rcases lN.mp a with rfl|a
   ·exact b
   ·exact Nat.lt_trans (i y a) b
  refine⟨all,mB.mpr ⟨λm=>?_,c⟩⟩;obtain⟨y,a,e⟩:=k8.mp m
  have:=all y a
  rw[e]at this;exact nP _ this
structure RingW(ws l:List WD):Prop where
 ne:l≠[]
 sub:∀x∈l,x∈ws
 nd:(l.map (·.st)).Nodup
 rd:∃p,PthW p l p
theorem RingW.mono(h:RingW us l)(s:∀x∈us,x∈ws):RingW ws l:=⟨h.ne,λx a=>s x (h.sub x a),h.nd,h.rd⟩
theorem bL{ws l:List WD}(nd:(ws.map (·.nm)).Nodup)(sub:∀x∈l,x∈ws)(h:(l.map (·.st)).Nodup):(l.map (·.nm)).Nodup:=by
 induction l with
 |nil=>exact nR
 |cons x r ih=>
  obtain⟨s,o⟩:=mB.mp (show(x.st::r.map (·.st)).Nodup from h);refine mB.mpr ⟨λm=>s ?_,ih (λy a=>sub y (lF _ a)) o⟩;obtain⟨y,a,e⟩:=k8.mp m
  have:y=x:=by
   obtain⟨i,c⟩:=lV.mp (sub y (lF _ a));obtain⟨j,b⟩:=lV.mp (sub x lO);have g1:(ws.map (·.nm))[i]?=some y.nm:=by rw[lg,c];rfl
   have q:(ws.map (·.nm))[j]?=some y.nm:=by rw[lg,b,mV,e]
   have p:=(mS (by rw[kX];exact(kY.mp c).1) nd).mp (g1.trans q.symm);subst p;rw[c]at b;exact lY b
  exact k8.mpr ⟨y,a,by rw[this]⟩
structure SeenW(f:Str->WD)(ks:List Str)(p0:Str)(l:List WD)(q:Str):Prop where
 path:PthW p0 l q
 nd:(l.map (·.st)).Nodup
 by_:∀x∈l,x.st∈ks/\x=f x.st
 inn:q∈ks
theorem SeenW.next(hf:∀k∈ks,(f k).st=k/\(f k).go∈ks)(h:SeenW f ks p0 l q)(nq:¬q∈l.map (·.st)):l.length<ks.length/\SeenW f ks p0 (l++[f q]) (f q).go:=by
 obtain⟨c,j⟩:=hf q h.inn
 have b:((l++[f q]).map (·.st)).Nodup:=by
  rw[lj,List.map_singleton,c];exact mo.mpr ⟨h.nd,by simp,λx a y i e=>nq (by rw[lv.mp i]at e;rw[<-e];exact a)⟩
 refine⟨?_,h.path.snoc c,b,λx a=>?_,j⟩
 ·have:=dS b λx a=>by
   obtain⟨y,i,rfl⟩:=k8.mp a;rcases lB.mp i with z|z
   ·exact(h.by_ y z).1
   ·rw[lv.mp z,c];exact h.inn
  rw[kX,lG,l9]at this
  lia
 ·rcases lB.mp a with z|z
  ·exact h.by_ x z
  ·rw[lv.mp z,c];exact⟨h.inn,rfl⟩
theorem SeenW.ring(h:SeenW f ks p0 l q)(hw:∀k∈ks,f k∈ws)(hi:(l.map (·.st))[i]?=some q):RingW ws (l.drop i):=by
 rw[lg]at hi;obtain⟨x,ex,e⟩:=n7.mp hi;have j:=(kY.mp ex).1;have c:l.drop i=x::l.drop (i+1):=by rw[List.drop_eq_getElem_cons j,(kY.mp ex).2]
 refine⟨by rw[c];simp,λy o=>?_,by rw[List.map_drop];exact h.nd.sublist (List.drop_sublist _ _),q,?_⟩
 ·obtain⟨p,a⟩:=h.by_ y (List.mem_of_mem_drop o);rw[a];exact hw _ p
 ·have b:=h.path;rw[<-List.take_append_drop i l]at b;obtain⟨m,_,a⟩:=b.split
  have:m=q:=by
   rw[c]at a;rw[<-a.1];exact e
  rw[this]at a;exact a
end
end G
namespace G
open PySem L2
section
theorem cut_drop(i:Nat):cutV xs (some (i:Int)) none=xs.drop i:=by
 unfold cutV;rw[HT.sIx_nat,HT.sIx_none];by_cases h:i<=xs.length
 ·rw[Nat.min_eq_left h,List.take_of_length_le (by rw[List.length_drop];lia)]
 ·rw[Nat.min_eq_right (by lia),List.drop_of_length_le (k5 _),List.take_nil,List.drop_of_length_le (by lia)]
noncomputable def IxIs(_:Hp)(v:V)(i:Nat):Prop:=v=.int (i:Int)
inductive IspAlong(a:Ad)(vs:List V)(H:Hp)(Q:VK):Prop
 |mk(d:Addr)(p0:Str)(kp:List (Key×V))(ks:List Str)(f:Str->WD)(ws:List WD)(h1:vs=[.ref d,.str p0])(h2:H d=some (.dK kp))(h3:Tab (WayIs a) H kp ks f)(h4:(∀k∈ks,(f k).st=k/\(f k).go∈ks))(h5:(∀k∈ks,f k∈ws))(h6:p0∈ks)(h7:ks.length<=100)(h8:∀l H'(ring:List WD),H l=none->Same H H'->H' l=some (.lst (ring.map λx=>V.str x.nm))->RingW ws ring->Q (.ref l) H'):IspAlong a vs H Q
noncomputable def spAlong(a:Ad):Sp:=λvs H Q _=>IspAlong a vs H Q
theorem ok_ring_along(T:TX K mg a):FnB P w K mg base CX0 "ring_along" 1 ["pointers","place"] (spAlong a):=by
 refine T.d_ring_along.okA sc_ring_along λf aj A ag s H vs Q E hr h=>?_;obtain⟨d,p0,kp,U,f,ws,rfl,hp,tp,hf,hw,af,ln,k⟩:=h
 refine⟨_,(aD (aH (i:=2) sc_ring_along.nd cU)
  (aX (iE lH (j0 (pc_dnotin (bI hr) (pv 1) (pv 2))) (aD (cI (bI hr) (pv 2) (pv 1) (bV call_lenD (by rfl) T.z_len mR (aA (pv 2) aB)) rfl)
  (aF (aH (i:=1) sc_ring_along.nd (aZ (cE (bI hr) (pv 0) (pv 1) (λ_ _=>rfl)) rfl)))))
  (aD (aH (i:=3) sc_ring_along.nd (gT ki (eJ (fI hr.hd) (by rfl) T.z_list nM (aA (pv 2) aB)) (iP (cE (bI hr) (pv 2) (pv 1) (λ_ _=>rfl))) iQ))
  (aF (aP (gc (xs:=["one"]) (rest:=["pointers"]) rfl (bZ (pv 3))
  (λG fp C' s' p=>(aR (i:=0) (show(["one","pointers"]:List Str).Nodup by decide+kernel))) (λG fp C' s' p=>eI)
  (λG fp C' s' p=>(jD (K:=K) rfl (cE (bI hr) (pv 1) (pv 0) (λ_ _=>rfl)) rfl))
  (Clos.many (ys:=["pointers"]) rfl ⟨rfl,True.intro⟩ rfl (by decide+kernel)) (Reads.many (ys:=["pointers"]) (js:=[0]) ⟨⟨rfl,rfl,rfl⟩,True.intro⟩))))))),?_⟩
 walk_at"q"
 have ac:∀p,Same H p->∀q∈U,∃t,cV kp (Sum.inr q)=some (.ref t)/\WayIs a p (.ref t) (f q):=λp s' q D=>by
  obtain⟨v,ev,W⟩:=tp.vals q D;obtain⟨t,vh,vc,qx,rfl,_⟩:=id W;exact⟨t,ev,W.mono s'⟩
 intro e ne;obtain⟨H1,zq,s1,ad⟩:=uG (o:=.dK []) ne;rw[zq];refine dA (λσ' p=>yE3 λl q b=>σ'=[some (.ref d),some (.str q),some (.ref e),none]×' Same H p×' p e=some (.dK b)×' Tab IxIs p b (l.map WD.st) (λn=>(l.map WD.st).idxOf n)×' SeenW f U p0 l q×' q∈l.map WD.st) ?_ ?_
 ·refine⟨λm σ B=>yE3 λl q b=>m=U.length-l.length×' σ=[some (.ref d),some (.str q),some (.ref e),none]×' Same H B×' B e=some (.dK b)×' Tab IxIs B b (l.map WD.st) (λn=>(l.map WD.st).idxOf n)×' SeenW f U p0 l q,⟨_,[],p0,[],rfl,rfl,s1,ad,Tab.nil,⟨rfl,nR,λx hx=>absurd hx lR,af⟩⟩,?_⟩;rintro m σ B⟨l,q,b,rfl,rfl,s2,c,tb,F⟩;refine⟨_,rfl,_,rfl,e,_,rfl,DGet.k (k:=Sum.inr q) c,_,rfl,?_⟩;by_cases D:q∈l.map WD.st
  ·obtain⟨v,ev,_⟩:=tb.vals q D;rw[ev];refine iteF ?_;exact⟨l,q,b,rfl,s2,c,tb,F,D⟩
  ·rw[tb.none D];refine iteT ?_;obtain⟨lt,aa⟩:=F.next hf D
   have sx:=(hf q F.inn).1;obtain⟨t,ep,W⟩:=ac B s2 q F.inn;generalize f q=x at aa sx W;have lk:b.length=l.length:=by rw[tb.len,kX]
   refine⟨λσ' p=>yE1 λr=>σ'=[some (.ref d),some (.str (x.go)),some (.ref e),none]×' Same H p×' p e=some (.dK r)×' Tab IxIs p r ((l++[x]).map WD.st) (λn=>((l++[x]).map WD.st).idxOf n),(by rintro σ' p⟨r,e1,e2,e3,e4⟩;exact⟨U.length-(l++[x]).length,by rw[lG,l9];omega,l++[x],_,r,rfl,e1,e2,e3,e4,aa⟩),?_⟩;refine⟨_,rfl,e,b,rfl,c,_,rfl,_,rfl,e,_,rfl,DPut.k (k:=Sum.inr q) c (aT (by lia)),?_⟩;have stay:Stays a B (upd B e (.dK (cK b (Sum.inr q) (.int b.length)))):=.put c (λ_ _ _ z=>by cases z);have Y:Same H (upd B e (.dK (cK b (Sum.inr q) (.int b.length)))):=aY ne s2
   obtain⟨vh,vc,qx,e0,W6,_⟩:yE3 λvh vc qx=>V.ref t=V.ref t×' WayAt a (upd B e (.dK (cK b (Sum.inr q) (.int b.length)))) t x.kd x.nm x.st x.go vh vc qx x.x×' True:=by
    obtain⟨p',vh,vc,qx,e0,W',_⟩:=W.keep stay
    cases e0;exact⟨vh,vc,qx,rfl,W',trivial⟩
   obtain⟨M,S,O,X,_⟩:=id W6.ob;have c1:=cS T x.kd;refine⟨_,rfl,_,rfl,d,.ref t,rfl,.inl ⟨kp,Sum.inr q,.inl (Y _ _ hp),rfl,ep.symm⟩,t,_,M,S,_,rfl,O,c1.cl,c1.n3,X.go,?_⟩;refine⟨_,rfl,Y,aE,?_⟩;have em:(l++[x]).map WD.st=l.map WD.st++[q]:=by rw[lj,List.map_singleton,sx]
   have:=Tab.put (n:=q) (H:=upd B e (.dK (cK b (Sum.inr q) (.int b.length)))) (tb.mono λv x z=>z) (v:=.int b.length) (y:=b.length) rfl
   rw[gZ D]at this;rw[em];refine this.congr λn hn=>?_;unfold upf;by_cases en:n=q
   ·rw[if_pos en,en,List.idxOf_append,if_neg D,lk,kX];simp
   ·rw[if_neg en];rcases lB.mp hn with z|z
    ·rw[List.idxOf_append,if_pos z]
    ·exact absurd (lv.mp z) en
 rintro zU ae σ' B⟨l,q,b,rfl,s2,c,tb,F,D⟩;subst ae;refine⟨_,rfl,e,b,rfl,.inl c,λl1 ah=>?_⟩
 have ek:(b.map λkv=>kV kv.1)=(l.map WD.st).map V.str:=by
  have:=mj (List.map kV) tb.keys
  rw[mz,mz]at this;exact this
 rw[ek];obtain⟨H3,zq,Y,h1⟩:=uG (o:=.lst ((l.map WD.st).map V.str)) ah;rw[zq];obtain⟨v,ev,iv⟩:=tb.vals q D;obtain rfl :=iv;obtain⟨i,hi⟩:∃i,(l.map WD.st).idxOf q=i:=⟨_,rfl⟩;rw[hi]at ev;have il:i<(l.map WD.st).length:=by rw[<-hi];exact List.idxOf_lt_length_iff.mpr D
 have iq:(l.map WD.st)[i]?=some q:=by rw[lz il];congr 1;subst hi;exact List.getElem_idxOf il
 have rg:=F.ring hw iq;refine⟨_,rfl,_,rfl,e,_,rfl,.inl ⟨b,Sum.inr q,.inl (Y _ _ c),rfl,ev.symm⟩,_,rfl,l1,_,rfl,SqL.of h1,λl2 ai=>?_⟩;rw[cut_drop,<-List.map_drop,<-List.map_drop];obtain⟨H4,zq,s4,h2⟩:=uG (o:=.lst (((l.drop i).map WD.st).map V.str)) ai;rw[zq];have R:=s2.trans (Y.trans s4)
 have lr:(l.drop i).length<=100:=by
  have:=dS F.nd (ys:=U) λx hx=>by
   obtain⟨y,N,rfl⟩:=k8.mp hx;exact(F.by_ y N).1
  rw[kX]at this;rw[List.length_drop]
  lia
 have I:∀x∈l.drop i,x.st∈U/\x=f x.st:=λx hx=>F.by_ x (List.mem_of_mem_drop hx);generalize l.drop i=ring at rg h2 lr I⊢;refine⟨_,rfl,l2,rfl,⟨_,SqL.of h2⟩,λl3 L=>?_⟩;refine fQ (K:=K) (a:=l2) (xs:=(ring.map WD.st).map V.str) (λj J=>j<=ring.length×' Same H4 J×' J l3=some (.lst ((ring.take j).map λx=>V.str x.nm))) ⟨lD _,aU L,aE⟩ ((by rintro j J⟨_,Z,_⟩;exact SqL.of (Z _ _ h2))) ?_ ?_
 ·rintro j y J N⟨_,Z,h5⟩;rw[mz,lg]at N
  cases ez:ring[j]? with
  |none=>rw[ez]at N;cases N
  |some z=>
   rw[ez]at N
   cases N;have hj:=(kY.mp ez).1;have ab:=R.trans Z;obtain⟨zk,zf⟩:=I z (kZ ez);obtain⟨t,ep,W⟩:=ac J ab z.st zk;rw[<-zf]at W;obtain⟨p',vh,vc,qx,e0,W',_⟩:=W
   cases e0;obtain⟨M,S,O,X,_⟩:=id W'.ob;have c1:=cS T z.kd;refine g1 ⟨⟨[_],rfl,rfl⟩,yes ?_⟩;refine⟨_,rfl,_,rfl,d,.ref t,rfl,.inl ⟨kp,Sum.inr z.st,.inl (ab _ _ hp),rfl,ep.symm⟩,t,_,M,S,_,rfl,O,c1.cl,c1.n1,X.nm,?_⟩;refine⟨_,h5,aT (by rw[kX,lI];lia),fE (by rw[kX,kX];exact hj) ⟨hj,aY L Z,?_⟩⟩;rw[aE,lE,ez,lL,lj];rfl
 ·rintro J⟨_,Z,h5⟩;rw[kX,kX,lA]at h5;exact k l3 J ring (R.free L) (R.trans Z) h5 rg
inductive IspUnfit(a:Ad)(vs:List V)(H:Hp)(Q:VK):Prop
 |mk(p d:Addr)(ps:List (Str×Rat))(ds:List WD)(kvs:List (Key×V))(ks:List Str)(f:Str->Rat)(h1:vs=[.ref p,.ref d])(h2:NetOff a H p d ps ds)(h3:(ds.map (·.nm)).Nodup)(h4:H d=some (.dK kvs))(h5:Tab (FrIs a) H kvs ks f)(h6:ks.Nodup)(h7:(∀n∈ks,n∈ds.map (·.nm)/\0<=(f n).num))(h8:∀H',Same H H'->Q .non H'):IspUnfit a vs H Q
noncomputable def spUnfit(a:Ad):Sp:=λvs H Q _=>IspUnfit a vs H Q
theorem ok_refuse_unfit(T:TX K mg a):FnB P w K mg base CX0 "refuse_unfit" 2 ["net","plan"] (spUnfit a):=by
 refine T.d_refuse_unfit.okA sc_refuse_unfit λf ab A I s H vs Q E hr h=>?_;obtain⟨p,d,ps,ds,kvs,ks,f,rfl,off,nd,D,tb,G,L,k⟩:=h
 refine⟨_,(aF (fw (bO lH rfl (fZ (pv 1)) (iS (n:=2) rfl (cF (aR (i:=2) sc_refuse_unfit.nd) (cF (aR (i:=3) sc_refuse_unfit.nd) fS))) (aD (bY (eV (pv 0) hr aJ (aA (pv 2) aB)))
  (aF (bJ (aS jo (eT T.fr (pv 3) (eU T) hr aJ) aC) (aF cY) aV)))))),?_⟩
 walk_at"q"
 refine⟨d,.dK kvs,D,(by intro o z e;cases e),_,rfl,d,kvs,rfl,D,λo=>?_⟩;refine gJ (λi σ j=>yE2 λY O=>σ=[some (.ref p),some (.ref d),Y,O]×' j d=some (.frz o (.dK kvs))×'∀b c,H b=some c->b≠d->j b=some c) ⟨_,_,rfl,aE,λb c e ne=>by rw[aG ne];exact e⟩ ((by rintro i σ j _⟨_,_,_,h,_⟩;exact h)) ?_ ?_
 ·rintro i kv t σ j F nt⟨Y,O,rfl,U,M⟩;obtain⟨n,e0,e1,ev,q,eq,fq⟩:=tb.at_ G F;obtain⟨R,N⟩:=L n (kZ e0);have S:kV kv.1=.str n:=by rw[e1];rfl
  rw[S,eq];have J:=aU (o:=.tup [.str n,.ref q]) nt;have Z:upd j t (.tup [.str n,.ref q]) t=some (.tup [.str n,.ref q]):=aE;have B:∀b c,H b=some c->b≠d->upd j t (.tup [.str n,.ref q]) b=some c:=λb c e ne=>J _ _ (M b c e ne);have r:=J _ _ U;generalize upd j t (.tup [.str n,.ref q])=H3 at J Z B r⊢;have l:=off.but B;have y:=l.at_;obtain⟨dx,dw,dy,hp,_,_⟩:=id y;have X:=iV dw dy (m:="way") (by decide+kernel) (by decide+kernel);obtain⟨x,hx,ex⟩:=k8.mp R;refine⟨t,[.str n,.ref q],rfl,SqT.of Z,rfl,.str n,[.ref q],rfl,⟨.ref q,[],rfl,⟨rfl,?_⟩⟩⟩;refine⟨_,rfl,p,a.Net,dx,_,1,["self","name"],fW a,rfl,hp,X,T.cl_Net,by decide,eX T,_,rfl,p,ps,ds,x,by rw[ex];rfl,y,nd,hx,λv _=>?_⟩;have aa:FrAt a.Fraction H3 q (f n):=let⟨dq,g⟩:=fq;⟨dq,B _ _ g (λz=>by rw[z,D]at g;cases g)⟩
  walk_at"rd"
  refine hE (lM (sgn_nn N)) ?_;exact⟨_,_,rfl,r,B⟩
 ·rintro σ j⟨Y,O,rfl,U,M⟩;refine⟨o,U,k _ λb c e=>?_⟩;by_cases hb:b=d
  ·subst hb;rw[aE,<-D,e]
  ·rw[aG hb];exact M _ _ e hb
inductive IspLeast(K:W.Frag)(a:Ad)(vs:List V)(H:Hp)(Q:VK):Prop
 |mk(l:Addr)(ts:List V)(xs:List Rat)(h1:vs=[.ref l])(h2:SqL K H l ts)(h3:RowAt (FrIs a) H ts xs)(h4:xs≠[])(h5:(∀x∈xs,SmR x))(h6:∀q m,FrAt a.Fraction H q m->m∈xs->(∀x∈xs,m<=x)->Q (.ref q) H):IspLeast K a vs H Q
noncomputable def spLeast(K:W.Frag)(a:Ad):Sp:=λvs H Q _=>IspLeast K a vs H Q
theorem ok_least(T:TX K mg a):FnB P w K mg base CX0 "least" 5 ["numbers"] (spLeast K a):=by
 refine T.d_least.okA sc_least λf S A D s H vs Q E hr h=>?_;obtain⟨l,Y,xs,rfl,I,b,ne,N,k⟩:=h
 refine⟨_,(aD (aH (i:=1) sc_least.nd (aK bC (pv 0) aC))
  (aD (bO lH rfl (bZ (pv 0)) (aR (i:=2) sc_least.nd) (aF (bJ (eo (cM T.fr (pv 2) (ok_under T) hr aJ (aA (pv 1) aB))) (aF (aH (i:=1) sc_least.nd (pv 2))) aV)))
  (aF (aP (pv 1))))),?_⟩
 walk_at"q"
 obtain⟨U,L⟩:∃x,xs[0]?=some x:=by cases xs with|nil=>exact absurd rfl ne|cons x r=>exact⟨x,rfl⟩
 obtain⟨t0,et,q0,rfl,f0⟩:=b.get' L;refine⟨_,rfl,l,_,_,_,rfl,rfl,I,atI_nat et,?_⟩;refine⟨_,rfl,l,rfl,⟨_,I⟩,cG (λi σ B=>B=H/\yE3 λq m J=>σ=[some (.ref l),some (.ref q),J]×' FrAt a.Fraction H q m×' m∈xs×'∀x∈xs.take i,m<=x) ⟨rfl,q0,U,_,rfl,f0,kZ L,λx M=>by rw[nS]at M;cases M⟩ ((by rintro i σ B _⟨e,_⟩;exact by rw[e];exact I)) ?_ ?_⟩
 ·rintro i t σ B X⟨rfl,q,m,J,rfl,p,o,all⟩;obtain⟨x,ex,G,rfl,F⟩:=b.get X;have R:=N m o;have Z:=N x (kZ ex);have O:xs.take (i+1)=xs.take i++[x]:=by rw[lE,ex];rfl
  refine⟨_,rfl,G,x,rfl,F,_,rfl,G,q,x,m,rfl,F,p,Z,R,_,rfl,?_⟩;refine ifB (λh=>?_) (λh=>?_)
  ·refine⟨_,rfl,rfl,G,x,_,rfl,F,kZ ex,λy c=>?_⟩;rw[O]at c;rcases lB.mp c with z|z
   ·have:=all y z
    grind
   ·rw[lv.mp z];exact nO
  ·refine⟨rfl,q,m,_,rfl,p,o,λy c=>?_⟩;rw[O]at c;rcases lB.mp c with z|z
   ·exact all y z
   ·rw[lv.mp z];grind
 ·rintro σ B⟨rfl,q,m,J,rfl,p,o,all⟩;rw[b.1,lA]at all;exact⟨_,rfl,k q m p o all⟩
noncomputable def fOn(ws:List WD)(p:Str):WD:=(onw ws p).getD ⟨p,p,p,.way,0,0⟩
theorem fOn_at(h:p∈ws.map (·.st)):onw ws p=some (fOn ws p):=by
 obtain⟨x,e⟩:=onw_in h;unfold fOn;rw[e];rfl
inductive IspByStart(K:W.Frag)(a:Ad)(vs:List V)(H:Hp)(Q:VK):Prop
 |mk(l:Addr)(ts:List V)(ws:List WD)(h1:vs=[.ref l])(h2:SqL K H l ts)(h3:RowAt (WayIs a) H ts ws)(h4:ws.length<=100)(h5:∀d H' kvs,H d=none->Same H H'->H' d=some (.dK kvs)->Tab (WayIs a) H' kvs (cC (ws.map (·.st))) (fOn ws)->Q (.ref d) H'):IspByStart K a vs H Q
noncomputable def spByStart(K:W.Frag)(a:Ad):Sp:=λvs H Q _=>IspByStart K a vs H Q
theorem jq(T:TX K mg a):FnB P w K mg base CX0 "by_start" 1 ["ways"] (spByStart K a):=by
 refine T.d_by_start.okA sc_by_start λf U A D s H vs Q E hr h=>?_;obtain⟨l,ts,j,rfl,S,r,lw,k⟩:=h
 refine⟨_,(aD (aH (i:=1) sc_by_start.nd cU)
  (aD (bO lH rfl (bZ (pv 0)) (aR (i:=2) sc_by_start.nd) (aF (cI (bI hr) (pv 1) (aZ (pv 2) rfl) (pv 2) rfl)))
  (aF (aP (pv 1))))),?_⟩
 walk_at"q"
 intro d J;have O:=aU (o:=.dK []) J;refine⟨_,rfl,l,rfl,⟨_,O.seq S⟩,cG (λi σ c=>i<=j.length/\yE2 λL b=>σ=[some (.ref l),some (.ref d),L]×' Same H c×' c d=some (.dK b)×' Tab (WayIs a) c b (cC ((j.take i).map (·.st))) (fOn (j.take i))) ⟨lD _,_,[],rfl,O,aE,Tab.nil⟩ ((by rintro i σ c _⟨_,_,_,_,p,_⟩;exact p.seq S)) ?_ ?_⟩
 ·rintro i t σ c X⟨_,L,b,rfl,p,B,tb⟩;obtain⟨x,ex,Y⟩:=r.get X;have hi:=(kY.mp ex).1;obtain⟨F,Z,vc,q,rfl,W,hk⟩:=Y.mono p;obtain⟨I,M,G,N,_⟩:=id W.ob;have R:=cS T x.kd
  have lk:b.length<=900:=by
   rw[tb.len]
   have:=dQ ((j.take i).map (·.st))
   rw[kX,lI]at this
   lia
  refine⟨_,rfl,_,rfl,_,rfl,F,_,I,M,_,rfl,G,R.cl,R.n2,N.st,d,_,rfl,DPut.k (k:=Sum.inr x.st) B (aT (by lia)),?_⟩;have tk:j.take (i+1)=j.take i++[x]:=by rw[lE,ex];rfl
  have wx:WayIs a c (.ref F) x:=⟨F,Z,vc,q,rfl,W,hk⟩;refine⟨hi,_,_,rfl,aY J p,aE,?_⟩;rw[tk,lj,List.map_singleton,gj];refine(Tab.put (tb.mono λv y z=>z.put B) (wx.put B)).congr λm _=>?_;unfold upf fOn;rw[onw_snoc];by_cases e:m=x.st
  ·rw[if_pos e,if_pos e.symm];rfl
  ·rw[if_neg e,if_neg λz=>e z.symm]
 ·rintro σ c⟨_,L,b,rfl,p,B,tb⟩;rw[r.1,lA]at tb;exact⟨_,rfl,k d c b J p B tb⟩
end
end G
namespace G
open PySem L2
section
noncomputable def byN(ds:List WD)(n:Str):WD:=(ds.find? λx=>decide (x.nm=n)).getD ⟨n,n,n,.way,0,0⟩
theorem byN_in(h:n∈ds.map (·.nm)):byN ds n∈ds/\(byN ds n).nm=n:=by
 unfold byN
 cases e:ds.find? λx=>decide (x.nm=n)with
 |some x=>exact⟨List.mem_of_find?_eq_some e,of_decide_eq_true (List.find?_some (p:=λx:WD=>decide (x.nm=n)) e)⟩
 |none=>
  obtain⟨x,a,rfl⟩:=k8.mp h;exact absurd (lQ rfl) (List.find?_eq_none.mp e x a)
noncomputable def fK(ds:List WD)(ks:List Str):List WD:=ks.map (byN ds)
inductive IspRingIn(a:Ad)(vs:List V)(H:Hp)(Q:VK):Prop
 |mk(p d:Addr)(ps:List (Str×Rat))(ds:List WD)(kvs:List (Key×V))(ks:List Str)(f:Str->Rat)(h1:vs=[.ref p,.ref d])(h2:NetOff a H p d ps ds)(h3:(ds.map (·.nm)).Nodup)(h4:H d=some (.dK kvs))(h5:Tab (FrIs a) H kvs ks f)(h6:ks.Nodup)(h7:(∀n∈ks,n∈ds.map (·.nm)))(h8:ks.length<=24)(h9:(∀l H'(ring:List WD),H l=none->Same H H'->H' l=some (.lst (ring.map λx=>V.str x.nm))->RingW (fK ds ks) ring->Q (.ref l) H'))(h10:(∀l H',H l=none->Same H H'->H' l=some (.lst [])->Acyc (fK ds ks)->Q (.ref l) H')):IspRingIn a vs H Q
noncomputable def spRingIn(a:Ad):Sp:=λvs H Q _=>IspRingIn a vs H Q
theorem ok_ring_in(T:TX K mg a):FnB P w K mg base CX0 "ring_in" 3 ["net","plan"] (spRingIn a):=by
 refine T.d_ring_in.okA sc_ring_in λf b1 A bg s H B Q E hr h=>?_;obtain⟨p,d,ps,ds,kvs,ks,f,rfl,off,nd,hd,tb,bl,M,b0,k,k0⟩:=h
 refine⟨_,(aX (fw (fY (i:=2) (xs:=["name"]) (rest:=["net"]) sc_ring_in.nd rfl rfl rfl (iR (pv 1))
  (λF fp C' s' c=>(aR (i:=0) (show(["name","net"]:List Str).Nodup by decide+kernel))) (λF fp C' s' c=>eI)
  (λF fp C' s' c=>(pe_mtDK (CX:=CX0) (P:=P) (w:=w) (K:=K) (mg:=mg) (base:=base) rfl rfl rfl rfl rfl (pv 1) hr aJ (aA (pv 0) aB)))
  (Clos.many (ys:=["net"]) rfl ⟨rfl,True.intro⟩ rfl (by decide+kernel)) (Reads.many (ys:=["net"]) (js:=[0]) ⟨⟨rfl,rfl,rfl⟩,True.intro⟩)))
  (aD (aH (i:=3) sc_ring_in.nd (aO (jq T) hr aJ (aA (pv 2) aB)))
  (aX (fY (i:=4) (xs:=["way"]) (rest:=["onward"]) sc_ring_in.nd rfl rfl rfl (bZ (pv 2))
  (λF fp C' s' c=>(aR (i:=0) (show(["way","onward"]:List Str).Nodup by decide+kernel))) (λF fp C' s' c=>(pts_one (j0 (pc_din (bI hr) (jD (K:=K) rfl (pv 0) rfl) (pv 1)))))
  (λF fp C' s' c=>(pv 0))
  (Clos.many (ys:=["onward"]) rfl ⟨rfl,True.intro⟩ rfl (by decide+kernel)) (Reads.many (ys:=["onward"]) (js:=[3]) ⟨⟨rfl,rfl,rfl⟩,True.intro⟩))
  (aX (iE lH (aS jo (bV cO (by rfl) T.z_len mR (aA (pv 4) aB)) (bV cO (by rfl) T.z_len mR (aA (pv 2) aB))) (aD (aH (i:=2) sc_ring_in.nd (pv 4))
  (aD (aH (i:=3) sc_ring_in.nd (aO (jq T) hr aJ (aA (pv 2) aB)))
  (aF (fY (i:=4) (xs:=["way"]) (rest:=["onward"]) sc_ring_in.nd rfl rfl rfl (bZ (pv 2))
  (λF fp C' s' c=>(aR (i:=0) (show(["way","onward"]:List Str).Nodup by decide+kernel))) (λF fp C' s' c=>(pts_one (j0 (pc_din (bI hr) (jD (K:=K) rfl (pv 0) rfl) (pv 1)))))
  (λF fp C' s' c=>(pv 0))
  (Clos.many (ys:=["onward"]) rfl ⟨rfl,True.intro⟩ rfl (by decide+kernel)) (Reads.many (ys:=["onward"]) (js:=[3]) ⟨⟨rfl,rfl,rfl⟩,True.intro⟩))))))
  (aD (bJ (aS (ig hr.units0) (pv 2) (bH aB)) (aF (aP (bH aB))) aV)
  (aF (aP (aO (ok_ring_along T) hr aJ (aA (pv 3) (aA (aZ (aK bC (pv 2) aC) rfl) aB)))))))))),?_⟩
 walk_at"q"
 refine dA (λσ' c=>yE2 λO U=>σ'=[some (.ref p),some (.ref d),some (.ref O),none,none]×' Same H c×' c O=some (.lst U)×' RowAt (WayIs a) c U (fK ds ks)) ?_ ?_
 ·refine⟨d,.dK kvs,hd,(by intro o z e;cases e),_,rfl,d,kvs,rfl,hd,λo l nl=>?_⟩;have ar:d≠l:=λz=>by rw[z,aE]at nl;cases nl
  have a5:H l=none:=by rw[aG ar.symm]at nl;exact nl
  refine compG_dict (a:=d) (o:=o) (kvs:=kvs) (λi H2=>i<=ks.length×' H2 d=some (.frz o (.dK kvs))×'(∀b ob,H b=some ob->b≠d->H2 b=some ob)×'∃ts,H2 l=some (.lst ts)/\RowAt (WayIs a) H2 ts (fK ds (ks.take i)))
   ⟨lD _,by rw[aG ar,aE],(λb ob e ne=>by rw[aG (aN e a5),aG ne];exact e),[],aE,RowAt.nil⟩ ((by rintro i H2⟨_,h,_⟩;exact h)) ?_ ?_
  ·rintro i N H2 be⟨_,hf,k2,ts,ag,hv⟩;obtain⟨n,en,e1,ev,_⟩:=tb.at_ bl be;have hi:i<ks.length:=(kY.mp en).1;have bw:kV N.1=.str n:=by rw[e1];rfl
   rw[bw];have a7:=(off.but k2).at_;obtain⟨dx,dw,dy,hp,_,_⟩:=id a7;have bt:=iV dw dy (m:="way") (by decide+kernel) (by decide+kernel);obtain⟨bo,bf⟩:=byN_in (M n (kZ en));refine g1 ⟨⟨[_],rfl,rfl⟩,yes ?_⟩;refine⟨_,rfl,p,a.Net,dx,_,1,["self","name"],fW a,rfl,hp,bt,T.cl_Net,by decide,eX T,_,rfl,p,ps,ds,byN ds n,by rw[bf];rfl,a7,nd,bo,λv hx=>?_⟩;have bz:ts.length=i:=by rw[hv.1];unfold fK;rw[kX,lI];lia
   refine⟨_,ag,aT (by lia),fE (by rw[tb.len];exact hi) ⟨hi,by rw[aG ar];exact hf,(λb ob e ne=>by rw[aG (aN e a5)];exact k2 _ _ e ne),_,aE,?_⟩⟩;unfold fK;rw[lE,en,lL,lj];exact RowAt.snoc (hv.mono λv x z=>z.lst ag) (hx.lst ag)
  ·rintro H2⟨_,hf,k2,ts,ag,hv⟩;rw[tb.len,lA]at hv;refine⟨o,hf,l,ts,rfl,λb ob e=>?_,by rw[aG ar.symm];exact ag,hv.mono λv x z=>z.keep λb C bx b2 _ e=>?_⟩
   ·by_cases hb:b=d
    ·subst hb;rw[aE,<-hd,e]
    ·rw[aG hb];exact k2 _ _ e hb
   ·rw[aG λz=>by rw[z,hf]at e;cases e];exact e
 rintro zU ap σ' H1⟨O,U,rfl,s1,a9,az⟩;have bq:(fK ds ks).length=ks.length:=by unfold fK;rw[kX]
 subst ap;generalize bc:i9 _ _=k9
 revert k9
 refine gB λk9 bc=>?_;generalize au:fK ds ks=ws at az bq k k0;refine⟨_,rfl,O,U,ws,rfl,SqL.of a9,az,(by lia),λon Hb N bh sb Y R=>?_⟩;have a1:=s1.trans sb;have J:=sb _ _ a9;have I:=az.mono λv x z=>z.mono sb;subst bc;refine dA (λσ' c=>yE7 λO U on N S y D=>σ'=[some (.ref p),some (.ref d),some (.ref O),some (.ref on),some (.ref S)]×' Same H c×' c O=some (.lst U)×' RowAt (WayIs a) c U D×' c on=some (.dK N)×' Tab (WayIs a) c N (cC (D.map (·.st))) (fOn D)×' c S=some (.lst y)×' RowAt (WayIs a) c y (dF D)×'(∀x∈D,x∈fK ds ks)×' D.length<=24×'(Acyc D->Acyc (fK ds ks))) ?_ ?_
 ·refine⟨_,rfl,O,rfl,⟨_,SqL.of J⟩,λS ao=>?_⟩;refine fQ (K:=K) (a:=O) (xs:=U) (λj Hc=>j<=ws.length×' Same Hb Hc×'∃y,Hc S=some (.lst y)/\RowAt (WayIs a) Hc y ((ws.take j).filter λx=>decide (x.go∈ws.map (·.st)))) ⟨lD _,aU ao,[],aE,RowAt.nil⟩ ((by rintro j Hc⟨_,G,_⟩;exact SqL.of (G _ _ J))) ?_ ?_
  ·rintro j v Hc hv⟨_,G,y,hk,r⟩;obtain⟨x,ex,hx⟩:=I.get hv;have hj:=(kY.mp ex).1;have ak:=hx.mono G;obtain⟨p1,vh,vc,qx,rfl,W,ba⟩:=id ak;obtain⟨am,al,aj,aq,_⟩:=id W.ob;have c1:=cS T x.kd
   have bu:y.length<=100:=by
    rw[r.1];exact lC (nh _ _) (by rw[lI];lia)
   have ae:(ws.take (j+1)).filter (λx=>decide (x.go∈ws.map (·.st)))=(ws.take j).filter (λx=>decide (x.go∈ws.map (·.st)))++[x].filter (λx=>decide (x.go∈ws.map (·.st))):=by rw[lE,ex,lL,og]
   refine g1 ⟨⟨[_],rfl,rfl⟩,?_⟩;refine⟨_,rfl,p1,_,am,al,_,rfl,aj,c1.cl,c1.n3,aq.go,_,rfl,on,_,rfl,DGet.k (k:=Sum.inr x.go) (G _ _ Y),_,rfl,?_⟩;by_cases M:x.go∈ws.map (·.st)
   ·obtain⟨v',a0,_⟩:=R.vals x.go (mem_keysOf.mpr M);rw[a0];refine iteT ⟨_,rfl,_,hk,aT (by lia),fE (by rw[I.1];exact hj) ⟨hj,aY ao G,_,aE,?_⟩⟩;rw[ae,nJ (by exact lQ M)];exact RowAt.snoc (r.mono λv x z=>z.lst hk) (ak.lst hk)
   ·rw[R.none λz=>M (mem_keysOf.mp z)];refine iteF (fE (by rw[I.1];exact hj) ⟨hj,G,y,hk,?_⟩);rw[ae,nK (by simpa using M),List.filter_nil,m6];exact r
  ·rintro Hc⟨_,G,y,hk,r⟩;rw[I.1,lA]at r;exact⟨O,U,on,N,S,y,ws,rfl,a1.trans G,G _ _ J,I.mono λv x z=>z.mono G,G _ _ Y,R.mono λv x z=>z.mono G,hk,r,λx hx=>by rw[au];exact hx,by lia,λh=>by rw[au];exact h⟩
 rintro zU ap σ' H2⟨bn,bv,on,N,S,y,D,rfl,s2,aw,ay,Y,R,a6,r,sub,a8,back⟩;subst ap;refine dA (λσ' c=>yE7 λO U on N S y D=>σ'=[some (.ref p),some (.ref d),some (.ref O),some (.ref on),some (.ref S)]×' Same H c×' c O=some (.lst U)×' RowAt (WayIs a) c U D×' c on=some (.dK N)×' Tab (WayIs a) c N (cC (D.map (·.st))) (fOn D)×' c S=some (.lst y)×' RowAt (WayIs a) c y (dF D)×'(∀x∈D,x∈fK ds ks)×' D.length<=24×'(Acyc D->Acyc (fK ds ks))×'∀x∈D,x.go∈D.map (·.st)) ?_ ?_
 ·refine⟨λm σ H3=>yE7 λO U on N S y D=>m=D.length×' σ=[some (.ref p),some (.ref d),some (.ref O),some (.ref on),some (.ref S)]×' Same H H3×' H3 O=some (.lst U)×' RowAt (WayIs a) H3 U D×' H3 on=some (.dK N)×' Tab (WayIs a) H3 N (cC (D.map (·.st))) (fOn D)×' H3 S=some (.lst y)×' RowAt (WayIs a) H3 y (dF D)×'(∀x∈D,x∈fK ds ks)×' D.length<=24×'(Acyc D->Acyc (fK ds ks)),⟨_,bn,bv,on,N,S,y,D,rfl,rfl,s2,aw,ay,Y,R,a6,r,sub,a8,back⟩,?_⟩;clear aw ay Y R a6 r sub a8 back s2;rintro m σ H3⟨ah,a4,a3,a2,ab,an,B,rfl,rfl,s3,ad,Z,af,ai,aa,X,ac,ax,L⟩;refine⟨_,rfl,ab,_,rfl,.inl (SqL.of aa),_,rfl,ah,_,rfl,.inl (SqL.of ad),_,_,rfl,rfl,_,rfl,?_⟩;have e1:=X.1;have e2:=Z.1;by_cases lt:(dF B).length<B.length
  case neg=>exact hE (lM (by lia)) ⟨ah,a4,a3,a2,ab,an,B,rfl,s3,ad,Z,af,ai,aa,X,ac,ax,L,kept_all lt⟩
  refine kP (lQ (by lia)) ⟨λσ' c=>yE6 λO U on N S y=>σ'=[some (.ref p),some (.ref d),some (.ref O),some (.ref on),some (.ref S)]×' Same H c×' c O=some (.lst U)×' RowAt (WayIs a) c U (dF B)×' c on=some (.dK N)×' Tab (WayIs a) c N (cC ((dF B).map (·.st))) (fOn (dF B))×' c S=some (.lst y)×' RowAt (WayIs a) c y (dF (dF B)),(by rintro σ' c⟨O,U,on,N,S,y,e,s',h1,h2,h3,h4,h5,h6⟩;exact⟨(dF B).length,lt,O,U,on,N,S,y,dF B,rfl,e,s',h1,h2,h3,h4,h5,h6,λx hx=>ac x (mem_kept.mp hx).1,by omega,λh=>L h.back⟩),?_⟩;refine⟨_,rfl,?_⟩;have bj:(dF B).length<=100:=by lia
  refine⟨_,rfl,ab,an,(dF B),rfl,SqL.of aa,X,bj,λon Hb N bh sb Y R=>?_⟩;have a1:=s3.trans sb;have J:=sb _ _ aa;have I:=X.mono λv x z=>z.mono sb;refine⟨_,rfl,ab,rfl,⟨_,SqL.of J⟩,λS ao=>?_⟩;refine fQ (K:=K) (a:=ab) (xs:=an) (λj Hc=>j<=(dF B).length×' Same Hb Hc×'∃y,Hc S=some (.lst y)/\RowAt (WayIs a) Hc y (((dF B).take j).filter λx=>decide (x.go∈(dF B).map (·.st)))) ⟨lD _,aU ao,[],aE,RowAt.nil⟩ ((by rintro j Hc⟨_,G,_⟩;exact SqL.of (G _ _ J))) ?_ ?_
  ·rintro j v Hc hv⟨_,G,y,hk,r⟩;obtain⟨x,ex,hx⟩:=I.get hv;have hj:=(kY.mp ex).1;have ak:=hx.mono G;obtain⟨p1,vh,vc,qx,rfl,W,ba⟩:=id ak;obtain⟨am,al,aj,aq,_⟩:=id W.ob;have c1:=cS T x.kd
   have bu:y.length<=100:=by
    rw[r.1];exact lC (nh _ _) (by rw[lI];lia)
   have ae:((dF B).take (j+1)).filter (λx=>decide (x.go∈(dF B).map (·.st)))=((dF B).take j).filter (λx=>decide (x.go∈(dF B).map (·.st)))++[x].filter (λx=>decide (x.go∈(dF B).map (·.st))):=by rw[lE,ex,lL,og]
   refine g1 ⟨⟨[_],rfl,rfl⟩,?_⟩;refine⟨_,rfl,p1,_,am,al,_,rfl,aj,c1.cl,c1.n3,aq.go,_,rfl,on,_,rfl,DGet.k (k:=Sum.inr x.go) (G _ _ Y),_,rfl,?_⟩;by_cases M:x.go∈(dF B).map (·.st)
   ·obtain⟨v',a0,_⟩:=R.vals x.go (mem_keysOf.mpr M);rw[a0];refine iteT ⟨_,rfl,_,hk,aT (by lia),fE (by rw[I.1];exact hj) ⟨hj,aY ao G,_,aE,?_⟩⟩;rw[ae,nJ (by exact lQ M)];exact RowAt.snoc (r.mono λv x z=>z.lst hk) (ak.lst hk)
   ·rw[R.none λz=>M (mem_keysOf.mp z)];refine iteF (fE (by rw[I.1];exact hj) ⟨hj,G,y,hk,?_⟩);rw[ae,nK (by simpa using M),List.filter_nil,m6];exact r
  ·rintro Hc⟨_,G,y,hk,r⟩;rw[I.1,lA]at r;exact⟨ab,an,on,N,S,y,rfl,a1.trans G,G _ _ J,I.mono λv x z=>z.mono G,G _ _ Y,R.mono λv x z=>z.mono G,hk,r⟩
 rintro zU ap σ' H3⟨ah,a4,a3,a2,ab,an,B,rfl,s3,ad,Z,af,ai,aa,X,ac,ax,L,all⟩;subst ap;refine⟨_,rfl,by decide,λe0 ne0=>?_⟩;obtain⟨H4,zq,s4,he⟩:=uG (o:=.lst []) ne0;rw[zq];have as:=s3.trans s4;have av:=s4 _ _ ad;refine⟨ah,e0,_,rfl,rfl,SqL.of av,SqL.of he,_,rfl,?_⟩
 cases a4 with
 |nil=>
  refine iteT ⟨by decide,λl nl=>k0 l _ (as.free nl) (as.trans (aU nl)) aE ?_⟩
  have:B=[]:=List.length_eq_zero_iff.mp Z.1.symm
  rw[this,au]at L;exact L Acyc.nil
 |cons t0 tr=>
  obtain⟨x0,bm,bp⟩:=(Z.mono λv x z=>z.mono s4).get (i:=0) (t:=t0) rfl;obtain⟨p1,vh,vc,qx,rfl,W,ba⟩:=id bp;obtain⟨am,al,aj,aq,_⟩:=id W.ob;have c1:=cS T x0.kd;refine iteF ⟨_,rfl,_,rfl,ah,_,_,_,rfl,rfl,SqL.of av,atI_nat (j:=0) rfl,p1,_,am,al,_,rfl,aj,c1.cl,c1.n2,aq.st,?_⟩;have bb:∀{q:Str},q∈cC (B.map (·.st))->onw B q=some (fOn B q):=λhq=>fOn_at (mem_keysOf.mp hq);refine⟨a3,x0.st,a2,cC (B.map (·.st)),fOn B,ws,rfl,s4 _ _ af,ai.mono λv x z=>z.mono s4,λq hq=>?_,λq hq=>?_,mem_keysOf.mpr (k8.mpr ⟨x0,kZ bm,rfl⟩),?_,λl H5 ring nl s5 br rg=>k l H5 ring (as.free nl) (as.trans s5) br rg⟩
  ·obtain⟨h1,h2⟩:=onw_some (bb hq);exact⟨h2,mem_keysOf.mpr (all _ h1)⟩
  ·have:=ac _ (onw_some (bb hq)).1
   rw[au]at this;exact this
  ·have:=dQ (B.map (·.st))
   rw[kX]at this
   lia
end
end G
namespace G
open PySem L2
section
structure WkS(n:Nat)(ds:List WD):Prop where
 b:∀d∈ds,SmR d.x/\Bd n (aW d.kd d.x)
 l:ds.length*n<=800
 n:n<=800
 len:ds.length<=6
 nd:(ds.map (·.nm)).Nodup
theorem WkS.g{n:Nat}(h:WkS n ds):Bd 800 (aL ds):=by
 have:=kQ ds (λd a=>(h.b d a).2) ds.length (k5 _)
 rw[lA]at this;exact this.mono h.l
theorem Bd.s9(h:Bd n x)(hn:n<9000:=by decide):SmR x:=h.smr hn
noncomputable def sA(x:Rat)(ds:List WD)(n:Str):Rat:=(occ (dL x ds) n).sum
theorem fh(x:Rat)(ds:List WD):going x ds=x*aL ds:=by
 unfold going aL;generalize a:(1:Rat)=y
 have h:∀(ds:List WD)(x y z:Rat),x=z*y->ds.foldl (λy d=>y*aW d.kd d.x) x=z*ds.foldl (λy d=>y*aW d.kd d.x) y:=by
  intro ds
  induction ds with
  |nil=>intro x y z e;exact e
  |cons d r ih=>
   intro x y z e;rw[oa,oa];exact ih _ _ z (by rw[e,nU])
 exact h ds x y x (by rw[<-a,Rat.mul_one])
theorem WkS.going{n m:Nat}{ds:List WD}(S:WkS n ds){x:Rat}(hx:Bd m x){i:Nat}(hi:i<=ds.length):Bd (m+800) (going x (ds.take i)):=by
 rw[fh]
 have:=kQ ds (λd a=>(S.b d a).2) i hi
 have c:i*n<=800:=lC (m8 _ hi) S.l;exact hx.mul (this.mono c)
theorem WkS.occ{n m:Nat}{ds:List WD}(S:WkS n ds){x:Rat}(hx:Bd m x)(nm:Str):∀i,i<=ds.length->(nm∉(ds.take i).map (·.nm)->occ (dL x (ds.take i)) nm=[])/\(occ (dL x (ds.take i)) nm=[]∨∃y,occ (dL x (ds.take i)) nm=[y]/\Bd (m+800) y)
 |0,_=>⟨λ_=>rfl,.inl rfl⟩
 |i+1,h=>by
  obtain⟨c,p⟩:=WkS.occ S hx nm i (by omega);have o:=lz (l:=ds) (i:=i) (by omega);generalize r:ds[i]'_=d at o;have j:ds.take (i+1)=ds.take i++[d]:=by rw[lE,o,lL]
  rw[j,jZ,occ_snoc,lj];by_cases e:d.nm=nm
  ·rw[if_pos e]
   have a:nm∉(ds.take i).map (·.nm):=λz=>by
    have b:=S.nd;rw[<-List.take_append_drop (i+1) ds,j,List.append_assoc,lj,lj]at b;exact(mo.mp b).2.2 nm z nm (by rw[<-e];simp) rfl
   rw[c a];exact⟨λz=>absurd (lS _ (by simp[e])) z,.inr ⟨_,rfl,S.going hx (by omega)⟩⟩
  ·rw[if_neg e];exact⟨λz=>c λq=>z (lJ _ q),p⟩
theorem WkS.all{n m:Nat}(S:WkS n ds)(hx:Bd m x)(nm:Str):(nm∉ds.map (·.nm)->G.occ (dL x ds) nm=[])/\(G.occ (dL x ds) nm=[]∨∃y,G.occ (dL x ds) nm=[y]/\Bd (m+800) y):=by
 have:=S.occ hx nm ds.length (k5 _)
 rw[lA]at this;exact this
theorem WkS.sA{n m:Nat}{ds:List WD}(S:WkS n ds){x:Rat}(hx:Bd m x)(nm:Str):Bd (m+800) (sA x ds nm):=by
 unfold G.sA;rcases(S.all hx nm).2 with e|⟨y,e,h⟩
 ·rw[e];exact Bd.zero.mono (by omega)
 ·rw[e,nv,List.sum_nil,mU];exact h
noncomputable def PlanA(a:Ad)(H:Hp)(r:Addr)(A:Str->Rat)(m:Nat):Prop:=∃kvs ks,H r=some (.dK kvs)/\Tab (FrIs a) H kvs ks A/\ks.Nodup/\ks.length<=m/\∀n,n∈ks↔A n≠0
theorem PlanA.mono(h:PlanA a H r A m)(s:Same H H'):PlanA a H' r A m:=by
 obtain⟨kvs,ks,h1,h2,h3⟩:=h;exact⟨kvs,ks,s _ _ h1,h2.mono λ_ _ z=>z.mono s,h3⟩
theorem Tab.congr'(h:Tab (FrIs a) H kvs ks f)(e:∀n∈ks,f n=g n):Tab (FrIs a) H kvs ks g:=⟨h.keys,λn b=>by obtain⟨v,c,i⟩:=h.vals n b;exact⟨v,c,by rw[<-e n b];exact i⟩⟩
theorem kh(f:Str->Rat)(ks:List Str):(gA f ks).length<=ks.length:=nh _ _
theorem mem_some0:n∈gA f ks↔n∈ks/\f n≠0:=by unfold gA;rw[n8,decide_eq_true_eq]
theorem kg(h:ks.Nodup):(gA f ks).Nodup:=List.Pairwise.filter _ h
inductive IspSentA(K:W.Frag)(a:Ad)(vs:List V)(H:Hp)(Q:VK):Prop
 |mk(p l q:Addr)(ps:List (Str×Rat))(ns ds:List WD)(x:Rat)(n m:Nat)(h1:vs=[.ref p,.ref l,.ref q])(h2:OnNet K a H p l ps ns ds)(h3:FrAt a.Fraction H q x)(h4:WkS n ds)(h5:Bd m x)(h6:m<=8100)(h7:∀r H',H r=none->Same H H'->PlanA a H' r (sA x ds) 6->Q (.ref r) H'):IspSentA K a vs H Q
noncomputable def spSentA(K:W.Frag)(a:Ad):Sp:=λvs H Q _=>IspSentA K a vs H Q
theorem sentA(T:TX K mg a):FnB P w K mg base CX0 "sent" 9 ["net","walk","amount"] (spSentA K a):=by
 refine(ok_sent T).imp λM H Q E h=>?_;obtain⟨p,l,q,B,ns,c,x,n,m,rfl,O,F,S,s,N,k⟩:=h;refine⟨p,l,q,B,ns,c,x,rfl,O,F,λd t=>⟨(S.b d t).1,(S.b d t).2.smr (by have:=S.n;lia)⟩,λi G=>(S.going s G).smr (by lia),λj=>?_,λr L o J D A tb=>k r L J D ⟨o,_,A,tb,kg (gG _),?_,λj=>?_⟩⟩
 ·rcases(S.all s j).2 with e|⟨y,e,h⟩
  ·rw[e];exact⟨0,.nil,by decide⟩
  ·rw[e];exact⟨0+(m+800+1),.snoc .nil h,by lia⟩
 ·have A:=kh (λn=>(occ (dL x c) n).sum) (cC (c.map (·.nm)));have I:=dQ (c.map (·.nm));rw[kX]at I
  have:=S.len
  lia
 ·rw[mem_some0];constructor
  ·exactλz=>z.2
  ·intro z;refine⟨mem_keysOf.mpr (lZ λq=>z ?_),z⟩;show(occ (dL x c) j).sum=0;rw[(S.all s j).1 q];rfl
inductive IspTogA(a:Ad)(vs:List V)(H:Hp)(Q:VK):Prop
 |mk(d e:Addr)(A B:Str->Rat)(m n b:Nat)(h1:vs=[.ref d,.ref e])(h2:PlanA a H d A m)(h3:PlanA a H e B n)(h4:m+n<=900)(h5:(∀x,Bd b (A x)/\Bd b (B x)))(h6:b<9000)(h7:∀r H',H r=none->Same H H'->PlanA a H' r (λx=>A x+B x) (m+n)->Q (.ref r) H'):IspTogA a vs H Q
noncomputable def spTogA(a:Ad):Sp:=λvs H Q _=>IspTogA a vs H Q
theorem jx(h:∀n,n∈ks↔A n≠0)(n:Str):bM ks A n=A n:=by
 unfold bM;by_cases e:n∈ks
 ·rw[if_pos e]
 ·rw[if_neg e];exact(lZ λz=>e ((h n).mpr λq=>z q.symm))
theorem bothK_le(k1 k2:List Str):(gC k1 k2).length<=k1.length+k2.length:=by
 unfold gC
 induction k2 generalizing k1 with
 |nil=>exact k5 _
 |cons x r ih=>
  have:=ih (addK k1 x)
  have a:(addK k1 x).length<=k1.length+1:=by unfold addK;split;lia;rw[lG];exact k5 _
  rw[oa,mh]
  lia
theorem bothK_nd(h:k1.Nodup):(gC k1 k2).Nodup:=by
 unfold gC
 induction k2 generalizing k1 with
 |nil=>exact h
 |cons x r ih=>rw[oa];exact ih (nodup_addK h)
theorem togA(T:TX K mg a):FnB P w K mg base CX0 "together" 6 ["one","other"] (spTogA a):=by
 refine(ok_together T).imp λU H Q E h=>?_;obtain⟨d,e,A,B,m,n,b,rfl,⟨y,i,M,O,j,R,l⟩,⟨p,c,I,F,t,S,o⟩,X,bd,D,k⟩:=h;refine⟨d,e,y,p,i,c,A,B,rfl,M,O,j,I,F,t,by lia,λx _=>⟨by rw[jx l];exact(bd x).1.smr D,(bd x).2.smr D⟩,λr L s J G N tb=>k r L J G ⟨s,gA (sumA i A c B) (gC i c),N,?_,kg (bothK_nd j),?_,λx=>?_⟩⟩
 ·exact tb.congr' λx _=>by unfold sumA;rw[jx l,jx o]
 ·have:=kh (sumA i A c B) (gC i c)
  have:=bothK_le i c
  lia
 ·rw[mem_some0,mem_bothK];unfold sumA;rw[jx l,jx o];constructor
  ·exactλz=>z.2
  ·intro z;refine⟨?_,z⟩;by_cases e:A x=0
   ·refine .inr ((o x).mpr λq=>z ?_);show A x+B x=0;rw[e,q,mU]
   ·exact .inl ((l x).mpr e)
noncomputable def con(d:WD)(y:Rat)(s:Str):Rat:=if s=d.go then y*aW d.kd d.x else if s=d.st then-y else 0
theorem fV(h:d.st≠d.go)(s:Str):sumStep A F d s=F s+con d (A d.nm) s:=by
 unfold sumStep con upf;by_cases h1:s=d.go
 ·rw[if_pos h1,if_pos h1,h1]
 ·rw[if_neg h1,if_neg h1];by_cases h2:s=d.st
  ·rw[if_pos h2,if_pos h2,h2];grind
  ·rw[if_neg h2,if_neg h2];grind
theorem con_add(d:WD)(y z:Rat)(s:Str):con d (y+z) s=con d y s+con d z s:=by
 unfold con
 split
 ·grind
 ·split<;>grind
theorem sumF_upd:∀ds:List WD,(∀d∈ds,d.st≠d.go)->(ds.map (·.nm)).Nodup->∀s,(¬n∈ds.map (·.nm)->bK (λm=>if m=n then A m+g else A m) ds s=bK A ds s)/\(∀d∈ds,d.nm=n->bK (λm=>if m=n then A m+g else A m) ds s=bK A ds s+con d g s):=by
 refine dR ?_ ?_
 ·intro _ _ s;exact⟨λ_=>rfl,λd b=>absurd b lR⟩
 ·intro ds d t ne o s;rw[lj]at o;obtain⟨i,_,a⟩:=mo.mp o;obtain⟨p,r⟩:=t (λz w=>ne z (lJ _ w)) i s;have b:=ne d (by simp);rw[gH,gH,fV b,fV b];refine⟨λl=>?_,λe q c=>?_⟩
  ·rw[lj,lB]at l;rw[p λz=>l (.inl z),if_neg λz=>l (.inr (by simp[z]))]
  ·rcases lB.mp q with h|h
   ·have j:d.nm≠n:=λz=>a e.nm (k8.mpr ⟨e,h,rfl⟩) d.nm (by simp) (by rw[c,z]);rw[r e h c,if_neg j];grind
   ·have:=lv.mp h
    subst this;have hnd:¬n∈ds.map (·.nm):=λz=>a n z e.nm (by simp) c.symm;rw[p hnd,if_pos c,con_add];grind
noncomputable def ij(p q:Str)(x y:Rat)(s:Str):Rat:=(if s=q then y else 0)-(if s=p then x else 0)
noncomputable def mns(A:Str->Rat)(l:List WD)(x:Rat)(n:Str):Rat:=A n-sA x l n
theorem iO(x:Rat)(n:Str):sA x [] n=0:=rfl
theorem jC(x:Rat)(d:WD)(r:List WD)(n:Str):sA x (d::r) n=(if n=d.nm then x else 0)+sA (x*aW d.kd d.x) r n:=by
 unfold sA;show(occ ((d.nm,x)::dL (x*aW d.kd d.x) r) n).sum=_;unfold occ;rw[List.filter_cons];by_cases h:d.nm=n
 ·rw[if_pos (by exact lQ h),mw,nv,if_pos h.symm]
 ·rw[if_neg (by simpa using h),if_neg λz=>h z.symm,Rat.zero_add]
theorem going_cons(x:Rat)(d:WD)(r:List WD):going x (d::r)=going (x*aW d.kd d.x) r:=rfl
theorem sA_mul(x:Rat)(n:Str):∀(l:List WD)(y:Rat),sA (x*y) l n=x*sA y l n
 |[],y=>by rw[iO,iO,Rat.mul_zero]
 |d::r,y=>by
  rw[jC,jC,nU,sA_mul x n r]
  split<;>grind
theorem eZ(x:Rat)(l:List WD)(n:Str):sA x l n=x*sA 1 l n:=by
 have:=sA_mul x n l 1
 rw[Rat.mul_one]at this;exact this
theorem iN:∀{l:List WD}{x:Rat},¬n∈l.map (·.nm)->sA x l n=0
 |[],_,_=>rfl
 |d::r,x,h=>by
  rw[jC,if_neg λz=>h (by rw[z];exact lO),iN λz=>h (lF _ z),Rat.zero_add]
theorem jB(ne:∀d∈ns,d.st≠d.go)(nd:(ns.map (·.nm)).Nodup):∀(l:List WD)(A:Str->Rat)(p:Str)(x:Rat),PthW p l q->(∀d∈l,d∈ns)->bK (mns A l x) ns s=bK A ns s-ij p q x (going x l) s
 |[],A,p,x,h,_=>by
  have e:mns A [] x=A:=funext λn=>by
   unfold mns;rw[iO];grind
  rw[e];have h:p=q:=h;unfold ij going;rw[h,List.foldl_nil];grind
 |d::r,A,p,x,h,sub=>by
  have a:=sub d lO
  have e:mns A (d::r) x=mns (λm=>if m=d.nm then A m+-x else A m) r (x*aW d.kd d.x):=funext λn=>by
   unfold mns;rw[jC];show A n-_=(if n=d.nm then A n+-x else A n)-_
   split<;>grind
  rw[e,jB ne nd r _ _ _ h.2 (λy b=>sub y (lF _ b)),(sumF_upd ns ne nd s).2 d a rfl,<-h.1,going_cons]
  have:=ne d a
  unfold con ij;by_cases c1:s=d.go
  ·rw[if_pos c1,if_pos c1,if_neg (c:=s=d.st) (λz=>this (by rw[<-z,c1]))];grind
  ·rw[if_neg c1,if_neg c1];by_cases c2:s=d.st
   ·rw[if_pos c2,if_pos c2];grind
   ·rw[if_neg c2,if_neg c2];grind
theorem fF{x y:Rat}(h:0<=x)(k:0<=y):0<=x*y:=Rat.mul_nonneg h k
theorem fO{x y:Rat}(h:0<x)(k:0<y):0<x*y:=Rat.mul_pos h k
theorem no_out(nn:∀n,0<=A n):∀ns:List WD,(∀d∈ns,d.st≠d.go)->(∀d∈ns,0<aW d.kd d.x)->(∀d∈ns,d.st=s->A d.nm=0)->0<=bK A ns s/\∀e∈ns,e.go=s->A e.nm*aW e.kd e.x<=bK A ns s:=by
 refine dR (λ_ _ _=>⟨nO,λe b=>absurd b lR⟩) λi d m ne g1 no=>?_;obtain⟨o,j⟩:=m (λz a=>ne z (lJ _ a)) (λz a=>g1 z (lJ _ a)) λz a=>no z (lJ _ a);have c:d∈i++[d]:=by simp
 have l:0<=con d (A d.nm) s/\(d.go=s->con d (A d.nm) s=A d.nm*aW d.kd d.x):=by
  unfold con
  have:=fF (nn d.nm) (lT (g1 d c))
  by_cases c1:s=d.go
  ·rw[if_pos c1];exact⟨this,λ_=>rfl⟩
  ·rw[if_neg c1];refine⟨?_,λz=>absurd z.symm c1⟩;by_cases c2:s=d.st
   ·rw[if_pos c2,no d c c2.symm];grind
   ·rw[if_neg c2];exact nO
 rw[gH,fV (ne d c)];refine⟨by grind,λe b h=>?_⟩;rcases lB.mp b with z|z
 ·have:=j e z h
  grind
 ·rw[lv.mp z]at h⊢;grind
theorem no_in(nn:∀n,0<=A n):∀ns:List WD,(∀d∈ns,d.st≠d.go)->(∀d∈ns,d.go=s->A d.nm=0)->bK A ns s<=0/\∀e∈ns,e.st=s->bK A ns s<=-A e.nm:=by
 refine dR (λ_ _=>⟨nO,λe a=>absurd a lR⟩) λi d m ne no=>?_;obtain⟨o,j⟩:=m (λz h=>ne z (lJ _ h)) λz h=>no z (lJ _ h);have b:d∈i++[d]:=by simp
 have l:con d (A d.nm) s<=0/\(d.st=s->con d (A d.nm) s=-A d.nm):=by
  unfold con;by_cases c1:s=d.go
  ·rw[if_pos c1,no d b c1.symm];exact⟨by grind,λz=>absurd (z.trans c1) (ne d b)⟩
  ·rw[if_neg c1];by_cases c2:s=d.st
   ·rw[if_pos c2];grind
   ·rw[if_neg c2];exact⟨nO,λz=>absurd z.symm c2⟩
 rw[gH,fV (ne d b)];refine⟨by grind,λe a c=>?_⟩;rcases lB.mp a with z|z
 ·have:=j e z c
  grind
 ·rw[lv.mp z]at c⊢;grind
theorem goes_on(nn:∀n,0<=A n)(ne:∀d∈ns,d.st≠d.go)(g1:∀d∈ns,0<aW d.kd d.x)(h:bK A ns s<0∨bK A ns s<=0/\∃e∈ns,e.go=s/\A e.nm≠0):∃d∈ns,d.st=s/\A d.nm≠0:=by
 refine lZ λz=>?_;obtain⟨j,c⟩:=no_out nn ns ne g1 λd b a=>lZ λq=>z ⟨d,b,a,q⟩;rcases h with h|⟨h,e,he,a,h3⟩
 ·grind
 ·have:=c e he a
  have i:=nn e.nm
  have:=fO (show 0<A e.nm by grind) (g1 e he)
  grind
theorem none_left(nn:∀n,0<=A n)(ne:∀d∈ns,d.st≠d.go)(ac:Acyc ws)(sub:∀d∈ns,A d.nm≠0->d∈ws)(ge:∀d∈ns,0<=bK A ns d.st):∀d∈ns,A d.nm=0:=by
 obtain⟨c,p⟩:=ac
 obtain⟨M,m⟩:∃M,∀d∈ns,c d.st<=M:=by
  clear ge sub ne
  induction ns with
  |nil=>exact⟨0,λd a=>absurd a lR⟩
  |cons x r ih=>
   obtain⟨M,h⟩:=ih;refine⟨max M (c x.st),λd a=>?_⟩;rcases lN.mp a with rfl|z
   ·exact Nat.le_max_right _ _
   ·exact lC (h d z) (Nat.le_max_left _ _)
 have j:∀k,∀d∈ns,A d.nm≠0->M<c d.st+k->False:=by
  intro k
  induction k with
  |zero=>exactλd a _ h=>absurd (m d a) (by lia)
  |succ k ih=>
   intro d a w t
   have:∃e∈ns,e.go=d.st/\A e.nm≠0:=lZ λz=>by
    obtain⟨_,o⟩:=no_in nn ns ne λe b i=>lZ λq=>z ⟨e,b,i,q⟩
    have:=o d a rfl
    have:=ge d a
    have:=nn d.nm
    grind
   obtain⟨e,b,i,l⟩:=this
   have:=p e (sub e b l)
   exact ih e b l (by rw[i]at this;lia)
 exactλd a=>lZ λz=>j (M+1) d a z (by lia)
noncomputable def Gq(D:Nat)(x:Rat):Prop:=∃i:Int,x*(D:Rat)=(i:Rat)
theorem Gq.zero:Gq D 0:=⟨0,by rw[Rat.zero_mul];rfl⟩
theorem Gq.one:Gq D 1:=⟨D,by rw[Rat.one_mul];rfl⟩
theorem Gq.add(h:Gq D x)(k:Gq D y):Gq D (x+y):=by
 obtain⟨i,h⟩:=h;obtain⟨j,k⟩:=k;exact⟨i+j,by rw[Rat.intCast_add];grind⟩
theorem Gq.neg(h:Gq D x):Gq D (-x):=by
 obtain⟨i,h⟩:=h;exact⟨-i,by rw[Rat.intCast_neg];grind⟩
theorem Gq.sub(h:Gq D x)(k:Gq D y):Gq D (x-y):=by
 rw[Rat.sub_eq_add_neg];exact h.add k.neg
theorem Gq.mul(h:Gq D x)(k:Gq E y):Gq (D*E) (x*y):=by
 obtain⟨i,h⟩:=h;obtain⟨j,k⟩:=k;refine⟨i*j,?_⟩;rw[mF,Rat.natCast_mul,<-h,<-k];grind
theorem Gq.mono(h:Gq D x)(d:D∣E):Gq E x:=by
 obtain⟨c,rfl⟩:=d
 have:=h.mul (Gq.one (D:=c))
 rw[Rat.mul_one]at this;exact this
theorem Gq.bd(h:Gq D x)(x0:0<=x)(xm:x<=((2^m:Nat):Rat))(d0:0<D)(dn:D<=2^n):Bd (m+n) x:=by
 obtain⟨i,h⟩:=h;have a:(0:Rat)<(D:Rat):=by exact_mod_cast d0
 have e:x=Rat.divInt i (D:Int):=by
  rw[mN,<-h];show x=x*(D:Rat)/(D:Rat);grind
 have b:(0:Rat)<=((i:Int):Rat):=by rw[<-h];exact fF x0 (lT a)
 have c:((i:Int):Rat)<=(((2^m*D:Nat):Int):Rat):=by
  rw[<-h,Int.natCast_mul,mF];exact l6 xm (lT a)
 have l:0<=i:=by exact_mod_cast b
 have o:i<=((2^m*D:Nat):Int):=by exact_mod_cast c
 have j:2^m*D<=2^(m+n):=by rw[mK];exact Nat.mul_le_mul_left _ dn
 rw[e];exact Bd.divInt (by lia) (by have:=pow_le (show n<=m+n by lia);lia)
structure GnE(E:Nat)(d:WD):Prop where
 ps:0<aW d.kd d.x
 g:Gq E (aW d.kd d.x)
 i:Gq E (aW d.kd d.x)⁻¹
theorem ii{x:Rat}(h:0<x):0<x⁻¹:=Rat.inv_pos.mpr h
theorem ju:∀{l:List WD},(∀d∈l,GnE E d)->0<going 1 l/\Gq (E^l.length) (going 1 l)/\Gq (E^l.length) (going 1 l)⁻¹:=by
 refineλ{l}=>dR (P:=λl=>(∀d∈l,GnE E d)->0<going 1 l/\Gq (E^l.length) (going 1 l)/\Gq (E^l.length) (going 1 l)⁻¹) (λ_=>⟨by decide+kernel,Gq.one,by rw[show(going 1 [])⁻¹=1 by decide+kernel];exact Gq.one⟩) (λb u o h=>?_) l;obtain⟨c,m,j⟩:=o λd p=>h d (lJ _ p);have a:=h u (by simp);rw[j7,lG,l9,Nat.pow_succ];refine⟨fO c a.ps,m.mul a.g,?_⟩
 have e:(going 1 b*aW u.kd u.x)⁻¹=(going 1 b)⁻¹*(aW u.kd u.x)⁻¹:=by
  have r:=md _ (show going 1 b≠0 by grind);have q:=md _ (show aW u.kd u.x≠0 by have:=a.ps;grind);grind
 rw[e];exact j.mul a.i
theorem sA_pre(nd:(l.map (·.nm)).Nodup)(hd:d∈l):∃i,i<l.length/\sA 1 l d.nm=going 1 (l.take i):=by
 revert nd hd
 refine dR (P:=λl=>(l.map (·.nm)).Nodup->d∈l->∃i,i<l.length/\sA 1 l d.nm=going 1 (l.take i)) (λ_ h=>absurd h lR) (λa u m nd hd=>?_) l;rw[lj]at nd;obtain⟨o,_,b⟩:=mo.mp nd
 have c:sA 1 (a++[u]) d.nm=(if u.nm=d.nm then sA 1 a d.nm+going 1 a else sA 1 a d.nm):=by
  unfold sA;rw[jZ,occ_snoc]
  split
  ·rw[sum_snoc]
  ·rfl
 rw[c,lG,l9];rcases lB.mp hd with z|z
 ·obtain⟨i,p,j⟩:=m o z;have ne:u.nm≠d.nm:=λe=>b d.nm (k8.mpr ⟨d,z,rfl⟩) u.nm (by simp) e.symm;rw[if_neg ne];exact⟨i,by lia,by rw[List.take_append_of_le_length (by lia)];exact j⟩
 ·rw[lv.mp z,if_pos rfl,iN λq=>b u.nm q u.nm (by simp) rfl,Rat.zero_add];exact⟨a.length,by lia,by rw[List.take_left]⟩
theorem Gq.up(h:Gq (E^m) x)(l:m<=n):Gq (E^n) x:=h.mono (Nat.pow_dvd_pow E l)
theorem sA_gq(nd:(l.map (·.nm)).Nodup)(hg:∀d∈l,GnE E d)(hm:l.length<=m+1)(hd:d∈l):0<sA 1 l d.nm/\Gq (E^m) (sA 1 l d.nm)/\Gq (E^m) (sA 1 l d.nm)⁻¹:=by
 obtain⟨i,h,e⟩:=sA_pre nd hd;obtain⟨c,b,a⟩:=ju λd hd=>hg d (List.mem_of_mem_take hd);have le:(l.take i).length<=m:=by rw[lI];lia
 rw[e];exact⟨c,b.up le,a.up le⟩
noncomputable def nzc{α:Type}(p:α->Rat)(l:List α):Nat:=(l.filter λx=>decide (p x≠0)).length
theorem dC(p:α->Rat)(x:α)(l:List α):nzc p (x::l)=(if p x=0 then 0 else 1)+nzc p l:=by
 unfold nzc;rw[List.filter_cons];by_cases h:p x=0
 ·rw[if_pos h,if_neg (by simp[h])]
  lia
 ·rw[if_neg h,if_pos (by simp[h]),mh]
  lia
theorem nzc_le:∀{l:List α},(∀x∈l,q x≠0->p x≠0)->nzc q l<=nzc p l
 |[],_=>k5 _
 |x::l,h=>by
  have:=nzc_le (l:=l) λy b=>h y (lF _ b)
  have a:=h x lO;rw[dC,dC];by_cases h1:q x=0
  ·rw[if_pos h1];omega
  ·rw[if_neg h1,if_neg (a h1)];omega
theorem nzc_lt:∀{l:List α},(∀x∈l,q x≠0->p x≠0)->(∃x∈l,p x≠0/\q x=0)->nzc q l<nzc p l
 |[],_,h=>let⟨_,h,_⟩:=h;absurd h lR
 |x::l,h,hx=>by
  obtain⟨y,a,b,c⟩:=hx;have le:=nzc_le (l:=l) λy a=>h y (lF _ a);rw[dC,dC];rcases lN.mp a with rfl|z
  ·rw[if_pos c,if_neg b];omega
  ·have:=nzc_lt (l:=l) (λy a=>h y (lF _ a)) ⟨y,z,b,c⟩
   by_cases h3:q x=0
   ·rw[if_pos h3];omega
   ·rw[if_neg h3,if_neg (h x lO h3)];omega
noncomputable abbrev EN:=(Str×List WD)×Rat
noncomputable def gk(es:List EN)(s:Str):Rat:=es.foldr (λe r=>(if e.1.1=s then e.2 else 0)+r) 0
theorem fi(e:EN)(es:List EN)(s:Str):gk (e::es) s=(if e.1.1=s then e.2 else 0)+gk es s:=rfl
theorem endS_snoc(e:EN)(s:Str):∀es:List EN,gk (es++[e]) s=gk es s+if e.1.1=s then e.2 else 0
 |[]=>by rw[List.nil_append,fi];show _+(0:Rat)=(0:Rat)+_;grind
 |d::r=>by rw[List.cons_append,fi,fi,endS_snoc e s r];grind
theorem endS_set:∀{es:List EN}{i:Nat},es[i]?=some (p,r)->gk (es.set i (p,r-x)) s=gk es s-(if s=p.1 then x else 0)
 |[],_,h=>by cases h
 |e::es,0,h=>by
  cases h;rw[List.set_cons_zero,fi,fi];by_cases c:p.1=s
  ·rw[if_pos c,if_pos c,if_pos c.symm];show r-x+gk es s=r+gk es s-x;grind
  ·rw[if_neg c,if_neg c,if_neg λz=>c z.symm];grind
 |e::es,i+1,h=>by
  rw[List.set_cons_succ,fi,fi,endS_set (es:=es) (i:=i) (by simpa using h)];grind
theorem iW:∀{es:List EN},(∀e∈es,0<=e.2)->0<=gk es s/\(∀e∈es,e.1.1=s->e.2<=gk es s)/\((∀e∈es,e.1.1=s->e.2=0)->gk es s=0)
 |[],_=>⟨nO,λe j=>absurd j lR,λ_=>rfl⟩
 |e::es,h=>by
  obtain⟨o,l,i⟩:=iW (s:=s) λy m=>h y (lF _ m);have j:=h e lO;rw[fi];by_cases c:e.1.1=s
  ·rw[if_pos c];refine⟨by grind,λf a b=>?_,λz=>?_⟩
   ·rcases lN.mp a with rfl|q
    ·grind
    ·have:=l f q b
     grind
   ·rw[z e lO c,i λf a=>z f (lF _ a),mU]
  ·rw[if_neg c];refine⟨by grind,λf a b=>?_,λz=>?_⟩
   ·rcases lN.mp a with rfl|q
    ·exact absurd b c
    ·have:=l f q b
     grind
   ·rw[i λf a=>z f (lF _ a),mU]
theorem nzc_set:∀{es:List EN}{i:Nat},es[i]?=some (p,r)->(r=0->x=0)->nzc (·.2) (es.set i (p,r-x))+(if r≠0/\r=x then 1 else 0)<=nzc (·.2) es
 |[],_,h,_=>by cases h
 |e::es,0,h,hz=>by
  cases h;rw[List.set_cons_zero,dC,dC];show(if r-x=0 then 0 else 1)+nzc (·.2) es+_<=(if r=0 then 0 else 1)+nzc (·.2) es;by_cases c:r=0
  ·rw[if_pos c,if_pos (by rw[c,hz c];decide+kernel),if_neg λz=>z.1 c];omega
  ·rw[if_neg c];by_cases c2:r=x
   ·rw[if_pos (by grind),if_pos ⟨c,c2⟩];omega
   ·rw[if_neg (by grind),if_neg λz=>c2 z.2];omega
 |e::es,i+1,h,hz=>by
  rw[List.set_cons_succ,dC,dC]
  have:=nzc_set (es:=es) (i:=i) (by simpa using h) hz
  omega
end
end G
namespace G
open PySem L2
section
theorem unitP(hg:∀d∈ds,GnE E d)(nd:(ds.map (·.nm)).Nodup)(h:PlanA a H r (sA 1 ds) 6):∃kve us,H r=some (.dK kve)/\Tab (FrIs a) H kve us (sA 1 ds)/\us.Nodup/\us.length<=6/\∀n,n∈us↔n∈ds.map (·.nm):=by
 obtain⟨b,o,p,j,e,i,l⟩:=h;refine⟨b,o,p,j,e,i,λn=>(l n).trans ⟨λz=>lZ λc=>z (iN c),λc z=>?_⟩⟩;obtain⟨y,q,rfl⟩:=k8.mp c
 have:=(sA_gq (m:=ds.length) nd hg (by lia) q).1
 grind
inductive IspMost(a:Ad)(vs:List V)(H:Hp)(Q:VK):Prop
 |mk(d e:Addr)(kvd kve:List (Key×V))(ks us:List Str)(A U:Str->Rat)(h1:vs=[.ref d,.ref e])(h2:H d=some (.dK kvd))(h3:Tab (FrIs a) H kvd ks A)(h4:H e=some (.dK kve))(h5:Tab (FrIs a) H kve us U)(h6:us.Nodup)(h7:us≠[])(h8:us.length<=100)(h9:(∀n∈us,n∈ks/\SmR (A n)/\SmR (U n)/\U n≠0/\SmR (A n/U n)))(h10:d≠e)(h11:∀q H' m,Same H H'->FrAt a.Fraction H' q m->(∃n∈us,A n/U n=m)->(∀n∈us,m<=A n/U n)->Q (.ref q) H'):IspMost a vs H Q
noncomputable def spMost(a:Ad):Sp:=λvs H Q _=>IspMost a vs H Q
theorem jW(T:TX K mg a):FnB P w K mg base CX0 "most_along" 7 ["plan","unit"] (spMost a):=by
 refine T.d_most_along.okA sc_most_along λf aj A ab s H vs Q E hr h=>?_;obtain⟨d,e,ag,c,ks,X,A,U,rfl,hd,td,N,te,af,ai,ul,O,ad,k⟩:=h
 refine⟨_,(aF (aP (aO (ok_least T) hr aJ (aA (pe_thaw (gc (xs:=["name","part"]) rfl (fZ (pv 1))
  (λF fp C' s' H'=>by exact(pg_tupK (n:=2) rfl rfl (cF (aR (i:=0) (show(["name","part","plan"]:List Str).Nodup by decide+kernel)) (cF (aR (i:=1) (show(["name","part","plan"]:List Str).Nodup by decide+kernel)) fS)))) (λF fp C' s' H'=>by exact eI)
  (λF fp C' s' H'=>by exact(cM T.fr (cE (bI hr) (pv 2) (pv 0) (λ_ _=>rfl)) (ok_over T) hr aJ (aA (pv 1) aB)))
  (Clos.many (ys:=["plan"]) rfl ⟨rfl,True.intro⟩ rfl (by decide+kernel)) (Reads.many (ys:=["plan"]) (js:=[0]) ⟨⟨rfl,rfl,rfl⟩,True.intro⟩))) aB)))),?_⟩
 walk_at"q"
 refine⟨e,.dK c,N,(by intro o z q;cases q),_,rfl,e,c,rfl,N,λo l nl=>?_⟩;have B:e≠l:=λz=>by rw[z,aE]at nl;cases nl
 have I:H l=none:=by rw[aG B.symm]at nl;exact nl
 refine compG_items (kvs:=c) (λi j=>i<=X.length×' j e=some (.frz o (.dK c))×'(∀b p,H b=some p->b≠e->j b=some p)×'∃D,j l=some (.lst D)/\RowAt (FrIs a) j D ((X.take i).map λn=>A n/U n))
  ⟨lD _,by rw[aG B,aE],(λb p g ne=>by rw[aG (aN g I),aG ne];exact g),[],aE,RowAt.nil⟩ ((by rintro i j⟨_,h,_⟩;exact h)) ?_ ?_
 ·rintro i kv t j aa nt⟨_,Z,Y,D,G,S⟩zs hz;obtain⟨n,en,e1,ev,q,eq,fq⟩:=te.at_ af aa;have hi :=(kY.mp en).1;have ah:kV kv.1=.str n:=by rw[e1];rfl
  rw[ah,eq];obtain⟨H3,zq,s3,ht⟩:=uG (o:=.tup [.str n,.ref q]) nt;rw[zq]
  match zs,hz with
  |[z1,z2],_=>
   obtain⟨nk,sA,sU,u0,_⟩:=O n (kZ en);have k3:∀b p,H b=some p->b≠e->H3 b=some p:=λb p g ne=>s3 _ _ (Y b p g ne)
   have ac:FrAt a.Fraction H3 q (U n):=by
    obtain⟨M,g⟩:=fq;exact⟨M,k3 _ _ g (bB g N (by intro z;cases z))⟩
   obtain⟨v,ae,qa,rfl,fa⟩:=td.vals n nk
   have L:FrAt a.Fraction H3 qa (A n):=by
    obtain⟨M,g⟩:=fa;exact⟨M,k3 _ _ g (bB g N (by intro z;cases z))⟩
   refine⟨t,[.str n,.ref q],rfl,SqT.of ht,rfl,.str n,[.ref q],rfl,⟨.ref q,[],rfl,⟨rfl,⟨[_,_],rfl,rfl⟩,yes ?_⟩⟩⟩;refine⟨_,rfl,_,rfl,d,.ref qa,rfl,.inl ⟨ag,Sum.inr n,.inl (k3 _ _ hd ad),rfl,ae.symm⟩,?_⟩;refine⟨qa,_,rfl,L,_,rfl,qa,q,_,_,rfl,L,ac,sA,sU,u0,λr H4 nr s4 f4=>?_⟩;have y:=s3.trans s4;have J:=y _ _ G;have ak:D.length=i:=by rw[S.1,kX,lI];lia
   refine⟨_,J,aT (by lia),fE (by rw[te.len];exact hi) ⟨hi,by rw[aG B];exact y _ _ Z,(λb p g ne=>by rw[aG (aN g I)];exact y _ _ (Y _ _ g ne)),_,aE,?_⟩⟩;rw[lE,en,lL,lj];have ko:∀v x,FrIs a H4 v x->FrIs a (upd H4 l (.lst (D++[.ref r]))) v x:=(by rintro v x⟨q,e,M,g⟩;exact⟨q,e,M,by rw[aG (bB g J (by intro z;cases z))];exact g⟩);exact RowAt.snoc (S.mono λv x z=>ko v x (z.mono y)) (ko _ _ ⟨r,rfl,f4⟩)
 ·rintro j⟨_,Z,Y,D,G,S⟩;rw[te.len,lA]at S
  have s2:Same H (upd j e (.dK c)):=λb p g=>by
   by_cases hb:b=e
   ·subst hb;rw[aE,<-N,g]
   ·rw[aG hb];exact Y _ _ g hb
  refine⟨o,Z,l,D,_,rfl,SqL.of (show upd j e (.dK c) l=some (.lst D) by rw[aG B.symm];exact G),S.mono λv x z=>z.keep (.frz Z),?_,?_,λq m fq hm all=>k q _ m s2 fq ?_ λn R=>all _ (k8.mpr ⟨n,R,rfl⟩)⟩
  ·cases X with
   |nil=>exact absurd rfl ai
   |cons x r=>exactλz=>by cases z
  ·rintro x hx;obtain⟨n,R,rfl⟩:=k8.mp hx;exact(O n R).2.2.2.2
  ·obtain⟨n,R,e1⟩:=k8.mp hm;exact⟨n,R,e1⟩
inductive IspLess(a:Ad)(vs:List V)(H:Hp)(Q:VK):Prop
 |mk(d e q:Addr)(A U:Str->Rat)(m k:Nat)(x:Rat)(h1:vs=[.ref d,.ref e,.ref q])(h2:PlanA a H d A m)(h3:PlanA a H e U k)(h4:k<=100)(h5:m<=100)(h6:FrAt a.Fraction H q x)(h7:Bd 8500 x)(h8:(∀n,Bd 8500 (A n)/\Bd 8500 (U n)/\Bd 8500 (x*U n)))(h9:∀r H',H r=none->Same H H'->PlanA a H' r (λn=>A n-x*U n) (m+k)->Q (.ref r) H'):IspLess a vs H Q
noncomputable def spLess(a:Ad):Sp:=λvs H Q _=>IspLess a vs H Q
theorem ok_less(T:TX K mg a):FnB P w K mg base CX0 "less" 7 ["plan","unit","amount"] (spLess a):=by
 refine T.d_less.okA sc_less λf Z A l s H vs Q E j h=>?_;obtain⟨d,e,q,A,U,m,k',x,rfl,pd,pe,lu,lm,fq,M,B,k⟩:=h;refine⟨_,(aF (aP (aO (togA T) j aJ (aA (pv 0) (aA (aO (ok_scaled T) j aJ (aA (pv 1) (aA (cM T.fr (cJ (mk1 T) j T.mg_Fraction aJ (aA aC aB)) (eR T) j aJ (aA (pv 2) aB)) aB))) aB))))),?_⟩;walk_at"q"
 refine⟨_,rfl,_,rfl,0,1,rfl,by decide,sm1,λz H1 nz J G=>?_⟩;rw[show Rat.divInt 0 1=0 from rfl]at G;refine⟨z,_,rfl,G,_,rfl,z,q,_,_,rfl,G,fq.mono J,Bd.zero.smr (by decide),M.smr (by decide),True.intro,λy H2 ny s2 fy=>?_⟩;have b:=J.trans s2;have o :=Bd.zero.sub M;obtain⟨p,O,R,X,i,D,S⟩:=pe;refine⟨e,y,p,O,_,_,rfl,b _ _ R,X.mono (λv x z=>z.mono b),i,by lia,fy,o.smr (by decide),λn _=>(B n).2.1.smr (by decide),λr H3 F nr s3 I tr=>?_⟩;have c:=b.trans s3;have L:∀n,U n*(0-x)=-(x*U n):=λn=>by grind
 refine⟨d,r,A,(λn=>U n*(0-x)),m,k',8500,rfl,pd.mono c,⟨F,_,I,tr,kg i,lC (kh _ _) D,λn=>?_⟩,by lia,λn=>⟨(B n).1,by rw[L];exact(B n).2.2.neg⟩,by decide,λr' Y t s4 pl=>k r' Y (c.free t) (c.trans s4) ?_⟩
 ·rw[mem_some0,S];show U n≠0/\U n*(0-x)≠0↔U n*(0-x)≠0;exact⟨λz=>z.2,λz=>⟨λq=>z (by rw[q,Rat.zero_mul]),z⟩⟩
 ·have N:(λn=>A n-x*U n)=λn=>A n+U n*(0-x):=funext λn=>by rw[L];grind
  rw[N];exact pl
end
end G
namespace G
open PySem L2
section
structure SD where
 rg:List WD
 pa:List WD
 tl:List WD
 am:Rat
 ad:List Addr
noncomputable def nmV(l:List WD):List V:=l.map λx=>V.str x.nm
noncomputable def fsE(s:Str)(lr q:Addr):List (Str×V):=[("place",.str s),("ring",.ref lr),("rest",.ref q)]
noncomputable def fsT(p d ls lo li:Addr):List (Str×V):=[("on",.ref p),("rest",.ref d),("strands",.ref ls),("sources",.ref lo),("sinks",.ref li)]
theorem dG(h:g≠f):cH f v ((g,x)::r)=(g,x)::cH f v r:=if_neg h
theorem putF_eq:cH f v ((f,x)::r)=(f,v)::r:=if_pos rfl
theorem fsE_new(s:Str)(lr q:Addr):cH "rest" (.ref q) (cH "ring" (.ref lr) (cH "place" (.str s) []))=fsE s lr q:=by
 show cH "rest" (.ref q) (cH "ring" (.ref lr) [(("place":Str),V.str s)])=_;rw[dG (by decide+kernel)];show cH "rest" (.ref q) [(("place":Str),V.str s),(("ring":Str),V.ref lr)]=_;rw[dG (by decide+kernel),dG (by decide+kernel)];rfl
theorem fsE_put(s:Str)(lr q q':Addr):cH "rest" (.ref q') (fsE s lr q)=fsE s lr q':=by
 unfold fsE;rw[dG (by decide+kernel),dG (by decide+kernel),putF_eq]
theorem fsE_s(s:Str)(lr q:Addr):(fsE s lr q).lookup ("place":Str)=some (.str s):=rfl
theorem fsE_r(s:Str)(lr q:Addr):(fsE s lr q).lookup ("ring":Str)=some (.ref lr):=by
 unfold fsE;rw[lU,show(("ring":Str)=="place")=false by decide+kernel];rfl
theorem fsE_q(s:Str)(lr q:Addr):(fsE s lr q).lookup ("rest":Str)=some (.ref q):=by
 unfold fsE;rw[lU,show(("rest":Str)=="place")=false by decide+kernel,lU,show(("rest":Str)=="ring")=false by decide+kernel];rfl
theorem fsT_put(p d d' ls lo li:Addr):cH "rest" (.ref d') (fsT p d ls lo li)=fsT p d' ls lo li:=by
 unfold fsT;rw[dG (by decide+kernel),putF_eq]
theorem fsT_on(p d ls lo li:Addr):(fsT p d ls lo li).lookup ("on":Str)=some (.ref p):=rfl
theorem fsT_d(p d ls lo li:Addr):(fsT p d ls lo li).lookup ("rest":Str)=some (.ref d):=by
 unfold fsT;rw[lU,show(("rest":Str)=="on")=false by decide+kernel];rfl
theorem fsT_s(p d ls lo li:Addr):(fsT p d ls lo li).lookup ("strands":Str)=some (.ref ls):=by
 unfold fsT;rw[lU,show(("strands":Str)=="on")=false by decide+kernel,lU,show(("strands":Str)=="rest")=false by decide+kernel];rfl
theorem fsT_o(p d ls lo li:Addr):(fsT p d ls lo li).lookup ("sources":Str)=some (.ref lo):=by
 unfold fsT;rw[lU,show(("sources":Str)=="on")=false by decide+kernel,lU,show(("sources":Str)=="rest")=false by decide+kernel,lU,show(("sources":Str)=="strands")=false by decide+kernel];rfl
theorem fsT_i(p d ls lo li:Addr):(fsT p d ls lo li).lookup ("sinks":Str)=some (.ref li):=by
 unfold fsT;rw[lU,show(("sinks":Str)=="on")=false by decide+kernel,lU,show(("sinks":Str)=="rest")=false by decide+kernel,lU,show(("sinks":Str)=="strands")=false by decide+kernel,lU,show(("sinks":Str)=="sources")=false by decide+kernel];rfl
theorem j9(p d ls lo li:Addr){m:Str}(h:(m=="on"||m=="rest"||m=="strands"||m=="sources"||m=="sinks")=false):(fsT p d ls lo li).lookup m=none:=by
 simp only[Bool.or_eq_false_iff]at h;unfold fsT;rw[lU,h.1.1.1.1,lU,h.1.1.1.2,lU,h.1.1.2,lU,h.1.2,lU,h.2];rfl
noncomputable def Plain(o:HO):Prop:=(∀C dx s lr q,o≠.ins C dx (fsE s lr q))/\∀C dx p d ls lo li,o≠.ins C dx (fsT p d ls lo li)
theorem ffE:ff x y≠fsE s lr q:=λz=>absurd (mj (λl=>(l.map Prod.fst)[0]?) z) (by show¬some ("top":Str)=some ("place":Str);decide+kernel)
theorem ffT:ff x y≠fsT p d ls lo li:=λz=>absurd (mj (λl=>(l.map Prod.fst)[0]?) z) (by show¬some ("top":Str)=some ("on":Str);decide+kernel)
theorem Plain.fr:Plain (.ins C dx (ff x y)):=⟨λ_ _ _ _ _ z=>(by injection z with _ _ z;exact ffE z),λ_ _ _ _ _ _ _ z=>(by injection z with _ _ z;exact ffT z)⟩
theorem Plain.lst:Plain (.lst ts):=⟨λ_ _ _ _ _ z=>(by cases z),λ_ _ _ _ _ _ _ z=>(by cases z)⟩
theorem Plain.tup:Plain (.tup ts):=⟨λ_ _ _ _ _ z=>(by cases z),λ_ _ _ _ _ _ _ z=>(by cases z)⟩
theorem Plain.dK:Plain (.dK ts):=⟨λ_ _ _ _ _ z=>(by cases z),λ_ _ _ _ _ _ _ z=>(by cases z)⟩
noncomputable def Mv(X:List Addr)(H H':Hp):Prop:=∀b o,H b=some o->¬b∈X->Plain o->H' b=some o
theorem Mv.of(s:Same H H'):Mv X H H':=λb o e _ _=>s b o e
theorem Mv.put(h:H b=some o)(np:¬Plain o):Mv X H (upd H b o'):=λc a e _ p=>by
 rw[aG λz=>np (by rw[z,h]at e;cases e;exact p)];exact e
theorem Mv.app(hx:l∈X):Mv X H (upd H l o'):=λc a e n _=>by rw[aG λz=>n (by rw[z];exact hx)];exact e
theorem gU:¬Plain (.ins C dx (fsE s lr q)):=λz=>z.1 _ _ _ _ _ rfl
theorem j6:¬Plain (.ins C dx (fsT p d ls lo li)):=λz=>z.2 _ _ _ _ _ _ _ rfl
noncomputable def Lsts(X:List Addr)(H:Hp):Prop:=∀b∈X,∃ts,H b=some (.lst ts)
theorem Lsts.no(h:Lsts X H)(e:H b=some o)(n:∀ts,o≠.lst ts):¬b∈X:=λz=>by
 obtain⟨ts,a⟩:=h b z;rw[a]at e
 cases e;exact n ts rfl
theorem Mv.fr(m:Mv X H H')(hl:Lsts X H)(h:FrAt C H q x):FrAt C H' q x:=by
 obtain⟨a,e⟩:=h;exact⟨a,m _ _ e (hl.no e λ_ z=>by cases z) Plain.fr⟩
theorem Mv.plan(k:Mv X H H')(hl:Lsts X H)(h:PlanA a H d A m):PlanA a H' d A m:=by
 obtain⟨b,l,c,j,i⟩:=h;exact⟨b,l,k _ _ c (hl.no c λ_ z=>by cases z) Plain.dK,j.mono (by rintro _ _⟨q,e,f⟩;exact⟨q,e,k.fr hl f⟩),i⟩
noncomputable def EndIs(a:Ad)(X:List Addr)(H:Hp)(v:V)(x:EN):Prop:=∃e dx lr q,v=.ref e/\H e=some (.ins a.End dx (fsE x.1.1 lr q))/\H lr=some (.lst (nmV x.1.2))/\¬lr∈X/\FrAt a.Fraction H q x.2
theorem EndIs.mv(h:EndIs a X H (.ref e) x)(k:Mv X H H')(hl:Lsts X H)(he:H' e=H e):EndIs a X H' (.ref e) x:=by
 obtain⟨o,m,j,q,z,l,i,b,c⟩:=h
 cases z;exact⟨e,m,j,q,rfl,by rw[he];exact l,k _ _ i b Plain.lst,b,k.fr hl c⟩
noncomputable def StIs(a:Ad)(X:List Addr)(H:Hp)(v:V)(s:SD):Prop:=∃u l1 l2 l3 q,v=.ref u/\H u=some (.tup [.ref l1,.ref l2,.ref l3,.ref q])/\H l1=some (.lst (nmV s.rg))/\H l2=some (.lst (nmV s.pa))/\H l3=some (.lst (nmV s.tl))/\¬l1∈X/\¬l2∈X/\¬l3∈X/\FrAt a.Fraction H q s.am/\s.ad=[l1,l2,l3]
theorem StIs.mv(h:StIs a X H v s)(k:Mv X H H')(hl:Lsts X H):StIs a X H' v s:=by
 obtain⟨u,l,t,p,q,z,i,o,j,m,e,c,b,r,w⟩:=h;exact⟨u,l,t,p,q,z,k _ _ i (hl.no i λ_ z=>by cases z) Plain.tup,k _ _ o e Plain.lst,k _ _ j c Plain.lst,k _ _ m b Plain.lst,e,c,b,k.fr hl r,w⟩
structure TkAt(a:Ad)(H0 H:Hp)(t p d ls lo li:Addr)(es fs:List Addr)(A:Str->Rat)(ss:List SD)(sr sk:List EN):Prop where
 sm:Same H0 H
 nt:H0 t=none
 ns:H0 ls=none
 nd:H0 d=none
 ne:∀e∈es++fs,H0 e=none
 un:(es++fs).Nodup
 ob:∃dx,H t=some (.ins a.Taking dx (fsT p d ls lo li))
 pl:PlanA a H d A 24
 st:∃ts,H ls=some (.lst ts)/\RowAt (StIs a [ls,lo,li]) H ts ss
 so:H lo=some (.lst (es.map .ref))
 si:H li=some (.lst (fs.map .ref))
 ro:RowAt (EndIs a [ls,lo,li]) H (es.map .ref) sr
 ri:RowAt (EndIs a [ls,lo,li]) H (fs.map .ref) sk
 no:lo≠ls
 ni:li≠ls
 oi:lo≠li
 nlo:H0 lo=none
 nli:H0 li=none
 sd:(ss.flatMap (·.ad)).Nodup
 sh:∀l∈ss.flatMap (·.ad),H0 l=none
theorem TkAt.ls3(h:TkAt a H0 H t p d ls lo li es fs A ss sr sk):Lsts [ls,lo,li] H:=λb c=>by
 obtain⟨i,e,_⟩:=h.st;simp only[lN,lR,or_false]at c;rcases c with rfl|rfl|rfl
 ·exact⟨i,e⟩
 ·exact⟨_,h.so⟩
 ·exact⟨_,h.si⟩
theorem TkAt.ads(h:TkAt a H0 H t p d ls lo li es fs A ss sr sk)(hl:H l=none):¬l∈ss.flatMap (·.ad):=λz=>by
 obtain⟨s,w,b⟩:=List.mem_flatMap.mp z;obtain⟨y,_,j⟩:=h.st;obtain⟨i,e⟩:=lV.mp w
 obtain⟨v,r⟩:∃v,y[i]?=some v:=by
  have:=(kY.mp e).1
  rw[<-j.1]at this;exact⟨_,lz this⟩
 obtain⟨u,D,E,B,q,_,_,o,m,c,_,_,_,_,x⟩:=j.2 i v s r e;rw[x]at b;simp only[lN,lR,or_false]at b;rcases b with rfl|rfl|rfl
 ·rw[hl]at o;cases o
 ·rw[hl]at m;cases m
 ·rw[hl]at c;cases c
inductive IspEndI(a:Ad)(vs:List V)(H:Hp)(Q:VK):Prop
 |mk(p dx lr q:Addr)(s:Str)(h1:vs=[.ref p,.str s,.ref lr,.ref q])(h2:H p=some (.ins a.End dx []))(h3:Q .non (upd H p (.ins a.End dx (fsE s lr q)))):IspEndI a vs H Q
noncomputable def spEndI(a:Ad):Sp:=λvs H Q _=>IspEndI a vs H Q
theorem mk_End(T:TX K mg a):MkB P w K mg base CX0 a.End 1 ["self","place","ring","rest"] [] (spEndI a):=by
 refine T.i_End.okA sc_End_init (λf j A b s H e Q E m h=>?_) (λe H Q E h=>?_) _ (by simp)
 rotate_left
 ·obtain⟨_,_,_,_,_,rfl,_⟩:=h;rfl
 ·obtain⟨p,c,l,q,s,rfl,i,k⟩:=h
  refine⟨_,(aD (cT (pv 0) (pv 1) rfl)
   (aD (cT (pv 0) (pv 2) rfl)
   (aF (cT (pv 0) (pv 3) rfl)))),?_⟩
  walk_at"q"
  refine⟨_,rfl,_,rfl,p,a.End,c,[],rfl,i,T.cl_End,T.na_End_place,by decide,?_⟩;refine⟨_,rfl,_,rfl,p,a.End,c,_,rfl,aE,T.cl_End,T.na_End_ring,ma (cL (k5 0)) (by decide),?_⟩;rw[jz];refine⟨_,rfl,_,rfl,p,a.End,c,_,rfl,aE,T.cl_End,T.na_End_rest,ma (cL (cL (k5 0))) (by decide),?_⟩;rw[jz,fsE_new];exact k
end
end G
namespace G
open PySem L2
section
theorem sgn_lt(x:Rat):sgn x<0↔x<0:=by
 unfold sgn;have h:x<0↔x.num<0:=by rw[<-Rat.not_le,<-Rat.num_nonneg];lia
 rw[h]
 split
 ·constructor<;>intro<;>lia
 ·split
  ·constructor<;>intro<;>lia
  ·constructor<;>intro<;>lia
theorem iK(x:Rat):sgn x>0↔0<x:=by
 have a:=sgn_lt x;have b:=sgn_zero (x:=x);constructor
 ·intro h;have e:¬x<0:=λz=>by lia
  have c:¬x=0:=λz=>by lia
  grind
 ·intro h;have e:¬sgn x<0:=λz=>by grind
  have c:¬sgn x=0:=λz=>by grind
  lia
noncomputable def NewEnd(a:Ad)(H H':Hp)(e:Addr)(s:Str)(lr:Addr)(x:Rat):Prop:=H e=none/\Same H H'/\∃dx q,H' e=some (.ins a.End dx (fsE s lr q))/\FrAt a.Fraction H' q x
theorem newE(fq:FrAt a.Fraction H q x)(h1:H p=none)(h2:H dx=none):NewEnd a H (upd (upd (upd H dx (.own p)) p (.ins a.End dx [])) p (.ins a.End dx (fsE s lr q))) p s lr x:=by
 have c:Same H (upd (upd (upd H dx (.own p)) p (.ins a.End dx [])) p (.ins a.End dx (fsE s lr q))):=by
  rw[jz]
  exact iw (C:=a.End) h1 h2 λb o e n=>by
   rw[aG n];rw[aG n]at e;exact e
 exact⟨h1,c,dx,q,aE,fq.mono c⟩
inductive IspAddE(a:Ad)(vs:List V)(H:Hp)(Q:VK):Prop
 |mk(t dx p d ls lo li lr q:Addr)(s:Str)(x:Rat)(to ti:List V)(h1:vs=[.ref t,.str s,.ref lr,.ref q])(h2:H t=some (.ins a.Taking dx (fsT p d ls lo li)))(h3:FrAt a.Fraction H q x)(h4:SmR x)(h5:H lo=some (.lst to))(h6:H li=some (.lst ti))(h7:to.length<=100)(h8:ti.length<=100)(h9:(x<0->∀e H',NewEnd a H H' e s lr (-x)->Q .non (upd H' lo (.lst (to++[.ref e])))))(h10:(0<x->∀e H',NewEnd a H H' e s lr x->Q .non (upd H' li (.lst (ti++[.ref e])))))(h11:(x=0->Q .non H)):IspAddE a vs H Q
noncomputable def spAddE(a:Ad):Sp:=λvs H Q _=>IspAddE a vs H Q
theorem ib(T:TX K mg a):MtB P w K mg base CX0 a.Taking "add_end" 7 ["self","place","ring","come"] (spAddE a):=by
 refine T.m_Taking_add_end.okA km λf ab A m s H vs Q E j h=>?_;obtain⟨t,dx,p,d,ls,lo,li,lr,q,s,x,to,ti,rfl,X,I,sx,o,hi,ac,aa,k1,k2,k3⟩:=h
 refine⟨_,(aX (bJ (aS jo (eT T.fr (pv 3) (eU T) j aJ) aC) (aF (bY (kF mT m9 nc eN (aZ (pv 0) rfl) (aA (pe_mk (mk_End T) j T.mg_End aJ (aA (pv 1) (aA (pv 2) (aA (cM T.fr (cJ (mk1 T) j T.mg_Fraction aJ (aA aC aB)) (eR T) j aJ (aA (pv 3) aB)) aB)))) aB)))) aV)
  (aF (bJ (aS op_gt (eT T.fr (pv 3) (eU T) j aJ) aC) (aF (bY (kF mT m9 nc eN (aZ (pv 0) rfl) (aA (pe_mk (mk_End T) j T.mg_End aJ (aA (pv 1) (aA (pv 2) (aA (pv 3) aB)))) aB)))) aV))),?_⟩
 walk_at"q"
 refine dA (λZ S=>Z=[some (.ref t),some (.str s),some (.ref lr),some (.ref q)]×' FrAt a.Fraction S q x×'(x<0/\Q .non S∨¬x<0/\S=H)) ?_ ?_
 ·walk_at"rd"
  by_cases c:x<0
  ·refine kP (lQ ((sgn_lt x).mpr c)) ?_;refine⟨_,rfl,t,_,dx,_,_,rfl,X,T.cl_Taking,T.na_Taking_sources,fsT_o _ _ _ _ _,?_⟩;refine⟨.inl ⟨rfl,_,SqL.of o⟩,?_⟩;refine⟨_,rfl,_,rfl,0,1,rfl,by decide,sm1,λz Y nz U M=>?_⟩;rw[show Rat.divInt 0 1=0 from rfl]at M;refine⟨z,_,rfl,M,_,rfl,z,q,_,_,rfl,M,I.mono U,Bd.zero.smr (by decide),sx,True.intro,λy H2 ny s2 fy=>?_⟩;have l:=U.trans s2;intro e b J B _;refine⟨e,b,lr,y,s,rfl,aE,rfl,?_⟩;have ne:=newE (s:=s) (lr:=lr) fy J B;generalize upd (upd (upd H2 b (.own e)) e (.ins a.End b [])) e (.ins a.End b (fsE s lr y))=D at ne⊢;obtain⟨n1,s3,N,q3,L,r⟩:=ne;have i:=l.trans s3;refine⟨lo,_,_,rfl,rfl,i _ _ o,aT (by lia),rfl,?_,.inl ⟨c,k1 c e D ⟨l.free n1,i,N,q3,L,?_⟩⟩⟩
   ·obtain⟨dq,g⟩:=I.mono i;exact⟨dq,by rw[aG (bB g (i _ _ o) (by intro z;cases z))];exact g⟩
   ·rw[show-x=0-x by grind];exact r
  ·refine hE (lM λz=>c ((sgn_lt x).mp z)) ?_;exact⟨rfl,I,.inr ⟨c,rfl⟩⟩
 rintro zU O Z Y⟨rfl,R,G⟩;subst O;walk_at"rd"
 rcases G with⟨c,hq⟩|⟨c,rfl⟩
 ·refine hE (lM λz=>?_) hq
  have:=(iK x).mp z
  grind
 ·by_cases c2:0<x
  ·refine kP (lQ ((iK x).mpr c2)) ?_;refine⟨_,rfl,t,_,dx,_,_,rfl,X,T.cl_Taking,T.na_Taking_sinks,fsT_i _ _ _ _ _,?_⟩;refine⟨.inl ⟨rfl,_,SqL.of hi⟩,?_⟩;refine⟨_,rfl,_,rfl,_,rfl,?_⟩;intro e b J B _;refine⟨e,b,lr,q,s,rfl,aE,rfl,?_⟩;have ne:=newE (s:=s) (lr:=lr) R J B;generalize upd (upd (upd Y b (.own e)) e (.ins a.End b [])) e (.ins a.End b (fsE s lr q))=D at ne⊢;exact⟨li,_,_,rfl,rfl,ne.2.1 _ _ hi,aT (by lia),k2 c2 e D ne⟩
  ·refine hE (lM λz=>c2 ((iK x).mp z)) (k3 ?_);grind
inductive IspSink(a:Ad)(vs:List V)(H:Hp)(Q:VK):Prop
 |mk(H0:Hp)(t p d ls lo li:Addr)(es fs:List Addr)(A:Str->Rat)(ss:List SD)(sr sk:List EN)(s:Str)(h1:vs=[.ref t,.str s])(h2:TkAt a H0 H t p d ls lo li es fs A ss sr sk)(h3:(∀(i:Nat)(e:Addr)(rg:List WD)(r:Rat),fs[i]?=some e->sk[i]?=some ((s,rg),r)->0<r->Q (.ref e) H))(h4:((∀x∈sk,x.1.1=s->¬0<x.2)->Q .non H)):IspSink a vs H Q
noncomputable def spSink(a:Ad):Sp:=λvs H Q _=>IspSink a vs H Q
theorem ia(T:TX K mg a):MtB P w K mg base CX0 a.Taking "sink_at" 2 ["self","place"] (spSink a):=by
 refine T.m_Taking_sink_at.okA sc_Taking_sink_at λf O A B s H vs Q E o h=>?_;obtain⟨H0,t,p,d,ls,lo,N,c,fs,A,ss,sr,F,s,rfl,D,X,R⟩:=h
 refine⟨_,(aD (bO lH rfl (bZ (aZ (pv 0) rfl)) (aR (i:=2) sc_Taking_sink_at.nd) (aF (bJ (PW.pt (gu (aS e7 (aZ (pv 2) rfl) (pv 1)) (fv (aS op_gt (eT T.fr (aZ (pv 2) rfl) (eU T) o aJ) aC)))) (aF (aP (pv 2))) aV)))
  (aF (aP pe_non))),?_⟩
 walk_at"q"
 obtain⟨dx,S⟩:=D.ob;refine⟨_,rfl,t,_,dx,_,_,rfl,S,T.cl_Taking,T.na_Taking_sinks,fsT_i _ _ _ _ _,N,rfl,⟨_,SqL.of D.si⟩,?_⟩;refine cG (λi σ m=>m=H/\∃G,σ=[some (.ref t),some (.str s),G]/\∀x∈F.take i,x.1.1=s->¬0<x.2) ⟨rfl,_,rfl,λr o=>by rw[nS]at o;cases o⟩ ((by rintro i σ m _⟨e,_⟩;exact by rw[e];exact SqL.of D.si)) ?_ ?_
 ·rintro i v σ m b⟨rfl,G,rfl,no⟩;obtain⟨x,ex,e,j,lr,q,rfl,I,Y,Z,fq⟩:=D.ri.get b;obtain⟨⟨J,M⟩,r⟩:=x;have L:F.take (i+1)=F.take i++[((J,M),r)]:=by rw[lE,ex];rfl
  have U:fs[i]?=some e:=by
   rw[lg]at b
   cases ef:fs[i]? with
   |none=>rw[ef]at b;cases b
   |some e'=>rw[ef]at b;cases b;rfl
  refine⟨_,rfl,e,_,j,_,_,rfl,I,T.cl_End,T.na_End_place,fsE_s _ _ _,_,rfl,rfl,_,rfl,?_⟩;by_cases hs:J=s
  ·subst hs;refine kP (lQ rfl) ?_;refine⟨_,rfl,e,_,j,_,_,rfl,I,T.cl_End,T.na_End_rest,fsE_q _ _ _,?_⟩;walk_at"rd"
   by_cases hp:0<r
   ·refine kP (lQ ((iK r).mpr hp)) ?_;exact⟨_,rfl,X i e M r U ex hp⟩
   ·refine hE (lM λz=>hp ((iK r).mp z)) ⟨rfl,_,rfl,λy l c=>?_⟩;rw[L]at l;rcases lB.mp l with z|z
    ·exact no y z c
    ·cases lv.mp z;exact hp
  ·refine hE (lM λz=>hs (V.str.inj z)) ?_;refine⟨rfl,_,rfl,λy l c=>?_⟩;rw[L]at l;rcases lB.mp l with z|z
   ·exact no y z c
   ·cases lv.mp z;exact absurd c hs
 ·rintro σ m⟨rfl,G,rfl,no⟩
  have:=D.ri.1
  rw[this,lA]at no;exact R no
end
end G
namespace G
open PySem L2
section
theorem EndIs.mv'(h:EndIs a X H v x)(k:Mv X H H')(hl:Lsts X H)(he:∀e dx s lr q,H e=some (.ins a.End dx (fsE s lr q))->v=.ref e->H' e=H e):EndIs a X H' v x:=by
 obtain⟨e,dx,lr,q,rfl,c,j,b,i⟩:=h;exact⟨e,dx,lr,q,rfl,by rw[he e dx _ lr q c rfl];exact c,k _ _ j b Plain.lst,b,k.fr hl i⟩
section
variable{H0 H H':Hp}{t p d ls lo li:Addr}{es fs:List Addr}{A:Str->Rat}{ss:List SD}{sr sk:List EN}
theorem TkAt.mono(h:TkAt a H0 H t p d ls lo li es fs A ss sr sk)(s:Same H H'):TkAt a H0 H' t p d ls lo li es fs A ss sr sk:=by
 obtain⟨b,l⟩:=h.ob;obtain⟨r,m,o⟩:=h.st;have i:∀(v:V)(e b:Addr)(c:Str)(j q:Addr),H e=some (.ins a.End b (fsE c j q))->v=.ref e->H' e=H e:=λv e b c j q z _=>by rw[z];exact s _ _ z
 exact⟨h.sm.trans s,h.nt,h.ns,h.nd,h.ne,h.un,⟨b,s _ _ l⟩,h.pl.mono s,⟨r,s _ _ m,o.mono λv x z=>z.mv (.of s) h.ls3⟩,s _ _ h.so,s _ _ h.si,h.ro.mono λv x z=>z.mv' (.of s) h.ls3 (i v),h.ri.mono λv x z=>z.mv' (.of s) h.ls3 (i v),h.no,h.ni,h.oi,h.nlo,h.nli,h.sd,h.sh⟩
theorem TkAt.setd(h:TkAt a H0 H t p d ls lo li es fs A ss sr sk)(ho:H t=some (.ins a.Taking dx (fsT p d ls lo li)))(nd:H0 d'=none)(pl:PlanA a H d' A' 24):TkAt a H0 (upd H t (.ins a.Taking dx (fsT p d' ls lo li))) t p d' ls lo li es fs A' ss sr sk:=by
 obtain⟨D,w,y⟩:=h.st;have k:Mv [ls,lo,li] H (upd H t (.ins a.Taking dx (fsT p d' ls lo li))):=.put ho j6
 have m:∀(v:V)(e c:Addr)(r:Str)(s q:Addr),H e=some (.ins a.End c (fsE r s q))->v=.ref e->upd H t (.ins a.Taking dx (fsT p d' ls lo li)) e=H e:=λv e c r s q z _=>by
  refine aG λB=>?_;rw[B,ho]at z;injection z with z
  injection z with _ _ z
  exact absurd (mj (λl=>(l.map Prod.fst)[0]?) z) (by show¬some ("on":Str)=some ("place":Str);decide+kernel)
 have i:∀{b:Addr}{j:List V},H b=some (.lst j)->upd H t (.ins a.Taking dx (fsT p d' ls lo li)) b=some (.lst j):=λ{b}{j}z=>by rw[aG (bB z ho (by intro q;cases q))];exact z
 exact⟨λb o e=>by rw[aG (aN e h.nt)];exact h.sm _ _ e,h.nt,h.ns,nd,h.ne,h.un,⟨dx,aE⟩,k.plan h.ls3 pl,⟨D,i w,y.mono λv x z=>z.mv k h.ls3⟩,i h.so,i h.si,h.ro.mono λv x z=>z.mv' k h.ls3 (m v),h.ri.mono λv x z=>z.mv' k h.ls3 (m v),h.no,h.ni,h.oi,h.nlo,h.nli,h.sd,h.sh⟩
theorem TkAt.app(h:TkAt a H0 H t p d ls lo li es fs A ss sr sk)(hs:H ls=some (.lst ts))(sv:StIs a [ls,lo,li] H v s)(nd:s.ad.Nodup)(fr:∀l∈s.ad,H0 l=none/\¬l∈ss.flatMap (·.ad)):TkAt a H0 (upd H ls (.lst (ts++[v]))) t p d ls lo li es fs A (ss++[s]) sr sk:=by
 obtain⟨E,i,F⟩:=h.st;obtain⟨I,m⟩:=h.ob;rw[hs]at i
 cases i;have k:Mv [ls,lo,li] H (upd H ls (.lst (ts++[v]))):=.app (by simp);have j:∀(B:V)(e c:Addr)(w:Str)(D q:Addr),H e=some (.ins a.End c (fsE w D q))->B=.ref e->upd H ls (.lst (ts++[v])) e=H e:=λB e c w D q z _=>aG (bB z hs (by intro q;cases q))
 exact⟨λb o e=>by rw[aG (aN e h.ns)];exact h.sm _ _ e,h.nt,h.ns,h.nd,h.ne,h.un,⟨I,by rw[aG (bB m hs (by intro q;cases q))];exact m⟩,k.plan h.ls3 h.pl,⟨_,aE,RowAt.snoc (F.mono λv x z=>z.mv k h.ls3) (sv.mv k h.ls3)⟩,by rw[aG h.no];exact h.so,by rw[aG h.ni];exact h.si,h.ro.mono λv x z=>z.mv' k h.ls3 (j v),h.ri.mono λv x z=>z.mv' k h.ls3 (j v),h.no,h.ni,h.oi,h.nlo,h.nli,by
  rw[List.flatMap_append,List.flatMap_singleton];exact mo.mpr ⟨h.sd,nd,λx G y J e=>(fr y J).2 (by rw[<-e];exact G)⟩,λl r=>by
  rw[List.flatMap_append,List.flatMap_singleton]at r;exact(lB.mp r).elim (h.sh l) λz=>(fr l z).1⟩
theorem E_inj(h:HO.ins C dx (fsE s lr q)=.ins C dx' (fsE s' lr' q')):dx=dx'/\s=s'/\lr=lr'/\q=q':=by
 injection h with _ h1 h2
 unfold fsE at h2;simp only[List.cons.injEq,Prod.mk.injEq,V.str.injEq,V.ref.injEq,true_and,and_true]at h2;exact⟨h1,h2.1,h2.2.1,h2.2.2⟩
theorem ends_set(nd:es.Nodup)(hl:Lsts X H)(h:RowAt (EndIs a X) H (es.map .ref) xs)(hi:es[i]?=some e)(hx:xs[i]?=some (s,r))(he:H e=some (.ins a.End dx (fsE s.1 lr q)))(fq:FrAt a.Fraction H q' r'):RowAt (EndIs a X) (upd H e (.ins a.End dx (fsE s.1 lr q'))) (es.map .ref) (xs.set i (s,r')):=by
 have k:Mv X H (upd H e (.ins a.End dx (fsE s.1 lr q'))):=.put he gU;refine⟨by rw[List.length_set];exact h.1,λj v x b l=>?_⟩;rw[lg]at b
 cases ej:es[j]? with
 |none=>rw[ej]at b;cases b
 |some e'=>
  rw[ej]at b
  cases b;by_cases c:j=i
  ·subst c;rw[hi]at ej
   cases ej;rw[List.getElem?_set_self (kY.mp hx).1]at l
   cases l;obtain⟨A,p,t,B,z,m,w,o,y⟩:=h.2 j (.ref e) (s,r) (by rw[lg,hi];rfl) hx
   cases z;rw[he]at m;obtain⟨_,_,rfl,_⟩:=E_inj (lY m);exact⟨e,dx,lr,q',rfl,aE,k _ _ w o Plain.lst,o,k.fr hl fq⟩
  ·rw[List.getElem?_set_ne λz=>c z.symm]at l;have ne:e'≠e:=λz=>c ((mS (kY.mp ej).1 nd).mp (by rw[ej,hi,z]));exact(h.2 j (.ref e') x (by rw[lg,ej];rfl) l).mv k hl (aG ne)
theorem ends_keep{s:Str×List WD}(ni:¬e∈es)(hl:Lsts X H)(h:RowAt (EndIs a X) H (es.map .ref) xs)(he:H e=some (.ins a.End dx (fsE s.1 lr q))):RowAt (EndIs a X) (upd H e (.ins a.End dx (fsE s.1 lr q'))) (es.map .ref) xs:=by
 have k:Mv X H (upd H e (.ins a.End dx (fsE s.1 lr q'))):=.put he gU;refine⟨h.1,λj v x b i=>?_⟩;have c:=b;rw[lg]at b
 cases ej:es[j]? with
 |none=>rw[ej]at b;cases b
 |some e'=>
  rw[ej]at b
  cases b;exact(h.2 j _ x c i).mv k hl (aG λz=>ni (by rw[<-z];exact kZ ej))
theorem TkAt.oth{s:Str×List WD}(h:TkAt a H0 H t p d ls lo li es fs A ss sr sk)(hm:e∈es++fs)(he:H e=some (.ins a.End dx (fsE s.1 lr q))):Same H0 (upd H e (.ins a.End dx (fsE s.1 lr q')))/\(∃dx',upd H e (.ins a.End dx (fsE s.1 lr q')) t=some (.ins a.Taking dx' (fsT p d ls lo li)))/\PlanA a (upd H e (.ins a.End dx (fsE s.1 lr q'))) d A 24/\(∃ts,upd H e (.ins a.End dx (fsE s.1 lr q')) ls=some (.lst ts)/\RowAt (StIs a [ls,lo,li]) (upd H e (.ins a.End dx (fsE s.1 lr q'))) ts ss)/\upd H e (.ins a.End dx (fsE s.1 lr q')) lo=some (.lst (es.map .ref))/\upd H e (.ins a.End dx (fsE s.1 lr q')) li=some (.lst (fs.map .ref)):=by
 have k:Mv [ls,lo,li] H (upd H e (.ins a.End dx (fsE s.1 lr q'))):=.put he gU;obtain⟨dx',c⟩:=h.ob;obtain⟨ts,m,r⟩:=h.st;have i:∀{b:Addr}{j:List V},H b=some (.lst j)->upd H e (.ins a.End dx (fsE s.1 lr q')) b=some (.lst j):=λ{b}{j}z=>by rw[aG (bB z he (by intro q;cases q))];exact z
 refine⟨λb o g=>by rw[aG (aN g (h.ne e hm))];exact h.sm _ _ g,⟨dx',?_⟩,k.plan h.ls3 h.pl,⟨ts,i m,r.mono λv x z=>z.mv k h.ls3⟩,i h.so,i h.si⟩;rw[aG λz=>?_]
 ·exact c
 ·rw[z,he]at c;injection c with c
  injection c with _ _ c
  exact absurd (mj (λl=>(l.map Prod.fst)[0]?) c) (by show¬some ("place":Str)=some ("on":Str);decide+kernel)
theorem TkAt.setS(h:TkAt a H0 H t p d ls lo li es fs A ss sr sk)(hi:es[i]?=some e)(hx:sr[i]?=some (s,r))(he:H e=some (.ins a.End dx (fsE s.1 lr q)))(fq:FrAt a.Fraction H q' r'):TkAt a H0 (upd H e (.ins a.End dx (fsE s.1 lr q'))) t p d ls lo li es fs A ss (sr.set i (s,r')) sk:=by
 have m:e∈es++fs:=lJ _ (kZ hi);obtain⟨x,l,b,j,o,w⟩:=h.oth m he;obtain⟨y,_,c⟩:=mo.mp h.un;exact⟨x,h.nt,h.ns,h.nd,h.ne,h.un,l,b,j,o,w,ends_set y h.ls3 h.ro hi hx he fq,ends_keep (λz=>c e (kZ hi) e z rfl) h.ls3 h.ri he,h.no,h.ni,h.oi,h.nlo,h.nli,h.sd,h.sh⟩
theorem TkAt.setK(h:TkAt a H0 H t p d ls lo li es fs A ss sr sk)(hi:fs[i]?=some e)(hx:sk[i]?=some (s,r))(he:H e=some (.ins a.End dx (fsE s.1 lr q)))(fq:FrAt a.Fraction H q' r'):TkAt a H0 (upd H e (.ins a.End dx (fsE s.1 lr q'))) t p d ls lo li es fs A ss sr (sk.set i (s,r')):=by
 have m:e∈es++fs:=lS _ (kZ hi);obtain⟨y,l,b,j,o,x⟩:=h.oth m he;obtain⟨_,w,c⟩:=mo.mp h.un;exact⟨y,h.nt,h.ns,h.nd,h.ne,h.un,l,b,j,o,x,ends_keep (λz=>c e z e (kZ hi) rfl) h.ls3 h.ro he,ends_set w h.ls3 h.ri hi hx he fq,h.no,h.ni,h.oi,h.nlo,h.nli,h.sd,h.sh⟩
theorem ends_there(h:RowAt (EndIs a X) H (es.map .ref) xs)(he:e∈es):H e≠none:=λz=>by
 obtain⟨i,j⟩:=lV.mp he;obtain⟨x,_,l,o,m,q,c,b,_⟩:=h.get (by rw[lg,j];rfl)
 cases c;rw[z]at b
 cases b
theorem TkAt.fresh(h:TkAt a H0 H t p d ls lo li es fs A ss sr sk)(n:H e=none):¬e∈es/\¬e∈fs:=⟨λz=>ends_there h.ro z n,λz=>ends_there h.ri z n⟩
theorem TkAt.addS(h:TkAt a H0 H t p d ls lo li es fs A ss sr sk)(n:NewEnd a H H' e s lr x)(hlr:H lr=some (.lst (nmV rg)))(nlr:¬lr∈[ls,lo,li]):TkAt a H0 (upd H' lo (.lst (es.map .ref++[.ref e]))) t p d ls lo li (es++[e]) fs A ss (sr++[((s,rg),x)]) sk:=by
 obtain⟨ne,l,P,q,D,J⟩:=n;have b:=h.mono l;obtain⟨G,M⟩:=h.fresh ne;obtain⟨Q,I,K⟩:=b.st;obtain⟨w,E⟩:=b.ob;have k:Mv [ls,lo,li] H' (upd H' lo (.lst (es.map .ref++[.ref e]))):=.app (by simp);have B:∀(F:V)(c j:Addr)(l:Str)(lr q:Addr),H' c=some (.ins a.End j (fsE l lr q))->F=.ref c->upd H' lo (.lst (es.map .ref++[.ref e])) c=H' c:=λF c j l lr q z _=>aG (bB z b.so (by intro q;cases q));obtain⟨L,N,O⟩:=mo.mp h.un;refine⟨aY h.nlo b.sm,h.nt,h.ns,h.nd,λc o=>?_,?_,⟨w,by rw[aG (bB E b.so (by intro q;cases q))];exact E⟩,k.plan b.ls3 b.pl,⟨Q,by rw[aG h.no.symm];exact I,K.mono λv x z=>z.mv k b.ls3⟩,?_,by rw[aG h.oi.symm];exact b.si,?_,b.ri.mono λv x z=>z.mv' k b.ls3 (B v),h.no,h.ni,h.oi,h.nlo,h.nli,h.sd,h.sh⟩
 ·rcases lB.mp o with z|z
  ·rcases lB.mp z with z|z
   ·exact h.ne _ (lJ _ z)
   ·rw[lv.mp z];exact h.sm.free ne
  ·exact h.ne _ (lS _ z)
 ·refine mo.mpr ⟨mo.mpr ⟨L,by simp,λx r y m i=>G ?_⟩,N,λx r y m i=>?_⟩
  ·rw[lv.mp m]at i;rw[<-i];exact r
  ·rcases lB.mp r with z|z
   ·exact O x z y m i
   ·rw[lv.mp z]at i;exact M (by rw[i];exact m)
 ·rw[aE,lj];rfl
 ·rw[lj];refine RowAt.snoc (b.ro.mono λv x z=>z.mv' k b.ls3 (B v)) ⟨e,P,lr,q,rfl,?_,k _ _ (l _ _ hlr) nlr Plain.lst,nlr,k.fr b.ls3 J⟩;rw[aG (bB D b.so (by intro q;cases q))];exact D
theorem TkAt.addK(h:TkAt a H0 H t p d ls lo li es fs A ss sr sk)(n:NewEnd a H H' e s lr x)(hlr:H lr=some (.lst (nmV rg)))(nlr:¬lr∈[ls,lo,li]):TkAt a H0 (upd H' li (.lst (fs.map .ref++[.ref e]))) t p d ls lo li es (fs++[e]) A ss sr (sk++[((s,rg),x)]):=by
 obtain⟨ne,l,P,q,D,J⟩:=n;have b:=h.mono l;obtain⟨G,M⟩:=h.fresh ne;obtain⟨Q,I,K⟩:=b.st;obtain⟨r,E⟩:=b.ob;have k:Mv [ls,lo,li] H' (upd H' li (.lst (fs.map .ref++[.ref e]))):=.app (by simp);have B:∀(F:V)(c j:Addr)(l:Str)(lr q:Addr),H' c=some (.ins a.End j (fsE l lr q))->F=.ref c->upd H' li (.lst (fs.map .ref++[.ref e])) c=H' c:=λF c j l lr q z _=>aG (bB z b.si (by intro q;cases q));obtain⟨L,N,O⟩:=mo.mp h.un;refine⟨aY h.nli b.sm,h.nt,h.ns,h.nd,λc o=>?_,?_,⟨r,by rw[aG (bB E b.si (by intro q;cases q))];exact E⟩,k.plan b.ls3 b.pl,⟨Q,by rw[aG h.ni.symm];exact I,K.mono λv x z=>z.mv k b.ls3⟩,by rw[aG h.oi];exact b.so,?_,b.ro.mono λv x z=>z.mv' k b.ls3 (B v),?_,h.no,h.ni,h.oi,h.nlo,h.nli,h.sd,h.sh⟩
 ·rcases lB.mp o with z|z
  ·exact h.ne _ (lJ _ z)
  ·rcases lB.mp z with z|z
   ·exact h.ne _ (lS _ z)
   ·rw[lv.mp z];exact h.sm.free ne
 ·refine mo.mpr ⟨L,mo.mpr ⟨N,by simp,λx m y w i=>M ?_⟩,λx m y w i=>?_⟩
  ·rw[lv.mp w]at i;rw[<-i];exact m
  ·rcases lB.mp w with z|z
   ·exact O x m y z i
   ·rw[lv.mp z]at i;exact G (by rw[<-i];exact m)
 ·rw[aE,lj];rfl
 ·rw[lj];refine RowAt.snoc (b.ri.mono λv x z=>z.mv' k b.ls3 (B v)) ⟨e,P,lr,q,rfl,?_,k _ _ (l _ _ hlr) nlr Plain.lst,nlr,k.fr b.ls3 J⟩;rw[aG (bB D b.si (by intro q;cases q))];exact D
end
noncomputable def RBd(l:List WD)(x:Rat):Prop:=Bd 6650 x/\(∀n,Bd 6650 (x*sA 1 l n))/\Bd 6650 ((1-aL l)*x)
noncomputable def RgOut(ring:List WD)(s0:Str)(x:Rat)(ss:List SD)(sr sk:List EN)(ss':List SD)(sr' sk':List EN):Prop:=
 (aL ring=1/\(∃ad,ss'=ss++[⟨ring,[],[],x,ad⟩])/\sr'=sr/\sk'=sk)∨(1<aL ring/\ss'=ss/\sr'=sr++[((s0,ring),(aL ring-1)*x)]/\sk'=sk)∨(aL ring<1/\ss'=ss/\sr'=sr/\sk'=sk++[((s0,ring),(1-aL ring)*x)])
inductive IspTakeR(a:Ad)(vs:List V)(H:Hp)(Q:VK):Prop
 |mk(H0:Hp)(t p d ls lo li l:Addr)(es fs:List Addr)(A:Str->Rat)(ss:List SD)(sr sk:List EN)(ps:List (Str×Rat))(ns ring:List WD)(E:Nat)(s0:Str)(h1:vs=[.ref t,.ref l])(h2:TkAt a H0 H t p d ls lo li es fs A ss sr sk)(h3:NetAt a H0 p ps ns)(h4:(ns.map (·.nm)).Nodup)(h5:(∀d∈ns,GnE E d/\SmR d.x/\Bd 40 (aW d.kd d.x)))(h6:ns.length<=24)(h7:H l=some (.lst (nmV ring)))(h8:¬l∈[ls,lo,li])(h9:H0 l=none)(h10:¬l∈ss.flatMap (·.ad))(h11:RingW ns ring)(h12:PthW s0 ring s0)(h13:ring.length<=6)(h14:(∀d∈ring,A d.nm≠0/\RBd ring (A d.nm/sA 1 ring d.nm)))(h15:(∀n,0<=A n/\Bd 6650 (A n)))(h16:(∀n,A n≠0->n∈ns.map (·.nm)))(h17:ss.length<=100)(h18:es.length<=100)(h19:fs.length<=100)(h20:∀H' d' es' fs' ss' sr' sk' x,TkAt a H0 H' t p d' ls lo li es' fs' (mns A ring x) ss' sr' sk'->0<x->(∀d∈ring,sA x ring d.nm<=A d.nm)->(∃d∈ring,x=A d.nm/sA 1 ring d.nm/\sA x ring d.nm=A d.nm)->RgOut ring s0 x ss sr sk ss' sr' sk'->Q .non H'):IspTakeR a vs H Q
noncomputable def spTakeR(a:Ad):Sp:=λvs H Q _=>IspTakeR a vs H Q
theorem jI(T:TX K mg a):MtB P w K mg base CX0 a.Taking "take_ring" 10 ["self","ring"] (spTakeR a):=by
 refine T.m_Taking_take_ring.okA sc_Taking_take_ring λf cp A be s H vs Q E hr h=>?_;obtain⟨H0,t,p,d,Y,lo,li,l,es,fs,A,ss,sr,sk,ps,ns,ring,E',s0,rfl,D,hn,ag,gn,ln,hl,ae,bh,ch,rg,an,lr,hA,bA,sub,bl,bj,ci,k⟩:=h
 refine⟨_,(aD (aH (i:=2) sc_Taking_take_ring.nd (aO (sentA T) hr aJ (aA (aZ (pv 0) rfl) (aA (pv 1) (aA (cJ (mk1 T) hr T.mg_Fraction aJ (aA aC aB)) aB)))))
  (aD (aH (i:=3) sc_Taking_take_ring.nd (aO (jW T) hr aJ (aA (aZ (pv 0) rfl) (aA (pv 2) aB))))
  (aD (cT (pv 0) (aO (ok_less T) hr aJ (aA (aZ (pv 0) rfl) (aA (pv 2) (aA (pv 3) aB)))) rfl)
  (aD (aH (i:=4) sc_Taking_take_ring.nd (cM T.fr (cM T.fr (cJ (mk1 T) hr T.mg_Fraction aJ (aA aC aB)) (eR T) hr aJ (aA (aO (fN T) hr aJ (aA (aZ (pv 0) rfl) (aA (pv 1) aB))) aB)) (gf T) hr aJ (aA (pv 3) aB)))
  (aX (bJ (aS e7 (eT T.fr (pv 4) (eU T) hr aJ) aC) (aF (bY (kF mT m9 nc eN (aZ (pv 0) rfl) (aA (bP (aA (pv 1) (aA (bH aB) (aA (bH aB) (aA (pv 3) aB))))) aB)))) aV)
  (aF (bY (eV (CX:=CX0) (pv 0) hr aJ (aA (aZ (eV (CX:=CX0) (aZ (pv 0) rfl) hr aJ (aA (aK bC (pv 1) aC) aB)) rfl) (aA (pv 1) (aA (pv 4) aB))))))))))),?_⟩
 walk_at"q"
 obtain⟨dx,ho⟩:=D.ob;have gE:∀d∈ring,GnE E' d:=λd hd=>(gn d (rg.sub d hd)).1;have aq:(ring.map (·.nm)).Nodup:=bL ag rg.sub rg.nd;have S:WkS 40 ring:=⟨λd hd=>(gn d (rg.sub d hd)).2,by lia,by decide,lr,aq⟩;have O:OnNet K a H p l ps ns ring:=⟨hn.mono D.sm,ag,SqL.of hl,rg.sub,an.chain,by lia⟩;have bU:∀n,Bd 800 (sA 1 ring n):=λn=>(S.sA Bd.one n).mono (by decide);have uP:∀d∈ring,0<sA 1 ring d.nm:=λd hd=>(sA_gq (m:=ring.length) aq gE (by lia) hd).1;refine⟨_,rfl,t,_,dx,_,_,rfl,ho,T.cl_Taking,T.na_Taking_on,fsT_on _ _ _ _ _,_,rfl,1,1,rfl,by decide,sm1,λo H1 no s1 fo=>?_⟩;rw[show Rat.divInt 1 1=1 from rfl]at fo;refine⟨p,l,o,ps,ns,ring,1,40,0,rfl,O.mono s1,fo,S,Bd.one,by decide,λr H2 nr s2 pr=>?_⟩;have av:=s1.trans s2;have D2:=D.mono av;obtain⟨b5,us,he,te,ce,lu,iu⟩:=unitP gE aq pr;obtain⟨cf,ks,hd,td,cn,lk,ik⟩:=id D2.pl
 have cg:us≠[]:=λz=>by
  obtain⟨y,N⟩:=List.exists_mem_of_ne_nil _ rg.ne
  have:=(iu y.nm).mpr (k8.mpr ⟨y,N,rfl⟩)
  rw[z]at this
  cases this
 have bn:d≠r:=by
  obtain⟨cr,_,h0,_⟩:=id (D.mono s1).pl;exact aN h0 nr
 have a8:∀n,n∈us->∃y∈ring,y.nm=n:=λn hn=>k8.mp ((iu n).mp hn);refine⟨_,rfl,t,_,dx,_,_,rfl,av _ _ ho,T.cl_Taking,T.na_Taking_rest,fsT_d _ _ _ _ _,_,rfl,d,r,cf,b5,ks,us,A,sA 1 ring,rfl,hd,td,he,te,ce,cg,by lia,λn hn=>?_,bn,λq H3 x s3 fx br b7=>?_⟩
 ·obtain⟨y,N,rfl⟩:=a8 n hn
  have:=uP y N
  exact⟨(ik _).mpr (hA y N).1,(bA _).2.smr (by decide),(bU _).smr (by decide),by grind,(hA y N).2.1.smr (by decide)⟩
 have ao:=av.trans s3;obtain⟨n0,bg,aj⟩:=br;obtain⟨y0,ab,rfl⟩:=a8 n0 bg;obtain⟨b1,b2,b3⟩:RBd ring x:=by rw[<-aj];exact(hA y0 ab).2
 have dv:∀d∈ring,A d.nm/sA 1 ring d.nm*sA 1 ring d.nm=A d.nm:=λd hd=>mO (by have:=uP d hd;grind)
 have x0:0<x:=by
  rw[<-aj,mi];exact fO (by have:=(hA y0 ab).1;have:=(bA y0.nm).1;grind) (ii (uP y0 ab))
 have U:∀d∈ring,sA x ring d.nm<=A d.nm:=λy N=>by
  have h1:=b7 _ ((iu _).mpr (k8.mpr ⟨y,N,rfl⟩));have h2:=l6 h1 (lT (uP y N));rw[dv y N]at h2;rw[eZ];exact h2
 have as:∃d∈ring,x=A d.nm/sA 1 ring d.nm/\sA x ring d.nm=A d.nm:=⟨y0,ab,aj.symm,by rw[eZ,<-aj];exact dv y0 ab⟩;have D3:=D2.mono s3;refine⟨_,rfl,t,_,dx,_,_,rfl,ao _ _ ho,T.cl_Taking,T.na_Taking_rest,fsT_d _ _ _ _ _,_,rfl,_,rfl,d,r,q,A,sA 1 ring,24,6,x,rfl,D3.pl,pr.mono s3,by decide,by decide,fx,b1.mono (by decide),λn=>⟨(bA n).2.mono (by decide),(bU n).mono (by decide),(b2 n).mono (by decide)⟩,λr' H4 ca s4 a2=>?_⟩;have ai:=ao.trans s4;have ap:=ai _ _ ho
 have ef:(λn=>A n-x*sA 1 ring n)=mns A ring x:=funext λn=>by
  unfold mns;rw[<-eZ]
 rw[ef]at a2
 have bo:PlanA a H4 r' (mns A ring x) 24:=by
  obtain⟨bt,bp,a1,bm,a3,_,ba⟩:=a2;refine⟨bt,bp,a1,bm,a3,?_,ba⟩
  have:=dS a3 (ys:=ns.map (·.nm)) λn hn=>?_
  ·rw[kX]at this
   lia
  ·have:=(ba n).mp hn
   by_cases c:n∈ring.map (·.nm)
   ·obtain⟨y,N,rfl⟩:=k8.mp c;exact k8.mpr ⟨y,rg.sub y N,rfl⟩
   ·refine sub n λz=>this ?_;unfold mns;rw[iN c,z];decide+kernel
 have D5:=(D.mono ai).setd ap ((D.sm.trans ao).free ca) bo;have kp:Mv [Y,lo,li] H4 (upd H4 t (.ins a.Taking dx (fsT p r' Y lo li))):=.put ap j6;have az:=kp.fr (D.mono ai).ls3 (fx.mono s4);have au:=kp _ _ (ai _ _ hl) ae Plain.lst;have aw:upd H4 t (.ins a.Taking dx (fsT p r' Y lo li)) t=some (.ins a.Taking dx (fsT p r' Y lo li)):=aE;refine⟨_,rfl,t,a.Taking,dx,_,rfl,ap,T.cl_Taking,T.na_Taking_rest,by show 5<1000;decide,?_⟩;rw[fsT_put];generalize upd H4 t (.ins a.Taking dx (fsT p r' Y lo li))=H5 at D5 kp az au aw⊢;have O5:OnNet K a H5 p l ps ns ring:=⟨hn.mono D5.sm,ag,SqL.of au,rg.sub,an.chain,by lia⟩;refine⟨1,1,rfl,by decide,sm1,λo2 H6 cm s6 ak=>?_⟩;rw[show Rat.divInt 1 1=1 from rfl]at ak;refine⟨o2,_,rfl,ak,_,rfl,t,_,dx,_,_,rfl,s6 _ _ aw,T.cl_Taking,T.na_Taking_on,fsT_on _ _ _ _ _,_,rfl,p,l,ps,ns,ring,40,rfl,O5.mono s6,S.b,by decide,by lia,λg H7 s7 fg=>?_⟩;refine⟨o2,g,_,_,rfl,ak.mono s7,fg,Bd.one.s9,S.g.s9,True.intro,λy H8 ny s8 fy=>?_⟩;have a0:=s6.trans (s7.trans s8);refine⟨y,_,rfl,fy,_,rfl,y,q,_,_,rfl,fy,az.mono a0,(Bd.one.sub S.g).s9,b1.s9,True.intro,λev H9 co s9 a6=>?_⟩;have aa:=a0.trans s9;have D9:=D5.mono aa;have cb:=az.mono aa;have Z:=aa _ _ au;have bw:=aa _ _ aw;refine dA (λσ' H'=>yE1 λah=>σ'=[some (.ref t),some (.ref l),some (.ref r),some (.ref q),some (.ref ev)]×' TkAt a H0 H' t p r' Y lo li es fs (mns A ring x) ah sr sk×' H' l=some (.lst (nmV ring))×' FrAt a.Fraction H' ev ((1-aL ring)*x)×'((aL ring=1/\∃ad,ah=ss++[⟨ring,[],[],x,ad⟩])∨(aL ring≠1/\ah=ss))) ?_ ?_
 ·walk_at"rd"
  by_cases c:(1-aL ring)*x=0
  case neg=>
   refine hE (lM λz=>c (sgn_zero.mp (V.int.inj z))) ?_;exact⟨ss,rfl,D9,Z,a6,.inr ⟨λz=>c (by rw[z];grind),rfl⟩⟩
  have g1:aL ring=1:=by
   rcases Rat.mul_eq_zero.mp c with z|z
   ·grind
   ·grind
  refine kP (lQ (mj V.int (sgn_zero.mpr c))) ?_;obtain⟨ts,bc,b4⟩:=id D9.st;refine⟨_,rfl,t,_,dx,_,_,rfl,bw,T.cl_Taking,T.na_Taking_strands,fsT_s _ _ _ _ _,?_⟩;refine⟨.inl ⟨rfl,_,SqL.of bc⟩,?_⟩;refine⟨_,rfl,by decide,λl2 ac=>?_⟩;obtain⟨bb,zq,J,ay⟩:=uG (o:=.lst []) ac;rw[zq];refine⟨by decide,λl3 L=>?_⟩;obtain⟨a4,zq,ar,a9⟩:=uG (o:=.lst []) L;rw[zq];refine⟨_,rfl,(show 4<=PySem.sizeLine by decide),λu nu=>?_⟩;obtain⟨ct,zq,I,hu⟩:=uG (o:=.tup [.ref l,.ref l2,.ref l3,.ref q]) nu;rw[zq];have B:=J.trans (ar.trans I);have a7:=D9.mono B
  have n2:¬l2∈[Y,lo,li]:=λz=>by
   obtain⟨zs,e⟩:=D9.ls3 _ z;rw[ac]at e
   cases e
  have n3:¬l3∈[Y,lo,li]:=λz=>by
   obtain⟨zs,e⟩:=(D9.mono J).ls3 _ z;rw[L]at e
   cases e
  have al:=B _ _ bc;have bz:=aN Z ac;have bx:=aN (J _ _ Z) L;have bf:=aN ay L
  have G:=a7.app al (s:=⟨ring,[],[],x,[l,l2,l3]⟩) ⟨u,l,l2,l3,q,rfl,hu,B _ _ Z,ar.trans I _ _ ay,I _ _ a9,ae,n2,n3,cb.mono B,rfl⟩ (by simp[bz,bx,bf]) (λb hb=>by
   simp only[lN,lR,or_false]at hb;rcases hb with rfl|rfl|rfl
   ·exact⟨bh,ch⟩
   ·exact⟨D9.sm.free ac,D9.ads ac⟩
   ·exact⟨(D9.mono J).sm.free L,(D9.mono J).ads L⟩)
  have ck:ts.length<=100:=by rw[b4.1];exact bl
  refine⟨Y,_,_,rfl,rfl,al,aT (by lia),?_⟩;refine⟨_,rfl,G,?_,(Mv.app (X:=[Y,lo,li]) (by simp)).fr a7.ls3 (a6.mono B),.inl ⟨g1,_,rfl⟩⟩;rw[aG λz=>ae (by rw[z];simp)];exact B _ _ Z
 rintro zU cj σ' cs⟨ah,rfl,G,af,a5,ax⟩;obtain⟨R,M⟩:=G.ob;obtain⟨y1,e1⟩:∃y1,ring[0]?=some y1:=by cases hring:ring with|nil=>exact absurd hring rg.ne|cons z zs=>exact⟨z,rfl⟩
 have bq:=rg.sub y1 (kZ e1);have ys:y1.st=s0:=an.head y1 (by rw[List.head?_eq_getElem?];exact e1);have am:=hn.mono G.sm;obtain⟨bv,dw,dy,hp,_,_⟩:=id am;have b9:=iV dw dy (m:="way") (by decide+kernel) (by decide+kernel);have i0:(nmV ring)[0]?=some (.str y1.nm):=by unfold nmV;rw[lg,e1];rfl
 subst cj;refine⟨_,rfl,t,a.Taking,R,_,7,["self","place","ring","come"],spAddE a,rfl,M,j9 _ _ _ _ _ (by decide+kernel),T.cl_Taking,by decide,ib T,?_⟩;refine⟨_,rfl,t,_,R,_,_,rfl,M,T.cl_Taking,T.na_Taking_on,fsT_on _ _ _ _ _,p,a.Net,bv,_,1,["self","name"],fW a,rfl,hp,b9,T.cl_Net,by decide,eX T,?_⟩;refine⟨_,rfl,l,_,_,_,rfl,rfl,SqL.of af,atI_nat (j:=0) i0,p,ps,ns,y1,rfl,am,ag,bq,λv hx=>?_⟩;obtain⟨p1,vh,vc,qx,rfl,W,cq⟩:=id hx;obtain⟨b6,b0,bu,a1,_⟩:=id W.ob;have c1:=cS T y1.kd;refine⟨p1,_,b6,b0,_,rfl,bu,c1.cl,c1.n2,a1.st,_,rfl,_,rfl,?_⟩;rw[ys];refine⟨t,R,p,r',Y,lo,li,l,ev,s0,(1-aL ring)*x,_,_,rfl,M,a5,b3.s9,G.so,G.si,by rw[kX];exact bj,by rw[kX];exact ci,λc e cd ne=>?_,λc e cd ne=>?_,λc=>?_⟩
 ·have g1:1<aL ring:=Rat.not_le.mp λz=>by
   have:=fF (show 0<=1-aL ring by grind) (lT x0)
   grind
  obtain⟨g2,rfl⟩:=ax.resolve_left λz=>by rw[z.1]at g1;exact absurd g1 (by decide+kernel)
  rw[show-((1-aL ring)*x)=(aL ring-1)*x by grind]at ne;exact k _ r' _ _ _ _ _ x (G.addS ne af ae) x0 U as (.inr (.inl ⟨g1,rfl,rfl,rfl⟩))
 ·have g1:aL ring<1:=Rat.not_le.mp λz=>by
   have:=fF (show 0<=aL ring-1 by grind) (lT x0)
   grind
  obtain⟨g2,rfl⟩:=ax.resolve_left λz=>by rw[z.1]at g1;exact absurd g1 (by decide+kernel)
  exact k _ r' _ _ _ _ _ x (G.addK ne af ae) x0 U as (.inr (.inr ⟨g1,rfl,rfl,rfl⟩))
 ·have g1:aL ring=1:=by
   rcases Rat.mul_eq_zero.mp c with z|z
   ·grind
   ·grind
  obtain⟨g2,ad,rfl⟩:=ax.resolve_right λz=>z.1 g1;exact k _ r' _ _ _ _ _ x G x0 U as (.inl ⟨g1,⟨ad,rfl⟩,rfl,rfl⟩)
end
end G
namespace G
open PySem L2
section
theorem TkAt.eS{i:Nat}(h:TkAt a H0 H t p d ls lo li es fs A ss sr sk)(hi:es[i]?=some e)(hx:sr[i]?=some (s,r)):∃dxe lre qe,H e=some (.ins a.End dxe (fsE s.1 lre qe))/\H lre=some (.lst (nmV s.2))/\¬lre∈[ls,lo,li]/\FrAt a.Fraction H qe r:=by
 obtain⟨w,b,c,j,z,q,o,l,m⟩:=h.ro.2 i (.ref e) (s,r) (by rw[lg,hi];rfl) hx
 cases z;exact⟨b,c,j,q,o,l,m⟩
theorem TkAt.eK{i:Nat}(h:TkAt a H0 H t p d ls lo li es fs A ss sr sk)(hi:fs[i]?=some e)(hx:sk[i]?=some (s,r)):∃dxe lre qe,H e=some (.ins a.End dxe (fsE s.1 lre qe))/\H lre=some (.lst (nmV s.2))/\¬lre∈[ls,lo,li]/\FrAt a.Fraction H qe r:=by
 obtain⟨w,b,c,j,z,q,o,l,m⟩:=h.ri.2 i (.ref e) (s,r) (by rw[lg,hi];rfl) hx
 cases z;exact⟨b,c,j,q,o,l,m⟩
noncomputable def PB(l:List WD)(x:Rat):Prop:=Bd 6650 x/\(∀n,Bd 6650 (x*sA 1 l n))/\Bd 6650 (x*aL l)
inductive IspTakeP(a:Ad)(vs:List V)(H:Hp)(Q:VK):Prop
 |mk(H0:Hp)(t p d ls lo li l e f:Addr)(es fs:List Addr)(A:Str->Rat)(ss:List SD)(sr sk:List EN)(ps:List (Str×Rat))(ns path:List WD)(i j E:Nat)(k1 k2:Str×List WD)(r1 r2:Rat)(h1:vs=[.ref t,.ref e,.ref l,.ref f])(h2:TkAt a H0 H t p d ls lo li es fs A ss sr sk)(h3:NetAt a H0 p ps ns)(h4:(ns.map (·.nm)).Nodup)(h5:(∀d∈ns,GnE E d/\SmR d.x/\Bd 40 (aW d.kd d.x)))(h6:ns.length<=24)(h7:H l=some (.lst (nmV path)))(h8:¬l∈[ls,lo,li])(h9:H0 l=none)(h10:¬l∈ss.flatMap (·.ad))(h11:(∀x∈path,x∈ns))(h12:(path.map (·.nm)).Nodup)(h13:Chain path)(h14:path.length<=6)(h15:(∀d∈path,A d.nm≠0/\PB path (A d.nm/sA 1 path d.nm)))(h16:(∀n,0<=A n/\Bd 6650 (A n)))(h17:(∀n,A n≠0->n∈ns.map (·.nm)))(h18:ss.length<=100)(h19:es[i]?=some e)(h20:sr[i]?=some (k1,r1))(h21:fs[j]?=some f)(h22:sk[j]?=some (k2,r2))(h23:0<r1)(h24:0<r2)(h25:PB path r1)(h26:Bd 6650 r2)(h27:PB path (r2/aL path))(h28:∀H' d' x ad,TkAt a H0 H' t p d' ls lo li es fs (mns A path x) (ss++[⟨k1.2,path,k2.2,x,ad⟩]) (sr.set i (k1,r1-x)) (sk.set j (k2,r2-x*aL path))->0<x->x<=r1->x*aL path<=r2->(∀d∈path,sA x path d.nm<=A d.nm)->(x=r1∨x*aL path=r2∨∃d∈path,sA x path d.nm=A d.nm)->(x=r1∨x=r2/aL path∨∃d∈path,x=A d.nm/sA 1 path d.nm)->Q .non H'):IspTakeP a vs H Q
noncomputable def spTakeP(a:Ad):Sp:=λvs H Q _=>IspTakeP a vs H Q
theorem jJ(T:TX K mg a):MtB P w K mg base CX0 a.Taking "take_path" 10 ["self","source","path","sink"] (spTakeP a):=by
 refine T.m_Taking_take_path.okA sc_Taking_take_path λf eg A c6 s H vs Q E hr h=>?_;obtain⟨H0,t,p,d,ls,lo,li,l,e,f,es,fs,A,ss,sr,sk,ps,ns,path,i,j,E',k1,k2,r1,r2,rfl,D,hn,cx,gn,ln,hl,an,cv,c4,R,ba,c2,lr,hA,bA,sub,ch,hi,hx,hj,J,p1,p2,b1,b2,b3,k⟩:=h
 refine⟨_,(aD (aH (i:=4) sc_Taking_take_path.nd (aO (sentA T) hr aJ (aA (aZ (pv 0) rfl) (aA (pv 2) (aA (cJ (mk1 T) hr T.mg_Fraction aJ (aA aC aB)) aB)))))
  (aD (aH (i:=5) sc_Taking_take_path.nd (aO (fN T) hr aJ (aA (aZ (pv 0) rfl) (aA (pv 2) aB))))
  (aD (aH (i:=6) sc_Taking_take_path.nd (aO (ok_least T) hr aJ (aA (bH (aA (aZ (pv 1) rfl) (aA (cM T.fr (aZ (pv 3) rfl) (ok_over T) hr aJ (aA (pv 5) aB)) aB))) aB)))
  (aX (bJ (aS (gw hr.units0) (pv 2) (bH aB)) (aF (aH (i:=6) sc_Taking_take_path.nd (aO (ok_least T) hr aJ (aA (bH (aA (pv 6) (aA (aO (jW T) hr aJ (aA (aZ (pv 0) rfl) (aA (pv 4) aB))) aB))) aB)))) aV)
  (aD (cT (pv 0) (aO (ok_less T) hr aJ (aA (aZ (pv 0) rfl) (aA (pv 4) (aA (pv 6) aB)))) rfl)
  (aD (cT (pv 1) (cM T.fr (aZ (pv 1) rfl) (eR T) hr aJ (aA (pv 6) aB)) rfl)
  (aD (cT (pv 3) (cM T.fr (aZ (pv 3) rfl) (eR T) hr aJ (aA (cM T.fr (pv 6) (gf T) hr aJ (aA (pv 5) aB)) aB)) rfl)
  (aF (bY (kF mT m9 nc eN (aZ (pv 0) rfl) (aA (bP (aA (eJ kU (by rfl) T.z_list nM (aA (aZ (pv 1) rfl) aB)) (aA (pv 2) (aA (eJ kU (by rfl) T.z_list nM (aA (aZ (pv 3) rfl) aB)) (aA (pv 6) aB))))) aB))))))))))),?_⟩
 walk_at"q"
 obtain⟨dx,ho⟩:=D.ob;have gE:∀d∈path,GnE E' d:=λd hd=>(gn d (R d hd)).1;have S:WkS 40 path:=⟨λd hd=>(gn d (R d hd)).2,by lia,by decide,lr,ba⟩;have O:OnNet K a H p l ps ns path:=⟨hn.mono D.sm,cx,SqL.of hl,R,c2,by lia⟩;have bU:∀n,Bd 800 (sA 1 path n):=λn=>(S.sA Bd.one n).mono (by decide);have uP:∀d∈path,0<sA 1 path d.nm:=λd hd=>(sA_gq (m:=path.length) ba gE (by lia) hd).1;have gp:0<aL path:=(ju gE).1;refine⟨_,rfl,t,_,dx,_,_,rfl,ho,T.cl_Taking,T.na_Taking_on,fsT_on _ _ _ _ _,_,rfl,1,1,rfl,by decide,sm1,λo H1 no a9 fo=>?_⟩;rw[show Rat.divInt 1 1=1 from rfl]at fo;refine⟨p,l,o,ps,ns,path,1,40,0,rfl,O.mono a9,fo,S,Bd.one,by decide,λr H2 nr c8 pr=>?_⟩;have ak:=a9.trans c8;have D2:=D.mono ak;obtain⟨ck,us,he,te,cp,lu,iu⟩:=unitP gE ba pr;refine⟨_,rfl,t,_,dx,_,_,rfl,ak _ _ ho,T.cl_Taking,T.na_Taking_on,fsT_on _ _ _ _ _,_,rfl,p,l,ps,ns,path,40,rfl,O.mono ak,S.b,by decide,by lia,λg H3 s3 fg=>?_⟩;have c0:=ak.trans s3;have D3:=D2.mono s3;obtain⟨cw,ee,qe,cy,d1,d2,ce⟩:=D3.eS hi hx;obtain⟨dk,eh,qf,cg,d0,dz,b9⟩:=D3.eK hj J;refine⟨_,rfl,e,_,cw,_,_,rfl,cy,T.cl_End,T.na_End_rest,fsE_q _ _ _,?_⟩;refine⟨_,rfl,f,_,dk,_,_,rfl,cg,T.cl_End,T.na_End_rest,fsE_q _ _ _,qf,r2,rfl,b9,_,rfl,qf,g,_,_,rfl,b9,fg,b2.s9,S.g.s9,by grind,λqo H4 d6 s4 de=>?_⟩;refine⟨(show 2<=PySem.sizeLine by decide),λlm dr=>?_⟩;obtain⟨H5,zq,s5,h5⟩:=uG (o:=.lst [.ref qe,.ref qo]) dr;rw[zq];have aj:=s4.trans s5;have du:RowAt (FrIs a) H5 [.ref qe,.ref qo] [r1,r2/aL path]:=RowAt.snoc (RowAt.snoc RowAt.nil ⟨qe,rfl,ce.mono aj⟩) ⟨qo,rfl,de.mono s5⟩;refine⟨lm,_,[r1,r2/aL path],rfl,SqL.of h5,du,by simp,λx hx=>?_,λqm m fm hm all=>?_⟩
 ·simp only[lN,lR,or_false]at hx;rcases hx with rfl|rfl
  ·exact b1.1.s9
  ·exact b3.1.s9
 have m1:m<=r1:=all r1 (by simp);have m2:m<=r2/aL path:=all _ (by simp);have m3:m=r1∨m=r2/aL path:=by simpa using hm
 clear hm all;have co:PB path m:=by rcases m3 with rfl|rfl;exact b1;exact b3
 have ca:∀n,n∈us->∃y∈path,y.nm=n:=λn hn=>k8.mp ((iu n).mp hn);have bm:=c0.trans aj;have bx:=s3.trans aj;refine dA (λσ' H'=>yE2 λX B=>σ'=[some (.ref t),some (.ref e),some (.ref l),some (.ref f),some (.ref r),some (.ref g),some (.ref X)]×' Same H5 H'×' FrAt a.Fraction H' X B×' B<=m×'(∀d∈path,B<=A d.nm/sA 1 path d.nm)×'(B=m∨∃d∈path,B=A d.nm/sA 1 path d.nm)) ?_ ?_
 ·refine⟨_,rfl,by decide,λe0 ne0=>?_⟩;obtain⟨H6,zq,s6,h6⟩:=uG (o:=.lst []) ne0;rw[zq];have a4:=bm.trans s6;have ar:=a4 _ _ hl;by_cases pne:path=[]
  ·rw[show nmV path=[]by rw[pne];rfl]at ar;exact⟨l,e0,_,rfl,rfl,SqL.of ar,SqL.of h6,_,rfl,iteF ⟨qm,m,rfl,s6,fm.mono s6,nO,λd hd=>absurd hd (by rw[pne];exact lR),.inl rfl⟩⟩
  have D6:=D.mono a4;obtain⟨yw,dh⟩:=List.exists_mem_of_ne_nil _ pne
  obtain⟨v0,vr,dm⟩:∃v0 vr,nmV path=v0::vr:=by
   cases hpp:path with
   |nil=>exact absurd hpp pne
   |cons z zs=>exact⟨_,_,rfl⟩
  rw[dm]at ar;refine⟨l,e0,_,rfl,rfl,SqL.of ar,SqL.of h6,_,rfl,iteT ?_⟩;obtain⟨cq,ks,hd,td,d3,lk,ik⟩:=id D6.pl
  have dw:us≠[]:=λz=>by
   have:=(iu yw.nm).mpr (k8.mpr ⟨yw,dh,rfl⟩)
   rw[z]at this
   cases this
  have c9:d≠r:=by
   obtain⟨eb,_,h0,_⟩:=id (D.mono a9).pl;exact aN h0 nr
  have bw:=bx.trans s6;refine⟨_,rfl,_,rfl,t,_,dx,_,_,rfl,a4 _ _ ho,T.cl_Taking,T.na_Taking_rest,fsT_d _ _ _ _ _,_,rfl,d,r,cq,ck,ks,us,A,sA 1 path,rfl,hd,td,bw _ _ he,te.mono (λv x z=>z.mono bw),cp,dw,by lia,λn hn=>?_,c9,λq H7 x s7 fx dt cl=>?_⟩
  ·obtain⟨y,J,rfl⟩:=ca n hn
   have:=uP y J
   exact⟨(ik _).mpr (hA y J).1,(bA _).2.smr (by decide),(bU _).smr (by decide),by grind,(hA y J).2.1.smr (by decide)⟩
  obtain⟨n0,cf,bn⟩:=dt;obtain⟨y0,bt,rfl⟩:=ca n0 cf;refine⟨(show 2<=PySem.sizeLine by decide),λlq dp=>?_⟩;obtain⟨H8,zq,s8,h8⟩:=uG (o:=.lst [.ref qm,.ref q]) dp;rw[zq];have cj:RowAt (FrIs a) H8 [.ref qm,.ref q] [m,x]:=RowAt.snoc (RowAt.snoc RowAt.nil ⟨qm,rfl,fm.mono (s6.trans (s7.trans s8))⟩) ⟨q,rfl,fx.mono s8⟩;refine⟨lq,_,[m,x],rfl,SqL.of h8,cj,by simp,λz hz=>?_,λX B ag hm all=>?_⟩
  ·simp only[lN,lR,or_false]at hz;rcases hz with rfl|rfl
   ·exact co.1.s9
   ·rw[<-bn];exact(hA y0 bt).2.1.s9
  have a2:B<=x:=all x (by simp);have a3:B=m∨B=x:=by simpa using hm
  refine⟨X,B,rfl,s6.trans (s7.trans s8),ag,all m (by simp),λy J=>nG a2 (cl _ ((iu _).mpr (k8.mpr ⟨y,J,rfl⟩))),a3.imp id λz=>⟨y0,bt,by rw[z,<-bn]⟩⟩
 rintro zU dn σ' H8⟨X,B,rfl,bc,ag,a1,a2,a3⟩;have dv:∀d∈path,A d.nm/sA 1 path d.nm*sA 1 path d.nm=A d.nm:=λd hd=>mO (by have:=uP d hd;grind)
 have ao:B=r1∨B=r2/aL path∨∃d∈path,B=A d.nm/sA 1 path d.nm:=by
  rcases a3 with z|z
  ·rw[z];exact m3.elim .inl λz=>.inr (.inl z)
  ·exact .inr (.inr z)
 have ac:PB path B:=by
  rcases ao with rfl|rfl|⟨y,J,rfl⟩
  ·exact b1
  ·exact b3
  ·exact(hA y J).2
 have cu:0<B:=by
  rcases ao with rfl|rfl|⟨y,J,rfl⟩
  ·exact p1
  ·rw[mi];exact fO p2 (ii gp)
  ·rw[mi];exact fO (by have:=(hA y J).1;have:=(bA y.nm).1;grind) (ii (uP y J))
 have bq:∀d∈path,sA B path d.nm<=A d.nm:=λy J=>by
  have h2:=l6 (a2 y J) (lT (uP y J));rw[dv y J]at h2;rw[eZ];exact h2
 have gd:r2/aL path*aL path=r2:=mO (by grind)
 have dg:B=r1∨B*aL path=r2∨∃d∈path,sA B path d.nm=A d.nm:=by
  rcases ao with z|z|⟨y,J,z⟩
  ·exact .inl z
  ·exact .inr (.inl (by rw[z];exact gd))
  ·exact .inr (.inr ⟨y,J,by rw[eZ,z];exact dv y J⟩)
 have cs:B<=r1:=nG a1 m1
 have cr:B*aL path<=r2:=by
  have:=l6 (nG a1 m2) (lT gp)
  rw[gd]at this;exact this
 have af:=bm.trans bc;have c7:=bx.trans bc;have D8:=D.mono af;subst dn;refine⟨_,rfl,t,_,dx,_,_,rfl,af _ _ ho,T.cl_Taking,T.na_Taking_rest,fsT_d _ _ _ _ _,_,rfl,_,rfl,d,r,X,A,sA 1 path,24,6,B,rfl,D8.pl,pr.mono c7,by decide,by decide,ag,ac.1.mono (by decide),λn=>⟨(bA n).2.mono (by decide),(bU n).mono (by decide),(ac.2.1 n).mono (by decide)⟩,λr' H9 cm s9 b7=>?_⟩;have ab:=af.trans s9;have a5:=ab _ _ ho
 have ef:(λn=>A n-B*sA 1 path n)=mns A path B:=funext λn=>by
  unfold mns;rw[<-eZ]
 rw[ef]at b7
 have b5:PlanA a H9 r' (mns A path B) 24:=by
  obtain⟨da,dy,c5,ds,bo,_,cd⟩:=b7;refine⟨da,dy,c5,ds,bo,?_,cd⟩
  have:=dS bo (ys:=ns.map (·.nm)) λn hn=>?_
  ·rw[kX]at this
   lia
  ·have:=(cd n).mp hn
   by_cases c:n∈path.map (·.nm)
   ·obtain⟨y,J,rfl⟩:=k8.mp c;exact k8.mpr ⟨y,R y J,rfl⟩
   ·refine sub n λz=>this ?_;unfold mns;rw[iN c,z];decide+kernel
 have bf:=(D.mono ab).setd a5 ((D.sm.trans af).free cm) b5;have kp:Mv [ls,lo,li] H9 (upd H9 t (.ins a.Taking dx (fsT p r' ls lo li))):=.put a5 j6;have M:=kp.fr (D.mono ab).ls3 (ag.mono s9);have aw:=kp.fr (D.mono ab).ls3 (fg.mono (aj.trans (bc.trans s9)));have as:=kp _ _ (ab _ _ hl) an Plain.lst;refine⟨_,rfl,t,a.Taking,dx,_,rfl,a5,T.cl_Taking,T.na_Taking_rest,by show 5<1000;decide,?_⟩;rw[fsT_put];generalize upd H9 t (.ins a.Taking dx (fsT p r' ls lo li))=ed at bf kp M aw as⊢;obtain⟨ah,b6,q1,ap,_,_,b4⟩:=bf.eS hi hx;refine⟨_,rfl,e,_,ah,_,_,rfl,ap,T.cl_End,T.na_End_rest,fsE_q _ _ _,q1,r1,rfl,b4,_,rfl,q1,X,_,_,rfl,b4,M,b1.1.s9,ac.1.s9,True.intro,λqn a7 d7 N fn=>?_⟩;have a0:=bf.mono N;have bb:=a0.setS hi hx (N _ _ ap) fn;have ai:Mv [ls,lo,li] a7 (upd a7 e (.ins a.End ah (fsE k1.1 b6 qn))):=.put (N _ _ ap) gU;have L:=ai.fr a0.ls3 (M.mono N);have ay:=ai.fr a0.ls3 (aw.mono N);have az:=ai _ _ (N _ _ as) an Plain.lst;refine⟨_,rfl,e,a.End,ah,_,rfl,N _ _ ap,T.cl_End,T.na_End_rest,by show 3<1000;decide,?_⟩;rw[fsE_put];generalize upd a7 e (.ins a.End ah (fsE k1.1 b6 qn))=d9 at bb ai L ay az⊢;obtain⟨aq,bl,q2,al,_,_,bp⟩:=bb.eK hj J;refine⟨_,rfl,f,_,aq,_,_,rfl,al,T.cl_End,T.na_End_rest,fsE_q _ _ _,q2,r2,rfl,bp,_,rfl,X,B,rfl,L,_,rfl,X,g,_,_,rfl,L,ay,ac.1.s9,S.g.s9,True.intro,λqt d4 ec ax ft=>?_⟩;refine⟨q2,qt,_,_,rfl,bp.mono ax,ft,b2.s9,ac.2.2.s9,True.intro,λqz a6 d8 di fz=>?_⟩;have aa:=ax.trans di;have b0:=bb.mono aa;have I:=b0.setK hj J (aa _ _ al) fz;have a8:Mv [ls,lo,li] a6 (upd a6 f (.ins a.End aq (fsE k2.1 bl qz))):=.put (aa _ _ al) gU;have ae:=a8.fr b0.ls3 (L.mono aa);have U:=a8 _ _ (aa _ _ az) an Plain.lst;refine⟨_,rfl,f,a.End,aq,_,rfl,aa _ _ al,T.cl_End,T.na_End_rest,by show 3<1000;decide,?_⟩;rw[fsE_put];generalize upd a6 f (.ins a.End aq (fsE k2.1 bl qz))=bu at I a8 ae U⊢;obtain⟨bz,br⟩:=I.ob;obtain⟨ts,au,bv⟩:=id I.st;refine⟨_,rfl,t,_,bz,_,_,rfl,br,T.cl_Taking,T.na_Taking_strands,fsT_s _ _ _ _ _,?_⟩;refine⟨.inl ⟨rfl,_,SqL.of au⟩,?_⟩;obtain⟨c3,c1,qE,dj,db,_,_⟩:=I.eS (s:=k1) (r:=r1-B) hi (List.getElem?_set_self (kY.mp hx).1);obtain⟨dd,cn,qF,ci,dl,_,_⟩:=I.eK (s:=k2) (r:=r2-B*aL path) hj (List.getElem?_set_self (kY.mp J).1);refine⟨_,rfl,e,_,c3,_,_,rfl,dj,T.cl_End,T.na_End_ring,fsE_r _ _ _,c1,_,rfl,.inl (SqL.of db),λl2 ad=>?_⟩;obtain⟨bj,zq,G,bg⟩:=uG (o:=.lst (nmV k1.2)) ad;rw[zq];refine⟨_,rfl,_,rfl,f,_,dd,_,_,rfl,G _ _ ci,T.cl_End,T.na_End_ring,fsE_r _ _ _,cn,_,rfl,.inl (SqL.of (G _ _ dl)),λl3 Z=>?_⟩;obtain⟨bh,zq,be,cb⟩:=uG (o:=.lst (nmV k2.2)) Z;rw[zq];refine⟨_,rfl,(show 4<=PySem.sizeLine by decide),λu nu=>?_⟩;obtain⟨d5,zq,su,hu⟩:=uG (o:=.tup [.ref l2,.ref l,.ref l3,.ref X]) nu;rw[zq];have Y:=G.trans (be.trans su)
 have n2:¬l2∈[ls,lo,li]:=λz=>by
  obtain⟨zs,e⟩:=I.ls3 _ z;rw[ad]at e
  cases e
 have n3:¬l3∈[ls,lo,li]:=λz=>by
  obtain⟨zs,e⟩:=(I.mono G).ls3 _ z;rw[Z]at e
  cases e
 have ea:ts.length<=100:=by rw[bv.1];exact ch
 have av:=Y _ _ au;have dc:=aN U ad;have cz:=aN (G _ _ U) Z;have ct:=aN bg Z
 have dq:=(I.mono Y).app av (s:=⟨k1.2,path,k2.2,B,[l2,l,l3]⟩) ⟨u,l2,l,l3,X,rfl,hu,be.trans su _ _ bg,Y _ _ U,su _ _ cb,n2,an,n3,ae.mono Y,rfl⟩ (by simp[dc.symm,cz,ct]) (λb hb=>by
  simp only[lN,lR,or_false]at hb;rcases hb with rfl|rfl|rfl
  ·exact⟨I.sm.free ad,I.ads ad⟩
  ·exact⟨cv,c4⟩
  ·exact⟨(I.mono G).sm.free Z,(I.mono G).ads Z⟩)
 exact⟨ls,_,_,rfl,rfl,av,aT (by lia),k _ r' B _ dq cu cs cr bq dg ao⟩
end
end G
namespace G
open PySem L2
section
structure RoadW(A:Str->Rat)(ns:List WD)(p:Str)(l:List WD)(q:Str):Prop where
 sub:∀x∈l,x∈ns/\A x.nm≠0
 path:PthW p l q
theorem RoadW.nil:RoadW A ns p [] p:=⟨λx h=>absurd h lR,rfl⟩
theorem RoadW.snoc(h:RoadW A ns p l q)(hx:x∈ns)(h0:A x.nm≠0)(e:x.st=q):RoadW A ns p (l++[x]) x.go:=⟨λy a=>by
 rcases lB.mp a with z|z
 ·exact h.sub y z
 ·rw[lv.mp z];exact⟨hx,h0⟩,h.path.snoc e⟩
theorem RoadW.on(h:RoadW A ns p l q)(nn:∀n,0<=A n)(ne:∀d∈ns,d.st≠d.go)(g1:∀d∈ns,0<aW d.kd d.x)(h1:l=[]->bK A ns q<0)(h2:bK A ns q<=0):∃d∈ns,d.st=q/\A d.nm≠0:=by
 refine goes_on nn ne g1 ?_
 cases e:l.getLast? with
 |none=>
  rw[List.getLast?_eq_none_iff]at e;exact .inl (h1 e)
 |some x=>
  have a:=h.sub x (List.mem_of_getLast? e);exact .inr ⟨h2,x,a.1,h.path.last x e,a.2⟩
theorem RoadW.places(h:RoadW A ns p l q)(ac:Acyc ws)(sub:∀d∈ns,A d.nm≠0->d∈ws):(p::l.map (·.go)).Nodup:=by
 obtain⟨rk,b⟩:=ac;exact(h.path.down λx a=>b x (sub x (h.sub x a).1 (h.sub x a).2)).2
theorem starts_of:∀{p q:Str},PthW p l q->∀x∈l,x.st∈p::l.map (·.go):=by
 induction l with
 |nil=>exactλ_ x a=>absurd a lR
 |cons y r ih=>
  intro p q h x a;rcases lN.mp a with rfl|z
  ·rw[h.1];exact lO
  ·exact lF _ (ih h.2 x z)
theorem RoadW.starts{ws:List WD}:∀{l:List WD}{p q:Str},PthW p l q->(p::l.map (·.go)).Nodup->(l.map (·.st)).Nodup
 |[],_,_,_,_=>nR
 |x::r,p,q,h,nd=>by
  obtain⟨b,a⟩:=mB.mp nd;refine mB.mpr ⟨λz=>b ?_,RoadW.starts (ws:=ws) h.2 a⟩;obtain⟨y,c,e⟩:=k8.mp z;have e:y.st=p:=e.trans h.1;rw[<-e];exact starts_of h.2 y c
end
end G
namespace G
open PySem L2
section
theorem nm_inj{ws:List WD}(nd:(ws.map (·.nm)).Nodup)(hx:x∈ws)(hy:y∈ws)(e:x.nm=y.nm):x=y:=by
 obtain⟨i,a⟩:=lV.mp hx;obtain⟨j,b⟩:=lV.mp hy;have g1:(ws.map (·.nm))[i]?=some y.nm:=by rw[lg,a,mV,e]
 have c:(ws.map (·.nm))[j]?=some y.nm:=by rw[lg,b];rfl
 have h:=(mS (by rw[kX];exact(kY.mp a).1) nd).mp (g1.trans c.symm);subst h;rw[a]at b;exact lY b
theorem wsOf_in(hin:∀n∈ks,n∈ns.map (·.nm))(h:x∈fK ns ks):x∈ns/\x.nm∈ks:=by
 obtain⟨n,a,rfl⟩:=k8.mp h;obtain⟨c,b⟩:=byN_in (hin n a);exact⟨c,by rw[b];exact a⟩
theorem in_wsOf(nd:(ns.map (·.nm)).Nodup)(h:x∈ns)(hk:x.nm∈ks):x∈fK ns ks:=by
 obtain⟨a,b⟩:=byN_in (k8.mpr ⟨x,h,rfl⟩);exact k8.mpr ⟨x.nm,hk,nm_inj nd a h b⟩
theorem RoadW.goal{ps:List (Str×Rat)}(h:RoadW A ns p l q)(io:∀d∈ns,d.st∈ps.map (·.1)/\d.go∈ps.map (·.1))(hp:p∈ps.map (·.1)):q∈ps.map (·.1):=by
 cases e:l.getLast? with
 |none=>
  rw[List.getLast?_eq_none_iff]at e;subst e
  have:p=q:=h.path
  rw[<-this];exact hp
 |some x=>
  rw[<-h.path.last x e];exact(io x (h.sub x (List.mem_of_getLast? e)).1).2
inductive IspRoad(a:Ad)(vs:List V)(H:Hp)(Q:VK):Prop
 |mk(H0:Hp)(t p d ls lo li e:Addr)(es fs:List Addr)(A:Str->Rat)(ss:List SD)(sr sk:List EN)(ps:List (Str×Rat))(ns ws:List WD)(i E:Nat)(k1:Str×List WD)(r1:Rat)(h1:vs=[.ref t,.ref e])(h2:TkAt a H0 H t p d ls lo li es fs A ss sr sk)(h3:NetAt a H0 p ps ns)(h4:(ns.map (·.nm)).Nodup)(h5:(∀d∈ns,GnE E d/\SmR d.x/\Bd 40 (aW d.kd d.x)))(h6:ns.length<=24)(h7:(∀d∈ns,d.st≠d.go))(h8:(∀d∈ns,d.st∈ps.map (·.1)/\d.go∈ps.map (·.1)))(h9:ps.length<=6)(h10:(∀n,0<=A n/\Bd 6650 (A n)))(h11:(∀n,A n≠0->n∈ns.map (·.nm)))(h12:ss.length<=100)(h13:Acyc ws)(h14:(∀d∈ns,A d.nm≠0->d∈ws))(h15:k1.1∈ps.map (·.1))(h16:es[i]?=some e)(h17:sr[i]?=some (k1,r1))(h18:0<r1)(h19:(∀x∈sr,0<=x.2))(h20:(∀x∈sk,0<=x.2/\Bd 6650 x.2))(h21:(∀path q,RoadW A ns k1.1 path q->(path.map (·.nm)).Nodup->path.length<ps.length->PB path r1/\(∀d∈path,PB path (A d.nm/sA 1 path d.nm))/\∀x∈sk,PB path (x.2/aL path)))(h22:(∀s∈ps.map (·.1),bK A ns s=gk sk s-gk sr s))(h23:∀H' d' x path j k2 r2 ad,TkAt a H0 H' t p d' ls lo li es fs (mns A path x) (ss++[⟨k1.2,path,k2.2,x,ad⟩]) (sr.set i (k1,r1-x)) (sk.set j (k2,r2-x*aL path))->sk[j]?=some (k2,r2)->RoadW A ns k1.1 path k2.1->0<x->x<=r1->x*aL path<=r2->(∀d∈path,sA x path d.nm<=A d.nm)->(x=r1∨x*aL path=r2∨∃d∈path,sA x path d.nm=A d.nm)->(x=r1∨x=r2/aL path∨∃d∈path,x=A d.nm/sA 1 path d.nm)->Q .non H'):IspRoad a vs H Q
noncomputable def spRoad(a:Ad):Sp:=λvs H Q _=>IspRoad a vs H Q
theorem jH(T:TX K mg a):MtB P w K mg base CX0 a.Taking "take_road" 11 ["self","source"] (spRoad a):=by
 refine T.m_Taking_take_road.okA sc_Taking_take_road λf b2 A bb s H vs Q E hr h=>?_;obtain⟨H0,t,p,d,ls,lo,li,e,es,fs,A,ss,sr,sk,ps,ns,ws,i,E',k1,r1,rfl,D,hn,ab,gn,ln,ne,io,lp,bA,sub,be,ac,am,ak,hi,J,p1,bs,bk,sz,ax,k⟩:=h
 refine⟨_,(aX (aH (i:=2) sc_Taking_take_road.nd (aO (jq T) hr aJ (aA (pe_thaw (gc (xs:=["name"]) (rest:=["self"]) rfl (iR (aZ (pv 0) rfl))
  (λag fp C' s' B=>(aR (i:=0) (show(["name","self"]:List Str).Nodup by decide+kernel))) (λag fp C' s' B=>eI)
  (λag fp C' s' B=>(pe_mtDK (CX:=CX0) (P:=P) (w:=w) (K:=K) (mg:=mg) (base:=base) rfl rfl rfl rfl rfl (jD (K:=K) rfl (pv 1) rfl) hr aJ (aA (pv 0) aB)))
  (Clos.many (ys:=["self"]) rfl ⟨rfl,True.intro⟩ rfl (by decide+kernel)) (Reads.many (ys:=["self"]) (js:=[0]) ⟨⟨rfl,rfl,rfl⟩,True.intro⟩))) aB)))
  (aD (aH (i:=3) sc_Taking_take_road.nd (bH aB))
  (aD (aH (i:=4) sc_Taking_take_road.nd (aZ (pv 1) rfl))
  (aX (iE lH (aS op_isN (eV (CX:=CX0) (pv 0) hr aJ (aA (pv 4) aB)) pe_non) (aD (bY (kF mT m9 nc eN (pv 3) (aA (aZ (cE (bI hr) (pv 2) (pv 4) (λ_ _=>rfl)) rfl) aB)))
  (aF (aH (i:=4) sc_Taking_take_road.nd (aZ (cE (bI hr) (pv 2) (pv 4) (λ_ _=>rfl)) rfl)))))
  (aF (bY (eV (CX:=CX0) (pv 0) hr aJ (aA (pv 1) (aA (pv 3) (aA (eV (CX:=CX0) (pv 0) hr aJ (aA (pv 4) aB)) aB)))))))))),?_⟩
 walk_at"q"
 generalize O:i9 _ _=k9
 revert k9
 refine gB λk9 O=>?_;obtain⟨dx,ho⟩:=D.ob;obtain⟨kvs,N,hd,tb,bg,b0,ik⟩:=id D.pl;have a4:∀n∈N,n∈ns.map (·.nm):=λn hn=>sub n ((ik n).mp hn);have off:NetOff a H p d ps ns:=⟨H0,hn,D.sm,D.nd⟩;subst O;refine dA (λσ' B=>yE2 λon X=>σ'=[some (.ref t),some (.ref e),some (.ref on),none,none]×' Same H B×' B on=some (.dK X)×' Tab (WayIs a) B X (cC ((fK ns N).map (·.st))) (fOn (fK ns N))) ?_ ?_
 ·refine⟨d,.dK kvs,hd,(by intro o z e;cases e),_,rfl,t,_,dx,_,_,rfl,ho,T.cl_Taking,T.na_Taking_rest,fsT_d _ _ _ _ _,d,kvs,rfl,hd,λo l U=>?_⟩;have Y:d≠l:=λz=>by rw[z,aE]at U;cases U
  have ao:H l=none:=by rw[aG Y.symm]at U;exact U
  have bt :=bB ho hd (by intro z;cases z)
  refine compG_dict (a:=d) (o:=o) (kvs:=kvs) (λi S=>i<=N.length×' S d=some (.frz o (.dK kvs))×'(∀b R,H b=some R->b≠d->S b=some R)×'∃ts,S l=some (.lst ts)/\RowAt (WayIs a) S ts (fK ns (N.take i)))
   ⟨lD _,by rw[aG Y,aE],(λb R e ne=>by rw[aG (aN e ao),aG ne];exact e),[],aE,RowAt.nil⟩ ((by rintro i S⟨_,h,_⟩;exact h)) ?_ ?_
  ·rintro i X S a9⟨_,hf,k2,ts,G,hv⟩;obtain⟨n,en,e1,ev,_⟩:=tb.at_ bg a9;have hi:i<N.length:=(kY.mp en).1;have bv:kV X.1=.str n:=by rw[e1];rfl
   rw[bv];have ap:=(off.but k2).at_;obtain⟨bh,dw,dy,hp,_,_⟩:=id ap;have bp:=iV dw dy (m:="way") (by decide+kernel) (by decide+kernel);obtain⟨bj,ba⟩:=byN_in (a4 n (kZ en));refine g1 ⟨⟨[_],rfl,rfl⟩,yes ?_⟩;refine⟨_,rfl,t,_,dx,_,_,rfl,k2 _ _ ho bt,T.cl_Taking,T.na_Taking_on,fsT_on _ _ _ _ _,p,a.Net,bh,_,1,["self","name"],fW a,rfl,hp,bp,T.cl_Net,by decide,eX T,_,rfl,p,ps,ns,byN ns n,by rw[ba];rfl,ap,ab,bj,λv J=>?_⟩;have bz:ts.length=i:=by rw[hv.1];unfold fK;rw[kX,lI];lia
   refine⟨_,G,aT (by lia),fE (by rw[tb.len];exact hi) ⟨hi,by rw[aG Y];exact hf,(λb R e ne=>by rw[aG (aN e ao)];exact k2 _ _ e ne),_,aE,?_⟩⟩;unfold fK;rw[lE,en,lL,lj];exact RowAt.snoc (hv.mono λv x z=>z.lst G) (J.lst G)
  ·rintro S⟨_,hf,k2,ts,G,hv⟩;rw[tb.len,lA]at hv
   have sa:Same H (upd S d (.dK kvs)):=λb R e=>by
    by_cases hb:b=d
    ·subst hb;rw[aE,<-hd,e]
    ·rw[aG hb];exact k2 _ _ e hb
   have b1:(fK ns N).length=N.length:=by unfold fK;rw[kX]
   refine⟨o,hf,l,ts,fK ns N,rfl,SqL.of (show upd S d (.dK kvs) l=some (.lst ts) by rw[aG Y.symm];exact G),hv.mono λv x z=>z.keep λb C bw b5 _ e=>?_,by lia,λon Hb X bx sb al aj=>⟨on,X,rfl,sa.trans sb,al,aj⟩⟩;rw[aG λz=>by rw[z,hf]at e;cases e];exact e
 rintro zU an σ' H1⟨on,X,rfl,as,al,aj⟩;have D1:=D.mono as;obtain⟨rk,bn⟩:=id ac;have nn:∀n,0<=A n:=λn=>(bA n).1;have gg:∀d∈ns,0<aW d.kd d.x:=λd hd=>(gn d hd).1.ps;subst an;generalize O:i9 _ _=k9
 revert k9
 refine gB λk9 O=>?_;refine⟨by decide,λl U=>?_⟩;obtain⟨S,zq,ah,G⟩:=uG (o:=.lst []) U;rw[zq];have bo:=as.trans ah;have D2:=D.mono bo;obtain⟨bf,b4,qe,bl,_,_,_⟩:=D2.eS hi J;refine⟨_,rfl,e,_,bf,_,_,rfl,bl,T.cl_End,T.na_End_place,fsE_s _ _ _,?_⟩
 have bu:¬l∈[ls,lo,li]:=λz=>by
  obtain⟨zs,e⟩:=D1.ls3 _ z;rw[U]at e
  cases e
 subst O;refine dA (λσ' B=>yE5 λ(c:List WD)(q:Str)(f:Addr)(r:Rat)(j:Nat)=>σ'=[some (.ref t),some (.ref e),some (.ref on),some (.ref l),some (.str q)]×' Same H1 B×' B l=some (.lst (nmV c))×' RoadW A ns k1.1 c q×' fs[j]?=some f×'(∃rg,sk[j]?=some ((q,rg),r))×' 0<r) ?_ ?_
 ·refine⟨λm σ B=>yE2 λc q=>m=rk q×' σ=[some (.ref t),some (.ref e),some (.ref on),some (.ref l),some (.str q)]×' Same H1 B×' B l=some (.lst (nmV c))×' RoadW A ns k1.1 c q,⟨_,[],k1.1,rfl,rfl,ah,G,RoadW.nil⟩,?_⟩;rintro m σ H3⟨c,q,rfl,rfl,s3,L,I⟩;have D3:=D1.mono s3;obtain⟨Z,aa⟩:=D3.ob;refine⟨_,rfl,t,a.Taking,Z,_,2,["self","place"],spSink a,rfl,aa,j9 _ _ _ _ _ (by decide+kernel),T.cl_Taking,by decide,ia T,_,rfl,H0,t,p,d,ls,lo,li,es,fs,A,ss,sr,sk,q,rfl,D3,λj f rg r hj M hp=>?_,λno=>?_⟩
  ·exact⟨rfl,_,rfl,hE (lM λz=>by cases z) ⟨c,q,f,r,j,rfl,s3,L,I,hj,⟨rg,M⟩,hp⟩⟩
  refine⟨rfl,_,rfl,kP (lQ rfl) ?_⟩;have a0:=I.goal io ak
  have ay:gk sk q=0:=(iW (s:=q) λx J=>(bk x J).1).2.2 λx J e=>by
   have:=no x J e
   have:=(bk _ J).1
   grind
  have au:=iW (s:=q) bs
  have a2:bK A ns q<=0:=by
   rw[ax q a0,ay];grind
  have a5:c=[]->bK A ns q<0:=λz=>by
   subst z;have z:k1.1=q:=I.path;rw[ax q a0,ay]
   have:=au.2.1 (k1,r1) (kZ J) z
   grind
  obtain⟨d0,bc,br,bm⟩:=I.on nn ne gg a5 a2;have a6:q∈(fK ns N).map (·.st):=k8.mpr ⟨d0,in_wsOf ab bc ((ik _).mpr bm),br⟩;have a3:=fOn_at a6;obtain⟨v,ev,wi⟩:=(aj.mono λv x z=>z.mono s3).vals q (mem_keysOf.mpr a6);generalize fOn (fK ns N) q=x at a3 wi;obtain⟨xm,xs⟩:=onw_some a3;obtain⟨xn,xk⟩:=wsOf_in a4 xm;have xa:A x.nm≠0:=(ik _).mp xk;have bq:=I.snoc xn xa xs
  have lt:rk x.go<rk q:=by
   rw[<-xs];exact bn x (am x xn xa)
  have a7:c.length<=100:=by
   have:=dS (I.places ac am) (ys:=ps.map (·.1)) λy M=>by
    rcases lN.mp M with rfl|z
    ·exact ak
    ·obtain⟨w',ai,rfl⟩:=k8.mp z;exact(io w' (I.sub w' ai).1).2
   rw[mh,kX,kX]at this
   lia
  obtain⟨p1,vh,vc,qx,rfl,W,b3⟩:=id wi;obtain⟨a1,aw,ar,a8,_⟩:=id W.ob;have c1:=cS T x.kd;have ae:=s3 _ _ al;refine⟨λσ' B=>σ'=[some (.ref t),some (.ref e),some (.ref on),some (.ref l),some (.str x.go)]×' Same H1 B×' B l=some (.lst (nmV (c++[x]))),(by rintro σ' B⟨e1,e2,e3⟩;exact⟨rk x.go,lt,c++[x],x.go,rfl,e1,e2,e3,bq⟩),?_⟩;refine⟨_,rfl,.inl ⟨rfl,_,SqL.of L⟩,?_⟩;refine⟨_,rfl,_,rfl,on,.ref p1,rfl,.inl ⟨X,Sum.inr q,.inl ae,rfl,ev.symm⟩,p1,_,a1,aw,_,rfl,ar,c1.cl,c1.n1,a8.nm,?_⟩;refine⟨l,_,_,rfl,rfl,L,aT (by unfold nmV;rw[kX];lia),?_⟩;have az:∀{b:Addr}{R:HO},H3 b=some R->(∀zs,R≠.lst zs)->upd H3 l (.lst (nmV c++[.str x.nm])) b=some R:=λ{b}{R}z nz=>by rw[aG (bB z L (nz _))];exact z
  refine⟨_,rfl,_,rfl,on,.ref p1,rfl,.inl ⟨X,Sum.inr q,.inl (az ae λzs z=>by cases z),rfl,ev.symm⟩,p1,_,a1,aw,_,rfl,az ar (λzs z=>by cases z),c1.cl,c1.n3,a8.go,rfl,aY U s3,?_⟩;rw[aE];unfold nmV;rw[lj];rfl
 rintro zU an σ' H3⟨c,q,f,r,j,rfl,s3,L,I,hj,⟨rg,M⟩,hp⟩;have D3:=D1.mono s3;obtain⟨Z,aa⟩:=D3.ob;subst an;refine⟨_,rfl,t,a.Taking,Z,_,10,["self","source","path","sink"],spTakeP a,rfl,aa,j9 _ _ _ _ _ (by decide+kernel),T.cl_Taking,by decide,jJ T,_,rfl,_,rfl,?_⟩;refine⟨_,rfl,t,a.Taking,Z,_,2,["self","place"],spSink a,rfl,aa,j9 _ _ _ _ _ (by decide+kernel),T.cl_Taking,by decide,ia T,_,rfl,H0,t,p,d,ls,lo,li,es,fs,A,ss,sr,sk,q,rfl,D3,λj f rg r hj M hp=>?_,λno=>absurd hp (no _ (kZ M) rfl)⟩;have aq:=I.places ac am
 have a7:c.length<ps.length:=by
  have:=dS aq (ys:=ps.map (·.1)) λy M=>by
   rcases lN.mp M with rfl|z
   ·exact ak
   ·obtain⟨w',ai,rfl⟩:=k8.mp z;exact(io w' (I.sub w' ai).1).2
  rw[mh,kX,kX]at this
  lia
 have af:∀x∈c,x∈ns:=λx J=>(I.sub x J).1;have av:=bL ab af (RoadW.starts (ws:=ns) I.path aq);obtain⟨z1,z2,z3⟩:=sz c q I av a7;exact⟨H0,t,p,d,ls,lo,li,l,e,f,es,fs,A,ss,sr,sk,ps,ns,c,i,j,E',k1,(q,rg),r1,r,rfl,D3,hn,ab,gn,ln,L,bu,D1.sm.free U,D1.ads U,af,av,I.path.chain,by lia,λx J=>⟨(I.sub x J).2,z2 x J⟩,bA,sub,be,hi,J,hj,M,p1,hp,z1,(bk _ (kZ M)).2,z3 _ (kZ M),λB d' x ad D' x0 x1 x2 x3 x4 x5=>k B d' x c j (q,rg) r ad D' M I x0 x1 x2 x3 x4 x5⟩
end
end G
namespace G
open PySem L2
section
theorem ffO:ff x y≠(("on":Str),v)::r:=λz=>absurd (mj (λl=>(l.map Prod.fst)[0]?) z) (by show¬some ("top":Str)=some ("on":Str);decide+kernel)
theorem PlanA.upT (h:PlanA a H d A m) (ht:H t=some (.ins C dx ((("on":Str),v)::r))):PlanA a (upd H t o) d A m:=by
 obtain ⟨b,p,c,l,j⟩:=h;refine ⟨b,p,by rw [aG (bB c ht (by intro z;cases z))];exact c,l.mono λ v x⟨q,e,i,f⟩=>⟨q,e,i,?_⟩,j⟩;rw [aG (bB f ht λ z=>by injection z with _ _ z;exact ffO z)];exact f
noncomputable def g7(F:Str->Rat)(l:List Str):List EN:=(l.filter λs=>decide (F s<0)).map λs=>((s,[]),-F s)
noncomputable def g9(F:Str->Rat)(l:List Str):List EN:=(l.filter λs=>decide (0<F s)).map λs=>((s,[]),F s)
theorem srcs_snoc(F:Str->Rat)(l:List Str)(s:Str):g7 F (l++[s])=g7 F l++(if F s<0 then[((s,[]),-F s)]else[]):=by
 unfold g7;rw[og,lj];by_cases h:F s<0
 ·rw[if_pos h,nJ (by exact lQ h)];rfl
 ·rw[if_neg h,nK (by simpa using h)];rfl
theorem snks_snoc(F:Str->Rat)(l:List Str)(s:Str):g9 F (l++[s])=g9 F l++(if 0<F s then[((s,[]),F s)]else[]):=by
 unfold g9;rw[og,lj];by_cases h:0<F s
 ·rw[if_pos h,nJ (by exact lQ h)];rfl
 ·rw[if_neg h,nK (by simpa using h)];rfl
theorem srcs_le(F:Str->Rat)(l:List Str):(g7 F l).length<=l.length:=by
 unfold g7;rw[kX];exact nh _ _
theorem snks_le(F:Str->Rat)(l:List Str):(g9 F l).length<=l.length:=by
 unfold g9;rw[kX];exact nh _ _
inductive IspTakI(a:Ad)(vs:List V)(H:Hp)(Q:VK):Prop
 |mk(H0:Hp)(t dx p d:Addr)(ps:List (Str×Rat))(ns:List WD)(kvs:List (Key×V))(ks:List Str)(f:Str->Rat)(h1:vs=[.ref t,.ref p,.ref d])(h2:H t=some (.ins a.Taking dx []))(h3:Same H0 H)(h4:H0 t=none)(h5:NetOff a H0 p d ps ns)(h6:(ns.map (·.nm)).Nodup)(h7:H0 d=some (.dK kvs))(h8:Tab (FrIs a) H0 kvs ks f)(h9:ks.Nodup)(h10:ks.length<=24)(h11:(∀n∈ks,n∈ns.map (·.nm)))(h12:SumOk (bM ks f) ps ns)(h13:ps.length<=12)(h14:∀H' d' ls lo li es fs,TkAt a H0 H' t p d' ls lo li es fs (bM ks f) [] (g7 (bK (bM ks f) ns) (ps.map (·.1))) (g9 (bK (bM ks f) ns) (ps.map (·.1)))->Q .non H'):IspTakI a vs H Q
noncomputable def spTakI(a:Ad):Sp:=λvs H Q _=>IspTakI a vs H Q
theorem mk_Taking(T:TX K mg a):MkB P w K mg base CX0 a.Taking 11 ["self","net","plan"] [] (spTakI a):=by
 refine T.i_Taking.okA sc_Taking_init (λf bl A a6 s H vs Q E hr h=>?_) (λvs H Q E h=>?_) _ (by simp)
 rotate_left
 ·obtain⟨_,_,_,_,_,_,_,_,_,_,rfl,_⟩:=h;rfl
 ·obtain⟨L,t,y,p,d,M,ns,kvs,ks,f,rfl,ht,sm,nt,off,a8,hd,tb,ac,a7,bf,ok,bj,k⟩:=h
  refine⟨_,(aD (cT (pv 0) (pv 1) rfl)
   (aD (cT (pv 0) (aO (dP T) hr aJ (aA (pv 2) aB)) rfl)
   (aD (cT (pv 0) (bH aB) rfl)
   (aD (cT (pv 0) (bH aB) rfl)
   (aD (cT (pv 0) (bH aB) rfl)
   (aF (bO lH rfl (fZ (aO (ok_sums T) hr aJ (aA (pv 1) (aA (pv 2) aB)))) (iS (n:=2) rfl (cF (aR (i:=3) sc_Taking_init.nd) (cF (aR (i:=4) sc_Taking_init.nd) fS))) (aF (bY (eV (CX:=CX0) (pv 0) hr aJ (aA (pv 3) (aA (bH aB) (aA (pv 4) aB))))))))))))),?_⟩
  walk_at"q"
  refine⟨_,rfl,_,rfl,t,a.Taking,y,[],rfl,ht,T.cl_Taking,T.na_Taking_on,by decide,?_⟩;have sm1:Same L (upd H t (.ins a.Taking y (cH "on" (.ref p) []))):=aY nt sm;have au:upd H t (.ins a.Taking y (cH "on" (.ref p) [])) t=some (.ins a.Taking y [(("on":Str),V.ref p)]):=aE;generalize upd H t (.ins a.Taking y (cH "on" (.ref p) []))=H1 at sm1 au⊢;refine⟨_,rfl,d,kvs,ks,f,rfl,sm1 _ _ hd,tb.mono (λv x z=>z.mono sm1),ac,by lia,λj I bg bc s2 ba a4=>?_⟩
  have a9:PlanA a I j (bM ks f) 24:=by
   refine⟨bg,_,ba,a4.congr' λn hn=>?_,kg ac,lC (kh _ _) a7,λn=>?_⟩
   ·unfold bM;rw[if_pos (mem_some0.mp hn).1]
   ·rw[mem_some0];unfold bM;by_cases h:n∈ks
    ·rw[if_pos h];exact⟨λz=>z.2,λz=>⟨h,z⟩⟩
    ·rw[if_neg h];exact⟨λz=>absurd z.1 h,λz=>absurd rfl z⟩
  have bb:=sm1.trans s2;have an:=s2 _ _ au;have be:L j=none:=sm1.free bc;refine⟨_,rfl,t,a.Taking,y,_,rfl,an,T.cl_Taking,T.na_Taking_rest,by show 1<1000;decide,?_⟩
  have e2:cH "rest" (.ref j) [(("on":Str),V.ref p)]=[(("on":Str),V.ref p),(("rest":Str),V.ref j)]:=by
   rw[dG (by decide+kernel)];rfl
  rw[e2];have ap:=a9.upT (o:=.ins a.Taking y [(("on":Str),V.ref p),(("rest":Str),V.ref j)]) an;have af:Same L (upd I t (.ins a.Taking y [(("on":Str),V.ref p),(("rest":Str),V.ref j)])):=aY nt bb;have ax:upd I t (.ins a.Taking y [(("on":Str),V.ref p),(("rest":Str),V.ref j)]) t=some (.ins a.Taking y [(("on":Str),V.ref p),(("rest":Str),V.ref j)]):=aE;generalize upd I t (.ins a.Taking y [(("on":Str),V.ref p),(("rest":Str),V.ref j)])=H3 at ap af ax⊢;refine⟨by decide,λm a2=>?_⟩;obtain⟨H4,zq,S,h4⟩:=uG (o:=.lst []) a2;rw[zq];have ab:=S _ _ ax;refine⟨_,rfl,t,a.Taking,y,_,rfl,ab,T.cl_Taking,T.na_Taking_strands,by show 2<1000;decide,?_⟩
  have e3:cH "strands" (.ref m) [(("on":Str),V.ref p),(("rest":Str),V.ref j)]=[(("on":Str),V.ref p),(("rest":Str),V.ref j),(("strands":Str),V.ref m)]:=by
   rw[dG (by decide+kernel),dG (by decide+kernel)];rfl
  rw[e3];have av:=(ap.mono S).upT (o:=.ins a.Taking y [(("on":Str),V.ref p),(("rest":Str),V.ref j),(("strands":Str),V.ref m)]) ab;have aa:Same L (upd H4 t (.ins a.Taking y [(("on":Str),V.ref p),(("rest":Str),V.ref j),(("strands":Str),V.ref m)])):=aY nt (af.trans S);have ar:upd H4 t (.ins a.Taking y [(("on":Str),V.ref p),(("rest":Str),V.ref j),(("strands":Str),V.ref m)]) t=some (.ins a.Taking y [(("on":Str),V.ref p),(("rest":Str),V.ref j),(("strands":Str),V.ref m)]):=aE
  have h5:upd H4 t (.ins a.Taking y [(("on":Str),V.ref p),(("rest":Str),V.ref j),(("strands":Str),V.ref m)]) m=some (.lst []):=by
   rw[aG (bB h4 ab (by intro z;cases z))];exact h4
  generalize upd H4 t (.ins a.Taking y [(("on":Str),V.ref p),(("rest":Str),V.ref j),(("strands":Str),V.ref m)])=H5 at av aa ar h5⊢;refine⟨by decide,λB ae=>?_⟩;obtain⟨H6,zq,s6,h6⟩:=uG (o:=.lst []) ae;rw[zq];have U:=s6 _ _ ar;refine⟨_,rfl,t,a.Taking,y,_,rfl,U,T.cl_Taking,T.na_Taking_sources,by show 3<1000;decide,?_⟩
  have e4:cH "sources" (.ref B) [(("on":Str),V.ref p),(("rest":Str),V.ref j),(("strands":Str),V.ref m)]=[(("on":Str),V.ref p),(("rest":Str),V.ref j),(("strands":Str),V.ref m),(("sources":Str),V.ref B)]:=by
   rw[dG (by decide+kernel),dG (by decide+kernel),dG (by decide+kernel)];rfl
  rw[e4];have a0:=(av.mono s6).upT (o:=.ins a.Taking y [(("on":Str),V.ref p),(("rest":Str),V.ref j),(("strands":Str),V.ref m),(("sources":Str),V.ref B)]) U;have ak:Same L (upd H6 t (.ins a.Taking y [(("on":Str),V.ref p),(("rest":Str),V.ref j),(("strands":Str),V.ref m),(("sources":Str),V.ref B)])):=aY nt (aa.trans s6);have aq:upd H6 t (.ins a.Taking y [(("on":Str),V.ref p),(("rest":Str),V.ref j),(("strands":Str),V.ref m),(("sources":Str),V.ref B)]) t=some (.ins a.Taking y [(("on":Str),V.ref p),(("rest":Str),V.ref j),(("strands":Str),V.ref m),(("sources":Str),V.ref B)]):=aE
  have h7:upd H6 t (.ins a.Taking y [(("on":Str),V.ref p),(("rest":Str),V.ref j),(("strands":Str),V.ref m),(("sources":Str),V.ref B)]) m=some (.lst []):=by
   rw[aG (bB (s6 _ _ h5) U (by intro z;cases z))];exact s6 _ _ h5
  have ai:upd H6 t (.ins a.Taking y [(("on":Str),V.ref p),(("rest":Str),V.ref j),(("strands":Str),V.ref m),(("sources":Str),V.ref B)]) B=some (.lst []):=by
   rw[aG (bB h6 U (by intro z;cases z))];exact h6
  generalize upd H6 t (.ins a.Taking y [(("on":Str),V.ref p),(("rest":Str),V.ref j),(("strands":Str),V.ref m),(("sources":Str),V.ref B)])=H7 at a0 ak aq h7 ai⊢;refine⟨by decide,λG O=>?_⟩;obtain⟨H8,zq,s8,h8⟩:=uG (o:=.lst []) O;rw[zq];have ah:=s8 _ _ aq;refine⟨_,rfl,t,a.Taking,y,_,rfl,ah,T.cl_Taking,T.na_Taking_sinks,by show 4<1000;decide,?_⟩
  have e5:cH "sinks" (.ref G) [(("on":Str),V.ref p),(("rest":Str),V.ref j),(("strands":Str),V.ref m),(("sources":Str),V.ref B)]=fsT p j m B G:=by
   rw[dG (by decide+kernel),dG (by decide+kernel),dG (by decide+kernel),dG (by decide+kernel)];rfl
  rw[e5];have ad:=(a0.mono s8).upT (o:=.ins a.Taking y (fsT p j m B G)) ah;have N:Same L (upd H8 t (.ins a.Taking y (fsT p j m B G))):=aY nt (ak.trans s8);have aj:upd H8 t (.ins a.Taking y (fsT p j m B G)) t=some (.ins a.Taking y (fsT p j m B G)):=aE
  have nl:∀{b:Addr}{zs:List V},H8 b=some (.lst zs)->upd H8 t (.ins a.Taking y (fsT p j m B G)) b=some (.lst zs):=λ{b}{zs}z=>by
   rw[aG (bB z ah (by intro z;cases z))];exact z
  have h9:=nl (s8 _ _ h7);have al:=nl (s8 _ _ ai);have ag:=nl h8;generalize upd H8 t (.ins a.Taking y (fsT p j m B G))=H9 at ad N aj h9 al ag⊢;have ao:L m=none:=af.free a2;have ay:L B=none:=aa.free ae;have aw:L G=none:=ak.free O;have D9:TkAt a L H9 t p j m B G [] [] (bM ks f) [] [] []:=⟨N,nt,ao,be,λe he=>(by cases he),nR,⟨y,aj⟩,ad,⟨[],h9,RowAt.nil⟩,al,ag,RowAt.nil,RowAt.nil,(aN h5 ae).symm,(aN h7 O).symm,aN ai O,ay,aw,nR,λl hl=>(by cases hl)⟩;refine⟨_,rfl,_,rfl,p,d,M,ns,kvs,ks,f,rfl,off.mono N,a8,N _ _ hd,tb.mono (λv x z=>z.mono N),ac,bf,ok,λr bn J nr am Z tr=>?_⟩;generalize hF:bK (bM ks f) ns=F at tr k
  have bF:∀s,SmR (F s):=λs=>by
   have:=ok.sf ns.length s
   rw[lA,hF]at this;exact this
  refine⟨r,J,rfl,Z,λo=>?_⟩
  refine gJ (a:=r) (o:=o) (kvs:=J) (λi σ I=>i<=M.length/\yE4 λz3 z4 R fs=>σ=[some (.ref t),some (.ref p),some (.ref d),z3,z4]×' I r=some (.frz o (.dK J))×' Tab (FrIs a) I J (M.map (·.1)) F×' TkAt a L I t p j m B G R fs (bM ks f) [] (g7 F ((M.map (·.1)).take i)) (g9 F ((M.map (·.1)).take i)))
   ⟨lD _,_,_,[],[],rfl,aE,?_,?_⟩ ((by rintro i σ I _⟨_,_,_,_,_,_,h,_⟩;exact h)) ?_ ?_
  ·exact tr.mono λv x⟨q,e,dq,g⟩=>⟨q,e,dq,by rw[aG (bB g Z (by intro z;cases z))];exact g⟩
  ·exact D9.mono (aY nr am)
  ·rintro i kv u σ I a5 nu⟨_,z3,z4,R,fs,rfl,hf,X,D⟩;obtain⟨n,e0,e1,ev,q,eq,fq⟩:=X.at_ ok.np a5
   have hi:i<M.length:=by
    have:=(kY.mp e0).1
    rw[kX]at this;exact this
   have bh:kV kv.1=.str n:=by rw[e1];rfl
   rw[bh,eq];obtain⟨H3,zq,s3,hu⟩:=uG (o:=.tup [.str n,.ref q]) nu;rw[zq];have D3:=D.mono s3;obtain⟨az,as⟩:=D3.ob;refine⟨u,[.str n,.ref q],rfl,SqT.of hu,rfl,.str n,[.ref q],rfl,⟨.ref q,[],rfl,⟨rfl,?_⟩⟩⟩;refine⟨_,rfl,t,a.Taking,az,_,7,["self","place","ring","come"],spAddE a,rfl,as,j9 _ _ _ _ _ (by decide+kernel),T.cl_Taking,by decide,ib T,_,rfl,by decide,λlr a3=>?_⟩;obtain⟨H4,zq,S,h4⟩:=uG (o:=.lst []) a3;rw[zq];have Y:=s3.trans S;have D4:=D3.mono S
   have a1:¬lr∈[m,B,G]:=λz=>by
    obtain⟨zs,e⟩:=D3.ls3 _ z;rw[a3]at e
    cases e
   have tk:(M.map (·.1)).take (i+1)=(M.map (·.1)).take i++[n]:=by rw[lE,e0];rfl
   have l1:R.length<=100:=by
    have h1:=D.ro.1;have h2:=srcs_le F ((M.map (·.1)).take i);rw[kX]at h1;rw[lI]at h2
    lia
   have l2:fs.length<=100:=by
    have h1:=D.ri.1;have h2:=snks_le F ((M.map (·.1)).take i);rw[kX]at h1;rw[lI]at h2
    lia
   have kT:∀{H':Hp}{l:Addr}{zs ys:List V},Same H4 H'->H' l=some (.lst zs)->upd H' l (.lst ys) r=some (.frz o (.dK J))/\Tab (FrIs a) (upd H' l (.lst ys)) J (M.map (·.1)) F:=λ{H' l zs ys}s' hl=>by
    have s':=Y.trans s';refine⟨by rw[aG (bB (s' _ _ hf) hl (by intro z;cases z))];exact s' _ _ hf,X.mono λv x zW=>?_⟩;obtain⟨q,e,dq,g⟩:=zW;refine⟨q,e,dq,?_⟩;rw[aG (bB (s' _ _ g) hl (by intro z;cases z))];exact s' _ _ g
   refine⟨_,rfl,t,az,p,j,m,B,G,lr,q,n,F n,_,_,rfl,S _ _ as,fq.mono Y,bF n,D4.so,D4.si,by rw[kX];exact l1,by rw[kX];exact l2,λc e H' ne=>?_,λc e H' ne=>?_,λc=>?_⟩
   ·obtain⟨k1,k2⟩:=kT (l:=B) (ys:=R.map .ref++[.ref e]) ne.2.1 (ne.2.1 _ _ D4.so);refine⟨hi,_,_,R++[e],fs,rfl,k1,k2,?_⟩;rw[tk,srcs_snoc,snks_snoc,if_pos c,if_neg (by grind),m6];exact D4.addS (rg:=[]) ne h4 a1
   ·obtain⟨k1,k2⟩:=kT (l:=G) (ys:=fs.map .ref++[.ref e]) ne.2.1 (ne.2.1 _ _ D4.si);refine⟨hi,_,_,R,fs++[e],rfl,k1,k2,?_⟩;rw[tk,srcs_snoc,snks_snoc,if_pos c,if_neg (by grind),m6];exact D4.addK (rg:=[]) ne h4 a1
   ·refine⟨hi,_,_,R,fs,rfl,Y _ _ hf,X.mono λv x z=>z.mono Y,?_⟩;rw[tk,srcs_snoc,snks_snoc,if_neg (by rw[c];decide+kernel),if_neg (by rw[c];decide+kernel),m6,m6];exact D4
  ·rintro σ I⟨_,z3,z4,R,fs,rfl,hf,X,D⟩;rw[tr.len,lA]at D;exact k I j m B G R fs D
end
end G
namespace G
open PySem L2
section
noncomputable def df(g:Rat):Rat:=if 1<g then g-1 else 1-g
theorem df_ps(h:g≠1):0<df g:=by
 unfold df
 split<;>grind
noncomputable def enA(l:List WD)(x:Rat)(n:Str):Rat:=if l=[]then 0 else x/df (aL l)*sA 1 l n
theorem enA_sub(l:List WD)(x y:Rat)(n:Str):enA l (x-y) n=enA l x n-enA l y n:=by
 unfold enA
 split
 ·grind
 ·rw[mi,mi,mi];grind
theorem enA_zero(l:List WD)(n:Str):enA l 0 n=0:=by
 unfold enA
 split
 ·rfl
 ·rw[mi];grind
noncomputable def enT(es:List EN)(n:Str):Rat:=es.foldr (λe r=>enA e.1.2 e.2 n+r) 0
theorem fG(e:EN)(es:List EN)(n:Str):enT (e::es) n=enA e.1.2 e.2 n+enT es n:=rfl
theorem enT_snoc(e:EN)(n:Str):∀es:List EN,enT (es++[e]) n=enT es n+enA e.1.2 e.2 n
 |[]=>by rw[List.nil_append,fG];show _+(0:Rat)=(0:Rat)+_;grind
 |d::r=>by rw[List.cons_append,fG,fG,enT_snoc e n r];grind
theorem enT_set:∀{es:List EN}{i:Nat},es[i]?=some (k,r)->enT (es.set i (k,r-x)) n=enT es n-enA k.2 x n
 |[],_,h=>by cases h
 |e::es,0,h=>by
  cases h;rw[List.set_cons_zero,fG,fG];show enA k.2 (r-x) n+enT es n=enA k.2 r n+enT es n-_;rw[enA_sub];grind
 |e::es,i+1,h=>by
  rw[List.set_cons_succ,fG,fG,enT_set (es:=es) (i:=i) (by simpa using h)];grind
theorem enT_none:∀{es:List EN},(∀e∈es,e.2=0)->enT es n=0
 |[],_=>rfl
 |e::es,h=>by
  rw[fG,h e lO,enA_zero,enT_none λy a=>h y (lF _ a),mU]
theorem enT_first:∀{es:List EN},(∀e∈es,e.1.2=[])->enT es n=0
 |[],_=>rfl
 |e::es,h=>by
  rw[fG,enT_first λy a=>h y (lF _ a)];unfold enA;rw[if_pos (h e lO),mU]
noncomputable def sdA(d:SD)(n:Str):Rat:=(if d.rg≠[]/\aL d.rg=1 then sA d.am d.rg n else enA d.rg d.am n)+sA d.am d.pa n+enA d.tl (d.am*aL d.pa) n
noncomputable def im(ss:List SD)(n:Str):Rat:=ss.foldl (λr d=>r+sdA d n) 0
theorem jA(ss:List SD)(d:SD)(n:Str):im (ss++[d]) n=im ss n+sdA d n:=by unfold im;rw[m7];rfl
structure NsOk(E:Nat)(ps:List (Str×Rat))(ns:List WD):Prop where
 np:(ps.map (·.1)).Nodup
 lp:ps.length<=4
 nd:(ns.map (·.nm)).Nodup
 ln:ns.length<=12
 e0:0<E
 eb:E<=2^28
 g1:∀d∈ns,GnE E d/\SmR d.x/\Bd 40 (aW d.kd d.x)
 ne:∀d∈ns,d.st≠d.go
 io:∀d∈ns,d.st∈ps.map (·.1)/\d.go∈ps.map (·.1)
structure RgM(ns:List WD)(m:Bool)(p:Str)(l:List WD):Prop where
 rg:RingW ns l
 pt:PthW p l p
 ln:l.length<=4
 gn:if m=true then 1<aL l else aL l<1
noncomputable def EndO(A0:Str->Rat)(ns:List WD)(m:Bool)(k:Str×List WD):Prop:=k.2=[]/\(if m=true then bK A0 ns k.1<0 else 0<bK A0 ns k.1)∨RgM ns m k.1 k.2
structure StOk(A0:Str->Rat)(ps:List (Str×Rat))(ns:List WD)(s:SD):Prop where
 am:0<s.am
 gq:∃D:Nat,0<D/\D<=2^5950/\Gq D s.am/\s.am<=((2^420:Nat):Rat)
 or:s.pa=[]/\s.tl=[]/\RingW ns s.rg/\s.rg.length<=4/\aL s.rg=1∨∃p q,PthW p s.pa q/\(p::s.pa.map (·.go)).Nodup/\(∀x∈s.pa,x∈ns)/\s.pa.length<=3/\EndO A0 ns true (p,s.rg)/\EndO A0 ns false (q,s.tl)
structure SzQ(D m:Nat)(x:Rat):Prop where
 nn:0<=x
 gq:Gq D x
 le:x<=((2^m:Nat):Rat)
structure TkI(A0:Str->Rat)(E D0:Nat)(ps:List (Str×Rat))(ns:List WD)(A:Str->Rat)(ss:List SD)(sr sk:List EN)(c:Nat):Prop where
 nn:∀n,SzQ (D0*E^(7*c)) 100 (A n)
 sub:∀n,A n≠0->n∈ns.map (·.nm)
 am:∀n,A0 n=A n+im ss n+enT sr n+enT sk n
 bal:∀s∈ps.map (·.1),bK A ns s=gk sk s-gk sr s
 bs:∀x∈sr,SzQ (D0*E^(7*c)) 300 x.2/\x.1.1∈ps.map (·.1)/\EndO A0 ns true x.1
 bk:∀x∈sk,SzQ (D0*E^(7*c)) 300 x.2/\x.1.1∈ps.map (·.1)/\EndO A0 ns false x.1
 ct:ss.length+nzc (λd:WD=>A d.nm) ns+nzc (·.2) sr+nzc (·.2) sk<=nzc (λd:WD=>A0 d.nm) ns+nzc (bK A0 ns) (ps.map (·.1))
 pot:c+2*nzc (λd:WD=>A d.nm) ns+nzc (·.2) sr+nzc (·.2) sk<=28
 each:∀s∈ss,StOk A0 ps ns s
 ln:sr.length+sk.length<=8+c
structure ApD(A0:Str->Rat)(ps:List (Str×Rat))(ns:List WD)(ss:List SD):Prop where
 am:∀n,A0 n=im ss n
 ct:ss.length<=nzc (λd:WD=>A0 d.nm) ns+nzc (bK A0 ns) (ps.map (·.1))
 each:∀s∈ss,StOk A0 ps ns s
theorem jE(p:α->Rat)(l:List α):nzc p l<=l.length:=nh _ _
theorem srcs_cons(F:Str->Rat)(x:Str)(l:List Str):g7 F (x::l)=(if F x<0 then[((x,[]),-F x)]else[])++g7 F l:=by
 unfold g7;by_cases h:F x<0
 ·rw[if_pos h,nJ (by exact lQ h)];rfl
 ·rw[if_neg h,nK (by simpa using h)];rfl
theorem snks_cons(F:Str->Rat)(x:Str)(l:List Str):g9 F (x::l)=(if 0<F x then[((x,[]),F x)]else[])++g9 F l:=by
 unfold g9;by_cases h:0<F x
 ·rw[if_pos h,nJ (by exact lQ h)];rfl
 ·rw[if_neg h,nK (by simpa using h)];rfl
theorem ends_first:∀{l:List Str},l.Nodup->(¬s∈l->gk (g7 F l) s=0/\gk (g9 F l) s=0)/\(s∈l->gk (g9 F l) s-gk (g7 F l) s=F s)
 |[],_=>⟨λ_=>⟨rfl,rfl⟩,λh=>absurd h lR⟩
 |x::l,nd=>by
  obtain⟨o,m⟩:=mB.mp nd;obtain⟨b,j⟩:=ends_first (F:=F) (s:=s) m
  have e:gk (g7 F (x::l)) s=(if x=s/\F x<0 then-F x else 0)+gk (g7 F l) s:=by
   rw[srcs_cons];by_cases c:F x<0
   ·rw[if_pos c];show(if x=s then-F x else 0)+gk (g7 F l) s=_;by_cases c2:x=s
    ·rw[if_pos c2,if_pos ⟨c2,c⟩]
    ·rw[if_neg c2,if_neg λz=>c2 z.1]
   ·rw[if_neg c,if_neg λz=>c z.2,List.nil_append];grind
  have i:gk (g9 F (x::l)) s=(if x=s/\0<F x then F x else 0)+gk (g9 F l) s:=by
   rw[snks_cons];by_cases c:0<F x
   ·rw[if_pos c];show(if x=s then F x else 0)+gk (g9 F l) s=_;by_cases c2:x=s
    ·rw[if_pos c2,if_pos ⟨c2,c⟩]
    ·rw[if_neg c2,if_neg λz=>c2 z.1]
   ·rw[if_neg c,if_neg λz=>c z.2,List.nil_append];grind
  rw[e,i];refine⟨λh=>?_,λh=>?_⟩
  ·obtain⟨g1,a⟩:=b λz=>h (lF _ z);have nx:¬x=s:=λz=>h (by rw[z];exact lO);rw[g1,a,if_neg λz=>nx z.1,if_neg λz=>nx z.1];exact⟨by grind,by grind⟩
  ·by_cases c:x=s
   ·subst c;obtain⟨g1,a⟩:=b o;rw[g1,a];by_cases c1:F x<0
    ·rw[if_neg (c:=x=x/\0<F x) λz=>absurd z.2 (by grind),if_pos ⟨rfl,c1⟩];grind
    ·rw[if_neg (c:=x=x/\F x<0) λz=>c1 z.2];by_cases c2:0<F x
     ·rw[if_pos ⟨rfl,c2⟩];grind
     ·rw[if_neg λz=>c2 z.2];grind
   ·rw[if_neg λz=>c z.1,if_neg λz=>c z.1]
    have:=j ((lN.mp h).resolve_left λz=>c z.symm)
    grind
theorem nzc_first(F:Str->Rat):∀l:List Str,nzc (·.2) (g7 F l)+nzc (·.2) (g9 F l)<=nzc F l
 |[]=>k5 _
 |x::l=>by
  have a:=nzc_first F l
  have b:nzc (·.2) (g7 F (x::l))<=(if F x<0 then 1 else 0)+nzc (·.2) (g7 F l):=by
   rw[srcs_cons];by_cases c:F x<0
   ·rw[if_pos c,if_pos c];show nzc (λx:EN=>x.2) ((((x,[]),-F x):EN)::g7 F l)<=_;rw[dC]
    split<;>omega
   ·rw[if_neg c,if_neg c,List.nil_append];omega
  have e:nzc (·.2) (g9 F (x::l))<=(if 0<F x then 1 else 0)+nzc (·.2) (g9 F l):=by
   rw[snks_cons];by_cases c:0<F x
   ·rw[if_pos c,if_pos c];show nzc (λx:EN=>x.2) ((((x,[]),F x):EN)::g9 F l)<=_;rw[dC]
    split<;>omega
   ·rw[if_neg c,if_neg c,List.nil_append];omega
  rw[dC]
  have:(if F x<0 then 1 else 0)+(if 0<F x then 1 else 0)<=(if F x=0 then 0 else 1):=by
   by_cases c1:F x<0
   ·rw[if_pos c1,if_neg (by grind),if_neg (by grind)];exact k5 _
   ·rw[if_neg c1];by_cases c2:0<F x
    ·rw[if_pos c2,if_neg (by grind)];exact k5 _
    ·rw[if_neg c2];omega
  omega
theorem gain_le{d:WD}(b:Bd B (aW d.kd d.x))(h:0<aW d.kd d.x):aW d.kd d.x<=((2^B:Nat):Rat)/\(aW d.kd d.x)⁻¹<=((2^B:Nat):Rat):=by
 have up:∀{x:Rat}{C:Nat},x.num.natAbs<=C->0<x->x<=(C:Rat):=λ{x C}b h=>by
  have e:x*(x.den:Rat)=(x.num:Rat):=by
   have c:=oe x;rw[mN]at c;have j:(0:Rat)<((x.den:Int):Rat):=by exact_mod_cast x.den_pos
   have a:∀n d y:Rat,0<d->n/d=y->y*d=n:=λn d y m e=>by rw[<-e];exact mO (by grind)
   exact a _ _ _ j c
  have i:(1:Rat)<=(x.den:Rat):=by exact_mod_cast x.den_pos
  have l:(x.num:Rat)<=(C:Rat):=by
   have:x.num<=(C:Int):=by lia
   exact_mod_cast this
  have:=nC i (lT h)
  grind
 exact⟨up b.1 h,up b.inv.1 (ii h)⟩
theorem going_le(hb:∀d∈l,0<aW d.kd d.x/\Bd B (aW d.kd d.x)):0<going 1 l/\going 1 l<=((2^(B*l.length):Nat):Rat)/\(going 1 l)⁻¹<=((2^(B*l.length):Nat):Rat):=by
 revert hb
 refine dR (P:=λl=>(∀d∈l,0<aW d.kd d.x/\Bd B (aW d.kd d.x))->0<going 1 l/\going 1 l<=((2^(B*l.length):Nat):Rat)/\(going 1 l)⁻¹<=((2^(B*l.length):Nat):Rat)) (λ_=>⟨by decide+kernel,by show(1:Rat)<=((2^(B*0):Nat):Rat);rw[Nat.mul_zero];decide+kernel,by show(1:Rat)⁻¹<=((2^(B*0):Nat):Rat);rw[Nat.mul_zero];decide+kernel⟩) (λa u r h=>?_) l;obtain⟨i,q,p⟩:=r λd j=>h d (lJ _ j);obtain⟨b,t⟩:=h u (by simp);obtain⟨w,s⟩:=gain_le t b
 have e:((2^(B*(a++[u]).length):Nat):Rat)=((2^(B*a.length):Nat):Rat)*((2^B:Nat):Rat):=by
  rw[lG,l9,Nat.mul_add,Nat.mul_one,mK,Rat.natCast_mul]
 have mm:∀{x y c d:Rat},0<x->0<y->x<=c->y<=d->x*y<=c*d:=λ{x y c d}E z m j=>nG (l6 m (lT z)) (nC j (by grind));rw[j7,e];refine⟨fO i b,mm i b q w,?_⟩
 have o:(going 1 a*aW u.kd u.x)⁻¹=(going 1 a)⁻¹*(aW u.kd u.x)⁻¹:=by
  have A:=md _ (show aW u.kd u.x≠0 by grind);have F:=md _ (show going 1 a*aW u.kd u.x≠0 by have:=fO i b;grind);grind
 rw[o];exact mm (ii i) (ii b) p s
theorem SzQ.mul(h:SzQ D m x)(k:SzQ E n y):SzQ (D*E) (m+n) (x*y):=by
 refine⟨fF h.nn k.nn,h.gq.mul k.gq,?_⟩;rw[mK,Rat.natCast_mul];exact nG (l6 h.le k.nn) (nC k.le (by have:=h.nn;have:=h.le;grind))
theorem SzQ.mono(h:SzQ D m x)(d:D∣E)(l:m<=n):SzQ E n x:=⟨h.nn,h.gq.mono d,nG h.le (by have:=l7 (show 0<2 by decide) l;exact_mod_cast this)⟩
theorem SzQ.up(h:SzQ (D*E^i) m x)(d:i<=j)(l:m<=n):SzQ (D*E^j) n x:=h.mono (nX _ (Nat.pow_dvd_pow E d)) l
theorem SzQ.zero:SzQ D m 0:=⟨nO,Gq.zero,by exact_mod_cast lD _⟩
theorem SzQ.bd(h:SzQ D m x)(d0:0<D)(dn:D<=2^n):Bd (m+n) x:=h.gq.bd h.nn h.le d0 dn
theorem iF(hg:∀d∈l,GnE E d/\SmR d.x/\Bd B (aW d.kd d.x))(hm:l.length<=m):SzQ (E^m) (B*m) (going 1 l)/\SzQ (E^m) (B*m) (going 1 l)⁻¹:=by
 obtain⟨b,h,c⟩:=ju λd a=>(hg d a).1;obtain⟨_,e,i⟩:=going_le λd a=>⟨(hg d a).1.ps,(hg d a).2.2⟩;have le:((2^(B*l.length):Nat):Rat)<=((2^(B*m):Nat):Rat):=by have:=l7 (show 0<2 by decide) (show B*l.length<=B*m from Nat.mul_le_mul_left _ hm);exact_mod_cast this
 exact⟨⟨lT b,h.up hm,nG e le⟩,⟨lT (ii b),c.up hm,nG i le⟩⟩
theorem sA_sz(nd:(l.map (·.nm)).Nodup)(hg:∀d∈l,GnE E d/\SmR d.x/\Bd B (aW d.kd d.x))(hm:l.length<=m+1):(∀n,SzQ (E^m) (B*m) (sA 1 l n))/\∀d∈l,SzQ (E^m) (B*m) (sA 1 l d.nm)⁻¹:=by
 have b:∀d∈l,SzQ (E^m) (B*m) (sA 1 l d.nm)/\SzQ (E^m) (B*m) (sA 1 l d.nm)⁻¹:=λd a=>by
  obtain⟨i,h,e⟩:=sA_pre nd a;rw[e];exact iF (λd a=>hg d (List.mem_of_mem_take a)) (by rw[lI];lia)
 refine⟨λn=>?_,λd a=>(b d a).2⟩;by_cases c:n∈l.map (·.nm)
 ·obtain⟨d,a,rfl⟩:=k8.mp c;exact(b d a).1
 ·rw[iN c];exact SzQ.zero
theorem dk_le(e0:0<E)(eb:E<=2^28)(d0:0<D0)(db:D0<=2^250)(hc:c<=28)(hj:j<=7):0<D0*E^(7*c+j)/\D0*E^(7*c+j)<=2^5950:=by
 refine⟨Nat.mul_pos d0 (Nat.pow_pos e0),?_⟩;have a:E^(7*c+j)<=(2^28)^(7*c+j):=Nat.pow_le_pow_left eb _;rw[<-Nat.pow_mul]at a;have e:2^(28*(7*c+j))<=2^5700:=l7 (by decide) (by lia);have b:(2:Nat)^5950=2^250*2^5700:=by rw[<-mK]
 rw[b];exact mZ db (lC a e)
theorem SzQ.mulE(h:SzQ (D*E^i) m x)(k:SzQ (E^j) n y):SzQ (D*E^(i+j)) (m+n) (x*y):=by
 have:=h.mul k
 rw[Nat.mul_assoc,<-mK]at this;exact this
theorem SzQ.less(h:SzQ D m x)(k:Gq D y)(y0:0<=y)(l:y<=x):SzQ D m (x-y):=⟨by grind,h.gq.sub k,by have:=h.le;grind⟩
theorem SzQ.bd2(h:SzQ D m x)(k:SzQ D m y)(d0:0<D)(dn:D<=2^n):Bd (m+n) (x-y):=by
 rcases Rat.le_total with l|l
 ·exact(h.less k.gq k.nn l).bd d0 dn
 ·rw[show x-y=-(y-x)by grind];exact((k.less h.gq h.nn l).bd d0 dn).neg
theorem sumF_sz(e0:0<E)(hA:∀n,SzQ D m (A n)):∀ns:List WD,(∀d∈ns,d.st≠d.go)->(∀d∈ns,GnE E d/\SmR d.x/\Bd 40 (aW d.kd d.x))->Gq (D*E) (bK A ns s)/\bK A ns s<=((ns.length*2^(m+40):Nat):Rat)/\-((ns.length*2^(m+40):Nat):Rat)<=bK A ns s:=by
 refine dR (λ_ _=>⟨Gq.zero,by rw[show(([]:List WD).length*2^(m+40):Nat)=0 from Nat.zero_mul _];exact nO,by rw[show(([]:List WD).length*2^(m+40):Nat)=0 from Nat.zero_mul _];show-(0:Rat)<=0;decide+kernel⟩) λl d r ne g1=>?_;have j:d∈l++[d]:=by simp
 obtain⟨p,y,w⟩:=r (λz h=>ne z (lJ _ h)) λz h=>g1 z (lJ _ h);obtain⟨c,_,t⟩:=g1 d j;have i:=hA d.nm;have o:SzQ E 40 (aW d.kd d.x):=⟨lT c.ps,c.g,(gain_le t c.ps).1⟩;have a:=i.mul o;have e:SzQ (D*E) (m+40) (A d.nm):=i.mono (Nat.dvd_mul_right _ _) (by lia)
 have b:Gq (D*E) (con d (A d.nm) s)/\con d (A d.nm) s<=((2^(m+40):Nat):Rat)/\-((2^(m+40):Nat):Rat)<=con d (A d.nm) s:=by
  have q:(0:Rat)<=((2^(m+40):Nat):Rat):=by exact_mod_cast lD _
  unfold con
  split
  ·have:=a.nn
   exact⟨a.gq,a.le,by grind⟩
  ·split
   ·have:=e.nn
    have:=e.le
    exact⟨e.gq.neg,by grind,by grind⟩
   ·exact⟨Gq.zero,q,by grind⟩
 rw[gH,fV (ne d j),lG,l9,Nat.add_mul,Nat.one_mul,Rat.natCast_add];exact⟨p.add b.1,by grind,by grind⟩
theorem jr(p:α->Rat)(x:α):∀l:List α,nzc p (l++[x])<=nzc p l+1
 |[]=>by rw[List.nil_append,dC];split<;>omega
 |y::l=>by
  have:=jr p x l
  rw[List.cons_append,dC,dC];omega
theorem TkI.first(O:NsOk E ps ns)(nn:∀n,SzQ D 100 (A0 n))(sub:∀n,A0 n≠0->n∈ns.map (·.nm)):TkI A0 E (D*E) ps ns A0 [] (g7 (bK A0 ns) (ps.map (·.1))) (g9 (bK A0 ns) (ps.map (·.1))) 0:=by
 have l:D*E*E^(7*0)=D*E:=by rw[Nat.mul_zero,Nat.pow_zero,Nat.mul_one]
 have o:=λs=>sumF_sz (s:=s) O.e0 nn ns O.ne O.g1
 have le:∀{x:Rat},x<=((ns.length*2^(100+40):Nat):Rat)->x<=((2^300:Nat):Rat):=λ{x}h=>by
  have r:=m8 (2^(100+40)) O.ln;have t:12*2^(100+40)<=2^300:=by decide+kernel
  exact nG h (Rat.natCast_le_natCast.mpr (lC r t))
 have y:=nzc_first (bK A0 ns) (ps.map (·.1));have p:=jE (bK A0 ns) (ps.map (·.1));have z:=jE (λd:WD=>A0 d.nm) ns;have B:=O.lp;have w:=O.ln;rw[kX]at p
 have e:∀x∈g7 (bK A0 ns) (ps.map (·.1)),x.1.2=[]:=λx c=>by
  obtain⟨s,_,rfl⟩:=k8.mp c;rfl
 have j:∀x∈g9 (bK A0 ns) (ps.map (·.1)),x.1.2=[]:=λx c=>by
  obtain⟨s,_,rfl⟩:=k8.mp c;rfl
 refine⟨λn=>by rw[l];exact(nn n).mono (Nat.dvd_mul_right _ _) (k5 _),sub,λn=>?_,λs b=>((ends_first O.np).2 b).symm,λx c=>?_,λx c=>?_,by rw[List.length_nil];lia,by lia,λs b=>absurd b lR,?_⟩
 ·rw[enT_first e,enT_first j];show A0 n=A0 n+0+0+0;grind
 ·obtain⟨s,b,rfl⟩:=k8.mp c;obtain⟨i,a⟩:=n8.mp b;have a:=of_decide_eq_true a;obtain⟨m,_,A⟩:=o s;rw[l];exact⟨⟨by grind,m.neg,le (by grind)⟩,i,.inl ⟨rfl,by rw[if_pos rfl];exact a⟩⟩
 ·obtain⟨s,b,rfl⟩:=k8.mp c;obtain⟨i,a⟩:=n8.mp b;have a:=of_decide_eq_true a;obtain⟨m,q,_⟩:=o s;rw[l];exact⟨⟨by grind,m,le q⟩,i,.inl ⟨rfl,by rw[if_neg (by decide)];exact a⟩⟩
 ·have i:=srcs_le (bK A0 ns) (ps.map (·.1));have a:=snks_le (bK A0 ns) (ps.map (·.1));rw[kX]at i a
  lia
theorem mns_le(nn:∀n,0<=A n)(hmin:∀d∈l,sA x l d.nm<=A d.nm)(x0:∀n,0<=sA x l n)(n:Str):0<=mns A l x n/\(mns A l x n≠0->A n≠0)/\sA x l n<=A n:=by
 have b:=nn n;have e:=x0 n;unfold mns;by_cases c:n∈l.map (·.nm)
 ·obtain⟨d,a,rfl⟩:=k8.mp c
  have:=hmin d a
  exact⟨by grind,λz q=>z (by grind),this⟩
 ·rw[iN c];exact⟨by grind,λz q=>z (by rw[q];grind),b⟩
section
variable{A0 A:Str->Rat}{E D0 c:Nat}{ps:List (Str×Rat)}{ns:List WD}{ss:List SD}{sr sk:List EN}
theorem TkI.cc(h:TkI A0 E D0 ps ns A ss sr sk c):c<=28:=by have:=h.pot;lia
theorem TkI.wk(h:TkI A0 E D0 ps ns A ss sr sk c)(O:NsOk E ps ns)(sub:∀d∈l,d∈ns)(nd:(l.map (·.nm)).Nodup)(ll:l.length<=4)(hd:d∈l):SzQ (D0*E^(7*c+3)) 220 (A d.nm/sA 1 l d.nm):=by
 have a:∀d∈l,GnE E d/\SmR d.x/\Bd 40 (aW d.kd d.x):=λd hd=>O.g1 d (sub d hd);rw[mi];exact(h.nn d.nm).mulE ((sA_sz nd a (by omega)).2 d hd)
theorem SzQ.sa(h:SzQ (D*E^i) m y)(O:NsOk E ps ns)(sub:∀d∈l,d∈ns)(nd:(l.map (·.nm)).Nodup)(ll:l.length<=4)(n:Str):SzQ (D*E^(i+3)) (m+120) (y*sA 1 l n):=h.mulE ((sA_sz nd (λd a=>O.g1 d (sub d a)) (by omega)).1 n)
theorem SzQ.gp(h:SzQ (D*E^i) m y)(O:NsOk E ps ns)(sub:∀d∈l,d∈ns)(ll:l.length<=j):SzQ (D*E^(i+j)) (m+40*j) (y*aL l):=h.mulE (iF (λd a=>O.g1 d (sub d a)) ll).1
theorem SzQ.b8(h:SzQ (D*E^i) m y)(O:NsOk E ps ns)(d0:0<D)(db:D<=2^250)(hi:i<=203)(hm:m<=700):Bd 6650 y:=by
 obtain⟨b,a⟩:=dk_le (c:=28) (j:=7) O.e0 O.eb d0 db (by decide) (by decide);exact((h.up hi (k5 _)).bd b a).mono (by lia)
theorem SzQ.g8(h:SzQ (D*E^i) m y)(O:NsOk E ps ns)(d0:0<D)(db:D<=2^250)(hi:i<=203)(hm:m<=420):∃D':Nat,0<D'/\D'<=2^5950/\Gq D' y/\y<=((2^420:Nat):Rat):=by
 obtain⟨b,a⟩:=dk_le (c:=28) (j:=7) O.e0 O.eb d0 db (by decide) (by decide);have z:=h.up hi hm;exact⟨_,b,a,z.gq,z.le⟩
theorem TkI.rbd(h:TkI A0 E D0 ps ns A ss sr sk c)(O:NsOk E ps ns)(d0:0<D0)(db:D0<=2^250)(rg:RingW ns l)(ll:l.length<=4)(hd:d∈l):RBd l (A d.nm/sA 1 l d.nm):=by
 have a:=bL O.nd rg.sub rg.nd;have y:=h.wk O rg.sub a ll hd;have i:=h.cc;refine⟨y.b8 O d0 db (by lia) (by decide),λn=>(y.sa O rg.sub a ll n).b8 O d0 db (by lia) (by decide),?_⟩;rw[show(1-aL l)*(A d.nm/sA 1 l d.nm)=A d.nm/sA 1 l d.nm-A d.nm/sA 1 l d.nm*aL l by grind];obtain⟨b,e⟩:=dk_le (c:=28) (j:=7) O.e0 O.eb d0 db (by decide) (by decide);exact((y.up (by lia) (by decide)).bd2 ((y.gp O rg.sub ll).up (j:=203) (n:=380) (by lia) (by decide)) b e).mono (by decide)
theorem sA_nn(O:NsOk E ps ns)(sub:∀d∈l,d∈ns)(nd:(l.map (·.nm)).Nodup)(x0:0<=x)(n:Str):0<=sA x l n:=by
 rw[eZ];exact fF x0 ((sA_sz (m:=l.length) nd (λd a=>O.g1 d (sub d a)) (by lia)).1 n).nn
theorem sA_one_head(nd:((d::r).map (·.nm)).Nodup):sA x (d::r) d.nm=x:=by
 rw[jC,if_pos rfl,iN (mB.mp nd).1,mU]
theorem TkI.ring(h:TkI A0 E D0 ps ns A ss sr sk c)(O:NsOk E ps ns)(d0:0<D0)(db:D0<=2^250){ring:List WD}(rg:RingW ns ring)(pth:PthW s0 ring s0)(lr:ring.length<=4)(x0:0<x)(hmin:∀d∈ring,sA x ring d.nm<=A d.nm)(hat:∃d∈ring,x=A d.nm/sA 1 ring d.nm/\sA x ring d.nm=A d.nm)(out:RgOut ring s0 x ss sr sk ss' sr' sk'):TkI A0 E D0 ps ns (mns A ring x) ss' sr' sk' (c+1)/\nzc (λd:WD=>mns A ring x d.nm) ns<nzc (λd:WD=>A d.nm) ns:=by
 have nn:∀n,0<=A n:=λn=>(h.nn n).nn;have a:=bL O.nd rg.sub rg.nd;have hc:=h.cc;obtain⟨b,w,ex,R⟩:=hat;have Q:=h.wk O rg.sub a lr w;rw[<-ex]at Q;have H:=sA_nn (x:=x) O rg.sub a (lT x0);have P:=mns_le nn hmin H;have uP:∀d∈ring,0<sA 1 ring d.nm:=λd M=>(sA_gq (E:=E) (m:=ring.length) a (λd M=>(O.g1 d (rg.sub d M)).1) (by lia) M).1
 have a0:A b.nm≠0:=by
  have:=fO x0 (uP b w)
  rw[<-eZ,R]at this;grind
 have gp:aL ring=going 1 ring:=rfl;have Y :=fh x ring;have K:∀s,bK (mns A ring x) ns s=bK A ns s-ij s0 s0 x (x*aL ring) s:=λs=>by rw[jB O.ne O.nd ring A s0 x pth rg.sub,Y]
 have lt:nzc (λd:WD=>mns A ring x d.nm) ns<nzc (λd:WD=>A d.nm) ns:=nzc_lt (λd _=>(P d.nm).2.1) ⟨b,rg.sub b w,a0,by unfold mns;rw[R];grind⟩;have up:∀{i m n:Nat}{y:Rat},SzQ (D0*E^(7*c+i)) m y->i<=7->m<=n->SzQ (D0*E^(7*(c+1))) n y:=λ{i m n y}q hi U=>q.up (by lia) U
 have J:SzQ (D0*E^(7*c+3)) 100 x:=by
  refine⟨lT x0,Q.gq,?_⟩
  obtain⟨p,r,F⟩:∃p r,ring=p::r:=by
   cases hr:ring with
   |nil=>exact absurd hr rg.ne
   |cons z zs=>exact⟨z,zs,rfl⟩
  have N:=hmin p (by rw[F];exact lO);rw[F]at N a;rw[sA_one_head a]at N;exact nG N (h.nn _).le
 have L:=J.gp (j:=4) O rg.sub lr
 have I:s0∈ps.map (·.1):=by
  obtain⟨p,r,F⟩:∃p r,ring=p::r:=by
   cases hr:ring with
   |nil=>exact absurd hr rg.ne
   |cons z zs=>exact⟨z,zs,rfl⟩
  rw[F]at pth;rw[<-pth.1];exact(O.io p (rg.sub p (by rw[F];exact lO))).1
 have B:∀n,SzQ (D0*E^(7*(c+1))) 100 (mns A ring x n):=λn=>by
  have Z:Gq (D0*E^(7*(c+1))) (sA x ring n):=by
   rw[eZ];exact(up (i:=6) (n:=340) (Q.sa O rg.sub a lr n) (by decide) (by decide)).gq
  exact(up (i:=0) (h.nn n) (by decide) (k5 _)).less Z (H n) (P n).2.2
 have bs:∀y∈sr,SzQ (D0*E^(7*(c+1))) 300 y.2/\y.1.1∈ps.map (·.1)/\EndO A0 ns true y.1:=λy o=>⟨up (i:=0) (h.bs y o).1 (by decide) (k5 _),(h.bs y o).2⟩;have bk:∀y∈sk,SzQ (D0*E^(7*(c+1))) 300 y.2/\y.1.1∈ps.map (·.1)/\EndO A0 ns false y.1:=λy o=>⟨up (i:=0) (h.bk y o).1 (by decide) (k5 _),(h.bk y o).2⟩;have l:∀n,mns A ring x n≠0->n∈ns.map (·.nm):=λn X=>h.sub n ((P n).2.1 X);have ct:=h.ct;have S:=h.pot;have ln:=h.ln
 have G:∀{y:Rat}{n:Str},aL ring≠1->y=df (aL ring)*x->enA ring y n=sA x ring n:=λ{y n}g1 e=>by
  have q:=df_ps g1;unfold enA;rw[if_neg rg.ne,eZ x,e,mi];grind
 rcases out with⟨g1,⟨ad,rfl⟩,rfl,rfl⟩|⟨g1,rfl,rfl,rfl⟩|⟨g1,rfl,rfl,rfl⟩
 ·refine⟨⟨B,l,λn=>?_,λs t=>?_,bs,bk,?_,by lia,λs t=>?_,by lia⟩,lt⟩
  ·rw[jA,h.am n];unfold sdA mns;rw[if_pos ⟨rg.ne,g1⟩,iO];unfold enA;rw[if_pos rfl];grind
  ·rw[K,h.bal s t,g1];unfold ij;grind
  ·rw[lG,l9]
   lia
  ·rcases lB.mp t with z|z
   ·exact h.each s z
   ·rw[lv.mp z];exact⟨x0,J.g8 O d0 db (by lia) (by decide),.inl ⟨rfl,rfl,rg,lr,g1⟩⟩
 ·have D:aL ring≠1:=λz=>by rw[z]at g1;exact absurd g1 (by decide+kernel)
  have T:=jr (λe:EN=>e.2) ((s0,ring),(aL ring-1)*x) sr;refine⟨⟨B,l,λn=>?_,λs t=>?_,λy o=>?_,bk,by lia,by lia,h.each,by rw[lG,l9];lia⟩,lt⟩
  ·rw[enT_snoc,h.am n];rw[G D (by unfold df;rw[if_pos g1])];unfold mns;grind
  ·rw[K,h.bal s t,endS_snoc];unfold ij;show _=_-(_+if s0=s then(aL ring-1)*x else 0);by_cases q:s=s0
   ·rw[if_pos q,if_pos q,if_pos q.symm];grind
   ·rw[if_neg q,if_neg q,if_neg λz=>q z.symm];grind
  ·rcases lB.mp o with z|z
   ·exact bs y z
   ·rw[lv.mp z];refine⟨?_,I,.inr ⟨rg,pth,lr,by rw[if_pos rfl];exact g1⟩⟩;show SzQ _ _ ((aL ring-1)*x);rw[show(aL ring-1)*x=x*aL ring-x by grind];have xx:=fF (lT x0) (show 0<=aL ring-1 by grind);exact(up (i:=7) L (k5 _) (by decide)).less (up (i:=3) (n:=100) J (by decide) (k5 _)).gq (lT x0) (by grind)
 ·have D:aL ring≠1:=λz=>by rw[z]at g1;exact absurd g1 (by decide+kernel)
  have T:=jr (λe:EN=>e.2) ((s0,ring),(1-aL ring)*x) sk;refine⟨⟨B,l,λn=>?_,λs t=>?_,bs,λy o=>?_,by lia,by lia,h.each,by rw[lG,l9];lia⟩,lt⟩
  ·rw[enT_snoc,h.am n];rw[G D (by unfold df;rw[if_neg (by grind)])];unfold mns;grind
  ·rw[K,h.bal s t,endS_snoc];unfold ij;show _=(_+if s0=s then(1-aL ring)*x else 0)-_;by_cases q:s=s0
   ·rw[if_pos q,if_pos q,if_pos q.symm];grind
   ·rw[if_neg q,if_neg q,if_neg λz=>q z.symm];grind
  ·rcases lB.mp o with z|z
   ·exact bk y z
   ·rw[lv.mp z];refine⟨?_,I,.inr ⟨rg,pth,lr,by rw[if_neg (by decide)];exact g1⟩⟩;show SzQ _ _ ((1-aL ring)*x);rw[show(1-aL ring)*x=x-x*aL ring by grind];have xx:=fF (lT x0) (show 0<=1-aL ring by grind);exact(up (i:=3) (n:=300) J (by decide) (by decide)).less (up (i:=7) L (k5 _) (show 100+40*4<=300 by decide)).gq L.nn (by grind)
theorem SzQ.pb(h:SzQ (D0*E^i) m y)(O:NsOk E ps ns)(d0:0<D0)(db:D0<=2^250)(sub:∀d∈path,d∈ns)(nd:(path.map (·.nm)).Nodup)(ll:path.length<=3)(hi:i+3<=203)(hm:m<=560):PB path y:=⟨h.b8 O d0 db (by lia) (by lia),λn=>(h.sa O sub nd (by lia) n).b8 O d0 db hi (by lia),(h.gp O sub ll).b8 O d0 db hi (by lia)⟩
theorem TkI.over(h:TkI A0 E D0 ps ns A ss sr sk c)(O:NsOk E ps ns)(sub:∀d∈path,d∈ns)(ll:path.length<=3)(hy:y∈sk):SzQ (D0*E^(7*c+3)) 420 (y.2/aL path):=by
 rw[mi];exact(h.bk y hy).1.mulE (iF (λd a=>O.g1 d (sub d a)) ll).2
theorem TkI.szP(h:TkI A0 E D0 ps ns A ss sr sk c)(O:NsOk E ps ns)(d0:0<D0)(db:D0<=2^250)(sub:∀d∈path,d∈ns)(nd:(path.map (·.nm)).Nodup)(ll:path.length<=3):(∀y∈sr,PB path y.2)/\(∀d∈path,PB path (A d.nm/sA 1 path d.nm))/\∀y∈sk,PB path (y.2/aL path):=by
 have e:=h.cc;exact⟨λy a=>(h.bs y a).1.pb O d0 db sub nd ll (by lia) (by decide),λd b=>(h.wk O sub nd (by lia) b).pb O d0 db sub nd ll (by lia) (by decide),λy a=>(h.over O sub ll a).pb O d0 db sub nd ll (by lia) (by decide)⟩
theorem TkI.road(h:TkI A0 E D0 ps ns A ss sr sk c)(O:NsOk E ps ns)(d0:0<D0)(db:D0<=2^250)(rd:RoadW A ns k1.1 path k2.1)(ndp:(k1.1::path.map (·.go)).Nodup)(lr:path.length<=3)(x0:0<x)(x1:x<=r1)(x2:x*aL path<=r2)(hmin:∀d∈path,sA x path d.nm<=A d.nm)(hat:x=r1∨x*aL path=r2∨∃d∈path,sA x path d.nm=A d.nm)(ham:x=r1∨x=r2/aL path∨∃d∈path,x=A d.nm/sA 1 path d.nm)(hi:sr[i]?=some (k1,r1))(hj:sk[j]?=some (k2,r2)):TkI A0 E D0 ps ns (mns A path x) (ss++[⟨k1.2,path,k2.2,x,ad⟩]) (sr.set i (k1,r1-x)) (sk.set j (k2,r2-x*aL path)) (c+1)/\nzc (λd:WD=>mns A path x d.nm) ns+nzc (·.2) (sr.set i (k1,r1-x))+nzc (·.2) (sk.set j (k2,r2-x*aL path))<nzc (λd:WD=>A d.nm) ns+nzc (·.2) sr+nzc (·.2) sk:=by
 have nn:∀n,0<=A n:=λn=>(h.nn n).nn;have a:∀x∈path,x∈ns:=λx I=>(rd.sub x I).1;have o:=bL O.nd a (RoadW.starts (ws:=ns) rd.path ndp);have b:=h.bs _ (kZ hi);have l:=h.bk _ (kZ hj);have Q:=h.cc;have r:=sA_nn (x:=x) O a o (lT x0);have t:=mns_le nn hmin r;have gp:0<aL path:=(ju (E:=E) λd p=>(O.g1 d (a d p)).1).1;have B:=fO x0 gp;have up:∀{i m n:Nat}{y:Rat},SzQ (D0*E^(7*c+i)) m y->i<=7->m<=n->SzQ (D0*E^(7*(c+1))) n y:=λ{i m n y}q hi J=>q.up (by lia) J
 have w:SzQ (D0*E^(7*c+3)) 420 x:=by
  rcases ham with e|e|⟨d,p,e⟩
  ·rw[e];exact b.1.up (by lia) (by decide)
  ·rw[e];exact h.over O a lr (kZ hj)
  ·rw[e];exact(h.wk O a o (by lia) p).up (k5 _) (by decide)
 have K:∀s,bK (mns A path x) ns s=bK A ns s-ij k1.1 k2.1 x (x*aL path) s:=λs=>by rw[jB O.ne O.nd path A k1.1 x rd.path a,fh]
 have le:nzc (λd:WD=>mns A path x d.nm) ns<=nzc (λd:WD=>A d.nm) ns:=nzc_le λd _=>(t d.nm).2.1;have N:=nzc_set (x:=x) hi (λe=>by rw[e]at x1;grind);have P:=nzc_set (x:=x*aL path) hj (λe=>by rw[e]at x2;grind)
 have lt:nzc (λd:WD=>mns A path x d.nm) ns+nzc (·.2) (sr.set i (k1,r1-x))+nzc (·.2) (sk.set j (k2,r2-x*aL path))<nzc (λd:WD=>A d.nm) ns+nzc (·.2) sr+nzc (·.2) sk:=by
  rcases hat with e|e|⟨d,p,e⟩
  ·rw[if_pos ⟨by rw[<-e];grind,e.symm⟩]at N
   lia
  ·rw[if_pos ⟨by rw[<-e];grind,e.symm⟩]at P
   lia
  ·have :=nzc_lt (λd _=>(t d.nm).2.1) ⟨d,a d p,(rd.sub d p).2,by unfold mns;rw[e];grind⟩
   lia
 have R:=h.ct;have H:=h.pot;refine⟨⟨λn=>?_,λn L=>h.sub n ((t n).2.1 L),λn=>?_,λs D=>?_,λy F=>?_,λy F=>?_,?_,by lia,λs D=>?_,by have:=h.ln;rw[List.length_set,List.length_set];lia⟩,lt⟩
 ·have M:Gq (D0*E^(7*(c+1))) (sA x path n):=by
   rw[eZ];exact(up (i:=6) (n:=540) (w.sa O a o (by lia) n) (by decide) (by decide)).gq
  exact(up (i:=0) (h.nn n) (by decide) (k5 _)).less M (r n) (t n).2.2
 ·rw[jA,enT_set hi,enT_set hj,h.am n]
  have G:(if k1.2≠[]/\aL k1.2=1 then sA x k1.2 n else enA k1.2 x n)=enA k1.2 x n:=if_neg λz=>by
   rcases b.2.2 with⟨q,_⟩|q
   ·exact z.1 q
   ·have q:=q.gn;rw[if_pos rfl]at q;have z:=z.2;have q:1<aL k1.2:=q;rw[z]at q;exact absurd q (by decide+kernel)
  unfold sdA mns;show _=A n-sA x path n+(im ss n+((if k1.2≠[]/\aL k1.2=1 then sA x k1.2 n else enA k1.2 x n)+sA x path n+enA k2.2 (x*aL path) n))+_+_;rw[G];grind
 ·rw[K,endS_set hi,endS_set hj,h.bal s D];unfold ij;grind
 ·rcases List.mem_or_eq_of_mem_set F with z|z
  ·exact⟨up (i:=0) (h.bs y z).1 (by decide) (k5 _),(h.bs y z).2⟩
  ·rw[z];exact⟨(up (i:=0) b.1 (by decide) (k5 _)).less (up (i:=3) (n:=420) w (by decide) (k5 _)).gq (lT x0) x1,b.2⟩
 ·rcases List.mem_or_eq_of_mem_set F with z|z
  ·exact⟨up (i:=0) (h.bk y z).1 (by decide) (k5 _),(h.bk y z).2⟩
  ·rw[z];exact⟨(up (i:=0) l.1 (by decide) (k5 _)).less (up (i:=6) (n:=540) (w.gp (j:=3) O a lr) (by decide) (by decide)).gq (lT B) x2,l.2⟩
 ·rw[lG,l9]
  lia
 ·rcases lB.mp D with z|z
  ·exact h.each s z
  ·rw[lv.mp z];exact⟨x0,w.g8 O d0 db (by lia) (by decide),.inr ⟨k1.1,k2.1,rd.path,ndp,a,lr,b.2.2,l.2.2⟩⟩
theorem TkI.done(h:TkI A0 E D0 ps ns A ss sr sk c)(O:NsOk E ps ns)(ac:Acyc ws)(acs:∀d∈ns,A d.nm≠0->d∈ws)(z:∀x∈sr,x.2=0):ApD A0 ps ns ss:=by
 have nn:∀n,0<=A n:=λn=>(h.nn n).nn;have l:∀d∈ns,0<aW d.kd d.x:=λd b=>(O.g1 d b).1.ps
 have e :=none_left nn O.ne ac acs λd b=>by
  rw[h.bal _ (O.io d b).1,(iW λx a=>(h.bs x a).1.nn).2.2 λx a _=>z x a]
  have:=(iW (s:=d.st) λx a=>(h.bk x a).1.nn).1
  grind
 have m:∀n,A n=0:=λn=>lZ λc=>by
  obtain⟨d,b,rfl⟩:=k8.mp (h.sub n c);exact c (e d b)
 have p:∀s,bK A ns s=0:=λs=>by
  have i:=(no_out nn ns O.ne l (s:=s) λd b _=>e d b).1;have o:=(no_in nn ns O.ne (s:=s) λd b _=>e d b).1;grind
 have j:∀x∈sk,x.2=0:=λx a=>by
  have i:=h.bal x.1.1 (h.bk x a).2.1;rw[p,(iW λx a=>(h.bs x a).1.nn).2.2 λx a _=>z x a]at i;have o:=(iW λx a=>(h.bk x a).1.nn).2.1 x a rfl;have q:=(h.bk x a).1.nn;grind
 refine⟨λn=>?_,?_,h.each⟩
 ·rw[h.am n,m n,enT_none z,enT_none j];grind
 ·have:=h.ct
  lia
end
noncomputable def RgAt(H0:Hp)(ls lo li:Addr)(ns:List WD)(A:Str->Rat)(ss:List SD)(H:Hp)(l:Addr):Prop:=(¬l∈[ls,lo,li]/\H0 l=none/\¬l∈ss.flatMap (·.ad))/\((∃ring s0,H l=some (.lst (nmV ring))/\RingW ns ring/\PthW s0 ring s0/\ring.length<=4/\∀d∈ring,A d.nm≠0)∨(H l=some (.lst [])/\∃ws,Acyc ws/\∀d∈ns,A d.nm≠0->d∈ws))
theorem ring_in_ok(D:TkAt a H0 H t p d ls lo li es fs A ss sr sk)(I:TkI A0 E' D0 ps ns A ss sr sk c)(O:NsOk E' ps ns)(hn:NetAt a H0 p ps ns)(k:∀l H',Same H H'->RgAt H0 ls lo li ns A ss H' l->Q (.ref l) H'):spRingIn a [.ref p,.ref d] H Q E:=by
 obtain⟨F,B,J,tb,o,G,q⟩:=id D.pl;have b:∀n∈B,n∈ns.map (·.nm):=λn hn=>I.sub n ((q n).mp hn)
 have m:∀l,H l=none->¬l∈[ls,lo,li]/\H0 l=none/\¬l∈ss.flatMap (·.ad):=λl i=>⟨λz=>(by
  obtain⟨P,e⟩:=D.ls3 _ z;rw[i]at e
  cases e),D.sm.free i,D.ads i⟩
 have r:∀{ring:List WD},RingW (fK ns B) ring->ring.length<=4:=λ{ring}h=>by
  have:=dS h.nd λy N=>by
   obtain⟨x,j,rfl⟩:=k8.mp N;exact(O.io x (wsOf_in b (h.sub x j)).1).1
  rw[kX,kX]at this
  have:=O.lp
  lia
 refine⟨p,d,ps,ns,F,B,A,rfl,⟨H0,hn,D.sm,D.nd⟩,O.nd,J,tb,o,b,G,λl H' ring i w s h=>(by obtain⟨M,pt⟩:=h.rd;exact k l H' w ⟨m l i,.inl ⟨ring,M,s,h.mono (λx j=>(wsOf_in b j).1),pt,r h,λx j=>(q _).mp (wsOf_in b (h.sub x j)).2⟩⟩),λl H' i w s L=>k l H' w ⟨m l i,.inr ⟨s,_,L,λx j K=>in_wsOf O.nd j ((q _).mpr K)⟩⟩⟩
theorem StIs.one(h:StIs a [ls,lo,li] H v s):StIs a [ls] H v s:=by
 obtain⟨u,t,y,c,q,z,m,w,p,b,i,e,r,x,j⟩:=h;have o:∀{l:Addr},¬l∈[ls,lo,li]->¬l∈[ls]:=λn z=>n (by rw[lv.mp z];exact lO);exact⟨u,t,y,c,q,z,m,w,p,b,o i,o e,o r,x,j⟩
inductive IspApart(a:Ad)(vs:List V)(H:Hp)(Q:VK):Prop
 |mk(p d:Addr)(ps:List (Str×Rat))(ns:List WD)(kvs:List (Key×V))(ks:List Str)(f:Str->Rat)(E D:Nat)(h1:vs=[.ref p,.ref d])(h2:NetOff a H p d ps ns)(h3:NsOk E ps ns)(h4:H d=some (.dK kvs))(h5:Tab (FrIs a) H kvs ks f)(h6:ks.Nodup)(h7:(∀n∈ks,n∈ns.map (·.nm)))(h8:(∀n∈ks,SzQ D 100 (f n)))(h9:0<D)(h10:D*E<=2^250)(h11:SumOk (bM ks f) ps ns)(h12:∀l H' ts ss,H l=none->Same H H'->H' l=some (.lst ts)->RowAt (StIs a [l]) H' ts ss->(ss.flatMap (·.ad)).Nodup->(∀b∈ss.flatMap (·.ad),H b=none)->ApD (bM ks f) ps ns ss->Q (.ref l) H'):IspApart a vs H Q
noncomputable def spApart(a:Ad):Sp:=λvs H Q _=>IspApart a vs H Q
theorem ok_taken_apart(T:TX K mg a):FnB P w K mg base CX0 "taken_apart" 13 ["net","plan"] (spApart a):=by
 refine T.d_taken_apart.okA sc_taken_apart λf bz A ba s H vs Q E hr h=>?_;obtain⟨p,d,U,ns,a4,ks,f,N,DD,rfl,off,O,hd,tb,ar,ah,hf,bm,Z,ok,k⟩:=h
 refine⟨_,(aD (bY (aO (ok_refuse_unfit T) hr aJ (aA (pv 0) (aA (pv 1) aB))))
  (aD (aH (i:=2) sc_taken_apart.nd (pe_mk (mk_Taking T) hr T.mg_Taking aJ (aA (pv 0) (aA (pv 1) aB))))
  (aX (aH (i:=3) sc_taken_apart.nd (aO (ok_ring_in T) hr aJ (aA (pv 0) (aA (aZ (pv 2) rfl) aB))))
  (aX (iE lH (aS (gw hr.units0) (pv 3) (bH aB)) (aD (bY (eV (CX:=CX0) (pv 2) hr aJ (aA (pv 3) aB)))
  (aF (aH (i:=3) sc_taken_apart.nd (aO (ok_ring_in T) hr aJ (aA (pv 0) (aA (aZ (pv 2) rfl) aB)))))))
  (aD (bO lH rfl (bZ (aZ (pv 2) rfl)) (aR (i:=4) sc_taken_apart.nd) (aF (iE lH (aS op_gt (eT T.fr (aZ (pv 4) rfl) (eU T) hr aJ) aC) (aF (bY (eV (CX:=CX0) (pv 2) hr aJ (aA (pv 4) aB)))))))
  (aF (aP (aZ (pv 2) rfl)))))))),?_⟩
 walk_at"q"
 have be:ks.length<=24:=by
  have:=dS ar (ys:=ns.map (·.nm)) ah
  rw[kX]at this
  have:=O.ln
  lia
 have d0:0<DD*N:=Nat.mul_pos bm O.e0;refine⟨_,rfl,_,rfl,p,d,U,ns,a4,ks,f,rfl,off,O.nd,hd,tb,ar,λn hn=>⟨ah n hn,Rat.num_nonneg.mpr (hf n hn).nn⟩,λR s1=>?_⟩;have am:=off.mono s1;have hn:=am.at_;refine⟨_,rfl,_,rfl,?_⟩;intro t dx h1 h2 _;have s2:Same R (upd (upd R dx (.own t)) t (.ins a.Taking dx [])):=iw (C:=a.Taking) h1 h2 λb o e n=>e;have a2:upd (upd R dx (.own t)) t (.ins a.Taking dx []) t=some (.ins a.Taking dx []):=aE;generalize upd (upd R dx (.own t)) t (.ins a.Taking dx [])=H2 at s2 a2⊢;refine⟨R,t,dx,p,d,U,ns,a4,ks,f,rfl,a2,s2,h1,am,O.nd,s1 _ _ hd,tb.mono (λv x z=>z.mono s1),ar,be,ah,ok,by have:=O.lp;lia,λH3 d3 ls lo li es fs D3=>⟨rfl,?_⟩⟩
 have bw:∀n,SzQ DD 100 (bM ks f n):=λn=>by
  unfold bM
  split
  ·rename_i h;exact hf n h
  ·exact SzQ.zero
 have a7:∀n,bM ks f n≠0->n∈ns.map (·.nm):=λn h=>ah n (lZ λc=>h (if_neg c));have I3:=TkI.first O bw a7
 generalize bM ks f=A0 at D3 I3 k;generalize g7 (bK A0 ns) (U.map (·.1))=av at D3 I3;generalize g9 (bK A0 ns) (U.map (·.1))=aw at D3 I3
 have szs:∀{J:Hp}{M:Addr}{es fs:List Addr}{A:Str->Rat}{B:List SD}{F G:List EN}{c:Nat},TkAt a R J t p M ls lo li es fs A B F G->TkI A0 N (DD*N) U ns A B F G c->(∀n,0<=A n/\Bd 6650 (A n))×' B.length<=100×' es.length<=100×' fs.length<=100:=λ{J M es fs A B F G c}D I=>by
  have hc:=I.cc;have h1:=I.ct;have h2:=jE (λd:WD=>A0 d.nm) ns;have h3:=jE (bK A0 ns) (U.map (·.1));have h4:=O.ln;have h5:=O.lp;have h6:=I.ln;have h7:=D.ro.1;have h8:=D.ri.1;rw[kX]at h3 h7 h8;exact⟨λn=>⟨(I.nn n).nn,(I.nn n).b8 O d0 Z (by lia) (by decide)⟩,by lia,by lia,by lia⟩
 refine dA (λσ' J=>yE5 λl M A B c=>σ'=[some (.ref p),some (.ref d),some (.ref t),some (.ref l),none]×' TkAt a R J t p M ls lo li es fs A B av aw×' TkI A0 N (DD*N) U ns A B av aw c×' RgAt R ls lo li ns A B J l) ?_ ?_
 ·obtain⟨bf,bg⟩:=D3.ob;refine⟨_,rfl,_,rfl,t,_,bf,_,_,rfl,bg,T.cl_Taking,T.na_Taking_rest,fsT_d _ _ _ _ _,?_⟩;exact ring_in_ok (E:=E) D3 I3 O hn λl J s' rg=>⟨l,d3,A0,[],0,rfl,D3.mono s',I3,rg⟩
 rintro zU a1 σ' H4⟨l4,d4,A4,bp,c4,rfl,D4,I4,R4⟩;subst a1;refine dA (λσ' J=>yE10 λl M es fs A B F G c ws=>σ'=[some (.ref p),some (.ref d),some (.ref t),some (.ref l),none]×' TkAt a R J t p M ls lo li es fs A B F G×' TkI A0 N (DD*N) U ns A B F G c×' Acyc ws×'∀d∈ns,A d.nm≠0->d∈ws) ?_ ?_
 ·refine⟨λm σ J=>∃l M es fs A B F G c,m=nzc (λd:WD=>A d.nm) ns/\σ=[some (.ref p),some (.ref d),some (.ref t),some (.ref l),none]/\TkAt a R J t p M ls lo li es fs A B F G/\TkI A0 N (DD*N) U ns A B F G c/\RgAt R ls lo li ns A B J l,⟨_,l4,d4,es,fs,A4,bp,av,aw,c4,rfl,rfl,D4,I4,R4⟩,?_⟩;rintro m σ H5⟨l5,d5,L,Y,A5,ae,ai,aj,c5,rfl,rfl,D5,I5,a0,R5⟩;refine⟨_,rfl,by decide,λe0 ne0=>?_⟩;obtain⟨H6,zq,s6,h6⟩:=uG (o:=.lst []) ne0;rw[zq];have D6:=D5.mono s6;rcases R5 with⟨ring,s0,hl,rg,pt,lr,hA⟩|⟨hl,ws,ac,ax⟩
  ·obtain⟨v0,vr,bu⟩:∃v0 vr,nmV ring=v0::vr:=by
    cases hpp:ring with
    |nil=>exact absurd hpp rg.ne
    |cons z zs=>exact⟨_,_,rfl⟩
   have a8:=s6 _ _ hl;have ak:=a8;rw[bu]at ak;refine⟨l5,e0,_,rfl,rfl,SqL.of ak,SqL.of h6,_,rfl,iteT ?_⟩;refine⟨λσ' J=>∃l M es fs A B F G c,nzc (λd:WD=>A d.nm) ns<nzc (λd:WD=>A5 d.nm) ns/\σ'=[some (.ref p),some (.ref d),some (.ref t),some (.ref l),none]/\TkAt a R J t p M ls lo li es fs A B F G/\TkI A0 N (DD*N) U ns A B F G c/\RgAt R ls lo li ns A B J l,(by rintro σ' J⟨l,M,es,fs,A,B,F,G,c,lt,r⟩;exact⟨_,lt,l,M,es,fs,A,B,F,G,c,rfl,r⟩),?_⟩;obtain⟨ay,au⟩:=D6.ob;obtain⟨bA,aq,bc,bv⟩:=szs D5 I5;refine⟨_,rfl,t,a.Taking,ay,_,10,["self","ring"],spTakeR a,rfl,au,j9 _ _ _ _ _ (by decide+kernel),T.cl_Taking,by decide,jI T,_,rfl,R,t,p,d5,ls,lo,li,l5,L,Y,A5,ae,ai,aj,U,ns,ring,N,s0,rfl,D6,hn,O.nd,O.g1,by have:=O.ln;lia,a8,a0.1,a0.2.1,a0.2.2,rg,pt,by lia,λy hy=>⟨hA y hy,I5.rbd O d0 Z rg lr hy⟩,bA,I5.sub,aq,bc,bv,λH7 d7 bo bn as af ag x D7 x0 a6 bl out=>?_⟩;obtain⟨X,lt⟩:=I5.ring O d0 Z rg pt lr x0 a6 bl out;obtain⟨ap,an⟩:=D7.ob;refine⟨_,rfl,_,rfl,t,_,ap,_,_,rfl,an,T.cl_Taking,T.na_Taking_rest,fsT_d _ _ _ _ _,?_⟩;exact ring_in_ok (E:=E) D7 X O hn λl J s' rg=>⟨l,d7,bo,bn,_,_,_,_,_,lt,rfl,D7.mono s',X,rg⟩
  ·exact⟨l5,e0,_,rfl,rfl,SqL.of (s6 _ _ hl),SqL.of h6,_,rfl,iteF ⟨l5,d5,L,Y,A5,ae,ai,aj,c5,ws,rfl,D6,I5,ac,ax⟩⟩
 rintro zU a1 σ' H5⟨l5,d5,L,Y,A5,ae,ai,aj,c5,ws,rfl,D5,I5,ac,ax⟩;obtain⟨br,bq⟩:=D5.ob;subst a1;refine⟨_,rfl,t,_,br,_,_,rfl,bq,T.cl_Taking,T.na_Taking_sources,fsT_o _ _ _ _ _,lo,rfl,⟨_,SqL.of D5.so⟩,?_⟩;refine cG (K:=K) (a:=lo) (xs:=L.map .ref) (λi σ J=>yE7 λM A B F G c z4=>σ=[some (.ref p),some (.ref d),some (.ref t),some (.ref l5),z4]×' TkAt a R J t p M ls lo li L Y A B F G×' TkI A0 N (DD*N) U ns A B F G c×'(∀d∈ns,A d.nm≠0->d∈ws)×'∀x∈F.take i,x.2=0) ⟨d5,A5,ae,ai,aj,c5,_,rfl,D5,I5,ax,λx hx=>by rw[nS]at hx;cases hx⟩ ((by rintro i σ J _⟨_,_,_,_,_,_,_,_,D,_⟩;exact SqL.of D.so)) ?_ ?_
 ·rintro i v σ H6 hv⟨d6,A6,az,a5,a3,c6,z4,rfl,D6,I6,aa,S⟩
  obtain⟨e,en,rfl⟩:∃e,L[i]?=some e/\v=.ref e:=by
   rw[lg]at hv
   cases ef:L[i]? with
   |none=>rw[ef]at hv;cases hv
   |some e'=>rw[ef]at hv;cases hv;exact⟨e',rfl,rfl⟩
  refine⟨λm σ J=>∃M A B F G c,m=nzc (λd:WD=>A d.nm) ns+nzc (·.2) F+nzc (·.2) G/\σ=[some (.ref p),some (.ref d),some (.ref t),some (.ref l5),some (.ref e)]/\TkAt a R J t p M ls lo li L Y A B F G/\TkI A0 N (DD*N) U ns A B F G c/\(∀d∈ns,A d.nm≠0->d∈ws)/\∀x∈F.take i,x.2=0,⟨_,d6,A6,az,a5,a3,c6,rfl,rfl,D6,I6,aa,S⟩,?_⟩;clear D6 I6 aa S;rintro m σ H7⟨d7,A7,as,af,ag,c7,rfl,rfl,D7,X,ab,S⟩;obtain⟨⟨k1,r1⟩,ex,_⟩:=D7.ro.get (i:=i) hv;obtain⟨bh,b2,qe,bj,_,_,bx⟩:=D7.eS en ex;obtain⟨b1,b3,b4⟩:=X.bs _ (kZ ex);have b0:=b1.b8 O d0 Z (by have:=X.cc;lia) (by decide);refine⟨_,rfl,e,_,bh,_,_,rfl,bj,T.cl_End,T.na_End_rest,fsE_q _ _ _,?_⟩;walk_at"rd"
  by_cases hp:0<r1
  case neg=>
   refine hE (lM λz=>hp ((iK r1).mp z)) ⟨d7,A7,as,af,ag,c7,_,rfl,D7,X,ab,λx hx=>?_⟩;rw[lE,ex]at hx;rcases lB.mp hx with z|z
   ·exact S x z
   ·rw[lv.mp z];have b1:0<=r1:=b1.nn;show r1=0;grind
  refine kP (lQ ((iK r1).mpr hp)) ?_;refine⟨λσ' J=>∃M A B F G c,nzc (λd:WD=>A d.nm) ns+nzc (·.2) F+nzc (·.2) G<nzc (λd:WD=>A7 d.nm) ns+nzc (·.2) af+nzc (·.2) ag/\σ'=[some (.ref p),some (.ref d),some (.ref t),some (.ref l5),some (.ref e)]/\TkAt a R J t p M ls lo li L Y A B F G/\TkI A0 N (DD*N) U ns A B F G c/\(∀d∈ns,A d.nm≠0->d∈ws)/\∀x∈F.take i,x.2=0,(by rintro σ' J⟨M,A,B,F,G,c,lt,r⟩;exact⟨_,lt,M,A,B,F,G,c,rfl,r⟩),?_⟩;obtain⟨ap,an⟩:=D7.ob;obtain⟨bA,aq,_,_⟩:=szs D7 X;refine⟨_,rfl,t,a.Taking,ap,_,11,["self","source"],spRoad a,rfl,an,j9 _ _ _ _ _ (by decide+kernel),T.cl_Taking,by decide,jH T,_,rfl,R,t,p,d7,ls,lo,li,e,L,Y,A7,as,af,ag,U,ns,ws,i,N,k1,r1,rfl,D7,hn,O.nd,O.g1,by have:=O.ln;lia,O.ne,O.io,by have:=O.lp;lia,bA,X.sub,aq,ac,ab,b3,en,ex,hp,λx hx=>(X.bs x hx).1.nn,λx hx=>⟨(X.bk x hx).1.nn,(X.bk x hx).1.b8 O d0 Z (by have:=X.cc;lia) (by decide)⟩,λpath q rd nd lp=>?_,X.bal,λH8 d8 x path j k2 r2 ad D8 hy rd x0 x1 x2 x3 x4 x5=>?_⟩
  ·obtain⟨q1,q2,q3⟩:=X.szP O d0 Z (path:=path) (λy hy=>(rd.sub y hy).1) nd (by have:=O.lp;lia);exact⟨q1 _ (kZ ex),q2,q3⟩
  have ao:=rd.places ac ab
  have bt:path.length<=3:=by
   have:=dS ao (ys:=U.map (·.1)) λy hy=>by
    rcases lN.mp hy with rfl|z
    ·exact b3
    ·obtain⟨w',bb,rfl⟩:=k8.mp z;exact(O.io w' (rd.sub w' bb).1).2
   rw[mh,kX,kX]at this
   have:=O.lp
   lia
  obtain⟨I8,lt⟩:=X.road O d0 Z (ad:=ad) rd ao bt x0 x1 x2 x3 x4 x5 ex hy;have al:∀x∈path,x∈ns:=λx hx=>(rd.sub x hx).1;refine⟨d8,_,_,_,_,_,lt,rfl,D8,I8,λy hy h0=>ab y hy ((mns_le (λn=>(bA n).1) x3 (sA_nn O al (bL O.nd al (RoadW.starts (ws:=ns) rd.path ao)) (lT x0)) y.nm).2.1 h0),λy hy=>S y ?_⟩;rw[List.take_set_of_le (k5 _)]at hy;exact hy
 ·rintro σ H6⟨d6,A6,az,a5,a3,c6,z4,rfl,D6,I6,aa,S⟩;rw[D6.ro.1,lA]at S;obtain⟨ay,au⟩:=D6.ob;obtain⟨ts,a9,rs⟩:=D6.st;exact⟨_,rfl,t,_,ay,_,_,rfl,au,T.cl_Taking,T.na_Taking_strands,fsT_s _ _ _ _ _,k ls H6 ts az (s1.free D6.ns) (s1.trans D6.sm) a9 ⟨rs.1,λi t x h1 h2=>(rs.2 i t x h1 h2).one⟩ D6.sd (λb hb=>s1.free (D6.sh b hb)) (I6.done O ac aa S)⟩
end
end G
namespace G
open PySem L2
section
theorem cut_take(j:Nat):cutV xs none (some (j:Int))=xs.take j:=by
 unfold cutV;rw[HT.sIx_none,HT.sIx_nat,List.drop_zero,Nat.sub_zero];by_cases h:j<=xs.length
 ·rw[Nat.min_eq_left h]
 ·rw[Nat.min_eq_right (by lia),lA,List.take_of_length_le (by lia)]
theorem at_last{xs:List Str}(h:xs.getLast?=some u):atI (xs.map V.str) (-1)=some (.str u):=by
 obtain⟨a,rfl⟩:=List.getLast?_eq_some_iff.mp h;rw[lj];exact atI_last _ _
theorem kE(ds:List WD):(bS ds).length<=ds.length+1:=by
 cases ds with
 |nil=>exact lD _
 |cons k r=>show(k.st::(k::r).map _).length<=_;rw[mh,kX];exact k5 _
noncomputable def ringB(pl:List Str):Bool:=if pl=[]then false else if pl[0]?=pl.getLast? then decide (pl.drop 1).Nodup else false
theorem fR{sp:List Str}{j:Nat}(h:sp[j]?=some x):atI (sp.map V.str) (j:Int)=some (.str x):=atI_nat (by rw[lg,h];rfl)
inductive IspUnlike(K:W.Frag)(vs:List V)(H:Hp)(Q:VK):Prop
 |mk(l:Addr)(ts:List Str)(h1:vs=[.ref l])(h2:SqL K H l (ts.map V.str))(h3:ts.length<=1000)(h4:∀H',Same H H'->Q (.bl (decide ts.Nodup)) H'):IspUnlike K vs H Q
noncomputable def spUnlike(K:W.Frag):Sp:=λvs H Q _=>IspUnlike K vs H Q
theorem jY(T:TX K mg a):FnB P w K mg base CX0 "all_unlike" 1 ["names"] (spUnlike K):=by
 refine T.d_all_unlike.okA sc_all_unlike λf r A i s H D Q E B h=>?_;obtain⟨l,b,rfl,m,j,k⟩:=h;refine⟨_,(aF (aP (eQ e7 (bV call_len_setD (by rfl) T.z_len mR (aA (eJ (call_setD B.hd) (by rfl) T.z_set PyProof.Rows.boot_set (aA (pv 0) aB)) aB)) (bV cO (by rfl) T.z_len mR (aA (pv 0) aB))))),?_⟩;walk_at"q"
 refine⟨_,rfl,l,b,rfl,m,j,λq t=>⟨q,b,rfl,aE,j,?_⟩⟩;have c:∀o,Same H (upd H q o):=λo=>aU t;generalize p:upd H q _=y;have c :=p▸c _;refine⟨_,rfl,l,_,rfl,.inl (c.seq m),rfl,?_⟩;rw[kX]
 have e:decide (V.int (hG b).length=V.int b.length)=decide b.Nodup:=by
  rw[decide_eq_decide,<-dset_nodup];exact⟨λz=>by lia,λz=>by rw[z]⟩
 rw[e];exact k _ c
inductive IspPath(K:W.Frag)(a:Ad)(g:List Str->Bool)(vs:List V)(H:Hp)(Q:VK):Prop
 |mk(p l:Addr)(ps:List (Str×Rat))(ns ds:List WD)(h1:vs=[.ref p,.ref l])(h2:OnNet K a H p l ps ns ds)(h3:∀H',Same H H'->Q (.bl (g (bS ds))) H'):IspPath K a g vs H Q
noncomputable def spPath(K:W.Frag)(a:Ad)(g:List Str->Bool):Sp:=λvs H Q _=>IspPath K a g vs H Q
theorem ok_is_path(T:TX K mg a):FnB P w K mg base CX0 "is_path" 4 ["net","walk"] (spPath K a λpl=>decide pl.Nodup):=by
 refine T.d_is_path.okA sc_is_path λf o A c s H y Q E e h=>?_;obtain⟨p,l,j,ns,b,rfl,O,k⟩:=h;refine⟨_,(aF (aP (aO (jY T) e aJ (aA (aO (gF T) e aJ (aA (pv 0) (aA (pv 1) aB))) aB)))),?_⟩;walk_at"q"
 have len:=O.len;have pl:=kE b;exact⟨_,rfl,_,rfl,p,l,j,ns,b,rfl,O,λr z _ m t=>⟨r,bS b,rfl,SqL.of t,by lia,λi q=>k i (m.trans q)⟩⟩
theorem ok_is_ring(T:TX K mg a):FnB P w K mg base CX0 "is_ring" 4 ["net","walk"] (spPath K a ringB):=by
 refine T.d_is_ring.okA sc_is_ring λf R A y s H vs Q E F h=>?_;obtain⟨p,l,X,ns,t,rfl,O,k⟩:=h
 refine⟨_,(aD (aH (i:=2) sc_is_ring.nd (aO (gF T) F aJ (aA (pv 0) (aA (pv 1) aB))))
  (aF (aP (jn (eQ (gw F.units0) (pv 2) (bH aB)) (jn (eQ e7 (aK bC (pv 2) aC) (aK bC (pv 2) (jm gM aC))) (j3 (aO (jY T) F aJ (aA (gT ki (pv 2) (iP aC) iQ) aB)))))))),?_⟩
 walk_at"q"
 have len:=O.len;have Y:=kE t;refine⟨_,rfl,_,rfl,p,l,X,ns,t,rfl,O,λr J _ N M=>?_⟩;generalize bS t=b at Y M k;refine⟨_,rfl,by decide,λe ne=>?_⟩;obtain⟨H2,zq,D,G⟩:=uG (o:=.lst []) ne;rw[zq];have m:=D _ _ M;have c:=N.trans D;refine⟨r,e,_,rfl,rfl,SqL.of m,SqL.of G,_,rfl,?_⟩;unfold ringB at k;by_cases hz:b=[]
 ·subst hz;refine iteF ?_;exact k _ c
 ·have B:(!(b.map V.str).isEmpty)=true:=by cases b with|nil=>exact absurd rfl hz|cons _ _=>rfl
  rw[B];refine iteT ?_;simp only[if_neg hz]at k;obtain⟨v,L⟩:∃v,b[0]?=some v:=by cases b with|nil=>exact absurd rfl hz|cons x _=>exact⟨x,rfl⟩
  obtain⟨u,I⟩:∃u,b.getLast?=some u:=⟨b.getLast hz,List.getLast?_eq_some_getLast hz⟩;rw[L,I]at k;refine⟨_,rfl,r,_,_,_,rfl,rfl,SqL.of m,fR L,_,rfl,_,rfl,r,_,_,_,rfl,rfl,SqL.of m,at_last I,rfl,_,rfl,?_⟩;by_cases e:v=u
  ·refine kP (lQ (mj V.str e)) ?_;rw[if_pos (mj some e)]at k;refine⟨_,rfl,_,rfl,r,_,rfl,SqL.of m,λq Z=>?_⟩;have S:=aU (o:=.lst (cutV (b.map V.str) (some 1) none)) Z;exact⟨q,b.drop 1,rfl,SqL.of (by rw[aE,List.map_drop];exact mj (λz=>some (HO.lst z)) (cut_drop 1)),by rw[List.length_drop];omega,λH3 U=>k _ (c.trans (S.trans U))⟩
  ·refine hE (lM λz=>e (V.str.inj z)) ?_;rw[if_neg (λz=>e (lY z))]at k;exact k _ c
end
end G
namespace G
open PySem L2
section
noncomputable def grw(ds:List WD):Int:=sgn (aL ds-1)
noncomputable def rwB(w:Int)(ds:List WD):Bool:=ringB (bS ds)&&decide (grw ds=w)
noncomputable def gm(hd pa ta:List WD):Bool:=pa.isEmpty&&(ta.isEmpty&&rwB 0 hd)
theorem ps_tryN(hb:PSs X body t)(hx:∀e s,¬X.xe e s):PS X (.Try body (h0::hs) [] [] pos) t:=by
 intro a s σ H D I h;refine wpAny_Try_except (nY (hb a s σ H D I h) (λf b q=>?_) λe b q=>absurd q (hx _ _))
 cases f with
 |next=>exact wpAny_execs_nil q
 |ret v=>exact q
 |brk=>exact q
 |cont=>exact q
inductive IspIsWalk(K:W.Frag)(a:Ad)(vs:List V)(H:Hp)(Q:VK):Prop
 |mk(p l:Addr)(ps:List (Str×Rat))(ns ds:List WD)(h1:vs=[.ref p,.ref l])(h2:OnNet K a H p l ps ns ds)(h3:∀H',Same H H'->Q (.bl true) H'):IspIsWalk K a vs H Q
noncomputable def spIsWalk(K:W.Frag)(a:Ad):Sp:=λvs H Q _=>IspIsWalk K a vs H Q
theorem ok_is_walk(T:TX K mg a):FnB P w K mg base CX0 "is_walk" 4 ["net","names"] (spIsWalk K a):=by
 refine T.d_is_walk.okA sc_is_walk λf j A b s H q Q E m h=>?_;obtain⟨p,l,e,ns,c,rfl,O,k⟩:=h;refine⟨_,(aD (ps_tryN (aF (bY (aO (gF T) m aJ (aA (pv 0) (aA (pv 1) aB))))) (λ_ _ h=>h)) (aF (aP hX))),?_⟩;walk_at"q"
 exact⟨_,rfl,_,rfl,p,l,e,ns,c,rfl,O,λr o _ i _=>k o i⟩
inductive IspGrow(K:W.Frag)(a:Ad)(vs:List V)(H:Hp)(Q:VK):Prop
 |mk(p l:Addr)(ps:List (Str×Rat))(ns ds:List WD)(n:Nat)(h1:vs=[.ref p,.ref l])(h2:OnNet K a H p l ps ns ds)(h3:WkS n ds)(h4:∀H',Same H H'->Q (.int (grw ds)) H'):IspGrow K a vs H Q
noncomputable def spGrow(K:W.Frag)(a:Ad):Sp:=λvs H Q _=>IspGrow K a vs H Q
theorem ok_growth(T:TX K mg a):FnB P w K mg base CX0 "growth" 10 ["net","walk"] (spGrow K a):=by
 refine T.d_growth.okA sc_growth λf z A e s H F Q E c h=>?_;obtain⟨p,l,t,ns,q,n,rfl,O,S,k⟩:=h;refine⟨_,(aF (aP (eT T.fr (cM T.fr (aO (fN T) c aJ (aA (pv 0) (aA (pv 1) aB))) (eR T) c aJ (aA (cJ (mk1 T) c T.mg_Fraction aJ (aA aC aB)) aB)) (eU T) c aJ))),?_⟩;walk_at"q"
 refine⟨_,rfl,_,rfl,p,l,t,ns,q,n,rfl,O,S.b,by have:=S.n;lia,by have:=S.l;lia,λg J y i=>?_⟩;refine⟨g,_,rfl,i,1,1,rfl,by decide,sm1,λo G no j m=>?_⟩;rw[show Rat.divInt 1 1=1 from rfl]at m;refine⟨g,o,_,_,rfl,i.mono j,m,S.g.s9,Bd.one.s9,True.intro,λr D I B fr=>?_⟩;exact⟨r,_,rfl,fr,r,_,rfl,fr,k D (y.trans (j.trans B))⟩
inductive IspRingW(K:W.Frag)(a:Ad)(vs:List V)(H:Hp)(Q:VK):Prop
 |mk(p l:Addr)(ps:List (Str×Rat))(ns ds:List WD)(n:Nat)(w:Int)(h1:vs=[.ref p,.ref l,.int w])(h2:OnNet K a H p l ps ns ds)(h3:WkS n ds)(h4:∀H',Same H H'->Q (.bl (rwB w ds)) H'):IspRingW K a vs H Q
noncomputable def spRingW(K:W.Frag)(a:Ad):Sp:=λvs H Q _=>IspRingW K a vs H Q
theorem gx(T:TX K mg a):FnB P w K mg base CX0 "is_ring_with" 11 ["net","walk","wanted"] (spRingW K a):=by
 refine T.d_is_ring_with.okA sc_is_ring_with λf o A c s H t Q E m h=>?_;obtain⟨p,l,j,ns,b,n,w,rfl,O,S,k⟩:=h;refine⟨_,(aF (aP (jn (aO (ok_is_ring T) m aJ (aA (pv 0) (aA (pv 1) aB))) (j3 (eQ e7 (aO (ok_growth T) m aJ (aA (pv 0) (aA (pv 1) aB))) (pv 2)))))),?_⟩;walk_at"q"
 refine⟨_,rfl,_,rfl,p,l,j,ns,b,rfl,O,λy i=>⟨_,rfl,?_⟩⟩;unfold rwB at k
 cases e:ringB (bS b) with
 |false=>
  rw[e]at k;exact iteF (k _ i)
 |true=>
  rw[e]at k;refine iteT ⟨_,rfl,_,rfl,p,l,j,ns,b,n,rfl,O.mono i,S,λr q=>⟨_,rfl,rfl,?_⟩⟩;rw[show decide (V.int (grw b)=V.int w)=decide (grw b=w) from decide_eq_decide.mpr ⟨V.int.inj,λz=>by rw[z]⟩];exact k _ (i.trans q)
inductive IspRnd(K:W.Frag)(a:Ad)(g:List WD->List WD->List WD->Bool)(vs:List V)(H:Hp)(Q:VK):Prop
 |mk(p lh lp lt:Addr)(ps:List (Str×Rat))(ns hd pa ta:List WD)(n:Nat)(h1:vs=[.ref p,.ref lh,.ref lp,.ref lt])(h2:OnNet K a H p lh ps ns hd)(h3:OnNet K a H p lp ps ns pa)(h4:OnNet K a H p lt ps ns ta)(h5:WkS n hd)(h6:WkS n ta)(h7:∀H',Same H H'->Q (.bl (g hd pa ta)) H'):IspRnd K a g vs H Q
noncomputable def spRnd(K:W.Frag)(a:Ad)(g:List WD->List WD->List WD->Bool):Sp:=λvs H Q _=>IspRnd K a g vs H Q
theorem mapE{ds:List WD}:(ds.map λd=>V.str d.nm).isEmpty=ds.isEmpty:=by cases ds<;>rfl
theorem ok_is_round(T:TX K mg a):FnB P w K mg base CX0 "is_round" 12 ["net","head","path","tail"] (spRnd K a gm):=by
 refine T.d_is_round.okA sc_is_round λf D A j s H Y Q E q h=>?_;obtain⟨p,S,I,lt,M,ns,R,L,B,n,rfl,O,G,N,J,St,k⟩:=h;refine⟨_,(aF (aP (jn (eQ (ig q.units0) (pv 2) (bH aB)) (jn (eQ (ig q.units0) (pv 3) (bH aB)) (j3 (aO (gx T) q aJ (aA (pv 0) (aA (pv 1) (aA aC aB))))))))),?_⟩;walk_at"q"
 refine⟨_,rfl,by decide,λc m=>?_⟩;obtain⟨t,zq,e,z⟩:=uG (o:=.lst []) m;rw[zq];refine⟨I,c,_,rfl,rfl,e.seq G.sq,SqL.of z,_,rfl,?_⟩;unfold gm at k;rw[mapE]
 cases ep:L.isEmpty with
 |false=>
  rw[ep]at k;exact iteF (k _ e)
 |true=>
  rw[ep]at k;refine iteT ⟨_,rfl,by decide,λi l=>?_⟩;obtain⟨X,zq,y,r⟩:=uG (o:=.lst []) l;rw[zq];have b:=e.trans y;refine⟨lt,i,_,rfl,rfl,b.seq N.sq,SqL.of r,_,rfl,?_⟩;rw[mapE]
  cases et:B.isEmpty with
  |false=>
   rw[et]at k;exact iteF (k _ b)
  |true=>
   rw[et]at k;exact iteT ⟨_,rfl,_,rfl,p,S,M,ns,R,n,0,rfl,O.mono b,J,λU F=>k _ (b.trans F)⟩
theorem op_neNK{K:W.Frag}(hK:X.K=K)(hu:X.A.units<PySem.cLine):OpR X (compareOp .NotEq) (rNeN K):=hK▸gw hu
noncomputable def jb(ws:List (List WD)):List (List Str):=(ws.filter λd=>!d.isEmpty).map bS
noncomputable def Meet(ms:List (List Str)):Prop:=∀(i:Nat)x y,ms[i]?=some x->ms[i+1]?=some y->x.getLast?=y[0]?
noncomputable def meetB(ms:List (List Str)):Bool:=@decide (Meet ms) (Classical.propDecidable _)
theorem meetB_t(h:Meet ms):meetB ms=true:=@lQ _ (Classical.propDecidable _) h
theorem meetB_f(h:¬Meet ms):meetB ms=false:=@lM _ (Classical.propDecidable _) h
theorem metL_snoc(ws:List (List WD))(d:List WD):jb (ws++[d])=if d.isEmpty=true then jb ws else jb ws++[bS d]:=by
 unfold jb;rw[og,lj]
 cases e:d.isEmpty with
 |true=>rw[nK (by rw[e];decide),List.filter_nil,nZ,m6,if_pos rfl]
 |false=>rw[nJ (by rw[e];decide),List.filter_nil,if_neg (by decide)];rfl
theorem metL_ne(h:m∈jb ws):m≠[]:=by
 unfold jb at h;obtain⟨d,a,rfl⟩:=k8.mp h
 have:=(n8.mp a).2
 cases d with
 |nil=>cases this
 |cons x r=>exact List.cons_ne_nil _ _
noncomputable def StrL(H:Hp)(v:V)(ts:List Str):Prop:=∃q,v=.ref q/\H q=some (.lst (ts.map V.str))
theorem StrL.mono(h:StrL H v ts)(s:Same H H'):StrL H' v ts:=by
 obtain⟨q,e,f⟩:=h;exact⟨q,e,s _ _ f⟩
theorem strl_put(hn:V.ref l∉us)(h:RowAt StrL H us rs):RowAt StrL (upd H l o) us rs:=⟨h.1,λi u r a b=>by
 obtain⟨q,rfl,f⟩:=h.2 i u r a b;exact⟨q,rfl,by rw[aG (λz=>hn (by rw[<-z];exact kZ a))];exact f⟩⟩
noncomputable def WkIs(K:W.Frag)(a:Ad)(p:Addr)(ps:List (Str×Rat))(ns:List WD)(H:Hp)(v:V)(ds:List WD):Prop:=∃l,v=.ref l/\OnNet K a H p l ps ns ds
inductive IspMeet(K:W.Frag)(a:Ad)(vs:List V)(H:Hp)(Q:VK):Prop
 |mk(p l:Addr)(us:List V)(ps:List (Str×Rat))(ns:List WD)(ws:List (List WD))(h1:vs=[.ref p,.ref l])(h2:SqL K H l us)(h3:RowAt (WkIs K a p ps ns) H us ws)(h4:ws.length<=100)(h5:∀H',Same H H'->Q (.bl (meetB (jb ws))) H'):IspMeet K a vs H Q
noncomputable def spMeet(K:W.Frag)(a:Ad):Sp:=λvs H Q _=>IspMeet K a vs H Q
theorem ok_parts_meet(T:TX K mg a):FnB P w K mg base CX0 "parts_meet" 4 ["net","parts"] (spMeet K a):=by
 refine T.d_parts_meet.okA sc_parts_meet λf aj A ae s H vs Q E hr h=>?_;obtain⟨p,l,us,ps,ns,I,rfl,hl,ru,lw,k⟩:=h
 refine⟨_,(aX (fY (i:=2) (xs:=["walk"]) (rest:=["net"]) sc_parts_meet.nd rfl rfl rfl (bZ (pv 1))
  (λJ fp C' Z G=>(aR (i:=0) (show(["walk","net"]:List Str).Nodup by decide+kernel))) (λJ fp C' Z G=>(pts_one (aS (op_neNK (K:=K) rfl hr.units0) (pv 0) (bH aB))))
  (λJ fp C' Z G=>(aO (gF T) hr aJ (aA (pv 1) (aA (pv 0) aB))))
  (Clos.many (ys:=["net"]) rfl ⟨rfl,True.intro⟩ rfl (by decide+kernel)) (Reads.many (ys:=["net"]) (js:=[0]) ⟨⟨rfl,rfl,rfl⟩,True.intro⟩))
  (aD (bO lH rfl (pi_zip (by rfl) T.z_zip (aA (pv 2) (aA (gT ki (pv 2) (iP aC) iQ) aB))) (iS (n:=2) rfl (cF (aR (i:=3) sc_parts_meet.nd) (cF (aR (i:=4) sc_parts_meet.nd) fS))) (aF (bJ (aS op_ne (aK bC (pv 3) (jm gM aC)) (aK bC (pv 4) aC)) (aF (aP hX)) aV)))
  (aF (aP hX)))),?_⟩
 walk_at"q"
 refine dA (λσ' G=>yE2 λq b=>σ'=[some (.ref p),some (.ref l),some (.ref q),none,none]×' Same H G×' G q=some (.lst b)×' RowAt StrL G b (jb I)) ?_ ?_
 ·refine⟨_,rfl,l,rfl,⟨_,hl⟩,λq nq=>?_⟩;refine fQ (K:=K) (a:=l) (xs:=us) (λi t=>i<=I.length×' Same H t×' yE1 λb=>t q=some (.lst b)×' RowAt StrL t b (jb (I.take i))×' V.ref q∉b×' b.length<=i) ⟨lD _,aU nq,[],aE,RowAt.nil,lR,k5 _⟩ ((by rintro i t⟨_,F,_⟩;exact F.seq hl)) ?_ ?_
  ·rintro i v t hv⟨_,F,b,D,B,nt,lt⟩;obtain⟨ds,ed,Y,rfl,O⟩:=ru.get hv;have hi:=(kY.mp ed).1;have O1:=O.mono F;have tk:jb (I.take (i+1))=if ds.isEmpty=true then jb (I.take i) else jb (I.take i)++[bS ds]:=by rw[lE,ed,lL,metL_snoc]
   refine g1 ⟨⟨[_],rfl,rfl⟩,?_⟩;refine⟨_,rfl,by decide,λe ne=>?_⟩;obtain⟨H2,zq,c,he⟩:=uG (o:=.lst []) ne;rw[zq];refine⟨Y,e,_,rfl,rfl,c.seq O1.sq,SqL.of he,_,rfl,?_⟩;rw[mapE]
   cases eE:ds.isEmpty with
   |true=>
    rw[if_pos eE]at tk;refine iteF (fE (by rw[ru.1];exact hi) ⟨hi,F.trans c,b,c _ _ D,?_,nt,by lia⟩);rw[tk];exact B.mono λ_ _ z=>z.mono c
   |false=>
    rw[if_neg (by rw[eE];decide)]at tk;refine iteT ⟨_,rfl,_,rfl,p,Y,ps,ns,ds,rfl,O1.mono c,λr H3 nr L ag=>?_⟩;have h3:=L _ _ (c _ _ D);have aa:r≠q:=λz=>by rw[z,c _ _ D]at nr;cases nr
    refine⟨_,h3,aT (by lia),fE (by rw[ru.1];exact hi) ⟨hi,aY nq (F.trans (c.trans L)),_,aE,?_,λhm=>?_,by rw[lG];show b.length+1<=_;lia⟩⟩
    ·rw[tk];exact RowAt.snoc (strl_put nt (B.mono λ_ _ z=>z.mono (c.trans L))) ⟨r,rfl,by rw[aG aa];exact ag⟩
    ·rcases lB.mp hm with z|z
     ·exact nt z
     ·cases lv.mp z;exact aa rfl
  ·rintro t⟨_,F,b,D,B,nt,_⟩;rw[ru.1,lA]at B;exact⟨q,b,rfl,F,D,B⟩
 rintro zU ai σ' t⟨q,b,rfl,F,D,B⟩;have ne0:∀m∈jb I,m≠[]:=λm hm=>metL_ne hm;subst ai;generalize jb I=ms at B ne0 k;refine⟨_,rfl,_,rfl,_,rfl,q,_,rfl,SqL.of D,λq2 ah=>?_⟩;obtain⟨H2,zq,c,h2⟩:=uG (o:=.lst (cutV b (some 1) none)) ah;rw[zq];rw[show cutV b (some 1) none=b.drop 1 from cut_drop 1]at h2;refine⟨q,q2,b,b.drop 1,rfl,SqL.of (c _ _ D),SqL.of h2,?_⟩;have X:=F.trans c;refine for_zip (K:=K) (λi σ G=>Same H2 G×'(∃z3 z4,σ=[some (.ref p),some (.ref l),some (.ref q),z3,z4])×'∀(j:Nat) x y,j<i->ms[j]?=some x->ms[j+1]?=some y->x.getLast?=y[0]?) ⟨Same.refl _,⟨none,none,rfl⟩,λj x y hj=>absurd hj (Nat.not_lt_zero _)⟩ ((by rintro i σ G⟨Z,_⟩;exact⟨SqL.of (Z _ _ (c _ _ D)),SqL.of (Z _ _ h2)⟩)) ?_ ?_
 ·rintro i u v tt σ H3 hu hv af⟨L,⟨z3,z4,rfl⟩,ih⟩;rw[List.getElem?_drop,Nat.add_comm 1 i]at hv;obtain⟨x,ex,qx,rfl,hx⟩:=B.get hu;obtain⟨y,ey,U,rfl,hy⟩:=B.get hv;have s4:=L.trans (aU (o:=.tup [.ref qx,.ref U]) af);have ab:upd H3 tt (.tup [.ref qx,.ref U]) tt=some (.tup [.ref qx,.ref U]):=aE;generalize upd H3 tt (.tup [.ref qx,.ref U])=H4 at s4 ab⊢;have ad:=c.trans s4;refine⟨tt,_,rfl,SqT.of ab,rfl,_,_,rfl,⟨_,_,rfl,⟨rfl,?_⟩⟩⟩;have nx:=ne0 x (kZ ex);have ny:=ne0 y (kZ ey);obtain⟨a1,N⟩:∃v,x.getLast?=some v:=⟨x.getLast nx,List.getLast?_eq_some_getLast nx⟩;obtain⟨b1,M⟩:∃v,y[0]?=some v:=by cases y with|nil=>exact absurd rfl ny|cons x _=>exact⟨x,rfl⟩
  refine⟨_,rfl,_,rfl,qx,_,_,_,rfl,rfl,SqL.of (ad _ _ hx),at_last N,_,rfl,U,_,_,_,rfl,rfl,SqL.of (ad _ _ hy),fR (j:=0) M,rfl,_,rfl,?_⟩;by_cases e:a1=b1
  ·refine hE (by rw[lQ (mj V.str e)];rfl) ⟨s4,⟨_,_,rfl⟩,λj x' y' hj S R=>?_⟩;by_cases hji:j=i
   ·subst hji;rw[ex]at S;rw[ey]at R
    cases S
    cases R;rw[N,M,e]
   ·exact ih j x' y' (by lia) S R
  ·refine kP (by rw[lM λz=>e (V.str.inj z)];rfl) ?_
   have no:¬Meet ms:=λz=>by
    have:=z i x y ex ey
    rw[N,M]at this;exact e (lY this)
   rw[meetB_f no]at k;exact k _ (X.trans s4)
 ·rintro σ H3⟨L,⟨z3,z4,rfl⟩,ih⟩
  have ac:Meet ms:=λi x y S R=>ih i x y (by
   have:=(kY.mp R).1
   rw[List.length_drop,B.1]
   lia) S R
  rw[meetB_t ac]at k;exact k _ (X.trans L)
noncomputable def roadB(hd pa ta:List WD):Bool:=!(hd.isEmpty&&(pa.isEmpty&&ta.isEmpty))&&((hd.isEmpty||rwB 1 hd)&&((ta.isEmpty||rwB (-1) ta)&&(decide (bS pa).Nodup&&meetB (jb [hd,pa,ta]))))
theorem ok_is_road(T:TX K mg a):FnB P w K mg base CX0 "is_road" 12 ["net","head","path","tail"] (spRnd K a roadB):=by
 refine T.d_is_road.okA sc_is_road λf ac A aa s H vs Q E q h=>?_;obtain⟨p,B,F,lt,Y,ns,z,O,r,n,rfl,Oh,Op,Z,Sh,St,k⟩:=h
 refine⟨_,(aX (bJ (PW.pt (gu (aS (ig q.units0) (pv 1) (bH aB)) (gu (aS (ig q.units0) (pv 2) (bH aB)) (fv (aS (ig q.units0) (pv 3) (bH aB)))))) (aF (aP hX)) aV)
  (aX (bJ (PW.pt (gu (aS (gw q.units0) (pv 1) (bH aB)) (fv (fM (eo (aO (gx T) q aJ (aA (pv 0) (aA (pv 1) (aA aC aB))))))))) (aF (aP hX)) aV)
  (aX (bJ (PW.pt (gu (aS (gw q.units0) (pv 3) (bH aB)) (fv (fM (eo (aO (gx T) q aJ (aA (pv 0) (aA (pv 3) (aA (jm gM aC) aB))))))))) (aF (aP hX)) aV)
  (aF (aP (jn (aO (ok_is_path T) q aJ (aA (pv 0) (aA (pv 2) aB))) (j3 (aO (ok_parts_meet T) q aJ (aA (pv 0) (aA (bH (aA (pv 1) (aA (pv 2) (aA (pv 3) aB)))) aB)))))))))),?_⟩
 walk_at"q"
 unfold roadB at k;refine dA (λt U=>t=[some (.ref p),some (.ref B),some (.ref F),some (.ref lt)]×' Same H U×'(z.isEmpty&&(O.isEmpty&&r.isEmpty))=false) ?_ ?_
 ·refine⟨_,rfl,by decide,λX ab=>?_⟩;obtain⟨N,zq,D,h1⟩:=uG (o:=.lst []) ab;rw[zq];refine⟨B,X,_,rfl,rfl,D.seq Oh.sq,SqL.of h1,_,rfl,?_⟩;rw[mapE]
  cases eh:z.isEmpty with
  |false=>exact iteF (iteF ⟨rfl,D,rfl⟩)
  |true=>
   refine iteT ⟨_,rfl,by decide,λm I=>?_⟩;obtain⟨J,zq,y,M⟩:=uG (o:=.lst []) I;rw[zq];have c:=D.trans y;refine⟨F,m,_,rfl,rfl,c.seq Op.sq,SqL.of M,_,rfl,?_⟩;rw[mapE]
   cases ep:O.isEmpty with
   |false=>exact iteF (iteF ⟨rfl,c,rfl⟩)
   |true=>
    refine iteT ⟨_,rfl,by decide,λj G=>?_⟩;obtain⟨H3,zq,i,S⟩:=uG (o:=.lst []) G;rw[zq];have b:=c.trans i;refine⟨lt,j,_,rfl,rfl,b.seq Z.sq,SqL.of S,_,rfl,?_⟩;rw[mapE]
    cases et:r.isEmpty with
    |false=>exact iteF ⟨rfl,b,rfl⟩
    |true=>
     rw[eh,ep,et]at k;exact iteT (k _ b)
 rintro zU e t N⟨rfl,D,z1⟩;subst e;rw[z1,Bool.not_false,Bool.true_and]at k;refine dA (λt U=>t=[some (.ref p),some (.ref B),some (.ref F),some (.ref lt)]×' Same H U×'(z.isEmpty||rwB 1 z)=true) ?_ ?_
 ·refine⟨_,rfl,by decide,λm I=>?_⟩;obtain⟨J,zq,y,M⟩:=uG (o:=.lst []) I;rw[zq];have c:=D.trans y;refine⟨B,m,_,rfl,rfl,c.seq Oh.sq,SqL.of M,_,rfl,?_⟩;rw[mapE]
  cases eh:z.isEmpty with
  |true=>exact iteF (iteF ⟨rfl,c,rfl⟩)
  |false=>
   refine iteT ⟨_,rfl,_,rfl,p,B,Y,ns,z,n,1,rfl,Oh.mono c,Sh,λH3 i=>⟨_,rfl,?_⟩⟩;have b:=c.trans i
   cases er:rwB 1 z with
   |true=>exact iteF ⟨rfl,b,rfl⟩
   |false=>
    rw[eh,er]at k;exact iteT (k _ b)
 rintro zU e t J⟨rfl,y,z2⟩;subst e;rw[z2,Bool.true_and]at k;refine dA (λt U=>t=[some (.ref p),some (.ref B),some (.ref F),some (.ref lt)]×' Same H U×'(r.isEmpty||rwB (-1) r)=true) ?_ ?_
 ·refine⟨_,rfl,by decide,λj G=>?_⟩;obtain⟨H3,zq,i,S⟩:=uG (o:=.lst []) G;rw[zq];have b:=y.trans i;refine⟨lt,j,_,rfl,rfl,b.seq Z.sq,SqL.of S,_,rfl,?_⟩;rw[mapE]
  cases et:r.isEmpty with
  |true=>exact iteF (iteF ⟨rfl,b,rfl⟩)
  |false=>
   refine iteT ⟨_,rfl,_,rfl,_,rfl,p,lt,Y,ns,r,n,-1,rfl,Z.mono b,St,λH4 s4=>⟨_,rfl,?_⟩⟩;have R:=b.trans s4;dsimp only
   cases er:rwB (-1) r with
   |true=>exact iteF ⟨rfl,R,rfl⟩
   |false=>
    rw[et,er]at k;exact iteT (k _ R)
 rintro zU e t H3⟨rfl,i,z3⟩;subst e;rw[z3,Bool.true_and]at k;refine⟨_,rfl,_,rfl,p,F,Y,ns,O,rfl,Op.mono i,λH4 s4=>⟨_,rfl,?_⟩⟩;have L:=i.trans s4
 cases en:decide (bS O).Nodup with
 |false=>
  rw[en]at k;exact iteF (k _ L)
 |true=>
  rw[en,Bool.true_and]at k;refine iteT ⟨_,rfl,_,rfl,_,rfl,_,rfl,zL3,λl5 n5=>?_⟩;have s5:=aU (o:=.lst [.ref B,.ref F,.ref lt]) n5;have l:=L.trans s5;exact⟨p,l5,_,Y,ns,[z,O,r],rfl,SqL.of aE,RowAt.snoc (RowAt.snoc (RowAt.snoc (RowAt.nil) ⟨B,rfl,Oh.mono l⟩) ⟨F,rfl,Op.mono l⟩) ⟨lt,rfl,Z.mono l⟩,by simp,λH6 s6=>k _ (l.trans s6)⟩
structure StrAt(K:W.Frag)(a:Ad)(H:Hp)(p t lh lp lt q:Addr)(ps:List (Str×Rat))(ns hd pa ta:List WD)(x:Rat)(n:Nat):Prop where
 tu:H t=some (.tup [.ref lh,.ref lp,.ref lt,.ref q])
 oh:OnNet K a H p lh ps ns hd
 op:OnNet K a H p lp ps ns pa
 ot:OnNet K a H p lt ps ns ta
 fq:FrAt a.Fraction H q x
 sh:WkS n hd
 sp:WkS n pa
 st:WkS n ta
theorem StrAt.mono(d:StrAt K a H p t lh lp lt q ps ns hd pa ta x n)(s:Same H H'):StrAt K a H' p t lh lp lt q ps ns hd pa ta x n:=⟨s _ _ d.tu,d.oh.mono s,d.op.mono s,d.ot.mono s,d.fq.mono s,d.sh,d.sp,d.st⟩
noncomputable def strandB(x:Rat)(hd pa ta:List WD):Bool:=decide (0<sgn x)&&(gm hd pa ta||roadB hd pa ta)
inductive IspStrB(K:W.Frag)(a:Ad)(vs:List V)(H:Hp)(Q:VK):Prop
 |mk(p t lh lp lt q:Addr)(ps:List (Str×Rat))(ns hd pa ta:List WD)(x:Rat)(n:Nat)(h1:vs=[.ref p,.ref t])(h2:StrAt K a H p t lh lp lt q ps ns hd pa ta x n)(h3:∀H',Same H H'->Q (.bl (strandB x hd pa ta)) H'):IspStrB K a vs H Q
noncomputable def spStrB(K:W.Frag)(a:Ad):Sp:=λvs H Q _=>IspStrB K a vs H Q
theorem ok_is_strand(T:TX K mg a):FnB P w K mg base CX0 "is_strand" 13 ["net","strand"] (spStrB K a):=by
 refine T.d_is_strand.okA sc_is_strand λf aa A U s H vs Q E L h=>?_;obtain⟨p,t,m,e,lt,q,I,ns,J,G,F,x,n,rfl,S,k⟩:=h
 refine⟨_,(aD (aH (i:=2) sc_is_strand.nd (aK aQ (pv 1) aC))
  (aD (aH (i:=3) sc_is_strand.nd (aK aQ (pv 1) aC))
  (aD (aH (i:=4) sc_is_strand.nd (aK aQ (pv 1) aC))
  (aX (bO lH rfl (pi_tup (bP (aA (pv 2) (aA (pv 3) (aA (pv 4) aB))))) (aR (i:=5) sc_is_strand.nd) (aF (bJ (fM (eo (aO (ok_is_walk T) L aJ (aA (pv 0) (aA (pv 5) aB))))) (aF (aP hX)) aV)))
  (aD (bJ (aS op_le (eT T.fr (aK aQ (pv 1) aC) (eU T) L aJ) aC) (aF (aP hX)) aV)
  (aF (aP (pe_or (aO (ok_is_round T) L aJ (aA (pv 0) (aA (pv 2) (aA (pv 3) (aA (pv 4) aB))))) (j3 (aO (ok_is_road T) L aJ (aA (pv 0) (aA (pv 2) (aA (pv 3) (aA (pv 4) aB)))))))))))))),?_⟩
 walk_at"q"
 generalize D:i9 _ _=k9
 revert k9
 refine gB λk9 D=>?_;have Y:=SqT.of (K:=K) S.tu;refine⟨_,rfl,t,_,_,_,rfl,rfl,Y,rfl,?_⟩;refine⟨_,rfl,t,_,_,_,rfl,rfl,Y,rfl,?_⟩;refine⟨_,rfl,t,_,_,_,rfl,rfl,Y,rfl,?_⟩;subst D;refine dA (λσ' M=>∃z,σ'=[some (.ref p),some (.ref t),some (.ref m),some (.ref e),some (.ref lt),z]/\Same H M) ?_ ?_
 ·refine⟨_,rfl,_,rfl,_,rfl,zL3,λB N=>?_⟩;obtain⟨H1,zq,y,h1⟩:=uG (o:=.tup [.ref m,.ref e,.ref lt]) N;rw[zq];refine⟨B,rfl,⟨_,SqT.of h1⟩,for_tup (K:=K) (a:=B) (xs:=[.ref m,.ref e,.ref lt]) (λi σ M=>Same H1 M/\∃z,σ=[some (.ref p),some (.ref t),some (.ref m),some (.ref e),some (.ref lt),z]) ⟨Same.refl _,none,rfl⟩ ((by rintro i σ M _⟨s',_⟩;exact SqT.of (s' _ _ h1))) ?_ ?_⟩
  ·rintro i v σ Z j⟨r,z,rfl⟩;have b:=y.trans r
   obtain⟨l,ds,rfl,O⟩:yE2 λl ds=>v=.ref l/\OnNet K a Z p l I ns ds:=by
    match i,j with
    |0,j=>cases j;exact⟨m,J,rfl,S.oh.mono b⟩
    |1,j=>cases j;exact⟨e,G,rfl,S.op.mono b⟩
    |2,j=>cases j;exact⟨lt,F,rfl,S.ot.mono b⟩
    |i+3,j=>cases j
   refine⟨_,rfl,_,rfl,p,l,I,ns,ds,rfl,O,λH3 X=>⟨_,rfl,?_⟩⟩;dsimp only;rw[if_neg (by decide)];exact⟨r.trans X,_,rfl⟩
  ·rintro σ Z⟨r,z,rfl⟩;exact⟨z,rfl,y.trans r⟩
 rintro zU R σ' H1⟨z,rfl,y⟩;have c:=S.mono y;subst R;unfold strandB at k;refine⟨_,rfl,t,_,_,_,rfl,rfl,SqT.of c.tu,rfl,q,x,rfl,c.fq,q,x,rfl,c.fq,_,_,rfl,rfl,_,rfl,ifB (λg=>?_) (λg=>?_)⟩
 ·have g :=g;rw[lM (by lia)]at k;exact k _ y
 ·rw[lQ (by lia),Bool.true_and]at k;refine⟨_,rfl,_,rfl,_,rfl,_,rfl,p,m,e,lt,I,ns,J,G,F,n,rfl,c.oh,c.op,c.ot,c.sh,c.st,λZ r=>⟨_,rfl,?_⟩⟩;have b:=y.trans r
  cases er:gm J G F with
  |true=>
   rw[er]at k;exact iteT (k _ b)
  |false=>
   rw[er]at k;exact iteF ⟨_,rfl,_,rfl,_,rfl,_,rfl,p,m,e,lt,I,ns,J,G,F,n,rfl,c.oh.mono r,c.op.mono r,c.ot.mono r,c.sh,c.st,λH3 X=>k _ (b.trans X)⟩
end
end G
namespace G
open PySem L2
section
inductive IspHeadP(K:W.Frag)(a:Ad)(g:Rat->Rat)(vs:List V)(H:Hp)(Q:VK):Prop
 |mk(p l q:Addr)(ps:List (Str×Rat))(ns ds:List WD)(x:Rat)(n m:Nat)(h1:vs=[.ref p,.ref l,.ref q])(h2:OnNet K a H p l ps ns ds)(h3:FrAt a.Fraction H q x)(h4:WkS n ds)(h5:Bd m x)(h6:m<=7290)(h7:g (aL ds)≠0)(h8:∀r H',H r=none->Same H H'->PlanA a H' r (sA (x/g (aL ds)) ds) 6->Q (.ref r) H'):IspHeadP K a g vs H Q
noncomputable def spHeadP(K:W.Frag)(a:Ad)(g:Rat->Rat):Sp:=λvs H Q _=>IspHeadP K a g vs H Q
theorem ok_head_plan(T:TX K mg a):FnB P w K mg base CX0 "head_plan" 10 ["net","head","amount"] (spHeadP K a λg=>g-1):=by
 refine T.d_head_plan.okA sc_head_plan λf U A z s H vs Q E j h=>?_;obtain⟨p,l,q,J,ns,t,x,n,m,rfl,O,L,S,I,hm,Y,k⟩:=h
 refine⟨_,(aD (aH (i:=3) sc_head_plan.nd (cM T.fr (aO (fN T) j aJ (aA (pv 0) (aA (pv 1) aB))) (eR T) j aJ (aA (cJ (mk1 T) j T.mg_Fraction aJ (aA aC aB)) aB)))
  (aF (aP (aO (sentA T) j aJ (aA (pv 0) (aA (pv 1) (aA (cM T.fr (pv 2) (ok_over T) j aJ (aA (pv 3) aB)) aB))))))),?_⟩
 walk_at"q"
 refine⟨_,rfl,_,rfl,p,l,J,ns,t,n,rfl,O,S.b,by have:=S.n;lia,by have:=S.l;lia,λg H1 R D=>?_⟩;refine⟨g,_,rfl,D,1,1,rfl,by decide,sm1,λo H2 no M G=>?_⟩;rw[show Rat.divInt 1 1=1 from rfl]at G;have F:Bd 801 (aL t-1):=(S.g.sub Bd.one).mono (by decide);refine⟨g,o,_,_,rfl,D.mono M,G,S.g.s9,Bd.one.s9,True.intro,λr H3 nr X fr=>?_⟩;have e:=R.trans (M.trans X);refine⟨_,rfl,_,rfl,_,rfl,q,x,rfl,L.mono e,_,rfl,q,r,_,_,rfl,L.mono e,fr,I.smr (by lia),F.s9,Y,λy H4 ny Z fy=>?_⟩;have c:=e.trans Z;exact⟨p,l,y,J,ns,t,_,n,m+801,rfl,O.mono c,fy,S,I.div F,by lia,λr' N B s5 pl=>k r' N (c.free B) (c.trans s5) pl⟩
theorem ok_tail_plan(T:TX K mg a):FnB P w K mg base CX0 "tail_plan" 10 ["net","tail","amount"] (spHeadP K a λg=>1-g):=by
 refine T.d_tail_plan.okA sc_tail_plan λf U A z s H vs Q E j h=>?_;obtain⟨p,l,q,J,ns,t,x,n,m,rfl,O,L,S,I,hm,Y,k⟩:=h
 refine⟨_,(aD (aH (i:=3) sc_tail_plan.nd (cM T.fr (cJ (mk1 T) j T.mg_Fraction aJ (aA aC aB)) (eR T) j aJ (aA (aO (fN T) j aJ (aA (pv 0) (aA (pv 1) aB))) aB)))
  (aF (aP (aO (sentA T) j aJ (aA (pv 0) (aA (pv 1) (aA (cM T.fr (pv 2) (ok_over T) j aJ (aA (pv 3) aB)) aB))))))),?_⟩
 walk_at"q"
 refine⟨1,1,rfl,by decide,sm1,λo H1 no F B=>?_⟩;rw[show Rat.divInt 1 1=1 from rfl]at B;refine⟨o,_,rfl,B,_,rfl,_,rfl,p,l,J,ns,t,n,rfl,O.mono F,S.b,by have:=S.n;lia,by have:=S.l;lia,λg H2 M R=>?_⟩;have G:Bd 801 (1-aL t):=(Bd.one.sub S.g).mono (by decide);refine⟨o,g,_,_,rfl,B.mono M,R,Bd.one.s9,S.g.s9,True.intro,λr H3 nr X fr=>?_⟩;have e:=F.trans (M.trans X);refine⟨_,rfl,_,rfl,_,rfl,q,x,rfl,L.mono e,_,rfl,q,r,_,_,rfl,L.mono e,fr,I.smr (by lia),G.s9,Y,λy H4 ny Z fy=>?_⟩;have c:=e.trans Z;exact⟨p,l,y,J,ns,t,_,n,m+801,rfl,O.mono c,fy,S,I.div G,by lia,λr' N D s5 pl=>k r' N (c.free D) (c.trans s5) pl⟩
noncomputable def roadA(x:Rat)(hd pa ta:List WD)(n:Str):Rat:=sA x pa n+(if hd.isEmpty=true then 0 else sA (x/(aL hd-1)) hd n)+(if ta.isEmpty=true then 0 else sA (aL pa*x/(1-aL ta)) ta n)
inductive IspRoadP(K:W.Frag)(a:Ad)(vs:List V)(H:Hp)(Q:VK):Prop
 |mk(p lh lp lt q:Addr)(ps:List (Str×Rat))(ns hd pa ta:List WD)(x:Rat)(n m:Nat)(h1:vs=[.ref p,.ref lh,.ref lp,.ref lt,.ref q])(h2:OnNet K a H p lh ps ns hd)(h3:OnNet K a H p lp ps ns pa)(h4:OnNet K a H p lt ps ns ta)(h5:FrAt a.Fraction H q x)(h6:WkS n hd)(h7:WkS n pa)(h8:WkS n ta)(h9:Bd m x)(h10:m<=6370)(h11:(hd.isEmpty=false->aL hd-1≠0))(h12:(ta.isEmpty=false->1-aL ta≠0))(h13:∀r H',H r=none->Same H H'->PlanA a H' r (roadA x hd pa ta) 18->Q (.ref r) H'):IspRoadP K a vs H Q
noncomputable def spRoadP(K:W.Frag)(a:Ad):Sp:=λvs H Q _=>IspRoadP K a vs H Q
theorem PlanA.wide(h:PlanA a H r A m)(hm:m<=n)(e:A=B):PlanA a H r B n:=by
 obtain⟨b,j,l,o,i,p,c⟩:=h;rw[<-e];exact⟨b,j,l,o,i,by lia,c⟩
theorem ok_road_plan(T:TX K mg a):FnB P w K mg base CX0 "road_plan" 11 ["net","head","path","tail","amount"] (spRoadP K a):=by
 refine T.d_road_plan.okA sc_road_plan λf ag A ad s H vs Q E L h=>?_;obtain⟨p,lh,lp,lt,q,ps,ns,j,B,ta,x,n,m,rfl,Oh,Op,Ot,fq,Sh,t,St,X,hm,gh,gt,k⟩:=h
 refine⟨_,(aX (aH (i:=5) sc_road_plan.nd (aO (sentA T) L aJ (aA (pv 0) (aA (pv 2) (aA (pv 4) aB)))))
  (aX (bJ (aS (gw L.units0) (pv 1) (bH aB)) (aF (aH (i:=5) sc_road_plan.nd (aO (togA T) L aJ (aA (pv 5) (aA (aO (ok_head_plan T) L aJ (aA (pv 0) (aA (pv 1) (aA (pv 4) aB)))) aB))))) aV)
  (aX (bJ (aS (gw L.units0) (pv 3) (bH aB)) (aD (aH (i:=6) sc_road_plan.nd (cM T.fr (aO (fN T) L aJ (aA (pv 0) (aA (pv 2) aB))) (gf T) L aJ (aA (pv 4) aB)))
  (aF (aH (i:=5) sc_road_plan.nd (aO (togA T) L aJ (aA (pv 5) (aA (aO (ok_tail_plan T) L aJ (aA (pv 0) (aA (pv 3) (aA (pv 6) aB)))) aB)))))) aV)
  (aF (aP (pv 5)))))),?_⟩
 walk_at"q"
 refine dA (λM O=>yE1 λr=>M=[some (.ref p),some (.ref lh),some (.ref lp),some (.ref lt),some (.ref q),some (.ref r),none]×' H r=none×' Same H O×' PlanA a O r (sA x B) 6) ?_ ?_
 ·exact⟨_,rfl,_,rfl,_,rfl,p,lp,q,ps,ns,B,x,n,m,rfl,Op,fq,t,X,by lia,λr H1 nr s1 N=>⟨r,rfl,nr,s1,N⟩⟩
 rintro zU J M H1⟨r,rfl,nr,s1,N⟩;have ab:∀y,Bd 7170 (sA x B y):=λy=>(t.sA X y).mono (by lia);subst J;refine dA (λM O=>yE1 λr=>M=[some (.ref p),some (.ref lh),some (.ref lp),some (.ref lt),some (.ref q),some (.ref r),none]×' H r=none×' Same H O×' PlanA a O r (λy=>sA x B y+if j.isEmpty=true then 0 else sA (x/(aL j-1)) j y) 12) ?_ ?_
 ·refine⟨_,rfl,by decide,λG S=>?_⟩;obtain⟨H2,zq,D,h2⟩:=uG (o:=.lst []) S;rw[zq];have c:=s1.trans D;refine⟨lh,G,_,rfl,rfl,c.seq Oh.sq,SqL.of h2,_,rfl,?_⟩;rw[mapE]
  cases eh:j.isEmpty with
  |true=>exact iteF ⟨r,rfl,nr,c,(N.mono D).wide (by decide) (funext λy=>by rw[if_pos rfl,mU])⟩
  |false=>
   refine iteT ⟨_,rfl,_,rfl,_,rfl,_,rfl,p,lh,q,ps,ns,j,x,n,m,rfl,Oh.mono c,fq.mono c,Sh,X,by lia,gh eh,λr2 H3 R Z I=>?_⟩;have bh:∀y,Bd 7971 (sA (x/(aL j-1)) j y):=λy=>(Sh.sA (X.div ((Sh.g.sub Bd.one).mono (show 800+0+1<=801 by decide))) y).mono (by lia);refine⟨r,r2,_,_,6,6,7971,rfl,(N.mono (D.trans Z)),I,by decide,λy=>⟨(ab y).mono (by decide),bh y⟩,by decide,λr3 H4 Y s4 U=>?_⟩;have F:=c.trans (Z.trans s4);exact⟨r3,rfl,c.free (Z.free Y),F,U.wide (by decide) (funext λy=>by rw[if_neg (by decide)])⟩
 rintro zU J M H1⟨r,rfl,nr,s1,N⟩
 have af:∀y,Bd 8772 (sA x B y+if j.isEmpty=true then 0 else sA (x/(aL j-1)) j y):=λy=>by
  cases eh:j.isEmpty with
  |true=>rw[if_pos rfl,mU];exact(ab y).mono (by decide)
  |false=>
   rw[if_neg (by decide)]
   have e:sA x B y+sA (x/(aL j-1)) j y=x*(sA 1 B y+(aL j-1)⁻¹*sA 1 j y):=by
    have e1:=sA_mul x y B 1;have G:=sA_mul x y j (aL j-1)⁻¹;have e3:=sA_mul (aL j-1)⁻¹ y j 1;rw[Rat.mul_one]at e1 e3;rw[mi,e1,G,e3,Rat.mul_add]
   rw[e];exact(X.mul ((t.sA Bd.one y).add ((Sh.g.sub Bd.one).inv.mul (Sh.sA Bd.one y)))).mono (by lia)
 subst J;refine dA (λM O=>yE2 λr z6=>M=[some (.ref p),some (.ref lh),some (.ref lp),some (.ref lt),some (.ref q),some (.ref r),z6]×' H r=none×' Same H O×' PlanA a O r (roadA x j B ta) 18) ?_ ?_
 ·refine⟨_,rfl,by decide,λG S=>?_⟩;obtain⟨H2,zq,D,h2⟩:=uG (o:=.lst []) S;rw[zq];have c:=s1.trans D;refine⟨lt,G,_,rfl,rfl,c.seq Ot.sq,SqL.of h2,_,rfl,?_⟩;rw[mapE]
  cases et:ta.isEmpty with
  |true=>exact iteF ⟨r,_,rfl,nr,c,(N.mono D).wide (by decide) (funext λy=>by unfold roadA;rw[et,if_pos rfl,mU])⟩
  |false=>
   refine iteT ⟨_,rfl,_,rfl,p,lp,ps,ns,B,n,rfl,Op.mono c,t.b,by have:=t.n;lia,by have:=t.l;lia,λg H3 Z fg=>?_⟩;have ac:=c.trans Z;refine⟨g,_,rfl,fg,_,rfl,g,q,_,_,rfl,fg,fq.mono ac,t.g.s9,X.smr (by lia),True.intro,λy H4 ny s4 fy=>?_⟩;have F:=ac.trans s4;have aa:Bd 7170 (aL B*x):=(t.g.mul X).mono (by lia);refine⟨_,rfl,_,rfl,_,rfl,_,rfl,p,lt,y,ps,ns,ta,_,n,7170,rfl,Ot.mono F,fy,St,aa,by decide,gt et,λr2 H5 R s5 I=>?_⟩;have bt:∀z,Bd 8771 (sA (aL B*x/(1-aL ta)) ta z):=λz=>(St.sA (aa.div ((Bd.one.sub St.g).mono (show 0+800+1<=801 by decide))) z).mono (by decide);refine⟨r,r2,_,_,12,6,8772,rfl,N.mono (D.trans (Z.trans (s4.trans s5))),I,by decide,λz=>⟨af z,(bt z).mono (by decide)⟩,by decide,λr3 H6 Y s6 U=>?_⟩;have ae:=F.trans (s5.trans s6);exact⟨r3,_,rfl,F.free (s5.free Y),ae,U.wide (by decide) (funext λz=>by unfold roadA;rw[et,if_neg (show¬false=true by decide)])⟩
 rintro zU J M H2⟨r2,z6,rfl,R,D,I⟩;subst J;exact⟨_,rfl,k r2 H2 R D I⟩
noncomputable def strA(x:Rat)(hd pa ta:List WD)(n:Str):Rat:=if gm hd pa ta=true then sA x hd n else roadA x hd pa ta n
inductive IspStrP(K:W.Frag)(a:Ad)(vs:List V)(H:Hp)(Q:VK):Prop
 |mk(p t lh lp lt q:Addr)(ps:List (Str×Rat))(ns hd pa ta:List WD)(x:Rat)(n m:Nat)(h1:vs=[.ref p,.ref t])(h2:StrAt K a H p t lh lp lt q ps ns hd pa ta x n)(h3:Bd m x)(h4:m<=6370)(h5:strandB x hd pa ta=true)(h6:(gm hd pa ta=false->(hd.isEmpty=false->aL hd-1≠0)/\(ta.isEmpty=false->1-aL ta≠0)))(h7:∀r H',H r=none->Same H H'->PlanA a H' r (strA x hd pa ta) 18->Q (.ref r) H'):IspStrP K a vs H Q
noncomputable def spStrP(K:W.Frag)(a:Ad):Sp:=λvs H Q _=>IspStrP K a vs H Q
theorem ok_strand_plan(T:TX K mg a):FnB P w K mg base CX0 "strand_plan" 14 ["net","strand"] (spStrP K a):=by
 refine T.d_strand_plan.okA sc_strand_plan λf Y A G s H vs Q E F h=>?_;obtain⟨p,t,D,J,lt,q,B,ns,l,z,o,x,n,m,rfl,S,U,hm,ok,Z,k⟩:=h
 refine⟨_,(aD (bJ (fM (eo (aO (ok_is_strand T) F aJ (aA (pv 0) (aA (pv 1) aB))))) (aF cY) aV)
  (aD (aH (i:=2) sc_strand_plan.nd (aK aQ (pv 1) aC))
  (aD (aH (i:=3) sc_strand_plan.nd (aK aQ (pv 1) aC))
  (aD (aH (i:=4) sc_strand_plan.nd (aK aQ (pv 1) aC))
  (aD (bJ (eo (aO (ok_is_round T) F aJ (aA (pv 0) (aA (pv 2) (aA (pv 3) (aA (pv 4) aB)))))) (aF (aP (aO (sentA T) F aJ (aA (pv 0) (aA (pv 2) (aA (aK aQ (pv 1) aC) aB)))))) aV)
  (aF (aP (aO (ok_road_plan T) F aJ (aA (pv 0) (aA (pv 2) (aA (pv 3) (aA (pv 4) (aA (aK aQ (pv 1) aC) aB))))))))))))),?_⟩
 walk_at"q"
 refine⟨_,rfl,_,rfl,p,t,D,J,lt,q,B,ns,l,z,o,x,n,rfl,S,λH1 R=>⟨_,rfl,?_⟩⟩;dsimp only;rw[ok,if_neg (by decide)];have e:=S.mono R;have N:=SqT.of (K:=K) e.tu;refine⟨_,rfl,t,_,_,_,rfl,rfl,N,rfl,?_⟩;refine⟨_,rfl,t,_,_,_,rfl,rfl,N,rfl,?_⟩;refine⟨_,rfl,t,_,_,_,rfl,rfl,N,rfl,?_⟩;refine⟨_,rfl,_,rfl,_,rfl,_,rfl,p,D,J,lt,B,ns,l,z,o,n,rfl,e.oh,e.op,e.ot,e.sh,e.st,λH2 X=>⟨_,rfl,?_⟩⟩;have b:=e.mono X;have c:=R.trans X;have j:=SqT.of (K:=K) b.tu
 cases er:gm l z o with
 |true=>
  exact iteT ⟨_,rfl,_,rfl,_,rfl,t,_,_,_,rfl,rfl,j,rfl,p,D,q,B,ns,l,x,n,m,rfl,b.oh,b.fq,b.sh,U,by lia,λr L M I O=>k r L (c.free M) (c.trans I) (O.wide (by decide) (funext λy=>by unfold strA;rw[er,if_pos rfl]))⟩
 |false=>
  obtain⟨g1,g2⟩:=Z er;exact iteF ⟨_,rfl,_,rfl,_,rfl,_,rfl,_,rfl,t,_,_,_,rfl,rfl,j,rfl,p,D,J,lt,q,B,ns,l,z,o,x,n,m,rfl,b.oh,b.op,b.ot,b.fq,b.sh,b.sp,b.st,U,hm,g1,g2,λr L M I O=>k r L (c.free M) (c.trans I) (O.wide (by decide) (funext λy=>by unfold strA;rw[er,if_neg (by decide)]))⟩
end
end G
namespace G
open PySem L2
section
theorem kN(h:n<=1000):n<=sizeLine:=by rw[PySem.sizeLine_eq];lia
theorem one_len:(⟨#[c]⟩:Str).length=1:=rfl
theorem bR(x:Int)(h:0<m):0<=x%m/\x%m<m:=⟨Int.emod_nonneg x (by lia),Int.emod_lt_of_pos x h⟩
inductive IspCellW(K:W.Frag)(vs:List V)(H:Hp)(Q:VK):Prop
 |mk(l:Addr)(ns:List Int)(k:Int)(h1:vs=[.ref l,.int k])(h2:SqL K H l (ns.map V.int))(h3:0<=k)(h4:k<=1000)(h5:∀c:Int,Q (.int c) H):IspCellW K vs H Q
noncomputable def spCellW(K:W.Frag):Sp:=λvs H Q _=>IspCellW K vs H Q
theorem cA(T:TX K mg a):FnB P w K mg base CX0 "_law_cell_at" 1 ["_law_script","_law_k"] (spCellW K):=by
 refine T.d_law_cell_at.okA sc_law_cell_at λf B A m s H I Q E L h=>?_;obtain⟨l,ns,i,rfl,b,e,t,k⟩:=h
 refine⟨_,(aD (bJ (aS jo (pv 1) (bV cO (by rfl) T.z_len mR (aA (pv 0) aB))) (aF (aP (aK bC (pv 0) (pv 1)))) aV)
  (aD (bJ (aS e7 (bV cO (by rfl) T.z_len mR (aA (pv 0) aB)) aC) (aF (aP aC)) aV)
  (aF (aP (aM bE (aM op_mul (aK bC (pv 0) (aM bE (pv 1) (bV cO (by rfl) T.z_len mR (aA (pv 0) aB)))) (aM bQ aC (aM op_mul (pv 1) (pv 1)))) aC))))),?_⟩
 walk_at"q"
 have get:∀j:Int,0<=j->j<ns.length->∃c,atI (ns.map V.int) j=some (.int c):=λj p D=>by
  obtain⟨n,rfl⟩:=nI p;have G:n<ns.length:=by lia
  exact⟨ns[n],atI_nat (by rw[lg,lz G];rfl)⟩
 refine⟨_,rfl,_,rfl,_,_,rfl,.inl b,_,_,rfl,rfl,_,rfl,?_⟩;rw[kX];refine ifB (λq=>?_) (λz=>?_)
 ·obtain⟨c,o⟩:=get i e q;exact⟨_,rfl,_,rfl,l,_,_,_,rfl,rfl,b,o,k c⟩
 ·refine⟨_,rfl,_,_,rfl,.inl b,rfl,_,rfl,?_⟩;rw[kX];refine ifV (λp=>k 0) (λp=>?_);have r:(0:Int)<ns.length:=by lia
  obtain⟨F,y⟩:=bR i r;obtain⟨c,o⟩:=get _ F y;have D :=Int.mul_le_mul t t e (by decide);have J :=Int.mul_nonneg e e;refine⟨_,rfl,_,rfl,_,rfl,l,_,rfl,.inl b,_,_,rfl,rfl,by rw[kX];exact r,l,_,_,_,rfl,rfl,b,by rw[kX];exact o,?_⟩;refine⟨_,rfl,_,rfl,_,_,rfl,rfl,.inl ⟨by lia,by lia⟩,_,_,rfl,rfl,_,_,rfl,rfl,.inr ⟨by lia,by lia⟩,_,_,rfl,rfl,zI1000003,?_⟩;exact k _
structure Names(ns:List Str)(n:Nat):Prop where
 len:ns.length=n
 nd:ns.Nodup
 sm:∀x∈ns,x.length<=200
inductive IspNames(vs:List V)(H:Hp)(Q:VK):Prop
 |mk(c:Int)(n:Nat)(h1:vs=[.int c,.int n])(h2:n<=37)(h3:∀l H' ns,H l=none->Same H H'->H' l=some (.lst (ns.map V.str))->Names ns n->Q (.ref l) H'):IspNames vs H Q
noncomputable def spNames(K:W.Frag):Sp:=λvs H Q _=>IspNames vs H Q
theorem take_range{f:Nat->Str}(i:Nat):((List.range (i+1)).map f)=((List.range i).map f)++[f i]:=by rw[List.range_succ,lj];rfl
theorem names_of(inj:∀i j,i<n->j<n->f i=f j->i=j)(sm:∀i,i<n->(f i).length<=200):Names ((List.range n).map f) n:=by
 refine⟨by simp,?_,λx b=>?_⟩
 ·rw[List.nodup_iff_pairwise_ne,List.pairwise_map];refine(List.nodup_range).imp_of_mem ?_;intro i j a c ne e;exact ne (inj i j (List.mem_range.mp a) (List.mem_range.mp c) e)
 ·obtain⟨i,a,rfl⟩:=k8.mp b;exact sm i (List.mem_range.mp a)
theorem rep_len(c:Nat)(n:Int):(Txt.mul ⟨#[c]⟩ n).length=n.toNat:=by rw[len_cps,mul_cps,List.length_replicate]
noncomputable def nmA(c:Int)(k:Nat):Str:=Txt.mul ⟨#[sgAt (c/4%37)]⟩ ((0+(k:Int))+1)
noncomputable def nmB(f:Str)(at_ c:Int)(k:Nat):Str:=(Txt.slice f none (some at_)++⟨#[sgAt ((0+(k:Int)+c/7)%37)]⟩)++Txt.slice f (some at_) none
theorem nmA_names(h:n<=37):Names ((List.range n).map (nmA c)) n:=by
 refine names_of (λi j _ _ e=>?_) λi a=>?_
 ·have:=mj Str.length e
  unfold nmA at this;rw[rep_len,rep_len]at this
  lia
 ·unfold nmA;rw[rep_len]
  lia
theorem nmB_names(h:n<=37)(hf:f.length<=60):Names ((List.range n).map (nmB f at_ c)) n:=by
 refine names_of (λi j l r e=>?_) λi l=>?_
 ·have a:=app_left (app_right e)
  have b:sgAt ((0+(i:Int)+c/7)%37)=sgAt ((0+(j:Int)+c/7)%37):=by
   have:=mj (λu:Str=>u.cps.toList) a
   simpa using this
  obtain⟨s,m⟩:=bR (0+(i:Int)+c/7) (show(0:Int)<37 by decide);obtain⟨t,q⟩:=bR (0+(j:Int)+c/7) (show(0:Int)<37 by decide);have o:=sgAt_inj _ (by lia) _ (by lia) b
  lia
 ·unfold nmB;have w:=Txt.slice_le f none (some at_);have p:=Txt.slice_le f (some at_) none;rw[PySem.strLen_append,PySem.strLen_append,one_len]
  lia
theorem kH(T:TX K mg a):FnB P w K mg base CX0 "_law_names" 1 ["_law_cell","_law_count"] (spNames K):=by
 refine T.d_law_names.okA sc_law_names λf X A L s H vs Q E hr h=>?_;obtain⟨c,n,rfl,O,k⟩:=h
 refine⟨_,(aD (aH (i:=2) sc_law_names.nd pe_str)
  (aD (bJ (aS e7 (aM bE (pv 0) aC) aC) (aF (aP (gc (xs:=["_law_k"]) (rest:=["_law_cell","_law_signs"]) rfl (dM rfl T.z_range (aA (pv 1) aB))
  (λe B F D G=>(aR (i:=0) (show(["_law_k","_law_cell","_law_signs"]:List Str).Nodup by decide+kernel))) (λe B F D G=>eI)
  (λe B F D G=>(aM op_rep_str (aK ix_str (pv 2) (aM bE (aM cP (pv 1) aC) aC)) (aM bQ (pv 0) aC)))
  (Clos.many (ys:=["_law_signs","_law_cell"]) rfl ⟨rfl,rfl,True.intro⟩ rfl (by decide+kernel)) (Reads.many (ys:=["_law_cell","_law_signs"]) (js:=[0,2]) ⟨⟨rfl,rfl,rfl⟩,⟨rfl,rfl,rfl⟩,True.intro⟩)))) aV)
  (aD (aH (i:=3) sc_law_names.nd (aM op_rep_str (aK ix_str (pv 2) (aM bE (aM cP (pv 0) aC) aC)) (aK bC (bH (aA aC (aA aC (aA aC (aA aC aB))))) (aM bE (aM cP (pv 0) aC) aC))))
  (aD (aH (i:=4) sc_law_names.nd (aM bE (aM cP (pv 0) aC) (aM bQ (bV call_len_str (by rfl) T.z_len mR (aA (pv 3) aB)) aC)))
  (aF (aP (gc (xs:=["_law_k"]) (rest:=["_law_at","_law_cell","_law_fill","_law_signs"]) rfl (dM rfl T.z_range (aA (pv 1) aB))
  (λe B F D G=>(aR (i:=0) (show(["_law_k","_law_at","_law_cell","_law_fill","_law_signs"]:List Str).Nodup by decide+kernel))) (λe B F D G=>eI)
  (λe B F D G=>(aM op_add_str (aM op_add_str (gT sl_str (pv 3) iQ (iP (pv 1))) (aK ix_str (pv 4) (aM bE (aM bQ (pv 0) (aM cP (pv 2) aC)) aC))) (gT sl_str (pv 3) (iP (pv 1)) iQ)))
  (Clos.many (ys:=["_law_signs","_law_fill","_law_cell","_law_at"]) rfl ⟨rfl,rfl,rfl,rfl,True.intro⟩ rfl (by decide+kernel)) (Reads.many (ys:=["_law_at","_law_cell","_law_fill","_law_signs"]) (js:=[4,0,3,2]) ⟨⟨rfl,rfl,rfl⟩,⟨rfl,rfl,rfl⟩,⟨rfl,rfl,rfl⟩,⟨rfl,rfl,rfl⟩,True.intro⟩)))))))),?_⟩
 walk_at"q"
 obtain⟨N,S⟩:=bR (c/4) (show(0:Int)<37 by decide);walk_at"rd"
 refine ifV (λq=>?_) (λq=>?_)
 ·refine⟨_,rfl,(n:Int),rfl,by lia,by lia,λl r=>?_⟩;refine fj (λi p=>i<=n×' Same H p×' p l=some (.lst (((List.range i).map (nmA c)).map V.str))) ⟨lD _,aU r,aE⟩ ?_ ?_
  ·rintro i p J⟨_,y,q⟩;refine g1 ⟨⟨[_],rfl,rfl⟩,yes ?_⟩;have t:i<n:=by simpa using J
   walk_at"rd"
   refine⟨by rw[PySem.sizeLine_eq];decide,sgAt_some N S,?_⟩;walk_at"rd"
   refine⟨show(0+(i:Int)+1).natAbs<1000 by lia,?_⟩;refine⟨_,q,aT (by rw[kX,kX,nH];lia),fE (by simpa using J) ⟨t,aY r y,?_⟩⟩;rw[aE,take_range,lj];rfl
  ·rintro p⟨_,y,q⟩;exact k l p _ r y q (by simpa using nmA_names (c:=c) O)
 ·obtain⟨q0,q1⟩:=bR (c/148) (show(0:Int)<4 by decide);walk_at"rd"
  refine⟨by rw[PySem.sizeLine_eq];decide,sgAt_some N S,by decide,λz Y=>?_⟩;obtain⟨H1,zq,sz,R⟩:=uG (o:=.lst [.int 0,.int 1,.int 3,.int 59]) Y;rw[zq]
  have I:yE1 λ(m:Int)=>atI [V.int 0,.int 1,.int 3,.int 59] (c/148%4)=some (.int m)×' 0<=m×' m<=59:=by
   obtain⟨j,hj⟩:=nI q0;rw[hj]at q1⊢
   have:j=0∨j=1∨j=2∨j=3:=by lia
   rcases this with rfl|rfl|rfl|rfl
   ·exact⟨0,rfl,by decide,by decide⟩
   ·exact⟨1,rfl,by decide,by decide⟩
   ·exact⟨3,rfl,by decide,by decide⟩
   ·exact⟨59,rfl,by decide,by decide⟩
  obtain⟨m,Z,m0,m1⟩:=I;walk_at"rd"
  refine⟨z,_,_,_,rfl,rfl,SqL.of R,Z,?_⟩;walk_at"rd"
  refine⟨show m.natAbs<1000 by lia,?_⟩;have fl:=rep_len (sgAt (c/4%37)) m;generalize Txt.mul ⟨#[sgAt (c/4%37)]⟩ m=b at fl⊢;have M:b.length<=60:=by lia
  walk_at"rd"
  refine⟨kN (by lia),?_⟩;walk_at"rd"
  refine⟨show(0:Int)<(b.length:Int)+1 by lia,?_⟩;refine⟨_,rfl,(n:Int),rfl,by lia,by lia,λl r=>?_⟩;refine fj (λi p=>i<=n×' Same H1 p×' p l=some (.lst (((List.range i).map (nmB b (c/592%((b.length:Int)+1)) c)).map V.str))) ⟨lD _,aU r,aE⟩ ?_ ?_
  ·rintro i p J⟨_,y,q⟩;refine g1 ⟨⟨[_],rfl,rfl⟩,yes ?_⟩;have t:i<n:=by simpa using J
   obtain⟨r1,U⟩:=bR (0+(i:Int)+c/7) (show(0:Int)<37 by decide);have l1:=Txt.slice_le b none (some (c/592%((b.length:Int)+1)));have l2:=Txt.slice_le b (some (c/592%((b.length:Int)+1))) none;refine⟨_,rfl,_,rfl,_,rfl,b,rfl,kN (by lia),?_⟩;walk_at"rd"
   refine⟨by rw[PySem.sizeLine_eq];decide,sgAt_some r1 U,?_⟩;walk_at"rd"
   refine⟨by rw[one_len];exact kN (by lia),?_⟩;walk_at"rd"
   refine⟨kN (by lia),?_⟩;walk_at"rd"
   refine⟨by rw[PySem.strLen_append,one_len];exact kN (by lia),?_⟩;refine⟨_,q,aT (by rw[kX,kX,nH];lia),fE (by simpa using J) ⟨t,aY r y,?_⟩⟩;rw[aE,take_range,lj];rfl
  ·rintro p⟨_,y,q⟩;exact k l p _ (sz.free r) (sz.trans y) q (by simpa using nmB_names (c:=c) O M)
structure G5(t b:Int):Prop where
 t0:1<=t
 t1:t<=5
 b0:1<=b
 b1:b<=5
theorem ok_law_gain(T:TX K mg a):FnB P w K mg base CX0 "_law_gain" 1 ["_law_cell"] (λvs H Q _=>∃c:Int,vs=[.int c]/\∀t b p,G5 t b->H p=none->Q (.ref p) (upd H p (.tup [.int t,.int b]))):=by
 refine T.d_law_gain.okA sc_law_gain (λf j A e s H vs Q E y h=>?_) (λvs H Q E h=>?_)
 rotate_left
 ·obtain⟨_,rfl,_⟩:=h;rfl
 ·obtain⟨c,rfl,k⟩:=h
  refine⟨_,(aD (bJ (aS e7 (aM bE (pv 0) aC) aC) (aF (aP (bP (aA aC (aA aC aB))))) aV)
   (aF (aP (bP (aA (aM bQ aC (aM bE (aM cP (pv 0) aC) aC)) (aA (aM bQ aC (aM bE (aM cP (pv 0) aC) aC)) aB)))))),?_⟩
  walk_at"q"
  walk_at"rd"
  refine ifV (λl=>?_) (λl=>?_)
  ·exact⟨zL2,λp i=>k 1 1 p ⟨by decide,by decide,by decide,by decide⟩ i⟩
  ·obtain⟨o,m⟩:=bR (c/3) (show(0:Int)<5 by decide);obtain⟨q,r⟩:=bR (c/15) (show(0:Int)<5 by decide);walk_at"rd"
   exact⟨zL2,λp i=>k _ _ p ⟨by lia,by lia,by lia,by lia⟩ i⟩
structure FB(t b:Int):Prop where
 t0:1<=t
 t1:t<=8
 b0:1<=b
 b1:b<=8
inductive IspFac(vs:List V)(H:Hp)(Q:VK):Prop
 |mk(c:Int)(e:Bool)(h1:vs=[.int c,.bl e])(h2:∀t b p,FB t b->(e=true->t=b)->(e=false->b<t)->H p=none->Q (.ref p) (upd H p (.tup [.int t,.int b]))):IspFac vs H Q
noncomputable def spFac:Sp:=λvs H Q _=>IspFac vs H Q
theorem jX(T:TX K mg a):FnB P w K mg base CX0 "_law_factor" 1 ["_law_cell","_law_equal"] spFac:=by
 refine T.d_law_factor.okA sc_law_factor λf j A b s H m Q E t h=>?_;obtain⟨c,e,rfl,k⟩:=h
 refine⟨_,(aD (bJ (eo (pv 1)) (aF (aP (bP (aA aC (aA aC aB))))) aV)
  (aF (aP (bP (aA (aM bQ (aM bQ aC (aM bE (aM cP (pv 0) aC) aC)) (aM bE (aM cP (pv 0) aC) aC)) (aA (aM bQ aC (aM bE (aM cP (pv 0) aC) aC)) aB)))))),?_⟩
 walk_at"q"
 refine⟨_,rfl,_,rfl,?_⟩
 cases e with
 |true=>exact iteT ⟨zL2,λp i=>k 1 1 p ⟨by decide,by decide,by decide,by decide⟩ (λ_=>rfl) (λz=>by cases z) i⟩
 |false=>
  obtain⟨o,l⟩:=bR (c/5) (show(0:Int)<5 by decide);obtain⟨q,r⟩:=bR (c/25) (show(0:Int)<3 by decide);refine iteF ⟨_,rfl,_,_,rfl,rfl,⟨by decide,by decide⟩,_,_,rfl,rfl,zI5,_,_,rfl,rfl,_,rfl,_,_,rfl,rfl,⟨by decide,by decide⟩,_,_,rfl,rfl,zI3,_,_,rfl,rfl,_,rfl,_,_,rfl,rfl,⟨by decide,by decide⟩,_,_,rfl,rfl,zI5,_,_,rfl,rfl,zL2,λp i=>k (2+c/5%5+c/25%3) (1+c/5%5) p ⟨by lia,by lia,by lia,by lia⟩ (λz=>by cases z) (λ_=>by lia) i⟩
structure GB(t b:Int):Prop where
 t0:1<=t
 t1:t<=2^12
 b0:1<=b
 b1:b<=2^12
structure WR where
 nm:Str
 st:Str
 go:Str
 t:Int
 b:Int
 k:Int
 co:Int
noncomputable def WR.d(r:WR):WD:=if r.t=r.b/\r.k=0 then⟨r.nm,r.st,r.go,.way,0,(r.co:Rat)⟩else if r.t<=r.b/\r.k=1 then⟨r.nm,r.st,r.go,.lea,Rat.divInt (r.b-r.t) r.b,(r.co:Rat)⟩else⟨r.nm,r.st,r.go,.gro,Rat.divInt r.t r.b,(r.co:Rat)⟩
theorem WR.d_way{r:WR}(h:r.t=r.b/\r.k=0):r.d=⟨r.nm,r.st,r.go,.way,0,(r.co:Rat)⟩:=if_pos h
theorem WR.d_lea{r:WR}(h:¬(r.t=r.b/\r.k=0))(h2:r.t<=r.b/\r.k=1):r.d=⟨r.nm,r.st,r.go,.lea,Rat.divInt (r.b-r.t) r.b,(r.co:Rat)⟩:=(if_neg h).trans (if_pos h2)
theorem WR.d_gro{r:WR}(h:¬(r.t=r.b/\r.k=0))(h2:¬(r.t<=r.b/\r.k=1)):r.d=⟨r.nm,r.st,r.go,.gro,Rat.divInt r.t r.b,(r.co:Rat)⟩:=(if_neg h).trans (if_neg h2)
theorem WR.d_co(r:WR):r.d.co=(r.co:Rat):=by unfold WR.d;split<;>(try split)<;>rfl
theorem WR.d_nm(r:WR):r.d.nm=r.nm:=by unfold WR.d;split<;>(try split)<;>rfl
theorem WR.d_st(r:WR):r.d.st=r.st:=by unfold WR.d;split<;>(try split)<;>rfl
theorem WR.d_go(r:WR):r.d.go=r.go:=by unfold WR.d;split<;>(try split)<;>rfl
theorem kR(h:b≠0):Rat.divInt b b=1:=by
 rw[show(1:Rat)=Rat.divInt 1 1 from rfl,nQ h (by decide)]
 lia
theorem WR.d_gain{r:WR}(h:GB r.t r.b):aW r.d.kd r.d.x=Rat.divInt r.t r.b:=by
 have a:r.b≠0:=by have:=h.b0;lia
 unfold WR.d
 split
 ·rename_i e;rw[e.1,kR a];rfl
 ·split
  ·show 1-Rat.divInt (r.b-r.t) r.b=_;rw[show(1:Rat)=Rat.divInt r.b r.b from(kR a).symm,Rat.divInt_sub_divInt _ _ a a,nQ (Int.mul_ne_zero a a) a];grind
  ·rfl
theorem lt_one(hd:0<d)(h:n<d):Rat.divInt n d<1:=by
 rw[show(1:Rat)=Rat.divInt 1 1 from rfl,lt_div hd (by decide)]
 lia
theorem nn_num(hd:0<d)(h:0<=n):0<=(Rat.divInt n d).num:=Rat.num_nonneg.mpr ((divInt_nn n hd).mpr h)
theorem pos_num(hd:0<d)(h:0<n):0<(Rat.divInt n d).num:=by
 have b:=nn_num hd (Int.le_of_lt h)
 have c:(Rat.divInt n d).num≠0:=λe=>by
  have a:=oe (Rat.divInt n d);rw[e,Rat.zero_divInt]at a
  have:=(nQ (show(1:Int)≠0 by decide) (show d≠0 by lia)).mp (show Rat.divInt 0 1=Rat.divInt n d from by rw[<-a,Rat.zero_divInt])
  lia
 lia
theorem WR.d_sm{r:WR}(h:GB r.t r.b):SmR r.d.x/\Bd 12 (aW r.d.kd r.d.x)/\r.d.kd≠.sto:=by
 obtain⟨b,e,a,c⟩:=h;have i:((2:Int)^12)=((2^12:Nat):Int):=by decide
 refine⟨?_,?_,?_⟩
 ·unfold WR.d
  split
  ·exact⟨Nat.two_pow_pos _,sm1⟩
  ·split
   ·exact(Bd.divInt (n:=12) (by lia) (by lia)).smr (by decide)
   ·exact(Bd.divInt (n:=12) (by lia) (by lia)).smr (by decide)
 ·rw[WR.d_gain ⟨b,e,a,c⟩];exact Bd.divInt (by lia) (by lia)
 ·unfold WR.d
  split
  ·nofun
  ·split<;>nofun
noncomputable def RowIs(H:Hp)(v:V)(r:WR):Prop:=∃p g,v=.ref p/\H p=some (.tup [.str r.st,.str r.go,.ref g,.int r.k])/\H g=some (.tup [.int r.t,.int r.b])
theorem RowIs.mono(h:RowIs H v r)(s:Same H H'):RowIs H' v r:=by
 obtain⟨p,g,e,h1,h2⟩:=h;exact⟨p,g,e,s _ _ h1,s _ _ h2⟩
theorem co_of(co:CoIs a.Fraction H' p (.ref qc) vc)(fc:FrAt a.Fraction H qc x)(s:Same H H'):∃z,vc=.ref z/\FrAt a.Fraction H' z x:=by
 rcases co with⟨_,e⟩|⟨e,_⟩
 ·exact⟨qc,e,fc.mono s⟩
 ·cases e
inductive IspLawWay(a:Ad)(vs:List V)(H:Hp)(Q:VK):Prop
 |mk(v vh:V)(qc:Addr)(r:WR)(h1:vs=[.str r.nm,v,vh,.ref qc])(h2:RowIs H v r)(h3:GB r.t r.b)(h4:r.st≠r.go)(h5:HiOk a.Fraction H vh)(h6:FrAt a.Fraction H qc (r.co:Rat))(h7:∀p H',H p=none->Same H H'->WayIs a H' (.ref p) r.d->Q (.ref p) H'):IspLawWay a vs H Q
noncomputable def spLawWay(a:Ad):Sp:=λvs H Q _=>IspLawWay a vs H Q
theorem ok_law_way(T:TX K mg a):FnB P w K mg base CX0 "_law_way" 7 ["_law_name","_law_parts","_law_high","_law_cost_here"] (spLawWay a):=by
 refine T.d_law_way.okA sc_law_way λf aa A M s H vs Q E I h=>?_;obtain⟨v,vh,qc,r,rfl,⟨p,g,rfl,hp,hg⟩,gb,ne,Y,X,k⟩:=h
 refine⟨_,(aD (aH (i:=4) sc_law_way.nd (aK aQ (pv 1) aC))
  (aX (bJ (PW.pt (gu (aS e7 (aK aQ (pv 4) aC) (aK aQ (pv 4) aC)) (fv (aS e7 (aK aQ (pv 1) aC) aC)))) (aF (aP (pe_mk (mk_Way T) I T.mg_Way aJ (aA (pv 0) (aA (aK aQ (pv 1) aC) (aA (aK aQ (pv 1) aC) (aA (pv 2) (aA (pv 3) aB)))))))) aV)
  (aX (bJ (PW.pt (gu (aS op_le (aK aQ (pv 4) aC) (aK aQ (pv 4) aC)) (fv (aS e7 (aK aQ (pv 1) aC) aC)))) (aF (aP (pe_mk (mk_Leaking T) I T.mg_Leaking aJ (aA (pv 0) (aA (aK aQ (pv 1) aC) (aA (aK aQ (pv 1) aC) (aA (cJ (mk2 T) I T.mg_Fraction aJ (aA (aM eC (aK aQ (pv 4) aC) (aK aQ (pv 4) aC)) (aA (aK aQ (pv 4) aC) aB))) (aA (pv 2) (aA (pv 3) aB))))))))) aV)
  (aF (aP (pe_mk (mk_Growing T) I T.mg_Growing aJ (aA (pv 0) (aA (aK aQ (pv 1) aC) (aA (aK aQ (pv 1) aC) (aA (cJ (mk2 T) I T.mg_Fraction aJ (aA (aK aQ (pv 4) aC) (aA (aK aQ (pv 4) aC) aB))) (aA (pv 2) (aA (pv 3) aB)))))))))))),?_⟩
 walk_at"q"
 generalize G:i9 _ _=k9
 revert k9
 refine gB λk9 G=>?_;have SP:SqT K H p _:=SqT.of hp;have SG:SqT K H g _:=SqT.of hg;have U:atI [V.str r.st,.str r.go,.ref g,.int r.k] 0=some (.str r.st):=rfl;have O:atI [V.str r.st,.str r.go,.ref g,.int r.k] 1=some (.str r.go):=rfl;have a2:atI [V.str r.st,.str r.go,.ref g,.int r.k] 2=some (.ref g):=rfl;obtain⟨t0,t1,b0,b1⟩:=id gb;refine⟨_,rfl,p,_,_,_,rfl,rfl,SP,a2,?_⟩;subst G;refine dA (λF L=>F=[some (.str r.nm),some (.ref p),some vh,some (.ref qc),some (.ref g)]×' L=H×'¬(r.t=r.b/\r.k=0)) ?_ ?_
 ·walk_at"rd"
  refine ifV (λj=>?_) (λj=>?_)
  ·walk_at"rd"
   refine ifV (λm=>?_) (λm=>?_)
   ·refine⟨_,rfl,_,rfl,p,_,_,_,rfl,rfl,SP,U,_,rfl,p,_,_,_,rfl,rfl,SP,O,_,rfl,_,rfl,?_⟩;refine mkW (x:=0) T ne Y λq L B o S e W y=>k q L S e (by rw[WR.d_way ⟨j,m⟩];exact⟨q,_,_,o,rfl,W,by nofun,co_of y X e⟩)
   ·exact⟨rfl,rfl,λz=>m z.2⟩
  ·exact⟨rfl,rfl,λz=>j z.1⟩
 rintro zU Z F L⟨rfl,rfl,n1⟩;subst Z;refine⟨λF D=>F=[some (.str r.nm),some (.ref p),some vh,some (.ref qc),some (.ref g)]×' D=L×'¬(r.t<=r.b/\r.k=1),?_,?_⟩
 ·walk_at"rd"
  refine ifB (λj=>?_) (λj=>?_)
  ·walk_at"rd"
   refine ifV (λm=>?_) (λm=>?_)
   ·refine⟨_,rfl,_,rfl,p,_,_,_,rfl,rfl,SP,U,_,rfl,p,_,_,_,rfl,rfl,SP,O,?_⟩;walk_at"rd"
    refine⟨by lia,(Sm.of_le (n:=12) (by lia) (by decide)),λq H1 S c N=>?_⟩;refine⟨_,rfl,_,rfl,?_⟩;refine mkL T ne N ⟨nn_num (by lia) (by lia),lt_one (by lia) (by lia),(Bd.divInt (n:=12) (by lia) (by lia)).smr (by decide)⟩ (Y.mono c) λJ R B o l e W y=>k J R (c.free l) (c.trans e) (by rw[WR.d_lea n1 ⟨j,m⟩];exact⟨J,_,_,o,rfl,W,by nofun,co_of y X (c.trans e)⟩)
   ·exact⟨rfl,rfl,λz=>m z.2⟩
  ·exact⟨rfl,rfl,λz=>j z.1⟩
 rintro F D⟨rfl,rfl,n2⟩;refine⟨_,rfl,_,rfl,p,_,_,_,rfl,rfl,SP,U,_,rfl,p,_,_,_,rfl,rfl,SP,O,?_⟩;walk_at"rd"
 refine⟨by lia,(Sm.of_le (n:=12) (by lia) (by decide)),λq H1 S c N=>?_⟩;refine⟨_,rfl,_,rfl,?_⟩;refine mkG T ne N (pos_num (by lia) (by lia)) (Y.mono c) λJ R B o l e W y=>k J R (c.free l) (c.trans e) (by rw[WR.d_gro n1 n2];exact⟨J,_,_,o,rfl,W,by nofun,co_of y X (c.trans e)⟩)
theorem val_at[DecidableEq κ]:∀{kvs:List (κ×V)}{i:Nat}{kv:κ×V},(kvs.map (·.1)).Nodup->kvs[i]?=some kv->cV kvs kv.1=some kv.2
 |[],_,_,_,e=>by simp at e
 |p::r,0,kv,_,e=>by
  simp at e;subst e;exact dI rfl
 |p::r,i+1,kv,nd,e=>by
  have e:r[i]?=some kv:=by simpa using e
  obtain⟨b,a⟩:=mB.mp (show(p.1::r.map (·.1)).Nodup from nd);rw[dJ λz=>b (by rw[z];exact k8.mpr ⟨kv,kZ e,rfl⟩)];exact val_at a e
theorem keys_nd{kvs:List (Key×V)}{rs:List WR}(hk:kvs.map (·.1)=rs.map (λr=>Sum.inr r.nm))(nd:(rs.map (·.nm)).Nodup):(kvs.map (·.1)).Nodup:=by
 rw[hk,show(λr:WR=>(Sum.inr r.nm:Key))=(λn=>(Sum.inr n:Key))∘(λr:WR=>r.nm)from rfl,<-mz];exact nd.map _ (λu v h e=>h (ol e))
noncomputable def RowsAt(H:Hp)(d:Addr)(rs:List WR):Prop:=∃kvs,H d=some (.dK kvs)/\kvs.map (·.1)=rs.map (λr=>Sum.inr r.nm)/\RowAt RowIs H (kvs.map (·.2)) rs
theorem RowsAt.mono(h:RowsAt H d rs)(s:Same H H'):RowsAt H' d rs:=by
 obtain⟨kvs,h1,h2,h3⟩:=h;exact⟨kvs,s _ _ h1,h2,h3.mono λv x z=>z.mono s⟩
structure RGood(sp:List Str)(r:WR):Prop where
 gb:GB r.t r.b
 ne:r.st≠r.go
 i1:r.st∈sp
 i2:r.go∈sp
structure RsOk(sp:List Str)(rs:List WR):Prop where
 nd:(rs.map (·.nm)).Nodup
 len:rs.length<=24
 all:∀r∈rs,RGood sp r
theorem RowIs.put(h:RowIs H v r)(hd:H d=some o)(ho:∀xs,o≠.tup xs):RowIs (upd H d o') v r:=by
 obtain⟨p,g,e,b,a⟩:=h;refine⟨p,g,e,?_,?_⟩
 ·rw[aG (bB b hd (ho _).symm)];exact b
 ·rw[aG (bB a hd (ho _).symm)];exact a
theorem ne_idx{sp:List Str}{i j:Nat}(nd:sp.Nodup)(hi:sp[i]?=some x)(hj:sp[j]?=some y)(h:i≠j):x≠y:=λe=>by
 subst e;exact h ((mS (kY.mp hi).1 nd).mp (hi.trans hj.symm))
theorem rows_keys{kvs:List (Key×V)}{rs:List WR}(hk:kvs.map (·.1)=rs.map (λr=>Sum.inr r.nm)):kvs.map (λkv=>kV kv.1)=(rs.map (·.nm)).map V.str:=by
 rw[show(λkv:Key×V=>kV kv.1)=kV∘(·.1)from rfl,<-mz,hk,mz,mz];rfl
theorem di1(z:Int):Rat.divInt z 1=(z:Rat):=by rw[mN];grind
noncomputable def cstF(ks:List Str)(c:Int)(n:Str):Int:=c*(48271+(ks.idxOf n:Int))%1000003%11-5
inductive IspCost(vs:List V)(H:Hp)(Q:VK):Prop
 |mk(d:Addr)(n:Str)(c:Int)(kvs:List (Key×V))(rs:List WR)(h1:vs=[.str n,.ref d,.int c])(h2:Rd H d (.dK kvs))(h3:kvs.map (·.1)=rs.map (λr=>Sum.inr r.nm))(h4:n∈rs.map (·.nm))(h5:rs.length<=24)(h6:∀H',(cstF (rs.map (·.nm)) c n).natAbs<=20->Same H H'->Q (.int (cstF (rs.map (·.nm)) c n)) H'):IspCost vs H Q
noncomputable def spCost:Sp:=λvs H Q _=>IspCost vs H Q
theorem ok_law_cost(T:TX K mg a):FnB P w K mg base CX0 "_law_cost" 2 ["_law_name","_law_ways_here","_law_cell"] spCost:=by
 refine T.d_law_cost.okA sc_law_cost λf t A e s H J Q E D h=>?_;obtain⟨d,n,c,m,b,rfl,z,y,q,M,k⟩:=h;refine⟨_,(aF (aP (aM eC (aM bE (aM bE (aM op_mul (pv 2) (aM bQ aC (kF mT PySem.F.slot_list_index PySem.F.type_list_index mt_indexT (eJ (fI D.hd) (by rfl) T.z_list nM (aA (pv 1) aB)) (aA (pv 0) aB)))) aC) aC) aC))),?_⟩;walk_at"q"
 refine⟨_,rfl,_,rfl,d,m,rfl,z,λl B=>?_⟩;rw[rows_keys y];obtain⟨G,zq,p,i⟩:=uG (o:=.lst ((b.map (·.nm)).map V.str)) B;rw[zq]
 have r:(b.map (·.nm)).idxOf n<24:=by
  have:=List.idxOf_lt_length_of_mem q
  rw[kX]at this
  lia
 refine⟨.inl ⟨rfl,_,SqL.of i⟩,_,rfl,l,b.map (·.nm),n,rfl,rfl,SqL.of i,q,?_⟩;unfold cstF at k;generalize(b.map (·.nm)).idxOf n=j at r k⊢;refine⟨_,_,rfl,rfl,_,_,rfl,rfl,.inr ⟨by lia,by lia⟩,_,_,rfl,rfl,zI1000003,_,_,rfl,rfl,zI11,_,_,rfl,rfl,?_⟩;obtain⟨L,I⟩:=bR (c*(48271+(j:Int))%1000003) (show(0:Int)<11 by decide);exact k G (by lia) p
noncomputable def kK(sp:List Str)(x:Rat):List (Str×Rat):=sp.map λs=>(s,x)
theorem iT(sp:List Str)(x:Rat):(kK sp x).map (·.1)=sp:=by unfold kK;rw[mz];exact List.map_id' sp
inductive IspLawNet(K:W.Frag)(a:Ad)(vs:List V)(H:Hp)(Q:VK):Prop
 |mk(ls d:Addr)(sp:List Str)(rs:List WR)(c:Int)(h1:vs=[.ref ls,.ref d,.int c])(h2:SqL K H ls (sp.map V.str))(h3:sp.Nodup)(h4:sp.length<=12)(h5:RowsAt H d rs)(h6:RsOk sp rs)(h7:(∀r∈rs,r.co=cstF (rs.map (·.nm)) c r.nm))(h8:∀p H' x,H p=none->Same H H'->NetAt a H' p (kK sp x) (rs.map WR.d)->Q (.ref p) H'):IspLawNet K a vs H Q
noncomputable def spLawNet(K:W.Frag)(a:Ad):Sp:=λvs H Q _=>IspLawNet K a vs H Q
theorem RsOk.net(h:RsOk sp rs)(nd:sp.Nodup)(hl:sp.length<=12):NetOk (kK sp x) (rs.map WR.d):=by
 refine⟨by rw[iT];exact nd,by unfold kK;rw[kX];exact hl,?_,by rw[kX];exact h.len,λd b=>?_⟩
 ·rw[mz,show((λx:WD=>x.nm)∘WR.d)=(λr:WR=>r.nm)from funext λr=>WR.d_nm r];exact h.nd
 ·obtain⟨r,a,rfl⟩:=k8.mp b;rw[iT,WR.d_st,WR.d_go];exact⟨(h.all r a).i1,(h.all r a).i2⟩
theorem ok_law_net(T:TX K mg a):FnB P w K mg base CX0 "_law_net" 8 ["_law_spots","_law_ways_here","_law_cell"] (spLawNet K a):=by
 refine T.d_law_net.okA sc_law_net λf ao A ah s H vs Q E S h=>?_;obtain⟨ls,d,sp,Z,c,rfl,hS,nd,hl,hR,ok,ai,k⟩:=h
 refine⟨_,(aD (aH (i:=3) sc_law_net.nd (bH aB))
  (aX (fw (bO lH rfl (iR (pv 1)) (aR (i:=4) sc_law_net.nd) (aD (aH (i:=5) sc_law_net.nd (aK bC (bH (aA pe_non (aA (cJ (mk1 T) S T.mg_Fraction aJ (aA aC aB)) (aA (cJ (mk1 T) S T.mg_Fraction aJ (aA aC aB)) aB)))) (aM bE (aM bQ (pv 2) (bV cO (by rfl) T.z_len mR (aA (pv 3) aB))) aC)))
  (aF (bY (kF mT m9 nc eN (pv 3) (aA (aO (ok_law_way T) S aJ (aA (pv 4) (aA (cE (bI S) (pv 1) (pv 4) (λ_ _=>rfl)) (aA (pv 5) (aA (cJ (mk1 T) S T.mg_Fraction aJ (aA (aO (ok_law_cost T) S aJ (aA (pv 4) (aA (pv 1) (aA (pv 2) aB)))) aB)) aB))))) aB)))))))
  (aF (aP (pe_mk (mk_Net T) S T.mg_Net aJ (aA (gc (xs:=["_law_spot"]) (rest:=["_law_cell"]) rfl (bZ (pv 0))
  (λO fp C' s' H'=>(aR (i:=0) (show(["_law_spot","_law_cell"]:List Str).Nodup by decide+kernel))) (λO fp C' s' H'=>eI)
  (λO fp C' s' H'=>(bP (aA (pv 0) (aA (cJ (mk1 T) S T.mg_Fraction aJ (aA (aM eC (aM bE (pv 1) aC) aC) aB)) aB))))
  (Clos.many (ys:=["_law_cell"]) rfl ⟨rfl,True.intro⟩ rfl (by decide+kernel)) (Reads.many (ys:=["_law_cell"]) (js:=[2]) ⟨⟨rfl,rfl,rfl⟩,True.intro⟩)) (aA (pv 3) aB))))))),?_⟩
 walk_at"q"
 generalize ad:i9 _ _=k9
 revert k9
 refine gB λk9 ad=>?_;refine⟨by decide,λl nl=>?_⟩;obtain⟨H1,zq,s1,h1⟩:=uG (o:=.lst []) nl;rw[zq];subst ad;refine dA (λσ' H'=>yE3 λz4 z5 m=>σ'=[some (.ref ls),some (.ref d),some (.int c),some (.ref l),z4,z5]×' Same H H'×' H' l=some (.lst m)×' RowAt (WayIs a) H' m (Z.map WR.d)) ?_ ?_
 ·obtain⟨kvs,hd,hk,hw⟩:=hR.mono s1;have af:kvs.length=Z.length:=by have:=mj List.length hk;rwa [kX,kX]at this
  have aa:d≠l:=bB hd h1 (by intro z;cases z);refine⟨d,.dK kvs,hd,(by intro o z e;cases e),_,rfl,d,kvs,rfl,hd,λo=>?_⟩
  refine jv (a:=d) (o:=o) (kvs:=kvs) (λi σ j=>i<=Z.length/\yE3 λz4 z5 m=>σ=[some (.ref ls),some (.ref d),some (.int c),some (.ref l),z4,z5]×' j d=some (.frz o (.dK kvs))×'(∀b ob,H b=some ob->b≠d->j b=some ob)×' j l=some (.lst m)×' RowAt (WayIs a) j m ((Z.take i).map WR.d))
   ⟨lD _,_,_,[],rfl,aE,(λb ob e ne=>by rw[aG ne];exact s1 _ _ e),by rw[aG aa.symm];exact h1,RowAt.nil⟩ ((by rintro i σ j _⟨_,_,_,_,_,h,_⟩;exact h)) ?_ ?_
  ·rintro i U σ j G⟨_,z4,z5,m,rfl,hf,k3,R,D⟩;have hi:i<Z.length:=by rw[<-af];exact(kY.mp G).1
   obtain⟨r,er⟩:∃r,Z[i]?=some r:=⟨_,lz hi⟩
   have e1:U.1=Sum.inr r.nm:=by
    have g:=mj (λl=>l[i]?) hk;simp only[lg,G,er,mV]at g;exact lY g
   have am:kV U.1=.str r.nm:=by rw[e1];rfl
   rw[am];have rg:=ok.all r (kZ er)
   have ae:cV kvs (Sum.inr r.nm)=some U.2:=by
    rw[<-e1];exact val_at (keys_nd hk ok.nd) G
   obtain⟨I,B,aq,ak⟩:=id hR
   have an:I=kvs:=by
    have:=s1 _ _ B
    rw[hd]at this
    cases this;rfl
   subst an
   have Y:RowIs j U.2 r:=by
    obtain⟨p,g,e,x1,x2⟩:=ak.2 i U.2 r (by rw[lg,G];rfl) er;exact⟨p,g,e,k3 _ _ x1 (bB x1 B (by intro z;cases z)),k3 _ _ x2 (bB x2 B (by intro z;cases z))⟩
   have as:m.length=i:=by rw[D.1,kX,lI];lia
   refine⟨0,1,rfl,by decide,sm1,λq0 H4 n4 X f4=>⟨1,1,rfl,by decide,sm1,λq1 H5 n5 N f5=>⟨zL3,λlx n6=>?_⟩⟩⟩;obtain⟨H6,zq,s6,h6⟩:=uG (o:=.lst [.non,.ref q0,.ref q1]) n6;rw[zq];have J:=X.trans (N.trans s6);have ab:=J _ _ R;obtain⟨a1,a2⟩:=bR (c+(m.length:Int)) (show(0:Int)<3 by decide)
   obtain⟨vh,hh,eh⟩:∃vh,HiOk a.Fraction H6 vh/\atI [V.non,.ref q0,.ref q1] ((c+(m.length:Int))%3)=some vh:=by
    have aj:(c+(m.length:Int))%3=0∨(c+(m.length:Int))%3=1∨(c+(m.length:Int))%3=2:=by lia
    rcases aj with e|e|e
    ·exact⟨.non,.inl rfl,by rw[e];rfl⟩
    ·exact⟨.ref q0,.inr ⟨q0,_,rfl,f4.mono (N.trans s6),by decide+kernel⟩,by rw[e];rfl⟩
    ·exact⟨.ref q1,.inr ⟨q1,_,rfl,f5.mono s6,by decide+kernel⟩,by rw[e];rfl⟩
   refine⟨_,rfl,_,rfl,l,_,rfl,.inl (SqL.of ab),_,_,rfl,rfl,_,_,rfl,rfl,zI3,lx,_,_,vh,rfl,rfl,SqL.of h6,eh,?_⟩;refine⟨_,rfl,.inl ⟨rfl,_,SqL.of ab⟩,?_⟩;refine⟨_,rfl,_,rfl,_,rfl,d,U.2,rfl,.inl ⟨I,Sum.inr r.nm,.inr ⟨o,J _ _ hf⟩,rfl,ae.symm⟩,_,rfl,_,rfl,_,rfl,_,rfl,?_⟩;refine⟨d,r.nm,c,I,Z,rfl,.inr ⟨o,J _ _ hf⟩,hk,k8.mpr ⟨r,kZ er,rfl⟩,ok.len,λH7 hx s7=>?_⟩;refine⟨_,1,rfl,by decide,sm1,λqc H8 ar s8 fc=>?_⟩;have ac:=J.trans (s7.trans s8);rw[<-ai r (kZ er),di1]at fc;refine⟨U.2,vh,qc,r,rfl,Y.mono ac,rg.gb,rg.ne,hh.mono (s7.trans s8),fc,λp H9 np s9 W=>?_⟩;have L:=ac.trans s9;have h9:=L _ _ R;refine⟨l,_,_,rfl,rfl,h9,aT (by have:=ok.len;lia),hi,_,_,_,rfl,?_,λb ob e ne=>?_,aE,?_⟩
   ·rw[aG aa];exact L _ _ hf
   ·rw[aG (aN e nl)];exact L _ _ (k3 _ _ e ne)
   ·rw[lE,er,lL,lj];exact RowAt.snoc (D.mono λv x z=>(z.mono L).lst h9) (W.lst h9)
  ·rintro σ j⟨_,z4,z5,m,rfl,hf,k3,R,D⟩;rw[af,lA]at D;obtain⟨I,B,_⟩:=id hR;have e0:=s1 _ _ B;rw[hd]at e0
   have al:Same H (upd j d (.dK kvs)):=λb ob e=>by
    by_cases hb:b=d
    ·subst hb;rw[aE,<-e,B,e0]
    ·rw[aG hb];exact k3 _ _ e hb
   exact⟨o,hf,_,_,m,rfl,al,by rw[aG aa.symm];exact R,D.mono λv x z=>z.keep (.put hf (by intro _ _ _ z;cases z))⟩
 rintro zU ag σ' H2⟨z4,z5,m,rfl,s2,h2,hW⟩;obtain⟨c1,c2⟩:=bR c (show(0:Int)<5 by decide);subst ag;refine⟨_,rfl,ls,rfl,⟨_,s2.seq hS⟩,λl1 n1=>?_⟩;refine fQ (K:=K) (a:=ls) (xs:=sp.map V.str) (λi j=>i<=sp.length×' Same H2 j×'∃ts,j l1=some (.lst ts)/\RowAt (PlIs a) j ts (kK (sp.take i) (Rat.divInt (c%5-2) 1))) ⟨lD _,aU n1,[],aE,RowAt.nil⟩ ((by rintro i j⟨_,M,_⟩;exact(s2.trans M).seq hS)) ?_ ?_
 ·rintro i x j hx⟨_,M,ts,R,hv⟩;rw[lg]at hx
  cases ex:sp[i]? with
  |none=>rw[ex]at hx;cases hx
  |some y=>
   rw[ex]at hx
   cases hx;have hi:=(kY.mp ex).1;refine L2.g1 ⟨⟨[_],rfl,rfl⟩,yes ?_⟩;refine⟨_,rfl,_,rfl,_,_,rfl,rfl,zI5,_,_,rfl,rfl,c%5-2,1,rfl,by decide,sm1,λq H4 nq X f4=>?_⟩;refine⟨zL2,λt nt=>?_⟩;obtain⟨H5,zq,N,ht⟩:=uG (o:=.tup [.str y,.ref q]) nt;rw[zq];have h5:=N _ _ (X _ _ R);have ap:ts.length=i:=by rw[hv.1];unfold kK;rw[kX,lI];lia
   have keep:∀v x,PlIs a H5 v x->PlIs a (upd H5 l1 (.lst (ts++[.ref t]))) v x:=(by rintro v x⟨t',q',e,h1,dq,f⟩;exact⟨t',q',e,by rw[aG (bB h1 h5 (by intro z;cases z))];exact h1,dq,by rw[aG (bB f h5 (by intro z;cases z))];exact f⟩);refine⟨_,h5,aT (by lia),fE (by rw[kX];exact hi) ⟨hi,aY n1 ((M.trans X).trans N),_,aE,?_⟩⟩;rw[lE,ex,lL];unfold kK;rw[lj];exact RowAt.snoc (hv.mono λv x z=>keep v x (z.mono (X.trans N))) (keep _ _ ⟨t,q,rfl,ht,f4.mono N⟩)
 ·rintro j⟨_,M,ts,R,hv⟩;rw[kX,lA]at hv;refine⟨_,rfl,?_⟩;exact mkN (SqL.of R) hv (SqL.of (M _ _ h2)) (hW.mono λv x z=>z.mono M) (ok.net nd hl) λp H4 np X hn=>k p H4 _ (s2.free (M.free np)) (s2.trans (M.trans X)) hn
theorem gX(h:i.natAbs<=2^x)(g:j.natAbs<=2^y)(s:x+y<=1000000):IntMulOk i j:=mulOk_bits (by
 have a:=bits_le (n:=x+1) (ma h (Nat.pow_lt_pow_right (by decide) (by lia)));have b:=bits_le (n:=y+1) (ma g (Nat.pow_lt_pow_right (by decide) (by lia)))
 lia)
structure Nx(x:Nat)(c:Int×Int):Prop where
 t:c.1.natAbs<=2^x
 b:c.2.natAbs<=2^x
theorem Nx.mono(h:Nx x c)(l:x<=y):Nx y c:=⟨lC h.t (l7 (by decide) l),lC h.b (l7 (by decide) l)⟩
noncomputable def plP(c e:Int×Int):Int×Int:=(c.1*e.2+e.1*c.2,c.2*e.2)
noncomputable def tmP(c e:Int×Int):Int×Int:=(c.1*e.1,c.2*e.2)
theorem cB{u v:Int}(h:u.natAbs<=2^x)(k:v.natAbs<=2^y):(u*v).natAbs<=2^(x+y):=by rw[l0,mK];exact mZ h k
theorem Nx.plus(h:Nx x c)(k:Nx y e):Nx (x+y+1) (plP c e):=by
 have l:=cB h.t k.b;have a:=cB k.t h.b;rw[Nat.add_comm y x]at a;have m:=cB h.b k.b;have i:=Int.natAbs_add_le (c.1*e.2) (e.1*c.2);exact⟨by show(c.1*e.2+e.1*c.2).natAbs<=_;lia,by show(c.2*e.2).natAbs<=_;lia⟩
theorem Nx.times(h:Nx x c)(k:Nx y e):Nx (x+y) (tmP c e):=⟨cB h.t k.t,cB h.b k.b⟩
noncomputable def DueIs(H:Hp)(v:V)(c:Int×Int):Prop:=∃t,v=.ref t/\H t=some (.tup [.int c.1,.int c.2])
theorem DueIs.mono(h:DueIs H v c)(s:Same H H'):DueIs H' v c:=by
 obtain⟨t,e,f⟩:=h;exact⟨t,e,s _ _ f⟩
theorem DueIs.keep(h:DueIs H v c)(s:KeepD H H'):DueIs H' v c:=let⟨t,e,f⟩:=h;⟨t,e,s _ _ f (by intro _ z;cases z) (by intro _ _ z;cases z)⟩
inductive IspPlus(vs:List V)(H:Hp)(Q:VK):Prop
 |mk(p q:Addr)(c e:Int×Int)(x y:Nat)(h1:vs=[.ref p,.ref q])(h2:H p=some (.tup [.int c.1,.int c.2]))(h3:H q=some (.tup [.int e.1,.int e.2]))(h4:Nx x c)(h5:Nx y e)(h6:x+y<=1000000)(h7:∀r,H r=none->Q (.ref r) (upd H r (.tup [.int (plP c e).1,.int (plP c e).2]))):IspPlus vs H Q
noncomputable def spPlus(K:W.Frag):Sp:=λvs H Q _=>IspPlus vs H Q
theorem dO(T:TX K mg a):FnB P w K mg base CX0 "_law_plus" 1 ["_law_one","_law_other"] (spPlus K):=by
 refine T.d_law_plus.okA sc_law_plus λf B A m s H F Q E G h=>?_;obtain⟨p,q,c,e,x,y,rfl,j,i,o,l,z,k⟩:=h;refine⟨_,(aF (aP (bP (aA (aM bQ (aM fA (aK aQ (pv 0) aC) (aK aQ (pv 1) aC)) (aM fA (aK aQ (pv 1) aC) (aK aQ (pv 0) aC))) (aA (aM fA (aK aQ (pv 0) aC) (aK aQ (pv 1) aC)) aB))))),?_⟩;walk_at"q"
 refine⟨_,rfl,p,_,_,_,rfl,rfl,SqT.of j,rfl,_,rfl,q,_,_,_,rfl,rfl,SqT.of i,rfl,_,_,rfl,rfl,gX o.t l.b z,?_⟩;refine⟨_,rfl,q,_,_,_,rfl,rfl,SqT.of i,rfl,_,rfl,p,_,_,_,rfl,rfl,SqT.of j,rfl,_,_,rfl,rfl,gX l.t o.b (by lia),_,_,rfl,rfl,?_⟩;refine⟨_,rfl,p,_,_,_,rfl,rfl,SqT.of j,rfl,_,rfl,q,_,_,_,rfl,rfl,SqT.of i,rfl,_,_,rfl,rfl,gX o.b l.b z,zL2,λr D=>k r D⟩
inductive IspTimes(vs:List V)(H:Hp)(Q:VK):Prop
 |mk(p q:Addr)(c e:Int×Int)(x y:Nat)(h1:vs=[.ref p,.ref q])(h2:H p=some (.tup [.int c.1,.int c.2]))(h3:H q=some (.tup [.int e.1,.int e.2]))(h4:Nx x c)(h5:Nx y e)(h6:x+y<=1000000)(h7:∀r,H r=none->Q (.ref r) (upd H r (.tup [.int (tmP c e).1,.int (tmP c e).2]))):IspTimes vs H Q
noncomputable def spTimes(K:W.Frag):Sp:=λvs H Q _=>IspTimes vs H Q
theorem eM(T:TX K mg a):FnB P w K mg base CX0 "_law_times" 1 ["_law_one","_law_other"] (spTimes K):=by
 refine T.d_law_times.okA sc_law_times λf B A i s H F Q E G h=>?_;obtain⟨p,q,c,e,x,y,rfl,l,j,z,m,o,k⟩:=h;refine⟨_,(aF (aP (bP (aA (aM fA (aK aQ (pv 0) aC) (aK aQ (pv 1) aC)) (aA (aM fA (aK aQ (pv 0) aC) (aK aQ (pv 1) aC)) aB))))),?_⟩;walk_at"q"
 refine⟨_,rfl,p,_,_,_,rfl,rfl,SqT.of l,rfl,_,rfl,q,_,_,_,rfl,rfl,SqT.of j,rfl,_,_,rfl,rfl,gX z.t m.t o,?_⟩;refine⟨_,rfl,p,_,_,_,rfl,rfl,SqT.of l,rfl,_,rfl,q,_,_,_,rfl,rfl,SqT.of j,rfl,_,_,rfl,rfl,gX z.b m.b o,zL2,λr D=>k r D⟩
noncomputable def goI(n k:Nat):Nat:=(if k<n then k+1 else k-1)%n
structure BaseR(sp lb:List Str)(n:Nat)(k:Nat)(r:WR):Prop where
 nm:r.nm=lb.getD k ""
 st:r.st=sp.getD (k%n) ""
 go:r.go=sp.getD (goI n k) ""
 gs:G5 r.t r.b
inductive IspWays36(K:W.Frag)(vs:List V)(H:Hp)(Q:VK):Prop
 |mk(l ls ll:Addr)(ns:List Int)(sp lb:List Str)(n:Nat)(h1:vs=[.ref l,.ref ls,.ref ll])(h2:SqL K H l (ns.map V.int))(h3:SqL K H ls (sp.map V.str))(h4:SqL K H ll (lb.map V.str))(h5:Names sp n)(h6:2<=n)(h7:n<=4)(h8:Names lb (2*n+4))(h9:∀d H' rs,H d=none->Same H H'->RowsAt H' d rs->rs.length=2*n->(∀k r,rs[k]?=some r->BaseR sp lb n k r)->Q (.ref d) H'):IspWays36 K vs H Q
noncomputable def spWays36(K:W.Frag):Sp:=λvs H Q _=>IspWays36 K vs H Q
theorem eO{xs:List Str}(h:i<xs.length):xs[i]?=some (xs.getD i ""):=by rw[List.getD_eq_getElem?_getD,lz h];rfl
theorem ok_law_ways(T:TX K mg a):FnB P w K mg base CX0 "_law_ways" 2 ["_law_script","_law_spots","_law_labels"] (spWays36 K):=by
 refine T.d_law_ways.okA sc_law_ways λf ai A aa s H vs Q E Z h=>?_;obtain⟨l,ls,ll,ns,m,q,n,rfl,hS,hL,hB,hN,n2,n5,hM,k⟩:=h
 refine⟨_,(aD (aH (i:=3) sc_law_ways.nd (bV cO (by rfl) T.z_len mR (aA (pv 1) aB)))
  (aD (aH (i:=4) sc_law_ways.nd cU)
  (aD (bO lH rfl (dM rfl T.z_range (aA (aM cR aC (pv 3)) aB)) (aR (i:=5) sc_law_ways.nd) (aD (aH (i:=6) sc_law_ways.nd (aM bE (aM bQ (pv 5) aC) (pv 3)))
  (aX (bJ (aS op_ge (pv 5) (pv 3)) (aF (aH (i:=6) sc_law_ways.nd (aM bE (aM eC (pv 5) aC) (pv 3)))) aV)
  (aD (aH (i:=7) sc_law_ways.nd (aO (cA T) Z aJ (aA (pv 0) (aA (aM bQ aC (pv 5)) aB))))
  (aF (cI (bI Z) (pv 4) (aK bC (pv 2) (pv 5)) (bP (aA (aK bC (pv 1) (aM bE (pv 5) (pv 3))) (aA (aK bC (pv 1) (pv 6)) (aA (aO (ok_law_gain T) Z aJ (aA (pv 7) aB)) (aA (aM bE (aM cP (pv 7) aC) aC) aB))))) rfl))))))
  (aF (aP (pv 4)))))),?_⟩
 walk_at"q"
 refine⟨_,rfl,ls,_,rfl,.inl hL,?_⟩;rw[kX,hN.len];intro d nd;obtain⟨H1,zq,s1,h1⟩:=uG (o:=.dK []) nd;rw[zq];have np:(0:Int)<n:=by lia
 refine⟨_,rfl,_,_,rfl,rfl,⟨Sm.of_le (n:=10) (by decide) (by decide),Sm.of_le (n:=10) (by lia) (by decide)⟩,_,rfl,by lia,by lia,?_⟩;refine iG (λi σ B=>i<=2*n/\yE4 λz5 z6 z7 y=>σ=[some (.ref l),some (.ref ls),some (.ref ll),some (.int n),some (.ref d),z5,z6,z7]×' Same H B×' RowsAt B d y×' y.length=i×'∀k r,y[k]?=some r->BaseR m q n k r) ⟨lD _,none,none,none,[],rfl,s1,⟨[],h1,rfl,RowAt.nil⟩,rfl,λk r e=>by cases e⟩ ?_ ?_
 ·rintro i σ B hi⟨_,z5,z6,z7,y,rfl,L,I,U,good⟩;have ab:i<2*n:=by lia
  rw[Int.zero_add];refine⟨_,rfl,_,_,rfl,rfl,_,rfl,_,_,rfl,rfl,np,?_⟩;refine dA (λσ' H'=>σ'=[some (.ref l),some (.ref ls),some (.ref ll),some (.int n),some (.ref d),some (.int (i:Int)),some (.int (goI n i)),z7]/\H'=B) ?_ ?_
  ·refine⟨_,rfl,_,rfl,_,_,rfl,rfl,_,rfl,ifB (λX=>?_) (λY=>?_)⟩
   ·have X:(i:Int)≥n:=X;refine⟨_,rfl,_,_,rfl,rfl,_,rfl,_,_,rfl,rfl,np,?_,rfl⟩
    have e:((i:Int)-1)%n=(goI n i:Nat):=by
     unfold goI;rw[if_neg (by lia),show(i:Int)-1=((i-1:Nat):Int) by lia];rfl
    rw[<-e];rfl
   ·have Y:¬(i:Int)≥n:=Y;refine⟨?_,rfl⟩
    have e:((i:Int)+1)%n=(goI n i:Nat):=by
     unfold goI;rw[if_pos (by lia)];rfl
    rw[<-e];rfl
  rintro zU ah σ' H'⟨rfl,e⟩;subst ah;rw[e];refine⟨_,rfl,_,rfl,_,_,rfl,rfl,l,ns,_,rfl,L.seq hS,by lia,by lia,λc=>?_⟩;have gl:goI n i<n:=mG _ (by lia);obtain⟨p,J⟩:∃j:Nat,i%n=j:=⟨_,rfl⟩;have e1:(i:Int)%n=(p:Int):=by rw[<-J];rfl
  have ag:p<n:=by rw[<-J];exact mG _ (by lia)
  have af:=eO (xs:=m) (i:=p) (by rw[hN.len];exact ag);have ae:=eO (xs:=m) (i:=goI n i) (by rw[hN.len];exact gl);have R:=eO (xs:=q) (i:=i) (by rw[hM.len];lia);refine⟨_,rfl,_,rfl,_,rfl,_,_,rfl,rfl,np,ls,_,_,.str (m.getD p ""),rfl,rfl,L.seq hL,?_,_,rfl,_,rfl,ls,_,_,_,rfl,rfl,L.seq hL,fR ae,_,rfl,c,rfl,λt b g gb ng=>?_⟩
  ·rw[e1];exact fR af
  obtain⟨H4,zq,s4,S⟩:=uG (o:=.tup [.int t,.int b]) ng;rw[zq];have O:=L.trans s4;refine⟨_,rfl,_,_,rfl,rfl,⟨by decide,by decide⟩,_,_,rfl,rfl,zI3,zL4,λM ad=>?_⟩;obtain⟨H5,zq,N,D⟩:=uG (o:=.tup [.str (m.getD p ""),.str (m.getD (goI n i) ""),.ref g,.int (c/75%3)]) ad;rw[zq];obtain⟨G,F,hk,hv⟩:=I.mono (s4.trans N);have ac:RowIs H5 (.ref M) ⟨q.getD i "",m.getD p "",m.getD (goI n i) "",t,b,c/75%3,0⟩:=⟨M,g,rfl,D,N _ _ S⟩
  have aj:G.length=i:=by
   have:=mj List.length hk
   rw[kX,kX]at this
   lia
  have nk:¬(Sum.inr (q.getD i ""):Key)∈G.map (·.1):=by
   rw[hk];intro z;obtain⟨r,Z,e⟩:=k8.mp z;obtain⟨j,hj⟩:=lV.mp Z;have ak:=(kY.mp hj).1;have e2:q.getD j ""=q.getD i "":=by rw[<-(good j r hj).nm];exact ol e
   have e3:=eO (xs:=q) (i:=j) (by rw[hM.len];lia)
   have:j=i:=(mS (kY.mp e3).1 hM.nd).mp (by rw[e3,e2];exact R.symm)
   lia
  refine⟨_,rfl,_,rfl,_,rfl,ll,_,_,_,rfl,rfl,(O.trans N).seq hB,fR R,d,_,rfl,DPut.k (k:=Sum.inr (q.getD i "")) F (aT (by lia)),?_⟩;rw[iD _ (gL nk)];refine⟨ab,_,_,_,y++[⟨q.getD i "",m.getD p "",m.getD (goI n i) "",t,b,c/75%3,0⟩],rfl,aY nd (O.trans N),⟨G++[(Sum.inr (q.getD i ""),.ref M)],aE,?_,?_⟩,by simp[U],λk r e=>?_⟩
  ·rw[lj,hk,lj];rfl
  ·rw[lj];exact RowAt.snoc (hv.mono λv x z=>z.put F (by intro _ z;cases z)) (ac.put F (by intro _ z;cases z))
  ·by_cases hk':k<y.length
   ·rw[nD hk']at e;exact good k r e
   ·rw[mP (by lia)]at e
    have hz:k-y.length=0:=by
     have:=(kY.mp e).1
     simp at this
     lia
    have:k=i:=by lia
    subst this;rw[hz]at e
    cases e;exact⟨rfl,by rw[J],rfl,gb⟩
 ·rintro σ B⟨_,z5,z6,z7,y,rfl,L,I,U,good⟩;exact⟨_,rfl,k d B y nd L I (by lia) good⟩
theorem md2{y n:Int}(h0:0<=y)(h:y<2*n):y%n=y∨y%n=y-n:=by
 by_cases c:y<n
 ·exact .inl (Int.emod_eq_of_lt h0 c)
 ·refine .inr ?_;have e:y=(y-n)+n:=by lia
  rw[e,Int.add_emod_right,Int.emod_eq_of_lt (by lia) (by lia)]
  lia
structure FreeR(sp lb:List Str)(k:Nat)(r:WR):Prop where
 nm:r.nm=lb.getD k ""
 st:r.st∈sp
 go:r.go∈sp
 ne:r.st≠r.go
 gs:G5 r.t r.b
inductive IspFree(K:W.Frag)(vs:List V)(H:Hp)(Q:VK):Prop
 |mk(l ls ll:Addr)(ns:List Int)(sp lb:List Str)(n:Nat)(h1:vs=[.ref l,.ref ls,.ref ll])(h2:SqL K H l (ns.map V.int))(h3:SqL K H ls (sp.map V.str))(h4:SqL K H ll (lb.map V.str))(h5:Names sp n)(h6:2<=n)(h7:n<=4)(h8:Names lb (2*n+4))(h9:∀d H' rs,H d=none->Same H H'->RowsAt H' d rs->rs.length<=8->(∀k r,rs[k]?=some r->FreeR sp lb k r)->Q (.ref d) H'):IspFree K vs H Q
noncomputable def spFree(K:W.Frag):Sp:=λvs H Q _=>IspFree K vs H Q
theorem ok_law_free_ways(T:TX K mg a):FnB P w K mg base CX0 "_law_free_ways" 2 ["_law_script","_law_spots","_law_labels"] (spFree K):=by
 refine T.d_law_free_ways.okA sc_law_free_ways λf al A ac s H vs Q E hr h=>?_;obtain⟨l,ls,ll,ns,p,B,n,rfl,hS,hL,hB,hN,n2,n5,hM,k⟩:=h
 refine⟨_,(aD (aH (i:=3) sc_law_free_ways.nd (bV cO (by rfl) T.z_len mR (aA (pv 1) aB)))
  (aD (aH (i:=4) sc_law_free_ways.nd cU)
  (aD (bO lH rfl (dM rfl T.z_range (aA (aM bQ aC (aM bE (aO (cA T) hr aJ (aA (pv 0) (aA aC aB))) aC)) aB)) (aR (i:=5) sc_law_free_ways.nd) (aD (aH (i:=6) sc_law_free_ways.nd (aO (cA T) hr aJ (aA (pv 0) (aA (aM bQ aC (pv 5)) aB))))
  (aD (aH (i:=7) sc_law_free_ways.nd (aM bE (pv 6) (pv 3)))
  (aD (aH (i:=6) sc_law_free_ways.nd (aM cQ (pv 6) (pv 3)))
  (aD (aH (i:=8) sc_law_free_ways.nd (aM bE (aM bQ (aM bQ (pv 7) aC) (aM bE (pv 6) (aM eC (pv 3) aC))) (pv 3)))
  (aD (aH (i:=6) sc_law_free_ways.nd (aM cQ (pv 6) (aM eC (pv 3) aC)))
  (aF (cI (bI hr) (pv 4) (aK bC (pv 2) (pv 5)) (bP (aA (aK bC (pv 1) (pv 7)) (aA (aK bC (pv 1) (pv 8)) (aA (bP (aA (aM bQ aC (aM bE (pv 6) aC)) (aA (aM bQ aC (aM bE (aM cP (pv 6) aC) aC)) aB))) (aA (aM bE (aM cP (pv 6) aC) aC) aB))))) rfl))))))))
  (aF (aP (pv 4)))))),?_⟩
 walk_at"q"
 refine⟨_,rfl,ls,_,rfl,.inl hL,?_⟩;rw[kX,hN.len];intro d nd;obtain⟨H1,zq,s1,h1⟩:=uG (o:=.dK []) nd;rw[zq];have np:(0:Int)<n:=by lia
 have X:(0:Int)<(n:Int)-1:=by lia
 refine⟨_,rfl,l,ns,4,rfl,s1.seq hS,by decide,by decide,λc0=>?_⟩;obtain⟨m0,m1⟩:=bR c0 (show(0:Int)<8 by decide);obtain⟨m,em⟩:∃m:Nat,1+c0%8=(m:Int):=⟨(1+c0%8).toNat,by lia⟩;refine⟨_,_,rfl,rfl,zI8,_,_,rfl,rfl,(m:Int),by rw[<-em],by lia,by lia,?_⟩;refine iG (λi σ J=>i<=m/\yE5 λz5 z6 z7 z8 D=>σ=[some (.ref l),some (.ref ls),some (.ref ll),some (.int n),some (.ref d),z5,z6,z7,z8]×' Same H J×' RowsAt J d D×' D.length=i×'∀k r,D[k]?=some r->FreeR p B k r) ⟨lD _,none,none,none,none,[],rfl,s1,⟨[],h1,rfl,RowAt.nil⟩,rfl,λk r e=>by cases e⟩ ?_ ?_
 ·rintro i σ J hi⟨_,z5,z6,z7,z8,D,rfl,O,M,ab,good⟩;have ae:i<m:=by lia
  rw[Int.zero_add];refine⟨_,rfl,_,rfl,_,_,rfl,rfl,l,ns,_,rfl,O.seq hS,by lia,by lia,λc=>?_⟩;have cn:CDivB 0 (n:Int):=⟨by lia,Sm.of_le (n:=10) (by lia) (by decide)⟩;have U:CDivB 0 ((n:Int)-1):=⟨by lia,Sm.of_le (n:=10) (by lia) (by decide)⟩;refine⟨_,rfl,_,rfl,_,_,rfl,rfl,np,?_⟩;refine⟨_,rfl,_,rfl,_,_,rfl,rfl,⟨cn.1,cn.2⟩,?_⟩;refine⟨_,rfl,_,_,rfl,rfl,_,rfl,_,rfl,_,_,rfl,rfl,_,_,rfl,rfl,X,_,_,rfl,rfl,_,rfl,_,_,rfl,rfl,np,?_⟩;refine⟨_,rfl,_,rfl,_,_,rfl,rfl,_,_,rfl,rfl,⟨U.1,U.2⟩,?_⟩;dsimp only;obtain⟨a1,a2⟩:=bR c np;obtain⟨b1,b2⟩:=bR (c.fdiv n) X;have dm:=md2 (y:=c%n+1+c.fdiv n%((n:Int)-1)) (n:=n) (by lia) (by lia);obtain⟨j1,e1⟩:∃j1:Nat,c%(n:Int)=j1:=⟨(c%(n:Int)).toNat,by lia⟩;obtain⟨aj,ak⟩:=bR (c%n+1+c.fdiv n%((n:Int)-1)) np;obtain⟨j2,e2⟩:∃j2:Nat,(c%n+1+c.fdiv n%((n:Int)-1))%n=j2:=⟨((c%n+1+c.fdiv n%((n:Int)-1))%n).toNat,by lia⟩;have ai:j1<n:=by lia
  have ah:j2<n:=by lia
  have ad:j1≠j2:=by lia
  have F:=eO (xs:=p) (i:=j1) (by rw[hN.len];exact ai);have N:=eO (xs:=p) (i:=j2) (by rw[hN.len];exact ah);have Z:=eO (xs:=B) (i:=i) (by rw[hM.len];lia);generalize(c.fdiv n).fdiv ((n:Int)-1)=q;refine⟨_,rfl,_,rfl,ls,_,_,.str (p.getD j1 ""),rfl,rfl,O.seq hL,?_,_,rfl,_,rfl,ls,_,_,.str (p.getD j2 ""),rfl,rfl,O.seq hL,?_,?_⟩
  ·rw[e1];exact fR F
  ·rw[e2];exact fR N
  obtain⟨t0,t1⟩:=bR q (show(0:Int)<5 by decide);obtain⟨u0,u1⟩:=bR (q/5) (show(0:Int)<5 by decide);refine⟨_,rfl,_,_,rfl,rfl,zI5,_,_,rfl,rfl,_,rfl,_,_,rfl,rfl,⟨by decide,by decide⟩,_,_,rfl,rfl,zI5,_,_,rfl,rfl,zL2,λg ng=>?_⟩;have gb:G5 (1+q%5) (1+q/5%5):=⟨by lia,by lia,by lia,by lia⟩;generalize 1+q%5=t at gb ng⊢;generalize 1+q/5%5=b at gb ng⊢;obtain⟨H4,zq,s4,aa⟩:=uG (o:=.tup [.int t,.int b]) ng;rw[zq];have Y:=O.trans s4;refine⟨_,rfl,_,_,rfl,rfl,⟨by decide,by decide⟩,_,_,rfl,rfl,zI3,zL4,λR ag=>?_⟩;obtain⟨H5,zq,S,G⟩:=uG (o:=.tup [.str (p.getD j1 ""),.str (p.getD j2 ""),.ref g,.int (q/25%3)]) ag;rw[zq];obtain⟨L,I,hk,hv⟩:=M.mono (s4.trans S);have af:RowIs H5 (.ref R) ⟨B.getD i "",p.getD j1 "",p.getD j2 "",t,b,q/25%3,0⟩:=⟨R,g,rfl,G,S _ _ aa⟩
  have am:L.length=i:=by
   have:=mj List.length hk
   rw[kX,kX]at this
   lia
  have nk:¬(Sum.inr (B.getD i ""):Key)∈L.map (·.1):=by
   rw[hk];intro z;obtain⟨r,hr,e⟩:=k8.mp z;obtain⟨j,hj⟩:=lV.mp hr;have an:=(kY.mp hj).1;have e2:B.getD j ""=B.getD i "":=by rw[<-(good j r hj).nm];exact ol e
   have e3:=eO (xs:=B) (i:=j) (by rw[hM.len];lia)
   have:j=i:=(mS (kY.mp e3).1 hM.nd).mp (by rw[e3,e2];exact Z.symm)
   lia
  refine⟨_,rfl,_,rfl,_,rfl,ll,_,_,_,rfl,rfl,(Y.trans S).seq hB,fR Z,d,_,rfl,DPut.k (k:=Sum.inr (B.getD i "")) I (aT (by lia)),?_⟩;rw[iD _ (gL nk)];refine⟨ae,_,_,_,_,D++[⟨B.getD i "",p.getD j1 "",p.getD j2 "",t,b,q/25%3,0⟩],rfl,aY nd (Y.trans S),⟨L++[(Sum.inr (B.getD i ""),.ref R)],aE,?_,?_⟩,by simp[ab],λk r e=>?_⟩
  ·rw[lj,hk,lj];rfl
  ·rw[lj];exact RowAt.snoc (hv.mono λv x z=>z.put I (by intro _ z;cases z)) (af.put I (by intro _ z;cases z))
  ·by_cases hk':k<D.length
   ·rw[nD hk']at e;exact good k r e
   ·rw[mP (by lia)]at e
    have hz:k-D.length=0:=by
     have:=(kY.mp e).1
     simp at this
     lia
    have:k=i:=by lia
    subst this;rw[hz]at e
    cases e;exact⟨rfl,kZ F,kZ N,λz=>ad ((mS (kY.mp F).1 hN.nd).mp (by rw[F,N];exact mj some z)),gb⟩
 ·rintro σ J⟨_,z5,z6,z7,z8,D,rfl,O,M,ab,good⟩;exact⟨_,rfl,k d J D nd O M (by lia) good⟩
theorem RowsAt.get(h:RowsAt H d rs)(nd:(rs.map (·.nm)).Nodup)(hr:r∈rs):∃v,DGet H d (.str r.nm) (some v)/\RowIs H v r:=by
 obtain⟨b,q,c,o⟩:=h;obtain⟨i,j⟩:=lV.mp hr;obtain⟨v,a,s⟩:=o.get' j;rw[lg]at a
 cases e:b[i]? with
 |none=>rw[e]at a;cases a
 |some kv=>
  rw[e]at a;have p:kv.2=v:=lY a
  have m:kv.1=Sum.inr r.nm:=by
   have g:=mj (λl=>l[i]?) c;simp only[lg,e,j,mV]at g;exact lY g
  refine⟨v,.inl ⟨b,Sum.inr r.nm,.inl q,rfl,?_⟩,s⟩;rw[<-m,<-p];exact(val_at (keys_nd c nd) e).symm
noncomputable def gp:List WR->Int×Int:=λws=>ws.foldl (λp r=>(p.1*r.t,p.2*r.b)) (1,1)
theorem jF(ws:List WR)(r:WR):gp (ws++[r])=((gp ws).1*r.t,(gp ws).2*r.b):=by unfold gp;rw[m7];rfl
theorem eP{x:Int}(h0:1<=x)(h:x<=2^n):x.natAbs<=2^n:=by
 lia
structure GpB(n i:Nat)(c:Int×Int):Prop where
 t0:1<=c.1
 t1:c.1.natAbs<=2^(i*n)
 b0:1<=c.2
 b1:c.2.natAbs<=2^(i*n)
theorem GpB.step(h:GpB n i c)(t0:1<=t)(t1:t.natAbs<=2^n)(b0:1<=b)(b1:b.natAbs<=2^n):GpB n (i+1) (c.1*t,c.2*b):=by
 refine⟨?_,?_,?_,?_⟩
 ·have:=mQ (show 0<c.1 by have:=h.t0;lia) (show 0<t by lia)
  show 1<=c.1*t
  lia
 ·rw[Nat.add_mul,Nat.one_mul,mK];rw[l0];exact mZ h.t1 t1
 ·have:=mQ (show 0<c.2 by have:=h.b0;lia) (show 0<b by lia)
  show 1<=c.2*b
  lia
 ·rw[Nat.add_mul,Nat.one_mul,mK];rw[l0];exact mZ h.b1 b1
theorem gp_bd{ws:List WR}(h:∀r∈ws,1<=r.t/\r.t<=2^n/\1<=r.b/\r.b<=2^n):∀i,i<=ws.length->GpB n i (gp (ws.take i))
 |0,_=>by
  rw[nS];exact⟨by decide,by rw[Nat.zero_mul];decide,by decide,by rw[Nat.zero_mul];decide⟩
 |i+1,hi=>by
  have m:=gp_bd h i (by omega);have e:=lz (l:=ws) (i:=i) (by omega);have a:=kZ e;generalize ws[i]'_=r at e a;obtain⟨c,o,b,j⟩:=h r a;rw[lE,e,lL,jF];exact m.step c (eP c o) b (eP b j)
theorem GB.all{r:WR}(h:GB r.t r.b):1<=r.t/\r.t<=2^40/\1<=r.b/\r.b<=2^40:=⟨h.t0,Int.le_trans h.t1 (by decide),h.b0,Int.le_trans h.b1 (by decide)⟩
inductive IspProd(K:W.Frag)(vs:List V)(H:Hp)(Q:VK):Prop
 |mk(d wl:Addr)(rs ws:List WR)(h1:vs=[.ref d,.ref wl])(h2:RowsAt H d rs)(h3:(rs.map (·.nm)).Nodup)(h4:SqL K H wl (ws.map λr=>.str r.nm))(h5:(∀r∈ws,r∈rs))(h6:(∀r∈ws,GB r.t r.b))(h7:ws.length<=12)(h8:∀g H',Same H H'->H' g=some (.tup [.int (gp ws).1,.int (gp ws).2])->Q (.ref g) H'):IspProd K vs H Q
noncomputable def spProd(K:W.Frag):Sp:=λvs H Q _=>IspProd K vs H Q
theorem fB(T:TX K mg a):FnB P w K mg base CX0 "_law_product" 2 ["_law_ways_here","_law_walk"] (spProd K):=by
 refine T.d_law_product.okA sc_law_product λf O A q s H vs Q E p h=>?_;obtain⟨d,B,rs,ws,rfl,hR,X,M,sub,j,lw,k⟩:=h
 refine⟨_,(aD (aH (i:=2) sc_law_product.nd (bP (aA aC (aA aC aB))))
  (aD (bO lH rfl (bZ (pv 1)) (aR (i:=3) sc_law_product.nd) (aF (aH (i:=2) sc_law_product.nd (aO (eM T) p aJ (aA (pv 2) (aA (aK aQ (cE (bI p) (pv 0) (pv 3) (λ_ _=>rfl)) aC) aB))))))
  (aF (aP (pv 2))))),?_⟩
 walk_at"q"
 refine⟨by decide,λl n0=>?_⟩;obtain⟨H0,zq,F,L⟩:=uG (o:=.tup [.int 1,.int 1]) n0;rw[zq];have bd:=gp_bd λr p=>(j r p).all;refine⟨_,rfl,B,rfl,⟨_,F.seq M⟩,cG (λi σ c=>i<=ws.length/\yE2 λz g=>σ=[some (.ref d),some (.ref B),some (.ref g),z]×' Same H c×' c g=some (.tup [.int (gp (ws.take i)).1,.int (gp (ws.take i)).2])) ⟨lD _,none,l,rfl,F,L⟩ ((by rintro i σ c _⟨_,_,_,_,e,_⟩;exact e.seq M)) ?_ ?_⟩
 ·rintro i t σ c I⟨_,z,g,rfl,e,m⟩;rw[lg]at I;obtain⟨y,G,rfl⟩:=n7.mp I;have Y:=(kY.mp G).1;have J:=kZ G;have b:=bd i (by lia);obtain⟨U,q2,R,q4⟩:=(j y J).all;obtain⟨v,N,S,gy,rfl,x1,Z⟩:=(hR.mono e).get X (sub y J);refine⟨_,rfl,_,rfl,_,rfl,d,_,rfl,N,S,_,_,_,rfl,rfl,SqT.of x1,rfl,g,gy,gp (ws.take i),(y.t,y.b),i*40,40,rfl,m,Z,⟨b.t1,b.b1⟩,⟨eP U q2,eP R q4⟩,by lia,λr' D=>?_⟩;refine⟨Y,_,r',rfl,e.trans (aU D),?_⟩;rw[aE,lE,G,lL,jF];rfl
 ·rintro σ c⟨_,z,g,rfl,e,m⟩;rw[kX,lA]at m;exact⟨_,rfl,k g c e m⟩
noncomputable def KpD(d:Addr)(H H':Hp):Prop:=∀b o,b≠d->H b=some o->H' b=some o
theorem KpD.of(s:Same H H'):KpD d H H':=λb o _ e=>s b o e
theorem KpD.trans(h:KpD d H H')(g:KpD d H' H''):KpD d H H'':=λb o n e=>g b o n (h b o n e)
theorem KpD.put:KpD d H (upd H d o):=λb u n e=>by rw[aG n];exact e
theorem KpD.same(h:KpD d H H')(n:H0 d=none)(s:Same H0 H):Same H0 H':=λb o e=>h b o (λz=>by rw[z,n]at e;cases e) (s b o e)
theorem KpD.fresh(h:KpD d H H')(e:H' d≠none)(np:H' p=.none):H p=.none:=by
 cases u:H p with
 |none=>rfl
 |some o=>exact absurd np (if z:p=d then z▸e else by rw[h p o z u];intro z;cases z)
theorem RowsAt.ne0(h:RowsAt H d rs):H d≠none:=by
 obtain⟨_,e,_⟩:=h;rw[e];intro z
 cases z
noncomputable def bD(as:Nat->WR)(n b m:Nat):List WR:=(List.range m).map λk=>as ((b+k)%n)
noncomputable def dE(as:Nat->WR)(n b m:Nat)(nm:Str)(g:Int×Int)(kd:Int):WR:=⟨nm,(as ((b+(m-1))%n)).go,(as (b%n)).st,g.1*(gp (bD as n b m)).2,g.2*(gp (bD as n b m)).1,kd,0⟩
theorem ke(as:Nat->WR)(n b m:Nat):bD as n b (m+1)=bD as n b m++[as ((b+m)%n)]:=by unfold bD;rw[List.range_succ,lj];rfl
theorem at_last'{u:V}(h:xs.getLast?=some u):atI xs (-1)=some u:=by
 obtain⟨a,rfl⟩:=List.getLast?_eq_some_iff.mp h;exact atI_last _ _
inductive IspRing(vs:List V)(H:Hp)(Q:VK):Prop
 |mk(d la tg:Addr)(rs:List WR)(as:Nat->WR)(n b m:Nat)(bg kd:Int)(nm:Str)(g:Int×Int)(h1:vs=[.ref d,.ref la,.int bg,.int ((m+1:Nat):Int),.str nm,.ref tg,.int kd])(h2:RowsAt H d rs)(h3:(rs.map (·.nm)).Nodup)(h4:rs.length<=20)(h5:H la=some (.lst ((List.range n).map λj=>V.str (as j).nm)))(h6:(∀j,j<n->as j∈rs/\G5 (as j).t (as j).b))(h7:2<=n)(h8:n<=5)(h9:1<=m)(h10:m<n)(h11:bg%n=b)(h12:nm∉rs.map (·.nm))(h13:H tg=some (.tup [.int g.1,.int g.2]))(h14:FB g.1 g.2)(h15:∀l H',H l=none->KpD d H H'->RowsAt H' d (rs++[dE as n b m nm g kd])->H' l=some (.lst ((bD as n b m++[dE as n b m nm g kd]).map λr=>V.str r.nm))->Q (.ref l) H'):IspRing vs H Q
noncomputable def spRing(K:W.Frag):Sp:=λvs H Q _=>IspRing vs H Q
theorem idx_mod{bg:Int}{n b k:Nat}(n0:0<n)(h:bg%n=b):(bg+k)%n=(((b+k)%n:Nat):Int):=by
 rw[Int.natCast_emod,Int.natCast_add,<-h,Int.emod_add_emod]
theorem gs200(h:G5 t b):1<=t/\t<=2^3/\1<=b/\b<=2^3:=⟨h.t0,Int.le_trans h.t1 (by decide),h.b0,Int.le_trans h.b1 (by decide)⟩
theorem ok_law_ring(T:TX K mg a):FnB P w K mg base CX0 "_law_ring" 2 ["_law_ways_here","_law_around","_law_begin","_law_size","_law_name","_law_gain_here","_law_kind"] (spRing K):=by
 refine T.d_law_ring.okA sc_law_ring λf a4 A ah s H vs Q E J h=>?_;obtain⟨d,la,tg,rs,c,n,b,m,bg,G,l,g,rfl,hR,nd,a5,a0,sub,n2,n5,m1,mn,hb,ai,av,fb,k⟩:=h
 refine⟨_,(aX (fY (i:=7) (xs:=["_law_k"]) (rest:=["_law_around","_law_begin"]) sc_law_ring.nd rfl rfl rfl (dM rfl T.z_range (aA (aM eC (pv 3) aC) aB))
  (λZ fp C' s' F=>(aR (i:=0) (show(["_law_k","_law_around","_law_begin"]:List Str).Nodup by decide+kernel))) (λZ fp C' s' F=>eI)
  (λZ fp C' s' F=>(aK (r:=rIxL K) bC (pv 1) (aM bE (aM bQ (pv 2) (pv 0)) (bV (r:=rLen K) cO (by rfl) T.z_len mR (aA (pv 1) aB)))))
  (Clos.many (ys:=["_law_begin","_law_around"]) rfl ⟨rfl,rfl,True.intro⟩ rfl (by decide+kernel)) (Reads.many (ys:=["_law_around","_law_begin"]) (js:=[1,2]) ⟨⟨rfl,rfl,rfl⟩,⟨rfl,rfl,rfl⟩,True.intro⟩))
  (aD (aH (i:=8) sc_law_ring.nd (bP (aA aC (aA aC aB))))
  (aX (bO lH rfl (bZ (pv 7)) (aR (i:=9) sc_law_ring.nd) (aF (aH (i:=8) sc_law_ring.nd (aO (eM T) J aJ (aA (pv 8) (aA (aK aQ (cE (bI J) (pv 0) (pv 9) (λ_ _=>rfl)) aC) aB))))))
  (aX (aH (i:=5) sc_law_ring.nd (bP (aA (aM cR (aK aQ (pv 5) aC) (aK aQ (pv 8) aC)) (aA (aM cR (aK aQ (pv 5) aC) (aK aQ (pv 8) aC)) aB))))
  (aD (cI (bI J) (pv 0) (pv 4) (bP (aA (aK aQ (cE (bI J) (pv 0) (aK bC (pv 7) (jm gM aC)) (λ_ _=>rfl)) aC) (aA (aK aQ (cE (bI J) (pv 0) (aK bC (pv 7) aC) (λ_ _=>rfl)) aC) (aA (pv 5) (aA (pv 6) aB))))) rfl)
  (aF (aP (aM op_cat (pv 7) (bH (aA (pv 4) aB)))))))))),?_⟩
 walk_at"q"
 have ag:∀r∈bD c n b m,r∈rs/\G5 r.t r.b:=λr J=>by
  obtain⟨k,_,rfl⟩:=k8.mp J;exact sub _ (mG _ (by lia))
 have ak:(bD c n b m).length=m:=by unfold bD;rw[kX,nH]
 refine dA (λX F=>yE1 λq=>X=[some (.ref d),some (.ref la),some (.int bg),some (.int ((m+1:Nat):Int)),some (.str l),some (.ref tg),some (.int G),some (.ref q),none,none]×' Same H F×' F q=some (.lst ((bD c n b m).map λr=>V.str r.nm))) ?_ ?_
 ·refine⟨_,rfl,_,_,rfl,rfl,_,rfl,by lia,by lia,λq nq=>?_⟩;refine fj (λi H2=>i<=m×' Same H H2×' H2 q=some (.lst ((bD c n b i).map λr=>V.str r.nm))) ⟨lD _,aU nq,aE⟩ ?_ ?_
  ·rintro i H2 hi⟨_,O,h2⟩;have ap:i<m:=by lia
   refine g1 ⟨⟨[_],rfl,rfl⟩,yes ?_⟩;have Y:=SqL.of (K:=K) (O _ _ a0);have an:(b+i)%n<n:=mG _ (by lia);refine⟨_,rfl,_,rfl,_,rfl,_,_,rfl,rfl,_,rfl,la,_,rfl,.inl Y,_,_,rfl,rfl,?_,la,_,_,.str (c ((b+i)%n)).nm,rfl,rfl,Y,?_,?_⟩
   ·rw[kX,nH]
    lia
   ·rw[kX,nH,Int.zero_add,idx_mod (by lia) hb];exact atI_nat (by rw[lg,List.getElem?_range an];rfl)
   ·refine⟨_,h2,aT (by rw[kX];unfold bD;rw[kX,nH];lia),fE hi ⟨ap,aY nq O,?_⟩⟩;rw[aE,ke,lj];rfl
  ·rintro H2⟨_,O,h2⟩;refine⟨q,rfl,O,?_⟩;rw[show(((m+1:Nat):Int)-1).toNat=m by lia]at h2;exact h2
 rintro zU L X H1⟨q,rfl,s1,hq⟩;subst L;generalize I:i9 _ _=k9
 revert k9
 refine gB λk9 I=>?_;refine⟨zL2,λg0 n0=>?_⟩;obtain⟨H2,zq,O,h0⟩:=uG (o:=.tup [.int 1,.int 1]) n0;rw[zq];have bd:=gp_bd (n:=3) (ws:=bD c n b m) λr J=>gs200 (ag r J).2;subst I;refine dA (λX F=>yE2 λg1 z9=>X=[some (.ref d),some (.ref la),some (.int bg),some (.int ((m+1:Nat):Int)),some (.str l),some (.ref tg),some (.int G),some (.ref q),some (.ref g1),z9]×' Same H1 F×' F g1=some (.tup [.int (gp (bD c n b m)).1,.int (gp (bD c n b m)).2])) ?_ ?_
 ·refine⟨_,rfl,q,rfl,⟨_,SqL.of (O _ _ hq)⟩,cG (K:=K) (a:=q) (xs:=(bD c n b m).map λr=>V.str r.nm) (λi σ F=>i<=m/\yE2 λz g1=>σ=[some (.ref d),some (.ref la),some (.int bg),some (.int ((m+1:Nat):Int)),some (.str l),some (.ref tg),some (.int G),some (.ref q),some (.ref g1),z]×' Same H1 F×' F g1=some (.tup [.int (gp ((bD c n b m).take i)).1,.int (gp ((bD c n b m).take i)).2])) ⟨lD _,none,g0,rfl,O,h0⟩ ((by rintro i σ F _⟨_,_,_,_,s',_⟩;exact SqL.of (s' _ _ hq))) ?_ ?_⟩
  ·rintro i t σ H3 ht⟨_,z,g1,rfl,s3,hg⟩;rw[lg]at ht;obtain⟨y,ey,rfl⟩:=n7.mp ht;have hi:=(kY.mp ey).1;obtain⟨my,ay⟩:=ag y (kZ ey);have b1:=bd i (by lia);obtain⟨q1,q2,q3,q4⟩:=gs200 ay;obtain⟨v,gv,p1,gy,rfl,x1,x2⟩:=(hR.mono (s1.trans s3)).get nd my;refine⟨_,rfl,_,rfl,_,rfl,d,_,rfl,gv,p1,_,_,_,rfl,rfl,SqT.of x1,rfl,g1,gy,gp ((bD c n b m).take i),(y.t,y.b),i*3,3,rfl,hg,x2,⟨b1.t1,b1.b1⟩,⟨eP q1 q2,eP q3 q4⟩,by lia,λr' au=>?_⟩;refine⟨by lia,_,r',rfl,s3.trans (aU au),?_⟩;rw[aE,lE,ey,lL,jF];rfl
  ·rintro σ H3⟨_,z,g1,rfl,s3,hg⟩;rw[kX,lA]at hg;exact⟨g1,z,rfl,s3,hg⟩
 rintro zU L X H3⟨g1,z9,rfl,s3,ad⟩;have bm:=bd m (by lia);subst L;generalize I:i9 _ _=k9
 revert k9
 refine gB λk9 I=>?_;rw[show(bD c n b m).take m=bD c n b m from List.take_of_length_le (by lia)]at bm;have az:=s3 _ _ hq;have ab:=s1.trans s3;generalize ar:gp (bD c n b m)=pr at ad bm;subst I;refine dA (λX F=>yE1 λB=>X=[some (.ref d),some (.ref la),some (.int bg),some (.int ((m+1:Nat):Int)),some (.str l),some (.ref B),some (.int G),some (.ref q),some (.ref g1),z9]×' Same H3 F×' F B=some (.tup [.int (g.1*pr.2),.int (g.2*pr.1)])) ?_ ?_
 ·have st:=SqT.of (K:=K) (ab _ _ av);have sp:=SqT.of (K:=K) ad;have ae:m*3<9000:=by lia
  have f1:=eP (n:=3) fb.t0 fb.t1;have f2:=eP (n:=3) fb.b0 fb.b1;refine⟨_,rfl,tg,_,_,_,rfl,rfl,st,rfl,_,rfl,g1,_,_,_,rfl,rfl,sp,rfl,_,_,rfl,rfl,⟨Sm.of_le f1 (by decide),Sm.of_le bm.b1 ae⟩,_,rfl,tg,_,_,_,rfl,rfl,st,rfl,_,rfl,g1,_,_,_,rfl,rfl,sp,rfl,_,_,rfl,rfl,⟨Sm.of_le f2 (by decide),Sm.of_le bm.t1 ae⟩,zL2,λt2 ao=>?_⟩;exact⟨t2,rfl,aU ao,aE⟩
 rintro zU L X H4⟨B,rfl,s4,af⟩;have R:=ab.trans s4;have S:=s4 _ _ az;subst L
 have eL:(bD c n b m).getLast?=some (c ((b+(m-1))%n)):=by
  rw[show m=(m-1)+1 by lia,ke,List.getLast?_append];rfl
 have e0:(bD c n b m)[0]?=some (c (b%n)):=by
  unfold bD;rw[lg,List.getElem?_range (by lia)];rfl
 have mL:=(sub ((b+(m-1))%n) (mG _ (by lia))).1;have m0:=(sub (b%n) (mG _ (by lia))).1;have am:atI ((bD c n b m).map λr=>V.str r.nm) (-1)=some (.str (c ((b+(m-1))%n)).nm):=at_last' (by rw[List.getLast?_map,eL];rfl);have aw:atI ((bD c n b m).map λr=>V.str r.nm) 0=some (.str (c (b%n)).nm):=atI_nat (j:=0) (by rw[lg,e0];rfl);obtain⟨v1,ax,p1,a6,rfl,x1,x2⟩:=(hR.mono R).get nd mL;obtain⟨v2,aj,p2,a2,rfl,y1,y2⟩:=(hR.mono R).get nd m0;refine⟨_,rfl,_,rfl,_,rfl,q,_,_,_,rfl,rfl,SqL.of S,am,d,_,rfl,ax,p1,_,_,_,rfl,rfl,SqT.of x1,rfl,_,rfl,_,rfl,q,_,_,_,rfl,rfl,SqL.of S,aw,d,_,rfl,aj,p2,_,_,_,rfl,rfl,SqT.of y1,rfl,_,rfl,_,rfl,zL4,λM al=>?_⟩;have eW:dE c n b m l g G=⟨l,(c ((b+(m-1))%n)).go,(c (b%n)).st,g.1*pr.2,g.2*pr.1,G,0⟩:=by unfold dE;rw[ar]
 generalize dE c n b m l g G=W at eW k;obtain⟨H5,zq,s5,U⟩:=uG (o:=.tup [.str (c ((b+(m-1))%n)).go,.str (c (b%n)).st,.ref B,.int G]) al;rw[zq];obtain⟨D,N,hk,hv⟩:=hR.mono (R.trans s5);have aq:RowIs H5 (.ref M) W:=by rw[eW];exact⟨M,B,rfl,U,s5 _ _ af⟩
 have wn:W.nm=l:=by rw[eW]
 have a1:D.length=rs.length:=by
  have:=mj List.length hk
  rw[kX,kX]at this
  lia
 have nk:¬(Sum.inr l:Key)∈D.map (·.1):=by
  rw[hk];intro z;obtain⟨r,J,e⟩:=k8.mp z;exact ai (k8.mpr ⟨r,J,ol e⟩)
 refine⟨_,rfl,_,rfl,d,_,rfl,DPut.k (k:=Sum.inr l) N (aT (by lia)),?_⟩;rw[iD _ (gL nk)]
 have aa:RowsAt (upd H5 d (.dK (D++[(Sum.inr l,.ref M)]))) d (rs++[W]):=by
  refine⟨D++[(Sum.inr l,.ref M)],aE,?_,?_⟩
  ·rw[lj,hk,lj,<-wn];rfl
  ·rw[lj];exact RowAt.snoc (hv.mono λv x z=>z.put N (by intro _ z;cases z)) (aq.put N (by intro _ z;cases z))
 have ac:upd H5 d (.dK (D++[(Sum.inr l,.ref M)])) q=some (.lst ((bD c n b m).map λr=>V.str r.nm)):=by
  rw[aG (bB (s5 _ _ S) N (by intro z;cases z))];exact s5 _ _ S
 have kp:KpD d H (upd H5 d (.dK (D++[(Sum.inr l,.ref M)]))):=(KpD.of (R.trans s5)).trans KpD.put;generalize upd H5 d (.dK (D++[(Sum.inr l,.ref M)]))=H6 at aa ac kp⊢;refine⟨_,rfl,_,rfl,zL1,λx nx=>?_⟩;obtain⟨H7,zq,s7,h7⟩:=uG (o:=.lst [.str l]) nx;rw[zq];refine⟨q,x,_,_,rfl,rfl,s7 _ _ ac,h7,aT (by rw[kX,ak];lia),λp np=>?_⟩;have s8:=s7.trans (aU (o:=.lst (((bD c n b m).map λr=>V.str r.nm)++[.str l])) np)
 have n6:H6 p=none:=by
  cases e:H6 p with
  |none=>rfl
  |some o=>rw[s7 _ _ e]at np;cases np
 refine k p _ (kp.fresh aa.ne0 n6) (kp.trans (KpD.of s8)) (aa.mono s8) ?_;rw[aE,lj,<-wn];rfl
theorem take_names{lb:List Str}{as:Nat->WR}(h:n<=lb.length)(e:∀j,j<n->(as j).nm=lb.getD j ""):(lb.map V.str).take n=(List.range n).map λj=>V.str (as j).nm:=by
 apply List.ext_getElem?
 intro j;rw[nE,lg,lg];by_cases hj:j<n
 ·rw[if_pos hj,List.getElem?_range hj,eO (by lia)];show some (V.str (lb.getD j ""))=some (V.str (as j).nm);rw[e j hj]
 ·rw[if_neg hj,List.getElem?_eq_none (by rw[nH];lia)];rfl
noncomputable def iI(as:Nat->WR)(n:Nat):Nat->WR:=λk=>as (n+(n-k)%n)
noncomputable def hasH(k:Int):Prop:=k=0∨k=2∨k=3∨k=6∨k=7
instance(k:Int):Decidable (hasH k):=by unfold hasH;infer_instance
theorem inH(h0:0<=k)(h8:k<8):inV (.int k) [.int 0,.int 2,.int 3,.int 6,.int 7]=decide (hasH k):=by
 have:k=0∨k=1∨k=2∨k=3∨k=4∨k=5∨k=6∨k=7:=by lia
 rcases this with rfl|rfl|rfl|rfl|rfl|rfl|rfl|rfl<;>decide+kernel
structure CB(c:Int×Int):Prop where
 t0:1<=c.1
 t1:c.1<=12
 b0:1<=c.2
 b1:c.2<=6
noncomputable def szI(n:Nat)(c0:Int):Int:=if c0%8%2=1 then 1+c0/40%((n:Int)-1)else 0
theorem szI_bd(h:2<=n):0<=szI n c0/\szI n c0<n:=by
 unfold szI;obtain⟨b,a⟩:=bR (c0/40) (show(0:Int)<(n:Int)-1 by omega)
 split<;>omega
noncomputable def StrR(as:Nat->WR)(n:Nat)(nm1 nm2:Str)(c0:Int)(W1 W2:WR)(hd pa ta:List WR)(c:Int×Int):Prop:=∃(st sz m1 m2 b0:Nat)(g1 g2:Int×Int)(k1 k2:Int),st<n/\szI n c0=sz/\sz<n/\1<=m1/\m1<n/\1<=m2/\m2<n/\(0-(st:Int)-sz)%n=b0/\FB g1.1 g1.2/\(c0%8=0->g1.1=g1.2)/\(c0%8≠0->g1.2<g1.1)/\FB g2.1 g2.2/\g2.1<g2.2/\W1=dE as n st m1 nm1 g1 k1/\W2=dE (iI as n) n b0 m2 nm2 g2 k2/\hd=(if hasH (c0%8) then bD as n st m1++[W1]else[])/\pa=bD as n st sz/\ta=(if c0%8<4 then[]else bD (iI as n) n b0 m2++[W2])/\CB c
inductive IspStrand(vs:List V)(H:Hp)(Q:VK):Prop
 |mk(d ll lc:Addr)(rs:List WR)(lb:List Str)(as:Nat->WR)(n wh:Nat)(c0 c1 c2 c3:Int)(h1:vs=[.ref d,.ref ll,.int n,.int wh,.ref lc])(h2:RowsAt H d rs)(h3:(rs.map (·.nm)).Nodup)(h4:rs.length<=18)(h5:H ll=some (.lst (lb.map V.str)))(h6:lb.length<=100)(h7:2*n+2*wh+2<=lb.length)(h8:(∀j,j<2*n->as j∈rs/\(as j).nm=lb.getD j ""/\G5 (as j).t (as j).b))(h9:2<=n)(h10:n<=5)(h11:wh<=20)(h12:lb.Nodup)(h13:(∀r∈rs,r.nm≠lb.getD (2*n+2*wh) ""/\r.nm≠lb.getD (2*n+2*wh+1) ""))(h14:H lc=some (.lst [.int c0,.int c1,.int c2,.int c3]))(h15:∀(t lh lp lt g:Addr)(H':Hp)(W1 W2:WR)(hd pa ta:List WR)(c:Int×Int),H lh=none->H lp=none->H lt=none->KpD d H H'->RowsAt H' d (rs++[W1]++[W2])->H' t=some (.tup [.ref lh,.ref lp,.ref lt,.ref g])->H' lh=some (.lst (hd.map λr=>V.str r.nm))->H' lp=some (.lst (pa.map λr=>V.str r.nm))->H' lt=some (.lst (ta.map λr=>V.str r.nm))->H' g=some (.tup [.int c.1,.int c.2])->StrR as n (lb.getD (2*n+2*wh) "") (lb.getD (2*n+2*wh+1) "") c0 W1 W2 hd pa ta c->Q (.ref t) H'):IspStrand vs H Q
noncomputable def spStrand(K:W.Frag):Sp:=λvs H Q _=>IspStrand vs H Q
theorem ok_law_strand(T:TX K mg a):FnB P w K mg base CX0 "_law_strand" 3 ["_law_ways_here","_law_labels","_law_count","_law_which","_law_cells"] (spStrand K):=by
 refine T.d_law_strand.okA sc_law_strand λf cq A bj s H vs Q E O h=>?_;obtain⟨d,ll,I,rs,J,L,n,c,c0,c1,c2,D,rfl,hR,nd,cu,af,cs,cv,all,n2,n5,cn,bp,fresh,hc,k⟩:=h
 refine⟨_,(aD (aH (i:=5) sc_law_strand.nd (aM bE (aK bC (pv 4) aC) aC))
  (aD (aH (i:=6) sc_law_strand.nd (aM bE (aM cP (aK bC (pv 4) aC) aC) (pv 2)))
  (aD (aH (i:=7) sc_law_strand.nd aC)
  (aX (bJ (aS e7 (aM bE (pv 5) aC) aC) (aF (aH (i:=7) sc_law_strand.nd (aM bQ aC (aM bE (aM cP (aK bC (pv 4) aC) aC) (aM eC (pv 2) aC))))) aV)
  (aD (aH (i:=8) sc_law_strand.nd (gT ki (pv 1) iQ (iP (pv 2))))
  (aX (fY (i:=9) (xs:=["_law_k"]) (rest:=["_law_count","_law_labels"]) sc_law_strand.nd rfl rfl rfl (dM rfl T.z_range (aA (pv 2) aB))
  (λG fp C' s' m=>(aR (i:=0) (show(["_law_k","_law_count","_law_labels"]:List Str).Nodup by decide+kernel))) (λG fp C' s' m=>eI)
  (λG fp C' s' m=>(aK (r:=rIxL K) bC (pv 2) (aM bQ (pv 1) (aM bE (aM eC aC (pv 0)) (pv 1)))))
  (Clos.many (ys:=["_law_labels","_law_count"]) rfl ⟨rfl,rfl,True.intro⟩ rfl (by decide+kernel)) (Reads.many (ys:=["_law_count","_law_labels"]) (js:=[2,1]) ⟨⟨rfl,rfl,rfl⟩,⟨rfl,rfl,rfl⟩,True.intro⟩))
  (aD (aH (i:=10) sc_law_strand.nd (aO (jX T) O aJ (aA (aK bC (pv 4) aC) (aA (eQ e7 (pv 5) aC) aB))))
  (aD (aH (i:=11) sc_law_strand.nd (aO (jX T) O aJ (aA (aK bC (pv 4) aC) (aA hX aB))))
  (aD (aH (i:=11) sc_law_strand.nd (bP (aA (aK aQ (pv 11) aC) (aA (aK aQ (pv 11) aC) aB))))
  (aD (aH (i:=12) sc_law_strand.nd (aM bQ aC (aM bE (aM cP (aK bC (pv 4) aC) aC) (aM eC (pv 2) aC))))
  (aD (aH (i:=13) sc_law_strand.nd (aO (ok_law_ring T) O aJ (aA (pv 0) (aA (pv 8) (aA (pv 6) (aA (pv 12) (aA (aK bC (pv 1) (aM bQ (aM cR aC (pv 2)) (aM cR aC (pv 3)))) (aA (pv 10) (aA (aM bE (aK bC (pv 4) aC) aC) aB)))))))))
  (aD (aH (i:=12) sc_law_strand.nd (aM bQ aC (aM bE (aM cP (aK bC (pv 4) aC) aC) (aM eC (pv 2) aC))))
  (aD (aH (i:=14) sc_law_strand.nd (aK bC (pv 1) (aM bQ (aM bQ (aM cR aC (pv 2)) (aM cR aC (pv 3))) aC)))
  (aD (aH (i:=15) sc_law_strand.nd (aO (ok_law_ring T) O aJ (aA (pv 0) (aA (pv 9) (aA (aM eC (aM eC aC (pv 6)) (pv 7)) (aA (pv 12) (aA (pv 14) (aA (pv 11) (aA (aM bE (aK bC (pv 4) aC) aC) aB)))))))))
  (aX (fY (i:=16) (xs:=["_law_k"]) (rest:=["_law_ahead","_law_count","_law_start"]) sc_law_strand.nd rfl rfl rfl (dM rfl T.z_range (aA (pv 7) aB))
  (λG fp C' s' m=>(aR (i:=0) (show(["_law_k","_law_ahead","_law_count","_law_start"]:List Str).Nodup by decide+kernel))) (λG fp C' s' m=>eI)
  (λG fp C' s' m=>(aK (r:=rIxL K) bC (pv 1) (aM bE (aM bQ (pv 3) (pv 0)) (pv 2))))
  (Clos.many (ys:=["_law_start","_law_count","_law_ahead"]) rfl ⟨rfl,rfl,rfl,True.intro⟩ rfl (by decide+kernel)) (Reads.many (ys:=["_law_ahead","_law_count","_law_start"]) (js:=[8,2,6]) ⟨⟨rfl,rfl,rfl⟩,⟨rfl,rfl,rfl⟩,⟨rfl,rfl,rfl⟩,True.intro⟩))
  (aX (bJ (pt_cmpR op_notIn_seq (pv 5) (bH (aA aC (aA aC (aA aC (aA aC (aA aC aB)))))) (by with_unfolding_all rfl)) (aF (aH (i:=13) sc_law_strand.nd (bH aB))) aV)
  (aX (bJ (aS jo (pv 5) aC) (aF (aH (i:=15) sc_law_strand.nd (bH aB))) aV)
  (aF (aP (bP (aA (pv 13) (aA (pv 16) (aA (pv 15) (aA (bP (aA (aM bQ aC (aM bE (aK bC (pv 4) aC) aC)) (aA (aM bQ aC (aM bE (aM cP (aK bC (pv 4) aC) aC) aC)) aB))) aB)))))))))))))))))))))))),?_⟩
 walk_at"q"
 generalize ab:i9 _ _=k9
 revert k9
 refine gB λk9 ab=>?_;have sc:=SqL.of (K:=K) hc;have n0:(0:Int)<n:=by lia
 have n1:(0:Int)<(n:Int)-1:=by lia
 obtain⟨z0,z1⟩:=szI_bd (c0:=c0) n2;obtain⟨cm,cr⟩:=bR (c0/8) n0;refine⟨_,rfl,I,_,_,_,rfl,rfl,sc,rfl,_,_,rfl,rfl,zI8,?_⟩;refine⟨_,rfl,I,_,_,_,rfl,rfl,sc,rfl,_,_,rfl,rfl,⟨by decide,by decide⟩,_,rfl,_,_,rfl,rfl,n0,?_⟩;subst ab;refine dA (λN m=>N=[some (.ref d),some (.ref ll),some (.int n),some (.int c),some (.ref I),some (.int (c0%8)),some (.int (c0/8%n)),some (.int (szI n c0)),none,none,none,none,none,none,none,none,none]/\m=H) ?_ ?_
 ·refine⟨_,rfl,_,_,rfl,rfl,zI2,rfl,_,rfl,ifV (λe=>?_) (λe=>?_)⟩
  ·refine⟨_,rfl,I,_,_,_,rfl,rfl,sc,rfl,_,_,rfl,rfl,⟨by decide,by decide⟩,_,rfl,_,_,rfl,rfl,_,_,rfl,rfl,n1,_,_,rfl,rfl,?_,rfl⟩;rw[show szI n c0=1+c0/40%((n:Int)-1) from if_pos e];rfl
  ·refine⟨?_,rfl⟩;rw[show szI n c0=0 from if_neg e];rfl
 rintro zU B N H0⟨rfl,rfl⟩;subst B;generalize ab:i9 _ _=k9
 revert k9
 refine gB λk9 ab=>?_;refine⟨_,rfl,_,rfl,_,rfl,ll,_,rfl,SqL.of af,λla na=>?_⟩;rw[cut_take];have s1:=aU (o:=.lst ((J.map V.str).take n)) na
 have bh:upd H0 la (.lst ((J.map V.str).take n)) la=some (.lst ((List.range n).map λj=>V.str (L j).nm)):=by
  rw[aE,take_names (by lia) λj hj=>(all j (by lia)).2.1]
 generalize upd H0 la (.lst ((J.map V.str).take n))=H1 at s1 bh⊢;subst ab;refine dA (λN m=>yE1 λq=>N=[some (.ref d),some (.ref ll),some (.int n),some (.int c),some (.ref I),some (.int (c0%8)),some (.int (c0/8%n)),some (.int (szI n c0)),some (.ref la),some (.ref q),none,none,none,none,none,none,none]×' Same H1 m×' m q=some (.lst ((List.range n).map λj=>V.str (iI L n j).nm))) ?_ ?_
 ·refine⟨_,rfl,_,rfl,by lia,by lia,λq nq=>?_⟩;refine fj (λi R=>i<=n×' Same H1 R×' R q=some (.lst ((List.range i).map λj=>V.str (iI L n j).nm))) ⟨lD _,aU nq,aE⟩ ?_ ?_
  ·rintro i R hi⟨_,S,h2⟩;have aq:i<n:=by lia
   refine g1 ⟨⟨[_],rfl,rfl⟩,yes ?_⟩;have bn:=SqL.of (K:=K) ((s1.trans S) _ _ af);have ao:(n-i)%n<n:=mG _ (by lia)
   have ei:((0:Int)-(0+(i:Int)))%n=(((n-i)%n:Nat):Int):=by
    rw[Int.natCast_emod,show(((n-i:Nat)):Int)=(0-(0+(i:Int)))+n by lia,Int.add_emod_right]
   refine⟨_,rfl,_,rfl,_,rfl,_,_,rfl,rfl,_,rfl,_,_,rfl,rfl,n0,_,_,rfl,rfl,ll,_,_,.str (iI L n i).nm,rfl,rfl,bn,?_,?_⟩
   ·show atI (J.map V.str) ((n:Int)+(0-(0+(i:Int)))%n)=_;rw[ei,<-Int.natCast_add];unfold iI;rw[(all (n+(n-i)%n) (by lia)).2.1];exact fR (eO (by lia))
   ·refine⟨_,h2,aT (by rw[kX,nH];lia),fE hi ⟨aq,aY nq S,?_⟩⟩;rw[aE,List.range_succ,lj];rfl
  ·rintro R⟨_,S,h2⟩;exact⟨q,rfl,S,by simpa using h2⟩
 rintro zU B N R⟨lq,rfl,S,hq⟩;have a9:=s1.trans S;subst B;refine⟨_,rfl,I,_,_,_,rfl,rfl,SqL.of (a9 _ _ hc),rfl,_,rfl,rfl,c1,_,rfl,λt1 b1 p1 a2 br bx bo=>?_⟩;obtain⟨H3,zq,s3,h3⟩:=uG (o:=.tup [.int t1,.int b1]) bo;rw[zq];have a0:=a9.trans s3;refine⟨_,rfl,I,_,_,_,rfl,rfl,SqL.of (a0 _ _ hc),rfl,c2,false,rfl,λY X p2 F _ cd ci=>?_⟩;obtain⟨H4,zq,s4,h4⟩:=uG (o:=.tup [.int Y,.int X]) ci;rw[zq];refine⟨_,rfl,p2,_,_,_,rfl,rfl,SqT.of h4,rfl,_,rfl,p2,_,_,_,rfl,rfl,SqT.of h4,rfl,zL2,λp3 ce=>?_⟩;obtain⟨H5,zq,s5,h5⟩:=uG (o:=.tup [.int X,.int Y]) ce;rw[zq];have M:=a0.trans (s4.trans s5);have b3:=(s4.trans s5) _ _ h3;have ah:=((S.trans s3).trans (s4.trans s5)) _ _ bh;have b7:=(s3.trans (s4.trans s5)) _ _ hq;have aw:=SqL.of (K:=K) (M _ _ hc);have cf:=SqL.of (K:=K) (M _ _ af);have bb:=hR.mono M;obtain⟨v0,v1⟩:=bR (c1/225) n1;obtain⟨w0,w1⟩:=bR (c2/225) n1;obtain⟨m1,bt⟩:∃m1:Nat,2+c1/225%((n:Int)-1)=((m1+1:Nat):Int):=⟨(1+c1/225%((n:Int)-1)).toNat,by lia⟩;obtain⟨m2,bq⟩:∃m2:Nat,2+c2/225%((n:Int)-1)=((m2+1:Nat):Int):=⟨(1+c2/225%((n:Int)-1)).toNat,by lia⟩;obtain⟨U,an⟩:∃U:Nat,c0/8%n=(U:Int):=⟨(c0/8%n).toNat,by lia⟩;have S2:Sm 2:=Sm.of_le (n:=10) (by decide) (by decide);have Sn:Sm n:=Sm.of_le (n:=10) (by show(n:Int).natAbs<=1024;lia) (by decide);have Sw:Sm c:=Sm.of_le (n:=10) (by show(c:Int).natAbs<=1024;lia) (by decide)
 have x1:atI (J.map V.str) (2*(n:Int)+2*c)=some (.str (J.getD (2*n+2*c) "")):=by
  rw[show 2*(n:Int)+2*c=((2*n+2*c:Nat):Int) by lia];exact fR (eO (by lia))
 have x2:atI (J.map V.str) (2*(n:Int)+2*c+1)=some (.str (J.getD (2*n+2*c+1) "")):=by
  rw[show 2*(n:Int)+2*c+1=((2*n+2*c+1:Nat):Int) by lia];exact fR (eO (by lia))
 refine⟨_,rfl,I,_,_,_,rfl,rfl,aw,rfl,_,_,rfl,rfl,⟨by decide,by decide⟩,_,rfl,_,_,rfl,rfl,_,_,rfl,rfl,n1,_,_,rfl,rfl,?_⟩;refine⟨_,rfl,_,rfl,_,rfl,_,rfl,_,rfl,_,rfl,_,_,rfl,rfl,⟨S2,Sn⟩,_,rfl,_,_,rfl,rfl,⟨S2,Sw⟩,_,_,rfl,rfl,ll,_,_,_,rfl,rfl,cf,x1,_,rfl,_,rfl,I,_,_,_,rfl,rfl,aw,rfl,_,_,rfl,rfl,zI3,?_⟩;refine⟨d,la,p1,rs,L,n,U,m1,c0/8%n,c1%3,_,(t1,b1),by rw[<-bt];rfl,bb,nd,by lia,ah,λj hj=>⟨(all j (by lia)).1,(all j (by lia)).2.2⟩,n2,n5,by lia,by lia,by rw[Int.emod_emod_of_dvd _ (Int.dvd_refl _)];exact an,λz=>by obtain⟨r,O,e⟩:=k8.mp z;exact(fresh r O).1 e,b3,a2,λlh H6 ck k6 ac am=>?_⟩;obtain⟨cp,a1,_⟩:=id bb;have kl:∀{b:Addr}{xs:List V},H5 b=some (.lst xs)->H6 b=some (.lst xs):=λe=>k6 _ _ (bB e a1 (by intro z;cases z)) e;have kt:∀{b:Addr}{xs:List V},H5 b=some (.tup xs)->H6 b=some (.tup xs):=λe=>k6 _ _ (bB e a1 (by intro z;cases z)) e;have ak:=kl ah;have b5:=kl b7;have Z:=kl (M _ _ hc);have au:=SqL.of (K:=K) Z;have aa:=kl (M _ _ af);have bf:=SqL.of (K:=K) aa;have bv:=kt h5;have K6:KpD d H0 H6:=(KpD.of M).trans k6;have ap:(dE L n U m1 (J.getD (2*n+2*c) "") (t1,b1) (c1%3)).nm=J.getD (2*n+2*c) "":=rfl;generalize hW:dE L n U m1 (J.getD (2*n+2*c) "") (t1,b1) (c1%3)=W1 at ac am ap;obtain⟨b0,be⟩:∃b0:Nat,(0-c0/8%(n:Int)-szI n c0)%n=(b0:Int):=⟨((0-c0/8%(n:Int)-szI n c0)%n).toNat,by have:=Int.emod_nonneg (0-c0/8%(n:Int)-szI n c0) (show(n:Int)≠0 by lia);lia⟩
 have nn:J.getD (2*n+2*c) ""≠J.getD (2*n+2*c+1) "":=λe=>by
  have g1:=eO (xs:=J) (i:=2*n+2*c) (by lia);have g2:=eO (xs:=J) (i:=2*n+2*c+1) (by lia)
  have:2*n+2*c=2*n+2*c+1:=(mS (kY.mp g1).1 bp).mp (by rw[g1,g2,e])
  lia
 have ch:((rs++[W1]).map (·.nm)).Nodup:=by
  rw[lj,mo];refine⟨nd,by simp,λx hx y hy e=>?_⟩;have ey:y=W1.nm:=by simpa using hy
  obtain⟨r,O,er⟩:=k8.mp hx;exact(fresh r O).1 (by rw[er,e,ey,ap])
 refine⟨_,rfl,I,_,_,_,rfl,rfl,au,rfl,_,_,rfl,rfl,⟨by decide,by decide⟩,_,rfl,_,_,rfl,rfl,_,_,rfl,rfl,n1,_,_,rfl,rfl,?_⟩;refine⟨_,rfl,_,rfl,_,_,rfl,rfl,⟨S2,Sn⟩,_,rfl,_,_,rfl,rfl,⟨S2,Sw⟩,_,_,rfl,rfl,_,_,rfl,rfl,ll,_,_,_,rfl,rfl,bf,x2,?_⟩;refine⟨_,rfl,_,rfl,_,rfl,_,_,rfl,rfl,_,rfl,_,_,rfl,rfl,_,rfl,_,rfl,_,rfl,_,rfl,I,_,_,_,rfl,rfl,au,rfl,_,_,rfl,rfl,zI3,?_⟩;refine⟨d,lq,p3,rs++[W1],iI L n,n,b0,m2,0-c0/8%(n:Int)-szI n c0,c2%3,_,(X,Y),by rw[<-bq];rfl,ac,ch,by rw[lG];show rs.length+1<=20;lia,b5,λj hj=>?_,n2,n5,by lia,by lia,be,λz=>?_,bv,⟨F.b0,F.b1,F.t0,F.t1⟩,λlt H7 b9 k7 al bw=>?_⟩
 ·have ao:(n-j)%n<n:=mG _ (by lia)
  have:=all (n+(n-j)%n) (by lia)
  exact⟨lJ _ this.1,this.2.2⟩
 ·obtain⟨r,O,e⟩:=k8.mp z;rcases lB.mp O with O|O
  ·exact(fresh r O).2 e
  ·have:r=W1:=by simpa using O
   rw[this,ap]at e;exact nn e
 obtain⟨co,a4,_⟩:=id ac;have bc:H6 d≠none:=by rw[a4];intro z;cases z
 have ag:∀{b:Addr}{xs:List V},H6 b=some (.lst xs)->H7 b=some (.lst xs):=λe=>k7 _ _ (bB e a4 (by intro z;cases z)) e;have a8:=ag ak;have aj:=ag Z;have ct:=SqL.of (K:=K) aj;have a5:=ag am;have K7:KpD d H0 H7:=K6.trans k7;obtain⟨sz,a3⟩:∃sz:Nat,szI n c0=(sz:Int):=⟨(szI n c0).toNat,by lia⟩;refine dA (λN m=>yE3 λq ad ae=>N=[some (.ref d),some (.ref ll),some (.int n),some (.int c),some (.ref I),some (.int (c0%8)),some (.int (c0/8%n)),some (.int (szI n c0)),some (.ref la),some (.ref lq),some (.ref p1),some (.ref p3),ad,some (.ref lh),ae,some (.ref lt),some (.ref q)]×' H7 q=none×' Same H7 m×' m q=some (.lst ((bD L n U sz).map λr=>V.str r.nm))) ?_ ?_
 ·refine⟨_,rfl,_,rfl,by lia,by lia,λq nq=>?_⟩;refine fj (λi R=>i<=sz×' Same H7 R×' R q=some (.lst ((bD L n U i).map λr=>V.str r.nm))) ⟨lD _,aU nq,aE⟩ ?_ ?_
  ·rintro i R hi⟨_,S,h2⟩;have aq:i<sz:=by lia
   refine g1 ⟨⟨[_],rfl,rfl⟩,yes ?_⟩;have a7:=SqL.of (K:=K) (S _ _ a8);have ao:(U+i)%n<n:=mG _ (by lia);refine⟨_,rfl,_,rfl,_,rfl,_,_,rfl,rfl,_,rfl,_,_,rfl,rfl,n0,la,_,_,.str (L ((U+i)%n)).nm,rfl,rfl,a7,?_,?_⟩
   ·show atI ((List.range n).map λj=>V.str (L j).nm) ((c0/8%(n:Int)+(0+(i:Int)))%n)=_;rw[Int.zero_add,idx_mod (b:=U) (by lia) (by rw[an];exact Int.emod_eq_of_lt (by lia) (by lia))];exact atI_nat (by rw[lg,List.getElem?_range ao];rfl)
   ·refine⟨_,h2,aT (by rw[kX];unfold bD;rw[kX,nH];lia),fE hi ⟨aq,aY nq S,?_⟩⟩;rw[aE,ke,lj];rfl
  ·rintro R⟨_,S,h2⟩;refine⟨q,_,_,rfl,nq,S,?_⟩;rw[show(szI n c0).toNat=sz by lia]at h2;exact h2
 rintro zU B N H8⟨lp,ad,ae,rfl,bu,s8,cg⟩;have fr:∀{Ha:Hp}{p:Addr},Same H8 Ha->Ha p=none->H0 p=none:=λ{Ha p}s e=>KpD.fresh ((K7.trans (KpD.of s8)).trans (KpD.of s)) (by obtain⟨kv,hd,_⟩:=al.mono (s8.trans s);rw[hd];intro z;cases z) e;have bz:=s8 _ _ a5;have ca:=s8 _ _ bw;have b6:=s8 _ _ aj;have bl:=al.mono s8;have K8:=K7.trans (KpD.of s8);obtain⟨bm,b4⟩:=bR c0 (show(0:Int)<8 by decide);subst B;refine dA (λN m=>yE1 λl=>N=[some (.ref d),some (.ref ll),some (.int n),some (.int c),some (.ref I),some (.int (c0%8)),some (.int (c0/8%n)),some (.int (szI n c0)),some (.ref la),some (.ref lq),some (.ref p1),some (.ref p3),ad,some (.ref l),ae,some (.ref lt),some (.ref lp)]×' H0 l=none×' Same H8 m×' m l=some (.lst ((if hasH (c0%8) then bD L n U m1++[W1]else[]).map λr=>V.str r.nm))) ?_ ?_
 ·refine⟨_,rfl,zL5,λx nx=>?_⟩;obtain⟨H9,zq,sx,hx⟩:=uG (o:=.lst [.int 0,.int 2,.int 3,.int 6,.int 7]) nx;rw[zq];refine⟨x,_,rfl,.inl (SqL.of hx),rfl,rfl,?_⟩;have e2:(if true=true then !inV (V.int (c0%8)) [.int 0,.int 2,.int 3,.int 6,.int 7]else inV (V.int (c0%8)) [.int 0,.int 2,.int 3,.int 6,.int 7])=!decide (hasH (c0%8)):=by rw[inH bm b4];rfl
  rw[e2];by_cases hk:hasH (c0%8)
  ·rw[lQ hk];exact⟨_,rfl,iteF ⟨lh,rfl,M.free ck,sx,by rw[if_pos hk];exact sx _ _ bz⟩⟩
  ·rw[lM hk];exact⟨_,rfl,iteT ⟨zL0,λl nl=>⟨l,rfl,fr sx nl,sx.trans (aU nl),by rw[if_neg hk];exact aE⟩⟩⟩
 rintro zU B N H9⟨ar,rfl,ax,s9,cj⟩;subst B;refine dA (λN m=>yE1 λl=>N=[some (.ref d),some (.ref ll),some (.int n),some (.int c),some (.ref I),some (.int (c0%8)),some (.int (c0/8%n)),some (.int (szI n c0)),some (.ref la),some (.ref lq),some (.ref p1),some (.ref p3),ad,some (.ref ar),ae,some (.ref l),some (.ref lp)]×' H0 l=none×' Same H9 m×' m l=some (.lst ((if c0%8<4 then[]else bD (iI L n) n b0 m2++[dE (iI L n) n b0 m2 (J.getD (2*n+2*c+1) "") (X,Y) (c2%3)]).map λr=>V.str r.nm))) ?_ ?_
 ·refine⟨_,rfl,_,_,rfl,rfl,_,rfl,?_⟩;by_cases hk:c0%8<4
  ·rw[lQ hk];exact iteT ⟨zL0,λl nl=>⟨l,rfl,fr s9 nl,aU nl,by rw[if_pos hk];exact aE⟩⟩
  ·rw[lM hk];exact iteF ⟨lt,rfl,K6.fresh bc b9,λb o e=>e,by rw[if_neg hk];exact s9 _ _ ca⟩
 rintro zU B N ba⟨bg,rfl,az,av,ay⟩;have ai:=SqL.of (K:=K) ((s9.trans av) _ _ b6);obtain⟨q1,q2⟩:=bR D (show(0:Int)<12 by decide);obtain⟨q3,q4⟩:=bR (D/12) (show(0:Int)<6 by decide);subst B;refine⟨_,rfl,_,rfl,_,rfl,_,rfl,I,_,_,_,rfl,rfl,ai,rfl,_,_,rfl,rfl,zI12,_,_,rfl,rfl,_,rfl,I,_,_,_,rfl,rfl,ai,rfl,_,_,rfl,rfl,⟨by decide,by decide⟩,_,_,rfl,rfl,zI6,_,_,rfl,rfl,zL2,λg ng=>?_⟩;obtain⟨cl,zq,a6,hg⟩:=uG (o:=.tup [.int (1+D%12),.int (1+D/12%6)]) ng;rw[zq];have cb:CB (1+D%12,1+D/12%6):=⟨by show 1<=1+D%12;lia,by show 1+D%12<=12;lia,by show 1<=1+D/12%6;lia,by show 1+D/12%6<=6;lia⟩;refine⟨zL4,λt nt=>?_⟩;have sB:=a6.trans (aU (o:=.tup [.ref ar,.ref lp,.ref bg,.ref g]) nt);have sC:=av.trans sB;have sD:=s9.trans sC;refine k t ar lp bg g _ W1 _ _ _ _ (1+D%12,1+D/12%6) ax (K7.fresh (by obtain⟨kv,hd,_⟩:=id al;rw[hd];intro z;cases z) bu) az (K8.trans (KpD.of sD)) (bl.mono sD) aE (sC _ _ cj) (sD _ _ cg) (sB _ _ ay) (aU nt _ _ hg) ⟨U,sz,m1,m2,b0,(t1,b1),(X,Y),c1%3,c2%3,by lia,a3,by lia,by lia,by lia,by lia,by lia,by rw[<-an,<-a3];exact be,a2,λe=>br (by rw[e];rfl),λe=>bx (by rw[dec_int];exact beq_false_of_ne e),⟨F.b0,F.b1,F.t0,F.t1⟩,cd rfl,hW.symm,rfl,rfl,rfl,rfl,cb⟩
theorem gp_ring(as:Nat->WR)(n b m:Nat)(nm:Str)(g:Int×Int)(kd:Int):gp (bD as n b m++[dE as n b m nm g kd])=((gp (bD as n b m)).1*(g.1*(gp (bD as n b m)).2),(gp (bD as n b m)).2*(g.2*(gp (bD as n b m)).1)):=jF _ _
theorem ring_cmp{p:Int×Int}{g:Int×Int}(p1:1<=p.1)(p2:1<=p.2):(p.1*(g.1*p.2)=p.2*(g.2*p.1)↔g.1=g.2)/\(p.1*(g.1*p.2)<p.2*(g.2*p.1)↔g.1<g.2):=by
 have a:p.1*(g.1*p.2)=(p.1*p.2)*g.1:=by rw[mH g.1,m5]
 have b:p.2*(g.2*p.1)=(p.1*p.2)*g.2:=by rw[mH g.2,<-m5,mH p.2]
 have q:0<p.1*p.2:=mQ (by lia) (by lia);rw[a,b];exact⟨⟨λh=>Int.eq_of_mul_eq_mul_left (by lia) h,λh=>by rw[h]⟩,⟨λh=>Int.lt_of_mul_lt_mul_left h (by lia),λh=>Int.mul_lt_mul_of_pos_left h q⟩⟩
structure Rnd(P:Nat->Str)(n:Nat)(ws:Nat->WR)(m:Nat):Prop where
 inj:∀i j,i<n->j<n->P i=P j->i=j
 st:∀k,k<m->(ws k).st=P k
 go:∀k,k<m->(ws k).go=P (k+1)
theorem mod2(h:x<2*n):x%n=if x<n then x else x-n:=by
 split
 ·exact Nat.mod_eq_of_lt ‹_›
 ·rw[Nat.mod_eq_sub_mod (by lia),Nat.mod_eq_of_lt (by lia)]
theorem gY{sp:List Str}(nd:sp.Nodup)(hi:i<sp.length)(hj:j<sp.length)(e:sp.getD i ""=sp.getD j ""):i=j:=by
 have g1:=eO hi;have a:=eO hj;exact(mS hi nd).mp (by rw[g1,a,e])
structure BaseW(sp:List Str)(n:Nat)(as:Nat->WR):Prop where
 nd:sp.Nodup
 len:sp.length=n
 st:∀j,j<2*n->(as j).st=sp.getD (j%n) ""
 go:∀j,j<2*n->(as j).go=sp.getD (goI n j) ""
noncomputable def pA(sp:List Str)(n st k:Nat):Str:=sp.getD ((st+k)%n) ""
noncomputable def pB(sp:List Str)(n b k:Nat):Str:=sp.getD ((n-(b+k)%n)%n) ""
theorem BaseW.ahead{n st m:Nat}(h:BaseW sp n as)(n2:2<=n)(hs:st<n)(mn:m<n):Rnd (pA sp n st) n (λk=>as ((st+k)%n)) m:=by
 have l:=h.len;refine⟨λi j b c e=>?_,λk a=>?_,λk a=>?_⟩
 ·have:=gY h.nd (by rw[l];exact mG _ (by lia)) (by rw[l];exact mG _ (by lia)) e
  rw[mod2 (by lia),mod2 (by lia)]at this
  split at this<;>split at this<;>lia
 ·have q:(st+k)%n<n:=mG _ (by lia);rw[h.st _ (by lia),Nat.mod_mod];rfl
 ·have q:(st+k)%n<n:=mG _ (by lia);rw[h.go _ (by lia)]
  congr 1
  unfold goI;rw[if_pos q,Nat.mod_add_mod];rfl
theorem neg_mod(hy:y<n):(n-y)%n=if y=0 then 0 else n-y:=by
 split
 ·rename_i h;rw[h,Nat.sub_zero,Nat.mod_self]
 ·exact Nat.mod_eq_of_lt (by lia)
theorem prev_mod(hy:y<n)(n2:2<=n):(n+(n-y)%n-1)%n=(n-(y+1)%n)%n:=by
 by_cases c:y=0
 ·subst c;rw[Nat.sub_zero,Nat.mod_self,Nat.add_zero,Nat.zero_add,Nat.mod_eq_of_lt (show 1<n by lia)]
 ·rw[Nat.mod_eq_of_lt (show n-y<n by lia)];by_cases d:y+1=n
  ·rw[d,Nat.mod_self,Nat.sub_zero,show n+(n-y)-1=n by lia]
  ·rw[Nat.mod_eq_of_lt (show y+1<n by lia),show n+(n-y)-1=n+(n-(y+1))by lia,Nat.add_mod_left]
theorem sum_inj{n b i j:Nat}(hb:b<n)(hi:i<n)(hj:j<n)(e:(b+i)%n=(b+j)%n):i=j:=by
 rw[mod2 (by lia),mod2 (by lia)]at e
 split at e<;>split at e<;>lia
theorem BaseW.behind(h:BaseW sp n as)(n2:2<=n)(hs:b<n)(mn:m<n):Rnd (pB sp n b) n (λk=>iI as n ((b+k)%n)) m:=by
 have l:=h.len;refine⟨λi j c o e=>?_,λk r=>?_,λk r=>?_⟩
 ·have e:=gY h.nd (by rw[l];exact mG _ (by lia)) (by rw[l];exact mG _ (by lia)) e;have a:(b+i)%n<n:=mG _ (by lia);have p:(b+j)%n<n:=mG _ (by lia);refine sum_inj hs c o ?_;rw[neg_mod a,neg_mod p]at e;clear c o hs mn n2;generalize(b+i)%n=x at a e⊢;generalize(b+j)%n=y at p e⊢
  split at e<;>split at e<;>lia
 ·have q:(n-(b+k)%n)%n<n:=mG _ (by lia);show(as (n+(n-(b+k)%n)%n)).st=_;rw[h.st _ (by lia),Nat.add_mod_left,Nat.mod_mod];rfl
 ·have q:(n-(b+k)%n)%n<n:=mG _ (by lia);show(as (n+(n-(b+k)%n)%n)).go=_;rw[h.go _ (by lia)]
  congr 1
  unfold goI;rw[if_neg (by lia),<-Nat.add_assoc,<-Nat.mod_add_mod (b+k) n 1];exact prev_mod (mG _ (by lia)) n2
theorem Rnd.nms{P:Nat->Str}(h:Rnd P n ws m)(mn:m<n)(u:∀i j,i<m->j<m->(ws i).nm=(ws j).nm->ws i=ws j):(((List.range m).map ws).map (·.nm)).Nodup:=by
 rw[mz];refine List.pairwise_map.mpr (List.Pairwise.imp_of_mem (λ{i j}a b ne e=>ne ?_) List.nodup_range);have a:=List.mem_range.mp a;have b:=List.mem_range.mp b;have e:=u i j a b e;exact h.inj i j (by lia) (by lia) (by rw[<-h.st i a,<-h.st j b,e])
theorem le_pow{x:Int}(h:x.natAbs<=2^n):x<=2^n:=by
 lia
noncomputable def DV(r:WR):Prop:=r.t∣181440000/\r.b∣181440000
theorem dv60{t:Int}(h0:1<=t)(h1:t<=5):t∣60:=by
 have:t=1∨t=2∨t=3∨t=4∨t=5:=by lia
 rcases this with rfl|rfl|rfl|rfl|rfl<;>decide
theorem dv840{t:Int}(h0:1<=t)(h1:t<=8):t∣840:=by
 have:t=1∨t=2∨t=3∨t=4∨t=5∨t=6∨t=7∨t=8:=by lia
 rcases this with rfl|rfl|rfl|rfl|rfl|rfl|rfl|rfl<;>decide
theorem dv_base(h:G5 r.t r.b):DV r:=⟨nj (dv60 h.t0 h.t1) (by decide),nj (dv60 h.b0 h.b1) (by decide)⟩
theorem gp_dv(h:∀r∈ws,G5 r.t r.b):(gp ws).1∣60^ws.length/\(gp ws).2∣60^ws.length:=by
 revert h
 refine dR (P:=λws=>(∀r∈ws,G5 r.t r.b)->(gp ws).1∣60^ws.length/\(gp ws).2∣60^ws.length) (λ_=>⟨Int.dvd_refl _,Int.dvd_refl _⟩) (λl u e h=>?_) ws;obtain⟨j,c⟩:=e λr i=>h r (lJ _ i);have a:=h u (by simp);rw[jF,lG,l9,Int.pow_succ];exact⟨Int.mul_dvd_mul j (dv60 a.t0 a.t1),Int.mul_dvd_mul c (dv60 a.b0 a.b1)⟩
theorem pow60(h:m<=3):(60:Int)^m∣60^3:=by
 have:m=0∨m=1∨m=2∨m=3:=by lia
 rcases this with rfl|rfl|rfl|rfl<;>decide
structure Rng(sp:List Str)(P:Nat->Str)(n b:Nat)(bs:Nat->WR)(nm:Str):Prop where
 rnd:∀m,m<n->Rnd P n (λk=>bs ((b+k)%n)) m
 gs:∀j,j<n->G5 (bs j).t (bs j).b
 u:∀i j,i<n->j<n->(bs i).nm=(bs j).nm->bs i=bs j
 nn:∀j,j<n->(bs j).nm≠nm
 ins:∀k,P k∈sp
 n2:2<=n
 n5:n<=4
section
variable{sp:List Str}{Pl:Nat->Str}{n b m:Nat}{bs:Nat->WR}{nm:Str}
theorem Rng.mem(h:Rng sp Pl n b bs nm)(hr:r∈bD bs n b m):∃j,j<n/\r=bs j:=by
 obtain⟨k,_,rfl⟩:=k8.mp hr;exact⟨_,mG _ (by have:=h.n2;lia),rfl⟩
theorem Rng.bnd(h:Rng sp Pl n b bs nm):((bD bs n b m).map (·.nm)).Nodup∨n<=m:=by
 by_cases mn:m<n
 ·exact .inl ((h.rnd m mn).nms mn λi j _ _ e=>h.u _ _ (mG _ (by lia)) (mG _ (by lia)) e)
 ·exact .inr (by lia)
theorem Rng.small(h:Rng sp Pl n b bs nm)(hr:r∈bD bs n b m):1<=r.t/\r.t<=2^3/\1<=r.b/\r.b<=2^3:=by
 obtain⟨j,a,rfl⟩:=h.mem hr;exact gs200 (h.gs j a)
theorem gK(bs:Nat->WR)(n b m:Nat):(bD bs n b m).length=m:=by unfold bD;rw[kX,nH]
theorem Rng.gpb(h:Rng sp Pl n b bs nm)(mn:m<n):GpB 3 m (gp (bD bs n b m)):=by
 have:=gp_bd (λr a=>h.small a) m (by rw[gK];exact k5 _)
 rw[List.take_of_length_le (by rw[gK];exact k5 _)]at this;exact this
theorem Rng.wst(h:Rng sp Pl n b bs nm)(m1:1<=m)(mn:m<n)(x:Str)(g:Int×Int)(kd:Int):(dE bs n b m x g kd).st=Pl m:=by
 have:=(h.rnd m mn).go (m-1) (by lia)
 rw[show m-1+1=m by lia]at this;exact this
theorem Rng.wgo(h:Rng sp Pl n b bs nm)(m1:1<=m)(mn:m<n)(x:Str)(g:Int×Int)(kd:Int):(dE bs n b m x g kd).go=Pl 0:=(h.rnd m mn).st 0 (by lia)
theorem Rng.g5(h:Rng sp Pl n b bs nm)(hr:r∈bD bs n b m):G5 r.t r.b:=by
 obtain⟨j,a,rfl⟩:=h.mem hr;exact h.gs j a
theorem Rng.wbd(h:Rng sp Pl n b bs nm)(mn:m<n)(fb:FB g.1 g.2)(x:Str)(kd:Int):GB (dE bs n b m x g kd).t (dE bs n b m x g kd).b/\DV (dE bs n b m x g kd):=by
 have G:=h.gpb mn;have p:=h.n5;have s:=G.t0;have o:=G.b0;have l:=fb.t0;have j:=fb.b0;have up:∀{x:Int},x.natAbs<=2^(3+m*3)->x<=2^12:=λ{x}q=>le_pow (lC q (l7 (by decide) (by lia)));obtain⟨a,c⟩:=gp_dv λr i=>h.g5 i;rw[gK]at a c;have e:=pow60 (m:=m) (by lia);refine⟨⟨?_,up (cB (eP fb.t0 fb.t1) G.b1),?_,up (cB (eP fb.b0 fb.b1) G.t1)⟩,?_,?_⟩
 ·have:=mQ (show 0<g.1 by lia) (show 0<(gp (bD bs n b m)).2 by lia)
  show 1<=g.1*(gp (bD bs n b m)).2
  lia
 ·have:=mQ (show 0<g.2 by lia) (show 0<(gp (bD bs n b m)).1 by lia)
  show 1<=g.2*(gp (bD bs n b m)).1
  lia
 ·exact nj (Int.mul_dvd_mul (dv840 fb.t0 fb.t1) (nj c e)) (by decide)
 ·exact nj (Int.mul_dvd_mul (dv840 fb.b0 fb.b1) (nj a e)) (by decide)
structure Prq(ws:List WR):Prop where
 nd:(ws.map (·.nm)).Nodup
 len:ws.length<=4
 gb:∀r∈ws,GB r.t r.b
theorem Prq.nil:Prq []:=⟨nR,by decide,λr a=>by cases a⟩
theorem Rng.bas(h:Rng sp Pl n b bs nm)(mn:m<n):Prq (bD bs n b m):=by
 have l:=h.n5;refine⟨h.bnd.resolve_right (by lia),by rw[gK];lia,λr c=>?_⟩;obtain⟨e,a,i,j⟩:=h.small c;exact⟨e,Int.le_trans a (by decide),i,Int.le_trans j (by decide)⟩
theorem Rng.ring(h:Rng sp Pl n b bs nm)(mn:m<n)(fb:FB g.1 g.2)(kd:Int):Prq (bD bs n b m++[dE bs n b m nm g kd]):=by
 have o:=h.n5;have B:=h.bas mn;refine⟨?_,by rw[lG,gK,l9];lia,λr a=>?_⟩
 ·rw[lj];refine mo.mpr ⟨B.nd,by simp,λx c y l e=>?_⟩;obtain⟨r,a,rfl⟩:=k8.mp c;obtain⟨j,i,rfl⟩:=h.mem a
  have:y=(dE bs n b m nm g kd).nm:=by simpa using l
  exact h.nn j i (e.trans this)
 ·rcases lB.mp a with z|z
  ·exact B.gb r z
  ·cases lv.mp z;exact(h.wbd mn fb nm kd).1
theorem Rng.good(h:Rng sp Pl n b bs nm)(m1:1<=m)(mn:m<n)(fb:FB g.1 g.2)(kd:Int):RGood sp (dE bs n b m nm g kd):=by
 refine⟨(h.wbd mn fb nm kd).1,?_,?_,?_⟩
 ·rw[h.wst m1 mn,h.wgo m1 mn];intro e
  have:=(h.rnd m mn).inj m 0 mn (by lia) e
  lia
 ·rw[h.wst m1 mn];exact h.ins m
 ·rw[h.wgo m1 mn];exact h.ins 0
theorem Rng.cmp(h:Rng sp Pl n b bs nm)(mn:m<n)(g:Int×Int)(kd:Int):((gp (bD bs n b m++[dE bs n b m nm g kd])).1=(gp (bD bs n b m++[dE bs n b m nm g kd])).2↔g.1=g.2)/\((gp (bD bs n b m++[dE bs n b m nm g kd])).1<(gp (bD bs n b m++[dE bs n b m nm g kd])).2↔g.1<g.2):=by
 rw[gp_ring];exact ring_cmp (h.gpb mn).t0 (h.gpb mn).b0
end
structure BsX(sp lb:List Str)(n:Nat)(as:Nat->WR):Prop where
 bw:BaseW sp n as
 nm:∀j,j<2*n->(as j).nm=lb.getD j ""
 gs:∀j,j<2*n->G5 (as j).t (as j).b
 ll:lb.length=2*n+4
 nl:lb.Nodup
 n2:2<=n
 n4:n<=4
section
variable{sp lb:List Str}{n:Nat}{as:Nat->WR}
theorem BsX.u(h:BsX sp lb n as)(hi:i<2*n)(hj:j<2*n)(e:(as i).nm=(as j).nm):as i=as j:=by
 have l:=h.ll;rw[h.nm i hi,h.nm j hj]at e;rw[gY h.nl (by lia) (by lia) e]
theorem BsX.ne(h:BsX sp lb n as)(hi:i<2*n)(hj:2*n<=j)(hj2:j<2*n+4):(as i).nm≠lb.getD j "":=λe=>by
 have l:=h.ll;rw[h.nm i hi]at e
 have:=gY h.nl (by lia) (by lia) e
 lia
theorem BsX.ins(h:BsX sp lb n as)(hk:k<n):sp.getD k ""∈sp:=kZ (eO (by rw[h.bw.len];exact hk))
theorem BsX.one(h:BsX sp lb n as)(hs:st<n)(hj:2*n<=j)(hj2:j<2*n+4):Rng sp (pA sp n st) n st as (lb.getD j ""):=by
 have a:=h.n2;exact⟨λm b=>h.bw.ahead a hs b,λj hj=>h.gs j (by lia),λi j c hj=>h.u (by lia) (by lia),λi c=>h.ne (by lia) hj hj2,λk=>h.ins (mG _ (by lia)),a,h.n4⟩
theorem BsX.two(h:BsX sp lb n as)(hs:b<n)(hj:2*n<=j)(hj2:j<2*n+4):Rng sp (pB sp n b) n b (iI as n) (lb.getD j ""):=by
 have a:=h.n2;have q:∀i,n+(n-i)%n<2*n:=λi=>by have:=mG (n-i) (show n>0 by lia);lia
 exact⟨λm c=>h.bw.behind a hs c,λj _=>h.gs _ (q j),λi j _ _=>h.u (q i) (q j),λi _=>h.ne (q i) hj hj2,λk=>h.ins (mG _ (by lia)),a,h.n4⟩
theorem BsX.good(h:BsX sp lb n as)(jl:j<2*n):RGood sp (as j):=by
 have o:=h.n2;obtain⟨i,c,m,l⟩:=gs200 (h.gs j jl);have p:(2:Int)^3<=2^12:=by decide
 have b:j%n<n:=mG _ (by lia);have a:goI n j<n:=mG _ (by lia);refine⟨⟨i,Int.le_trans c p,m,Int.le_trans l p⟩,?_,?_,?_⟩
 ·rw[h.bw.st j jl,h.bw.go j jl];intro e
  have:=gY h.bw.nd (by rw[h.bw.len];exact b) (by rw[h.bw.len];exact a) e
  unfold goI at this;rw[mod2 jl]at this
  split at this
  ·rw[mod2 (by lia)]at this
   split at this<;>lia
  ·rw[mod2 (by lia)]at this
   split at this<;>lia
 ·rw[h.bw.st j jl];exact h.ins b
 ·rw[h.bw.go j jl];exact h.ins a
end
structure SdO(rs hd pa ta:List WR)(c:Int×Int):Prop where
 ph:Prq hd
 pp:Prq pa
 pt:Prq ta
 ih:∀r∈hd,r∈rs
 ip:∀r∈pa,r∈rs
 it:∀r∈ta,r∈rs
 cb:CB c
 he:hd≠[]->(gp hd).1=(gp hd).2/\pa=[]/\ta=[]∨(gp hd).2<(gp hd).1
 te:ta≠[]->(gp ta).1<(gp ta).2
 hf:hd≠[]->∃u v,FB u v/\(gp hd).1*v=u*(gp hd).2
 tf:ta≠[]->∃u v,FB u v/\(gp ta).1*v=u*(gp ta).2
 lp:pa.length<=3
theorem SdO.mono(h:SdO rs hd pa ta c)(s:∀r∈rs,r∈rs'):SdO rs' hd pa ta c:=⟨h.ph,h.pp,h.pt,λr a=>s r (h.ih r a),λr a=>s r (h.ip r a),λr a=>s r (h.it r a),h.cb,h.he,h.te,h.hf,h.tf,h.lp⟩
theorem str_pure(B:BsX sp lb n as)(hw:wh<=1)(h:StrR as n (lb.getD (2*n+2*wh) "") (lb.getD (2*n+2*wh+1) "") c0 W1 W2 hd pa ta c):(RGood sp W1/\DV W1/\W1.nm=lb.getD (2*n+2*wh) "")/\(RGood sp W2/\DV W2/\W2.nm=lb.getD (2*n+2*wh+1) "")/\∀rs:List WR,(∀j,j<2*n->as j∈rs)->W1∈rs->W2∈rs->SdO rs hd pa ta c:=by
 obtain⟨a,sz,e,U,N,g1,E,o,y,M,D,F,H,i,K,l,aa,t,O,G,s,J,rfl,rfl,w,p,m,cb⟩:=h;have n2:=B.n2
 have L:N<n:=by
  have:=Int.emod_lt_of_pos (0-(a:Int)-sz) (show(0:Int)<n by lia)
  lia
 have x:=B.one M (show 2*n<=2*n+2*wh by lia) (by lia);have R2:=B.two L (show 2*n<=2*n+2*wh+1 by lia) (by lia);have P1:=x.ring i t o;have P2:=R2.ring l s y;have P:=x.cmp i g1 o;have C2:=R2.cmp l E y;refine⟨⟨x.good H i t o,(x.wbd i t _ o).2,rfl⟩,⟨R2.good K l s y,(R2.wbd l s _ y).2,rfl⟩,λrs I i1 i2=>?_⟩;have p0:sz=0->bD as n a sz=[]:=λz=>by rw[z];rfl
 have Z:(c0%8%2=1/\1<=sz)∨(c0%8%2≠1/\sz=0):=by
  unfold szI at D;obtain⟨a1,Y⟩:=bR (c0/40) (show(0:Int)<(n:Int)-1 by lia)
  split at D<;>lia
 have T:hd≠[]->hd=bD as n a e++[dE as n a e (lb.getD (2*n+2*wh) "") g1 o]:=λz=>by
  rw[w]at z⊢
  split at z
  ·rename_i q;rw[if_pos q]
  ·exact absurd rfl z
 have X:ta≠[]->ta=bD (iI as n) n N U++[dE (iI as n) n N U (lb.getD (2*n+2*wh+1) "") E y]:=λz=>by
  rw[m]at z⊢
  split at z
  ·exact absurd rfl z
  ·rename_i q;rw[if_neg q]
 have S:∀A Q u v:Int,A*(u*Q)*v=u*(Q*(v*A)):=λA Q u v=>by
  rw[mH A,m5,m5,mH A v]
 refine⟨?_,by rw[p];exact x.bas F,?_,λr b=>?_,λr b=>?_,λr b=>?_,cb,λz=>?_,λz=>?_,λz=>⟨g1.1,g1.2,t,by rw[T z,gp_ring];exact S _ _ _ _⟩,λz=>⟨E.1,E.2,s,by rw[X z,gp_ring];exact S _ _ _ _⟩,by have:=B.n4;rw[p,gK];lia⟩
 ·rw[w]
  split
  ·exact P1
  ·exact Prq.nil
 ·rw[m]
  split
  ·exact Prq.nil
  ·exact P2
 ·rw[w]at b
  split at b
  ·rcases lB.mp b with q|q
   ·obtain⟨j,R,rfl⟩:=x.mem q;exact I j (by lia)
   ·rw[lv.mp q];exact i1
  ·cases b
 ·rw[p]at b;obtain⟨j,R,rfl⟩:=x.mem b;exact I j (by lia)
 ·rw[m]at b
  split at b
  ·cases b
  ·rcases lB.mp b with q|q
   ·obtain⟨j,R,rfl⟩:=R2.mem q
    have:=mG (n-j) (show n>0 by lia)
    exact I (n+(n-j)%n) (by lia)
   ·rw[lv.mp q];exact i2
 ·rw[T z];by_cases k0:c0%8=0
  ·refine .inl ⟨P.1.mpr (O k0),?_,?_⟩
   ·rw[p];exact p0 (by lia)
   ·rw[m,if_pos (by lia)]
  ·refine .inr ?_;have a1:¬(gp (bD as n a e++[dE as n a e (lb.getD (2*n+2*wh) "") g1 o])).1=(gp (bD as n a e++[dE as n a e (lb.getD (2*n+2*wh) "") g1 o])).2:=λz=>by lia
   have Y:¬(gp (bD as n a e++[dE as n a e (lb.getD (2*n+2*wh) "") g1 o])).1<(gp (bD as n a e++[dE as n a e (lb.getD (2*n+2*wh) "") g1 o])).2:=λz=>by lia
   lia
 ·rw[X z];exact C2.2.mpr J
theorem SqL.kpd(h:SqL K H l xs)(hd:H d=some (.dK kvs))(kp:KpD d H H'):SqL K H' l xs:=by
 rcases h with(e|⟨o,e⟩)|z
 ·exact .inl (.inl (kp _ _ (bB e hd (by intro z;cases z)) e))
 ·exact .inl (.inr ⟨o,kp _ _ (bB e hd (by intro z;cases z)) e⟩)
 ·exact .inr z
structure DS where
 hd:List WR
 pa:List WR
 ta:List WR
 c:Int×Int
noncomputable def nmR(ws:List WR):List V:=ws.map λr=>V.str r.nm
noncomputable def SdAt(q:Addr)(H:Hp)(v:V)(s:DS):Prop:=∃t lh lp lt g,v=.ref t/\H t=some (.tup [.ref lh,.ref lp,.ref lt,.ref g])/\H lh=some (.lst (nmR s.hd))/\H lp=some (.lst (nmR s.pa))/\H lt=some (.lst (nmR s.ta))/\H g=some (.tup [.int s.c.1,.int s.c.2])/\lh≠q/\lp≠q/\lt≠q
theorem SdAt.by(h:SdAt q H v s)(kt:∀b xs,H b=some (.tup xs)->H' b=some (.tup xs))(kl:∀b xs,b≠q->H b=some (.lst xs)->H' b=some (.lst xs)):SdAt q H' v s:=by
 obtain⟨t,r,j,lt,g,e,w,o,l,m,p,i,c,a⟩:=h;exact⟨t,r,j,lt,g,e,kt _ _ w,kl _ _ i o,kl _ _ c l,kl _ _ a m,kt _ _ p,i,c,a⟩
theorem SdAt.mono(h:SdAt q H v s)(k:Same H H'):SdAt q H' v s:=h.by (λ_ _ e=>k _ _ e) λ_ _ _ e=>k _ _ e
structure RsG(sp:List Str)(rs:List WR):Prop where
 nd:(rs.map (·.nm)).Nodup
 len:rs.length<=12
 all:∀r∈rs,RGood sp r/\DV r
inductive IspStrands(K:W.Frag)(vs:List V)(H:Hp)(Q:VK):Prop
 |mk(l d ll:Addr)(ns:List Int)(rs:List WR)(sp lb:List Str)(as:Nat->WR)(n:Nat)(h1:vs=[.ref l,.ref d,.ref ll,.int n,.int 2])(h2:SqL K H l (ns.map V.int))(h3:RowsAt H d rs)(h4:BsX sp lb n as)(h5:rs.length=2*n)(h6:(∀j,j<2*n->rs[j]?=some (as j)))(h7:H ll=some (.lst (lb.map V.str)))(h8:∀s H' ts ds rs',H s=none->H' s=some (.lst ts)->KpD d H H'->RowsAt H' d rs'->RowAt (SdAt s) H' ts ds->ds.length=2->RsG sp rs'->(∀x∈ds,SdO rs' x.hd x.pa x.ta x.c)->Q (.ref s) H'):IspStrands K vs H Q
noncomputable def spStrands(K:W.Frag):Sp:=λvs H Q _=>IspStrands K vs H Q
theorem ok_law_strands(T:TX K mg a):FnB P w K mg base CX0 "_law_strands" 4 ["_law_script","_law_ways_here","_law_labels","_law_count","_law_many"] (spStrands K):=by
 refine T.d_law_strands.okA sc_law_strands λf a5 A an s H vs Q E y h=>?_;obtain⟨l,d,ll,ns,rs,sp,lb,as,n,rfl,hS,hR,B,ax,U,ag,k⟩:=h
 refine⟨_,(aD (aH (i:=5) sc_law_strands.nd (bH aB))
  (aD (bO lH rfl (dM rfl T.z_range (aA (pv 4) aB)) (aR (i:=6) sc_law_strands.nd) (aD (fY (i:=7) (xs:=["_law_j"]) (rest:=["_law_k","_law_script"]) sc_law_strands.nd rfl rfl rfl (dM rfl T.z_range (aA aC aB))
  (λaa fp C' s' H'=>(aR (i:=0) (show(["_law_j","_law_k","_law_script"]:List Str).Nodup by decide+kernel))) (λaa fp C' s' H'=>eI)
  (λaa fp C' s' H'=>(aO (cA T) y aJ (aA (pv 2) (aA (aM bQ (aM bQ aC (aM cR aC (pv 1))) (pv 0)) aB))))
  (Clos.many (ys:=["_law_script","_law_k"]) rfl ⟨rfl,rfl,True.intro⟩ rfl (by decide+kernel)) (Reads.many (ys:=["_law_k","_law_script"]) (js:=[6,0]) ⟨⟨rfl,rfl,rfl⟩,⟨rfl,rfl,rfl⟩,True.intro⟩))
  (aF (bY (kF mT m9 nc eN (pv 5) (aA (aO (ok_law_strand T) y aJ (aA (pv 1) (aA (pv 2) (aA (pv 3) (aA (pv 6) (aA (pv 7) aB)))))) aB))))))
  (aF (aP (pv 5))))),?_⟩
 walk_at"q"
 have n2:=B.n2;have n4:=B.n4;have a4:=B.ll;refine⟨by decide,λq nq=>?_⟩;obtain⟨H0,zq,s0,h0⟩:=uG (o:=.lst []) nq;rw[zq]
 have ah:rs.map (·.nm)=lb.take (2*n):=by
  apply List.ext_getElem?
  intro j;rw[lg,nE];by_cases m:j<2*n
  ·rw[if_pos m,U j m,eO (by lia)];show some (as j).nm=_;rw[B.nm j m]
  ·rw[if_neg m,List.getElem?_eq_none (by lia)];rfl
 have ac:∀r∈rs,RGood sp r/\DV r:=λr y=>by
  obtain⟨j,m⟩:=lV.mp y;have jl:=(kY.mp m).1;rw[ax]at jl;rw[U j jl]at m
  cases m;exact⟨B.good jl,dv_base (B.gs j jl)⟩
 refine⟨_,rfl,_,rfl,by decide,by decide,iG (λi σ N=>i<=2/\yE5 λz6 z7 ts ds G=>σ=[some (.ref l),some (.ref d),some (.ref ll),some (.int n),some (.int 2),some (.ref q),z6,z7]×' KpD d H N×' N q=some (.lst ts)×' RowsAt N d G×' RowAt (SdAt q) N ts ds×' ds.length=i×' G.map (·.nm)=lb.take (2*n+2*i)×'(∀r∈rs,r∈G)×'(∀r∈G,RGood sp r/\DV r)×'∀x∈ds,SdO G x.hd x.pa x.ta x.c) ⟨by decide,none,none,[],[],rs,rfl,KpD.of s0,h0,hR.mono s0,RowAt.nil,rfl,ah,(λr y=>y),ac,λx hx=>by cases hx⟩ ?_ ?_⟩
 ·rintro i σ N hi⟨_,z6,z7,ts,ds,G,rfl,kp,hq,M,X,I,p,Y,good,ab⟩;have ar:i<2:=by lia
  rw[Int.zero_add]
  have a7:G.length=2*n+2*i:=by
   have:=mj List.length p
   rw[kX,lI]at this
   lia
  obtain⟨a8,a9,_⟩:=id M;obtain⟨a6,af,_⟩:=id hR
  have aw:∀{S:Hp},Same N S->SqL K S l (ns.map V.int):=λ{S}s=>by
   refine s.seq ?_;exact SqL.kpd hS af kp
  refine⟨_,rfl,by decide,by decide,λlc aj=>?_⟩;refine fj (λj S=>j<=4×' Same N S×'∃cs:List Int,cs.length=j/\S lc=some (.lst (cs.map V.int))) ⟨lD _,aU aj,[],rfl,aE⟩ ?_ ?_
  ·rintro j S m⟨_,O,cs,L,h2⟩;have ay:j<4:=by lia
   refine L2.g1 ⟨⟨[_],rfl,rfl⟩,yes ?_⟩;refine⟨_,rfl,_,rfl,_,_,rfl,rfl,⟨Sm.of_le (n:=10) (by decide) (by decide),Sm.of_le (n:=10) (by lia) (by decide)⟩,_,_,rfl,rfl,_,rfl,_,_,rfl,rfl,l,ns,_,rfl,aw O,by lia,by lia,λc=>?_⟩;refine⟨_,h2,aT (by rw[kX];lia),fE m ⟨ay,aY aj O,cs++[c],by rw[lG,L];rfl,?_⟩⟩;rw[aE,lj];rfl
  ·rintro S⟨_,O,cs,L,h2⟩;have L:cs.length=4:=L
   match cs,L with
   |[c0,c1,c2,c3],_=>
    have fresh:∀r∈G,r.nm≠lb.getD (2*n+2*i) ""/\r.nm≠lb.getD (2*n+2*i+1) "":=λr y=>by
     have hm:r.nm∈lb.take (2*n+2*i):=by rw[<-p];exact k8.mpr ⟨r,y,rfl⟩
     obtain⟨j,m⟩:=lV.mp hm;rw[nE]at m
     split at m
     ·rename_i al;have ej:=eO (xs:=lb) (i:=j) (by lia);rw[ej]at m;have e:=lY m;exact⟨λz=>by have:=gY B.nl (by lia) (by lia) (e.trans z);lia,λz=>by have:=gY B.nl (by lia) (by lia) (e.trans z);lia⟩
     ·cases m
    have a2:(G.map (·.nm)).Nodup:=by rw[p];exact(List.take_sublist _ _).nodup B.nl
    have ai:N ll=some (.lst (lb.map V.str)):=kp _ _ (bB ag af (by intro z;cases z)) ag;refine⟨_,rfl,.inl ⟨rfl,_,SqL.of (O _ _ hq)⟩,_,rfl,_,rfl,_,rfl,_,rfl,_,rfl,d,ll,lc,G,lb,as,n,i,c0,c1,c2,c3,rfl,M.mono O,a2,by lia,O _ _ ai,by lia,by lia,λj m=>⟨Y _ (kZ (U j m)),B.nm j m,B.gs j m⟩,n2,by lia,by lia,B.nl,fresh,h2,λt lh lp lt g H4 W1 W2 hd pa ta c n1 ak n3 J a0 ht az av al hg sr=>?_⟩;obtain⟨⟨ap,a1,am⟩,⟨aq,ao,au⟩,mk⟩:=str_pure B (by lia) sr;have ae:=O _ _ hq;obtain⟨a3,R,_⟩:=M.mono O;have ad:=J _ _ (bB ae R (by intro z;cases z)) ae;have D:∀{b:Addr},S b=none->b≠q:=λe z=>by rw[z,ae]at e;cases e
    have Z:∀{b:Addr}{o:HO},b≠q->H4 b=some o->upd H4 q (.lst (ts++[.ref t])) b=some o:=λn e=>by rw[aG n];exact e
    have ty:∀{b:Addr}{o:HO},H4 b=some o->(∀xs,o≠.lst xs)->b≠q:=λe n=>bB e ad (n _);refine⟨q,ts,_,rfl,rfl,ad,aT (by rw[X.1,I];lia),?_⟩;refine⟨ar,_,_,_,ds++[⟨hd,pa,ta,c⟩],G++[W1]++[W2],rfl,?_,aE,?_,?_,by rw[lG,I];rfl,?_,λr y=>lJ _ (lJ _ (Y r y)),λr y=>?_,λx hx=>?_⟩
    ·intro b o nb e;refine Z (λz=>by rw[z,nq]at e;cases e) (J b o nb (O _ _ (kp b o nb e)))
    ·obtain⟨kv,e1,e2,e3⟩:=a0;exact⟨kv,Z (ty e1 (by intro _ z;cases z)) e1,e2,e3.mono λv x z=>z.put ad (by intro _ z;cases z)⟩
    ·refine RowAt.snoc (X.mono λv x z=>(z.mono O).by (λb xs e=>Z (ty (J _ _ (bB e R (by intro z;cases z)) e) (by intro _ z;cases z)) (J _ _ (bB e R (by intro z;cases z)) e)) λb xs nb e=>Z nb (J _ _ (bB e R (by intro z;cases z)) e)) ?_;exact⟨t,lh,lp,lt,g,rfl,Z (ty ht (by intro _ z;cases z)) ht,Z (D n1) az,Z (D ak) av,Z (D n3) al,Z (ty hg (by intro _ z;cases z)) hg,D n1,D ak,D n3⟩
    ·rw[lj,lj,p,show 2*n+2*(i+1)=2*n+2*i+1+1 by lia,lE,lE,eO (by lia),eO (by lia),List.map_singleton,List.map_singleton,am,au];rfl
    ·rcases lB.mp y with z|z
     ·rcases lB.mp z with z|z
      ·exact good r z
      ·rw[lv.mp z];exact⟨ap,a1⟩
     ·rw[lv.mp z];exact⟨aq,ao⟩
    ·rcases lB.mp hx with z|z
     ·exact(ab x z).mono λr y=>lJ _ (lJ _ y)
     ·rw[lv.mp z];exact mk _ (λj m=>lJ _ (lJ _ (Y _ (kZ (U j m))))) (lJ _ (lS _ (by simp))) (lS _ (by simp))
 ·rintro σ N⟨_,z6,z7,ts,ds,G,rfl,kp,hq,M,X,I,p,Y,good,ab⟩;have I:ds.length=2:=I;refine⟨_,rfl,k q N ts ds G nq hq kp M X I ⟨by rw[p];exact(List.take_sublist _ _).nodup B.nl,?_,good⟩ ab⟩
  have:=mj List.length p
  rw[kX,lI]at this
  lia
noncomputable abbrev DuS:=(Str->Int×Int)×(Int×Int)
noncomputable def dH(st:DuS)(r:WR):DuS:=(upf st.1 r.nm ((st.1 r.nm).1*st.2.2+st.2.1*(st.1 r.nm).2,(st.1 r.nm).2*st.2.2),(st.2.1*r.t,st.2.2*r.b))
noncomputable def bT(st:DuS)(ws:List WR):DuS:=ws.foldl dH st
theorem sendS_snoc(st:DuS)(ws:List WR)(r:WR):bT st (ws++[r])=dH (bT st ws) r:=by unfold bT;rw[m7];rfl
theorem kj:∀{ws:List WR}{st:DuS},n∉ws.map (·.nm)->(bT st ws).1 n=st.1 n
 |[],_,_=>rfl
 |r::ws,st,h=>by
  rw[mw,lN,not_or]at h;show(bT (dH st r) ws).1 n=_;rw[kj h.2];exact jd h.1
theorem sendS_two(st:DuS)(ws:List WR):(bT st ws).2=(st.2.1*(gp ws).1,st.2.2*(gp ws).2):=by
 refine dR (P:=λws=>(bT st ws).2=(st.2.1*(gp ws).1,st.2.2*(gp ws).2)) ?_ ?_ ws
 ·show st.2=(st.2.1*1,st.2.2*1);rw[Int.mul_one,Int.mul_one]
 ·intro ws r a;rw[sendS_snoc,jF];show((bT st ws).2.1*r.t,(bT st ws).2.2*r.b)=_;rw[a,m5,m5]
theorem RowIs.kp(h:RowIs H v r)(hq:H q=some (.dK kvs))(kp:KpD q H H'):RowIs H' v r:=by
 obtain⟨p,g,e,b,a⟩:=h;exact⟨p,g,e,kp _ _ (bB b hq (by intro z;cases z)) b,kp _ _ (bB a hq (by intro z;cases z)) a⟩
theorem RowsAt.kp(h:RowsAt H d rs)(ne:d≠q)(hq:H q=some (.dK kvs))(kp:KpD q H H'):RowsAt H' d rs:=by
 obtain⟨a,c,e,b⟩:=h;exact⟨a,kp _ _ ne c,e,b.mono λv x z=>z.kp hq kp⟩
structure DueAt(H:Hp)(q:Addr)(ns:List Str)(f:Str->Int×Int):Prop where
 ex:∃kvs,H q=some (.dK kvs)/\Tab DueIs H kvs (cC ns) f
 no:∀n,n∉ns->f n=(0,1)
inductive IspSend(vs:List V)(H:Hp)(Q:VK):Prop
 |mk(q d wl g:Addr)(rs ws:List WR)(ns:List Str)(st:DuS)(N M:Nat)(h1:vs=[.ref q,.ref d,.ref wl,.ref g])(h2:q≠d)(h3:DueAt H q ns st.1)(h4:ns.length<=800)(h5:(∀n,Nx N (st.1 n)))(h6:N+M+200<=900000)(h7:RowsAt H d rs)(h8:(rs.map (·.nm)).Nodup)(h9:H wl=some (.lst (ws.map λr=>.str r.nm)))(h10:(∀r∈ws,r∈rs))(h11:(∀r∈ws,GB r.t r.b))(h12:(ws.map (·.nm)).Nodup)(h13:ws.length<=4)(h14:H g=some (.tup [.int st.2.1,.int st.2.2]))(h15:Nx M st.2)(h16:∀g' H',KpD q H H'->DueAt H' q (ns++ws.map (·.nm)) (bT st ws).1->H' g'=some (.tup [.int (bT st ws).2.1,.int (bT st ws).2.2])->Q (.ref g') H'):IspSend vs H Q
noncomputable def spSend(K:W.Frag):Sp:=λvs H Q _=>IspSend vs H Q
theorem hZ(T:TX K mg a):FnB P w K mg base CX0 "_law_send" 2 ["_law_due_here","_law_ways_here","_law_walk","_law_put"] (spSend K):=by
 refine T.d_law_send.okA sc_law_send λf ap A ad s H vs Q E L h=>?_;obtain⟨q,d,wl,g0,rs,ws,ns,B,N,M,rfl,ao,⟨⟨af,hq,an⟩,ab⟩,aq,bf,hN,hR,nd,hw,sub,S,aj,lw,ah,hc,k⟩:=h
 refine⟨_,(aD (bO lH rfl (bZ (pv 2)) (aR (i:=4) sc_law_send.nd) (aD (cI (bI L) (pv 0) (pv 4) (aO (dO T) L aJ (aA (f9 (bI L) (pv 0) (pv 4) (bP (aA aC (aA aC aB))) ⟨rfl,rfl,rfl,rfl⟩) (aA (pv 3) aB))) rfl)
  (aF (aH (i:=3) sc_law_send.nd (aO (eM T) L aJ (aA (pv 3) (aA (aK aQ (cE (bI L) (pv 1) (pv 4) (λ_ _=>rfl)) aC) aB)))))))
  (aF (aP (pv 3)))),?_⟩
 walk_at"q"
 have ag :=bB hw hq (by intro z;cases z);have bd:=gp_bd (n:=40) (ws:=ws) λr L=>(S r L).all
 refine⟨_,rfl,wl,rfl,⟨_,SqL.of hw⟩,cG (K:=K) (a:=wl) (xs:=ws.map λr=>V.str r.nm) (λi σ D=>i<=ws.length/\yE3 λz g l=>σ=[some (.ref q),some (.ref d),some (.ref wl),some (.ref g),z]×' KpD q H D×' D g=some (.tup [.int (bT B (ws.take i)).2.1,.int (bT B (ws.take i)).2.2])×' D q=some (.dK l)×' Tab DueIs D l (cC (ns++(ws.take i).map (·.nm))) (bT B (ws.take i)).1)
  ⟨lD _,_,g0,af,rfl,λb o _ e=>e,ah,hq,by rw[nS,nZ,m6];exact an⟩ ((by rintro i σ D _⟨_,_,_,_,_,Z,_⟩;exact SqL.of (Z _ _ ag hw))) ?_ ?_⟩
 ·rintro i t σ D ht⟨_,z,g,l,rfl,Z,O,p,tb⟩;rw[lg]at ht;obtain⟨y,ey,rfl⟩:=n7.mp ht;have hi:=(kY.mp ey).1;have my:=kZ ey;have b:=bd i (by lia);have tk:ws.take (i+1)=ws.take i++[y]:=by rw[lE,ey];rfl
  have ny:y.nm∉(ws.take i).map (·.nm):=by
   intro z;obtain⟨u,hu,eu⟩:=k8.mp z;obtain⟨j,hj⟩:=lV.mp hu;rw[nE]at hj
   split at hj
   ·rename_i ar;have g1:(ws.map (·.nm))[j]?=some y.nm:=by rw[lg,hj,<-eu];rfl
    have g2:(ws.map (·.nm))[i]?=some y.nm:=by rw[lg,ey];rfl
    have:=(mS (by rw[kX];lia) aj).mp (g1.trans g2.symm)
    lia
   ·cases hj
  have ef:(bT B (ws.take i)).1 y.nm=B.1 y.nm:=kj ny;have m:=sendS_two B (ws.take i)
  have m1:(bT B (ws.take i)).2.1.natAbs<=2^(M+i*40):=by
   rw[m,mK];rw[l0];exact mZ hc.t b.t1
  have m2:(bT B (ws.take i)).2.2.natAbs<=2^(M+i*40):=by
   rw[m,mK];rw[l0];exact mZ hc.b b.b1
  have ae:N+(M+i*40)<=1000000:=by lia
  obtain⟨n1,n2⟩:=bf y.nm;rw[<-ef]at n1 n2;have no:y.nm∉ns->(bT B (ws.take i)).1 y.nm=(0,1):=λz=>by rw[ef];exact ab _ z
  rw[tk,sendS_snoc,lj,mw,nZ,<-List.append_assoc,gj];have am:=dQ (ns++(ws.take i).map (·.nm));rw[lG,kX,lI]at am;generalize bT B (ws.take i)=ai at O tb no n1 n2 m1 m2⊢;obtain⟨f,c⟩:=ai;refine⟨_,rfl,q,rfl,.inl ⟨l,.inl p⟩,_,rfl,by decide,λe ne=>?_⟩;obtain⟨H3,zq,R,he⟩:=uG (o:=.tup [.int 0,.int 1]) ne;rw[zq];have I:=tb.mono λv x z=>z.mono R;refine⟨_,DGet.k (k:=Sum.inr y.nm) (R _ _ p),?_⟩
  have G:DueIs H3 ((cV l (Sum.inr y.nm)).getD (.ref e)) (f y.nm):=by
   by_cases J:y.nm∈cC (ns++(ws.take i).map (·.nm))
   ·obtain⟨v,ev,r⟩:=I.vals _ J;rw[ev];exact r
   ·rw[I.none J,show f y.nm=(0,1) from no λz=>J (mem_keysOf.mpr (lJ _ z))];exact⟨e,rfl,he⟩
  generalize(cV l (Sum.inr y.nm)).getD (.ref e)=vl at G⊢;obtain⟨e1,rfl,al⟩:=G;refine⟨_,rfl,e1,g,f y.nm,c,N,M+i*40,rfl,al,R _ _ O,⟨n1,n2⟩,⟨m1,m2⟩,ae,λm X=>?_⟩;dsimp only[plP]at X⊢;obtain⟨H4,zq,s4,aa⟩:=uG (o:=.tup [.int ((f y.nm).1*c.2+c.1*(f y.nm).2),.int ((f y.nm).2*c.2)]) X;rw[zq];have F:=R.trans s4
  have lk:l.length<=900:=by
   rw[tb.len]
   lia
  refine⟨_,rfl,_,rfl,q,_,rfl,DPut.k (k:=Sum.inr y.nm) (F _ _ p) (aT (by lia)),?_⟩;have kp:KeepD H4 (upd H4 q (.dK (cK l (Sum.inr y.nm) (.ref m)))):=KeepD.put (F _ _ p);have ac:=Tab.put (n:=y.nm) (I.mono λv x z=>(z.mono s4).keep kp) (DueIs.keep (c:=((f y.nm).1*c.2+c.1*(f y.nm).2,(f y.nm).2*c.2)) ⟨m,rfl,aa⟩ kp);have s5:KpD q H (upd H4 q (.dK (cK l (Sum.inr y.nm) (.ref m)))):=(Z.trans (KpD.of F)).trans KpD.put;have Y:upd H4 q (.dK (cK l (Sum.inr y.nm) (.ref m))) q=some (.dK (cK l (Sum.inr y.nm) (.ref m))):=aE;have U:=kp _ _ (F _ _ O) (by intro _ z;cases z) (by intro _ _ z;cases z);generalize upd H4 q (.dK (cK l (Sum.inr y.nm) (.ref m)))=H5 at kp ac s5 Y U⊢;obtain⟨v,gv,p1,gy,rfl,x1,x2⟩:=(hR.kp ao.symm hq s5).get nd (sub y my);obtain⟨q1,q2,q3,q4⟩:=(S y my).all;refine⟨_,rfl,_,rfl,_,rfl,d,_,rfl,gv,p1,_,_,_,rfl,rfl,SqT.of x1,rfl,g,gy,c,(y.t,y.b),M+i*40,40,rfl,U,x2,⟨m1,m2⟩,⟨eP q1 q2,eP q3 q4⟩,by lia,λr' ak=>?_⟩;have s6:=aU (o:=.tup [.int (c.1*y.t),.int (c.2*y.b)]) ak;exact⟨hi,_,r',_,rfl,s5.trans (KpD.of s6),aE,s6 _ _ Y,ac.mono λv x z=>z.mono s6⟩
 ·rintro σ D⟨_,z,g,l,rfl,Z,O,p,tb⟩;rw[kX,lA]at tb O;refine⟨_,rfl,k g D Z ⟨⟨l,p,tb⟩,λn J=>?_⟩ O⟩;rw[lB,not_or]at J;rw[kj J.2];exact ab n J.1
theorem sendS_bd:∀{ws:List WR}{st:DuS}{N M:Nat},(ws.map (·.nm)).Nodup->(∀r∈ws,GB r.t r.b)->(st.1 n).1.natAbs<=2^N->(st.1 n).2.natAbs<=2^N->st.2.1.natAbs<=2^M->st.2.2.natAbs<=2^M->((bT st ws).1 n).1.natAbs<=2^(N+M+40*ws.length+1)/\((bT st ws).1 n).2.natAbs<=2^(N+M+40*ws.length+1)
 |[],st,N,M,_,_,f1,f2,_,_=>⟨lC f1 (l7 (by decide) (by omega)),lC f2 (l7 (by decide) (by omega))⟩
 |r::ws,st,N,M,nd,gb,f1,f2,c1,c2=>by
  rw[mw,mB]at nd;show((bT (dH st r) ws).1 n).1.natAbs<=_/\((bT (dH st r) ws).1 n).2.natAbs<=_;by_cases hn:n=r.nm
  ·subst hn;rw[kj nd.1];dsimp only[dH];rw[upf_same];have q:(2:Nat)^(N+M+1)<=2^(N+M+40*(r::ws).length+1):=l7 (by decide) (by omega);have p:((st.1 r.nm).1*st.2.2).natAbs<=2^(N+M):=by rw[l0,mK];exact mZ f1 c2
   have j:(st.2.1*(st.1 r.nm).2).natAbs<=2^(N+M):=by rw[l0,Nat.add_comm,mK];exact mZ c1 f2
   have l:((st.1 r.nm).2*st.2.2).natAbs<=2^(N+M):=by rw[l0,mK];exact mZ f2 c2
   have o:(2:Nat)^(N+M+1)=2^(N+M)+2^(N+M):=by rw[Nat.pow_succ];omega
   have m:=Int.natAbs_add_le ((st.1 r.nm).1*st.2.2) (st.2.1*(st.1 r.nm).2);exact⟨by show((st.1 r.nm).1*st.2.2+st.2.1*(st.1 r.nm).2).natAbs<=_;omega,by show((st.1 r.nm).2*st.2.2).natAbs<=_;omega⟩
  ·obtain⟨e,c,i,h⟩:=(gb r (by simp)).all
   have:=sendS_bd (n:=n) (ws:=ws) (st:=dH st r) (N:=N) (M:=M+40) nd.2 (λx a=>gb x (lF _ a)) (by dsimp only[dH];rw[jd hn];exact f1) (by dsimp only[dH];rw[jd hn];exact f2) (by show(st.2.1*r.t).natAbs<=_;rw[l0,mK];exact mZ c1 (eP e c)) (by show(st.2.2*r.b).natAbs<=_;rw[l0,mK];exact mZ c2 (eP i h))
   rw[mh,show N+M+40*(ws.length+1)+1=N+(M+40)+40*ws.length+1 by omega];exact this
structure Leg(H:Hp)(rs:List WR)(l:Addr)(ws:List WR):Prop where
 hl:H l=some (.lst (ws.map λr=>.str r.nm))
 sub:∀r∈ws,r∈rs
 gb:∀r∈ws,GB r.t r.b
 nd:(ws.map (·.nm)).Nodup
 ln:ws.length<=4
theorem Leg.kp(h:Leg H rs l ws)(hq:H q=some (.dK kvs))(s:KpD q H H'):Leg H' rs l ws:=⟨s _ _ (bB h.hl hq (by intro z;cases z)) h.hl,h.sub,h.gb,h.nd,h.ln⟩
theorem Leg.gpb(h:Leg H rs l ws):Nx 160 (gp ws):=by
 have b:=gp_bd (λr a=>(h.gb r a).all) ws.length (k5 _);rw[lA]at b;have l:=h.ln;exact⟨lC b.t1 (l7 (by decide) (by lia)),lC b.b1 (l7 (by decide) (by lia))⟩
theorem jf(nd:(ws.map (·.nm)).Nodup)(gb:∀r∈ws,GB r.t r.b)(ln:ws.length<=4)(hf:∀n,Nx N (st.1 n))(hc:Nx M st.2)(n:Str):Nx (N+M+161) ((bT st ws).1 n):=by
 have b:=sendS_bd nd gb (hf n).t (hf n).b hc.t hc.b;exact(Nx.mk b.1 b.2).mono (by lia)
noncomputable def pH(c g:Int×Int):Int×Int:=(c.1*g.2,c.2*(g.1-g.2))
noncomputable def pT(c g:Int×Int):Int×Int:=(c.1*g.2,c.2*(g.2-g.1))
theorem sub_nx{x y:Int}(h1:x.natAbs<=2^n)(h2:y.natAbs<=2^n):(x-y).natAbs<=2^(n+1):=by rw[Nat.pow_succ];omega
theorem pH_nx(h:Nx M c)(k:Nx 160 g):Nx (M+161) (pH c g):=⟨lC (cB h.t k.b) (l7 (by decide) (by lia)),cB h.b (sub_nx k.t k.b)⟩
theorem pT_nx(h:Nx M c)(k:Nx 160 g):Nx (M+161) (pT c g):=⟨lC (cB h.t k.b) (l7 (by decide) (by lia)),cB h.b (sub_nx k.b k.t)⟩
noncomputable def hdF(f:Str->Int×Int)(c:Int×Int)(hd:List WR):Str->Int×Int:=if hd=[]then f else(bT (f,pH c (gp hd)) hd).1
noncomputable def taF(st:DuS)(ta:List WR):Str->Int×Int:=if ta=[]then st.1 else(bT (st.1,pT st.2 (gp ta)) ta).1
noncomputable def plF(f:Str->Int×Int)(c:Int×Int)(hd pa ta:List WR):Str->Int×Int:=if hd≠[]/\(gp hd).1=(gp hd).2 then(bT (f,c) hd).1 else taF (bT (hdF f c hd,c) pa) ta
theorem sendS_put(hc:Nx M st.2)(hg:Nx 160 (gp ws)):Nx (M+160) (bT st ws).2:=by
 rw[sendS_two];exact hc.times hg
theorem hdF_nx(h:Leg H rs l hd)(hf:∀n,Nx N (f n))(hc:Nx M c)(n:Str):Nx (N+M+322) (hdF f c hd n):=by
 unfold hdF
 split
 ·exact(hf n).mono (by lia)
 ·exact(jf h.nd h.gb h.ln hf (pH_nx hc h.gpb) n).mono (by lia)
theorem plF_nx(h1:Leg H rs l1 hd)(h2:Leg H rs l2 pa)(h3:Leg H rs l3 ta)(hf:∀n,Nx N (f n))(hc:Nx M c)(n:Str):Nx (N+3*M+1000) (plF f c hd pa ta n):=by
 unfold plF
 split
 ·exact(jf h1.nd h1.gb h1.ln hf hc n).mono (by lia)
 ·have a:=jf (st:=(hdF f c hd,c)) h2.nd h2.gb h2.ln (λn=>hdF_nx h1 hf hc n) hc;unfold taF
  split
  ·exact(a n).mono (by lia)
  ·exact(jf (st:=((bT (hdF f c hd,c) pa).1,pT (bT (hdF f c hd,c) pa).2 (gp ta))) h3.nd h3.gb h3.ln a (pT_nx (sendS_put hc h2.gpb) h3.gpb) n).mono (by lia)
theorem DueAt.mono(h:DueAt H q ns f)(s:Same H H'):DueAt H' q ns f:=⟨let⟨kv,e,tb⟩:=h.ex;⟨kv,s _ _ e,tb.mono λv x z=>z.mono s⟩,h.no⟩
inductive IspPlanned(vs:List V)(H:Hp)(Q:VK):Prop
 |mk(q d t lh lp lt g:Addr)(rs hd pa ta:List WR)(c:Int×Int)(ns:List Str)(f:Str->Int×Int)(N M:Nat)(h1:vs=[.ref q,.ref d,.ref t])(h2:q≠d)(h3:DueAt H q ns f)(h4:ns.length<=780)(h5:(∀n,Nx N (f n)))(h6:N+3*M+1000<=800000)(h7:RowsAt H d rs)(h8:(rs.map (·.nm)).Nodup)(h9:H t=some (.tup [.ref lh,.ref lp,.ref lt,.ref g]))(h10:Leg H rs lh hd)(h11:Leg H rs lp pa)(h12:Leg H rs lt ta)(h13:H g=some (.tup [.int c.1,.int c.2]))(h14:Nx M c)(h15:(hd≠[]/\(gp hd).1=(gp hd).2->pa=[]/\ta=[]))(h16:∀H',KpD q H H'->DueAt H' q (ns++hd.map (·.nm)++pa.map (·.nm)++ta.map (·.nm)) (plF f c hd pa ta)->Q .non H'):IspPlanned vs H Q
noncomputable def spPlanned(K:W.Frag):Sp:=λvs H Q _=>IspPlanned vs H Q
theorem ok_law_planned(T:TX K mg a):FnB P w K mg base CX0 "_law_planned" 3 ["_law_due_here","_law_ways_here","_law_strand_here"] (spPlanned K):=by
 refine T.d_law_planned.okA sc_law_planned λf av A ar s H vs Q E O h=>?_;obtain⟨q,d,t,lh,lp,lt,g,rs,j,pa,ta,c,ns,f,N,M,rfl,B,L,ay,hf,ax,hR,nd,S,l,Lp,G,hg,X,rd,k⟩:=h
 refine⟨_,(aD (aH (i:=3) sc_law_planned.nd (aK aQ (pv 2) aC))
  (aD (aH (i:=4) sc_law_planned.nd (aO (fB T) O aJ (aA (pv 1) (aA (aK aQ (pv 2) aC) aB))))
  (aX (bJ (PW.pt (gu (aS (gw O.units0) (aK aQ (pv 2) aC) (bH aB)) (fv (aS e7 (aK aQ (pv 4) aC) (aK aQ (pv 4) aC))))) (aD (bY (aO (hZ T) O aJ (aA (pv 0) (aA (pv 1) (aA (aK aQ (pv 2) aC) (aA (pv 3) aB))))))
  (aF ps_retN)) aV)
  (aX (bJ (aS (gw O.units0) (aK aQ (pv 2) aC) (bH aB)) (aF (bY (aO (hZ T) O aJ (aA (pv 0) (aA (pv 1) (aA (aK aQ (pv 2) aC) (aA (bP (aA (aM fA (aK aQ (pv 3) aC) (aK aQ (pv 4) aC)) (aA (aM fA (aK aQ (pv 3) aC) (aM eC (aK aQ (pv 4) aC) (aK aQ (pv 4) aC))) aB))) aB))))))) aV)
  (aD (aH (i:=5) sc_law_planned.nd (aO (hZ T) O aJ (aA (pv 0) (aA (pv 1) (aA (aK aQ (pv 2) aC) (aA (pv 3) aB))))))
  (aF (bJ (aS (gw O.units0) (aK aQ (pv 2) aC) (bH aB)) (aD (aH (i:=4) sc_law_planned.nd (aO (fB T) O aJ (aA (pv 1) (aA (aK aQ (pv 2) aC) aB))))
  (aF (bY (aO (hZ T) O aJ (aA (pv 0) (aA (pv 1) (aA (aK aQ (pv 2) aC) (aA (bP (aA (aM fA (aK aQ (pv 5) aC) (aK aQ (pv 4) aC)) (aA (aM fA (aK aQ (pv 5) aC) (aM eC (aK aQ (pv 4) aC) (aK aQ (pv 4) aC))) aB))) aB)))))))) aV))))))),?_⟩
 walk_at"q"
 generalize ao:i9 _ _=k9
 revert k9
 refine gB λk9 ao=>?_;obtain⟨aw,hq,_⟩:=L.ex;refine⟨_,rfl,t,_,_,_,rfl,rfl,SqT.of S,rfl,?_⟩;refine⟨_,rfl,_,rfl,t,_,_,_,rfl,rfl,SqT.of S,rfl,d,lh,rs,j,rfl,hR,nd,SqL.of l.hl,l.sub,l.gb,by have:=l.ln;lia,λg1 H1 s1 al=>?_⟩;subst ao;refine dA (λσ' R=>σ'=[some (.ref q),some (.ref d),some (.ref t),some (.ref g),some (.ref g1),none]×' Same H1 R×'¬(j≠[]/\(gp j).1=(gp j).2)) ?_ ?_
 ·refine⟨_,rfl,t,_,_,_,rfl,rfl,SqT.of (s1 _ _ S),rfl,zL0,λx nx=>?_⟩;obtain⟨H2,zq,U,Y⟩:=uG (o:=.lst []) nx;rw[zq];have D:=s1.trans U;refine⟨lh,x,_,rfl,rfl,SqL.of (D _ _ l.hl),SqL.of Y,?_⟩
  cases j with
  |nil=>exact⟨_,rfl,iteF (iteF ⟨rfl,U,λz=>z.1 rfl⟩)⟩
  |cons r j=>
   refine⟨_,rfl,iteT ?_⟩;have ap:=SqT.of (K:=K) (U _ _ al);refine⟨_,rfl,g1,_,_,_,rfl,rfl,ap,rfl,_,rfl,g1,_,_,_,rfl,rfl,ap,rfl,rfl,_,rfl,ifV (λe=>?_) (λe=>⟨rfl,U,λz=>e z.2⟩)⟩;have rr:r::j≠[]/\(gp (r::j)).1=(gp (r::j)).2:=⟨by simp,e⟩;obtain⟨rfl,rfl⟩:=rd rr;refine⟨_,rfl,_,rfl,_,rfl,t,_,_,_,rfl,rfl,SqT.of (D _ _ S),rfl,_,rfl,q,d,lh,g,rs,r::j,ns,(f,c),N,M,rfl,B,L.mono D,by lia,hf,by lia,hR.mono D,nd,D _ _ l.hl,l.sub,l.gb,l.nd,l.ln,D _ _ hg,X,λg' R kp du aj=>?_⟩;refine k R ((KpD.of D).trans kp) ?_;unfold plF;rw[if_pos rr,nZ,m6,m6];exact du
 rintro zU ai σ' H2⟨rfl,U,nr⟩;have D:=s1.trans U;subst ai;refine dA (λσ' R=>σ'=[some (.ref q),some (.ref d),some (.ref t),some (.ref g),some (.ref g1),none]×' KpD q H2 R×' DueAt R q (ns++j.map (·.nm)) (hdF f c j)) ?_ ?_
 ·refine⟨_,rfl,t,_,_,_,rfl,rfl,SqT.of (D _ _ S),rfl,zL0,λx nx=>?_⟩;obtain⟨H3,zq,m,Y⟩:=uG (o:=.lst []) nx;rw[zq];have s3:=D.trans m;have F:=SqT.of (K:=K) (s3 _ _ hg);have af:=SqT.of (K:=K) ((U.trans m) _ _ al);refine⟨lh,x,_,rfl,rfl,SqL.of (s3 _ _ l.hl),SqL.of Y,?_⟩;have y:=l.gpb
  cases j with
  |nil=>exact⟨_,rfl,iteF ⟨rfl,KpD.of m,by rw[nZ,m6];exact L.mono s3⟩⟩
  |cons r j=>
   refine⟨_,rfl,iteT ?_⟩;generalize hW:r::j=W at*;have nW:W≠[]:=by rw[<-hW];simp
   refine⟨_,rfl,_,rfl,_,rfl,t,_,_,_,rfl,rfl,SqT.of (s3 _ _ S),rfl,?_⟩;refine⟨_,rfl,g,_,_,_,rfl,rfl,F,rfl,_,rfl,g1,_,_,_,rfl,rfl,af,rfl,_,_,rfl,rfl,gX X.t y.b (by lia),?_⟩;refine⟨_,rfl,g,_,_,_,rfl,rfl,F,rfl,_,rfl,g1,_,_,_,rfl,rfl,af,rfl,_,rfl,g1,_,_,_,rfl,rfl,af,rfl,_,_,rfl,rfl,_,_,rfl,rfl,gX X.b (sub_nx y.t y.b) (by lia),zL2,λI ad=>?_⟩;obtain⟨H4,zq,s4,h4⟩:=uG (o:=.tup [.int (c.1*(gp W).2),.int (c.2*((gp W).1-(gp W).2))]) ad;rw[zq];have Z:=s3.trans s4;refine⟨q,d,lh,I,rs,W,ns,(f,pH c (gp W)),N,M+161,rfl,B,L.mono Z,by lia,hf,by lia,hR.mono Z,nd,Z _ _ l.hl,l.sub,l.gb,l.nd,l.ln,h4,pH_nx X y,λg' R kp du aj=>?_⟩;refine⟨rfl,(KpD.of (m.trans s4)).trans kp,?_⟩;unfold hdF;rw[if_neg nW];exact du
 rintro zU ai σ' H3⟨rfl,k3,am⟩;have p:KpD q H H3:=(KpD.of D).trans k3;have R3:=hR.kp B.symm hq p;have P3:=Lp.kp hq p;have T3:=G.kp hq p;have ab:=p _ _ (bB S hq (by intro z;cases z)) S;have F:=p _ _ (bB hg hq (by intro z;cases z)) hg;have bf:=λn=>hdF_nx l hf X n;have l1:=l.ln;have l2:=Lp.ln;subst ai;refine⟨_,rfl,_,rfl,_,rfl,t,_,_,_,rfl,rfl,SqT.of ab,rfl,_,rfl,q,d,lp,g,rs,pa,_,(hdF f c j,c),N+M+322,M,rfl,B,am,by rw[lG,kX];lia,bf,by lia,R3,nd,P3.hl,P3.sub,P3.gb,P3.nd,P3.ln,F,X,λg4 H4 k4 ae an=>?_⟩;have b4:=jf (N:=N+M+322) (M:=M) (st:=(hdF f c j,c)) Lp.nd Lp.gb Lp.ln bf X;have m4:=sendS_put (st:=(hdF f c j,c)) (M:=M) X Lp.gpb;have fin:plF f c j pa ta=taF (bT (hdF f c j,c) pa) ta:=by unfold plF;rw[if_neg nr]
 rw[fin]at k;clear fin bf;generalize bT (hdF f c j,c) pa=st at k ae an b4 m4⊢;have aq:=p.trans k4;obtain⟨au,ah,_⟩:=am.ex;have aa:=k4 _ _ (bB ab ah (by intro z;cases z)) ab;have T4:=T3.kp ah k4;have R4:=R3.kp B.symm ah k4;have y:=G.gpb;refine⟨_,rfl,t,_,_,_,rfl,rfl,SqT.of aa,rfl,zL0,λx nx=>?_⟩;obtain⟨H5,zq,m,Y⟩:=uG (o:=.lst []) nx;rw[zq];refine⟨lt,x,_,rfl,rfl,SqL.of (m _ _ T4.hl),SqL.of Y,?_⟩
 cases ta with
 |nil=>
  refine⟨_,rfl,iteF ?_⟩;refine k H5 (aq.trans (KpD.of m)) ?_;rw[nZ,m6];unfold taF;rw[if_pos rfl];exact ae.mono m
 |cons r ta=>
  refine⟨_,rfl,iteT ?_⟩;generalize hW:r::ta=W at*;have nW:W≠[]:=by rw[<-hW];simp
  refine⟨_,rfl,_,rfl,t,_,_,_,rfl,rfl,SqT.of (m _ _ aa),rfl,d,lt,rs,W,rfl,R4.mono m,nd,SqL.of (m _ _ T4.hl),G.sub,G.gb,by have:=G.ln;lia,λg6 H6 s6 as=>?_⟩;have ac:=m.trans s6;have ak:=SqT.of (K:=K) (ac _ _ an);have ag:=SqT.of (K:=K) as;refine⟨_,rfl,_,rfl,_,rfl,t,_,_,_,rfl,rfl,SqT.of (ac _ _ aa),rfl,?_⟩;refine⟨_,rfl,g4,_,_,_,rfl,rfl,ak,rfl,_,rfl,g6,_,_,_,rfl,rfl,ag,rfl,_,_,rfl,rfl,gX m4.t y.b (by lia),?_⟩;refine⟨_,rfl,g4,_,_,_,rfl,rfl,ak,rfl,_,rfl,g6,_,_,_,rfl,rfl,ag,rfl,_,rfl,g6,_,_,_,rfl,rfl,ag,rfl,_,_,rfl,rfl,_,_,rfl,rfl,gX m4.b (sub_nx y.b y.t) (by lia),zL2,λI ad=>?_⟩;obtain⟨H7,zq,s7,h7⟩:=uG (o:=.tup [.int (st.2.1*(gp W).2),.int (st.2.2*((gp W).2-(gp W).1))]) ad;rw[zq];have J:=ac.trans s7;refine⟨q,d,lt,I,rs,W,_,(st.1,pT st.2 (gp W)),N+M+322+M+161,M+160+161,rfl,B,ae.mono J,by rw[lG,lG,kX,kX];lia,b4,by lia,R4.mono J,nd,J _ _ T4.hl,G.sub,G.gb,G.nd,G.ln,h7,pT_nx m4 y,λg' R kp du aj=>?_⟩;refine k R ((aq.trans (KpD.of J)).trans kp) ?_;unfold taF;rw[if_neg nW];exact du
noncomputable def vl(c:Int×Int):Rat:=Rat.divInt c.1 c.2
theorem fk(c:Int×Int):vl c=(c.1:Rat)/(c.2:Rat):=mN _ _
theorem dN{z:Int}(h:z≠0):(z:Rat)≠0:=λe=>h (by exact_mod_cast e)
theorem iJ(hc:c.2≠0)(he:e.2≠0):vl (plP c e)=vl c+vl e:=by
 have b:=dN hc;have a:=dN he;rw[fk,fk,fk];show((c.1*e.2+e.1*c.2:Int):Rat)/((c.2*e.2:Int):Rat)=_;rw[Rat.intCast_add,mF,mF,mF];have i:=md _ b;have h:=md _ a;have j:=md ((c.2:Rat)*(e.2:Rat)) (λz=>(Rat.mul_eq_zero.mp z).elim b a);rw[mi,mi,mi];grind
theorem kf(hc:c.2≠0)(he:e.2≠0):vl (tmP c e)=vl c*vl e:=by
 have b:=dN hc;have a:=dN he;rw[fk,fk,fk];show((c.1*e.1:Int):Rat)/((c.2*e.2:Int):Rat)=_;rw[mF,mF];have i:=md _ b;have h:=md _ a;have j:=md ((c.2:Rat)*(e.2:Rat)) (λz=>(Rat.mul_eq_zero.mp z).elim b a);rw[mi,mi,mi];grind
theorem dW:∀{ws:List WR}{st:DuS},(∀r∈ws,GB r.t r.b)->st.2.2≠0->(∀m,(st.1 m).2≠0)->vl ((bT st ws).1 n)=vl (st.1 n)+sA (vl st.2) (ws.map WR.d) n/\(∀m,((bT st ws).1 m).2≠0)/\(bT st ws).2.2≠0/\vl (bT st ws).2=going (vl st.2) (ws.map WR.d)
 |[],st,_,h1,h2=>⟨by rw[nZ,iO];show vl (st.1 n)=_;grind,h2,h1,rfl⟩
 |r::ws,st,gb,h1,h2=>by
  have a:=gb r lO;have h:r.b≠0:=by have:=a.b0;omega
  have g:vl (dH st r).2=vl st.2*aW r.d.kd r.d.x:=by
   rw[WR.d_gain a];exact kf (c:=st.2) (e:=(r.t,r.b)) h1 h
  have l:∀m,((dH st r).1 m).2≠0:=λm=>by
   show(upf st.1 r.nm _ m).2≠0;unfold upf
   split
   ·exact Int.mul_ne_zero (h2 _) h1
   ·exact h2 m
  obtain⟨p,j,i,q⟩:=dW (n:=n) (ws:=ws) (st:=dH st r) (λx o=>gb x (lF _ o)) (Int.mul_ne_zero h1 h) l;refine⟨?_,j,i,?_⟩
  ·show vl ((bT (dH st r) ws).1 n)=_;rw[p,mw,jC,<-g,WR.d_nm]
   have:vl ((dH st r).1 n)=vl (st.1 n)+if n=r.nm then vl st.2 else 0:=by
    show vl (upf st.1 r.nm _ n)=_;unfold upf
    split
    ·rename_i e;rw[e];exact iJ (h2 _) h1
    ·grind
   rw[this];grind
  ·show vl (bT (dH st r) ws).2=_;rw[q,mw,going_cons,<-g]
theorem gp_val(gb:∀r∈ws,GB r.t r.b):aL (ws.map WR.d)=vl (gp ws)/\1<=(gp ws).1/\1<=(gp ws).2:=by
 have b:=gp_bd (λr a=>(gb r a).all) ws.length (k5 _);rw[lA]at b;have h:=(dW (n:="") (st:=(λ_=>(0,1),(1,1))) gb (by decide) λ_=>by show(1:Int)≠0;decide).2.2.2;rw[sendS_two]at h;refine⟨?_,b.t0,b.b0⟩;have e:((1:Int)*(gp ws).1,(1:Int)*(gp ws).2)=gp ws:=by rw[Int.one_mul,Int.one_mul]
 have h :=h;rw[e,show vl (1,1)=1 from rfl]at h;exact h.symm
theorem vl_cmp(h:1<=c.2):(vl c=1↔c.1=c.2)/\(1<vl c↔c.2<c.1)/\(vl c<1↔c.1<c.2)/\(0<=vl c↔0<=c.1):=by
 have o:(0:Rat)<(c.2:Rat):=by exact_mod_cast(show(0:Int)<c.2 by lia)
 have e:vl c*(c.2:Rat)=(c.1:Rat):=by rw[fk];exact mO (by grind)
 have m:∀{x y:Rat},x<y->x*(c.2:Rat)<y*(c.2:Rat):=λ{x y}q=>by have:=fO (show 0<y-x by grind) o;grind
 have b:vl c<1∨vl c=1∨1<vl c:=by grind
 have l:vl c<1->c.1<c.2:=λq=>by have:=m q;rw[e,Rat.one_mul]at this;exact_mod_cast this
 have j:1<vl c->c.2<c.1:=λq=>by have:=m q;rw[e,Rat.one_mul]at this;exact_mod_cast this
 have i:vl c=1->c.1=c.2:=λq=>by rw[q,Rat.one_mul]at e;exact_mod_cast e.symm
 refine⟨⟨i,λq=>?_⟩,⟨j,λq=>?_⟩,⟨l,λq=>?_⟩,⟨λq=>?_,λq=>?_⟩⟩
 ·rcases b with z|z|z
  ·lia
  ·exact z
  ·lia
 ·rcases b with z|z|z
  ·lia
  ·lia
  ·exact z
 ·rcases b with z|z|z
  ·exact z
  ·lia
  ·lia
 ·have:=fF q (lT o)
  rw[e]at this
  exact_mod_cast this
 ·refine lZ λz=>?_
  have:vl c<0:=by grind
  have:=m this
  rw[e,Rat.zero_mul]at this
  have:c.1<0:=by exact_mod_cast this
  lia
theorem pH_val(hc:c.2≠0)(hg:1<=g.2)(h:g.2<g.1):vl (pH c g)=vl c/df (vl g):=by
 have j:=dN hc;have b:=dN (show g.2≠0 by lia);have a:=dN (show g.1-g.2≠0 by lia);have e:df (vl g)=vl g-1:=if_pos ((vl_cmp hg).2.1.mpr h);rw[e];have ev:vl g*(g.2:Rat)=(g.1:Rat):=by rw[fk];exact mO b
 have l:vl c*(c.2:Rat)=(c.1:Rat):=by rw[fk];exact mO j
 rw[Rat.intCast_sub]at a;have i:vl g-1≠0:=λz=>a (by rw[<-ev];grind);rw[fk];show((c.1*g.2:Int):Rat)/((c.2*(g.1-g.2):Int):Rat)=_;rw[mF,mF,Rat.intCast_sub,<-l,<-ev];have o:=md _ i;rw[mi,mi];grind
theorem pT_val(hc:c.2≠0)(hg:1<=g.2)(h:g.1<g.2):vl (pT c g)=vl c/df (vl g):=by
 have j:=dN hc;have b:=dN (show g.2≠0 by lia);have a:=dN (show g.2-g.1≠0 by lia);have lt:=(vl_cmp hg).2.2.1.mpr h;have e:df (vl g)=1-vl g:=if_neg (by grind);rw[e];have ev:vl g*(g.2:Rat)=(g.1:Rat):=by rw[fk];exact mO b
 have l:vl c*(c.2:Rat)=(c.1:Rat):=by rw[fk];exact mO j
 rw[Rat.intCast_sub]at a;have i:1-vl g≠0:=λz=>a (by rw[<-ev];grind);rw[fk];show((c.1*g.2:Int):Rat)/((c.2*(g.2-g.1):Int):Rat)=_;rw[mF,mF,Rat.intCast_sub,<-l,<-ev];have o:=md _ i;rw[mi,mi];grind
structure StV(hd pa ta:List WR)(c:Int×Int):Prop where
 g1:∀r∈hd,GB r.t r.b
 g2:∀r∈pa,GB r.t r.b
 g3:∀r∈ta,GB r.t r.b
 c2:c.2≠0
 he:hd≠[]->(gp hd).1=(gp hd).2/\pa=[]/\ta=[]∨(gp hd).2<(gp hd).1
 te:ta≠[]->(gp ta).1<(gp ta).2
theorem mapEW:ws.map WR.d=[]↔ws=[]:=List.map_eq_nil_iff
theorem plF_val(h:StV hd pa ta c)(hf:∀m,(f m).2≠0)(ad:List Addr):(∀n,vl (plF f c hd pa ta n)=vl (f n)+sdA ⟨hd.map WR.d,pa.map WR.d,ta.map WR.d,vl c,ad⟩ n)/\∀m,(plF f c hd pa ta m).2≠0:=by
 obtain⟨i,y,b⟩:=gp_val h.g1;obtain⟨w,B,t⟩:=gp_val h.g3;unfold plF;by_cases e:hd≠[]/\(gp hd).1=(gp hd).2
 ·rw[if_pos e];obtain⟨_,rfl,rfl⟩:=(h.he e.1).resolve_right λz=>by lia
  refine⟨λn=>?_,(dW (n:="") (st:=(f,c)) h.g1 h.c2 hf).2.1⟩;rw[(dW (n:=n) (st:=(f,c)) h.g1 h.c2 hf).1];unfold sdA;show _=vl (f n)+((if hd.map WR.d≠[]/\aL (hd.map WR.d)=1 then sA (vl c) (hd.map WR.d) n else _)+sA (vl c) [] n+enA [] _ n);rw[if_pos ⟨λz=>e.1 (mapEW.mp z),by rw[i];exact(vl_cmp b).1.mpr e.2⟩,iO];unfold enA;rw[if_pos rfl];show vl (f n)+sA (vl c) (hd.map WR.d) n=_;grind
 ·rw[if_neg e]
  have s:∀n,vl (hdF f c hd n)=vl (f n)+enA (hd.map WR.d) (vl c) n:=λn=>by
   unfold hdF enA;by_cases z:hd=[]
   ·rw[if_pos z,if_pos (mapEW.mpr z)];grind
   ·have lt:=(h.he z).resolve_left λq=>e ⟨z,q.1⟩;rw[if_neg z,if_neg λq=>z (mapEW.mp q),(dW (n:=n) (st:=(f,pH c (gp hd))) h.g1 (Int.mul_ne_zero h.c2 (by lia)) hf).1];show vl (f n)+sA (vl (pH c (gp hd))) _ n=_;rw[pH_val h.c2 b lt,i,eZ]
  have l:∀m,(hdF f c hd m).2≠0:=by
   unfold hdF;by_cases z:hd=[]
   ·rw[if_pos z];exact hf
   ·have lt:=(h.he z).resolve_left λq=>e ⟨z,q.1⟩;rw[if_neg z];exact(dW (n:="") (st:=(f,pH c (gp hd))) h.g1 (Int.mul_ne_zero h.c2 (by lia)) hf).2.1
  obtain⟨_,a,j,x⟩:=dW (n:="") (st:=(hdF f c hd,c)) h.g2 h.c2 l;have o:=λn=>(dW (n:=n) (st:=(hdF f c hd,c)) h.g2 h.c2 l).1;have A:(if hd.map WR.d≠[]/\aL (hd.map WR.d)=1 then sA (vl c) (hd.map WR.d)=sA (vl c) (hd.map WR.d) else True):=by split<;>trivial
  have p:¬(hd.map WR.d≠[]/\aL (hd.map WR.d)=1):=λq=>e ⟨λz=>q.1 (mapEW.mpr z),(vl_cmp b).1.mp (by rw[<-i];exact q.2)⟩;unfold taF sdA;dsimp only;by_cases z:ta=[]
  ·rw[if_pos z];refine⟨λn=>?_,a⟩;rw[if_neg p,o n];show vl (hdF f c hd n)+sA (vl c) _ n=_;rw[s n,z];unfold enA;rw[nZ,if_pos (c:=([]:List WD)=[]) rfl];grind
  ·have lt:=h.te z;rw[if_neg z];have r:(pT (bT (hdF f c hd,c) pa).2 (gp ta)).2≠0:=Int.mul_ne_zero j (by lia);refine⟨λn=>?_,(dW (n:="") (st:=((bT (hdF f c hd,c) pa).1,pT (bT (hdF f c hd,c) pa).2 (gp ta))) h.g3 r a).2.1⟩;rw[if_neg p,(dW (n:=n) (st:=((bT (hdF f c hd,c) pa).1,pT (bT (hdF f c hd,c) pa).2 (gp ta))) h.g3 r a).1,o n];show vl (hdF f c hd n)+sA (vl c) _ n+sA (vl (pT (bT (hdF f c hd,c) pa).2 (gp ta))) _ n=_;rw[s n,pT_val j t lt,x];show _+_+sA (going (vl c) (pa.map WR.d)/_) _ n=_;rw[fh,eZ (_/_)];unfold enA;rw[if_neg (c:=ta.map WR.d=[]) λq=>z (mapEW.mp q),w];grind
theorem ir:∀{ws:List WR}{st:DuS},(∀r∈ws,GB r.t r.b)->0<st.2.2->(∀m,0<(st.1 m).2)->(∀m,0<((bT st ws).1 m).2)/\0<(bT st ws).2.2
 |[],_,_,h,k=>⟨k,h⟩
 |r::ws,st,g,h,k=>by
  have b:=(g r (lO ..)).b0;refine ir (ws:=ws) (st:=dH st r) (λx a=>g x (lF _ a)) (mQ h (by omega)) λm=>?_;show 0<(upf st.1 r.nm _ m).2;unfold upf
  split
  ·exact mQ (k r.nm) h
  ·exact k m
theorem plF_pos(h:StV hd pa ta c)(hc:0<c.2)(hf:∀m,0<(f m).2):∀m,0<(plF f c hd pa ta m).2:=by
 unfold plF
 split
 ·exact(ir h.g1 hc hf).1
 ·rename_i z
  have b:∀m,0<(hdF f c hd m).2:=by
   unfold hdF
   split
   ·exact hf
   ·rename_i ne;have i:=(h.he ne).resolve_left λq=>z ⟨ne,q.1⟩;exact(ir h.g1 (mQ hc (by lia)) hf).1
  obtain⟨a,e⟩:=ir h.g2 (st:=(hdF f c hd,c)) hc b;unfold taF
  split
  ·exact a
  ·rename_i ne;have lt:=h.te ne;exact(ir h.g3 (st:=((bT (hdF f c hd,c) pa).1,pT (bT (hdF f c hd,c) pa).2 (gp ta))) (mQ e (by lia)) a).1
noncomputable abbrev EE:Nat:=181440000
noncomputable def DD:Nat:=60*420*EE^6
theorem gq_divInt{D:Nat}(hb:b∣(D:Int))(b0:b≠0):Gq D (Rat.divInt t b):=by
 obtain⟨k,a⟩:=hb;refine⟨t*k,?_⟩;have h:=dN b0;rw[mN,mF]
 have e:((D:Nat):Rat)=(b:Rat)*(k:Rat):=by
  rw[<-mF,<-a];rfl
 rw[e,<-nU,mO h]
theorem gnE(h:GB r.t r.b)(dv:DV r):GnE EE r.d:=by
 have i:r.b≠0:=by have:=h.b0;omega
 have c:r.t≠0:=by have:=h.t0;omega
 have o:=dN i;have a:=dN c;have m:(0:Rat)<(r.b:Rat):=by exact_mod_cast(show(0:Int)<r.b by have:=h.b0;omega)
 have j:(0:Rat)<(r.t:Rat):=by exact_mod_cast(show(0:Int)<r.t by have:=h.t0;omega)
 have e:=WR.d_gain h;refine⟨?_,by rw[e];exact gq_divInt dv.2 i,?_⟩
 ·rw[e,mN,mi];exact fO j (ii m)
 ·have:(Rat.divInt r.t r.b)⁻¹=Rat.divInt r.b r.t:=by
   rw[mN,mN,mi,mi];have l:=md _ o;have p:=md _ a;have s:=md ((r.t:Rat)*(r.b:Rat)⁻¹) (λz=>(Rat.mul_eq_zero.mp z).elim a λq=>by rw[q]at l;grind);grind
  rw[e,this];exact gq_divInt dv.1 c
theorem RsG.gn(h:RsG sp rs)(hr:r∈rs):GnE EE r.d/\SmR r.d.x/\Bd 12 (aW r.d.kd r.d.x):=by
 obtain⟨g,dv⟩:=h.all r hr;exact⟨gnE g.gb dv,(WR.d_sm g.gb).1,(WR.d_sm g.gb).2.1⟩
theorem dv420{t:Int}(h0:1<=t)(h1:t<=7):t∣420:=by
 have:t=1∨t=2∨t=3∨t=4∨t=5∨t=6∨t=7:=by lia
 rcases this with rfl|rfl|rfl|rfl|rfl|rfl|rfl<;>decide
theorem dvsix{t:Int}(h0:1<=t)(h1:t<=6):t∣60:=by
 have:t=1∨t=2∨t=3∨t=4∨t=5∨t=6:=by lia
 rcases this with rfl|rfl|rfl|rfl|rfl|rfl<;>decide
theorem szD{D m:Nat}(hb:b∣(D:Int))(b0:1<=b)(t0:0<=t)(tm:t<=((2^m:Nat):Int)):SzQ D m (Rat.divInt t b):=by
 have c:(0:Rat)<(b:Rat):=by exact_mod_cast(show(0:Int)<b by lia)
 have e:Rat.divInt t b*(b:Rat)=(t:Rat):=by rw[mN];exact mO (by grind)
 have a:0<=Rat.divInt t b:=by
  rw[mN,mi];exact fF (by exact_mod_cast t0) (lT (ii c))
 refine⟨a,gq_divInt hb (by lia),?_⟩;have i:(1:Rat)<=(b:Rat):=by exact_mod_cast b0
 have:=nC i a
 have h:(t:Rat)<=((2^m:Nat):Rat):=by exact_mod_cast tm
 grind
theorem df_sz(h2:1<=g.2)(fb:FB u v)(e:g.1*v=u*g.2)(ne:g.1≠g.2):SzQ 420 3 (df (vl g))⁻¹:=by
 have h:(0:Rat)<(v:Rat):=by exact_mod_cast(show(0:Int)<v by have:=fb.b0;lia)
 have s:(0:Rat)<(g.2:Rat):=by exact_mod_cast(show(0:Int)<g.2 by lia)
 have ev:vl g*(g.2:Rat)=(g.1:Rat):=by rw[fk];exact mO (by grind)
 have t:(g.1:Rat)*(v:Rat)=(u:Rat)*(g.2:Rat):=by rw[<-mF,<-mF,e]
 have ex:vl g*(v:Rat)=(u:Rat):=by
  have:(vl g*(v:Rat)-(u:Rat))*(g.2:Rat)=0:=by grind
  rcases Rat.mul_eq_zero.mp this with z|z
  ·grind
  ·grind
 have x:=fb.t0;have A:=fb.t1;have q:=fb.b0;have r:=fb.b1;have l:u≠v:=λz=>ne (by rw[z]at e;exact Int.eq_of_mul_eq_mul_right (show v≠0 by lia) (by rw[e,mH]))
 have a:∀w:Int,1<=w->w<=7->df (vl g)*(v:Rat)=(w:Rat)->SzQ 420 3 (df (vl g))⁻¹:=λw i j b=>by
  have B:(0:Rat)<(w:Rat):=by exact_mod_cast(show(0:Int)<w by lia)
  have m:df (vl g)≠0:=λz=>by rw[z,Rat.zero_mul]at b;grind
  have:(df (vl g))⁻¹=Rat.divInt v w:=by
   rw[mN,<-b,mi];have p:=md _ m;have o:=md _ (show(v:Rat)≠0 by grind);have y:=md (df (vl g)*(v:Rat)) (by rw[b];grind);grind
  rw[this];exact szD (dv420 i j) i (by lia) (by lia)
 by_cases c:1<vl g
 ·refine a (u-v) ?_ (by lia) (by unfold df;rw[if_pos c,Rat.intCast_sub];grind)
  have:(v:Rat)<(u:Rat):=by have:=fO (show 0<vl g-1 by grind) h;grind
  have:v<u:=by exact_mod_cast this
  lia
 ·refine a (v-u) ?_ (by lia) (by unfold df;rw[if_neg c,Rat.intCast_sub];grind)
  have:(u:Rat)<=(v:Rat):=by have:=fF (show 0<=1-vl g by grind) (lT h);grind
  have:u<=v:=by exact_mod_cast this
  lia
theorem SzQ.add(h:SzQ D m x)(k:SzQ D m y):SzQ D (m+1) (x+y):=by
 refine⟨by have:=h.nn;have:=k.nn;grind,h.gq.add k.gq,?_⟩;have e:((2^(m+1):Nat):Rat)=((2^m:Nat):Rat)+((2^m:Nat):Rat):=by rw[Nat.pow_succ,Nat.mul_two,Rat.natCast_add]
 rw[e]
 have:=h.le
 have:=k.le
 grind
theorem SdO.sz(h:SdO rs hd pa ta c)(G:RsG sp rs)(ad:List Addr)(n:Str):SzQ DD 81 (sdA ⟨hd.map WR.d,pa.map WR.d,ta.map WR.d,vl c,ad⟩ n):=by
 have H:∀{a:List WR},(∀r∈a,r∈rs)->∀d∈a.map WR.d,GnE EE d/\SmR d.x/\Bd 12 (aW d.kd d.x):=λ{a}s d hd=>by
  obtain⟨r,R,rfl⟩:=k8.mp hd;exact G.gn (s r R)
 have N:∀{a:List WR},(a.map (·.nm)).Nodup->((a.map WR.d).map (·.nm)).Nodup:=λ{a}q=>by
  rw[mz,show((λx:WD=>x.nm)∘WR.d)=(λr:WR=>r.nm) from funext λr=>WR.d_nm r];exact q
 have sa:∀{a:List WR},Prq a->(∀r∈a,r∈rs)->SzQ (EE^3) 36 (sA 1 (a.map WR.d) n):=λ{a}q s=>(sA_sz (m:=3) (N q.nd) (H s) (by rw[kX];have:=q.len;lia)).1 n;have S:SzQ 60 4 (vl c):=szD (dvsix h.cb.b0 h.cb.b1) h.cb.b0 (by have:=h.cb.t0;lia) (by have:=h.cb.t1;lia);obtain⟨F,_,E⟩:=gp_val h.ph.gb;obtain⟨P,_,J⟩:=gp_val h.pt.gb
 have up:∀{i j m:Nat}{y:Rat},SzQ (60*EE^i) m y->i<=6->m<=79->SzQ DD 79 y:=λ{i j m y}q A w=>q.mono (by
  unfold DD;rw[Nat.mul_assoc];exact nX _ (Nat.dvd_trans (Nat.pow_dvd_pow EE A) (Nat.dvd_mul_left _ _))) w
 have b:∀{i m:Nat}{y:Rat},SzQ (60*EE^i*420) m y->i<=6->m<=79->SzQ DD 79 y:=λ{i m y}q A w=>q.mono (by
  unfold DD;rw[Nat.mul_assoc,oj (EE^i),<-Nat.mul_assoc];exact nX _ (Nat.pow_dvd_pow EE A)) w
 have o:SzQ (60*EE^0) 4 (vl c):=S
 have I:SzQ DD 79 (if hd.map WR.d≠[]/\aL (hd.map WR.d)=1 then sA (vl c) (hd.map WR.d) n else enA (hd.map WR.d) (vl c) n):=by
  split
  ·rw[eZ];exact up (j:=0) (o.mulE (sa h.ph h.ih)) (by decide) (by decide)
  ·rename_i L;unfold enA
   split
   ·exact SzQ.zero
   ·rename_i D;have p:hd≠[]:=λz=>D (mapEW.mpr z);obtain⟨u,v,t,e⟩:=h.hf p;have ne:(gp hd).1≠(gp hd).2:=λz=>L ⟨D,by rw[F];exact(vl_cmp E).1.mpr z⟩;have d:=df_sz E t e ne;rw[<-F]at d;rw[mi,nU,Rat.mul_comm (df _)⁻¹,<-nU];exact b ((o.mulE (sa h.ph h.ih)).mul d) (by decide) (by decide)
 have Q:SzQ DD 79 (sA (vl c) (pa.map WR.d) n):=by
  rw[eZ];exact up (j:=0) (o.mulE (sa h.pp h.ip)) (by decide) (by decide)
 have M:SzQ DD 79 (enA (ta.map WR.d) (vl c*aL (pa.map WR.d)) n):=by
  unfold enA
  split
  ·exact SzQ.zero
  ·rename_i O;have l:ta≠[]:=λz=>O (mapEW.mpr z);obtain⟨u,v,t,e⟩:=h.tf l;have d:=df_sz J t e (by have:=h.te l;lia);rw[<-P]at d;rw[mi,nU,Rat.mul_comm (df _)⁻¹,<-nU];have K:SzQ (EE^3) 36 (aL (pa.map WR.d)):=(iF (B:=12) (m:=3) (H h.ip) (by rw[kX];exact h.lp)).1;exact b (((o.mulE K).mulE (sa h.pt h.it)).mul d) (by decide) (by decide)
 unfold sdA;exact(I.add Q).add (M.mono (Nat.dvd_refl _) (by decide))
structure DuO(rs:List WR)(m N:Nat)(ks:List Str)(f:Str->Int×Int):Prop where
 nx:∀n,Nx N (f n)
 b0:∀n,0<(f n).2
 sz:∀n,SzQ DD m (vl (f n))
 inn:∀n∈ks,n∈rs.map (·.nm)
theorem Prq.leg(h:Prq ws)(s:∀r∈ws,r∈rs)(hl:H l=some (.lst (nmR ws))):Leg H rs l ws:=⟨hl,s,h.gb,h.nd,h.len⟩
theorem SdO.v(h:SdO rs hd pa ta c):StV hd pa ta c:=⟨h.ph.gb,h.pp.gb,h.pt.gb,by have:=h.cb.b0;lia,h.he,h.te⟩
theorem SdO.ev(h:SdO rs hd pa ta c)(z:hd≠[]/\(gp hd).1=(gp hd).2):pa=[]/\ta=[]:=((h.he z.1).resolve_right λq=>by lia).2
theorem CB.nx(h:CB c):Nx 4 c:=⟨by have:=h.t0;have:=h.t1;show c.1.natAbs<=16;omega,by have:=h.b0;have:=h.b1;show c.2.natAbs<=16;omega⟩
inductive IspDue(K:W.Frag)(vs:List V)(H:Hp)(Q:VK):Prop
 |mk(l d s q:Addr)(ns:List Int)(sp:List Str)(rs:List WR)(ts:List V)(ds:List DS)(h1:vs=[.ref l,.ref d,.ref s])(h2:SqL K H l (ns.map V.int))(h3:RowsAt H d rs)(h4:RsG sp rs)(h5:H s=some (.lst ts))(h6:RowAt (SdAt q) H ts ds)(h7:ds.length<=2)(h8:(∀x∈ds,SdO rs x.hd x.pa x.ta x.c))(h9:∀e H' ks f,H e=none->Same H H'->DueAt H' e ks f->ks.length<=100->DuO rs 100 3000 ks f->Q (.ref e) H'):IspDue K vs H Q
noncomputable def spDue(K:W.Frag):Sp:=λvs H Q _=>IspDue K vs H Q
theorem ok_law_due(T:TX K mg a):FnB P w K mg base CX0 "_law_due" 4 ["_law_script","_law_ways_here","_law_strands_here"] (spDue K):=by
 refine T.d_law_due.okA sc_law_due λf av A af s H vs Q E U h=>?_;obtain⟨l,d,s,qq,ns,sp,p,ts,ds,rfl,hS,hR,G,hs,ad,a1,al,k⟩:=h
 refine⟨_,(aD (aH (i:=3) sc_law_due.nd cU)
  (aX (bO lH rfl (bZ (pv 2)) (aR (i:=4) sc_law_due.nd) (aF (bY (aO (ok_law_planned T) U aJ (aA (pv 3) (aA (pv 1) (aA (pv 4) aB)))))))
  (aD (aH (i:=5) sc_law_due.nd (eJ (fI U.hd) (by rfl) T.z_list nM (aA (pv 1) aB)))
  (aD (bO lH rfl (dM rfl T.z_range (aA (bV cO (by rfl) T.z_len mR (aA (pv 5) aB)) aB)) (aR (i:=6) sc_law_due.nd) (aD (aH (i:=7) sc_law_due.nd (aO (cA T) U aJ (aA (pv 0) (aA (aM bQ aC (pv 6)) aB))))
  (aF (bJ (aS e7 (aM bE (pv 7) aC) aC) (aF (cI (bI U) (pv 3) (aK bC (pv 5) (pv 6)) (aO (dO T) U aJ (aA (f9 (bI U) (pv 3) (aK bC (pv 5) (pv 6)) (bP (aA aC (aA aC aB))) ⟨rfl,rfl,rfl,rfl⟩) (aA (bP (aA (aM bE (aM cP (pv 7) aC) aC) (aA (aM bQ aC (aM bE (aM cP (pv 7) aC) aC)) aB))) aB))) rfl)) aV))))
  (aF (aP (pv 3))))))),?_⟩
 walk_at"q"
 intro e ne;obtain⟨H0,zq,s0,h0⟩:=uG (o:=.dK []) ne;rw[zq];obtain⟨az,ag,_⟩:=id hR;have ah:e≠d:=(aN ag ne).symm;have ai:ts.length=ds.length:=ad.1;refine dA (λσ' H'=>yE3 λJ b f=>σ'=[some (.ref l),some (.ref d),some (.ref s),some (.ref e),J,none,none,none]×' Same H H'×' DueAt H' e b f×' b.length<=24×' DuO p 84 2100 b f) ?_ ?_
 ·refine⟨_,rfl,s,rfl,⟨_,SqL.of (s0 _ _ hs)⟩,cG (K:=K) (a:=s) (xs:=ts) (λi σ N=>i<=ds.length/\yE3 λJ b f=>σ=[some (.ref l),some (.ref d),some (.ref s),some (.ref e),J,none,none,none]×' Same H N×' DueAt N e b f×' b.length<=12*i×' DuO p (82+i) (1020*i) b f)
   ⟨lD _,_,[],λ_=>(0,1),rfl,s0,⟨⟨[],h0,Tab.nil⟩,λ_ _=>rfl⟩,k5 _,⟨λ_=>⟨lD _,k5 _⟩,λ_=>by decide,λ_=>by rw[show vl (0,1)=0 from rfl];exact SzQ.zero,λn F=>by cases F⟩⟩ ((by rintro i σ N _⟨_,_,_,_,_,B,_⟩;exact SqL.of (B _ _ hs))) ?_ ?_⟩
  ·rintro i v σ N hv⟨_,J,b,f,rfl,B,S,Y,D⟩;obtain⟨x,ex,t,lh,lp,lt,g,rfl,t1,t2,t3,t4,t5,_⟩:=ad.get hv;have hi:i<ds.length:=(kY.mp ex).1;have j:=al x (kZ ex);have Lh:=j.ph.leg j.ih (B _ _ t2);have Lp:=j.pp.leg j.ip (B _ _ t3);have Lt:=j.pt.leg j.it (B _ _ t4);have l1:=j.ph.len;have l2:=j.lp;have l3:=j.pt.len;refine⟨_,rfl,_,rfl,_,rfl,e,d,t,lh,lp,lt,g,p,x.hd,x.pa,x.ta,x.c,b,f,1020*i,4,rfl,ah,S,by lia,D.nx,by lia,hR.mono B,G.nd,B _ _ t1,Lh,Lp,Lt,B _ _ t5,j.cb.nx,j.ev,λH3 k3 an=>?_⟩;obtain⟨v1,v2⟩:=plF_val j.v (λn=>Int.ne_of_gt (D.b0 n)) [];refine⟨hi,_,_,_,rfl,k3.same ne B,an,by simp only[lG,kX];lia,⟨λn=>(plF_nx Lh Lp Lt D.nx j.cb.nx n).mono (by lia),plF_pos j.v (by have:=j.cb.b0;lia) D.b0,λn=>?_,λn F=>?_⟩⟩
   ·rw[v1 n];exact(D.sz n).add ((j.sz G [] n).mono (Nat.dvd_refl _) (by lia))
   ·have Z:∀{ws:List WR},(∀r∈ws,r∈p)->n∈ws.map (·.nm)->n∈p.map (·.nm):=λ{ws}q z=>by
     obtain⟨r,U,rfl⟩:=k8.mp z;exact k8.mpr ⟨r,q r U,rfl⟩
    rcases lB.mp F with z|z
    ·rcases lB.mp z with z|z
     ·rcases lB.mp z with z|z
      ·exact D.inn n z
      ·exact Z j.ih z
     ·exact Z j.ip z
    ·exact Z j.it z
  ·rintro σ N⟨_,J,b,f,rfl,B,S,Y,D⟩;rw[ai]at Y D;exact⟨J,b,f,rfl,B,S,by lia,⟨λn=>(D.nx n).mono (by lia),D.b0,λn=>(D.sz n).mono (Nat.dvd_refl _) (by lia),D.inn⟩⟩
 rintro zU ae σ' N⟨J,b,f,rfl,B,S,Y,D⟩;obtain⟨ak,au,hk,_⟩:=hR.mono B;subst ae;refine⟨_,rfl,d,ak,rfl,.inl au,λM am=>?_⟩;rw[rows_keys hk];obtain⟨H3,zq,s3,h3⟩:=uG (o:=.lst ((p.map (·.nm)).map V.str)) am;rw[zq];have ay:=G.len;refine⟨_,rfl,M,_,rfl,.inl (SqL.of h3),?_⟩;rw[kX,kX];refine⟨_,rfl,by lia,by lia,?_⟩;refine iG (λi σ O=>i<=p.length/\yE5 λJ z6 z7 b f=>σ=[some (.ref l),some (.ref d),some (.ref s),some (.ref e),J,some (.ref M),z6,z7]×' Same H O×' O M=some (.lst ((p.map (·.nm)).map V.str))×' DueAt O e b f×' b.length<=24+i×' DuO p (84+i) (2100+5*i) b f) ⟨lD _,_,_,_,b,f,rfl,B.trans s3,h3,S.mono s3,by lia,D⟩ ?_ ?_
 ·rintro i σ O hi⟨_,J,z6,z7,b,f,rfl,s4,h4,S,lk,D⟩;have X:i<p.length:=by lia
  rw[Int.zero_add];refine⟨_,rfl,_,rfl,_,_,rfl,rfl,l,ns,_,rfl,s4.seq hS,by lia,by lia,λc=>?_⟩;refine⟨_,rfl,_,_,rfl,rfl,zI4,rfl,_,rfl,ifV (λe1=>?_) (λe1=>?_)⟩
  case refine_2=>exact⟨X,_,_,_,b,f,rfl,s4,h4,S,by lia,⟨λn=>(D.nx n).mono (by lia),D.b0,λn=>(D.sz n).mono (Nat.dvd_refl _) (by lia),D.inn⟩⟩
  obtain⟨r,er⟩:∃r,p[i]?=some r:=⟨_,lz X⟩;have ac:(p.map (·.nm))[i]?=some r.nm:=by rw[lg,er];rfl
  obtain⟨⟨I,he,tb⟩,no⟩:=S;refine⟨_,rfl,e,rfl,.inl ⟨I,.inl he⟩,_,rfl,_,rfl,M,_,_,_,rfl,rfl,SqL.of h4,fR ac,zL2,λe0 ne0=>?_⟩;obtain⟨H5,zq,s5,h5⟩:=uG (o:=.tup [.int 0,.int 1]) ne0;rw[zq];have aa:=tb.mono λv x z=>z.mono s5;refine⟨_,DGet.k (k:=Sum.inr r.nm) (s5 _ _ he),?_⟩
  have R:DueIs H5 ((cV I (Sum.inr r.nm)).getD (.ref e0)) (f r.nm):=by
   by_cases F:r.nm∈cC b
   ·obtain⟨v,ev,z⟩:=aa.vals _ F;rw[ev];exact z
   ·rw[aa.none F,no _ λz=>F (mem_keysOf.mpr z)];exact⟨e0,rfl,h5⟩
  generalize(cV I (Sum.inr r.nm)).getD (.ref e0)=vv at R⊢;obtain⟨ar,rfl,ao⟩:=R;obtain⟨p0,p1⟩:=bR (c/4) (show(0:Int)<12 by decide);obtain⟨q0,q1⟩:=bR (c/48) (show(0:Int)<6 by decide);refine⟨_,rfl,_,_,rfl,rfl,⟨by decide,by decide⟩,_,_,rfl,rfl,zI12,_,rfl,_,_,rfl,rfl,⟨by decide,by decide⟩,_,_,rfl,rfl,zI6,_,_,rfl,rfl,zL2,λg ng=>?_⟩;obtain⟨H6,zq,s6,h6⟩:=uG (o:=.tup [.int (c/4%12),.int (1+c/48%6)]) ng;rw[zq];obtain⟨m,L⟩:∃m:Int×Int,m=(c/4%12,1+c/48%6):=⟨_,rfl⟩;have pn:Nx 4 m:=by rw[L];exact⟨by show(c/4%12).natAbs<=16;lia,by show(1+c/48%6).natAbs<=16;lia⟩
  have pb:0<m.2:=by rw[L];show 0<1+c/48%6;lia
  have ps:SzQ DD 4 (vl m):=by
   rw[L];exact(szD (D:=60) (dvsix (show 1<=1+c/48%6 by lia) (by lia)) (by lia) p0 (by show c/4%12<=16;lia)).mono (by unfold DD;rw[Nat.mul_assoc];exact Nat.dvd_mul_right _ _) (k5 _)
  have aq:H6 g=some (.tup [.int m.1,.int m.2]):=by rw[L];exact h6
  refine⟨ar,g,f r.nm,m,2100+5*i,4,rfl,s6 _ _ ao,aq,D.nx _,pn,by lia,λe2 aj=>?_⟩;obtain⟨H7,zq,s7,h7⟩:=uG (o:=.tup [.int (plP (f r.nm) m).1,.int (plP (f r.nm) m).2]) aj;rw[zq];have ab:=s6.trans s7;have y:=s5.trans ab
  have ax:I.length<=900:=by
   rw[tb.len]
   have:=dQ b
   lia
  refine⟨_,rfl,_,rfl,_,rfl,M,_,_,_,rfl,rfl,SqL.of (y _ _ h4),fR ac,e,_,rfl,DPut.k (k:=Sum.inr r.nm) (y _ _ he) (aT (by lia)),?_⟩;have kp:KeepD H7 (upd H7 e (.dK (cK I (Sum.inr r.nm) (.ref e2)))):=KeepD.put (y _ _ he);have as:=Tab.put (n:=r.nm) (aa.mono λv x z=>(z.mono ab).keep kp) (DueIs.keep (c:=plP (f r.nm) m) ⟨e2,rfl,h7⟩ kp);refine⟨X,_,_,_,b++[r.nm],upf f r.nm (plP (f r.nm) m),rfl,aY ne (s4.trans y),?_,⟨⟨_,aE,by rw[gj];exact as⟩,λn F=>?_⟩,by rw[lG,l9];lia,⟨λn=>?_,λn=>?_,λn=>?_,λn F=>?_⟩⟩
  ·rw[aG (bB (y _ _ h4) (y _ _ he) (by intro z;cases z))];exact y _ _ h4
  ·rw[lB,not_or]at F;rw[jd λz=>F.2 (by rw[z];simp)];exact no n F.1
  ·unfold upf
   split
   ·exact((D.nx _).plus pn).mono (by lia)
   ·exact(D.nx n).mono (by lia)
  ·unfold upf
   split
   ·exact mQ (D.b0 _) pb
   ·exact D.b0 n
  ·unfold upf
   split
   ·rw[iJ (Int.ne_of_gt (D.b0 _)) (Int.ne_of_gt pb)];exact(D.sz _).add (ps.mono (Nat.dvd_refl _) (by lia))
   ·exact(D.sz n).mono (Nat.dvd_refl _) (by lia)
  ·rcases lB.mp F with z|z
   ·exact D.inn n z
   ·rw[lv.mp z];exact k8.mpr ⟨r,kZ er,rfl⟩
 ·rintro σ O⟨_,J,z6,z7,b,f,rfl,s4,_,ap,a0,D4⟩;have aw:(p.length:Int).toNat=p.length:=by lia
  exact⟨_,rfl,k e O b f ne s4 ap (by lia) ⟨λn=>(D4.nx n).mono (by lia),D4.b0,λn=>(D4.sz n).mono (Nat.dvd_refl _) (by lia),D4.inn⟩⟩
theorem neg_div(t b:Int):Rat.divInt (0-t) b=-Rat.divInt t b:=by
 rw[mN,mN,Int.zero_sub,Rat.intCast_neg];grind
theorem RowsAt.but(h:RowsAt H d rs)(he:H e=some (.dK kvs))(ne:d≠e)(k:∀b ob,H b=some ob->b≠e->H' b=some ob):RowsAt H' d rs:=by
 obtain⟨l,m,j,i⟩:=h;exact⟨l,k _ _ m ne,j,i.mono (by rintro v x⟨p,g,z,c,a⟩;exact⟨p,g,z,k _ _ c (bB c he (by intro z;cases z)),k _ _ a (bB a he (by intro z;cases z))⟩)⟩
theorem two_conG(O:NsOk E ps ns)(hd:d∈ns):bK (λm=>if m=d.nm then A m+x else A m) ns s=upf (upf (bK A ns) d.st (bK A ns d.st+-x)) d.go (bK A ns d.go+x*aW d.kd d.x) s:=by
 rw[(sumF_upd ns O.ne O.nd s).2 d hd rfl];unfold con upf;have ne:=O.ne d hd;by_cases c1:s=d.go
 ·rw[if_pos c1,if_pos c1,c1]
 ·rw[if_neg c1,if_neg c1];by_cases c2:s=d.st
  ·rw[if_pos c2,if_pos c2,c2]
  ·rw[if_neg c2,if_neg c2];grind
theorem sumF_zero(O:NsOk E ps ns)(h:∀n,A n=0)(s:Str):bK A ns s=0:=by
 have nn:∀n,0<=A n:=λn=>by rw[h n];exact nO
 have c:=(no_out nn ns O.ne (λd a=>(O.g1 d a).1.ps) (s:=s) λd a _=>h _).1;have b:=(no_in nn ns O.ne (s:=s) λd a _=>h _).1;grind
structure BrO(sp:List Str)(S:Str->Rat)(N:Nat)(F:Str->Int×Int):Prop where
 nx:∀s∈sp,Nx N (F s)
 b0:∀s∈sp,0<(F s).2
 v:∀s∈sp,vl (F s)=S s
inductive IspBrought(K:W.Frag)(vs:List V)(H:Hp)(Q:VK):Prop
 |mk(ls d e:Addr)(sp:List Str)(rs:List WR)(E:Nat)(ps:List (Str×Rat))(kvs:List (Key×V))(ks:List Str)(f:Str->Int×Int)(h1:vs=[.ref ls,.ref d,.ref e])(h2:SqL K H ls (sp.map V.str))(h3:sp.Nodup)(h4:sp.length<=12)(h5:RowsAt H d rs)(h6:RsG sp rs)(h7:NsOk E ps (rs.map WR.d))(h8:d≠e)(h9:H e=some (.dK kvs))(h10:Tab DueIs H kvs ks f)(h11:ks.Nodup)(h12:(∀n∈ks,n∈rs.map (·.nm)))(h13:(∀n,Nx 3000 (f n)/\0<(f n).2))(h14:∀r H' kvr F,H r=none->Same H H'->H' r=some (.dK kvr)->Tab DueIs H' kvr sp F->BrO sp (bK (bM ks λn=>vl (f n)) (rs.map WR.d)) 40000 F->Q (.ref r) H'):IspBrought K vs H Q
noncomputable def spBrought(K:W.Frag):Sp:=λvs H Q _=>IspBrought K vs H Q
theorem ok_law_brought(T:TX K mg a):FnB P w K mg base CX0 "_law_brought" 3 ["_law_spots","_law_ways_here","_law_due_here"] (spBrought K):=by
 refine T.d_law_brought.okA sc_law_brought λf bl A a4 s H vs Q E hr h=>?_;obtain⟨ls,d,e,sp,rs,E',ps,kvs,ks,f,rfl,hS,a1,bj,hR,G,O,bb,he,tb,ac,am,hf,k⟩:=h
 refine⟨_,(aD (aH (i:=3) sc_law_brought.nd cU)
  (aX (bO lH rfl (bZ (pv 0)) (aR (i:=4) sc_law_brought.nd) (aF (cI (bI hr) (pv 3) (pv 4) (bP (aA aC (aA aC aB))) rfl)))
  (aD (fw (bO lH rfl (iR (pv 2)) (aR (i:=5) sc_law_brought.nd) (aD (aH (i:=6) sc_law_brought.nd (cE (bI hr) (pv 1) (pv 5) (λ_ _=>rfl)))
  (aD (aH (i:=7) sc_law_brought.nd (cE (bI hr) (pv 2) (pv 5) (λ_ _=>rfl)))
  (aD (cI (bI hr) (pv 3) (aK aQ (pv 6) aC) (aO (dO T) hr aJ (aA (cE (bI hr) (pv 3) (aK aQ (pv 6) aC) (λ_ _=>rfl)) (aA (bP (aA (aM eC aC (aK aQ (pv 7) aC)) (aA (aK aQ (pv 7) aC) aB))) aB))) rfl)
  (aF (cI (bI hr) (pv 3) (aK aQ (pv 6) aC) (aO (dO T) hr aJ (aA (cE (bI hr) (pv 3) (aK aQ (pv 6) aC) (λ_ _=>rfl)) (aA (aO (eM T) hr aJ (aA (pv 7) (aA (aK aQ (pv 6) aC) aB))) aB))) rfl)))))))
  (aF (aP (pv 3)))))),?_⟩
 walk_at"q"
 intro r nr;obtain⟨H1,zq,s1,h1⟩:=uG (o:=.dK []) nr;rw[zq];refine dA (λσ' H'=>yE2 λU l=>σ'=[some (.ref ls),some (.ref d),some (.ref e),some (.ref r),U,none,none,none]×' Same H H'×' H' r=some (.dK l)×' Tab DueIs H' l sp (λ_=>(0,1))) ?_ ?_
 ·refine⟨_,rfl,ls,rfl,⟨_,s1.seq hS⟩,cG (K:=K) (a:=ls) (xs:=sp.map V.str) (λi σ H2=>i<=sp.length/\yE2 λU l=>σ=[some (.ref ls),some (.ref d),some (.ref e),some (.ref r),U,none,none,none]×' Same H H2×' H2 r=some (.dK l)×' Tab DueIs H2 l (sp.take i) (λ_=>(0,1))) ⟨lD _,_,[],rfl,s1,h1,by rw[nS];exact Tab.nil⟩ ((by rintro i σ H2 _⟨_,_,_,_,s2,_⟩;exact s2.seq hS)) ?_ ?_⟩
  ·rintro i v σ H2 hv⟨_,U,l,rfl,s2,L,p⟩;rw[lg]at hv;obtain⟨y,ey,rfl⟩:=n7.mp hv;have hi:=(kY.mp ey).1;refine⟨zL2,λu nu=>?_⟩;obtain⟨I,zq,s3,h3⟩:=uG (o:=.tup [.int 0,.int 1]) nu;rw[zq];have lk:l.length<=900:=by rw[p.len,lI];lia
   refine⟨_,rfl,_,rfl,r,_,rfl,DPut.k (k:=Sum.inr y) (s3 _ _ L) (aT (by lia)),?_⟩;have kp:KeepD I (upd I r (.dK (cK l (Sum.inr y) (.ref u)))):=KeepD.put (s3 _ _ L);have au:=Tab.put (n:=y) (p.mono λv x z=>(z.mono s3).keep kp) (DueIs.keep (c:=(0,1)) ⟨u,rfl,h3⟩ kp);obtain⟨tk,ak⟩:=eY a1 ey;rw[gZ ak,<-tk]at au;exact⟨hi,_,_,rfl,aY nr (s2.trans s3),aE,au.congr λn _=>by unfold upf;split<;>rfl⟩
  ·rintro σ H2⟨_,U,l,rfl,s2,L,p⟩;rw[kX,lA]at p;exact⟨U,l,rfl,s2,L,p⟩
 rintro zU bg σ' H2⟨U,l,rfl,s2,L,p⟩;have al:=s2 _ _ he;have ad:e≠r:=aN he nr;subst bg;refine⟨e,.dK kvs,al,(by intro o z q;cases q),_,rfl,e,kvs,rfl,al,λo=>?_⟩
 refine jv (a:=e) (o:=o) (kvs:=kvs) (λi σ I=>i<=ks.length/\yE6 λU z5 z6 z7 l F=>σ=[some (.ref ls),some (.ref d),some (.ref e),some (.ref r),U,z5,z6,z7]×' I e=some (.frz o (.dK kvs))×'(∀b S,H b=some S->b≠e->I b=some S)×' I r=some (.dK l)×' Tab DueIs I l sp F×' BrO sp (bK (bM (ks.take i) λn=>vl (f n)) (rs.map WR.d)) (3030*i) F)
  ⟨lD _,_,_,_,_,l,λ_=>(0,1),rfl,aE,(λb S q ne=>by rw[aG ne];exact s2 _ _ q),by rw[aG ad.symm];exact L,p.mono ((by rintro v x⟨t,z,g⟩;exact⟨t,z,by rw[aG (bB g al (by intro z;cases z))];exact g⟩)),⟨λs _=>⟨lD _,k5 _⟩,λs _=>by decide,λs _=>?_⟩⟩ ((by rintro i σ I _⟨_,_,_,_,_,_,_,_,h,_⟩;exact h)) ?_ ?_
 ·rw[sumF_zero O λn=>by rw[nS];rfl];rfl
 ·rintro i kv σ I a3⟨_,U,z5,z6,z7,l,F,rfl,ab,k3,J,p,B⟩;obtain⟨n,en,e1,ev,t,et,ht⟩:=tb.at_ ac a3;have hi:i<ks.length:=(kY.mp en).1;have gn:=am n (kZ en);have be:kV kv.1=.str n:=by rw[e1];rfl
  rw[be];rw[et]at ev;obtain⟨j,hw,rfl⟩:=k8.mp gn;have a9:j.d∈rs.map WR.d:=k8.mpr ⟨j,hw,rfl⟩
  have ba:ks.length<=12:=by
   have:=dS ac (ys:=rs.map (·.nm)) am
   rw[kX]at this
   have:=G.len
   lia
  obtain⟨D,_⟩:=G.all j hw;have a5:=D.ne;have bm:l.length<=900:=by rw[p.len];lia
  have aj:=k3 _ _ ht (bB ht he (by intro z;cases z));obtain⟨v,gv,p1,gy,rfl,y1,y2⟩:=(hR.but he bb k3).get G.nd hw;refine⟨_,rfl,_,rfl,d,_,rfl,gv,?_⟩;refine⟨_,rfl,_,rfl,e,.ref t,rfl,.inl ⟨kvs,Sum.inr j.nm,.inr ⟨o,ab⟩,rfl,ev.symm⟩,?_⟩;have S1:=SqT.of (K:=K) y1;have S2:=SqT.of (K:=K) aj;obtain⟨v1,bf,t1,rfl,a6⟩:=p.vals j.st D.i1;refine⟨_,rfl,_,rfl,p1,_,_,_,rfl,rfl,S1,rfl,r,.ref t1,rfl,.inl ⟨l,Sum.inr j.st,.inl J,rfl,bf.symm⟩,_,rfl,t,_,_,_,rfl,rfl,S2,rfl,_,_,rfl,rfl,_,rfl,t,_,_,_,rfl,rfl,S2,rfl,zL2,λu nu=>?_⟩;obtain⟨H4,zq,s4,hu⟩:=uG (o:=.tup [.int (0-(f j.nm).1),.int (f j.nm).2]) nu;rw[zq];obtain⟨fn,fb⟩:=hf j.nm;have ng:Nx 3000 (0-(f j.nm).1,(f j.nm).2):=⟨by show(0-(f j.nm).1).natAbs<=_;rw[Int.zero_sub,Int.natAbs_neg];exact fn.t,fn.b⟩;refine⟨t1,u,F j.st,(0-(f j.nm).1,(f j.nm).2),3030*i,3000,rfl,s4 _ _ a6,hu,B.nx _ D.i1,ng,by lia,λZ ar=>?_⟩;generalize ai:plP (F j.st) (0-(f j.nm).1,(f j.nm).2)=q1 at ar⊢;obtain⟨H5,zq,s5,h5⟩:=uG (o:=.tup [.int q1.1,.int q1.2]) ar;rw[zq];have X:=s4.trans s5;refine⟨_,rfl,_,rfl,p1,_,_,_,rfl,rfl,SqT.of (X _ _ y1),rfl,r,_,rfl,DPut.k (k:=Sum.inr j.st) (X _ _ J) (aT (by lia)),?_⟩;have ag:KeepD H5 (upd H5 r (.dK (cK l (Sum.inr j.st) (.ref Z)))):=KeepD.put (X _ _ J);have M:=Tab.put (n:=j.st) (p.mono λv x z=>(z.mono X).keep ag) (DueIs.keep (c:=q1) ⟨Z,rfl,h5⟩ ag);rw[show addK sp j.st=sp from if_pos D.i1]at M;have k6:∀{b:Addr}{S:HO},I b=some S->b≠r->upd H5 r (.dK (cK l (Sum.inr j.st) (.ref Z))) b=some S:=λz ne=>by rw[aG ne];exact X _ _ z
  have aa:upd H5 r (.dK (cK l (Sum.inr j.st) (.ref Z))) r=some (.dK (cK l (Sum.inr j.st) (.ref Z))):=aE;have ae:∀{b:Addr}{xs:List V},I b=some (.tup xs)->b≠r:=λz=>bB z J (by intro q;cases q);have af:=k6 y1 (ae y1);have ap:=k6 y2 (ae y2);have az:=k6 aj (ae aj);have ay:=k6 ab ad;have aw:∀b S,H b=some S->b≠e->upd H5 r (.dK (cK l (Sum.inr j.st) (.ref Z))) b=some S:=λb S z ne=>k6 (k3 _ _ z ne) (aN z nr);generalize upd H5 r (.dK (cK l (Sum.inr j.st) (.ref Z)))=H6 at M aa af ap az ay aw⊢;generalize cK l (Sum.inr j.st) (.ref Z)=Y at M aa⊢;have bh:Y.length<=900:=by rw[M.len];lia
  obtain⟨v2,bc,t2,rfl,ao⟩:=M.vals j.go D.i2;have a8:upf F j.st q1 j.go=F j.go:=jd a5.symm;rw[a8]at ao;refine⟨_,rfl,_,rfl,p1,_,_,_,rfl,rfl,SqT.of af,rfl,r,.ref t2,rfl,.inl ⟨Y,Sum.inr j.go,.inl aa,rfl,bc.symm⟩,_,rfl,_,rfl,p1,_,_,_,rfl,rfl,SqT.of af,rfl,?_⟩;have a2:Nx 12 (j.t,j.b):=⟨eP D.gb.t0 D.gb.t1,eP D.gb.b0 D.gb.b1⟩;refine⟨t,gy,f j.nm,(j.t,j.b),3000,12,rfl,az,ap,fn,a2,by lia,λu2 ax=>?_⟩;generalize ah:tmP (f j.nm) (j.t,j.b)=R at ax⊢;obtain⟨H7,zq,s7,h7⟩:=uG (o:=.tup [.int R.1,.int R.2]) ax;rw[zq];have av:Nx 3012 R:=by rw[<-ah];exact fn.times a2
  refine⟨t2,u2,F j.go,R,3030*i,3012,rfl,s7 _ _ ao,h7,B.nx _ D.i2,av,by lia,λe3 a0=>?_⟩;generalize an:plP (F j.go) R=q3 at a0⊢;obtain⟨H8,zq,s8,h8⟩:=uG (o:=.tup [.int q3.1,.int q3.2]) a0;rw[zq];have N:=s7.trans s8;refine⟨_,rfl,_,rfl,p1,_,_,_,rfl,rfl,SqT.of (N _ _ af),rfl,r,_,rfl,DPut.k (k:=Sum.inr j.go) (N _ _ aa) (aT (by lia)),?_⟩;have as:KeepD H8 (upd H8 r (.dK (cK Y (Sum.inr j.go) (.ref e3)))):=KeepD.put (N _ _ aa);have aq:=Tab.put (n:=j.go) (M.mono λv x z=>(z.mono N).keep as) (DueIs.keep (c:=q3) ⟨e3,rfl,h8⟩ as);rw[show addK sp j.go=sp from if_pos D.i2]at aq
  have eA:(bM (ks.take (i+1)) λn=>vl (f n))=λm=>if m=j.d.nm then(bM (ks.take i) λn=>vl (f n)) m+vl (f j.nm) else(bM (ks.take i) λn=>vl (f n)) m:=funext λm=>by
   obtain⟨tk,ak⟩:=eY ac en;rw[WR.d_nm,tk];unfold bM;by_cases c:m=j.nm
   ·rw[if_pos c,c,if_pos (by simp),if_neg ak];grind
   ·rw[if_neg c];by_cases c2:m∈ks.take i
    ·rw[if_pos c2,if_pos (lJ _ c2)]
    ·rw[if_neg c2,if_neg λz=>(lB.mp z).elim c2 λq=>c (lv.mp q)]
  have bq:0<R.2:=by rw[<-ah];exact mQ fb (by have:=D.gb.b0;show 0<j.b;lia)
  have a7:vl R=vl (f j.nm)*aW j.d.kd j.d.x:=by
   rw[<-ah,WR.d_gain D.gb];exact kf (e:=(j.t,j.b)) (Int.ne_of_gt fb) (by have:=D.gb.b0;show j.b≠0;lia)
  refine⟨hi,_,_,_,_,_,_,rfl,by rw[aG ad];exact N _ _ ay,(λb S z ne=>by rw[aG (aN z nr)];exact N _ _ (aw _ _ z ne)),aE,aq,⟨λs hs=>?_,λs hs=>?_,λs hs=>?_⟩⟩
  ·unfold upf
   split
   ·rw[<-an];exact((B.nx _ D.i2).plus av).mono (by lia)
   ·split
    ·rw[<-ai];exact((B.nx _ D.i1).plus ng).mono (by lia)
    ·exact(B.nx s hs).mono (by lia)
  ·unfold upf
   split
   ·rw[<-an];exact mQ (B.b0 _ D.i2) bq
   ·split
    ·rw[<-ai];exact mQ (B.b0 _ D.i1) fb
    ·exact B.b0 s hs
  ·rw[eA,two_conG O a9,WR.d_st,WR.d_go];unfold upf;by_cases c1:s=j.go
   ·rw[if_pos c1,if_pos c1,<-an,iJ (Int.ne_of_gt (B.b0 _ D.i2)) (Int.ne_of_gt bq),B.v _ D.i2,a7]
   ·rw[if_neg c1,if_neg c1];by_cases c2:s=j.st
    ·rw[if_pos c2,if_pos c2,<-ai,iJ (e:=(0-(f j.nm).1,(f j.nm).2)) (Int.ne_of_gt (B.b0 _ D.i1)) (Int.ne_of_gt fb),B.v _ D.i1]
     congr 1
     exact neg_div _ _
    ·rw[if_neg c2,if_neg c2];exact B.v s hs
 ·rintro σ I⟨_,U,z5,z6,z7,l,F,rfl,ab,k3,J,p,B⟩;rw[tb.len,lA]at B
  have ba:ks.length<=12:=by
   have:=dS ac (ys:=rs.map (·.nm)) am
   rw[kX]at this
   have:=G.len
   lia
  have sf:Same H (upd I e (.dK kvs)):=λb S q=>by
   by_cases hb:b=e
   ·subst hb;rw[aE,<-he,q]
   ·rw[aG hb];exact k3 _ _ q hb
  exact⟨o,ab,_,rfl,k r _ l F nr sf (by rw[aG ad.symm];exact J) (p.mono (by rintro v x⟨t,z,g⟩;exact⟨t,z,by rw[aG (bB g ab (by intro z;cases z))];exact g⟩)) ⟨λs hs=>(B.nx s hs).mono (by lia),B.b0,B.v⟩⟩
noncomputable def spWhole:Sp:=λvs H Q _=>∃i:Int,vs=[.int i]/\Q (.bl true) H
theorem kG(T:TX K mg a):FnB P w K mg base CX0 "_law_whole" 1 ["_law_found"] spWhole:=by
 refine T.d_law_whole.okA sc_law_whole (λf j A b s H e Q E l h=>?_) (λe H Q E h=>?_)
 rotate_left
 ·obtain⟨i,rfl,_⟩:=h;rfl
 ·obtain⟨i,rfl,k⟩:=h;refine⟨_,(aF (aP (jn (bV (kW (c:=.type "int")) (by rfl) T.z_isinstance PyProof.Rows.boot_isinstance (aA (pv 0) (aA (pe_bltn (v:=.ty "int") (by rfl) T.z_int PyProof.Rows.boot_int rfl) aB))) (j3 (pe_not (bV (kW (c:=.type "bool")) (by rfl) T.z_isinstance PyProof.Rows.boot_isinstance (aA (pv 0) (aA (pe_bltn (v:=.ty "bool") (by rfl) T.z_bool PyProof.Rows.boot_bool rfl) aB)))))))),?_⟩;walk_at"q"
  refine⟨_,rfl,_,_,_,_,rfl,(λu h=>h),TyOf.int i,T.k_int_int,_,rfl,?_⟩;refine iteT ?_;refine⟨_,rfl,_,_,_,_,rfl,(λu h=>h),TyOf.int i,T.k_int_bool,_,rfl,?_⟩;exact k
inductive IspTold39(a:Ad)(vs:List V)(H:Hp)(Q:VK):Prop
 |mk(p:Addr)(x:Rat)(h1:vs=[.ref p])(h2:FrAt a.Fraction H p x)(h3:∀t,H t=none->Q (.ref t) (upd H t (.tup [.int x.num,.int x.den]))):IspTold39 a vs H Q
noncomputable def spTold39(a:Ad):Sp:=λvs H Q _=>IspTold39 a vs H Q
theorem ok_law_told(T:TX K mg a):FnB P w K mg base CX0 "_law_told" 2 ["_law_found"] (spTold39 a):=by
 refine T.d_law_told.okA sc_law_told λf j A b s H m Q E e h=>?_;obtain⟨p,x,rfl,i,k⟩:=h
 refine⟨_,(aD (bJ (PW.pt (pw_or (fM (eo (bV (kW (c:=.ref a.Fraction)) (by rfl) T.z_isinstance PyProof.Rows.boot_isinstance (aA (pv 0) (aA (pe_glob (v:=.ref a.Fraction) (by rfl) T.mg_Fraction rfl) aB))))) (pw_or (fM (eo (aO (kG T) e aJ (aA (dY T.fr (pv 0)) aB)))) (pw_or1 (fM (eo (aO (kG T) e aJ (aA (dZ T.fr (pv 0)) aB)))))))) (aF (aP (bP (aA aC (aA aC aB))))) aV)
  (aF (aP (bP (aA (dY T.fr (pv 0)) (aA (dZ T.fr (pv 0)) aB)))))),?_⟩
 walk_at"q"
 refine⟨_,rfl,_,_,_,_,rfl,(λu h=>h),FrAt.ty T.fr i,T.k_Fraction_Fraction,_,rfl,iteF ?_⟩;walk_at"rd"
 exact⟨zL2,λt l=>k t l⟩
inductive IspAsPlan(a:Ad)(vs:List V)(H:Hp)(Q:VK):Prop
 |mk(e:Addr)(kvs:List (Key×V))(ks:List Str)(f:Str->Int×Int)(h1:vs=[.ref e])(h2:H e=some (.dK kvs))(h3:Tab DueIs H kvs ks f)(h4:ks.Nodup)(h5:ks.length<=100)(h6:(∀n,Nx 3000 (f n)/\(f n).2≠0))(h7:∀r H' kvp,H r=none->Same H H'->H' r=some (.dK kvp)->Tab (FrIs a) H' kvp ks (λn=>vl (f n))->Q (.ref r) H'):IspAsPlan a vs H Q
noncomputable def spAsPlan(a:Ad):Sp:=λvs H Q _=>IspAsPlan a vs H Q
theorem ok_law_as_plan(T:TX K mg a):FnB P w K mg base CX0 "_law_as_plan" 5 ["_law_due_here"] (spAsPlan a):=by
 refine T.d_law_as_plan.okA sc_law_as_plan λf aa A U s H vs Q E R h=>?_;obtain⟨e,kvs,ks,f,rfl,M,tb,D,ab,hf,k⟩:=h
 refine⟨_,(aD (aH (i:=1) sc_law_as_plan.nd cU)
  (aD (fw (bO lH rfl (iR (pv 0)) (aR (i:=2) sc_law_as_plan.nd) (aF (cI (bI R) (pv 1) (pv 2) (cJ (mk2 T) R T.mg_Fraction aJ (aA (aK aQ (cE (bI R) (pv 0) (pv 2) (λ_ _=>rfl)) aC) (aA (aK aQ (cE (bI R) (pv 0) (pv 2) (λ_ _=>rfl)) aC) aB))) rfl))))
  (aF (aP (pv 1))))),?_⟩
 walk_at"q"
 intro r O;obtain⟨H1,zq,X,h1⟩:=uG (o:=.dK []) O;rw[zq];have B:=X _ _ M;have y :=aN M O;refine⟨e,.dK kvs,B,(by intro o z q;cases q),_,rfl,e,kvs,rfl,B,λo=>?_⟩
 refine jv (λi σ m=>i<=ks.length/\yE2 λz2 c=>σ=[some (.ref e),some (.ref r),z2]×' m e=some (.frz o (.dK kvs))×'(∀b I,H b=some I->b≠e->m b=some I)×' m r=some (.dK c)×' Tab (FrIs a) m c (ks.take i) (λn=>vl (f n)))
  ⟨lD _,_,[],rfl,aE,(λb I q ne=>by rw[aG ne];exact X _ _ q),by rw[aG y.symm];exact h1,by rw[nS];exact Tab.nil⟩ ((by rintro i σ m _⟨_,_,_,_,h,_⟩;exact h)) ?_ ?_
 ·rintro i kv σ m S⟨_,z2,c,rfl,j,N,l,L⟩;obtain⟨p,J,e1,ev,t,et,ht⟩:=tb.at_ D S;have hi:=(kY.mp J).1;obtain⟨fn,fb⟩:=hf p;have Z:kV kv.1=.str p:=by rw[e1];rfl
  rw[Z];rw[et]at ev;have F:=N _ _ ht (bB ht M (by intro z;cases z));refine⟨_,rfl,_,rfl,e,.ref t,rfl,.inl ⟨kvs,Sum.inr p,.inr ⟨o,j⟩,rfl,ev.symm⟩,t,_,_,_,rfl,rfl,SqT.of F,rfl,?_⟩;refine⟨_,rfl,_,rfl,e,.ref t,rfl,.inl ⟨kvs,Sum.inr p,.inr ⟨o,j⟩,rfl,ev.symm⟩,t,_,_,_,rfl,rfl,SqT.of F,rfl,_,_,rfl,fb,Sm.of_le fn.b (by decide),λq H3 nq G f3=>?_⟩;obtain⟨tk,Y⟩:=eY D J;refine⟨_,rfl,_,rfl,r,_,rfl,DPut.k (k:=Sum.inr p) (G _ _ l) (aT (by rw[L.len,lI];lia)),?_⟩;have kp:KeepD H3 (upd H3 r (.dK (cK c (Sum.inr p) (.ref q)))):=KeepD.put (G _ _ l);have tq:=Tab.put (n:=p) (L.mono λv x z=>(z.mono G).keep kp) (FrIs.keep (x:=vl (f p)) ⟨q,rfl,f3⟩ kp);rw[gZ Y,<-tk]at tq;refine⟨hi,_,_,rfl,by rw[aG y];exact G _ _ j,(λb I z ne=>by rw[aG (aN z O)];exact G _ _ (N _ _ z ne)),aE,tq.congr λn _=>?_⟩;unfold upf
  split
  ·rename_i h;rw[h]
  ·rfl
 ·rintro σ m⟨_,z2,c,rfl,j,N,l,L⟩;rw[tb.len,lA]at L
  have sf:Same H (upd m e (.dK kvs)):=λb I q=>by
   by_cases hb:b=e
   ·subst hb;rw[aE,<-M,q]
   ·rw[aG hb];exact N _ _ q hb
  exact⟨o,j,_,rfl,k r _ c O sf (by rw[aG y.symm];exact l) (L.mono λv x z=>z.keep (.frz j))⟩
theorem rows_of{rs:List WR}:∀{l:List WD},(∀x∈l,x∈rs.map WR.d)->∃ws:List WR,l=ws.map WR.d/\∀r∈ws,r∈rs
 |[],_=>⟨[],rfl,λr e=>by cases e⟩
 |d::l,h=>by
  obtain⟨ws,b,c⟩:=rows_of (l:=l) λx a=>h x (lF _ a);obtain⟨y,i,rfl⟩:=k8.mp (h d (lO ..));exact⟨y::ws,by rw[b];rfl,λx a=>(lN.mp a).elim (λz=>by rw[z];exact i) (c x)⟩
theorem PthW.app:∀{l m:List WD}{p q r:Str},PthW p l q->PthW q m r->PthW p (l++m) r
 |[],_,_,_,_,h,k=>by rw[show _=_ from h];exact k
 |_::_,_,_,_,_,h,k=>⟨h.1,PthW.app h.2 k⟩
theorem d_nms(ws:List WR):(ws.map WR.d).map (·.nm)=ws.map (·.nm):=by rw[mz];exact List.map_congr_left λr _=>WR.d_nm r
noncomputable def bOf(s:SD):Option Str:=if s.rg=[]then(s.pa++s.tl).head?.map (·.st)else none
noncomputable def eOf(s:SD):Option Str:=if s.tl=[]/\(s.rg=[]∨aL s.rg≠1)then(s.rg++s.pa).getLast?.map (·.go)else none
noncomputable def inOf(s:SD)(x:Str):Rat:=if bOf s=some x then s.am else 0
noncomputable def outOf(s:SD)(x:Str):Rat:=if eOf s=some x then s.am*aL s.pa else 0
theorem pth_head(h:PthW p l q)(n:l≠[]):l.head?.map (·.st)=some p:=by
 cases l with
 |nil=>exact absurd rfl n
 |cons x r=>exact mj some h.1
theorem pth_last:∀{l:List WD}{p q:Str},PthW p l q->l≠[]->l.getLast?.map (·.go)=some q
 |[],_,_,_,n=>absurd rfl n
 |[x],_,_,h,_=>mj some h.2
 |x::y::r,_,_,h,_=>by
  rw[List.getLast?_cons_cons];exact pth_last h.2 (List.cons_ne_nil _ _)
theorem add_walk(O:NsOk E ps ns)(pth:PthW p l q)(sub:∀d∈l,d∈ns)(A:Str->Rat)(y:Rat)(x:Str):bK (λn=>A n+sA y l n) ns x=bK A ns x+ij p q y (y*aL l) x:=by
 have h:=jB O.ne O.nd (s:=x) l (λn=>A n+sA y l n) p y pth sub;have e:mns (λn=>A n+sA y l n) l y=A:=funext λn=>by unfold mns;grind
 rw[e,fh]at h;grind
theorem add_ring(O:NsOk E ps ns)(r:RgM ns m p l)(A:Str->Rat)(y:Rat)(x:Str):bK (λn=>A n+enA l y n) ns x=bK A ns x+(if x=p then(if m=true then y else-y)else 0):=by
 have e:(λn=>A n+enA l y n)=λn=>A n+sA (y/df (aL l)) l n:=funext λn=>by
  unfold enA;rw[if_neg r.rg.ne,eZ (y/df (aL l)) l n]
 rw[e,add_walk O r.pt r.rg.sub];have g:=r.gn
 have b:df (aL l)≠0:=by
  have:aL l≠1:=λz=>by rw[z]at g;cases m<;>exact absurd g (by decide+kernel)
  have:=df_ps this
  grind
 have c:=mO (a:=y) b;generalize y/df (aL l)=u at c⊢;unfold ij
 cases m with
 |true=>
  have g:1<aL l:=g;rw[show df (aL l)=aL l-1 from if_pos g]at c;by_cases z:x=p
  ·rw[if_pos z,if_pos z,if_pos z,if_pos rfl];grind
  ·rw[if_neg z,if_neg z,if_neg z];grind
 |false=>
  have g:aL l<1:=g;rw[show df (aL l)=1-aL l from if_neg (by grind)]at c;by_cases z:x=p
  ·rw[if_pos z,if_pos z,if_pos z,if_neg (by decide)];grind
  ·rw[if_neg z,if_neg z,if_neg z];grind
theorem StOk.kinds(h:StOk A0 ps ns s):(s.pa=[]/\s.tl=[]/\RingW ns s.rg/\s.rg.length<=4/\aL s.rg=1)∨∃p q,PthW p s.pa q/\(p::s.pa.map (·.go)).Nodup/\(∀x∈s.pa,x∈ns)/\s.pa.length<=3/\(s.rg=[]/\bK A0 ns p<0∨RgM ns true p s.rg)/\(s.tl=[]/\0<bK A0 ns q∨RgM ns false q s.tl):=by
 rcases h.or with z|⟨p,q,pt,ndp,sub,ln,o1,o2⟩
 ·exact .inl z
 ·exact .inr ⟨p,q,pt,ndp,sub,ln,o1.imp (λz=>⟨z.1,z.2⟩) id,o2.imp (λz=>⟨z.1,z.2⟩) id⟩
theorem StOk.nn(h:StOk A0 ps ns s):¬(s.rg=[]/\s.pa=[]/\s.tl=[]):=λ⟨a,e,c⟩=>by
 rcases h.kinds with⟨_,_,rg,_⟩|⟨p,q,pt,_,_,_,o1,o2⟩
 ·exact rg.ne a
 ·have i:=(o1.resolve_right λz=>z.rg.ne a).2;have b:=(o2.resolve_right λz=>z.rg.ne c).2;rw[e]at pt;rw[<-show p=q from pt]at b;grind
structure Flow(A0:Str->Rat)(ns:List WD)(s:SD):Prop where
 su:∀A x,bK (λn=>A n+sdA s n) ns x=bK A ns x+outOf s x-inOf s x
 b:∀x,bOf s=some x->bK A0 ns x<0
 e:∀x,eOf s=some x->0<bK A0 ns x
theorem StOk.flow(O:NsOk E ps ns)(h:StOk A0 ps ns s):Flow A0 ns s:=by
 rcases h.kinds with⟨i,l,rg,ln,g1⟩|⟨p,q,pt,ndp,sub,ln,o1,o2⟩
 ·have b:bOf s=none:=if_neg rg.ne;have e:eOf s=none:=if_neg (by rintro⟨_,z⟩;exact z.elim rg.ne λz=>z g1);obtain⟨p,a⟩:=rg.rd;refine⟨λA x=>?_,(λx z=>by rw[b]at z;cases z),λx z=>by rw[e]at z;cases z⟩
  have j:(λn=>A n+sdA s n)=λn=>A n+sA s.am s.rg n:=funext λn=>by
   unfold sdA enA;rw[if_pos ⟨rg.ne,g1⟩,i,l,iO,if_pos rfl];grind
  rw[j,add_walk O a rg.sub,g1];unfold outOf inOf ij;have no:¬(none:Option Str)=some x:=by nofun
  rw[b,e,if_neg no,if_neg no];grind
 ·have m:¬(s.rg≠[]/\aL s.rg=1):=λ⟨i,l⟩=>by
   rcases o1 with z|z
   ·exact i z.1
   ·have g:1<aL s.rg:=z.gn;rw[l]at g;exact absurd g (by decide+kernel)
  have pH:PthW p s.rg p:=by
   rcases o1 with z|z
   ·rw[z.1];exact rfl
   ·exact z.pt
  have pT:PthW q s.tl q:=by
   rcases o2 with z|z
   ·rw[z.1];exact rfl
   ·exact z.pt
  have nn:=h.nn
  have b:bOf s=if s.rg=[]then some p else none:=by
   unfold bOf;by_cases z:s.rg=[]
   ·rw[if_pos z,if_pos z];exact pth_head (pt.app pT) λy=>nn ⟨z,List.append_eq_nil_iff.mp y⟩
   ·rw[if_neg z,if_neg z]
  have e:eOf s=if s.tl=[]then some q else none:=by
   unfold eOf;by_cases z:s.tl=[]
   ·rw[if_pos z,if_pos ⟨z,Classical.or_iff_not_imp_left.mpr λy g=>m ⟨y,g⟩⟩];exact pth_last (pH.app pt) λy=>nn ⟨(List.append_eq_nil_iff.mp y).1,(List.append_eq_nil_iff.mp y).2,z⟩
   ·rw[if_neg z,if_neg λy=>z y.1]
  refine⟨λA x=>?_,λx z=>?_,λx z=>?_⟩
  ·have j:(λn=>A n+sdA s n)=λn=>(A n+enA s.rg s.am n+sA s.am s.pa n)+enA s.tl (s.am*aL s.pa) n:=funext λn=>by
    unfold sdA;rw[if_neg m];grind
   have o:bK (λn=>A n+enA s.rg s.am n) ns x=bK A ns x+(if s.rg=[]then 0 else if x=p then s.am else 0):=by
    rcases o1 with z|z
    ·rw[if_pos z.1,show(λn=>A n+enA s.rg s.am n)=A from funext λn=>by unfold enA;rw[if_pos z.1];grind];grind
    ·rw[add_ring O z,if_neg z.rg.ne];rfl
   have t:=add_walk O pt sub (λn=>A n+enA s.rg s.am n) s.am x
   have r:bK (λn=>(A n+enA s.rg s.am n+sA s.am s.pa n)+enA s.tl (s.am*aL s.pa) n) ns x=bK (λn=>A n+enA s.rg s.am n+sA s.am s.pa n) ns x+(if s.tl=[]then 0 else if x=q then-(s.am*aL s.pa) else 0):=by
    rcases o2 with z|z
    ·rw[if_pos z.1,show(λn=>(A n+enA s.rg s.am n+sA s.am s.pa n)+enA s.tl (s.am*aL s.pa) n)=λn=>A n+enA s.rg s.am n+sA s.am s.pa n from funext λn=>by unfold enA;rw[if_pos z.1];grind];grind
    ·rw[add_ring O z,if_neg z.rg.ne,if_neg (show¬false=true by decide)]
   rw[j,r,t,o];unfold outOf inOf ij;rw[b,e];generalize s.am*aL s.pa=y;by_cases c1:s.rg=[]<;>by_cases c2:s.tl=[]<;>by_cases c3:x=p<;>by_cases c4:x=q<;>simp[c1,c2,c3,c4,eq_comm]<;>grind
  ·rw[b]at z;by_cases c:s.rg=[]
   ·rw[if_pos c]at z
    cases z;exact(o1.resolve_right λz=>z.rg.ne c).2
   ·rw[if_neg c]at z
    cases z
  ·rw[e]at z;by_cases c:s.tl=[]
   ·rw[if_pos c]at z
    cases z;exact(o2.resolve_right λz=>z.rg.ne c).2
   ·rw[if_neg c]at z
    cases z
noncomputable def begT(ss:List SD)(x:Str):Rat:=ss.foldl (λr s=>r+inOf s x) 0
noncomputable def endT(ss:List SD)(x:Str):Rat:=ss.foldl (λr s=>r+outOf s x) 0
theorem begT_snoc(ss:List SD)(s:SD)(x:Str):begT (ss++[s]) x=begT ss x+inOf s x:=by unfold begT;rw[m7];rfl
theorem endT_snoc(ss:List SD)(s:SD)(x:Str):endT (ss++[s]) x=endT ss x+outOf s x:=by unfold endT;rw[m7];rfl
theorem flow_all(O:NsOk E ps ns)(x:Str)(ss:List SD):(∀s∈ss,StOk A0 ps ns s)->bK (im ss) ns x=endT ss x-begT ss x/\0<=begT ss x/\0<=endT ss x/\(begT ss x≠0->bK A0 ns x<0)/\(endT ss x≠0->0<bK A0 ns x):=by
 refine dR (P:=λss=>(∀s∈ss,StOk A0 ps ns s)->bK (im ss) ns x=endT ss x-begT ss x/\0<=begT ss x/\0<=endT ss x/\(begT ss x≠0->bK A0 ns x<0)/\(endT ss x≠0->0<bK A0 ns x)) (λ_=>⟨?_,nO,nO,λz=>absurd rfl z,λz=>absurd rfl z⟩) (λa u r h=>?_) ss
 ·rw[sumF_zero O (A:=im []) (λn=>rfl) x];exact Rat.sub_self.symm
 ·obtain⟨o,y,w,l,t⟩:=r λs m=>h s (lJ _ m);have i:=h u (by simp);have F:=i.flow O;have e :=funext λn=>jA a u n
  have gp:0<=u.am*aL u.pa:=by
   refine fF (lT i.am) (lT ?_);rw[show aL u.pa=going 1 u.pa by rw[fh,Rat.one_mul]];refine(ju λd j=>(O.g1 d ?_).1).1;rcases i.kinds with z|⟨_,_,_,_,sub,_⟩
   ·rw[z.1]at j
    cases j
   ·exact sub d j
  have q:0<=inOf u x/\(inOf u x≠0->bK A0 ns x<0):=by
   unfold inOf
   split
   ·exact⟨lT i.am,λ_=>F.b x ‹_›⟩
   ·exact⟨nO,λz=>absurd rfl z⟩
  have p:0<=outOf u x/\(outOf u x≠0->0<bK A0 ns x):=by
   unfold outOf
   split
   ·exact⟨gp,λ_=>F.e x ‹_›⟩
   ·exact⟨nO,λz=>absurd rfl z⟩
  rw[e,F.su,o,begT_snoc,endT_snoc];refine⟨by grind,by grind,by grind,λz=>?_,λz=>?_⟩
  ·by_cases c:begT a x=0
   ·exact q.2 (by grind)
   ·exact l c
  ·by_cases c:endT a x=0
   ·exact p.2 (by grind)
   ·exact t c
theorem ApD.flow(O:NsOk E ps ns)(h:ApD A0 ps ns ss)(x:Str):begT ss x=(if 0< -bK A0 ns x then-bK A0 ns x else 0)/\endT ss x=if 0<bK A0 ns x then bK A0 ns x else 0:=by
 obtain⟨a,b,e,i,c⟩:=flow_all O x ss h.each;rw[<-show A0=im ss from funext h.am]at a;have l:begT ss x=0∨begT ss x≠0:=Classical.em _;constructor
 ·split<;>grind
 ·split<;>grind
theorem vl_cross(hx:x.2≠0)(hy:y.2≠0)(h:vl x=vl y):x.1*y.2=y.1*x.2:=(nQ hx hy).mp h
theorem vl_pos(h:0<c.2):0<vl c↔0<c.1:=by
 rw[show(0:Rat)=Rat.divInt 0 1 from rfl];unfold vl;rw[lt_div (by decide) h]
 lia
theorem vl_negp(c:Int×Int):vl (0-c.1,c.2)=-vl c:=neg_div c.1 c.2
inductive IspSame(vs:List V)(H:Hp)(Q:VK):Prop
 |mk(p q:Addr)(c e:Int×Int)(x y:Nat)(h1:vs=[.ref p,.ref q])(h2:H p=some (.tup [.int c.1,.int c.2]))(h3:H q=some (.tup [.int e.1,.int e.2]))(h4:Nx x c)(h5:Nx y e)(h6:x+y<=1000000)(h7:0<c.2)(h8:0<e.2)(h9:vl c=vl e)(h10:Q (.bl true) H):IspSame vs H Q
noncomputable def spSame:Sp:=λvs H Q _=>IspSame vs H Q
theorem jp(T:TX K mg a):FnB P w K mg base CX0 "_law_same" 1 ["_law_one","_law_other"] spSame:=by
 refine T.d_law_same.okA sc_law_same λf z A i s H B Q E F h=>?_;obtain⟨p,q,c,e,x,y,rfl,l,j,o,m,r,G,D,v,k⟩:=h;refine⟨_,(aF (aP (eQ e7 (aM fA (aK aQ (pv 0) aC) (aK aQ (pv 1) aC)) (aM fA (aK aQ (pv 1) aC) (aK aQ (pv 0) aC))))),?_⟩;walk_at"q"
 refine⟨_,rfl,p,_,_,_,rfl,rfl,SqT.of l,rfl,_,rfl,q,_,_,_,rfl,rfl,SqT.of j,rfl,_,_,rfl,rfl,gX o.t m.b r,?_⟩;refine⟨_,rfl,q,_,_,_,rfl,rfl,SqT.of j,rfl,_,rfl,p,_,_,_,rfl,rfl,SqT.of l,rfl,_,_,rfl,rfl,gX m.t o.b (by lia),rfl,?_⟩;rw[lQ (mj V.int (vl_cross (by lia) (by lia) v))];exact k
inductive IspAbove(vs:List V)(H:Hp)(Q:VK):Prop
 |mk(p:Addr)(c:Int×Int)(x:Nat)(h1:vs=[.ref p])(h2:H p=some (.tup [.int c.1,.int c.2]))(h3:Nx x c)(h4:0<c.2)(h5:∀r H' e,Same H H'->H' r=some (.tup [.int e.1,.int e.2])->Nx x e->0<e.2->vl e=(if 0<vl c then vl c else 0)->Q (.ref r) H'):IspAbove vs H Q
noncomputable def spAbove:Sp:=λvs H Q _=>IspAbove vs H Q
theorem kJ(T:TX K mg a):FnB P w K mg base CX0 "_law_above" 1 ["_law_pair"] spAbove:=by
 refine T.d_law_above.okA sc_law_above λf m A e s H q Q E t h=>?_;obtain⟨p,c,x,rfl,j,l,i,k⟩:=h
 refine⟨_,(aD (bJ (aS op_gt (aK aQ (pv 0) aC) aC) (aF (aP (pv 0))) aV)
  (aF (aP (bP (aA aC (aA aC aB)))))),?_⟩
 walk_at"q"
 refine⟨_,rfl,p,_,_,_,rfl,rfl,SqT.of j,rfl,?_⟩;walk_at"rd"
 refine ifB (λb=>?_) (λb=>?_)
 ·exact⟨_,rfl,k p H c (Same.refl _) j l i (by rw[if_pos ((vl_pos i).mpr b)])⟩
 ·exact⟨by decide,λr o=>k r _ (0,1) (aU o) aE ⟨lD _,Nat.one_le_two_pow⟩ (by decide) (by rw[if_neg λz=>b ((vl_pos i).mp z)];rfl)⟩
structure Acc(H:Hp)(q:Addr)(ns:List Str)(f:Str->Int×Int)(N m:Nat)(g:Str->Rat):Prop where
 du:DueAt H q ns f
 ln:ns.length<=m
 nx:∀n,Nx N (f n)
 b0:∀n,0<(f n).2
 v:∀n,vl (f n)=g n
theorem Acc.mono(h:Acc H q ns f N m g)(s:Same H H'):Acc H' q ns f N m g:=⟨h.du.mono s,h.ln,h.nx,h.b0,h.v⟩
theorem Acc.le(h:Acc H q ns f N m g)(l:N<=N')(l':m<=m')(e:∀n,g n=g' n):Acc H q ns f N' m' g':=⟨h.du,lC h.ln l',λn=>(h.nx n).mono l,h.b0,λn=>(h.v n).trans (e n)⟩
theorem Acc.new(h:H q=some (.dK [])):Acc H q [] (λ_=>(0,1)) 0 0 λ_=>0:=⟨⟨⟨[],h,Tab.nil⟩,λ_ _=>rfl⟩,k5 _,λ_=>⟨lD _,k5 _⟩,λ_=>by decide,λ_=>rfl⟩
theorem DueAt.val(h:DueAt H q ns f)(hq:H q=some (.dK kve))(h0:H e0=some (.tup [.int 0,.int 1]))(n:Str):DueIs H ((cV kve (Sum.inr n)).getD (.ref e0)) (f n):=by
 obtain⟨⟨a,e,tb⟩,no⟩:=h;rw[hq]at e
 cases e;by_cases hn:n∈cC ns
 ·obtain⟨v,ev,z⟩:=tb.vals _ hn;rw[ev];exact z
 ·rw[tb.none hn,no _ λz=>hn (mem_keysOf.mpr z)];exact⟨e0,rfl,h0⟩
theorem Acc.kvl(h:Acc H q ns f N m g):∃kve,H q=some (.dK kve)/\kve.length<=m:=by
 obtain⟨⟨a,e,tb⟩,_⟩:=h.du;refine⟨a,e,?_⟩;rw[tb.len]
 have:=dQ ns
 have:=h.ln
 lia
theorem Acc.bump(h:Acc H q ns f N m g)(hq:H q=some (.dK kve))(h2:H e2=some (.tup [.int (plP (f n) c).1,.int (plP (f n) c).2]))(hc:Nx M c)(c0:0<c.2):Acc (upd H q (.dK (cK kve (Sum.inr n) (.ref e2)))) q (ns++[n]) (upf f n (plP (f n) c)) (N+M+1) (m+1) λx=>g x+if some n=some x then vl c else 0:=by
 obtain⟨⟨⟨l,e,tb⟩,no⟩,j,nx,b,v⟩:=h;rw[hq]at e
 cases e;have kp:KeepD H (upd H q (.dK (cK kve (Sum.inr n) (.ref e2)))):=KeepD.put hq;have i:=Tab.put (n:=n) (tb.mono λv x z=>z.keep kp) (DueIs.keep ⟨e2,rfl,h2⟩ kp);refine⟨⟨⟨_,aE,by rw[gj];exact i⟩,λx a=>?_⟩,by rw[lG,l9];lia,λx=>?_,λx=>?_,λx=>?_⟩
 ·rw[lB,not_or]at a;rw[jd λz=>a.2 (by rw[z];simp)];exact no x a.1
 ·unfold upf
  split
  ·exact(nx n).plus hc
  ·exact(nx x).mono (by lia)
 ·unfold upf
  split
  ·exact mQ (b n) c0
  ·exact b x
 ·unfold upf;by_cases z:x=n
  ·rw[if_pos z,z,if_pos rfl,iJ (by have:=b n;lia) (by lia),v n]
  ·rw[if_neg z,if_neg λy=>z (lY y).symm,v x,mU]
theorem Acc.off(h:Acc H q ns f N m g)(hq:H q'=some (.dK kv))(ne:q≠q'):Acc (upd H q' (.dK kv')) q ns f N m g:=by
 obtain⟨⟨⟨kv,e,tb⟩,no⟩,a,nx,b,v⟩:=h;exact⟨⟨⟨kv,by rw[aG ne];exact e,tb.mono λv x z=>z.keep (.put hq)⟩,no⟩,a,nx,b,v⟩
theorem fnd8(R:RsG sp rs)(h:StOk A0 ps (rs.map WR.d) s):∃hd pa ta:List WR,s.rg=hd.map WR.d/\s.pa=pa.map WR.d/\s.tl=ta.map WR.d/\(∀r∈hd++pa++ta,r∈rs/\GB r.t r.b)/\hd.length<=4/\pa.length<=4/\ta.length<=4:=by
 have B:(∀x∈s.rg,x∈rs.map WR.d)×'(∀x∈s.pa,x∈rs.map WR.d)×'(∀x∈s.tl,x∈rs.map WR.d)×' s.rg.length<=4×' s.pa.length<=4×' s.tl.length<=4:=by
  rcases h.kinds with⟨z1,z2,rg,ln,_⟩|⟨p,q,_,_,sub,ln,o1,o2⟩
  ·rw[z1,z2];exact⟨rg.sub,(λx a=>by cases a),(λx a=>by cases a),ln,by decide,by decide⟩
  ·refine⟨λx a=>?_,sub,λx a=>?_,?_,by lia,?_⟩
   ·rcases o1 with z|z
    ·rw[z.1]at a;cases a
    ·exact z.rg.sub x a
   ·rcases o2 with z|z
    ·rw[z.1]at a;cases a
    ·exact z.rg.sub x a
   ·rcases o1 with z|z
    ·rw[z.1];decide
    ·exact z.ln
   ·rcases o2 with z|z
    ·rw[z.1];decide
    ·exact z.ln
 obtain⟨m,w,t,j,l,c⟩:=B;obtain⟨hd,b,D⟩:=rows_of m;obtain⟨pa,i,o⟩:=rows_of w;obtain⟨ta,e,y⟩:=rows_of t;rw[b,kX]at j;rw[i,kX]at l;rw[e,kX]at c;refine⟨hd,pa,ta,b,i,e,λr A=>?_,j,l,c⟩
 have:r∈rs:=by
  rcases lB.mp A with z|z
  ·exact(lB.mp z).elim (D r) (o r)
  ·exact y r z
 exact⟨this,(R.all r this).1.gb⟩
theorem gp_nx(h:∀r∈ws,GB r.t r.b)(l:ws.length<=4):Nx 160 (gp ws):=by
 have b:=gp_bd (λr a=>(h r a).all) ws.length (k5 _);rw[lA]at b;exact⟨lC b.t1 (l7 (by decide) (by lia)),lC b.b1 (l7 (by decide) (by lia))⟩
theorem StOk.bd(h:StOk A0 ps ns s):Bd 6370 s.am:=by
 obtain⟨D,a,b,g,l⟩:=h.gq;exact g.bd (lT h.am) l a b
theorem nmV_d(ws:List WR):nmV (ws.map WR.d)=ws.map λr=>V.str r.nm:=by unfold nmV;rw[mz];exact List.map_congr_left λr _=>mj V.str (WR.d_nm r)
theorem StIs.same(h:StIs a X H v s)(k:Same H H'):StIs a X H' v s:=by
 obtain⟨u,e,o,l,q,z,w,j,b,i,r,p,c,m,t⟩:=h;exact⟨u,e,o,l,q,z,k _ _ w,k _ _ j,k _ _ b,k _ _ i,r,p,c,m.mono k,t⟩
theorem ends_rows(e1:s.rg=hd.map WR.d)(e2:s.pa=pa.map WR.d)(e3:s.tl=ta.map WR.d):(hd=[]->bOf s=(hd++pa++ta).head?.map (·.st))/\(ta=[]->(hd=[]∨aL s.rg≠1)->eOf s=(hd++pa++ta).getLast?.map (·.go))/\(hd≠[]->bOf s=none)/\(¬(ta=[]/\(hd=[]∨aL s.rg≠1))->eOf s=none):=by
 have b:∀a:List WR,a.map WR.d=[]↔a=[]:=λa=>by cases a<;>simp
 unfold bOf eOf;rw[e1,e2,e3];refine⟨λz=>?_,λz c=>?_,λz=>if_neg λy=>z ((b _).mp y),λz=>if_neg λy=>z ⟨(b _).mp y.1,y.2.imp (b _).mp id⟩⟩
 ·rw[z,if_pos (show List.map WR.d []=[]from rfl),List.nil_append,<-lj,List.head?_map,Option.map_map]
  congr 1
  exact funext λr=>WR.d_st r
 ·rw[z,if_pos (show List.map WR.d []=[]/\(hd.map WR.d=[]∨aL (hd.map WR.d)≠1)from⟨rfl,c.imp (b _).mpr id⟩),m6,<-lj,List.getLast?_map,Option.map_map]
  congr 1
  exact funext λr=>WR.d_go r
theorem mapSE{ws:List WR}:(ws.map λr=>V.str r.nm).isEmpty=ws.isEmpty:=by cases ws<;>rfl
inductive IspEnR(K:W.Frag)(a:Ad)(vs:List V)(H:Hp)(Q:VK):Prop
 |mk(ls d e l:Addr)(sp:List Str)(rs:List WR)(E:Nat)(ps:List (Str×Rat))(kvs:List (Key×V))(ks:List Str)(f:Str->Int×Int)(X:List Addr)(ts:List V)(ss:List SD)(h1:vs=[.ref ls,.ref d,.ref e,.ref l])(h2:SqL K H ls (sp.map V.str))(h3:sp.Nodup)(h4:sp.length<=12)(h5:RowsAt H d rs)(h6:RsG sp rs)(h7:NsOk E ps (rs.map WR.d))(h8:d≠e)(h9:H e=some (.dK kvs))(h10:Tab DueIs H kvs ks f)(h11:ks.Nodup)(h12:(∀n∈ks,n∈rs.map (·.nm)))(h13:(∀n,Nx 3000 (f n)/\0<(f n).2))(h14:H l=some (.lst ts))(h15:RowAt (StIs a X) H ts ss)(h16:ss.length<=24)(h17:ApD (bM ks λn=>vl (f n)) ps (rs.map WR.d) ss)(h18:∀H',Same H H'->Q (.bl true) H'):IspEnR K a vs H Q
noncomputable def spEnR(K:W.Frag)(a:Ad):Sp:=λvs H Q _=>IspEnR K a vs H Q
theorem kI(T:TX K mg a):FnB P w K mg base CX0 "_law_ends_right" 5 ["_law_spots","_law_ways_here","_law_due_here","_law_found"] (spEnR K a):=by
 refine T.d_law_ends_right.okA sc_law_ends_right λf de A cg s H vs Q E J h=>?_;obtain⟨ls,d,e,l,sp,rs,E',ps,ck,ks,f,X,ts,ss,rfl,hS,cd,cf,hR,G,O,c1,he,tb,cr,c2,hf,hl,bx,dc,AD,k⟩:=h
 refine⟨_,(aD (aH (i:=4) sc_law_ends_right.nd cU)
  (aD (aH (i:=5) sc_law_ends_right.nd cU)
  (aX (bO lH rfl (bZ (pv 3)) (aR (i:=6) sc_law_ends_right.nd) (aD (aH (i:=7) sc_law_ends_right.nd (aO (ok_law_told T) J aJ (aA (aK aQ (pv 6) aC) aB)))
  (aD (aH (i:=8) sc_law_ends_right.nd (aM op_cat (aM op_cat (aK aQ (pv 6) aC) (aK aQ (pv 6) aC)) (aK aQ (pv 6) aC)))
  (aD (aH (i:=9) sc_law_ends_right.nd (aO (fB T) J aJ (aA (pv 1) (aA (aK aQ (pv 6) aC) aB))))
  (aX (bJ (aS (ig J.units0) (aK aQ (pv 6) aC) (bH aB)) (aD (aH (i:=10) sc_law_ends_right.nd (aK aQ (cE (bI J) (pv 1) (aK bC (pv 8) aC) (λ_ _=>rfl)) aC))
  (aF (cI (bI J) (pv 4) (pv 10) (aO (dO T) J aJ (aA (f9 (bI J) (pv 4) (pv 10) (bP (aA aC (aA aC aB))) ⟨rfl,rfl,rfl,rfl⟩) (aA (pv 7) aB))) rfl))) aV)
  (aF (bJ (PW.pt (gu (aS (ig J.units0) (aK aQ (pv 6) aC) (bH aB)) (fv (PW.pt (pw_or (aS (ig J.units0) (aK aQ (pv 6) aC) (bH aB)) (pw_or1 (aS op_ne (aK aQ (pv 9) aC) (aK aQ (pv 9) aC)))))))) (aD (aH (i:=10) sc_law_ends_right.nd (aK aQ (cE (bI J) (pv 1) (aK bC (pv 8) (jm gM aC)) (λ_ _=>rfl)) aC))
  (aF (cI (bI J) (pv 5) (pv 10) (aO (dO T) J aJ (aA (f9 (bI J) (pv 5) (pv 10) (bP (aA aC (aA aC aB))) ⟨rfl,rfl,rfl,rfl⟩) (aA (aO (eM T) J aJ (aA (pv 7) (aA (aO (fB T) J aJ (aA (pv 1) (aA (aK aQ (pv 6) aC) aB))) aB))) aB))) rfl))) aV)))))))
  (aD (aH (i:=11) sc_law_ends_right.nd (aO (ok_law_brought T) J aJ (aA (pv 0) (aA (pv 1) (aA (pv 2) aB)))))
  (aD (bO lH rfl (bZ (pv 0)) (aR (i:=12) sc_law_ends_right.nd) (aD (aH (i:=13) sc_law_ends_right.nd (cE (bI J) (pv 11) (pv 12) (λ_ _=>rfl)))
  (aD (bJ (fM (eo (aO (jp T) J aJ (aA (f9 (bI J) (pv 4) (pv 12) (bP (aA aC (aA aC aB))) ⟨rfl,rfl,rfl,rfl⟩) (aA (aO (kJ T) J aJ (aA (bP (aA (aM eC aC (aK aQ (pv 13) aC)) (aA (aK aQ (pv 13) aC) aB))) aB)) aB))))) (aF (aP hX)) aV)
  (aF (bJ (fM (eo (aO (jp T) J aJ (aA (f9 (bI J) (pv 5) (pv 12) (bP (aA aC (aA aC aB))) ⟨rfl,rfl,rfl,rfl⟩) (aA (aO (kJ T) J aJ (aA (pv 13) aB)) aB))))) (aF (aP hX)) aV)))))
  (aF (aP hX))))))),?_⟩
 walk_at"q"
 intro q1 n1;obtain⟨H1,zq,s1,h1⟩:=uG (o:=.dK []) n1;rw[zq];intro q2 n2;obtain⟨H2,zq,s2,h2⟩:=uG (o:=.dK []) n2;rw[zq];have bt:q1≠q2:=aN h1 n2;have cn:=s1.free n2;refine dA (λσ' H'=>yE9 λz6 z7 z8 z9 M nb N ne Y=>σ'=[some (.ref ls),some (.ref d),some (.ref e),some (.ref l),some (.ref q1),some (.ref q2),z6,z7,z8,z9,M,none,none,none]×' Same H H'×' Acc H' q1 nb N 160000 24 (begT ss)×' Acc H' q2 ne Y 160000 24 (endT ss)) ?_ ?_
 ·refine⟨_,rfl,l,rfl,⟨_,SqL.of ((s1.trans s2) _ _ hl)⟩,cG (K:=K) (a:=l) (xs:=ts) (λi σ H4=>i<=ss.length/\yE9 λz6 z7 z8 z9 M nb N ne Y=>σ=[some (.ref ls),some (.ref d),some (.ref e),some (.ref l),some (.ref q1),some (.ref q2),z6,z7,z8,z9,M,none,none,none]×' Same H H4×' Acc H4 q1 nb N (6600*i) i (begT (ss.take i))×' Acc H4 q2 ne Y (6600*i) i (endT (ss.take i))) ⟨lD _,_,_,_,_,_,_,_,_,_,rfl,s1.trans s2,(Acc.new (s2 _ _ h1)).le (k5 _) (k5 _) (λn=>rfl),(Acc.new h2).le (k5 _) (k5 _) λn=>rfl⟩ ((by rintro i σ H4 _⟨_,_,_,_,_,_,_,_,_,_,_,s4,_⟩;exact SqL.of (s4 _ _ hl))) ?_ ?_⟩
  ·rintro i v σ H4 hv⟨_,z6,z7,z8,z9,M,nb,N,ne,Y,rfl,s4,A1,A2⟩;obtain⟨x,ex,st⟩:=bx.get hv;have hi:=(kY.mp ex).1;have xo:=AD.each x (kZ ex);obtain⟨R,L,ta,e1,e2,e3,sub,l1,l2,l3⟩:=fnd8 G xo;obtain⟨c7,c4,ci,cy⟩:=ends_rows e1 e2 e3;obtain⟨u,a1,a2,a3,qf,rfl,u0,u1,u2,u3,_,_,_,uf,_⟩:=st.same s4;rw[e1,nmV_d]at u1;rw[e2,nmV_d]at u2;rw[e3,nmV_d]at u3;have bm:∀n,begT (ss.take (i+1)) n=begT (ss.take i) n+inOf x n:=λn=>by rw[lE,ex,lL,begT_snoc]
   have bw:∀n,endT (ss.take (i+1)) n=endT (ss.take i) n+outOf x n:=λn=>by rw[lE,ex,lL,endT_snoc]
   obtain⟨c,ax⟩:∃c:Int×Int,c=(x.am.num,(x.am.den:Int)):=⟨_,rfl⟩;have pn:Nx 6370 c:=by rw[ax];exact⟨xo.bd.1,by rw[mY];exact xo.bd.2⟩
   have pb:0<c.2:=by rw[ax];exact den_pos x.am
   have pv:vl c=x.am:=by rw[ax];exact oe x.am
   refine⟨_,rfl,u,_,_,_,rfl,rfl,SqT.of u0,rfl,qf,x.am,rfl,uf,λtp bu=>?_⟩;have e5:(HO.tup [.int x.am.num,.int (x.am.den:Int)])=.tup [.int c.1,.int c.2]:=by rw[ax]
   rw[e5];obtain⟨H5,zq,s5,h5⟩:=uG (o:=.tup [.int c.1,.int c.2]) bu;rw[zq];have big:∀n,n<=1000->n<=sizeLine:=λn h=>lC h (Nat.le_of_lt (aT (k5 1000)));refine⟨_,rfl,u,_,_,_,rfl,rfl,SqT.of (s5 _ _ u0),rfl,_,rfl,u,_,_,_,rfl,rfl,SqT.of (s5 _ _ u0),rfl,a1,a2,_,_,rfl,rfl,s5 _ _ u1,s5 _ _ u2,by rw[kX,kX];exact big _ (by lia),λla na=>?_⟩;rw[<-lj];obtain⟨H6,zq,s6,h6⟩:=uG (o:=.lst ((R++L).map λr=>V.str r.nm)) na;rw[zq];have U:=s5.trans s6;refine⟨_,rfl,u,_,_,_,rfl,rfl,SqT.of (U _ _ u0),rfl,la,a3,_,_,rfl,rfl,h6,U _ _ u3,by rw[kX,kX,lG];exact big _ (by lia),λlw nw=>?_⟩;rw[<-lj];obtain⟨H7,zq,s7,h7⟩:=uG (o:=.lst ((R++L++ta).map λr=>V.str r.nm)) nw;rw[zq];have av:=U.trans s7;have bl:∀{ws:List WR},(∀r∈ws,r∈R++L++ta)->(∀r∈ws,r∈rs)/\∀r∈ws,GB r.t r.b:=λz=>⟨λr J=>(sub r (z r J)).1,λr J=>(sub r (z r J)).2⟩;have gh:=bl (ws:=R) λr J=>by simp[J]
   have aq:=bl (ws:=L) λr J=>by simp[J]
   refine⟨_,rfl,_,rfl,u,_,_,_,rfl,rfl,SqT.of (av _ _ u0),rfl,d,a1,rs,R,rfl,hR.mono (s4.trans av),G.nd,SqL.of (av _ _ u1),gh.1,gh.2,by lia,λg H8 s8 hg=>?_⟩;have S:=av.trans s8;have a9:=(s6.trans (s7.trans s8)) _ _ h5;have bh:=s8 _ _ h7
   obtain⟨I,dh,ew⟩:=List.exists_cons_of_ne_nil (l:=R++L++ta) λz=>xo.nn (by
    obtain⟨z1,z3⟩:=List.append_eq_nil_iff.mp z;obtain⟨z1,z2⟩:=List.append_eq_nil_iff.mp z1;rw[e1,e2,e3,z1,z2,z3];exact⟨rfl,rfl,rfl⟩)
   have m0:I∈R++L++ta:=by rw[ew];exact lO
   have bb:=A1.mono S;have bz:=A2.mono S;have a6:=s4.trans S;refine dA (λσ' H'=>yE3 λM nb N=>σ'=[some (.ref ls),some (.ref d),some (.ref e),some (.ref l),some (.ref q1),some (.ref q2),some (.ref u),some (.ref tp),some (.ref lw),some (.ref g),M,none,none,none]×' Same H H'×' KeepD H8 H'×' Acc H' q1 nb N (6600*(i+1)) (i+1) (begT (ss.take (i+1)))×' Acc H' q2 ne Y (6600*i) i (endT (ss.take i))) ?_ ?_
   ·refine⟨_,rfl,u,_,_,_,rfl,rfl,SqT.of (S _ _ u0),rfl,by decide,λe9 n9=>?_⟩;obtain⟨H9,zq,s9,h9⟩:=uG (o:=.lst []) n9;rw[zq];refine⟨a1,e9,_,rfl,rfl,SqL.of ((S.trans s9) _ _ u1),SqL.of h9,_,rfl,?_⟩;rw[mapSE]
    cases eh:R.isEmpty with
    |false=>
     refine iteF ⟨_,nb,N,rfl,a6.trans s9,.of s9,(bb.mono s9).le (by lia) (by lia) λn=>?_,bz.mono s9⟩;rw[bm];unfold inOf;rw[ci (λz=>by rw[z]at eh;cases eh),if_neg (show¬(none:Option Str)=some n by nofun),mU]
    |true=>
     have eh:=List.isEmpty_iff.mp eh;obtain⟨vr,gv,pr,gr,rfl,y1,y2⟩:=(hR.mono (a6.trans s9)).get G.nd (sub I m0).1;refine iteT ⟨_,rfl,_,rfl,lw,_,_,_,rfl,rfl,SqL.of (s9 _ _ bh),by rw[ew];exact atI_nat (j:=0) rfl,d,_,rfl,gv,pr,_,_,_,rfl,rfl,SqT.of y1,rfl,?_⟩;have bg:=bb.mono s9;obtain⟨ap,ab,dk⟩:=bg.kvl;refine⟨_,rfl,q1,rfl,.inl ⟨ap,.inl ab⟩,_,rfl,zL2,λe0 ne0=>?_⟩;obtain⟨ak,zq,D,af⟩:=uG (o:=.tup [.int 0,.int 1]) ne0;rw[zq];refine⟨_,DGet.k (k:=Sum.inr I.st) (D _ _ ab),?_⟩;have p:=(bg.mono D).du.val (D _ _ ab) af I.st;generalize(cV ap (Sum.inr I.st)).getD (.ref e0)=vv at p⊢;obtain⟨aw,rfl,ao⟩:=p;refine⟨_,rfl,aw,tp,N I.st,c,6600*i,6370,rfl,ao,(s9.trans D) _ _ a9,A1.nx _,pn,by lia,λag a4=>?_⟩;obtain⟨bo,zq,ac,au⟩:=uG (o:=.tup [.int (plP (N I.st) c).1,.int (plP (N I.st) c).2]) a4;rw[zq];have m:=D.trans ac;have ai:=m _ _ ab;refine⟨_,rfl,_,rfl,q1,_,rfl,DPut.k (k:=Sum.inr I.st) ai (aT (by lia)),?_⟩;refine⟨_,_,_,rfl,aY n1 (a6.trans (s9.trans m)),λb ob q g1 g2=>?_,((bg.mono m).bump ai au pn pb).le (by lia) (by lia) λn=>?_,((bz.mono s9).mono m).off ai bt.symm⟩
     ·exact KeepD.put ai b ob ((s9.trans m) _ _ q) g1 g2
     ·rw[bm];unfold inOf;rw[c7 eh,ew,pv];rfl
   rintro zU bj σ' H9⟨M,cu,cw,rfl,a5,kd,A1,A2⟩;have kt:∀{b ob},H8 b=some (.tup ob)->H9 b=some (.tup ob):=λe=>kd _ _ e (by intro _ z;cases z) (by intro _ _ z;cases z);have kl:∀{b ob},H8 b=some (.lst ob)->H9 b=some (.lst ob):=λe=>kd _ _ e (by intro _ z;cases z) (by intro _ _ z;cases z);have ba:=kt (S _ _ u0);have cx:=kl (S _ _ u1);have ch:=kl (S _ _ u2);have da:=kl (S _ _ u3);have h5:=kt a9;have h7:=kl bh;have bn:=kt hg;obtain⟨gv,_,g2⟩:=gp_val gh.2;have gi:(gp R).1=(gp R).2↔aL x.rg=1:=by rw[e1,gv];exact(vl_cmp g2).1.symm
   have T2:∀Q:Bool->Hp->Prop,(∀b H',Same H9 H'->(b=true↔ta=[]/\(R=[]∨aL x.rg≠1))->Q b H')->tAnd (tTest (tOp (rEqN K) (tOp (rIxT K) (tVar 6) (tC (V.int 2))) (tLst tNil))) (tOr (tTest (tOp (rEqN K) (tOp (rIxT K) (tVar 6) (tC (V.int 0))) (tLst tNil))) (tTest (tOp rNe (tOp (rIxT K) (tVar 9) (tC (V.int 0))) (tOp (rIxT K) (tVar 9) (tC (V.int 1)))))) [some (.ref ls),some (.ref d),some (.ref e),some (.ref l),some (.ref q1),some (.ref q2),some (.ref u),some (.ref tp),some (.ref lw),some (.ref g),M,none,none,none] H9 Q:=λQ h=>by
    refine⟨_,rfl,u,_,_,_,rfl,rfl,SqT.of ba,rfl,by decide,λay ct=>?_⟩;obtain⟨ak,zq,D,af⟩:=uG (o:=.lst []) ct;rw[zq];refine⟨a3,ay,_,rfl,rfl,SqL.of (D _ _ da),SqL.of af,_,rfl,?_⟩;rw[mapSE]
    cases et:ta.isEmpty with
    |false=>exact iteF (h _ _ D ⟨by nofun,λz=>by rw[z.1]at et;cases et⟩)
    |true=>
     have et:=List.isEmpty_iff.mp et;refine iteT ⟨_,rfl,u,_,_,_,rfl,rfl,SqT.of (D _ _ ba),rfl,by decide,λaz co=>?_⟩;obtain⟨bo,zq,ac,au⟩:=uG (o:=.lst []) co;rw[zq];have m:=D.trans ac;refine⟨a1,az,_,rfl,rfl,SqL.of (m _ _ cx),SqL.of au,_,rfl,?_⟩;rw[mapSE]
     cases eh:R.isEmpty with
     |true=>exact iteT (h _ _ m ⟨λ_=>⟨et,.inl (List.isEmpty_iff.mp eh)⟩,λ_=>rfl⟩)
     |false=>
      refine iteF ⟨_,rfl,g,_,_,_,rfl,rfl,SqT.of (m _ _ bn),rfl,_,rfl,g,_,_,_,rfl,rfl,SqT.of (m _ _ bn),rfl,rfl,_,rfl,h _ _ m ?_⟩;rw[Bool.not_eq_true',decide_eq_false_iff_not];exact⟨λz=>⟨et,.inr λy=>z (mj V.int (gi.mpr y))⟩,λz y=>(z.2.resolve_left λw=>by rw[w]at eh;cases eh) (gi.mp (V.int.inj y))⟩
   subst bj;refine T2 _ λb ce ad hb=>?_
   cases b with
   |false=>
    refine iteF ⟨hi,_,_,_,_,_,cu,cw,ne,Y,rfl,a5.trans ad,A1.mono ad,(A2.mono ad).le (by lia) (by lia) λn=>?_⟩;rw[bw];unfold outOf;rw[cy (λz=>Bool.noConfusion (hb.mpr z)),if_neg (show¬(none:Option Str)=some n by nofun),mU]
   |true=>
    obtain⟨et,eh⟩:=hb.mp rfl;obtain⟨di,rl,el⟩:=last_of (xs:=R++L++ta) (by rw[ew];exact List.cons_ne_nil _ _);have ml:rl∈R++L++ta:=by rw[el];simp
    have a0:=a5.trans ad;obtain⟨vr,cq,pr,gr,rfl,y1,y2⟩:=(hR.mono a0).get G.nd (sub rl ml).1;refine iteT ⟨_,rfl,_,rfl,_,rfl,lw,_,_,_,rfl,rfl,SqL.of (ad _ _ h7),at_last' (by rw[el,lj,List.getLast?_append];rfl),d,_,rfl,cq,pr,_,_,_,rfl,rfl,SqT.of y1,rfl,?_⟩;have as:=A2.mono ad;obtain⟨al,aa,db⟩:=as.kvl;refine⟨_,rfl,q2,rfl,.inl ⟨al,.inl aa⟩,_,rfl,zL2,λe0 ne0=>?_⟩;obtain⟨dj,zq,aj,ca⟩:=uG (o:=.tup [.int 0,.int 1]) ne0;rw[zq];refine⟨_,DGet.k (k:=Sum.inr rl.go) (aj _ _ aa),?_⟩;have p:=(as.mono aj).du.val (aj _ _ aa) ca rl.go;generalize(cV al (Sum.inr rl.go)).getD (.ref e0)=vv at p⊢;obtain⟨aw,rfl,ao⟩:=p;have ah:=ad.trans aj;refine⟨_,rfl,_,rfl,_,rfl,u,_,_,_,rfl,rfl,SqT.of (ah _ _ ba),rfl,d,a2,rs,L,rfl,hR.mono (a5.trans ah),G.nd,SqL.of (ah _ _ ch),aq.1,aq.2,by lia,λg3 b6 b3 c6=>?_⟩;obtain⟨cm,_,dg⟩:=gp_val aq.2;refine⟨tp,g3,c,gp L,6370,160,rfl,(ah.trans b3) _ _ h5,c6,pn,gp_nx aq.2 l2,by lia,λt2 a7=>?_⟩;obtain⟨b5,zq,b4,bf⟩:=uG (o:=.tup [.int (tmP c (gp L)).1,.int (tmP c (gp L)).2]) a7;rw[zq];have an:=b3.trans b4;have tn:=pn.times (gp_nx aq.2 l2);have b7:0<(tmP c (gp L)).2:=mQ pb (by lia);have tv:vl (tmP c (gp L))=x.am*aL x.pa:=by rw[kf (by lia) (by lia),pv,e2,cm]
    generalize tmP c (gp L)=tc at bf tn b7 tv;refine⟨aw,t2,Y rl.go,tc,6600*i,6370+160,rfl,an _ _ ao,bf,A2.nx _,tn,by lia,λag a4=>?_⟩;obtain⟨dd,zq,bp,cb⟩:=uG (o:=.tup [.int (plP (Y rl.go) tc).1,.int (plP (Y rl.go) tc).2]) a4;rw[zq];have Z:=aj.trans (an.trans bp);have ar:=Z _ _ aa;refine⟨_,rfl,_,rfl,q2,_,rfl,DPut.k (k:=Sum.inr rl.go) ar (aT (by lia)),hi,_,_,_,_,_,_,_,_,_,rfl,aY cn (a0.trans Z),((A1.mono ad).mono Z).off ar bt,((as.mono Z).bump ar cb tn b7).le (by lia) (by lia) λn=>?_⟩;rw[bw];unfold outOf;rw[c4 et eh,el,List.getLast?_append,tv];rfl
  ·rintro σ H4⟨_,z6,z7,z8,z9,M,nb,N,ne,Y,rfl,s4,A1,A2⟩;rw[bx.1,lA]at A1 A2;exact⟨z6,z7,z8,z9,M,nb,N,ne,Y,rfl,s4,A1.le (by lia) (by lia) λ_=>rfl,A2.le (by lia) (by lia) λ_=>rfl⟩
 rintro zU bj σ' H4⟨z6,z7,z8,z9,M,nb,N,ne,Y,rfl,s4,A1,A2⟩;subst bj;refine⟨_,rfl,_,rfl,_,rfl,ls,d,e,sp,rs,E',ps,ck,ks,f,rfl,s4.seq hS,cd,cf,hR.mono s4,G,O,c1,s4 _ _ he,tb.mono (λv x z=>z.mono s4),cr,c2,hf,λr H5 cj F nr s5 c0 c8 B=>?_⟩;have be:=s4.trans s5;refine⟨_,rfl,ls,rfl,⟨_,be.seq hS⟩,cG (K:=K) (a:=ls) (xs:=sp.map V.str) (λi σ H6=>(∃a8 bc,σ=[some (.ref ls),some (.ref d),some (.ref e),some (.ref l),some (.ref q1),some (.ref q2),z6,z7,z8,z9,M,some (.ref r),a8,bc])/\Same H5 H6) ⟨⟨_,_,rfl⟩,Same.refl _⟩ ((by rintro i σ H6 _⟨_,s6⟩;exact(be.trans s6).seq hS)) ?_ ?_⟩
 ·rintro i v σ H6 hv⟨⟨a8,bc,rfl⟩,s6⟩;rw[lg]at hv
  cases ey:sp[i]? with
  |none=>rw[ey]at hv;cases hv
  |some y=>
   rw[ey]at hv
   cases hv;have my:=kZ ey;obtain⟨f1,f2⟩:=AD.flow O y;obtain⟨vt,ev,t,rfl,ht⟩:=(c8.mono λv x(z:DueIs H5 v x)=>z.mono s6).vals y my;refine⟨_,rfl,_,rfl,r,_,rfl,.inl ⟨cj,Sum.inr y,.inl (s6 _ _ c0),rfl,ev.symm⟩,?_⟩;have U:=s5.trans s6;obtain⟨ap,ab,_⟩:=(A1.mono U).kvl;obtain⟨al,aa,_⟩:=(A2.mono U).kvl;refine⟨_,rfl,q1,rfl,.inl ⟨ap,.inl ab⟩,_,rfl,zL2,λe0 ne0=>?_⟩;obtain⟨H7,zq,s7,h7⟩:=uG (o:=.tup [.int 0,.int 1]) ne0;rw[zq];refine⟨_,DGet.k (k:=Sum.inr y) (s7 _ _ ab),?_⟩;have p:=((A1.mono U).mono s7).du.val (s7 _ _ ab) h7 y;generalize(cV ap (Sum.inr y)).getD (.ref e0)=vv at p⊢;obtain⟨aw,rfl,ao⟩:=p;have bq:=SqT.of (K:=K) (s7 _ _ ht);refine⟨_,rfl,t,_,_,_,rfl,rfl,bq,rfl,_,_,rfl,rfl,_,rfl,t,_,_,_,rfl,rfl,bq,rfl,zL2,λt2 a7=>?_⟩;obtain⟨H8,zq,s8,h8⟩:=uG (o:=.tup [.int (0-(F y).1),.int (F y).2]) a7;rw[zq];have fn:=B.nx y my;refine⟨t2,(0-(F y).1,(F y).2),40000,rfl,h8,⟨by have:=fn.t;show(0-(F y).1).natAbs<=_;lia,fn.b⟩,B.b0 y my,λr2 H9 c9 s9 cl cv b9 v9=>?_⟩;have br:=s8.trans s9;refine⟨aw,r2,N y,c9,160000,40000,rfl,br _ _ ao,cl,A1.nx y,cv,by lia,A1.b0 y,b9,?_,_,rfl,iteF ?_⟩
   ·rw[A1.v y,v9,vl_negp (F y),B.v y my];exact f1
   have bv:=s7.trans br;refine⟨_,rfl,q2,rfl,.inl ⟨al,.inl (bv _ _ aa)⟩,_,rfl,zL2,λe3 c3=>?_⟩;obtain⟨ak,zq,D,af⟩:=uG (o:=.tup [.int 0,.int 1]) c3;rw[zq];have ae:=bv.trans D;refine⟨_,DGet.k (k:=Sum.inr y) (ae _ _ aa),?_⟩;have p:=((A2.mono U).mono ae).du.val (ae _ _ aa) af y;generalize(cV al (Sum.inr y)).getD (.ref e3)=vv at p⊢;obtain⟨e4,rfl,c5⟩:=p;refine⟨_,rfl,t,F y,40000,rfl,ae _ _ ht,fn,B.b0 y my,λr3 bo cz ac b2 b1 cs cp=>?_⟩;refine⟨e4,r3,Y y,cz,160000,40000,rfl,ac _ _ c5,b2,A2.nx y,b1,by lia,A2.b0 y,cs,?_,_,rfl,iteF ⟨⟨_,_,rfl⟩,s6.trans (ae.trans ac)⟩⟩;rw[A2.v y,cp,B.v y my];exact f2
 ·rintro σ H6⟨⟨a8,bc,rfl⟩,s6⟩;exact k H6 (be.trans s6)
structure Ends(ds:List WD)(x y:Str):Prop where
 b:(bS ds)[0]?=some x
 e:(bS ds).getLast?=some y
theorem meet1{a:List WD}:Meet [bS a]:=λi x y b c=>by
 cases i with
 |zero=>cases c
 |succ i=>cases b
theorem meet2{a b:List WD}(ha:Ends a x y)(hb:Ends b y z):Meet [bS a,bS b]:=λi u v c h=>by
 match i,c,h with
 |0,c,h=>cases c;cases h;rw[ha.e,hb.b]
theorem meet3{a b c:List WD}(ha:Ends a x y)(hb:Ends b y z)(hc:Ends c z u):Meet [bS a,bS b,bS c]:=λi p q h j=>by
 match i,h,j with
 |0,h,j=>cases h;cases j;rw[ha.e,hb.b]
 |1,h,j=>cases h;cases j;rw[hb.e,hc.b]
theorem road_t(h0:¬(hd.isEmpty=true/\pa.isEmpty=true/\ta.isEmpty=true))(h1:hd.isEmpty=false->rwB 1 hd=true)(h2:ta.isEmpty=false->rwB (-1) ta=true)(h3:(bS pa).Nodup)(h4:Meet (jb [hd,pa,ta])):roadB hd pa ta=true:=by
 unfold roadB;rw[meetB_t h4,lQ h3]
 cases e1:hd.isEmpty<;>cases e2:ta.isEmpty<;>cases e3:pa.isEmpty<;>simp_all
theorem meet_all(h1:hd.isEmpty=false->Ends hd x x)(h2:pa.isEmpty=false->Ends pa x y)(h2':pa.isEmpty=true->x=y)(h3:ta.isEmpty=false->Ends ta y y):Meet (jb [hd,pa,ta]):=by
 unfold jb
 cases e1:hd.isEmpty<;>cases e2:pa.isEmpty<;>cases e3:ta.isEmpty<;>simp only[List.filter,e1,e2,e3,Bool.not_true,Bool.not_false,List.map]
 ·exact meet3 (h1 e1) (h2 e2) (h3 e3)
 ·exact meet2 (h1 e1) (h2 e2)
 ·have:=h2' e2
  subst this;exact meet2 (h1 e1) (h3 e3)
 ·exact meet1
 ·exact meet2 (h2 e2) (h3 e3)
 ·exact meet1
 ·exact meet1
 ·exactλi x y h=>by simp at h
theorem fL:∀{l:List WD}{p q:Str},PthW p l q->l≠[]->bS l=p::l.map (·.go)/\bS l=l.map (·.st)++[q]
 |[],_,_,_,n=>absurd rfl n
 |[x],_,_,h,_=>by
  obtain⟨a,b⟩:=h;subst a;exact⟨rfl,by rw[<-show x.go=_ from b];rfl⟩
 |x::y::r,_,_,h,_=>by
  obtain⟨a,b⟩:=h;subst a;obtain⟨c,e⟩:=fL b (List.cons_ne_nil y r);refine⟨rfl,?_⟩;show x.st::(x.go::(y::r).map (·.go))=x.st::((y::r).map (·.st)++[_]);rw[<-e,c]
theorem kD(h:PthW p l q)(n:l≠[]):Ends l p q:=by
 obtain⟨a,b⟩:=fL h n;exact⟨by rw[a];rfl,by rw[b,List.getLast?_append];rfl⟩
theorem ring_b(rg:RingW ns l)(pt:PthW p l p):ringB (bS l)=true:=by
 have E:=kD pt rg.ne;obtain⟨a,h⟩:=fL pt rg.ne;unfold ringB;rw[if_neg (by rw[a];exact List.cons_ne_nil _ _),if_pos (by rw[E.b,E.e]),a];refine lQ ?_;show(l.map (·.go)).Nodup
 cases l with
 |nil=>exact nR
 |cons x r=>
  rw[a]at h;have i :=(List.cons.inj h).2;have c:(x.st::r.map (·.st)).Nodup:=rg.nd;rw[show x.st=p from pt.1]at c;rw[i];exact(List.perm_append_singleton p (r.map (·.st))).nodup_iff.mpr c
theorem sgn_one(h:0<x):sgn x=1:=by
 have h:=(iK x).mpr h;unfold sgn at h⊢;by_cases c:0<x.num
 ·rw[if_pos c]
 ·rw[if_neg c]at h;by_cases d:x.num<0
  ·rw[if_pos d]at h
   lia
  ·rw[if_neg d]at h
   lia
theorem sgn_neg(h:x<0):sgn x=-1:=by
 have h:=(sgn_lt x).mpr h;unfold sgn at h⊢;by_cases c:0<x.num
 ·rw[if_pos c]at h
  lia
 ·rw[if_neg c]at h⊢;by_cases d:x.num<0
  ·rw[if_pos d]
  ·rw[if_neg d]at h
   lia
theorem rwB_of{w:Int}(rg:RingW ns l)(pt:PthW p l p)(h:grw l=w):rwB w l=true:=by
 unfold rwB;rw[ring_b rg pt,Bool.true_and];exact lQ h
theorem StOk.strand(h:StOk A0 ps ns s):strandB s.am s.rg s.pa s.tl=true/\(gm s.rg s.pa s.tl=false->(s.rg.isEmpty=false->aL s.rg-1≠0)/\(s.tl.isEmpty=false->1-aL s.tl≠0))/\strA s.am s.rg s.pa s.tl=sdA s:=by
 have A:decide (0<sgn s.am)=true:=lQ ((iK _).mpr h.am);have ne:∀{l:List WD},l≠[]->l.isEmpty=false:=λ{l}z=>by cases l with|nil=>exact absurd rfl z|cons _ _=>rfl
 have a:∀{l:List WD},l.isEmpty=false->l≠[]:=λ{l}z y=>by rw[y]at z;cases z
 unfold strandB strA;rw[A,Bool.true_and];have nn:=h.nn;rcases h.kinds with⟨b,m,rg,ln,g1⟩|⟨p,q,pt,ndp,sub,ln,o1,o2⟩
 ·obtain⟨p,i⟩:=rg.rd
  have r:gm s.rg s.pa s.tl=true:=by
   unfold gm;rw[b,m,rwB_of rg i (by unfold grw;rw[g1];decide+kernel)];rfl
  rw[r];refine⟨rfl,λz=>(Bool.noConfusion z),funext λn=>?_⟩;unfold sdA enA;rw[if_pos rfl,if_pos ⟨rg.ne,g1⟩,b,m,iO,if_pos rfl,mU,mU]
 ·have c:∀z:s.rg≠[],RgM ns true p s.rg:=λz=>o1.resolve_left λy=>z y.1;have e:∀z:s.tl≠[],RgM ns false q s.tl:=λz=>o2.resolve_left λy=>z y.1;have g1:s.rg≠[]->1<aL s.rg:=λz=>(c z).gn;have j:s.tl≠[]->aL s.tl<1:=λz=>(e z).gn
  have r:gm s.rg s.pa s.tl=false:=by
   unfold gm rwB;by_cases z:s.rg=[]
   ·rw[z,show ringB (bS [])=false from rfl,Bool.false_and,Bool.and_false,Bool.and_false]
   ·rw[show decide (grw s.rg=0)=false from lM (by unfold grw;rw[sgn_one (by grind)];decide),Bool.and_false,Bool.and_false,Bool.and_false]
  have t:roadB s.rg s.pa s.tl=true:=by
   refine road_t (λz=>nn ⟨List.isEmpty_iff.mp z.1,List.isEmpty_iff.mp z.2.1,List.isEmpty_iff.mp z.2.2⟩) (λz=>?_) (λz=>?_) ?_ (meet_all (λz=>kD (c (a z)).pt (a z)) (λz=>kD pt (a z)) (λz=>?_) λz=>kD (e (a z)).pt (a z))
   ·exact rwB_of (c (a z)).rg (c (a z)).pt (sgn_one (by have:=g1 (a z);grind))
   ·exact rwB_of (e (a z)).rg (e (a z)).pt (sgn_neg (by have:=j (a z);grind))
   ·by_cases z:s.pa=[]
    ·rw[z];exact nR
    ·rw[(fL pt z).1];exact ndp
   ·rw[List.isEmpty_iff.mp z]at pt;exact pt
  rw[r,t];refine⟨rfl,λ_=>⟨λz=>by have:=g1 (a z);grind,λz=>by have:=j (a z);grind⟩,funext λn=>?_⟩;have D:¬(s.rg≠[]/\aL s.rg=1):=(by rintro⟨b,m⟩;exact by grind);unfold sdA roadA enA;rw[if_neg (show¬false=true by decide),if_neg D]
  have B:(if s.rg.isEmpty=true then(0:Rat) else sA (s.am/(aL s.rg-1)) s.rg n)=if s.rg=[]then 0 else s.am/df (aL s.rg)*sA 1 s.rg n:=by
   by_cases z:s.rg=[]
   ·rw[z];rfl
   ·rw[if_neg z,ne z,if_neg (show¬false=true by decide),eZ,show df (aL s.rg)=aL s.rg-1 from if_pos (g1 z)]
  have o:(if s.tl.isEmpty=true then(0:Rat) else sA (aL s.pa*s.am/(1-aL s.tl)) s.tl n)=if s.tl=[]then 0 else s.am*aL s.pa/df (aL s.tl)*sA 1 s.tl n:=by
   by_cases z:s.tl=[]
   ·rw[z];rfl
   ·rw[if_neg z,ne z,if_neg (show¬false=true by decide),eZ,show df (aL s.tl)=1-aL s.tl from if_neg (by grind),Rat.mul_comm (aL s.pa)]
  rw[B,o];grind
theorem dfi_sz(O:NsOk E ps ns)(sub:∀d∈l,d∈ns)(ln:l.length<=4)(g1:aL l≠1):∃M:Nat,0<M/\M<=2^280/\SzQ M 112 (df (aL l))⁻¹:=by
 obtain⟨z,_⟩:=iF (λd A=>O.g1 d (sub d A)) ln;rw[fh,Rat.one_mul]at z;obtain⟨nn,⟨i,o⟩,le⟩:=z;have h:=df_ps g1;have w:0<E^4:=Nat.pow_pos O.e0;have r:E^4<=2^112:=lC (Nat.pow_le_pow_left O.eb 4) (by decide);generalize E^4=F at o w r;have b:(0:Rat)<(F:Rat):=by exact_mod_cast w
 have t:(F:Rat)<=((2^112:Nat):Rat):=by exact_mod_cast r
 have p:∃M:Nat,df (aL l)*(F:Rat)=(M:Rat):=by
  by_cases c:1<aL l
  ·have e:df (aL l)*(F:Rat)=((i-(F:Int):Int):Rat):=by
    rw[show df (aL l)=aL l-1 from if_pos c,Rat.intCast_sub,<-o];show _=_-(F:Rat);grind
   have q:0<=i-(F:Int):=by
    have:(0:Rat)<=((i-(F:Int):Int):Rat):=by rw[<-e];exact fF (lT h) (lT b)
    exact_mod_cast this
   obtain⟨M,a⟩:=nI q;exact⟨M,by rw[e,a];rfl⟩
  ·have e:df (aL l)*(F:Rat)=(((F:Int)-i:Int):Rat):=by
    rw[show df (aL l)=1-aL l from if_neg c,Rat.intCast_sub,<-o];show _=(F:Rat)-_;grind
   have q:0<=(F:Int)-i:=by
    have:(0:Rat)<=(((F:Int)-i:Int):Rat):=by rw[<-e];exact fF (lT h) (lT b)
    exact_mod_cast this
   obtain⟨M,a⟩:=nI q;exact⟨M,by rw[e,a];rfl⟩
 obtain⟨M,a⟩:=p;have D:(0:Rat)<(M:Rat):=by rw[<-a];exact fO h b
 have s:0<M:=by exact_mod_cast D
 have I:(1:Rat)<=(M:Rat):=by exact_mod_cast s
 have G:=md _ (show df (aL l)≠0 by grind);have y:=ii h
 have x:(df (aL l))⁻¹*(M:Rat)=(F:Rat):=by
  rw[<-a,<-nU,Rat.mul_comm _ (df (aL l)),G,Rat.one_mul]
 have H:df (aL l)<=aL l+1:=by unfold df;split<;>grind
 have B:(M:Rat)<=(((2^160+1)*2^112:Nat):Rat):=by
  rw[<-a,Rat.natCast_mul];refine nG (l6 (nG H ?_) (lT b)) (nC t ?_)
  ·rw[Rat.natCast_add];exact Rat.add_le_add_right.mpr le
  ·exact_mod_cast lD _
 have j:M<=(2^160+1)*2^112:=by exact_mod_cast B
 refine⟨M,s,lC j (by decide),lT y,⟨(F:Int),x⟩,nG ?_ t⟩;rw[<-x]
 have:=nC I (lT y)
 grind
theorem SzQ.mm(h:SzQ D m x)(k:SzQ E n y):SzQ (D*E) (m+n) (x*y):=h.mul k
theorem StOk.szs(O:NsOk E ps ns)(h:StOk A0 ps ns s):∃D:Nat,0<D/\D<=2^7000/\∀n,SzQ D 900 (sdA s n):=by
 obtain⟨D,S,N,Q,le⟩:=h.gq;have i:SzQ D 420 s.am:=⟨lT h.am,Q,le⟩;have g1:∀{l:List WD},(∀d∈l,d∈ns)->∀d∈l,GnE E d/\SmR d.x/\Bd 40 (aW d.kd d.x):=λz d T=>O.g1 d (z d T)
 have H:yE2 λ(M1 M2:Nat)=>0<M1×' M1<=2^280×' 0<M2×' M2<=2^280×'∀n,SzQ (D*(M1*(M2*E^6))) 900 (sdA s n):=by
  have b:∀M1 M2:Nat,D*E^3∣D*(M1*(M2*E^6)):=λM1 M2=>nX _ ⟨M1*(M2*E^3),by rw[show(6:Nat)=3+3 from rfl,mK];simp only[Nat.mul_left_comm,oj]⟩;rcases h.kinds with⟨t,G,rg,ln,e1⟩|⟨p,q,pt,ndp,sub,ln,o1,o2⟩
  ·refine⟨1,1,by decide,by decide,by decide,by decide,λn=>?_⟩
   have e:sdA s n=s.am*sA 1 s.rg n:=by
    unfold sdA enA;rw[if_pos ⟨rg.ne,e1⟩,t,G,iO,if_pos rfl,eZ,mU,mU]
   rw[e];exact(i.mm ((sA_sz (bL O.nd rg.sub rg.nd) (g1 rg.sub) (by lia)).1 n)).mono (b 1 1) (by decide)
  ·have Y:¬(s.rg≠[]/\aL s.rg=1):=λ⟨t,G⟩=>by
    rcases o1 with z|z
    ·exact t z.1
    ·have g:1<aL s.rg:=z.gn;rw[G]at g;exact absurd g (by decide+kernel)
   have a:(s.pa.map (·.nm)).Nodup:=by
    by_cases z:s.pa=[]
    ·rw[z];exact nR
    ·refine bL O.nd sub ?_;obtain⟨J,L⟩:=fL pt z;rw[<-J,L]at ndp;exact(mo.mp ndp).1
   have P:=sA_sz (m:=3) a (g1 sub) (by lia)
   have U:SzQ (E^3) 120 (aL s.pa):=by
    have:=(iF (m:=3) (g1 sub) ln).1
    rw[fh,Rat.one_mul]at this;exact this
   have r:yE1 λ(M1:Nat)=>0<M1×' M1<=2^280×'∀n,SzQ (D*(M1*E^3)) 652 (enA s.rg s.am n):=by
    rcases o1 with z|z
    ·exact⟨1,by decide,by decide,λn=>by unfold enA;rw[if_pos z.1];exact SzQ.zero⟩
    ·have g:1<aL s.rg:=z.gn;obtain⟨M,w,I,sz⟩:=dfi_sz O z.rg.sub z.ln (λy=>by rw[y]at g;exact absurd g (by decide+kernel));refine⟨M,w,I,λn=>?_⟩;unfold enA;rw[if_neg z.rg.ne,mi,nU];exact i.mm (sz.mm ((sA_sz (m:=3) (bL O.nd z.rg.sub z.rg.nd) (g1 z.rg.sub) (by have:=z.ln;omega)).1 n))
   have F:yE1 λ(M2:Nat)=>0<M2×' M2<=2^280×'∀n,SzQ (D*(E^3*(M2*E^3))) 772 (enA s.tl (s.am*aL s.pa) n):=by
    rcases o2 with z|z
    ·exact⟨1,by decide,by decide,λn=>by unfold enA;rw[if_pos z.1];exact SzQ.zero⟩
    ·have g:aL s.tl<1:=z.gn;obtain⟨M,w,I,sz⟩:=dfi_sz O z.rg.sub z.ln (λy=>by rw[y]at g;exact absurd g (by decide+kernel));refine⟨M,w,I,λn=>?_⟩;unfold enA;rw[if_neg z.rg.ne,mi,nU,nU];exact i.mm (U.mm (sz.mm ((sA_sz (m:=3) (bL O.nd z.rg.sub z.rg.nd) (g1 z.rg.sub) (by have:=z.ln;omega)).1 n)))
   obtain⟨M1,B,j,r⟩:=r;obtain⟨M2,A,o,F⟩:=F;refine⟨M1,M2,B,j,A,o,λn=>?_⟩;have c:E^6=E^3*E^3:=mK E 3 3;have K:=(r n).mono (E:=D*(M1*(M2*E^6))) (n:=800) (nX _ (nX _ ⟨M2*E^3,by rw[c];simp only[Nat.mul_left_comm,oj]⟩)) (by decide);have X:=(i.mm (P.1 n)).mono (n:=800) (b M1 M2) (by decide);have R:=(F n).mono (E:=D*(M1*(M2*E^6))) (n:=801) (nX _ ⟨M1,by rw[c];simp only[Nat.mul_left_comm,oj]⟩) (by decide);unfold sdA;rw[if_neg Y,eZ s.am];exact((K.add X).add R).mono (Nat.dvd_refl _) (by decide)
 obtain⟨M1,M2,B,j,A,o,sz⟩:=H;refine⟨_,Nat.mul_pos S (Nat.mul_pos B (Nat.mul_pos A (Nat.pow_pos O.e0))),?_,sz⟩;have c:E^6<=2^168:=lC (Nat.pow_le_pow_left O.eb 6) (by decide);refine lC (mZ N (mZ j (mZ o c))) ?_;rw[<-mK,<-mK,<-mK];exact l7 (by decide) (by decide)
theorem perm_sum{xs ys:List Rat}(h:xs.Perm ys):xs.sum=ys.sum:=by
 induction h with
 |nil=>rfl
 |cons x _ ih=>rw[nv,nv,ih]
 |swap x y l=>simp only[nv];grind
 |trans _ _ h1 h2=>exact h1.trans h2
theorem Gq.dv(h:Gq D y)(d0:0<D):(y.den:Int)∣(D:Int):=by
 obtain⟨i,h⟩:=h;have m:(0:Rat)<(D:Rat):=by exact_mod_cast d0
 have e:y=Rat.divInt i (D:Int):=by
  rw[mN,<-h];show y=y*(D:Rat)/(D:Rat);grind
 have j:y.num*(D:Int)=i*(y.den:Int):=(nQ (iX y) (by lia)).mp (by rw[oe];exact e)
 have a:Cop (y.den:Int) y.num:=λd l c=>by
  have b :=Nat.dvd_gcd (Int.natAbs_dvd_natAbs.mpr c) (by have:=Int.natAbs_dvd_natAbs.mpr l;rwa[mY]at this);rw[show Nat.gcd y.num.natAbs y.den=1 from y.reduced]at b;exact Int.natAbs_dvd_natAbs.mp b
 exact a.gauss ⟨i,by rw[j,mH]⟩
theorem Gq.bdA(h:Gq D x)(l:x<=((2^m:Nat):Rat))(l':-((2^m:Nat):Rat)<=x)(d0:0<D)(dn:D<=2^n):Bd (m+n) x:=by
 rcases(Rat.le_total:(0:Rat)<=x∨x<=0) with q|q
 ·exact h.bd q l d0 dn
 ·have:=(h.neg.bd (m:=m) (by grind) (by grind) d0 dn).neg
  rw[Rat.neg_neg]at this;exact this
theorem num_le(l:y<=((2^m:Nat):Rat))(l':-((2^m:Nat):Rat)<=y):y.num.natAbs<=2^m*y.den:=by
 have i:(0:Rat)<(y.den:Rat):=by exact_mod_cast y.den_pos
 have e:(y.num:Rat)=y*(y.den:Rat):=by
  have h:=oe y;rw[mN]at h
  have:=mO (a:=(y.num:Rat)) (show((y.den:Int):Rat)≠0 by show(y.den:Rat)≠0;grind)
  rw[h]at this;exact this.symm
 have o:(y.num:Rat)<=(((2^m*y.den:Nat):Int):Rat):=by
  rw[e,Int.natCast_mul,mF];exact l6 l (lT i)
 have j:((-((2^m*y.den:Nat):Int):Int):Rat)<=(y.num:Rat):=by
  rw[e,Int.natCast_mul,Rat.intCast_neg,mF]
  have:=l6 l' (lT i)
  rw[Rat.neg_mul]at this;exact this
 have p:y.num<=((2^m*y.den:Nat):Int):=by exact_mod_cast o
 have q:-((2^m*y.den:Nat):Int)<=y.num:=by exact_mod_cast j
 omega
theorem gq_tok(h:∀y∈xs,Gq D y/\y<=((2^m:Nat):Rat)/\-((2^m:Nat):Rat)<=y)(d0:0<D)(dd:D<=2^d)(l:xs.length<=32)(s:d+m+6<9000):TOk xs:=by
 have T:∀{b:Int},0<b->b∣(D:Int)->b.natAbs<=2^d:=λo z=>by
  have:=Int.le_of_dvd (by lia) z
  lia
 refine⟨λi t b=>0<b×' b∣(D:Int)×' t.natAbs<=i*2^m*b.natAbs,⟨by decide,Int.one_dvd _,by rw[Nat.zero_mul,Nat.zero_mul];exact k5 _⟩,λi y t b e⟨o,bd,F⟩_=>?_,λi t b Y⟨o,bd,F⟩=>?_,λy Z=>?_⟩
 ·obtain⟨B,A,E⟩:=h y (kZ e);have U:=den_pos y;have O:=B.dv d0;have N:=num_le A E;have G:=dX b (iX y);have J:gcd b y.den∣b:=nV _ _;have L:gcd b y.den∣(y.den:Int):=Int.gcd_dvd_right _ _;generalize P:gcd b y.den=c at G J L⊢;have r:c≠0:=by lia
  obtain⟨u,a⟩:=J;obtain⟨v,j⟩:=L;have H :=Cop.quot P.symm r a j;rw[show(y.den:Int).fdiv c=v by rw[j,jw r],show b.fdiv c=u by rw[a,jw r]];have Q :=Int.pos_of_mul_pos_left (by rw[mH,<-j];exact U) G;refine⟨mQ o Q,?_,?_⟩
  ·obtain⟨p,K⟩:=bd;obtain⟨q,X⟩:=O
   have M:v∣u*p:=by
    refine⟨q,Int.eq_of_mul_eq_mul_left r ?_⟩;rw[<-m5,<-a,<-K,<-m5,<-j,<-X]
   have x:Cop v u:=λz h1 S=>H z S h1;obtain⟨w,hw⟩:=x.gauss M;exact⟨w,by rw[K,hw,m5]⟩
  ·have a1:(t*v).natAbs<=i*2^m*(b*v).natAbs:=by
    rw[l0,l0,<-Nat.mul_assoc];exact m8 _ F
   have a2:(y.num*u).natAbs<=2^m*(b*v).natAbs:=by
    have R:(b*v).natAbs=y.den*u.natAbs:=by
     rw[show b*v=(y.den:Int)*u by rw[a,j,m5,m5,mH u],l0,mY]
    rw[R,l0,<-Nat.mul_assoc];exact m8 _ N
   have a3:=Int.natAbs_add_le (t*v) (y.num*u);rw[Nat.add_mul,Nat.one_mul,Nat.add_mul]
   lia
 ·have I:=T o bd;refine⟨Sm.of_le (n:=d+m+5) ?_ (by lia),Sm.of_le I (by lia)⟩;refine lC F (lC (mZ (m8 _ (lC Y l)) I) ?_);rw[Nat.add_assoc,mK,mK,oj (2^d),oj (2^m)];exact k5 _
 ·obtain⟨B,A,E⟩:=h y Z;exact(B.bdA A E d0 dd).smr (by lia)
theorem sum_keys:∀{ks L:List Str}{g:Str->Rat},ks.Nodup->L.Nodup->(∀n∈ks,n∈L)->(∀n∈L,¬n∈ks->g n=0)->(ks.map g).sum=(L.map g).sum
 |[],L,g,_,_,_,z=>by
  have:∀L:List Str,(∀n∈L,g n=0)->(L.map g).sum=0:=λL=>by
   induction L with
   |nil=>intro _;rfl
   |cons x r ih=>
    intro h;rw[mw,nv,h x lO,ih λn a=>h n (lF _ a),mU]
  rw[this L λn a=>z n a lR];rfl
 |k::r,L,g,n1,n2,sub,z=>by
  obtain⟨b,j⟩:=mB.mp n1;have p:=List.perm_cons_erase (sub k lO);have c:=(p.nodup_iff.mp n2);obtain⟨l,i⟩:=mB.mp c;rw[perm_sum (p.map g),mw,mw,nv,nv]
  congr 1
  refine sum_keys j i (λn a=>?_) λn a h=>?_
  ·exact(List.mem_erase_of_ne λe=>b (by rw[<-e];exact a)).mpr (sub n (lF _ a))
  ·refine z n (List.mem_of_mem_erase a) λy=>?_;rcases lN.mp y with e|e
   ·rw[e]at a;exact l a
   ·exact h e
noncomputable def wS(ns:List WD)(A:Str->Rat):Rat:=(ns.map λd=>d.co*A d.nm).sum
theorem wS_add(ns:List WD)(A B:Str->Rat):wS ns (λn=>A n+B n)=wS ns A+wS ns B:=by
 unfold wS
 induction ns with
 |nil=>exact(mU 0).symm
 |cons d r ih=>
  rw[mw,mw,mw,nv,nv,nv,ih];grind
theorem wS_keys{ks:List Str}{co A:Str->Rat}(nd:(ns.map (·.nm)).Nodup)(ndk:ks.Nodup)(sub:∀n∈ks,n∈ns.map (·.nm))(hco:∀d∈ns,d.co=co d.nm)(z:∀n,¬n∈ks->A n=0):(ks.map λn=>co n*A n).sum=wS ns A:=by
 rw[sum_keys ndk nd sub λn _ h=>by rw[z n h,Rat.mul_zero]];unfold wS;rw[mz]
 congr 1
 exact List.map_congr_left λd a=>by show co d.nm*A d.nm=_;rw[hco d a]
theorem sum_le{xs:List Rat}(h:∀y∈xs,y<=((2^m:Nat):Rat)/\-((2^m:Nat):Rat)<=y)(l:xs.length<=32):xs.sum<=((2^(m+5):Nat):Rat)/\-((2^(m+5):Nat):Rat)<=xs.sum:=by
 have a:∀xs:List Rat,(∀y∈xs,y<=((2^m:Nat):Rat)/\-((2^m:Nat):Rat)<=y)->xs.sum<=(xs.length:Rat)*((2^m:Nat):Rat)/\-((xs.length:Rat)*((2^m:Nat):Rat))<=xs.sum:=λxs=>by
  induction xs with
  |nil=>intro _;rw[List.sum_nil];exact⟨by show(0:Rat)<=0*_;rw[Rat.zero_mul];exact nO,by show-(0*_:Rat)<=0;rw[Rat.zero_mul];decide+kernel⟩
  |cons y r ih=>
   intro h;obtain⟨p,j⟩:=ih λz c=>h z (lF _ c);obtain⟨s,q⟩:=h y lO;rw[nv,mh,Rat.natCast_add];generalize((2^m:Nat):Rat)=u at*;have b:((1:Nat):Rat)=1:=rfl;rw[b,Rat.add_mul,Rat.one_mul];exact⟨by grind,by grind⟩
 obtain⟨i,o⟩:=a xs h
 have e:(xs.length:Rat)*((2^m:Nat):Rat)<=((2^(m+5):Nat):Rat):=by
  rw[<-Rat.natCast_mul]
  have:xs.length*2^m<=2^(m+5):=by rw[mK,oj (2^m)];exact m8 _ l
  exact_mod_cast this
 exact⟨nG i e,by grind⟩
theorem sum_gq{xs:List Rat}(h:∀y∈xs,Gq D y):Gq D xs.sum:=by
 induction xs with
 |nil=>exact Gq.zero
 |cons y r ih=>rw[nv];exact(h y lO).add (ih λz a=>h z (lF _ a))
theorem StOk.legs(O:NsOk E ps ns)(h:StOk A0 ps ns s):∀l,l=s.rg∨l=s.pa∨l=s.tl->(∀d∈l,d∈ns)/\Chain l/\WkS 40 l:=by
 have b:∀l:List WD,l=[]∨(yE1 λp=>RingW ns l×' PthW p l p×' l.length<=4)∨(l≠[]/\yE2 λp q=>PthW p l q×'(p::l.map (·.go)).Nodup×'(∀x∈l,x∈ns)×' l.length<=3)->(∀d∈l,d∈ns)/\Chain l/\WkS 40 l:=λl z=>by
  rcases z with rfl|⟨p,rg,pt,ln⟩|⟨n0,p,q,pt,nd,sub,ln⟩
  ·exact⟨(λd a=>by cases a),(λi x y h=>by cases h),(λd a=>by cases a),by decide,by decide,by decide,nR⟩
  ·exact⟨rg.sub,pt.chain,λd a=>(O.g1 d (rg.sub d a)).2,by lia,by decide,by lia,bL O.nd rg.sub rg.nd⟩
  ·refine⟨sub,pt.chain,λd a=>(O.g1 d (sub d a)).2,by lia,by decide,by lia,bL O.nd sub ?_⟩;obtain⟨j,e⟩:=fL pt n0;rw[<-j,e]at nd;exact(mo.mp nd).1
 intro l c;refine b l ?_;rcases h.kinds with⟨z1,z2,rg,ln,_⟩|⟨p,q,pt,nd,sub,ln,o1,o2⟩
 ·obtain⟨p,pt⟩:=rg.rd;rcases c with rfl|rfl|rfl
  ·exact .inr (.inl ⟨p,rg,pt,ln⟩)
  ·exact .inl z1
  ·exact .inl z2
 ·rcases c with rfl|rfl|rfl
  ·exact o1.imp (·.1) λz=>.inl ⟨p,z.rg,z.pt,z.ln⟩
  ·exact(Classical.em (s.pa=[])).imp id λz=>.inr ⟨z,p,q,pt,nd,sub,ln⟩
  ·exact o2.imp (·.1) λz=>.inl ⟨q,z.rg,z.pt,z.ln⟩
theorem StOk.out(O:NsOk E ps ns)(h:StOk A0 ps ns s)(hn:¬n∈ns.map (·.nm)):sdA s n=0:=by
 have L:=h.legs O
 have o:∀l,l=s.rg∨l=s.pa∨l=s.tl->∀x,sA x l n=0:=λl a x=>iN λz=>by
  obtain⟨d,b,e⟩:=k8.mp z;exact hn (k8.mpr ⟨d,(L l a).1 d b,e⟩)
 unfold sdA enA;rw[o _ (.inl rfl),o _ (.inr (.inl rfl)),o _ (.inl rfl),o _ (.inr (.inr rfl))];grind
theorem Gq.int(h:Gq D x)(i:Int):Gq D ((i:Rat)*x):=by
 obtain⟨j,h⟩:=h;exact⟨i*j,by rw[mF,<-h,nU]⟩
theorem int_le{i:Int}(hi:i.natAbs<=20)(h0:0<=x)(h1:x<=((2^m:Nat):Rat)):(i:Rat)*x<=((2^(m+5):Nat):Rat)/\-((2^(m+5):Nat):Rat)<=(i:Rat)*x:=by
 have e:((2^(m+5):Nat):Rat)=32*((2^m:Nat):Rat):=by rw[mK,oj,Rat.natCast_mul];rfl
 have b:(i:Rat)<=32:=by exact_mod_cast(show i<=32 by lia)
 have a:((-32:Int):Rat)<=(i:Rat):=Rat.intCast_le_intCast.mpr (by lia);rw[show((-32:Int):Rat)=-32 by decide+kernel]at a;have h:=l6 b h0;have c:=l6 a h0;rw[e];exact⟨by grind,by grind⟩
inductive IspCoR(a:Ad)(vs:List V)(H:Hp)(Q:VK):Prop
 |mk(p d e l:Addr)(c:Int)(sp:List Str)(rs:List WR)(E:Nat)(ps:List (Str×Rat))(kvs:List (Key×V))(ks:List Str)(f:Str->Int×Int)(X:List Addr)(ts:List V)(ss:List SD)(h1:vs=[.ref p,.ref d,.ref e,.int c,.ref l])(h2:NetAt a H p ps (rs.map WR.d))(h3:RowsAt H d rs)(h4:RsG sp rs)(h5:(∀r∈rs,r.co=cstF (rs.map (·.nm)) c r.nm))(h6:NsOk E ps (rs.map WR.d))(h7:d≠e)(h8:H e=some (.dK kvs))(h9:Tab DueIs H kvs ks f)(h10:ks.Nodup)(h11:(∀n∈ks,n∈rs.map (·.nm)))(h12:(∀n,Nx 3000 (f n)/\0<(f n).2))(h13:H l=some (.lst ts))(h14:RowAt (StIs a X) H ts ss)(h15:ss.length<=24)(h16:ApD (bM ks λn=>vl (f n)) ps (rs.map WR.d) ss)(h17:∀H',Same H H'->Q (.bl true) H'):IspCoR a vs H Q
noncomputable def spCoR(a:Ad):Sp:=λvs H Q _=>IspCoR a vs H Q
theorem cst_le(ks:List Str)(c:Int)(n:Str):(cstF ks c n).natAbs<=20:=by
 unfold cstF;obtain⟨b,a⟩:=bR (c*(48271+(ks.idxOf n:Int))%1000003) (show(0:Int)<11 by decide)
 lia
theorem j5(T:TX K mg a):FnB P w K mg base CX0 "_law_costs_right" 15 ["_law_net_here","_law_ways_here","_law_due_here","_law_cell","_law_found"] (spCoR a):=by
 refine T.d_law_costs_right.okA sc_law_costs_right λf bu A a0 s H vs Q E hr h=>?_;obtain⟨p,d,e,l,c,sp,M,E',ps,kvs,ks,f,X,ts,ss,rfl,hn,hR,G,ba,O,bh,he,tb,al,aq,hf,hl,ao,bt,AD,k⟩:=h
 refine⟨_,(aD (aH (i:=5) sc_law_costs_right.nd (bP (aA aC (aA aC aB))))
  (aX (bO lH rfl (bZ (pv 4)) (aR (i:=6) sc_law_costs_right.nd) (aF (aH (i:=5) sc_law_costs_right.nd (aO (dO T) hr aJ (aA (pv 5) (aA (aO (ok_law_told T) hr aJ (aA (aO (ok_worth T) hr aJ (aA (pv 0) (aA (aO (ok_strand_plan T) hr aJ (aA (pv 0) (aA (pv 6) aB))) aB))) aB)) aB))))))
  (aD (aH (i:=7) sc_law_costs_right.nd (bP (aA aC (aA aC aB))))
  (aX (fw (bO lH rfl (iR (pv 2)) (aR (i:=8) sc_law_costs_right.nd) (aF (aH (i:=7) sc_law_costs_right.nd (aO (dO T) hr aJ (aA (pv 7) (aA (aO (eM T) hr aJ (aA (cE (bI hr) (pv 2) (pv 8) (λ_ _=>rfl)) (aA (bP (aA (aO (ok_law_cost T) hr aJ (aA (pv 8) (aA (pv 1) (aA (pv 3) aB)))) (aA aC aB))) aB))) aB)))))))
  (aF (aP (jn (eQ op_gt (aK aQ (pv 5) aC) aC) (j3 (aO (jp T) hr aJ (aA (pv 5) (aA (pv 7) aB))))))))))),?_⟩
 walk_at"q"
 generalize aa:i9 _ _=k9
 revert k9
 refine gB λk9 aa=>?_
 have ae:∀x∈M.map WR.d,x.co=((cstF (M.map (·.nm)) c x.nm:Int):Rat):=λx hx=>by
  obtain⟨r,hr,rfl⟩:=k8.mp hx;rw[WR.d_co,WR.d_nm,ba r hr]
 have nms:(M.map WR.d).map (·.nm)=M.map (·.nm):=d_nms M;have ab:=cst_le (M.map (·.nm)) c;generalize bj:cstF (M.map (·.nm)) c=m at ae ab;refine⟨zL2,λt0 a4=>?_⟩;obtain⟨H1,zq,s1,h1⟩:=uG (o:=.tup [.int 0,.int 1]) a4;rw[zq];subst aa;refine dA (λσ' H'=>yE3 λz6 N I=>σ'=[some (.ref p),some (.ref d),some (.ref e),some (.int c),some (.ref l),some (.ref N),z6,none,none]×' Same H H'×' H' N=some (.tup [.int I.1,.int I.2])×' Nx 240000 I×' 0<I.2×' vl I=wS (M.map WR.d) (im ss)) ?_ ?_
 ·refine⟨_,rfl,l,rfl,⟨_,SqL.of (s1 _ _ hl)⟩,cG (K:=K) (a:=l) (xs:=ts) (λi σ U=>i<=ss.length/\yE3 λz6 N I=>σ=[some (.ref p),some (.ref d),some (.ref e),some (.int c),some (.ref l),some (.ref N),z6,none,none]×' Same H U×' U N=some (.tup [.int I.1,.int I.2])×' Nx (9000*i) I×' 0<I.2×' vl I=wS (M.map WR.d) (im (ss.take i))) ⟨lD _,_,t0,(0,1),rfl,s1,h1,⟨lD _,k5 _⟩,by decide,?_⟩ ((by rintro i σ U _⟨_,_,_,_,_,s4,_⟩;exact SqL.of (s4 _ _ hl))) ?_ ?_⟩
  ·rw[nS];show(0:Rat)=_
   have:=wS_add (M.map WR.d) (im []) (im [])
   rw[show(λn=>im [] n+im [] n)=im []from funext λn=>mU 0]at this;grind
  ·rintro i v σ U hv⟨_,z6,N,I,rfl,s4,hq,cn,cb,cv⟩;obtain⟨x,ex,st⟩:=ao.get hv;have hi:=(kY.mp ex).1;have xo:=AD.each x (kZ ex);obtain⟨u,a1,a2,a3,qf,rfl,u0,u1,u2,u3,_,_,_,uf,_⟩:=st.same s4;obtain⟨sb,gz,es⟩:=xo.strand;have L:=xo.legs O;have on:∀{l:List WD}{q:Addr},l=x.rg∨l=x.pa∨l=x.tl->U q=some (.lst (nmV l))->OnNet K a U p q ps (M.map WR.d) l:=λ{l q}hl hq=>⟨hn.mono s4,O.nd,SqL.of hq,(L l hl).1,(L l hl).2.1,by have:=(L l hl).2.2.len;lia⟩;refine⟨_,rfl,_,rfl,_,rfl,_,rfl,p,u,a1,a2,a3,qf,ps,M.map WR.d,x.rg,x.pa,x.tl,x.am,40,6370,rfl,⟨u0,on (.inl rfl) u1,on (.inr (.inl rfl)) u2,on (.inr (.inr rfl)) u3,uf,(L _ (.inl rfl)).2.2,(L _ (.inr (.inl rfl))).2.2,(L _ (.inr (.inr rfl))).2.2⟩,xo.bd,by decide,sb,gz,λr H5 nr s5 pl=>?_⟩;rw[es]at pl;obtain⟨bo,ac,bf,a5,av,br,ah⟩:=pl;obtain⟨D,d0,dd,sz⟩:=xo.szs O;have ag:∀n∈ac,n∈(M.map WR.d).map (·.nm):=λn F=>lZ λz=>(ah n).mp F (xo.out O z)
   have ys:∀y∈ac.map λn=>((m n:Int):Rat)*sdA x n,Gq D y/\y<=((2^905:Nat):Rat)/\-((2^905:Nat):Rat)<=y:=λy hy=>by
    obtain⟨n,_,rfl⟩:=k8.mp hy;exact⟨(sz n).gq.int _,int_le (ab n) (sz n).nn (sz n).le⟩
   have ly:(ac.map λn=>((m n:Int):Rat)*sdA x n).length<=32:=by rw[kX];lia
   have wv:=wS_keys (co:=λn=>((m n:Int):Rat)) O.nd av ag ae λn F=>lZ λz=>F ((ah n).mpr z);have gW:=sum_gq λy hy=>(ys y hy).1;have lW:=sum_le (λy hy=>(ys y hy).2) ly;refine⟨p,r,ps,M.map WR.d,bo,ac,sdA x,λn=>((m n:Int):Rat),rfl,⟨U,hn.mono s4,s5,nr⟩,O.nd,bf,a5,av,by lia,ag,ae,λn _=>⟨((sz n).bd d0 dd).smr (by decide),?_⟩,gq_tok ys d0 dd ly (by decide),λr2 Y bp s6 fr=>?_⟩
   ·refine Bd.smr (n:=5) ⟨?_,?_⟩ (by decide)
    ·show(m n).natAbs<=32
     have:=ab n
     lia
    ·exact Nat.one_le_two_pow
   rw[wv]at gW lW fr;generalize hW:wS (M.map WR.d) (sdA x)=W at gW lW fr;have bW:=gW.bdA lW.1 lW.2 d0 dd;refine⟨r2,W,rfl,fr,λt nt=>?_⟩;obtain⟨J,ad⟩:∃J:Int×Int,J=(W.num,(W.den:Int)):=⟨_,rfl⟩;have pn:Nx 7910 J:=by rw[ad];exact⟨bW.1,by rw[mY];exact bW.2⟩
   have pb:0<J.2:=by rw[ad];exact den_pos W
   have pv:vl J=W:=by rw[ad];exact oe W
   rw[show(HO.tup [.int W.num,.int (W.den:Int)])=.tup [.int J.1,.int J.2]by rw[ad]];obtain⟨H7,zq,s7,h7⟩:=uG (o:=.tup [.int J.1,.int J.2]) nt;rw[zq];have ax:=s5.trans (s6.trans s7);refine⟨N,t,I,J,9000*i,7910,rfl,ax _ _ hq,h7,cn,pn,by lia,λt3 bl=>?_⟩;refine⟨hi,_,t3,plP I J,rfl,(s4.trans ax).trans (aU bl),aE,(cn.plus pn).mono (by lia),mQ cb pb,?_⟩;rw[iJ (by lia) (by lia),cv,pv,lE,ex,lL,show im (ss.take i++[x])=λn=>im (ss.take i) n+sdA x n from funext λn=>jA _ _ n,wS_add,hW]
  ·rintro σ U⟨_,z6,N,I,rfl,s4,hq,cn,cb,cv⟩;rw[ao.1,lA]at cv;exact⟨z6,N,I,rfl,s4,hq,cn.mono (by rw[ao.1];lia),cb,cv⟩
 rintro zU ar σ' U⟨z6,N,I,rfl,s4,hq,cn,cb,cv⟩;subst ar;generalize aa:i9 _ _=k9
 revert k9
 refine gB λk9 aa=>?_;refine⟨zL2,λt5 bc=>?_⟩;obtain⟨H5,zq,s5,h5⟩:=uG (o:=.tup [.int 0,.int 1]) bc;rw[zq];have af:=s4.trans s5
 have bq:ks.length<=12:=by
  have:=dS al aq
  rw[kX]at this
  have:=G.len
  lia
 subst aa;refine dA (λσ' H'=>yE3 λz8 S B=>σ'=[some (.ref p),some (.ref d),some (.ref e),some (.int c),some (.ref l),some (.ref N),z6,some (.ref S),z8]×' Same H5 H'×' H' S=some (.tup [.int B.1,.int B.2])×' Nx 40000 B×' 0<B.2×' vl B=(ks.map λn=>((m n:Int):Rat)*vl (f n)).sum) ?_ ?_
 ·have R:=af _ _ he;have ap:=tb.mono λv x(z:DueIs H v x)=>z.mono af;refine⟨e,.dK kvs,R,(by intro o z q;cases q),_,rfl,e,kvs,rfl,R,λo=>?_⟩
  refine jv (a:=e) (o:=o) (kvs:=kvs) (λi σ Y=>i<=ks.length/\yE3 λz8 S B=>σ=[some (.ref p),some (.ref d),some (.ref e),some (.int c),some (.ref l),some (.ref N),z6,some (.ref S),z8]×' Y e=some (.frz o (.dK kvs))×'(∀b ob,H5 b=some ob->b≠e->Y b=some ob)×' Y S=some (.tup [.int B.1,.int B.2])×' S≠e×' Nx (3010*i) B×' 0<B.2×' vl B=((ks.take i).map λn=>((m n:Int):Rat)*vl (f n)).sum)
   ⟨lD _,_,t5,(0,1),rfl,aE,(λb ob q ne=>by rw[aG ne];exact q),by rw[aG (bB h5 R (by intro z;cases z))];exact h5,bB h5 R (by intro z;cases z),⟨lD _,k5 _⟩,by decide,by rw[nS];rfl⟩ ((by rintro i σ Y _⟨_,_,_,_,_,h,_⟩;exact h)) ?_ ?_
  ·rintro i kv σ Y ay⟨_,z8,S,B,rfl,Z,k6,hw,as,wn,wb,wv⟩;obtain⟨j,ak,e1,ev,t,et,ht⟩:=ap.at_ al ay;have hi:=(kY.mp ak).1;have mk:=kZ ak;have bn:kV kv.1=.str j:=by rw[e1];rfl
   rw[bn];rw[et]at ev;have be:=k6 _ _ ht (bB ht R (by intro z;cases z));refine⟨_,rfl,_,rfl,_,rfl,e,.ref t,rfl,.inl ⟨kvs,Sum.inr j,.inr ⟨o,Z⟩,rfl,ev.symm⟩,?_⟩;obtain⟨bm,a8,a9,_⟩:=hR.mono af;refine⟨_,rfl,_,rfl,_,rfl,d,j,c,bm,M,rfl,.inl (k6 _ _ a8 bh),a9,aq j mk,by have:=G.len;lia,λH7 _ s7=>?_⟩;rw[bj];refine⟨zL2,λt8 a7=>?_⟩;obtain⟨H8,zq,s8,h8⟩:=uG (o:=.tup [.int (m j),.int 1]) a7;rw[zq];have aw:=s7.trans s8;obtain⟨f1,f2⟩:=hf j;have kn:Nx 5 (m j,1):=⟨by have:=ab j;show(m j).natAbs<=32;lia,by show(1:Int).natAbs<=32;decide⟩;refine⟨t,t8,f j,(m j,1),3000,5,rfl,aw _ _ be,h8,f1,kn,by lia,λt9 bb=>?_⟩;obtain⟨H9,zq,s9,h9⟩:=uG (o:=.tup [.int (tmP (f j) (m j,1)).1,.int (tmP (f j) (m j,1)).2]) bb;rw[zq];have an:=aw.trans s9;have tn:=f1.times kn;have tp:0<(tmP (f j) (m j,1)).2:=mQ f2 (zI1)
   have tv:vl (tmP (f j) (m j,1))=((m j:Int):Rat)*vl (f j):=by
    rw[kf (by lia) (by show(1:Int)≠0;decide),show vl (m j,1)=((m j:Int):Rat) from di1 _,Rat.mul_comm]
   generalize tmP (f j) (m j,1)=tc at h9 tn tp tv;refine⟨S,t9,B,tc,3010*i,3005,rfl,an _ _ hw,h9,wn,tn,by lia,λbg ai=>?_⟩;have az:=aU (o:=.tup [.int (plP B tc).1,.int (plP B tc).2]) ai;have aj:=an.trans az;refine⟨hi,_,bg,plP B tc,rfl,aj _ _ Z,(λb ob q ne=>aj _ _ (k6 _ _ q ne)),aE,?_,(wn.plus tn).mono (by lia),mQ wb tp,?_⟩
   ·exact(aN (an _ _ Z) ai).symm
   ·rw[iJ (by lia) (by lia),wv,tv,lE,ak,lL,lj,List.sum_append,List.map_singleton,List.sum_singleton]
  ·rintro σ Y⟨_,z8,S,B,rfl,Z,k6,hw,as,wn,wb,wv⟩;rw[ap.len,lA]at wv;refine⟨o,Z,z8,S,B,rfl,λb ob q=>?_,by rw[aG as];exact hw,wn.mono (by rw[ap.len];lia),wb,wv⟩;by_cases hb:b=e
   ·subst hb;rw[aE,<-R,q]
   ·rw[aG hb];exact k6 _ _ q hb
 rintro zU ar σ' Y⟨z8,S,B,rfl,s6,hw,wn,wb,wv⟩;have au:=s6 _ _ (s5 _ _ hq)
 have a6:vl I=vl B:=by
  rw[cv,wv,<-show bM ks (λn=>vl (f n))=im ss from funext AD.am];refine(wS_keys (co:=λn=>((m n:Int):Rat)) (A:=bM ks λn=>vl (f n)) O.nd al (λn F=>by rw[nms];exact aq n F) ae λn F=>if_neg F).symm.trans ?_
  congr 1
  exact List.map_congr_left λn F=>by rw[show bM ks (λn=>vl (f n)) n=vl (f n) from if_pos F]
 subst ar;refine⟨_,rfl,N,_,_,_,rfl,rfl,SqT.of au,rfl,?_⟩;walk_at"rd"
 refine kP (lQ cb) ?_;exact⟨_,rfl,_,rfl,N,S,I,B,240000,40000,rfl,au,hw,cn,wn,by lia,cb,wb,a6,k Y (af.trans s6)⟩
theorem RowAt.take(d:RowAt R H ts xs)(k:Nat):RowAt R H (ts.take k) (xs.take k):=by
 refine⟨by rw[lI,lI,d.1],λi t x a b=>?_⟩;rw[nE]at a b
 split at a
 ·rw[if_pos ‹_›]at b;exact d.2 i t x a b
 ·cases a
theorem bs_of{rs:List WR}(hN:Names sp n)(hM:Names lb (2*n+4))(n2:2<=n)(n4:n<=4)(l:rs.length=2*n)(h:∀k r,rs[k]?=some r->BaseR sp lb n k r):∃as:Nat->WR,BsX sp lb n as/\∀j,j<2*n->rs[j]?=some (as j):=by
 obtain⟨b,c⟩:∃r,rs[0]?=some r:=⟨_,lz (by lia)⟩
 have at_:∀j,j<2*n->rs[j]?=some (rs.getD j b):=λj a=>by
  rw[List.getD_eq_getElem?_getD,lz (by lia)];rfl
 exact⟨λj=>rs.getD j b,⟨⟨hN.nd,hN.len,λj a=>(h _ _ (at_ j a)).st,λj a=>(h _ _ (at_ j a)).go⟩,λj a=>(h _ _ (at_ j a)).nm,λj a=>(h _ _ (at_ j a)).gs,hM.len,hM.nd,n2,n4⟩,at_⟩
theorem free_rs(hM:Names lb (2*n+4))(n2:2<=n)(l:rs.length<=8)(h:∀k r,rs[k]?=some r->FreeR sp lb k r):RsG sp rs:=by
 have q:=hM.len;refine⟨?_,by lia,λr c=>?_⟩
 ·have e:rs.map (·.nm)=lb.take rs.length:=List.ext_getElem? λk=>by
   rw[lg,nE];by_cases hk:k<rs.length
   ·have g:=lz hk;rw[if_pos hk,g,eO (by lia)];show some rs[k].nm=_;rw[(h k _ g).nm]
   ·rw[if_neg hk,List.getElem?_eq_none (by lia)];rfl
  rw[e];exact hM.nd.sublist (List.take_sublist _ _)
 ·obtain⟨j,i⟩:=lV.mp c;have F:=h j r i;obtain⟨m,a,o,b⟩:=gs200 F.gs;have p:(2:Int)^3<=2^12:=by decide
  exact⟨⟨⟨m,Int.le_trans a p,o,Int.le_trans b p⟩,F.ne,F.st,F.go⟩,dv_base F.gs⟩
theorem RsG.ok(h:RsG sp rs):RsOk sp rs:=⟨h.nd,by have:=h.len;lia,λr a=>(h.all r a).1⟩
theorem RsG.names(h:RsG sp rs):(rs.map WR.d).map (·.nm)=rs.map (·.nm):=by
 rw[mz];exact List.map_congr_left λr _=>WR.d_nm r
theorem RsG.ns(h:RsG sp rs)(nd:sp.Nodup)(l4:sp.length<=4):NsOk EE (kK sp x) (rs.map WR.d):=by
 refine⟨by rw[iT];exact nd,by unfold kK;rw[kX];exact l4,by rw[h.names];exact h.nd,by rw[kX];exact h.len,by decide,by decide,λd b=>?_,λd b=>?_,λd b=>?_⟩
 ·obtain⟨r,a,rfl⟩:=k8.mp b;obtain⟨g1,c,e⟩:=h.gn a;exact⟨g1,c,e.mono (by decide)⟩
 ·obtain⟨r,a,rfl⟩:=k8.mp b;rw[WR.d_st,WR.d_go];exact(h.all r a).1.ne
 ·obtain⟨r,a,rfl⟩:=k8.mp b;rw[iT,WR.d_st,WR.d_go];exact⟨(h.all r a).1.i1,(h.all r a).1.i2⟩
theorem NsOk.sums(O:NsOk E ps ns)(hA:∀n,SzQ D 100 (A n))(d0:0<D)(hD:D*E<=2^250):SumOk A ps ns:=by
 have b:∀n,Bd (100+250) (A n):=λn=>(hA n).bd d0 (lC (Nat.le_mul_of_pos_right D O.e0) hD);refine⟨O.np,by have:=O.lp;lia,O.io,O.ne,λd a=>⟨(O.g1 d a).2.1,(O.g1 d a).2.2.smr (by decide)⟩,λd a=>⟨(b _).smr (by decide),((b _).mul (O.g1 d a).2.2).smr (by decide)⟩,λi s=>?_⟩;obtain⟨h,c,j⟩:=sumF_sz O.e0 hA (ns.take i) (λd a=>O.ne d (List.mem_of_mem_take a)) λd a=>O.g1 d (List.mem_of_mem_take a)
 have e:(((ns.take i).length*2^(100+40):Nat):Rat)<=((2^144:Nat):Rat):=by
  have l:(ns.take i).length<=12:=by
   rw[lI]
   have:=O.ln
   lia
  have:(ns.take i).length*2^(100+40)<=2^144:=lC (m8 _ l) (by decide)
  exact_mod_cast this
 exact(h.bdA (nG c e) (by grind) (Nat.mul_pos d0 O.e0) hD).smr (by decide)
theorem ddee:0<DD/\DD*EE<=2^250:=by decide+kernel
noncomputable def costed(rs:List WR)(c:Int):List WR:=rs.map λr=>{r with co:=cstF (rs.map (·.nm)) c r.nm}
theorem kc(rs:List WR)(c:Int):(costed rs c).map (·.nm)=rs.map (·.nm):=by unfold costed;rw[mz];rfl
theorem costed_co:∀r∈costed rs c,r.co=cstF ((costed rs c).map (·.nm)) c r.nm:=λr a=>by
 rw[kc];obtain⟨y,_,rfl⟩:=k8.mp a;rfl
theorem RsG.costed{sp:List Str}{rs:List WR}(h:RsG sp rs)(c:Int):RsG sp (costed rs c):=by
 refine⟨by rw[kc];exact h.nd,by unfold G.costed;rw[kX];exact h.len,λr b=>?_⟩;obtain⟨y,j,rfl⟩:=k8.mp b;obtain⟨⟨g1,e,i,a⟩,g5⟩:=h.all y j;exact⟨⟨g1,e,i,a⟩,g5⟩
theorem RowsAt.costed{H:Hp}{d:Addr}{rs:List WR}(h:RowsAt H d rs)(c:Int):RowsAt H d (costed rs c):=by
 obtain⟨b,o,m,j,l⟩:=h;refine⟨b,o,by rw[m];unfold G.costed;rw[mz];rfl,j.trans (by unfold G.costed;rw[kX]),λi t x e a=>?_⟩;unfold G.costed at a;rw[lg]at a
 cases ey:rs[i]? with
 |none=>rw[ey]at a;cases a
 |some y=>
  rw[ey]at a
  cases a;exact l i t y e ey
structure St38(a:Ad)(H:Hp)(ls d e p r:Addr)(sp:List Str)(rs:List WR)(c:Int)(kve kvp:List (Key×V))(ks:List Str)(f:Str->Int×Int)(x:Rat):Prop where
 hl:H ls=some (.lst (sp.map V.str))
 nd:sp.Nodup
 l4:sp.length<=4
 hR:RowsAt H d rs
 G:RsG sp rs
 co:∀r∈rs,r.co=cstF (rs.map (·.nm)) c r.nm
 he:H e=some (.dK kve)
 tb:Tab DueIs H kve ks f
 ndk:ks.Nodup
 D:DuO rs 100 3000 ks f
 nde:d≠e
 off:NetOff a H p r (kK sp x) (rs.map WR.d)
 hr:H r=some (.dK kvp)
 tp:Tab (FrIs a) H kvp ks λn=>vl (f n)
theorem St38.mono(h:St38 a H ls d e p r sp rs c kve kvp ks f x)(s:Same H H'):St38 a H' ls d e p r sp rs c kve kvp ks f x:=⟨s _ _ h.hl,h.nd,h.l4,h.hR.mono s,h.G,h.co,s _ _ h.he,h.tb.mono λv x z=>z.mono s,h.ndk,h.D,h.nde,h.off.mono s,s _ _ h.hr,h.tp.mono λv x z=>z.mono s⟩
theorem ok_law(N:Fun K "law" "law" s_law f fd)(T:TX K mg a):FnOk P w K mg base CX0 20 f fd ["_law_script"] (spLaw K):=by
 refine N.okA sc_law λbm A a6 s H vs Q E m h=>?_;obtain⟨l,ns,rfl,hS,bg,bj,k⟩:=h
 refine⟨_,(aD (aH (i:=1) sc_law.nd (aO (cA T) m aJ (aA (pv 0) (aA aC aB))))
  (aD (aH (i:=2) sc_law.nd (aO (kH T) m aJ (aA (aO (cA T) m aJ (aA (pv 0) (aA aC aB))) (aA (aM bQ aC (aM bE (pv 1) aC)) aB))))
  (aD (aH (i:=3) sc_law.nd (aO (kH T) m aJ (aA (aO (cA T) m aJ (aA (pv 0) (aA aC aB))) (aA (aM bQ (aM cR aC (bV cO (by rfl) T.z_len mR (aA (pv 2) aB))) aC) aB))))
  (aD (aH (i:=4) sc_law.nd (aO (ok_law_ways T) m aJ (aA (pv 0) (aA (pv 2) (aA (pv 3) aB)))))
  (aD (aH (i:=5) sc_law.nd (gT ki (aO (ok_law_strands T) m aJ (aA (pv 0) (aA (pv 4) (aA (pv 3) (aA (bV cO (by rfl) T.z_len mR (aA (pv 2) aB)) (aA aC aB)))))) iQ (iP (aM bE (aO (cA T) m aJ (aA (pv 0) (aA aC aB))) aC))))
  (aX (bJ (aS e7 (aM bE (aM cP (pv 1) aC) aC) aC) (aD (aH (i:=4) sc_law.nd (aO (ok_law_free_ways T) m aJ (aA (pv 0) (aA (pv 2) (aA (pv 3) aB)))))
  (aF (aH (i:=5) sc_law.nd (bH aB)))) aV)
  (aD (aH (i:=1) sc_law.nd (aO (cA T) m aJ (aA (pv 0) (aA aC aB))))
  (aD (aH (i:=6) sc_law.nd (aO (ok_law_net T) m aJ (aA (pv 2) (aA (pv 4) (aA (pv 1) aB)))))
  (aD (aH (i:=7) sc_law.nd (aO (ok_law_due T) m aJ (aA (pv 0) (aA (pv 4) (aA (pv 5) aB)))))
  (aX (aH (i:=8) sc_law.nd (aO (ok_law_as_plan T) m aJ (aA (pv 7) aB)))
  (aD (bO lH rfl (dM rfl T.z_range (aA aC aB)) (aR (i:=9) sc_law.nd) (aD (aH (i:=10) sc_law.nd (aO (ok_taken_apart T) m aJ (aA (pv 6) (aA (pv 8) aB))))
  (aD (bJ (PW.pt (pw_or (fM (eo (aO (kI T) m aJ (aA (pv 2) (aA (pv 4) (aA (pv 7) (aA (pv 10) aB))))))) (pw_or1 (fM (eo (aO (j5 T) m aJ (aA (pv 6) (aA (pv 4) (aA (pv 7) (aA (pv 1) (aA (pv 10) aB))))))))))) (aF (aP hX)) aV)
  (aF (bY (pe_bm0 mT PySem.F.slot_list_clear PySem.F.type_list_clear mt_lclear (pv 10)))))))
  (aF (aP hX))))))))))))),?_⟩
 walk_at"q"
 generalize ac:i9 _ _=k9
 revert k9
 refine gB λk9 ac=>?_;refine⟨_,rfl,l,ns,0,rfl,hS,by decide,by decide,λc0=>?_⟩;refine⟨_,rfl,l,ns,1,rfl,hS,by decide,by decide,λc1=>?_⟩;obtain⟨a1,a2⟩:=bR c0 (show(0:Int)<3 by decide);obtain⟨n,en⟩:=nI (show 0<=2+c0%3 by lia);have n2:2<=n:=by lia
 have n4:n<=4:=by lia
 refine⟨_,rfl,_,_,rfl,rfl,zI3,_,_,rfl,rfl,c1,n,by show[V.int c1,V.int (2+c0%3)]=_;rw[en],by lia,λls H1 I be s1 t hN=>?_⟩;refine⟨_,rfl,l,ns,2,rfl,s1.seq hS,by decide,by decide,λc2=>?_⟩;refine⟨_,rfl,ls,_,rfl,.inl (SqL.of t),_,_,rfl,rfl,⟨by decide,by rw[kX,hN.len];exact Sm.of_le (n:=10) (by lia) (by decide)⟩,_,_,rfl,rfl,c2,2*n+4,by rw[kX,hN.len];rfl,by lia,λll H2 lb a9 s2 aq hM=>?_⟩;have a3:=s1.trans s2;have al:=s2 _ _ t;refine⟨_,rfl,_,rfl,_,rfl,l,ls,ll,ns,I,lb,n,rfl,a3.seq hS,SqL.of al,SqL.of aq,hN,n2,n4,hM,λd H3 rs nd s3 hR ln good=>?_⟩;obtain⟨as,B,a0⟩:=bs_of hN hM n2 n4 ln good;have ao:=a3.trans s3;have L:=s3 _ _ al;have M:=s3 _ _ aq;refine⟨_,rfl,_,rfl,_,rfl,_,rfl,ls,_,rfl,.inl (SqL.of L),l,d,ll,ns,rs,I,lb,as,n,by rw[kX,hN.len];rfl,ao.seq hS,hR,B,ln,a0,M,λs0 H4 U ds j bh a4 kp R4 aa a5 G Z=>?_⟩;obtain⟨bp,af,_⟩:=hR;have au:=SqL.kpd (ao.seq hS) af kp;have J:=kp _ _ (bB L af (by intro z;cases z)) L;have ai:=kp _ _ (bB M af (by intro z;cases z)) M;refine⟨_,rfl,l,ns,4,rfl,au,by decide,by decide,λc4=>?_⟩;obtain⟨m4,ba⟩:=nI (Int.emod_nonneg c4 (show(3:Int)≠0 by decide));refine⟨_,_,rfl,rfl,zI3,_,rfl,s0,_,rfl,SqL.of a4,λq nq=>?_⟩;rw[ba,cut_take];obtain⟨H5,zq,X,ap⟩:=uG (o:=.lst (U.take m4)) nq;rw[zq];have ag:=X.seq au;subst ac;refine dA (λσ' H'=>yE6 λd s q rs U ds=>σ'=[some (.ref l),some (.int c0),some (.ref ls),some (.ref ll),some (.ref d),some (.ref s),none,none,none,none,none]×' SqL K H' l (ns.map V.int)×' H' ls=some (.lst (I.map V.str))×' RowsAt H' d rs×' RsG I rs×' H' s=some (.lst U)×' RowAt (SdAt q) H' U ds×' ds.length<=2×'∀x∈ds,SdO rs x.hd x.pa x.ta x.c) ?_ ?_
 ·refine⟨_,rfl,_,_,rfl,rfl,⟨by decide,by decide⟩,_,_,rfl,rfl,zI2,rfl,_,rfl,ifV (λe1=>?_) (λe1=>?_)⟩
  ·refine⟨_,rfl,_,rfl,_,rfl,l,ls,ll,ns,I,lb,n,rfl,ag,SqL.of (X _ _ J),SqL.of (X _ _ ai),hN,n2,n4,hM,λd2 H6 r2 bn s6 R6 l8 fr=>?_⟩;refine⟨zL0,λs2 bc=>?_⟩;have Y:=aU (o:=.lst []) bc;exact⟨d2,s2,s2,r2,[],[],rfl,Y.seq (s6.seq ag),Y _ _ (s6 _ _ (X _ _ J)),R6.mono Y,free_rs hM n2 l8 fr,aE,RowAt.nil,by decide,λx hx=>by cases hx⟩
  ·exact⟨d,q,s0,j,_,ds.take m4,rfl,ag,X _ _ J,R4.mono X,G,ap,(aa.mono λ_ _ z=>z.mono X).take m4,by rw[lI];lia,λx hx=>Z x (List.mem_of_mem_take hx)⟩
 rintro zU bf σ' H6⟨d,s,q,rs,U,ds,rfl,an,t,hR,G,hs,aa,a5,Z⟩;have nd:=hN.nd;have l4:I.length<=4:=by rw[hN.len];exact n4
 subst bf;generalize ac:i9 _ _=k9
 revert k9
 refine gB λk9 ac=>?_;refine⟨_,rfl,l,ns,3,rfl,an,by decide,by decide,λc3=>?_⟩;have G':=G.costed c3;have ad:=costed_co (rs:=rs) (c:=c3);have R':=hR.costed c3;have am:=kc rs c3;generalize costed rs c3=j at G' ad R' am;refine⟨_,rfl,_,rfl,_,rfl,ls,d,I,j,c3,rfl,SqL.of t,nd,by lia,R',G'.ok,ad,λp H7 x np Y aj=>?_⟩;refine⟨_,rfl,_,rfl,_,rfl,l,d,s,q,ns,I,rs,U,ds,rfl,Y.seq an,hR.mono Y,G,Y _ _ hs,aa.mono λ_ _ z=>z.mono Y,a5,Z,λe H8 R f ne s8 du lk D=>?_⟩;obtain⟨⟨ae,he,tb⟩,no⟩:=du;have bo:=dQ R;subst ac;refine⟨λσ' H'=>yE2 λr ab=>σ'=[some (.ref l),some (.int c3),some (.ref ls),some (.ref ll),some (.ref d),some (.ref s),some (.ref p),some (.ref e),some (.ref r),none,none]/\St38 a H' ls d e p r I j c3 ae ab (cC R) f x,?_,?_⟩
 ·refine⟨_,rfl,e,ae,cC R,f,rfl,he,tb,gG R,by lia,λn=>⟨D.nx n,by have:=D.b0 n;lia⟩,λr H9 ab nr s9 a8 tp=>?_⟩;have ax:=s8.trans s9
  have bb:d≠e:=by
   obtain⟨_,z,_⟩:=hR.mono Y;exact aN z ne
  exact⟨r,ab,rfl,ax _ _ (Y _ _ t),nd,l4,(R'.mono Y).mono ax,G',ad,s9 _ _ he,tb.mono λv x z=>z.mono s9,gG R,⟨D.nx,D.b0,D.sz,λn hn=>by rw[am];exact D.inn n (mem_keysOf.mp hn)⟩,bb,⟨H8,aj.mono s8,s9,nr⟩,a8,tp⟩
 generalize cC R=R;rintro σ' H9⟨r,ab,rfl,S9⟩;have O:=S9.G.ns (x:=x) S9.nd S9.l4
 have hA:∀n,SzQ DD 100 (bM R (λn=>vl (f n)) n):=λn=>by
  unfold bM
  split
  ·exact S9.D.sz n
  ·exact SzQ.zero
 refine⟨_,rfl,by decide,by decide,iG (λi σ H2=>yE2 λz9 az=>σ=[some (.ref l),some (.int c3),some (.ref ls),some (.ref ll),some (.ref d),some (.ref s),some (.ref p),some (.ref e),some (.ref r),z9,az]/\Same H9 H2) ⟨none,none,rfl,Same.refl _⟩ ?_ (by rintro σ H2⟨_,_,_,_⟩;exact k H2)⟩;rintro i σ H2 hi⟨z9,az,rfl,s2⟩;have S2:=S9.mono s2;refine⟨_,rfl,_,rfl,p,r,_,_,ab,R,_,EE,DD,rfl,S2.off,O,S2.hr,S2.tp,S2.ndk,by rw[S2.G.names];exact S2.D.inn,λn _=>S2.D.sz n,ddee.1,ddee.2,O.sums hA ddee.1 ddee.2,λlf H3 U ss a7 s3 av aw bl nA ar=>?_⟩;have S:=S2.mono s3
 have ay:ss.length<=24:=by
  have h1:=ar.ct;have h2:=jE (λd:WD=>bM R (λn=>vl (f n)) d.nm) (j.map WR.d);have h3:=jE (bK (bM R λn=>vl (f n)) (j.map WR.d)) ((kK I x).map (·.1));have h4:=O.ln;have h5:=O.lp;rw[kX]at h3
  lia
 refine⟨_,rfl,_,rfl,_,rfl,_,rfl,ls,d,e,lf,I,j,EE,kK I x,ae,R,f,[lf],U,ss,rfl,SqL.of S.hl,S.nd,by have:=S.l4;lia,S.hR,S.G,O,S.nde,S.he,S.tb,S.ndk,S.D.inn,λn=>⟨S.D.nx n,S.D.b0 n⟩,av,aw,ay,ar,λH4 s4=>?_⟩;have S4:=S.mono s4;have ah:=s4 _ _ av;refine⟨_,rfl,iteF ⟨_,rfl,_,rfl,_,rfl,_,rfl,_,rfl,p,d,e,lf,c3,I,j,EE,kK I x,ae,R,f,[lf],U,ss,rfl,S4.off.at_,S4.hR,S4.G,S4.co,O,S4.nde,S4.he,S4.tb,S4.ndk,S4.D.inn,λn=>⟨S4.D.nx n,S4.D.b0 n⟩,ah,aw.mono λv y(z:StIs a [lf] H3 v y)=>z.same s4,ay,ar,λH5 X=>⟨_,rfl,iteF ?_⟩⟩⟩;have ak:=X _ _ ah;refine⟨_,rfl,.inl ⟨rfl,_,SqL.of ak⟩,lf,_,rfl,rfl,ak,_,_,rfl,λb ob q=>?_⟩;have q2:=s2 _ _ q;rw[aG (aN q2 a7)];exact X _ _ (s4 _ _ (s3 _ _ q2))
end
end G
namespace G
open PySem L2
theorem zq0{α:Type}{P:List α->Prop}(h:P []):∀us:List α,us.length=0->P us:=λus e=>by cases us with|nil=>exact h|cons a r=>cases e
theorem zqS{α:Type}{n:Nat}{P:List α->Prop}(h:∀a us,us.length=n->P (a::us)):∀us:List α,us.length=n+1->P us:=λus e=>by cases us with|nil=>cases e|cons a r=>exact h a r (Nat.succ.inj e)
theorem ln1{α:Type}{P:List α->Prop}(h:∀a,P [a]):∀us:List α,us.length=1->P us:=zqS λa=>zq0 (h a)
theorem ln2{α:Type}{P:List α->Prop}(h:∀a b,P [a,b]):∀us:List α,us.length=2->P us:=zqS λa=>zqS λb=>zq0 (h a b)
theorem ln3{α:Type}{P:List α->Prop}(h:∀a b c,P [a,b,c]):∀us:List α,us.length=3->P us:=zqS λa=>zqS λb=>zqS λc=>zq0 (h a b c)
theorem ln4{α:Type}{P:List α->Prop}(h:∀a b c d,P [a,b,c,d]):∀us:List α,us.length=4->P us:=zqS λa=>zqS λb=>zqS λc=>zqS λd=>zq0 (h a b c d)
theorem ln5{α:Type}{P:List α->Prop}(h:∀a b c d e,P [a,b,c,d,e]):∀us:List α,us.length=5->P us:=zqS λa=>zqS λb=>zqS λc=>zqS λd=>zqS λe=>zq0 (h a b c d e)
theorem ln6{α:Type}{P:List α->Prop}(h:∀a b c d e f,P [a,b,c,d,e,f]):∀us:List α,us.length=6->P us:=zqS λa=>zqS λb=>zqS λc=>zqS λd=>zqS λe=>zqS λf=>zq0 (h a b c d e f)
theorem ln7{α:Type}{P:List α->Prop}(h:∀a b c d e f g,P [a,b,c,d,e,f,g]):∀us:List α,us.length=7->P us:=zqS λa=>zqS λb=>zqS λc=>zqS λd=>zqS λe=>zqS λf=>zqS λg=>zq0 (h a b c d e f g)
section
variable{K:W.Frag}{h:Heap}{mg:Str->Option Value}{x qual:Str}{st:Stmt}{f C T:Addr}{fd:FuncData}{ps:List Str}{ds:Array Value}{oc:Value}{od an:Option Addr}{osl:Array (Option Value)}{kV doc pm cdv ct:Value}
noncomputable def BA(x qual:Str)(st:Stmt)(ps:List Str)(us:List Value):Prop:=∀(kV doc pm:Value)(an:Option Addr)(cdv ct:Value),bindArgs (W.fnOf x qual (fH st) (cZ st) (aI st) .none kV doc pm an cdv ct) ⟨us,[]⟩=pure (ps.zip us)
noncomputable def BE(x qual:Str)(st:Stmt)(ps:List Str)(ds:Array Value)(es us:List Value):Prop:=∀(T:Addr)(kV doc pm:Value)(an:Option Addr)(cdv ct:Value),∃k,bindArgs (W.fnOf x qual (fH st) (cZ st) (aI st) (.ref T) kV doc pm an cdv ct) ⟨us,[]⟩=seqItems? (.ref T)>>=k/\k (some ds)=pure (ps.zip (us++es))
theorem bi(N:Fun K x qual st f fd)(b:∀us:List Value,us.length=ps.length->BA x qual st ps us):Binds K fd ps []:=N.binds λkV c i j a e us h=>b us h kV c i j a e
theorem biD{es:List Value}{n:Nat}(N:FunD K x qual st f fd ds)(e:n+es.length=ps.length)(b:∀us:List Value,us.length=n->BE x qual st ps ds es us):Binds K fd ps es:=N.binds λT kV c j l a h us i=>b us (by rw[lG]at i;omega) T kV c j l a h
theorem mD(X:K.In h)(G:h.Ns mainGlobals mg)(a:W.nsIn K mainGlobals x=some (some (.ref f)))(N:Fun K x x st f fd)(b:∀us:List Value,us.length=ps.length->BA x x st ps us):FDe K mg x st ps:=⟨_,_,N,W.mg_of X G a,bi N b⟩
theorem mM(a:W.findIn K (.ref C) x=some (some (.ref f)))(N:Fun K x qual st f fd)(i:W.isFn K (.ref f)=true)(b:∀us:List Value,us.length=ps.length->BA x qual st ps us):MDe K C x qual st ps:=⟨_,_,N,⟨a,i,N.kp⟩,bi N b⟩
theorem mI(a:W.findIn K (.ref C) "__init__"=some (some (.ref f)))(N:Fun K "__init__" qual st f fd)(m:W.makesIn K C=true)(i:W.isFn K (.ref f)=true)(k:W.keepIn K (.ref C)=true)(b:∀us:List Value,us.length=ps.length->BA "__init__" qual st ps us):IDe K C qual st ps [[]]:=⟨_,_,N.gen,⟨m,a,i,k⟩,λe c=>by cases lv.mp c;exact⟨[],.nil,bi N b⟩⟩
theorem mJ{dvss:List (List V)}(a:W.findIn K (.ref C) "__init__"=some (some (.ref f)))(N:FunD K "__init__" qual st f fd ds)(m:W.makesIn K C=true)(i:W.isFn K (.ref f)=true)(k:W.keepIn K (.ref C)=true)(b:FunD K "__init__" qual st f fd ds->∀dvs∈dvss,∃es,Vals dvs es/\Binds K fd ps es):IDe K C qual st ps dvss:=⟨_,_,N.gen,⟨m,a,i,k⟩,b N⟩
theorem all0{P:List V->Prop}:∀d∈([]:List (List V)),P d:=λ_ h=>nomatch h
theorem all1{P:List V->Prop}{d:List V}{r:List (List V)}(h:P d)(k:∀d∈r,P d):∀e∈d::r,P e:=λe a=>by
 rcases lN.mp a with rfl|q
 ·exact h
 ·exact k e q
theorem mCD{n:Nat}(a:W.findCls K (.ref C) (.type "type") "__init__"=some (.val (.ref f)))(N:FunD K "__init__" qual st f fd ds)(r:W.readsIn K C (.type "type")=true)(s:W.specialIn K (.ref C) "__getattribute__"=some (some (.builtin "type.__getattribute__")))(k:W.keepIn K (.ref f)=true)(e:n=ps.length)(b:∀us:List Value,us.length=n->BE "__init__" qual st ps ds [] us):CDe K C qual st ps:=⟨_,_,N.gen,⟨r,s⟩,a,k,biD (es:=[]) N e b⟩
theorem mGi{v:Int}{t:Tok}(X:K.In h)(G:h.Ns mainGlobals mg)(a:W.nsIn K mainGlobals x=some (some (.int v t))):∃tk,mg x=some (.int v tk):=⟨_,W.mg_of X G a⟩
end
theorem top{l:W.OpenLaw}{w:World}{K:W.Frag}{mg:Str->Option Value}{fa A0 A1 A2 A3 A4 A5 A6 A7 A8 A9 A10 A11 A12 A13 A14 A15 A16:Addr}(hfa:mg "law"=some (.ref fa))(T:TX K mg ⟨A0,A1,A2,A3,A4,A5,A6,A7,A8,A9,A10,A11,A12,A13,A14,A15,A16⟩):
  ∃fd:FuncData,(∀(s:Shared)(v:Value),BindsTo s fd ⟨[v],[]⟩ [("_law_script",v)])/\∀base:Heap,K.In base->base.Ns mainGlobals mg->FnOk l.prog w K mg base CX0 20 fa fd ["_law_script"] (spLaw K):=by
 obtain⟨f,fd,N,e,_⟩:=T.d_law
 cases hfa.symm.trans e;obtain⟨m,h,kV,c,j,o,b,i,a,rfl,_,_⟩:=N.ex;exact⟨_,λs v=>.of_eq rfl,λbase _ _=>zz_all (λT f fd N=>ok_law N T) ⟨l.prog,w,K,mg,base,_⟩ T _ _ N⟩
theorem walkL{l:PySem.W.OpenLaw}{q:Program}{loose:List Str}{XP:(Str->Option Value)->Heap->Prop}{YP:World->Heap->Prop}{d:DefRec}{K:Params->W.Frag}(hn:l.most=some 63)(hdf:d.params.defaults=[])
  (hY:∀(w:World)(h:Heap),YP w h->(K w.params).In h)
  (F:∀(w:World)(mg:Str->Option Value)(fa:Addr)(h:Heap),(K w.params).In h->h.Ns mainGlobals mg->mg d.name=some (.ref fa)->
   ∃fd:FuncData,(∀(s:Shared)(u:Value),BindsTo s fd ⟨[u],[]⟩ [("_law_script",u)])/\∀base:Heap,(K w.params).In base->base.Ns mainGlobals mg->FnOk l.prog w (K w.params) mg base CX0 20 fa fd ["_law_script"] (spLaw (K w.params))):
  PySem.W.WalkO q loose XP YP l.row.toRowW d [] (λf vs=>PySem.call f vs):=
 L2.walk_ofB (n:=63) (k:=20) (x:="_law_script") (CX:=λ_=>CX0) (sp:=λw=>spLaw (K w.params)) hn (by decide) hdf ⟨rfl,by decide,by decide⟩ hY F (λ_ _ a ns c j _ b=>⟨a,ns,rfl,b,c,λi e=>⟨j i e⟩,λ_=>rfl⟩) λ_ _ _ _ _ z=>z
end G
inductive PySem.W.Fast:Prop|tw4562615214727665050|tw7505049613629231236|tw90361684158499897|tw2171537159062706474|tw10829384756228491537|tw17334362912144634544|tw9634187245657564728|tw4828265916514608762|tw14455217720908549449|tw4532926119808127586|tw1406790393415563555|tw5494637133094224708|tw7430505797604916351|tw17715929016527147628|tw10973398888166748452|tw12224180564980680175|tw1944593609266971531|tw234360205671403368|tw4280236929575078772|tw12898724149660410222|tw11531994329204154985|tw9390398491352796787|tw5822664296472911449|tw10329065588159064874|tw13253950212424686019|tw17358623618031995367|tw2843645488923518608|tw4706200669218212520|tw1899689619518362558|tw11591919459654458485|tw7208363728387091924|tw10525422398529102804|tw14911148795259278326|tw16296773376494315532|tw9788442451789834091|tw13423371605037183540|tw16460098153490294198|tw5526912661203673926|tw4513324393885049378|tw4663500582265798502|tw4699708114675209173|tw2980291488421474637|tw3847910206763742572|tw12729563301303366745|tw9574760997983089872|tw3028357495077353061|tw4155539127672313923|tw6787061106282949662|tw14407840387030661647|tw12155236211108212372|tw11103536759683918722|tw14246290355808919739|tw8215577561070081558|tw2219693861516730846|tw15711006426754395122|tw7830240226300115326|tw15636271312425858319|tw7748053874837296125|tw16365899685539598020|tw3837569498993695509|tw6651967246107706176|tw10799335059716184986|tw13800540759957898837|tw7998732954654092143|tw8491871753170565415|tw2712660016902911098|tw8363555045611908048|tw8653090989760824995|tw4122428599452617994|tw14258698979378477635|tw3268251461346174117|tw10900455972603939781|tw15497960410757271762|tw2714562889435748708|tw17299149006375080576|tw11448379369831476202|tw10306321894930136197|tw920856169954353581|tw997411357299945231|tw14226284547647930407|tw4221346762034409515|tw12676126732462819546|tw5170897003569493688|tw6182485012424539604|tw3508862570962284382|tw2670581195718618731|tw12675645464337989576|tw16907475661482622599|tw10968712075422865261|tw4454002770835377113|tw12199666912398436731|tw6752387767991315860|tw13745169059525931567|tw2176197320666934319|tw4775163855633515549|tw17427889776859531872|tw16183488555331840834|tw10603752539064096908|tw6095024124615916532|tw13563283481317850415|tw14822104594896073157|tw1233800189536213264|tw8721820748673174765|tw16090188803524852341|tw11698960754093607875|tw12843252222922509861|tw5776296302911808133|tw10617587409288726672|tw9192668960601870816|tw7599461319046126936|tw5611330245402758782|tw8454217201840956495|tw12462587388283736311|tw5131094522952559394|tw4148792321595262245|tw370411055504183006|tw12263414256580213952|tw10139366748598714302|tw16139667021118942831|tw9481605950339187227|tw13201808472315934059|tw15545627296377580885|tw14368546692233092659|tw4828338124692609477|tw14843475404483528778|tw12907030568014267995|tw9944968200698230436|tw9461771076273933899|tw16848188928036509169|tw11736202026654758115|tw15405276246099656664|tw2958221370247128360|tw11030536882216266756|tw16652001263774588844|tw10279617506477013999|tw3929749623391017694|tw13348341739110755570|tw12903023595350752344|tw10665567891894076011|tw11307015918120628085|tw3250050554589680402|tw12845913561432293439|tw663663145293955621|tw9078639784390334476|tw13863002098154525930|tw10129892583164203240|tw13642035635982776311|tw11601525170679588036|tw4466455097873461946|tw10312428138009025642|tw9762373949607610194
open PySem L2 in
local macro_rules | `(tactic| walk_at $s:str) => do
  let v := (s.getString.splitOn " ").toArray
  if v.size < 3 then Lean.Macro.throwUnsupported
  let id (i : Nat) := Lean.mkIdent (Lean.Name.mkSimple s!"o{i}")
  let KX := Lean.mkIdent `KX
  let GN := Lean.mkIdent `GN
  let ln (n : Nat) := Lean.mkIdent (Lean.Name.mkStr2 "G" s!"ln{n}")
  let us (n : Nat) : Lean.MacroM (Lean.TSyntax `term) := do
    let hs ← (Array.range n).mapM fun _ => `(Lean.Parser.Term.funBinder| _)
    `(fun $hs:funBinder* => rfl)
  let ks ← `(tactic| (try dsimp only) <;> k_is)
  if v[0]! == "H" then
    let hs ← (Array.range v[2]!.toNat!).mapM fun i => `(?$(id i):ident)
    return ← `(tactic| refine' G.top $(Lean.mkIdent `hmg) ⟨$hs,*⟩)
  let i0 := v[1]!.toNat!
  let mut ts : Array (Lean.TSyntax `tactic) := #[]
  for (t, j) in (v.extract 2 v.size).zipIdx do
    let c := t.take 1 |>.toString
    let n := (t.drop 1).toString.toNat!
    let i := id (i0 + j)
    if (c == "m") != (v[0]! == "m") then continue
    let r ← match c with
      | "m" => `(tactic| case $i:ident => refine' W.mg_of $KX $GN ?_; k_is)
      | "d" => `(tactic| case $i:ident => refine' G.mD $KX $GN ?a (fun_mk ?l ?c ?k) ($(ln n) $(← us (n + 6))); (case a => k_is); (case l => k_is); (case c => k_is); (case k => k_is))
      | "M" => `(tactic| case $i:ident => dsimp only; refine' G.mM ?a (fun_mk ?l ?c ?k) ?i ($(ln n) $(← us (n + 6))); (case a => k_is); (case l => k_is); (case c => k_is); (case k => k_is); (case i => k_is))
      | "I" => `(tactic| case $i:ident => dsimp only; refine' G.mI ?a (fun_mk ?l ?c ?k) ?m ?i ?j ($(ln n) $(← us (n + 6))); (case a => k_is); (case l => k_is); (case c => k_is); (case k => k_is); (case m => k_is); (case i => k_is); (case j => k_is))
      | "X" => `(tactic| case $i:ident => dsimp only; refine' G.mX ?a (fun_mk ?l ?c ?k) ?t ?e ($(ln n) $(← us (n + 6))); (case a => k_is); (case l => k_is); (case c => k_is); (case k => k_is); (case t => k_is); (case e => kernel_rfl))
      | "C" => `(tactic| case $i:ident => dsimp only; refine' G.mC ?a (fun_mk ?l ?c ?k) ?r ?s ($(ln n) $(← us (n + 6))); (case a => k_is); (case l => k_is); (case c => k_is); (case k => k_is); (case r => k_is); (case s => k_is))
      | "c" => `(tactic| case $i:ident => refine' ⟨?_, ?_, ?_, ?_⟩ <;> $ks:tactic)
      | "n" => `(tactic| case $i:ident => refine' (?_ : W.findIn _ _ _ = _); $ks:tactic)
      | "k" => `(tactic| case $i:ident => $ks:tactic)
      | "t" => `(tactic| case $i:ident => (try dsimp only); kit_is)
      | "x" => `(tactic| case $i:ident => (try dsimp only); k_exc)
      | "e" => `(tactic| case $i:ident => refine' G.mE0 ?a; (case a => $ks:tactic))
      | "b" => `(tactic| case $i:ident => refine' ⟨?_, ?_⟩ <;> $ks:tactic)
      | "g" => `(tactic| case $i:ident => refine' G.mGi $KX $GN ?a; (case a => k_is))
      | "s" => `(tactic| case $i:ident => refine' G.mGs $KX $GN ?a; (case a => k_is))
      | "z" => `(tactic| case $i:ident => refine' W.mg_none_of $KX $GN ?_; k_is)
      | "E" => do
        let e := Lean.mkIdent (Lean.Name.mkStr2 "G" s!"mE{n}")
        `(tactic| case $i:ident => dsimp only; refine' $e ?a ?b ?c ?d; (case a => k_is); (case b => rfl); (case c => rfl); (case d => k_is))
      | _ => continue
    ts := ts.push r
  `(tactic| ($[$ts];*))
open PySem PySem.W PyProof.Rows
set_option maxRecDepth 100000 in
set_option maxHeartbeats 0 in
theorem PySem.Challenge.cw_gainstream_k38_whole_ends_and_costs_holds : PySem.Challenge.rw_gainstream_k38_whole_ends_and_costs.Holds := by
 w_on;o_law;k_head;(case hw=>w_witness2)
 k_fill
 refine G.walkL (l:=PySem.Challenge.rw_gainstream_k38_whole_ends_and_costs) rfl rfl (λ w h Y=>by first | exact PySem.W.kIn_of Y | exact PySem.W.km_in_of Y) ?F
 case F=>
  intro w mg fa h KX GN hmg
  walk_at "H 17 189"
  walk_at "m 60 d1 d1 d2 d1 d4 d5 d1 c0 m0 n0 n0 w0 M2 M2 M2 M2 M2 M1 k0 k0 c0 m0 n0 n0 n0 I4 c0 m0 n0 n0 n0 n0 n0 I3 M4 M2 M2 M2 M4 c0 m0 n0 n0 n0 n0 n0 w0 w0 M1 M2 k0 k0 c0 m0 n0 n0 n0 n0 n0 n0"
  walk_at "m 120 w0 M1 M2 k0 k0 c0 m0 n0 n0 n0 n0 n0 n0 w0 M1 M2 k0 k0 c0 m0 n0 n0 n0 n0 n0 n0 M1 M2 k0 k0 c0 m0 n0 n0 I3 M1 M2 M1 k0 k0 k0 k0 m0 m0 m0 m0 m0 m0 m0 m0 m0 t0 t0 t0 t0 t0 t0 g0 g0 z0"
  walk_at "r 0 d2 d2 d1 d2 d1 d2 d2 d2 d2 d2 d2 d2 d2 d2 d2 d1 d2 d2 d3 d2 d2 d3 d4 d2 d4 d2 d3 d3 d5 d2 d2 d1 d1 d2 d2 d3 d2 d1 d3 d2 d2 d2 d1 d2 d4 d3 d3 d2 d2 d3 d3 d7 d5 d5 d2 d4 d3 d3 d3 d1"
  walk_at "r 60 d1 d1 d2 d1 d4 d5 d1 c0 m0 n0 n0 w0 M2 M2 M2 M2 M2 M1 k0 k0 c0 m0 n0 n0 n0 I4 c0 m0 n0 n0 n0 n0 n0 I3 M4 M2 M2 M2 M4 c0 m0 n0 n0 n0 n0 n0 w0 w0 M1 M2 k0 k0 c0 m0 n0 n0 n0 n0 n0 n0"
  walk_at "r 120 w0 M1 M2 k0 k0 c0 m0 n0 n0 n0 n0 n0 n0 w0 M1 M2 k0 k0 c0 m0 n0 n0 n0 n0 n0 n0 M1 M2 k0 k0 c0 m0 n0 n0 I3 M1 M2 M1 k0 k0 k0 k0 m0 m0 m0 m0 m0 m0 m0 m0 m0 t0 t0 t0 t0 t0 t0 g0 g0 z0"
  walk_at "r 180 z0 z0 z0 z0 z0 z0 z0 z0 z0"
  (case o71=>dsimp only;refine' G.mJ ?a (L2.funD_mk ?l ?c ?t ?d) ?m ?i ?k ?b;(case a=>k_is);(case l=>k_is);(case c=>k_is);(case t=>k_is);(case d=>rfl);(case m=>k_is);(case i=>k_is);(case k=>k_is);(case b=>exact λ N=>G.all1 ⟨[],.nil,G.biD N rfl (G.ln3 λ _ _ _ _ _ _ _ _ _ _=>⟨_,rfl,rfl⟩)⟩ (G.all1 ⟨[.int 1 _],(.cons ⟨_,rfl⟩ (.nil)),G.biD N rfl (G.ln2 λ _ _ _ _ _ _ _ _ _=>⟨_,rfl,rfl⟩)⟩ (G.all0))))
  (case o106=>dsimp only;refine' G.mJ ?a (L2.funD_mk ?l ?c ?t ?d) ?m ?i ?k ?b;(case a=>k_is);(case l=>k_is);(case c=>k_is);(case t=>k_is);(case d=>rfl);(case m=>k_is);(case i=>k_is);(case k=>k_is);(case b=>exact λ N=>G.all1 ⟨[],.nil,G.biD N rfl (G.ln6 λ _ _ _ _ _ _ _ _ _ _ _ _ _=>⟨_,rfl,rfl⟩)⟩ (G.all1 ⟨[.none,.none],(.cons rfl (.cons rfl (.nil))),G.biD N rfl (G.ln4 λ _ _ _ _ _ _ _ _ _ _ _=>⟨_,rfl,rfl⟩)⟩ (G.all0))))
  (case o107=>dsimp only;refine' G.mCD ?a (L2.funD_mk ?l ?c ?t ?d) ?r ?s ?k rfl ?b;(case a=>k_is);(case l=>k_is);(case c=>k_is);(case t=>k_is);(case d=>rfl);(case r=>k_is);(case s=>k_is);(case k=>k_is);(case b=>exact G.ln6 λ _ _ _ _ _ _ _ _ _ _ _ _ _=>⟨_,rfl,rfl⟩))
  (case o120=>dsimp only;refine' G.mJ ?a (L2.funD_mk ?l ?c ?t ?d) ?m ?i ?k ?b;(case a=>k_is);(case l=>k_is);(case c=>k_is);(case t=>k_is);(case d=>rfl);(case m=>k_is);(case i=>k_is);(case k=>k_is);(case b=>exact λ N=>G.all1 ⟨[],.nil,G.biD N rfl (G.ln7 λ _ _ _ _ _ _ _ _ _ _ _ _ _ _=>⟨_,rfl,rfl⟩)⟩ (G.all1 ⟨[.none,.none],(.cons rfl (.cons rfl (.nil))),G.biD N rfl (G.ln5 λ _ _ _ _ _ _ _ _ _ _ _ _=>⟨_,rfl,rfl⟩)⟩ (G.all0))))
  (case o133=>dsimp only;refine' G.mJ ?a (L2.funD_mk ?l ?c ?t ?d) ?m ?i ?k ?b;(case a=>k_is);(case l=>k_is);(case c=>k_is);(case t=>k_is);(case d=>rfl);(case m=>k_is);(case i=>k_is);(case k=>k_is);(case b=>exact λ N=>G.all1 ⟨[],.nil,G.biD N rfl (G.ln7 λ _ _ _ _ _ _ _ _ _ _ _ _ _ _=>⟨_,rfl,rfl⟩)⟩ (G.all1 ⟨[.none,.none],(.cons rfl (.cons rfl (.nil))),G.biD N rfl (G.ln5 λ _ _ _ _ _ _ _ _ _ _ _ _=>⟨_,rfl,rfl⟩)⟩ (G.all0))))
#print axioms PySem.Challenge.cw_gainstream_k38_whole_ends_and_costs_holds




