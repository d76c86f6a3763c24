import PyProof.Rows.All
import Wide.All
import OpenK.AllK
import Wide.FinOn
import Lean
import PyProof.EqAt
import PyProof.EqKinds
import PyProof.TupleCall
import PySem.Challenge.RW_gainstream_k54_the_mosts_paper_looked_at
set_option compiler.extract_closed false
def iK:=@PySem.wpAny_bind
def iL.{u0}:=@List.getElem?_eq_some_iff.{u0}
def iM.{u0,u1}:=@List.length_map.{u0,u1}
def iN:=@PySem.Heap.get?_push_of_some
def iO.{u0}:=@List.getElem?_eq_getElem.{u0}
def iP:=@Nat.le_refl
def iQ:=@PySem.wpAny_pure
def iR.{u0}:=@List.mem_of_getElem?.{u0}
def iS.{u0}:=@List.take_length.{u0}
def iT:=@PySem.Heap.lt_size
def iU.{u0}:=@List.take_add_one.{u0}
def iV.{u0}:=@Option.toList_some.{u0}
def iW:=@decide_eq_true
def iX:=@decide_eq_false
def iY:=@Nat.zero_le
def iZ.{u0,u1}:=@List.mem_map.{u0,u1}
def i3:=@Nat.le_trans
def i4.{u0,u1}:=@List.getElem?_map.{u0,u1}
def i5.{u0,u1}:=@List.map_append.{u0,u1}
def i6.{u0}:=@List.length_take.{u0}
def i7:=@PySem.PassesOwn.never
def i8:=@Bool.false_ne_true
def i9:=@PySem.Heap.get?_push_size
def ja.{u0}:=@List.mem_cons.{u0}
def jb:=@PySem.W.mg_of
def jc.{u0}:=@List.not_mem_nil.{u0}
def jd.{u0}:=@List.length_append.{u0}
def jf:=@Nat.lt_of_le_of_lt
def jg:=@Nat.lt_of_lt_of_le
def jh.{u0}:=@Option.some.inj.{u0}
def jj.{u0}:=@List.size_toArray.{u0}
def jk.{u0}:=@List.mem_append_right.{u0}
def jm:=@Nat.ne_of_lt
def jn.{u0}:=@List.mem_cons_of_mem.{u0}
def jo:=@PySem.wpAny_mono
def jr.{u0}:=@List.length_cons.{u0}
def ju:=@Int.eq_ofNat_of_zero_le
def jv.{u0,u1}:=@List.map_cons.{u0,u1}
def jw:=@PyProof.Rows.boot_isinstance
def jy.{u0,u1}:=@congrArg.{u0,u1}
def jz.{u0,u1,u2}:=@List.map_map.{u0,u1,u2}
def jA:=@Rat.divInt_eq_divInt_iff
def jB:=@PySem.wpAny_field
def jC.{u0}:=@List.length_filter_le.{u0}
def jD:=@Int.natAbs_mul
def jE:=@Nat.lt_irrefl
def jF:=@PySem.sizeLine_eq
def jG:=@of_decide_eq_true
def jH.{u0}:=@List.mem_singleton.{u0}
def jI:=@Int.mul_comm
def jJ:=@PyProof.Rows.boot_dict
def jK:=@PySem.W.kia_one
def jL.{u0}:=@beq_eq_false_iff_ne.{u0}
def jM:=@PySem.mem_of_lookup
def jN.{u0}:=@List.mem_iff_getElem?.{u0}
def jO.{u0}:=@List.filter_cons_of_neg.{u0}
def jP.{u0}:=@List.filter_cons_of_pos.{u0}
def jQ.{u0}:=@List.getElem?_append_right.{u0}
def jR.{u0}:=@List.getD_eq_getElem?_getD.{u0}
def jS.{u0}:=@List.mem_filter.{u0}
def jT.{u0,u1}:=@Option.map_some.{u0,u1}
def jU:=@PySem.Heap.get?_update_other
def jV.{u0}:=@List.length_replicate.{u0}
def jW:=@PySem.wpAny_holding
def jX:=@Bool.true_and
def jY:=@Int.mul_ne_zero
def jZ:=@Bool.false_eq_true
def j4:=@Bool.and_eq_true
def j5.{u0,u1}:=@List.lookup_cons.{u0,u1}
def j6:=@PySem.wpAny_newObj_type
def j7:=@PySem.boot_len
def j8.{u0}:=@List.append_nil.{u0}
def j9:=@PySem.W.methodCall_KW
def kc:=@PySem.W.callWith_K
def ke.{u0}:=@List.all_eq_true.{u0}
def kf:=@Int.gcd_dvd_left
def kg:=@Nat.ne_of_gt
def ki:=@PySem.wpAny_standAt
def kj.{u0}:=@List.sum_cons.{u0}
def kl:=@PySem.W.mg_none_of
set_option Elab.async false
set_option linter.all false
set_option maxRecDepth 100000
namespace L2
open PySem PySem.Spec PyProof.Rows
noncomputable abbrev Key:=Sum Int Str
noncomputable def keyIs:Key→Value→Bool
 | .inl k,v=>Value.isInt k v
 | .inr x,v=>Value.isStrOf x v
noncomputable def keyH (w:World):Key→Int
 | .inl k=>hashInt k
 | .inr x=>hashStr w x
theorem bw:∀ {k:Key} {v:Value},keyIs k v=true→(∃ i t,k=Sum.inl i∧v=Value.int i t)∨(∃ x t,k=Sum.inr x∧v=Value.str x t)
 | .inl i,v,h=>by
  obtain ⟨t,e⟩:=Value.isInt_shape (k:=i) (v:=v) h
  exact .inl ⟨i,t,rfl,e⟩
 | .inr x,v,h=>by
  obtain ⟨t,e⟩:=Value.isStrOf_shape (x:=x) (v:=v) h
  exact .inr ⟨x,t,rfl,e⟩
theorem keyIs_int (i:Int) (t:Tok):keyIs (.inl i) (.int i t)=true:=by simp [keyIs,Value.isInt]
theorem keyIs_str (x:Str) (t:Tok):keyIs (.inr x) (.str x t)=true:=by simp [keyIs,Value.isStrOf]
theorem key_ll (a b:Int):decide ((Sum.inl a:Key)=Sum.inl b)=(a == b):=by
 by_cases e:a=b
 ·subst e;simp
 ·have h:¬ (Sum.inl a:Key)=Sum.inl b:=fun q=>e (Sum.inl.inj q)
  rw [iX h]
  exact (jL.mpr e).symm
theorem key_rr (a b:Str):decide ((Sum.inr a:Key)=Sum.inr b)=decide (a=b):=by
 by_cases e:a=b
 ·subst e;simp
 ·have h:¬ (Sum.inr a:Key)=Sum.inr b:=fun q=>e (Sum.inr.inj q)
  rw [iX h,iX e]
theorem key_lr (a:Int) (b:Str):decide ((Sum.inl a:Key)=Sum.inr b)=false:=iX (fun q=>nomatch q)
theorem key_rl (a:Str) (b:Int):decide ((Sum.inr a:Key)=Sum.inl b)=false:=iX (fun q=>nomatch q)
noncomputable def aY (prog:Program) (w:World):PySem.KeyKind prog w Key where
 is:=keyIs
 hash:=keyH w
 inj:=fun v a b ha hb=>by
  rcases bw ha with ⟨i,t,rfl,rfl⟩ | ⟨x,t,rfl,rfl⟩
  ·rcases bw hb with ⟨j,u,rfl,e⟩ | ⟨y,u,rfl,e⟩
   ·injection e with e1 _;rw [e1]
   ·exact nomatch e
  ·rcases bw hb with ⟨j,u,rfl,e⟩ | ⟨y,u,rfl,e⟩
   ·exact nomatch e
   ·injection e with e1 _;rw [e1]
 byValue:=fun k v h=>by
  rcases bw h with ⟨i,t,rfl,rfl⟩ | ⟨x,t,rfl,rfl⟩ <;> rfl
 pyHash:=fun hv h=>by
  rcases bw hv with ⟨i,t,rfl,rfl⟩ | ⟨x,t,rfl,rfl⟩
  ·exact wpAny_pyHash_int h
  ·exact wpAny_pyHash_str h
 eqBool:=fun hu hv h=>by
  rcases bw hu with ⟨i,t,rfl,rfl⟩ | ⟨x,t,rfl,rfl⟩
  ·rcases bw hv with ⟨j,u,rfl,rfl⟩ | ⟨y,u,rfl,rfl⟩
   ·rw [key_ll] at h;exact wpAny_eqBool_int h
   ·rw [key_lr] at h;exact SeqAt.EqAt.int_str i t y u _ _ _ _ h
  ·rcases bw hv with ⟨j,u,rfl,rfl⟩ | ⟨y,u,rfl,rfl⟩
   ·rw [key_rl] at h;exact SeqAt.EqAt.str_int x t j u _ _ _ _ h
   ·rw [key_rr] at h;exact wpAny_eqBool_str h
 «strs»:=fun k x t v h=>by
  rcases bw h with ⟨i,u,rfl,e⟩ | ⟨y,u,rfl,e⟩
  ·exact nomatch e
  ·injection e with e1 _
   subst e1
   cases v <;> rfl
theorem mixKind_int (prog:Program) (w:World) (i:Int) (t:Tok):(aY prog w).is (.inl i) (.int i t)=true:=keyIs_int i t
theorem mixKind_str (prog:Program) (w:World) (x:Str) (t:Tok):(aY prog w).is (.inr x) (.str x t)=true:=keyIs_str x t
end L2
namespace L2
open PySem PySem.Spec PyProof.Rows
inductive V where
 | non | bl (b:Bool) | int (i:Int) | str (x:Str) | byt (b:Array UInt8) | flt (b:UInt64) | ref (a:Addr) | ty (n:String)
 deriving DecidableEq
noncomputable def RelV:V→Value→Prop
 | .non,u=>u=Value.none
 | .bl b,u=>u=Value.bool b
 | .int i,u=>∃ t,u=Value.int i t
 | .str x,u=>∃ t,u=Value.str x t
 | .byt b,u=>∃ t,u=Value.bytes b t
 | .flt b,u=>∃ t,u=Value.float b t
 | .ref a,u=>u=Value.ref a
 | .ty n,u=>u=Value.type n
noncomputable abbrev Vals:List V→List Value→Prop:=Paired RelV
theorem Vals.length {xs:List V} {us:List Value} (r:Vals xs us):xs.length=us.length:=Paired.length r
theorem Vals.get:∀ {xs:List V} {us:List Value} {i:Nat} {x:V},Vals xs us→xs[i]?=some x→∃ u,us[i]?=some u∧RelV x u
 | _,_,_,_,.nil,e=>by simp at e
 | _,_,0,_,.cons r _,e=>by simp at e;subst e;exact ⟨_,rfl,r⟩
 | _,_,i+1,x,.cons _ t,e=>by
  obtain ⟨u,h1,h2⟩:=Vals.get (i:=i) (x:=x) t (by simpa using e)
  exact ⟨u,by simpa using h1,h2⟩
theorem Vals.append:∀ {xs ys:List V} {us ws:List Value},Vals xs us→Vals ys ws→Vals (xs++ys) (us++ws)
 | _,_,_,_,.nil,s=>s
 | _,_,_,_,.cons r t,s=>.cons r (Vals.append t s)
theorem Vals.take:∀ {xs:List V} {us:List Value} (n:Nat),Vals xs us→Vals (xs.take n) (us.take n)
 | _,_,0,_=>.nil
 | _,_,_+1,.nil=>.nil
 | _,_,n+1,.cons r t=>.cons r (Vals.take n t)
theorem Vals.drop:∀ {xs:List V} {us:List Value} (n:Nat),Vals xs us→Vals (xs.drop n) (us.drop n)
 | _,_,0,r=>r
 | _,_,_+1,.nil=>.nil
 | _,_,n+1,.cons _ t=>Vals.drop n t
noncomputable def RelO:Option V→Option Value→Prop
 | some v,some u=>RelV v u
 | none,none=>True
 | _,_=>False
noncomputable def KV {κ:Type}:List (κ × V)→List (κ × Value)→Prop:=Paired fun (p:κ × V) (q:κ × Value)=>p.1=q.1∧RelV p.2 q.2
noncomputable def kV:Key→V
 | .inl i=>.int i
 | .inr x=>.str x
inductive HO where
 | lst (xs:List V)
 | tup (xs:List V)
 | dK (kvs:List (Key × V)) | dT (kvs:List (List Key × V))
 | set (S:Int→Bool) (n:Nat)
 | ins (C dx:Addr) (fs:List (Str × V))
 | own (x:Addr)
 | xd (fs:List (Str × V))
 | met (f x:Addr)
 | rng (lo hi:Int)
 | frz (o:Obj) (u:HO)
 | tbl (ps:Array Value)
 | ext (φ:Heap→Prop)
noncomputable abbrev Hp:=Addr→Option HO
noncomputable def upd (H:Hp) (a:Addr) (o:HO):Hp:=fun b=>if b=a then some o else H b
theorem ad {H:Hp} {a:Addr} {o:HO}:upd H a o a=some o:=by unfold upd;rw [if_pos rfl]
theorem aj {H:Hp} {a b:Addr} {o:HO} (h:b≠a):upd H a o b=H b:=by unfold upd;rw [if_neg h]
theorem upd_upd {H:Hp} {a:Addr} {o u:HO}:upd (upd H a o) a u=upd H a u:=by
 funext b;unfold upd;split <;> rfl
theorem bh {H:Hp} {a b:Addr} {o u:HO} (h:H a=some o) (h':H b=some u) (d:o≠u):a≠b:=by
 intro e;subst e;rw [h] at h';exact d (jh h')
theorem aB {H:Hp} {a b:Addr} {o:HO} (h:H a=some o) (h':H b=none):a≠b:=by
 intro e;subst e;rw [h] at h';cases h'
section
variable (P:Program) (w:World)
noncomputable def ObjOk (H:Hp) (h:Heap) (a:Addr):HO→Prop
 | .lst xs=>xs.length≤sizeLine∧∃ (its:List Value) (n:Nat),Vals xs its∧h.get? a=some { cls:=.type "list",data:=.seq its.toArray n }
 | .tup xs=>xs.length≤sizeLine∧∃ its:List Value,Vals xs its∧IsTup h a its.toArray
 | .dK kvs=>kvs.length≤sizeLine∧(a == sysModules)=false∧∃ vs,KV kvs vs∧h.DictOf (aY P w) a vs
 | .dT kvs=>kvs.length≤sizeLine∧(a == sysModules)=false∧∃ xs:List (List Key × Addr × Value),
   Paired (fun (p:List Key × V) (q:List Key × Addr × Value)=>p.1=q.1∧H q.2.1=some (.tup (p.1.map kV))∧RelV p.2 q.2.2) kvs xs∧
   ∃ o es ep,h.get? a=some o∧o.ExactDict∧o.data=.dict es ep∧es.toList=xs.map (entryOfKey (tupleKind (aY P w)))∧(xs.map (·.1)).Nodup
 | .set S n=>h.SetOf (intKind P w) a S n
 | .ins C dx fs=>H dx=some (.own a)∧fs.length≤1000∧dx≠a∧h.get? a=some (PySem.W.instObj C dx)∧
   ∃ mA,h.Ns1 dx mA∧(∀ f,RelO (fs.lookup f) (mA f))∧PySem.Within mA (fs.map (·.1))
 | .own _=>∃ o,h.get? a=some o
 | .xd fs=>∃ mA,h.Ns1 a mA∧∀ f,RelO (fs.lookup f) (mA f)
 | .rng lo hi=>∃ t u v,h.get? a=some { cls:=.type "range",data:=.fields #[.int lo t,.int hi u,.int 1 v] }
 | .frz o u=>h.get? a=some o∧ObjOk H h a u
 | .tbl ps=>h.get? a=some { cls:=.none,data:=.fields ps }
 | .met f x=>h.get? a=some (PySem.W.methodObj (.ref f) (.ref x))
 | .ext φ=>φ h∧(∃ o,h.get? a=some o)∧∀ h1 h2:Heap,φ h1→(∀ o,h1.get? a=some o→h2.get? a=some o)→φ h2
noncomputable def HOk (H:Hp) (h:Heap):Prop:=∀ a o,H a=some o→ObjOk P w H h a o
end
section
variable {P:Program} {w:World} {H H':Hp} {h h':Heap} {a:Addr} {o:HO}
theorem ObjOk.lt (x:ObjOk P w H h a o):a<h.objs.size:=by
 cases o with
 | lst xs=>obtain ⟨_,_,_,_,e⟩:=x;exact iT e
 | tup xs=>obtain ⟨_,_,_,p⟩:=x;exact p.lt
 | dK kvs=>obtain ⟨_,_,_,_,o,_,_,e,_⟩:=x;exact iT e
 | dT kvs=>obtain ⟨_,_,_,_,o,_,_,e,_⟩:=x;exact iT e
 | set S n=>obtain ⟨o,_,_,_,e,_⟩:=x;exact iT e
 | ins C dx fs=>obtain ⟨_,_,_,e,_⟩:=x;exact iT e
 | own y=>obtain ⟨_,e⟩:=x;exact iT e
 | xd fs=>obtain ⟨_,⟨_,_,_,e,_⟩,_⟩:=x;exact iT e
 | rng lo hi=>obtain ⟨_,_,_,e⟩:=x;exact iT e
 | frz ob u=>obtain ⟨e,_⟩:=x;exact iT e
 | tbl ps=>exact iT (show h.get? a=some _ from x)
 | met f y=>exact iT (show h.get? a=some _ from x)
 | ext φ=>obtain ⟨_,⟨_,e⟩,_⟩:=x;exact iT e
theorem Paired.mapP {α β:Type} {F G:α→β→Prop}:∀ {l₁:List α} {l₂:List β},Paired F l₁ l₂→(∀ a b,F a b→G a b)→Paired G l₁ l₂
 | _,_,.nil,_=>.nil
 | _,_,.cons r t,f=>.cons (f _ _ r) (Paired.mapP t f)
theorem ObjOk.stay (x:ObjOk P w H h a o) (k:∀ b u,(b=a∨H b=some (.own a))→h.get? b=some u→h'.get? b=some u)
  (ho:∀ b,H b=some (.own a)→H' b=some (.own a)) (ht:∀ b xs,H b=some (.tup xs)→H' b=some (.tup xs)):ObjOk P w H' h' a o:=by
 induction o with
 | lst xs=>obtain ⟨z,its,n,r,e⟩:=x;exact ⟨z,its,n,r,k _ _ (.inl rfl) e⟩
 | tup xs=>obtain ⟨z,its,r,ob,e,c⟩:=x;exact ⟨z,its,r,ob,k _ _ (.inl rfl) e,c⟩
 | dK kvs=>obtain ⟨z,y,vs,r,ob,es,ep,e,c⟩:=x;exact ⟨z,y,vs,r,ob,es,ep,k _ _ (.inl rfl) e,c⟩
 | dT kvs=>
  obtain ⟨z,y,xs,r,ob,es,ep,e,c⟩:=x
  exact ⟨z,y,xs,Paired.mapP r fun p q z=>⟨z.1,ht _ _ z.2.1,z.2.2⟩,ob,es,ep,k _ _ (.inl rfl) e,c⟩
 | set S n=>obtain ⟨ob,es,ep,t,e,c⟩:=x;exact ⟨ob,es,ep,t,k _ _ (.inl rfl) e,c⟩
 | ins C dx fs=>
  obtain ⟨d,z,ne,e,mA,⟨od,es,ep,e2,c⟩,r⟩:=x
  exact ⟨ho _ d,z,ne,k _ _ (.inl rfl) e,mA,⟨od,es,ep,k _ _ (.inr d) e2,c⟩,r⟩
 | own y=>obtain ⟨ob,e⟩:=x;exact ⟨ob,k _ _ (.inl rfl) e⟩
 | xd fs=>obtain ⟨mA,⟨od,es,ep,e,c⟩,r⟩:=x;exact ⟨mA,⟨od,es,ep,k _ _ (.inl rfl) e,c⟩,r⟩
 | rng lo hi=>obtain ⟨t,u,v,e⟩:=x;exact ⟨t,u,v,k _ _ (.inl rfl) e⟩
 | frz ob u ih=>obtain ⟨e,q⟩:=x;exact ⟨k _ _ (.inl rfl) e,ih q⟩
 | tbl ps=>
  have e:h.get? a=some { cls:=.none,data:=.fields ps }:=x
  show h'.get? a=some { cls:=.none,data:=.fields ps }
  exact k a _ (.inl rfl) e
 | met f y=>
  have e:h.get? a=some (PySem.W.methodObj (.ref f) (.ref y)):=x
  show h'.get? a=some (PySem.W.methodObj (.ref f) (.ref y))
  exact k a _ (.inl rfl) e
 | ext φ=>obtain ⟨p,⟨o,e⟩,st⟩:=x;exact ⟨st _ _ p fun o q=>k _ _ (.inl rfl) q,⟨o,k _ _ (.inl rfl) e⟩,st⟩
theorem HOk.lt (x:HOk P w H h) (e:H a=some o):a<h.objs.size:=(x a o e).lt
theorem HOk.fresh (x:HOk P w H h) (e:h.objs.size≤a):H a=none:=by
 cases q:H a with
 | none=>rfl
 | some u=>exact absurd (jg (x.lt q) e) (jE _)
theorem HOk.kept (x:HOk P w H h) (k:∀ b u,h.get? b=some u→h'.get? b=some u):HOk P w H h':=fun a o e=>
 (x a o e).stay (fun b u _ q=>k b u q) (fun _ q=>q) fun _ _ q=>q
theorem HOk.laid (x:HOk P w H h) (k:∀ b u,h.get? b=some u→h'.get? b=some u) (hp:h.objs.size≤a) (new:ObjOk P w (upd H a o) h' a o):HOk P w (upd H a o) h':=fun b u e=>by
 have hn:=x.fresh hp
 by_cases hb:b=a
 ·subst hb;rw [ad] at e;cases e;exact new
 ·rw [aj hb] at e
  exact (x b u e).stay (fun c v _ q=>k c v q) (fun c q=>by rw [aj (aB q hn)];exact q) fun c xs q=>by rw [aj (aB q hn)];exact q
end
noncomputable def Rd (H:Hp) (a:Addr) (u:HO):Prop:=H a=some u∨∃ o,H a=some (.frz o u)
theorem Rd.ok {P:Program} {w:World} {H:Hp} {h:Heap} {a:Addr} {u:HO} (r:Rd H a u) (x:HOk P w H h):ObjOk P w H h a u:=by
 rcases r with r | ⟨o,r⟩
 ·exact x a u r
 ·obtain ⟨_,q⟩:=x a _ r
  exact q
noncomputable def Mut:Option HO→Prop
 | some (.lst _)=>True
 | some (.dK _)=>True
 | some (.dT _)=>True
 | some (.set _ _)=>True
 | some (.ins _ _ _)=>True
 | some (.ext _)=>True
 | _=>False
section
variable {P:Program} {w:World} {H:Hp} {h h':Heap} {x e:Addr} {o':HO}
theorem HOk.write (ok:HOk P w H h) (mu:Mut (H x)) (he:e=x∨H e=some (.own x)) (k:∀ b u,b≠e→h.get? b=some u→h'.get? b=some u) (heo:∃ u,h'.get? e=some u)
  (new:ObjOk P w (upd H x o') h' x o'):HOk P w (upd H x o') h':=fun b u q=>by
 have nown:∀ c y,H c=some (.own y)→c≠x:=fun c y r z=>by subst z;rw [r] at mu;exact mu
 have ntup:∀ c xs,H c=some (.tup xs)→c≠x:=fun c xs r z=>by subst z;rw [r] at mu;exact mu
 by_cases hb:b=x
 ·subst hb;rw [ad] at q;cases q;exact new
 ·rw [aj hb] at q
  by_cases hbe:b=e
  ·have q':H b=some (.own x):=by
    rcases he with z | z
    ·exact absurd (hbe.trans z) hb
    ·rw [hbe];exact z
   rw [q] at q';cases q'
   obtain ⟨v,hv⟩:=heo
   exact ⟨v,by rw [hbe];exact hv⟩
  ·refine (ok b u q).stay (fun c v hc r=>k c v ?_ r) (fun c r=>by rw [aj (nown c b r)];exact r) fun c xs r=>by rw [aj (ntup c xs r)];exact r
   rcases hc with rfl | hc
   ·exact hbe
   ·rintro rfl
    rcases he with z | z
    ·exact nown c b hc z
    ·rw [hc] at z;cases z;exact hb rfl
end
structure Un (fs ex:List Addr) (H H':Hp) (h h':Heap):Prop where
 keep:∀ b o,h.get? b=some o→H b=none→b ∉ fs→b ∉ ex→h'.get? b=some o
 slot:∀ b o,h.get? b=some o→H b=none→b∈fs→b ∉ ex→∃ sl,h'.get? b=some { o with slots:=sl }
 free:∀ b o,h.get? b=some o→H b=none→b ∉ ex→H' b=none
 there:∀ b o,h.get? b=some o→b ∉ ex→∃ o',h'.get? b=some o'
 tups:∀ b xs,H b=some (.tup xs)→H' b=some (.tup xs)
 frzs:∀ b o u,H b=some (.frz o u)→H' b=some (.frz o u)
 tbls:∀ b ps,H b=some (.tbl ps)→∃ more,H' b=some (.tbl (ps++more))
section
variable {fs fs' ex ex':List Addr} {H H1 H2:Hp} {h h1 h2 h':Heap} {a x e:Addr} {o:HO}
theorem Un.any (u:Un fs ex H H1 h h1) {b:Addr} {ob:Obj} (q:h.get? b=some ob) (n:H b=none) (hx:b ∉ ex):∃ sl,h1.get? b=some { ob with slots:=sl }:=by
 by_cases hb:b∈fs
 ·exact u.slot b ob q n hb hx
 ·exact ⟨ob.slots,u.keep b ob q n hb hx⟩
theorem Un.kept (k:∀ b u,h.get? b=some u→h'.get? b=some u):Un fs ex H H h h':=
 ⟨fun b ob q _ _ _=>k b ob q,fun b ob q _ _ _=>⟨ob.slots,k b ob q⟩,fun _ _ _ n _=>n,fun b ob q _=>⟨ob,k b ob q⟩,fun _ _ q=>q,fun _ _ _ q=>q,fun _ ps q=>⟨#[],by rw [q];simp⟩⟩
theorem Un.refl:Un fs ex H H h h:=Un.kept fun _ _ q=>q
theorem Un.laid (k:∀ b u,h.get? b=some u→h'.get? b=some u) (hp:h.objs.size≤a) (hn:H a=none):Un fs ex H (upd H a o) h h' where
 keep:=fun b u q _ _ _=>k b u q
 slot:=fun b u q _ _ _=>⟨u.slots,k b u q⟩
 free:=fun b u q n _=>by rw [aj (jm (jg (iT q) hp))];exact n
 there:=fun b u q _=>⟨u,k b u q⟩
 tups:=fun b xs q=>by rw [aj (aB q hn)];exact q
 frzs:=fun b u xs q=>by rw [aj (aB q hn)];exact q
 tbls:=fun b ps q=>⟨#[],by rw [aj (aB q hn),q];simp⟩
theorem Un.write (mu:Mut (H x)) (he:e=x∨H e=some (.own x)) (k:∀ b u,b≠e→h.get? b=some u→h'.get? b=some u) (heo:∃ u,h'.get? e=some u):Un fs ex H (upd H x o) h h':=by
 have hx:∀ b,H b=none→b≠x:=fun b n z=>by subst z;rw [n] at mu;exact mu
 have hb:∀ b,H b=none→b≠e:=fun b n z=>by
  subst z
  rcases he with r | r
  ·exact hx b n r
  ·rw [n] at r;cases r
 have hm:∀ b u,H b=some u→¬ Mut (some u)→b≠x:=fun b u q nm z=>by subst z;rw [q] at mu;exact nm mu
 refine ⟨fun b u q n _ _=>k b u (hb b n) q,fun b u q n _ _=>⟨u.slots,k b u (hb b n) q⟩,fun b u q n _=>by rw [aj (hx b n)];exact n,fun b u q _=>?_,
  fun b xs q=>by rw [aj (hm b _ q fun z=>z)];exact q,fun b u xs q=>by rw [aj (hm b _ q fun z=>z)];exact q,fun b ps q=>⟨#[],by rw [aj (hm b _ q fun z=>z),q];simp⟩⟩
 by_cases hbe:b=e
 ·subst hbe;exact heo
 ·exact ⟨u,k b u hbe q⟩
end
noncomputable def trk (h:Heap) (H:Hp):List Addr:=(List.range h.objs.size).filter fun a=>(H a).isSome
noncomputable def hidT (h:Heap) (H:Hp):Heap:=PySem.W.hideAll h (trk h H)
theorem hidT_size (h:Heap) (H:Hp):(hidT h H).objs.size=h.objs.size:=PySem.W.hideAll_size _ _
theorem hidT_get {h:Heap} {H:Hp} {b:Addr} {o:Obj} (e:h.get? b=some o) (n:H b=none):(hidT h H).get? b=some o:=
 PySem.W.hideAll_get _ e fun hm=>by
  have q:(H b).isSome=true:=(jS.mp hm).2
  rw [n] at q;simp at q
theorem of_hidT {h:Heap} {H:Hp} {b:Addr} {o:Obj} (e:(hidT h H).get? b=some o):h.get? b=some o∧H b=none:=by
 have e':h.get? b=some o:=PySem.W.of_hideAll (trk h H) e
 refine ⟨e',?_⟩
 cases q:H b with
 | none=>rfl
 | some x=>
  have hm:b∈trk h H:=jS.mpr ⟨List.mem_range.mpr (iT e'),by simp [q]⟩
  have z:(hidT h H).get? b=none:=PySem.W.hideAll_none (trk h H) hm
  rw [z] at e;cases e
noncomputable def allNews (g h:Heap) (L:Addr):List (Addr × Obj):=(List.range h.objs.size).filterMap fun a=>if a=L∨(g.get? a).isSome=true then none else (h.get? a).map fun o=>(a,o)
noncomputable def rest (g h:Heap) (L d:Addr):List (Addr × Obj):=(allNews g h L).filter fun p=>decide (p.1≠d)
end L2
namespace L2
open PySem PySem.Spec PyProof.Rows
structure Mod (K:PySem.W.Frag) (mg:Str→Option Value) (base:Heap):Prop where
 kin:K.In base
 glob:base.Ns mainGlobals mg
 blt:∃ mb,base.Ns builtinsNs mb∧∀ x:Str,x≠"__name__"→mb x=bootBuiltins x
 nolimit:base.NoLimit
structure Cx where
 prog:Program
 w:World
 K:PySem.W.Frag
 mg:Str→Option Value
 base:Heap
 A:Around
 N:List Str
 s₀:Shared
 H₀:Hp
 env:Env
 outer:List Env
 stack:List Env
 ex:List Addr
 fn:Str→Bool
 calm:Bool
 pn:List (Addr × Obj)
 xe:Value→Shared→Prop
noncomputable def frs (l:List Env):List Addr:=l.filterMap (·.frame)
noncomputable abbrev Cx.fs (X:Cx):List Addr:=frs X.outer
noncomputable def Vis (sc:Scope) (x:Str):Prop:=sc.names.lookup x=some .local∨sc.names.lookup x=some .cell∨sc.names.lookup x=some .free
noncomputable def Loc (sc:Scope) (x:Str):Prop:=sc.names.lookup x=some .local∨sc.names.lookup x=some .cell
noncomputable def Look (env:Env) (h:Heap) (m:Str→Option Value) (x:Str) (u:Value):Prop:=
 (env.kindOf x=some .local∧m x=some u)∨((env.kindOf x=some .cell∨env.kindOf x=some .free)∧∃ c,env.cells.lookup x=some c∧h.IsCell c (some u))
structure Cx.Ok (X:Cx):Prop where
 mod:Mod X.K X.mg X.base
 kind:X.env.scope.kind=.function
 glob:X.env.globals=mainGlobals
 blt:X.env.builtins=builtinsNs
 above:X.s₀.heap.objs.size≤X.env.locals
 inj:∀ x y c,X.env.cells.lookup x=some c→X.env.cells.lookup y=some c→x=y
 has:∀ x,(X.env.kindOf x=some .cell∨X.env.kindOf x=some .free)→∃ c,X.env.cells.lookup x=some c
 cab:∀ x c,X.fn x=true→X.env.cells.lookup x=some c→X.s₀.heap.objs.size≤c
 hd:X.calm=true→X.A.handled=none
 frames:X.A.frames=some X.stack
 stk:X.stack=X.outer∨(X.stack=X.env::X.outer∧X.env.frame=some X.env.locals)
 exf:∀ b∈X.ex,b≠X.env.locals∧∀ x c,X.env.cells.lookup x=some c→c≠b
 bs:∀ b o,X.base.get? b=some o→X.s₀.heap.get? b=some o∧X.H₀ b=none
 bsz:X.base.objs.size≤X.s₀.heap.objs.size
 noex:∀ b o,X.base.get? b=some o→b ∉ X.ex
 exfs:∀ b∈X.ex,b ∉ X.fs
 funs:X.s₀.heap.FunFrames X.base X.outer
 frf:∀ b∈X.fs,X.H₀ b=none
structure Inv (X:Cx) (pins:List (Addr × Obj)) (σ:List (Option V)) (H:Hp) (s:Shared):Prop where
 ok:X.Ok
 os:s.os=X.s₀.os
 bare:AllBare s.gens
 base:Un X.fs X.ex X.H₀ H X.s₀.heap s.heap
 loc:∃ m,s.heap.Ns X.env.locals m∧∀ (i:Nat) (x:Str) (v:V),X.N[i]?=some x→σ[i]?=some (some v)→Vis X.env.scope x→∃ u,RelV v u∧Look X.env s.heap m x u
 cell:∀ x c,X.env.cells.lookup x=some c→∃ v,s.heap.IsCell c v
 free:H X.env.locals=none
 freeC:∀ x c,X.env.cells.lookup x=some c→H c=none
 pin:∀ p∈X.pn++pins,s.heap.get? p.1=some p.2∧H p.1=none∧p.1≠X.env.locals∧p.1 ∉ X.fs∧∀ v,p.2.data≠.cell v
 hok:HOk X.prog X.w H s.heap
 len:σ.length=X.N.length
section
variable {X:Cx} {pins:List (Addr × Obj)} {σ:List (Option V)} {H H':Hp} {s:Shared} {h':Heap}
theorem Cx.Ok.nofr (ok:X.Ok) {b:Addr} {o:Obj} (e:X.base.get? b=some o):b ∉ X.fs:=fun hb=>by
 have:=(ok.funs.mem hb).1
 rw [e] at this;cases this
theorem Inv.bs (I:Inv X pins σ H s):∀ b o,X.base.get? b=some o→s.heap.get? b=some o∧H b=none:=fun b o e=>
 ⟨I.base.keep b o (I.ok.bs b o e).1 (I.ok.bs b o e).2 (I.ok.nofr e) (I.ok.noex b o e),I.base.free b o (I.ok.bs b o e).1 (I.ok.bs b o e).2 (I.ok.noex b o e)⟩
theorem Inv.bk (I:Inv X pins σ H s):∀ b o,X.base.get? b=some o→s.heap.get? b=some o:=fun b o e=>(I.bs b o e).1
theorem Inv.mod (I:Inv X pins σ H s):Mod X.K X.mg X.base:=I.ok.mod
theorem Inv.kIn (I:Inv X pins σ H s):X.K.In s.heap:=I.ok.mod.kin.keeps I.bk
theorem Inv.lt (I:Inv X pins σ H s):X.env.locals<s.heap.objs.size:=by
 obtain ⟨_,hn,_⟩:=I.loc
 exact hn.lt
theorem Inv.sz (I:Inv X pins σ H s):X.s₀.heap.objs.size≤s.heap.objs.size:=i3 I.ok.above (Nat.le_of_lt I.lt)
theorem Inv.nofs (I:Inv X pins σ H s) {a:Addr} (h:s.heap.objs.size≤a):a ∉ X.fs:=fun hb=>by
 obtain ⟨_,o,ho,_⟩:=I.ok.funs.mem hb
 exact absurd (jg (iT ho) (i3 I.sz h)) (jE _)
theorem Inv.cne (I:Inv X pins σ H s):∀ x c,X.env.cells.lookup x=some c→c≠X.env.locals:=fun x c e z=>by
 obtain ⟨v,o,ho,hd⟩:=I.cell x c e
 obtain ⟨m,⟨o',es,ep,ho',hd',_⟩,_⟩:=I.loc
 rw [z,ho'] at ho;cases ho;rw [hd'] at hd;cases hd
theorem Inv.funs (I:Inv X pins σ H s):s.heap.FunFrames X.base X.outer:=by
 have all:∀ (l:List Env),(∀ b∈frs l,b∈X.fs)→X.s₀.heap.FunFrames X.base l→s.heap.FunFrames X.base l:=by
  intro l
  induction l with
  | nil=>intro _ _;trivial
  | cons env r ih=>
   intro hs hl
   obtain ⟨hk,⟨L,o,hf,hn,ho,hd⟩,hr⟩:=hl
   have hL:L∈X.fs:=hs L (by unfold frs;rw [List.filterMap_cons,hf];exact List.mem_cons_self)
   obtain ⟨sl,e⟩:=I.base.slot L o ho (I.ok.frf L hL) hL fun z=>I.ok.exfs L z hL
   exact ⟨hk,⟨L,_,hf,hn,e,hd⟩,ih (fun b hb=>hs b (by unfold frs;rw [List.filterMap_cons,hf];exact jn _ hb)) hr⟩
 exact all X.outer (fun _ hb=>hb) I.ok.funs
theorem Inv.stack (I:Inv X pins σ H s):s.heap.FunFrames X.base X.stack:=by
 rcases I.ok.stk with e | ⟨e,hf⟩
 ·rw [e];exact I.funs
 ·rw [e]
  obtain ⟨m,hn,_⟩:=I.loc
  refine .cons (by rw [I.ok.kind];decide) hf hn ?_ I.funs
  exact Heap.get?_none_of_le (i3 I.ok.bsz I.ok.above)
theorem Inv.stkSub (I:Inv X pins σ H s):∀ b∈frs X.stack,b∈X.env.locals::X.fs:=fun b hb=>by
 rcases I.ok.stk with e | ⟨e,hf⟩
 ·rw [e] at hb;exact jn _ hb
 ·rw [e] at hb
  unfold frs at hb
  rw [List.filterMap_cons,hf] at hb
  exact hb
theorem Inv.stkFree (I:Inv X pins σ H s):∀ b∈frs X.stack,H b=none:=fun b hb=>by
 rcases ja.mp (I.stkSub b hb) with e | hb
 ·rw [e];exact I.free
 ·obtain ⟨_,o,ho,_⟩:=I.ok.funs.mem hb
  exact I.base.free b o ho (I.ok.frf b hb) fun z=>I.ok.exfs b z hb
theorem Inv.step {g':Array GenState} {t':Nat} {d':Drawn} {ch:List Addr} (I:Inv X pins σ H s)
  (hch:∀ b∈ch,(b∈X.ex∨X.s₀.heap.objs.size≤b)∧b≠X.env.locals∧(∀ x c,X.env.cells.lookup x=some c→c≠b)∧∀ p∈X.pn++pins,p.1≠b)
  (keep:∀ b o,b≠X.env.locals→b ∉ X.fs→b ∉ ch→s.heap.get? b=some o→H b=none→h'.get? b=some o)
  (slot:∀ b o,b≠X.env.locals→b∈X.fs→b ∉ ch→s.heap.get? b=some o→H b=none→∃ sl,h'.get? b=some { o with slots:=sl }) (free:∀ b o,b ∉ ch→s.heap.get? b=some o→H b=none→H' b=none)
  (there:∀ b o,b ∉ ch→s.heap.get? b=some o→∃ o',h'.get? b=some o')
  (tups:∀ b xs,H b=some (.tup xs)→H' b=some (.tup xs)) (frzs:∀ b o u,H b=some (.frz o u)→H' b=some (.frz o u)) (tbls:∀ b ps,H b=some (.tbl ps)→∃ more,H' b=some (.tbl (ps++more)))
  (ns:∀ m,s.heap.Ns X.env.locals m→h'.Ns X.env.locals m) (hok:HOk X.prog X.w H' h') (hg:AllBare g') :
  Inv X pins σ H' { s with heap:=h',gens:=g',drawn:=d',toks:=t' }:=by
 have neL:∀ b o,X.s₀.heap.get? b=some o→b≠X.env.locals:=fun b o e=>jm (jg (iT e) I.ok.above)
 have neC:∀ b o,X.s₀.heap.get? b=some o→b ∉ X.ex→b ∉ ch:=fun b o e hx hb=>by
  rcases (hch b hb).1 with z | z
  ·exact hx z
  ·exact absurd (jg (iT e) z) (jE _)
 have cellK:∀ x c,X.env.cells.lookup x=some c→∀ v,s.heap.IsCell c v→h'.IsCell c v:=fun x c e v ⟨o,ho,hd⟩=>by
  have nch:c ∉ ch:=fun z=>(hch c z).2.2.1 x c e rfl
  by_cases hc:c∈X.fs
  ·obtain ⟨sl,q⟩:=slot c o (I.cne x c e) hc nch ho (I.freeC x c e)
   exact ⟨_,q,hd⟩
  ·exact ⟨o,keep c o (I.cne x c e) hc nch ho (I.freeC x c e),hd⟩
 refine ⟨I.ok,I.os,hg,⟨fun b o e n hb hx=>?_,fun b o e n hb hx=>?_,fun b o e n hx=>?_,fun b o e hx=>?_,fun b xs e=>tups b xs (I.base.tups b xs e),fun b o xs e=>frzs b o xs (I.base.frzs b o xs e),fun b ps e=>?_⟩,?_,fun x c e=>?_,?_,fun x c e=>?_,fun p hp=>?_,hok,I.len⟩
 ·exact keep b o (neL b o e) hb (neC b o e hx) (I.base.keep b o e n hb hx) (I.base.free b o e n hx)
 ·obtain ⟨sl,e1⟩:=I.base.slot b o e n hb hx
  obtain ⟨sl',e2⟩:=slot b _ (neL b o e) hb (neC b o e hx) e1 (I.base.free b o e n hx)
  exact ⟨sl',e2⟩
 ·obtain ⟨o',e1⟩:=I.base.there b o e hx
  exact free b o' (neC b o e hx) e1 (I.base.free b o e n hx)
 ·obtain ⟨o',e1⟩:=I.base.there b o e hx
  exact there b o' (neC b o e hx) e1
 ·obtain ⟨m1,e1⟩:=I.base.tbls b ps e
  obtain ⟨m2,e2⟩:=tbls b _ e1
  exact ⟨m1++m2,by rw [e2,Array.append_assoc]⟩
 ·obtain ⟨m,hn,hl⟩:=I.loc
  refine ⟨m,ns m hn,fun i x v e1 e2 e3=>?_⟩
  obtain ⟨u,r,l⟩:=hl i x v e1 e2 e3
  refine ⟨u,r,?_⟩
  rcases l with l | ⟨k,c,e,z⟩
  ·exact .inl l
  ·exact .inr ⟨k,c,e,cellK x c e _ z⟩
 ·obtain ⟨v,z⟩:=I.cell x c e
  exact ⟨v,cellK x c e v z⟩
 ·obtain ⟨m,⟨o,_,_,ho,_⟩,_⟩:=I.loc
  exact free _ o (fun z=>(hch _ z).2.1 rfl) ho I.free
 ·obtain ⟨v,o,ho,hd⟩:=I.cell x c e
  exact free c o (fun z=>(hch c z).2.2.1 x c e rfl) ho (I.freeC x c e)
 ·obtain ⟨e,n,ne,nf,d⟩:=I.pin p hp
  have nch:p.1 ∉ ch:=fun z=>(hch p.1 z).2.2.2 p hp rfl
  exact ⟨keep p.1 p.2 ne nf nch e n,free p.1 p.2 nch e n,ne,nf,d⟩
theorem Inv.un {t':Nat} (I:Inv X pins σ H s) (u:Un X.fs [] H H' s.heap h') (hok:HOk X.prog X.w H' h'):Inv X pins σ H' { s with heap:=h',toks:=t' }:=by
 obtain ⟨m,⟨o,es,ep,ho,r⟩,_⟩:=id I.loc
 obtain ⟨sl,hL⟩:=u.any ho I.free (by simp)
 exact I.step (g':=s.gens) (d':=s.drawn) (ch:=[]) (fun _ z=>nomatch z) (fun b o _ hb _ e n=>u.keep b o e n hb (by simp)) (fun b o _ hb _ e n=>u.slot b o e n hb (by simp)) (fun b o _ e n=>u.free b o e n (by simp)) (fun b o _ e=>u.there b o e (by simp)) u.tups u.frzs u.tbls (fun m' hm=>by
  obtain ⟨o',es',ep',ho',r'⟩:=hm
  rw [ho] at ho';cases ho'
  exact ⟨_,es',ep',hL,r'⟩) hok I.bare
theorem Inv.call {g':Array GenState} {t':Nat} {d':Drawn} {ch:List Addr} (I:Inv X pins σ H s) (u:Un (frs X.stack) ch H H' s.heap h') (hok:HOk X.prog X.w H' h') (hg:AllBare g')
  (hch:∀ b∈ch,(b∈X.ex∨X.s₀.heap.objs.size≤b)∧b≠X.env.locals∧(∀ x c,X.env.cells.lookup x=some c→c≠b)∧∀ p∈X.pn++pins,p.1≠b) :
  Inv X pins σ H' { s with heap:=h',gens:=g',drawn:=d',toks:=t' }:=by
 obtain ⟨m,⟨o,es,ep,ho,r⟩,_⟩:=id I.loc
 obtain ⟨sl,hL⟩:=u.any ho I.free fun z=>(hch _ z).2.1 rfl
 exact I.step (ch:=ch) hch (fun b o hL hb hc e n=>u.keep b o e n (fun z=>(ja.mp (I.stkSub b z)).elim hL hb) hc) (fun b o _ _ hc e n=>u.any e n hc) (fun b o hc e n=>u.free b o e n hc) (fun b o hc e=>u.there b o e hc) u.tups u.frzs u.tbls (fun m' hm=>by
  obtain ⟨o',es',ep',ho',r'⟩:=hm
  rw [ho] at ho';cases ho'
  exact ⟨_,es',ep',hL,r'⟩) hok hg
theorem Inv.turned {t':Nat} {it:Addr} (I:Inv X pins σ H s) (k:∀ b o,b≠it→s.heap.get? b=some o→h'.get? b=some o) (hn:H it=none) (hL:it≠X.env.locals)
  (h1:it∈X.ex∨X.s₀.heap.objs.size≤it) (h2:∀ x c,X.env.cells.lookup x=some c→c≠it) (h3:∀ p∈X.pn++pins,p.1≠it):Inv X pins σ H { s with heap:=h',toks:=t' }:=by
 have nit:∀ b u,H b=some u→b≠it:=fun b u e z=>by rw [z,hn] at e;cases e
 refine I.step (g':=s.gens) (d':=s.drawn) (ch:=[it]) (fun b hb=>?_) (fun b o _ _ hc e _=>k b o (fun z=>hc (by simp [z])) e) (fun b o _ _ hc e _=>⟨o.slots,k b o (fun z=>hc (by simp [z])) e⟩) (fun _ _ _ _ n=>n)
  (fun b o hc e=>⟨o,k b o (fun z=>hc (by simp [z])) e⟩) (fun _ _ e=>e) (fun _ _ _ e=>e) (fun b ps e=>⟨#[],by rw [e];simp⟩) (fun m hm=>?_) (fun b u e=>?_) I.bare
 ·have e:b=it:=by simpa using hb
  subst e
  exact ⟨h1,hL,h2,h3⟩
 ·obtain ⟨o,es,ep,ho,r⟩:=hm
  exact ⟨o,es,ep,k _ o (Ne.symm hL) ho,r⟩
 ·refine (I.hok b u e).stay (fun c v hc q=>k c v ?_ q) (fun _ q=>q) fun _ _ q=>q
  rcases hc with z | z
  ·rw [z];exact nit b u e
  ·exact nit c _ z
theorem Inv.tok (I:Inv X pins σ H s) (t:Nat):Inv X pins σ H { s with toks:=t }:=I.un (h':=s.heap) (t':=t) Un.refl I.hok
theorem Inv.kept {t':Nat} (I:Inv X pins σ H s) (k:∀ b u,s.heap.get? b=some u→h'.get? b=some u):Inv X pins σ H { s with heap:=h',toks:=t' }:=I.un (Un.kept k) (I.hok.kept k)
theorem Inv.laid {a:Addr} {o:HO} {t':Nat} (I:Inv X pins σ H s) (k:∀ b u,s.heap.get? b=some u→h'.get? b=some u) (hp:s.heap.objs.size≤a) (new:ObjOk X.prog X.w (upd H a o) h' a o) :
  Inv X pins σ (upd H a o) { s with heap:=h',toks:=t' }:=I.un (Un.laid k hp (I.hok.fresh hp)) (I.hok.laid k hp new)
theorem Inv.write {x e:Addr} {o:HO} {t':Nat} (I:Inv X pins σ H s) (mu:Mut (H x)) (he:e=x∨H e=some (.own x)) (k:∀ b u,b≠e→s.heap.get? b=some u→h'.get? b=some u) (heo:∃ u,h'.get? e=some u)
  (new:ObjOk X.prog X.w (upd H x o) h' x o):Inv X pins σ (upd H x o) { s with heap:=h',toks:=t' }:=I.un (Un.write mu he k heo) (I.hok.write mu he k heo new)
theorem Inv.pins_of {pins':List (Addr × Obj)} (I:Inv X pins σ H s) (h:∀ p∈pins',s.heap.get? p.1=some p.2∧H p.1=none∧p.1≠X.env.locals∧p.1 ∉ X.fs∧∀ v,p.2.data≠.cell v):Inv X pins' σ H s:=
 ⟨I.ok,I.os,I.bare,I.base,I.loc,I.cell,I.free,I.freeC,fun p hp=>(List.mem_append.mp hp).elim (fun z=>I.pin p (List.mem_append_left _ z)) (h p),I.hok,I.len⟩
theorem nodup_ix {N:List Str} (hN:N.Nodup) {i j:Nat} {x:Str} (a:N[i]?=some x) (b:N[j]?=some x):i=j:=by
 obtain ⟨h1,e1⟩:=iL.mp a
 obtain ⟨h2,e2⟩:=iL.mp b
 exact (List.getElem_inj hN).mp (e1.trans e2.symm)
theorem store_ok2 {M:Model} {A:Around} {E:Value→Shared→Prop} {i:Nat} {x:Str} {v:V} {u:Value} {Q:Unit→Shared→Prop} (I:Inv X pins σ H s) (hN:X.N.Nodup) (hi:X.N[i]?=some x) (hx:Loc X.env.scope x) (r:RelV v u)
  (h:∀ s',Inv X pins (σ.set i (some v)) H s'→(∃ a,Heap.SameBut a s.heap s'.heap∧(a=X.env.locals∨X.env.cells.lookup x=some a))→Q () s') (hf:X.fn x=true∨X.env.scope.names.lookup x=some .local:=by first | exact .inl rfl | exact .inr rfl | assumption):wpAny M A (storeName X.env x u) Q E s:=by
 obtain ⟨m,hn,hl⟩:=id I.loc
 have hcls:(X.env.scope.kind == .class || (X.env.scope.kind == .module && X.env.locals != X.env.globals))=false:=by rw [I.ok.kind];rfl
 have hiσ:i < σ.length:=by rw [I.len];exact (iL.mp hi).1
 have cne:=I.cne
 have tracked:∀ {a:Addr} {h':Heap},(∃ o,s.heap.get? a=some o∧H a=none)→Heap.SameBut a s.heap h'→HOk X.prog X.w H h':=fun {a h'} ha hs b ob e=>by
  obtain ⟨_,_,hfree⟩:=ha
  refine (I.hok b ob e).stay (fun c w' hc q=>(hs.2 c ?_).trans q) (fun _ q=>q) fun _ _ q=>q
  rintro rfl
  rcases hc with rfl | hc
  ·rw [hfree] at e;cases e
  ·rw [hfree] at hc;cases hc
 rcases hx with hk | hk
 ·refine wpAny_storeName_local hk hn (fun h' hn' hs=>?_) hcls
  obtain ⟨oL,_,_,hoL,_⟩:=id hn
  refine h _ ⟨I.ok,I.os,I.bare,⟨fun b o e n hb hx=>?_,fun b o e n hb hx=>?_,I.base.free,fun b o e hx=>?_,I.base.tups,I.base.frzs,I.base.tbls⟩,⟨_,hn',fun j y v' e1 e2 e3=>?_⟩,fun y c e=>?_,I.free,I.freeC,fun p hp=>?_,tracked ⟨oL,hoL,I.free⟩ hs,by simpa using I.len⟩ ⟨_,hs,.inl rfl⟩
  ·exact (hs.2 b (jm (jg (iT e) I.ok.above))).trans (I.base.keep b o e n hb hx)
  ·obtain ⟨sl,e1⟩:=I.base.slot b o e n hb hx
   exact ⟨sl,(hs.2 b (jm (jg (iT e) I.ok.above))).trans e1⟩
  ·obtain ⟨o',e1⟩:=I.base.there b o e hx
   exact ⟨o',(hs.2 b (jm (jg (iT e) I.ok.above))).trans e1⟩
  ·by_cases hj:j=i
   ·subst hj
    rw [hi] at e1;cases e1
    rw [List.getElem?_set_self hiσ] at e2
    cases e2
    exact ⟨u,r,.inl ⟨hk,by simp⟩⟩
   ·rw [List.getElem?_set_ne (Ne.symm hj)] at e2
    obtain ⟨u',r',q⟩:=hl j y v' e1 e2 e3
    refine ⟨u',r',?_⟩
    rcases q with ⟨k,e⟩ | ⟨k,c,e,z⟩
    ·refine .inl ⟨k,?_⟩
     have:y≠x:=fun e=>hj (nodup_ix hN e1 (e ▸ hi))
     simp [this,e]
    ·exact .inr ⟨k,c,e,z.sameBut hs (cne y c e)⟩
  ·obtain ⟨w',z⟩:=I.cell y c e
   exact ⟨w',z.sameBut hs (cne y c e)⟩
  ·obtain ⟨e,n,ne,nf,d⟩:=I.pin p hp
   exact ⟨(hs.2 p.1 ne).trans e,n,ne,nf,d⟩
 ·have hfn:X.fn x=true:=by
   rcases hf with z | z
   ·exact z
   ·rw [z] at hk;cases hk
  obtain ⟨c,hc⟩:=I.ok.has x (.inl hk)
  obtain ⟨w',z⟩:=I.cell x c hc
  refine wpAny_storeName_cell I.ok.kind hk hc z (fun h' hc' hs=>?_)
  obtain ⟨oc,hoc,hocd⟩:=id z
  refine h { s with heap:=h' } ⟨I.ok,I.os,I.bare,⟨fun b o e n hb hx=>?_,fun b o e n hb hx=>?_,I.base.free,fun b o e hx=>?_,I.base.tups,I.base.frzs,I.base.tbls⟩,⟨m,hn.sameBut hs (Ne.symm (cne x c hc)),fun j y v' e1 e2 e3=>?_⟩,fun y c' e=>?_,I.free,I.freeC,fun p hp=>?_,tracked ⟨oc,hoc,I.freeC x c hc⟩ hs,by simpa using I.len⟩ ⟨c,hs,.inr hc⟩
  ·exact (hs.2 b (jm (jg (iT e) (I.ok.cab x c hfn hc)))).trans (I.base.keep b o e n hb hx)
  ·obtain ⟨sl,e1⟩:=I.base.slot b o e n hb hx
   exact ⟨sl,(hs.2 b (jm (jg (iT e) (I.ok.cab x c hfn hc)))).trans e1⟩
  ·obtain ⟨o',e1⟩:=I.base.there b o e hx
   exact ⟨o',(hs.2 b (jm (jg (iT e) (I.ok.cab x c hfn hc)))).trans e1⟩
  ·by_cases hj:j=i
   ·subst hj
    rw [hi] at e1;cases e1
    rw [List.getElem?_set_self hiσ] at e2
    cases e2
    exact ⟨u,r,.inr ⟨.inl hk,c,hc,hc'⟩⟩
   ·rw [List.getElem?_set_ne (Ne.symm hj)] at e2
    obtain ⟨u',r',q⟩:=hl j y v' e1 e2 e3
    refine ⟨u',r',?_⟩
    rcases q with q | ⟨k,c',e,z'⟩
    ·exact .inl q
    ·refine .inr ⟨k,c',e,z'.sameBut hs ?_⟩
     rintro rfl
     exact hj (nodup_ix hN e1 (I.ok.inj _ _ _ e hc ▸ hi))
  ·by_cases hcc:c'=c
   ·subst hcc;exact ⟨_,hc'⟩
   ·obtain ⟨w2,z2⟩:=I.cell y c' e
    exact ⟨w2,z2.sameBut hs hcc⟩
  ·obtain ⟨e,n,ne,nf,d⟩:=I.pin p hp
   refine ⟨(hs.2 p.1 ?_).trans e,n,ne,nf,d⟩
   intro q
   rw [q,hoc] at e
   have q':oc=p.2:=jh e
   exact d w' (by rw [← q'];exact hocd)
theorem store_ok {M:Model} {A:Around} {E:Value→Shared→Prop} {i:Nat} {x:Str} {v:V} {u:Value} {Q:Unit→Shared→Prop} (I:Inv X pins σ H s) (hN:X.N.Nodup) (hi:X.N[i]?=some x) (hx:Loc X.env.scope x) (r:RelV v u)
  (h:∀ s',Inv X pins (σ.set i (some v)) H s'→Q () s') (hf:X.fn x=true∨X.env.scope.names.lookup x=some .local:=by first | exact .inl rfl | exact .inr rfl | assumption):wpAny M A (storeName X.env x u) Q E s:=
 store_ok2 I hN hi hx r (fun s' I' _=>h s' I') hf
theorem Inv.call' {s':Shared} {ch:List Addr} (I:Inv X pins σ H s) (ho:s'.os=s.os) (u:Un (frs X.stack) ch H H' s.heap s'.heap) (hok:HOk X.prog X.w H' s'.heap) (hg:AllBare s'.gens)
  (hch:∀ b∈ch,(b∈X.ex∨X.s₀.heap.objs.size≤b)∧b≠X.env.locals∧(∀ x c,X.env.cells.lookup x=some c→c≠b)∧∀ p∈X.pn++pins,p.1≠b):Inv X pins σ H' s':=by
 obtain ⟨h',g',d',t',o'⟩:=s'
 have e:o'=s.os:=ho
 subst e
 exact I.call (g':=g') (t':=t') (d':=d') u hok hg hch
end
noncomputable abbrev XK:=Value→Option Addr→Hp→Prop
noncomputable abbrev St:=List (Option V)
noncomputable abbrev VK:=V→Hp→Prop
noncomputable abbrev TE:=St→Hp→VK→Prop
noncomputable abbrev TT:=St→Hp→(Bool→Hp→Prop)→Prop
noncomputable abbrev TA:=St→Hp→(List V→Hp→Prop)→Prop
structure Ends where
 nx:St→Hp→Prop
 rt:VK
 bk:St→Hp→Prop:=fun _ _=>False
 ct:St→Hp→Prop:=fun _ _=>False
noncomputable abbrev TS:=Ends→St→Hp→Prop
noncomputable def EP (X:Cx) (pins:List (Addr × Obj)) (σ:St) (Q:VK) (u:Value) (s':Shared):Prop:=∃ v H',Inv X pins σ H' s'∧RelV v u∧Q v H'
noncomputable def TP (X:Cx) (pins:List (Addr × Obj)) (σ:St) (Q:Bool→Hp→Prop) (b:Bool) (s':Shared):Prop:=∃ H',Inv X pins σ H' s'∧Q b H'
noncomputable def AP (X:Cx) (pins:List (Addr × Obj)) (σ:St) (Q:List V→Hp→Prop) (us:List Value) (s':Shared):Prop:=∃ vs H',Inv X pins σ H' s'∧Vals vs us∧Q vs H'
noncomputable def SP (X:Cx) (pins:List (Addr × Obj)) (D:Ends) (f:Flow) (s':Shared):Prop:=
 match f with
 | .next=>∃ σ' H',Inv X pins σ' H' s'∧D.nx σ' H'
 | .brk=>∃ σ' H',Inv X pins σ' H' s'∧D.bk σ' H'
 | .cont=>∃ σ' H',Inv X pins σ' H' s'∧D.ct σ' H'
 | .ret u=>∃ v σ' H',Inv X pins σ' H' s'∧RelV v u∧D.rt v H'
noncomputable def PE (X:Cx) (e:Expr) (t:TE):Prop:=
 ∀ (pins:List (Addr × Obj)) (s:Shared) (σ:St) (H:Hp) (Q:VK),Inv X pins σ H s→t σ H Q→wpAny (model X.prog X.w) X.A (eval e X.env) (EP X pins σ Q) X.xe s
noncomputable def PT (X:Cx) (e:Expr) (t:TT):Prop:=
 ∀ (pins:List (Addr × Obj)) (s:Shared) (σ:St) (H:Hp) (Q:Bool→Hp→Prop),Inv X pins σ H s→t σ H Q→wpAny (model X.prog X.w) X.A (isTrue e X.env (eval e X.env)) (TP X pins σ Q) X.xe s
noncomputable def PW (X:Cx) (e:Expr) (t:TT):Prop:=
 ∀ (whole:Sem Value) (pins:List (Addr × Obj)) (s:Shared) (σ:St) (H:Hp) (Q:Bool→Hp→Prop),Inv X pins σ H s→t σ H Q→wpAny (model X.prog X.w) X.A (isTrue e X.env whole) (TP X pins σ Q) X.xe s
theorem PW.pt {X:Cx} {e:Expr} {t:TT} (h:PW X e t):PT X e t:=h _
noncomputable def PA (X:Cx) (es:List Expr) (t:TA):Prop:=
 ∀ (pos:Pos) (pins:List (Addr × Obj)) (s:Shared) (σ:St) (H:Hp) (Q:List V→Hp→Prop),Inv X pins σ H s→t σ H Q→wpAny (model X.prog X.w) X.A (spliced (backTo pos (starEach es X.env))) (AP X pins σ Q) X.xe s
noncomputable def PS (X:Cx) (st:Stmt) (t:TS):Prop:=
 ∀ (pins:List (Addr × Obj)) (s:Shared) (σ:St) (H:Hp) (D:Ends),Inv X pins σ H s→t D σ H→wpAny (model X.prog X.w) X.A (exec st X.env) (SP X pins D) X.xe s
noncomputable def PSs (X:Cx) (st:List Stmt) (t:TS):Prop:=
 ∀ (pins:List (Addr × Obj)) (s:Shared) (σ:St) (H:Hp) (D:Ends),Inv X pins σ H s→t D σ H→wpAny (model X.prog X.w) X.A (execs st X.env) (SP X pins D) X.xe s
theorem thn {α:Type} {t:Sem α} {Q Q':α→Shared→Prop} {M:Model} {A:Around} {E:Value→Shared→Prop} {s:Shared} (h:wpAny M A t Q E s) (hQ:∀ a s,Q a s→Q' a s):wpAny M A t Q' E s:=jo h hQ fun _ _ x=>x
end L2
namespace L2
open PySem PySem.Spec PyProof.Rows
section
variable {X:Cx}
inductive ItVar (i:Nat) (σ:St) (H:Hp) (Q:VK):Prop
 | mk (v:_) (h1:σ[i]?=some (some v)) (h2:Q v H):ItVar i σ H Q
noncomputable def tVar (i:Nat):TE:=fun σ H Q=>ItVar i σ H Q
noncomputable def tC (v:V):TE:=fun _ H Q=>Q v H
theorem pe_var {i:Nat} {x:Str} {pos:Pos} (hN:X.N[i]?=some x) (hv:Vis X.env.scope x) (hd:(x == ("__debug__":Str))=false:=by decide) (hcd:(x == ("__classdict__":Str))=false:=by decide):PE X (.Name x pos) (tVar i):=by
 intro pins s σ H Q I h
 obtain ⟨v,e,h⟩:=h
 obtain ⟨m,hn,hl⟩:=I.loc
 obtain ⟨u,r,l⟩:=hl i x v hN e hv
 have fin:EP X pins σ Q u s:=⟨v,H,I,r,h⟩
 rcases l with ⟨hk,hm⟩ | ⟨hk,c,hc,hcell⟩
 ·exact wpAny_Name (wpAny_loadName_local I.ok.kind hk hn hm fin) hd
 ·rcases hk with hk | hk
  ·exact wpAny_Name (wpAny_loadName_cell I.ok.kind hk hc hcell fin) hd
  ·exact wpAny_Name (wpAny_loadName_free I.ok.kind hk hc hcell fin hcd) hd
theorem ac {i j pos}:PE X (.Constant (.int i) j pos) (tC (.int i)):=fun _ _ _ H _ I h=>wpAny_Constant_int ⟨.int i,H,I.tok _,⟨_,rfl⟩,h⟩
theorem b9 {b j pos}:PE X (.Constant (.bool b) j pos) (tC (.bl b)):=fun _ _ _ H _ I h=>Constant_bool ⟨.bl b,H,I,rfl,h⟩
theorem b8 {j pos}:PE X (.Constant .none j pos) (tC .non):=fun _ _ _ H _ I h=>Constant_none ⟨.non,H,I,rfl,h⟩
theorem ek {x j pos}:PE X (.Constant (.str x) j pos) (tC (.str x)):=fun _ _ _ H _ I h=>Calls.Constant_str ⟨.str x,H,I.tok _,⟨_,rfl⟩,h⟩
noncomputable def Gl (X:Cx) (x:Str):Prop:=X.env.kindOf x=some .globalImplicit
theorem e7 {E:Value→Shared→Prop} {pins:List (Addr × Obj)} {s:Shared} {σ:St} {H:Hp} {x:Str} {u:Value} {pos:Pos} {Q:Value→Shared→Prop} (I:Inv X pins σ H s) (hg:Gl X x) (hm:X.mg x=some u) (h:Q u s)
  (hd:(x == ("__debug__":Str))=false:=by decide):wpAny (model X.prog X.w) X.A (eval (.Name x pos) X.env) Q E s:=
 Calls.Name_function_global I.ok.kind hg (Calls.loadGlobal_global (by rw [I.ok.glob];exact I.mod.glob.keeps I.bk) hm h) hd
theorem ld_blt {E:Value→Shared→Prop} {pins:List (Addr × Obj)} {s:Shared} {σ:St} {H:Hp} {x:Str} {u:Value} {pos:Pos} {Q:Value→Shared→Prop} (I:Inv X pins σ H s) (hg:Gl X x) (hm:X.mg x=none) (hv:bootBuiltins x=some u) (h:Q u s)
  (hn:x≠"__name__":=by decide) (hd:(x == ("__debug__":Str))=false:=by decide):wpAny (model X.prog X.w) X.A (eval (.Name x pos) X.env) Q E s:=by
 obtain ⟨mb,h1,h2⟩:=I.mod.blt
 exact Calls.Name_function_global I.ok.kind hg (Calls.loadGlobal_builtin (by rw [I.ok.glob];exact I.mod.glob.keeps I.bk) hm (by rw [I.ok.blt];exact h1.keeps I.bk) ((h2 x hn).trans hv) h) hd
theorem iz {x:Str} {v:V} {u:Value} {pos:Pos} (hg:Gl X x) (hm:X.mg x=some u) (r:RelV v u) (hd:(x == ("__debug__":Str))=false:=by decide):PE X (.Name x pos) (tC v):=
 fun _ _ _ H _ I h=>e7 I hg hm ⟨v,H,I,r,h⟩ hd
theorem pe_bltn {x:Str} {v:V} {u:Value} {pos:Pos} (hg:Gl X x) (hm:X.mg x=none) (hv:bootBuiltins x=some u) (r:RelV v u) (hn:x≠"__name__":=by decide) (hd:(x == ("__debug__":Str))=false:=by decide):PE X (.Name x pos) (tC v):=
 fun _ _ _ H _ I h=>ld_blt I hg hm hv ⟨v,H,I,r,h⟩ hn hd
noncomputable def t2I (ta tb:TE) (k:Int→Int→Hp→Prop):St→Hp→Prop:=fun σ H=>ta σ H fun x H1=>tb σ H1 fun y H2=>∃ i j,x=.int i∧y=.int j∧k i j H2
variable {a b:Expr} {ta tb:TE} {pos:Pos}
noncomputable def PC (X:Cx) (op:CmpOp) (a b:Expr) (t:TE):Prop:=
 ∀ (pins:List (Addr × Obj)) (s:Shared) (σ:St) (H:Hp) (Q:VK),Inv X pins σ H s→t σ H Q→
  wpAny (model X.prog X.w) X.A (eval a X.env) (fun v s₁=>wpAny (model X.prog X.w) X.A (eval b X.env) (fun u s₂=>wpAny (model X.prog X.w) X.A (compareOp op v u) (EP X pins σ Q) X.xe s₂) X.xe s₁) X.xe s
noncomputable def tCmp (p:Int→Int→Bool) (ta tb:TE):TE:=fun σ H Q=>t2I ta tb (fun i j H2=>Q (.bl (p i j)) H2) σ H
inductive ItB (Q:Bool→Hp→Prop) (x:V) (H1:Hp):Prop
 | mk (c:_) (h1:x=.bl c) (h2:Q c H1):ItB Q x H1
noncomputable def tB (t:TE):TT:=fun σ H Q=>t σ H fun x H1=>ItB Q x H1
theorem gE {op:CmpOp} {t:TE} (h:PC X op a b t) (h1:behindInMarks op b=false:=by first | exact nobehind _ (by decide) (by decide) | rfl):PT X (.Compare a [op] [b] pos) (tB t):=by
 intro pins s σ H Q I hw
 refine wpAny_isTrue_Compare1 (thn (h pins s σ H _ I hw) fun v s1 h1=>thn h1 fun u s2 h2=>thn h2 fun c s3 ⟨x,H1,I1,r1,q1⟩=>?_) h1
 obtain ⟨d,rfl,q⟩:=q1
 cases r1
 exact wpAny_truthy_bool ⟨H1,I1,q⟩
theorem cU {e:Expr} {t:TE} (h:PE X e t) (he:∀ whole,isTrue e X.env whole=(do let v ← whole;standAt e.pos;holding [v] (truthy v)):=by intro _;rfl):PT X e (tB t):=by
 intro pins s σ H Q I hw
 refine isTrue_plain (thn (h pins s σ H _ I hw) fun v s1 ⟨x,H1,I1,r1,q1⟩=>?_) (he _)
 obtain ⟨d,rfl,q⟩:=q1
 cases r1
 exact wpAny_truthy_bool ⟨H1,I1,q⟩
variable {tA tB':TT} {rest:List Expr}
noncomputable def tAnd (t u:TT):TT:=fun σ H Q=>t σ H fun c H1=>if c=true then u σ H1 Q else Q false H1
noncomputable def tOr (t u:TT):TT:=fun σ H Q=>t σ H fun c H1=>if c=true then Q true H1 else u σ H1 Q
noncomputable def tNot (t:TT):TT:=fun σ H Q=>t σ H fun c H1=>Q (!c) H1
theorem gf (ha:PT X a tA):PW X (.BoolOp .And [a] pos) tA:=by
 intro wh pins s σ H Q I h
 refine isTrue_and (thn (ha pins s σ H Q I h) fun c s1 e=>?_)
 cases c with
 | true=>exact isTrue_and_nil e
 | false=>exact e
theorem fL (ha:PT X a tA):PW X (.BoolOp .Or [a] pos) tA:=by
 intro wh pins s σ H Q I h
 refine isTrue_or (thn (ha pins s σ H Q I h) fun c s1 e=>?_)
 cases c with
 | false=>exact isTrue_or_nil e
 | true=>exact e
theorem gD (ha:PT X a tA) (hb:PW X (.BoolOp .And (b::rest) pos) tB'):PW X (.BoolOp .And (a::b::rest) pos) (tAnd tA tB'):=by
 intro wh pins s σ H Q I h
 refine isTrue_and (thn (ha pins s σ H _ I h) fun c s1 ⟨H1,I1,q1⟩=>?_)
 cases c with
 | true=>exact hb wh pins s1 σ H1 Q I1 q1
 | false=>exact ⟨H1,I1,q1⟩
theorem g7 (ha:PT X a tA) (hb:PW X (.BoolOp .Or (b::rest) pos) tB'):PW X (.BoolOp .Or (a::b::rest) pos) (tOr tA tB'):=by
 intro wh pins s σ H Q I h
 refine isTrue_or (thn (ha pins s σ H _ I h) fun c s1 ⟨H1,I1,q1⟩=>?_)
 cases c with
 | true=>exact ⟨H1,I1,q1⟩
 | false=>exact hb wh pins s1 σ H1 Q I1 q1
theorem eN (ha:PT X a tA):PT X (.UnaryOp .Not a pos) (tNot tA):=by
 intro pins s σ H Q I h
 exact isTrue_not (ha pins s σ H (fun c H1=>Q (!c) H1) I h)
noncomputable def tAndV (ta tb:TE):TE:=fun σ H Q=>ta σ H fun x H1=>∃ c,x=.bl c∧if c=true then tb σ H1 Q else Q (.bl false) H1
theorem pe_one {op} {t:TE} (h:PE X a t):PE X (.BoolOp op [a] pos) t:=fun pins s σ H Q I hw=>BoolOp_one (h pins s σ H Q I hw)
theorem pe_and (ha:PE X a ta) (hb:PE X (.BoolOp .And (b::rest) pos) tb):PE X (.BoolOp .And (a::b::rest) pos) (tAndV ta tb):=by
 intro pins s σ H Q I h
 refine BoolOp_and (thn (ha pins s σ H _ I h) fun v s1 ⟨x,H1,I1,r1,q1⟩=>?_)
 obtain ⟨c,rfl,q1⟩:=q1
 cases r1
 refine wpAny_truthy_bool ?_
 cases c with
 | true=>exact hb pins s1 σ H1 Q I1 q1
 | false=>exact ⟨.bl false,H1,I1,rfl,q1⟩
noncomputable def tIf (t:TT) (ta tb:TE):TE:=fun σ H Q=>t σ H fun c H1=>if c=true then ta σ H1 Q else tb σ H1 Q
theorem pe_ifExp {c:Expr} (hc:PT X c tA) (ha:PE X a ta) (hb:PE X b tb):PE X (.IfExp c a b pos) (tIf tA ta tb):=by
 intro pins s σ H Q I h
 refine wpAny_IfExp (thn (hc pins s σ H _ I h) fun d s1 ⟨H1,I1,q1⟩=>?_)
 cases d with
 | true=>exact ha pins s1 σ H1 Q I1 q1
 | false=>exact hb pins s1 σ H1 Q I1 q1
end
end L2
namespace L2
open PySem PySem.Spec PyProof.Rows
noncomputable def SqL (K:PySem.W.Frag) (H:Hp) (a:Addr) (xs:List V):Prop:=
 Rd H a (.lst xs)∨
  ∃ (o:Obj) (its:Array Value) (n:Nat),K.lookup a=some o∧o.cls=.type "list"∧o.dict=none∧o.data=.seq its n∧its.size≤sizeLine∧Vals xs its.toList
noncomputable def SqT (K:PySem.W.Frag) (H:Hp) (a:Addr) (xs:List V):Prop:=
 Rd H a (.tup xs)∨
  ∃ (o:Obj) (its:Array Value) (n:Nat),K.lookup a=some o∧o.cls=.type "tuple"∧o.data=.seq its n∧its.size≤sizeLine∧Vals xs its.toList
noncomputable def absV:Value→Option V
 | .none=>some .non
 | .bool b=>some (.bl b)
 | .int i _=>some (.int i)
 | .str x _=>some (.str x)
 | .bytes b _=>some (.byt b)
 | .float b _=>some (.flt b)
 | .ref a=>some (.ref a)
 | .type n=>some (.ty n)
 | _=>none
theorem RelV.abs {x:V} {u:Value} (r:RelV x u):absV u=some x:=by
 cases x with
 | non=>cases r;rfl
 | bl _=>cases r;rfl
 | int _=>obtain ⟨t,rfl⟩:=r;rfl
 | str _=>obtain ⟨t,rfl⟩:=r;rfl
 | byt _=>obtain ⟨t,rfl⟩:=r;rfl
 | flt _=>obtain ⟨t,rfl⟩:=r;rfl
 | ref _=>cases r;rfl
 | ty _=>cases r;rfl
theorem RelV.inj {x y:V} {u:Value} (r:RelV x u) (q:RelV y u):x=y:=jh (r.abs.symm.trans q.abs)
theorem Vals.inj:∀ {xs ys:List V} {us:List Value},Vals xs us→Vals ys us→xs=ys
 | _,_,_,.nil,.nil=>rfl
 | _,_,_,.cons r t,.cons r' t'=>by rw [r.inj r',Vals.inj t t']
section
variable {X:Cx} {pins:List (Addr × Obj)} {σ:St} {H:Hp} {s:Shared} {a:Addr} {xs ys:List V}
theorem SqL.of {K:PySem.W.Frag} (h:H a=some (.lst xs)):SqL K H a xs:=.inl (.inl h)
theorem SqT.of {K:PySem.W.Frag} (h:H a=some (.tup xs)):SqT K H a xs:=.inl (.inl h)
theorem Inv.list (I:Inv X pins σ H s) (h:SqL X.K H a xs):∃ its:List Value,Vals xs its∧PlainL s.heap a its.toArray∧xs.length≤sizeLine:=by
 rcases h with h | ⟨o,its,n,hk,hc,hd,hs,hz,r⟩
 ·obtain ⟨z,its,n,r,e⟩:=h.ok I.hok
  exact ⟨its,r,⟨_,n,e,rfl,rfl,rfl⟩,z⟩
 ·refine ⟨its.toList,r,⟨o,n,I.kIn a o hk,hc,hd,by simpa using hs⟩,?_⟩
  have e:=r.length
  simp only [Array.length_toList] at e
  omega
theorem Inv.tuple (I:Inv X pins σ H s) (h:SqT X.K H a xs):∃ its:List Value,Vals xs its∧IsTup s.heap a its.toArray∧xs.length≤sizeLine:=by
 rcases h with h | ⟨o,its,n,hk,hc,hs,hz,r⟩
 ·obtain ⟨z,its,r,p⟩:=h.ok I.hok
  exact ⟨its,r,p,z⟩
 ·refine ⟨its.toList,r,⟨o,I.kIn a o hk,hc,n,by simpa using hs⟩,?_⟩
  have e:=r.length
  simp only [Array.length_toList] at e
  omega
theorem Inv.list_inj (I:Inv X pins σ H s) (h:SqL X.K H a xs) (h':SqL X.K H a ys):xs=ys:=by
 obtain ⟨its,r,⟨o,n,e,_,_,d⟩,_⟩:=I.list h
 obtain ⟨its',r',⟨o',n',e',_,_,d'⟩,_⟩:=I.list h'
 rw [e] at e';cases e'
 rw [d] at d'
 injection d' with d1 _
 have:its=its':=by simpa using jy Array.toList d1
 subst this
 exact r.inj r'
theorem Inv.tuple_inj (I:Inv X pins σ H s) (h:SqT X.K H a xs) (h':SqT X.K H a ys):xs=ys:=by
 obtain ⟨its,r,⟨o,e,_,n,d⟩,_⟩:=I.tuple h
 obtain ⟨its',r',⟨o',e',_,n',d'⟩,_⟩:=I.tuple h'
 rw [e] at e';cases e'
 rw [d] at d'
 injection d' with d1 _
 have:its=its':=by simpa using jy Array.toList d1
 subst this
 exact r.inj r'
end
noncomputable abbrev Cx.wish (X:Cx) (E:Value→Shared→Prop):Cx:={ X with xe:=E }
noncomputable abbrev Cx.nox (X:Cx):Cx:=X.wish fun _ _=>False
theorem Cx.Ok.wish {X:Cx} (ok:X.Ok) (E:Value→Shared→Prop):(X.wish E).Ok:=
 ⟨ok.mod,ok.kind,ok.glob,ok.blt,ok.above,ok.inj,ok.has,ok.cab,ok.hd,ok.frames,ok.stk,ok.exf,ok.bs,ok.bsz,ok.noex,ok.exfs,ok.funs,ok.frf⟩
theorem Cx.Ok.unwish {X:Cx} {E:Value→Shared→Prop} (ok:(X.wish E).Ok):X.Ok:=
 ⟨ok.mod,ok.kind,ok.glob,ok.blt,ok.above,ok.inj,ok.has,ok.cab,ok.hd,ok.frames,ok.stk,ok.exf,ok.bs,ok.bsz,ok.noex,ok.exfs,ok.funs,ok.frf⟩
section
variable {X:Cx} {pins:List (Addr × Obj)} {σ:St} {H:Hp} {s:Shared} {E:Value→Shared→Prop}
theorem Inv.wish (I:Inv X pins σ H s) (E:Value→Shared→Prop):Inv (X.wish E) pins σ H s:=⟨I.ok.wish E,I.os,I.bare,I.base,I.loc,I.cell,I.free,I.freeC,I.pin,I.hok,I.len⟩
theorem Inv.unwish (I:Inv (X.wish E) pins σ H s):Inv X pins σ H s:=⟨I.ok.unwish,I.os,I.bare,I.base,I.loc,I.cell,I.free,I.freeC,I.pin,I.hok,I.len⟩
theorem SP.unwish {D:Ends} {f:Flow} {s':Shared} (h:SP (X.wish E) pins D f s'):SP X pins D f s':=by
 cases f with
 | next=>obtain ⟨σ',H',I,q⟩:=h;exact ⟨σ',H',I.unwish,q⟩
 | brk=>obtain ⟨σ',H',I,q⟩:=h;exact ⟨σ',H',I.unwish,q⟩
 | cont=>obtain ⟨σ',H',I,q⟩:=h;exact ⟨σ',H',I.unwish,q⟩
 | ret u=>obtain ⟨v,σ',H',I,r,q⟩:=h;exact ⟨v,σ',H',I.unwish,r,q⟩
theorem PSs.nox {st:List Stmt} {t:TS} (h:PSs X.nox st t):PSs X st t:=fun pins s σ H D I hw=>
 jo (h pins s σ H D (I.wish _) hw) (fun _ _ q=>q.unwish) fun _ _ z=>False.elim z
end
section
variable {X:Cx} {st:Stmt} {rest:List Stmt} {t u:TS} {e:Expr} {te:TE} {pos:Pos}
noncomputable def tNext:TS:=fun D σ H=>D.nx σ H
noncomputable def tSeq (t u:TS):TS:=fun D σ H=>t { D with nx:=u D } σ H
theorem ay:PSs X [] tNext:=fun _ _ σ H _ I h=>wpAny_execs_nil ⟨σ,H,I,h⟩
theorem ag (h1:PS X st t) (h2:PSs X rest u):PSs X (st::rest) (tSeq t u):=by
 intro pins s σ H D I h
 refine wpAny_execs_cons (thn (h1 pins s σ H { D with nx:=u D } I h) fun f s1 q=>?_)
 cases f with
 | next=>
  obtain ⟨σ',H',I',q⟩:=q
  exact h2 pins s1 σ' H' D I' q
 | ret v=>exact q
 | brk=>exact q
 | cont=>exact q
theorem ah (h1:PS X st t):PSs X [st] t:=by
 intro pins s σ H D I h
 refine wpAny_execs_cons (thn (h1 pins s σ H D I h) fun f s1 q=>?_)
 cases f with
 | next=>exact wpAny_execs_nil q
 | ret v=>exact q
 | brk=>exact q
 | cont=>exact q
theorem Inv.quiet {pins:List (Addr × Obj)} {σ:St} {H:Hp} {s:Shared} (I:Inv X pins σ H s):interactive X.env=false:=by simp [interactive,I.ok.kind]
noncomputable def tDrop (te:TE):TS:=fun D σ H=>te σ H fun _ H1=>D.nx σ H1
theorem cE (he:PE X e te) (hs:swapsWith e none pos.line X.env=pure false:=by rfl):PS X (.Expr e pos) (tDrop te):=by
 intro pins s σ H D I h
 exact wpAny_Expr_any (thn (he pins s σ H _ I h) fun v s1 ⟨x,H1,I1,r1,q1⟩=>⟨σ,H1,I1,q1⟩) I.quiet hs
noncomputable def tRet (te:TE):TS:=fun D σ H=>te σ H D.rt
theorem aq (he:PE X e te):PS X (.Return (some e) pos) (tRet te):=by
 intro pins s σ H D I h
 exact wpAny_Return_some (thn (he pins s σ H _ I h) fun v s1 ⟨x,H1,I1,r1,q1⟩=>⟨x,σ,H1,I1,r1,q1⟩)
noncomputable def tIfS (c:TT) (t u:TS):TS:=fun D σ H=>c σ H fun b H1=>if b=true then t D σ H1 else u D σ H1
theorem aG {c:Expr} {a b:List Stmt} {tc:TT} (hc:PT X c tc) (ha:PSs X a t) (hb:PSs X b u):PS X (.If c a b pos) (tIfS tc t u):=by
 intro pins s σ H D I h
 refine wpAny_If (thn (hc pins s σ H _ I h) fun d s1 ⟨H1,I1,q1⟩=>?_)
 cases d with
 | true=>exact ha pins s1 σ H1 D I1 q1
 | false=>exact hb pins s1 σ H1 D I1 q1
noncomputable def tNever:TS:=fun _ _ _=>False
theorem cm:PS X st tNever:=fun _ _ _ _ _ _ h=>h.elim
end
noncomputable abbrev TG:=V→St→Hp→(St→Hp→Prop)→Prop
noncomputable abbrev TGs:=List V→St→Hp→(St→Hp→Prop)→Prop
noncomputable def PG (X:Cx) (target:Expr) (t:TG):Prop:=
 ∀ (pins:List (Addr × Obj)) (s:Shared) (σ:St) (H:Hp) (v:V) (u:Value) (Q:St→Hp→Prop),Inv X pins σ H s→RelV v u→t v σ H Q→
  wpAny (model X.prog X.w) X.A (assign target X.env u) (fun _ s'=>∃ σ' H',Inv X pins σ' H' s'∧Q σ' H') X.xe s
noncomputable def PGs (X:Cx) (ts:List Expr) (t:TGs):Prop:=
 ∀ (pins:List (Addr × Obj)) (s:Shared) (σ:St) (H:Hp) (vs:List V) (us:List Value) (Q:St→Hp→Prop),Inv X pins σ H s→Vals vs us→t vs σ H Q→
  wpAny (model X.prog X.w) X.A (assignInOrder ((assignEach ts X.env).map (·.2)) us) (fun _ s'=>∃ σ' H',Inv X pins σ' H' s'∧Q σ' H') X.xe s
noncomputable abbrev TSet:=V→V→V→Hp→(Hp→Prop)→Prop
noncomputable abbrev TIp:=V→V→Hp→VK→Prop
section
variable {X:Cx} {pos:Pos}
noncomputable def gName (i:Nat):TG:=fun v σ H Q=>Q (σ.set i (some v)) H
theorem ax {i:Nat} {x:Str} (hN:X.N.Nodup) (hi:X.N[i]?=some x) (hx:Loc X.env.scope x) (hf:X.fn x=true∨X.env.scope.names.lookup x=some .local:=by first | exact .inl rfl | exact .inr rfl | assumption):PG X (.Name x pos) (gName i):=by
 intro pins s σ H v u Q I r h
 exact wpAny_assign_Name (store_ok I hN hi hx r (fun s' I'=>⟨_,H,I',h⟩) hf)
noncomputable def gNil:TGs:=fun vs σ H Q=>vs=[]∧Q σ H
inductive IgCons (t:TG) (u:TGs) (vs:List V) (σ:St) (H:Hp) (Q:St→Hp→Prop):Prop
 | mk (v:_) (r:_) (h1:vs=v::r) (h2:t v σ H fun σ' H'=>u r σ' H' Q):IgCons t u vs σ H Q
noncomputable def gCons (t:TG) (u:TGs):TGs:=fun vs σ H Q=>IgCons t u vs σ H Q
theorem bZ:PGs X [] gNil:=by
 intro pins s σ H vs us Q I r h
 obtain ⟨e,h⟩:=h
 subst e
 cases r
 exact assignInOrder_nil ⟨σ,H,I,h⟩
theorem aD {e:Expr} {es:List Expr} {t:TG} {u:TGs} (h1:PG X e t) (h2:PGs X es u)
  (hs:(assignEach (e::es) X.env).map (·.2)=assign e X.env::(assignEach es X.env).map (·.2):=by rfl):PGs X (e::es) (gCons t u):=by
 intro pins s σ H vs us Q I r h
 obtain ⟨v,vr,e1,h⟩:=h
 subst e1
 cases r with
 | cons r rr=>
  rw [hs]
  refine assignInOrder_cons (thn (h1 pins s σ H _ _ _ I r h) fun _ s1 ⟨σ1,H1,I1,q1⟩=>?_)
  exact h2 pins s1 σ1 H1 _ _ Q I1 rr q1
inductive IgTup (K:PySem.W.Frag) (n:Nat) (t:TGs) (v:V) (σ:St) (H:Hp) (Q:St→Hp→Prop):Prop
 | mk (a:_) (xs:_) (h1:v=.ref a) (h2:SqT K H a xs) (h3:xs.length=n) (h4:t xs σ H Q):IgTup K n t v σ H Q
noncomputable def gTup (K:PySem.W.Frag) (n:Nat) (t:TGs):TG:=fun v σ H Q=>IgTup K n t v σ H Q
theorem eO {es:List Expr} {k:Nat} {t:TGs} {n:Nat} (hc:X.calm=true) (h:PGs X es t)
  (hn:(assignEach es X.env).length=n:=by rfl) (hst:(assignEach es X.env).findIdx? (·.1)=none:=by rfl):PG X (.Tuple es k pos) (gTup X.K n t):=by
 intro pins s σ H v u Q I r hw
 obtain ⟨a,xs,e1,hq,hl,hw⟩:=hw
 subst e1
 cases r
 obtain ⟨its,rv,ht,hz⟩:=I.tuple hq
 refine assign_Tuple_tuple (I.ok.hd hc) ht (by simp [hn,← hl,rv.length]) hst fun h' hx=>?_
 have I1:Inv X pins σ H { s with heap:=h' }:=I.kept (t':=s.toks) fun b o e=>hx b o (jm (iT e)) e
 exact h pins _ σ H xs _ Q I1 (by simpa using rv) hw
noncomputable def tAsg (te:TE) (g:TG):TS:=fun D σ H=>te σ H fun x H1=>g x σ H1 D.nx
theorem gj {tg e:Expr} {te:TE} {g:TG} (he:PE X e te) (hg:PG X tg g) (hs:swapsWithSole [tg] e pos.line X.env=pure false:=by rfl) (hw:swappedStores [tg] e X.env=pure none:=by rfl)
  (h1:(assignEach [tg] X.env).map (·.2)=[assign tg X.env]:=by rfl):PS X (.Assign [tg] e pos) (tAsg te g):=by
 intro pins s σ H D I h
 refine wpAny_Assign_stores (thn (he pins s σ H _ I h) fun v s1 ⟨x,H1,I1,r1,q1⟩=>?_) hs hw
 rw [h1]
 exact thn (hg pins s1 σ H1 x v _ I1 r1 q1) fun _ s2 q=>q
theorem ar {i:Nat} {x:Str} {e:Expr} {te:TE} {pos':Pos} (hN:X.N.Nodup) (hi:X.N[i]?=some x) (hx:Loc X.env.scope x) (he:PE X e te) (hs:swapsWith e (some (.Name x pos')) pos.line X.env=pure false:=by rfl) (hf:X.fn x=true∨X.env.scope.names.lookup x=some .local:=by first | exact .inl rfl | exact .inr rfl | assumption) :
  PS X (.Assign [.Name x pos'] e pos) (tAsg te (gName i)):=by
 intro pins s σ H D I h
 refine wpAny_Assign_Name (thn (he pins s σ H _ I h) fun v s1 ⟨y,H1,I1,r1,q1⟩=>?_) hs
 exact store_ok I1 hN hi hx r1 (fun s2 I2=>⟨_,H1,I2,q1⟩) hf
inductive ItPar (i:Nat) (j:Nat) (D:Ends) (σ:St) (vs:List V) (H1:Hp):Prop
 | mk (v:_) (w:_) (h1:vs=[v,w]) (h2:D.nx ((σ.set i (some v)).set j (some w)) H1):ItPar i j D σ vs H1
end
section
variable {X:Cx} {pos:Pos}
noncomputable def tWhile (c:TT) (tb:TS):TS:=fun D σ H=>∃ W:Nat→St→Hp→Prop,(∃ m,W m σ H)∧∀ m σ H,W m σ H→
 c σ H fun b H1=>if b=true then ∃ N:St→Hp→Prop,(∀ σ' H',N σ' H'→∃ m',m'<m∧W m' σ' H')∧tb { D with nx:=N,ct:=N,bk:=D.nx } σ H1 else D.nx σ H1
theorem ps_while {c:Expr} {body:List Stmt} {tc:TT} {tb:TS} (hp:PassesOwn (model X.prog X.w) X.A X.env X.xe) (hc:PT X c tc) (hb:PSs X body tb):PS X (.While c body [] pos) (tWhile tc tb):=by
 intro pins s σ H D I h
 obtain ⟨W,⟨m0,w0⟩,turn⟩:=h
 refine wpAny_While (codeAny_whileLoop (fun n s'=>∃ σ' H',Inv X pins σ' H' s'∧W n σ' H') ?_ m0 ⟨σ,H,I,w0⟩)
 rintro n s1 ⟨σ1,H1,I1,w1⟩
 refine wpAny_passesOwn hp (thn (hc pins s1 σ1 H1 _ I1 (turn n σ1 H1 w1)) fun b s2 ⟨H2,I2,q2⟩=>?_)
 cases b with
 | true=>
  obtain ⟨N,hN,q2⟩:=q2
  rw [if_pos rfl]
  refine wpAny_passesOwn hp (thn (hb pins s2 σ1 H2 _ I2 q2) fun f s3 q3=>?_)
  cases f with
  | next=>
   obtain ⟨σ3,H3,I3,n3⟩:=q3
   obtain ⟨m',hm,w3⟩:=hN σ3 H3 n3
   exact ⟨m',hm,σ3,H3,I3,w3⟩
  | cont=>
   obtain ⟨σ3,H3,I3,n3⟩:=q3
   obtain ⟨m',hm,w3⟩:=hN σ3 H3 n3
   exact ⟨m',hm,σ3,H3,I3,w3⟩
  | brk=>exact q3
  | ret v=>exact q3
 | false=>
  rw [if_neg i8]
  exact wpAny_execs_nil ⟨σ1,H2,I2,q2⟩
end
structure It where
 go:Nat→Hp→Prop
 yld:Nat→Hp→V→Hp→Prop
 stop:Nat→Hp→Prop
noncomputable def FpOk (X:Cx) (pins:List (Addr × Obj)) (H:Hp) (b:Addr):Prop:=
 H b=none∧b≠X.env.locals∧b ∉ X.fs∧(b∈X.ex∨X.s₀.heap.objs.size≤b)∧(∀ x c,X.env.cells.lookup x=some c→c≠b)∧∀ p∈X.pn++pins,p.1≠b
theorem Inv.fpOk {X:Cx} {pins:List (Addr × Obj)} {σ:St} {H H':Hp} {s:Shared} {b:Addr} (I:Inv X pins σ H s) (hb:s.heap.objs.size≤b) (hn:H' b=none):FpOk X pins H' b:=by
 refine ⟨hn,kg (jg I.lt hb),I.nofs hb,.inr (i3 I.sz hb),fun x c e z=>?_,fun p hp z=>?_⟩
 ·obtain ⟨v,q⟩:=I.cell x c e
  exact absurd (jg q.lt (by rw [z];exact hb)) (jE _)
 ·exact absurd (jg (iT (I.pin p hp).1) (by rw [z];exact hb)) (jE _)
structure Turn (P:Program) (w:World) (K:PySem.W.Frag) (tg:Expr) (J:It) (fp:List Addr) (it:Addr) (tn:Nat→Heap→Prop):Prop where
 mem:it∈fp
 obj:∀ i h,tn i h→∀ b∈fp,∃ o,h.get? b=some o∧∀ v,o.data≠.cell v
 keep:∀ i h h',tn i h→(∀ b∈fp,∀ o,h.get? b=some o→h'.get? b=some o)→tn i h'
 item:∀ (X:Cx),X.prog=P→X.w=w→X.K=K→X.calm=true→∀ (i:Nat) (pins:List (Addr × Obj)) (s:Shared) (σ:St) (H:Hp) (E:Value→Shared→Prop),Inv X pins σ H s→(∀ b∈fp,FpOk X pins H b)→tn i s.heap→J.go i H→
  wpAny (model P w) X.A (pyNext (.ref it)) (fun r s1=>∃ u,r=some u∧
   wpAny (model P w) X.A (letOwnedTupleGo tg (.ref it) u) (fun _ s2=>∃ x H',Inv X pins σ H' s2∧RelV x u∧J.yld i H x H'∧tn (i+1) s2.heap∧∀ b∈fp,H' b=none) E s1) E s
 done:∀ (X:Cx),X.prog=P→X.w=w→X.K=K→X.calm=true→∀ (i:Nat) (pins:List (Addr × Obj)) (s:Shared) (σ:St) (H:Hp) (E:Value→Shared→Prop),Inv X pins σ H s→(∀ b∈fp,FpOk X pins H b)→tn i s.heap→J.stop i H→
  wpAny (model P w) X.A (pyNext (.ref it)) (fun r s1=>r=none∧Inv X pins σ H s1) E s
 self:∀ (A:Around) (i:Nat) (s:Shared) (Q:Value→Shared→Prop) (E:Value→Shared→Prop),tn i s.heap→Q (.ref it) s→wpAny (model P w) A (pyIter (.ref it)) Q E s
noncomputable abbrev TI:=St→Hp→(It→Hp→Prop)→Prop
noncomputable def PIE (X:Cx) (pins:List (Addr × Obj)) (σ:St) (tg:Expr) (R:It→Hp→Prop) (itv:Value) (s2:Shared):Prop:=
 ∃ (it:Addr) (fp:List Addr) (tn:Nat→Heap→Prop) (J:It) (H':Hp),itv=.ref it∧Inv X pins σ H' s2∧Turn X.prog X.w X.K tg J fp it tn∧tn 0 s2.heap∧(∀ b∈fp,FpOk X pins H' b)∧R J H'
noncomputable def PI (X:Cx) (tg iter:Expr) (wi:TI):Prop:=
 ∀ (pins:List (Addr × Obj)) (s:Shared) (σ:St) (H:Hp) (R:It→Hp→Prop),Inv X pins σ H s→wi σ H R→
  wpAny (model X.prog X.w) X.A (eval iter X.env) (fun v s1=>wpAny (model X.prog X.w) X.A (pyIter v) (PIE X pins σ tg R) X.xe s1) X.xe s
theorem go_of {M:Model} {A:Around} {E:Value→Shared→Prop} {s:Shared} {tg:Expr} {it:Addr} {u:Value} {o:Obj} {n:String} {vs:Array Value} {Q:Unit→Shared→Prop} (ho:s.heap.get? it=some o) (hc:o.cls=.type n) (hd:o.data=.fields vs)
    (hn:["enumerate","zip","dict_itemiterator","dict_reverseitemiterator","odict_iterator","itertools.zip_longest","itertools.pairwise"].contains n=false) (hQ:Q () s):wpAny M A (letOwnedTupleGo tg (.ref it) u) Q E s:=by
  unfold letOwnedTupleGo
  cases tg <;> first
    | exact iQ hQ
    | (cases u <;> first
        | exact iQ hQ
        | (refine iK (wpAny_load ho ?_)
           rw [hc,hd]
           show wpAny M A (if (["enumerate","zip","dict_itemiterator","dict_reverseitemiterator","odict_iterator","itertools.zip_longest","itertools.pairwise"].contains n && vs[0]? == some (rawInt _))=true then _ else _) Q E s
           rw [if_neg (by intro h;rw [hn,Bool.false_and] at h;cases h)]
           exact iQ hQ))
noncomputable def Itl (K:PySem.W.Frag) (a:Addr):It:=
 ⟨fun i H=>∃ xs x,SqL K H a xs∧xs[i]?=some x,fun i H x H'=>H'=H∧∀ xs,SqL K H a xs→xs[i]?=some x,fun i H=>∃ xs,SqL K H a xs∧xs.length≤i⟩
noncomputable def Itt (K:PySem.W.Frag) (a:Addr):It:=
 ⟨fun i H=>∃ xs x,SqT K H a xs∧xs[i]?=some x,fun i H x H'=>H'=H∧∀ xs,SqT K H a xs→xs[i]?=some x,fun i H=>∃ xs,SqT K H a xs∧xs.length≤i⟩
noncomputable def Itr (lo:Int) (n:Nat):It:=⟨fun i _=>i<n,fun i H x H'=>H'=H∧x=.int (lo+i),fun i _=>n≤i⟩
theorem turn_list {P:Program} {w:World} {K:PySem.W.Frag} {tg:Expr} (a it:Addr):Turn P w K tg (Itl K a) [it] it (fun i h=>h.IsListIter it a i) where
 mem:=by simp
 obj:=fun i h st b hb=>by
  have e:b=it:=by simpa using hb
  subst e
  obtain ⟨o,e,c,d⟩:=st
  exact ⟨o,e,fun v z=>by rw [d] at z;cases z⟩
 keep:=fun i h h' st k=>st.at fun o e=>k it (by simp) o e
 item:=by
  intro X hP hw hK hc i pins s σ H E I hf st hg
  subst hP hw hK
  obtain ⟨xs,x,hq,hx⟩:=hg
  obtain ⟨its,rv,p,hz⟩:=I.list hq
  obtain ⟨u,hu,ru⟩:=rv.get hx
  obtain ⟨f0,f1,f2,f3,f4,f5⟩:=hf it (by simp)
  refine wpAny_pyNext_list_item st p.isList (x:=u) (by simpa using hu) fun h' st' sb=>?_
  have I1:Inv X pins σ H { s with heap:=h' }:=I.turned (t':=s.toks) (fun b o hb e=>(sb.2 b hb).trans e) f0 f1 f3 f4 f5
  obtain ⟨o,e,c,d⟩:=id st'
  exact ⟨u,rfl,go_of (s:={ s with heap:=h' }) e c d (by decide) ⟨x,H,I1,ru,⟨rfl,fun ys hy=>by rw [I.list_inj hy hq];exact hx⟩,st',fun b hb=>(hf b hb).1⟩⟩
 done:=by
  intro X hP hw hK hc i pins s σ H E I hf st hg
  subst hP hw hK
  obtain ⟨xs,hq,hx⟩:=hg
  obtain ⟨its,rv,p,hz⟩:=I.list hq
  obtain ⟨f0,f1,f2,f3,f4,f5⟩:=hf it (by simp)
  have hl:=rv.length
  exact wpAny_pyNext_list_end (I.ok.hd hc) st p.isList (by simp;omega) fun h' eb=>⟨rfl,I.turned (t':=s.toks) (fun b o hb e=>eb b o hb e) f0 f1 f3 f4 f5⟩
 self:=fun _ _ _ _ _ st h=>wpAny_pyIter_listiter st h
theorem turn_tuple {P:Program} {w:World} {K:PySem.W.Frag} {tg:Expr} (a it:Addr):Turn P w K tg (Itt K a) [it] it (fun i h=>h.IsTupleIter it a i) where
 mem:=by simp
 obj:=fun i h st b hb=>by
  have e:b=it:=by simpa using hb
  subst e
  obtain ⟨o,e,c,d⟩:=st
  exact ⟨o,e,fun v z=>by rw [d] at z;cases z⟩
 keep:=fun i h h' st k=>st.at fun o e=>k it (by simp) o e
 item:=by
  intro X hP hw hK hc i pins s σ H E I hf st hg
  subst hP hw hK
  obtain ⟨xs,x,hq,hx⟩:=hg
  obtain ⟨its,rv,p,hz⟩:=I.tuple hq
  obtain ⟨u,hu,ru⟩:=rv.get hx
  obtain ⟨f0,f1,f2,f3,f4,f5⟩:=hf it (by simp)
  refine wpAny_pyNext_tuple_item st (show s.heap.IsTuple a its.toArray from p) (x:=u) (by simpa using hu) fun h' st' sb=>?_
  have I1:Inv X pins σ H { s with heap:=h' }:=I.turned (t':=s.toks) (fun b o hb e=>(sb.2 b hb).trans e) f0 f1 f3 f4 f5
  obtain ⟨o,e,c,d⟩:=id st'
  exact ⟨u,rfl,go_of (s:={ s with heap:=h' }) e c d (by decide) ⟨x,H,I1,ru,⟨rfl,fun ys hy=>by rw [I.tuple_inj hy hq];exact hx⟩,st',fun b hb=>(hf b hb).1⟩⟩
 done:=by
  intro X hP hw hK hc i pins s σ H E I hf st hg
  subst hP hw hK
  obtain ⟨xs,hq,hx⟩:=hg
  obtain ⟨its,rv,p,hz⟩:=I.tuple hq
  obtain ⟨f0,f1,f2,f3,f4,f5⟩:=hf it (by simp)
  have hl:=rv.length
  exact wpAny_pyNext_tuple_end (I.ok.hd hc) st (show s.heap.IsTuple a its.toArray from p) (by simp;omega) fun h' eb=>⟨rfl,I.turned (t':=s.toks) (fun b o hb e=>eb b o hb e) f0 f1 f3 f4 f5⟩
 self:=fun _ _ _ _ _ st h=>wpAny_pyIter_tupleiter st h
theorem turn_range {P:Program} {w:World} {K:PySem.W.Frag} {tg:Expr} (it:Addr) (lo:Int) (n:Nat):Turn P w K tg (Itr lo n) [it] it (fun i h=>IsRangeIter h it (lo+(i:Nat)*1) ((n:Int)-(i:Nat)) 1) where
 mem:=by simp
 obj:=fun i h st b hb=>by
  have e:b=it:=by simpa using hb
  subst e
  exact ⟨_,st,fun v z=>by
   have z':Data.fields _=Data.cell v:=z
   cases z'⟩
 keep:=fun i h h' st k=>k it (by simp) _ st
 item:=by
  intro X hP hw hK hc i pins s σ H E I hf st hg
  subst hP hw hK
  obtain ⟨f0,f1,f2,f3,f4,f5⟩:=hf it (by simp)
  have W:=Walks.range (prog:=X.prog) (w:=X.w) (I.ok.hd hc) it lo 1 n
  refine W.item i s _ _ hg st fun v h' tk hv st' kk=>?_
  obtain ⟨t,rfl⟩:=hv
  have I1:Inv X pins σ H { s with heap:=h',toks:=tk }:=I.turned (fun b o hb e=>kk b o (by simpa using hb) e) f0 f1 f3 f4 f5
  refine ⟨_,rfl,go_of (s:={ s with heap:=h',toks:=tk }) (n:="range_iterator") st' rfl rfl (by decide) ⟨.int (lo+i),H,I1,⟨t,?_⟩,⟨rfl,rfl⟩,st',fun b hb=>(hf b hb).1⟩⟩
  rw [Int.mul_one]
 done:=by
  intro X hP hw hK hc i pins s σ H E I hf st hg
  subst hP hw hK
  obtain ⟨f0,f1,f2,f3,f4,f5⟩:=hf it (by simp)
  exact wpAny_pyNext_range_end (I.ok.hd hc) st (by have:n≤i:=hg;omega) fun h' eb=>⟨rfl,I.turned (t':=s.toks) (fun b o hb e=>eb b o hb e) f0 f1 f3 f4 f5⟩
 self:=fun _ _ _ _ _ st h=>wpAny_pyIter_rangeiter st h
end L2
namespace L2
open PySem PySem.Spec PyProof.Rows
section
variable {X:Cx} {tg:Expr}
inductive IiList (K:PySem.W.Frag) (R:It→Hp→Prop) (x:V) (H1:Hp):Prop
 | mk (a:_) (h1:x=.ref a) (h2:(∃ xs,SqL K H1 a xs)) (h3:R (Itl K a) H1):IiList K R x H1
noncomputable def iList (K:PySem.W.Frag) (tl:TE):TI:=fun σ H R=>tl σ H fun x H1=>IiList K R x H1
inductive IiTup (K:PySem.W.Frag) (R:It→Hp→Prop) (x:V) (H1:Hp):Prop
 | mk (a:_) (h1:x=.ref a) (h2:(∃ xs,SqT K H1 a xs)) (h3:R (Itt K a) H1):IiTup K R x H1
noncomputable def iTup (K:PySem.W.Frag) (tl:TE):TI:=fun σ H R=>tl σ H fun x H1=>IiTup K R x H1
theorem aX {l:Expr} {tl:TE} (hl:PE X l tl):PI X tg l (iList X.K tl):=by
 intro pins s σ H R I h
 refine thn (hl pins s σ H _ I h) fun v s1 ⟨x,H1,I1,r1,q1⟩=>?_
 obtain ⟨a,e,⟨xs,hq⟩,q⟩:=q1
 subst e
 cases r1
 obtain ⟨its,rv,p,hz⟩:=I1.list hq
 refine wpAny_pyIter_list p.isList ?_
 refine ⟨s1.heap.objs.size,[s1.heap.objs.size],_,_,H1,rfl,I1.kept (t':=s1.toks) fun b o e=>iN _ e,turn_list a _,⟨_,i9 _ rfl,rfl,rfl⟩,fun b hb=>?_,q⟩
 have e:b=s1.heap.objs.size:=by simpa using hb
 subst e
 exact I1.fpOk (iP _) (I1.hok.fresh (iP _))
theorem pi_tup {l:Expr} {tl:TE} (hl:PE X l tl):PI X tg l (iTup X.K tl):=by
 intro pins s σ H R I h
 refine thn (hl pins s σ H _ I h) fun v s1 ⟨x,H1,I1,r1,q1⟩=>?_
 obtain ⟨a,e,⟨xs,hq⟩,q⟩:=q1
 subst e
 cases r1
 obtain ⟨its,rv,p,hz⟩:=I1.tuple hq
 refine wpAny_pyIter_tuple (show s1.heap.IsTuple a its.toArray from p) ?_
 refine ⟨s1.heap.objs.size,[s1.heap.objs.size],_,_,H1,rfl,I1.kept (t':=s1.toks) fun b o e=>iN _ e,turn_tuple a _,⟨_,i9 _ rfl,rfl,rfl⟩,fun b hb=>?_,q⟩
 have e:b=s1.heap.objs.size:=by simpa using hb
 subst e
 exact I1.fpOk (iP _) (I1.hok.fresh (iP _))
theorem range_it {pins:List (Addr × Obj)} {σ:St} {H:Hp} {s:Shared} {R:It→Hp→Prop} {E:Value→Shared→Prop} {lo hi:Int} {t u v:Tok} {tk:Nat} (I:Inv X pins σ H s) (h1:-(2 ^ 62)≤lo) (h2:lo<2 ^ 62) (h3:-(2 ^ 62)≤hi) (h4:hi<2 ^ 62)
  (q:R (Itr lo (hi-lo).toNat) H):wpAny (model X.prog X.w) X.A (pyIter (.ref s.heap.objs.size)) (PIE X pins σ tg R) E { s with heap:=s.heap.push { cls:=.type "range",data:=.fields #[.int lo t,.int hi u,.int 1 v] },toks:=tk }:=by
 refine wpAny_pyIter_range (IsRange.new ..) (small_one h1 h2 h3 h4) ?_
 have I1:Inv X pins σ H { s with heap:=s.heap.push { cls:=.type "range",data:=.fields #[.int lo t,.int hi u,.int 1 v] },toks:=tk }:=I.kept fun b o e=>iN _ e
 refine ⟨(s.heap.push { cls:=.type "range",data:=.fields #[.int lo t,.int hi u,.int 1 v] }).objs.size,[(s.heap.push { cls:=.type "range",data:=.fields #[.int lo t,.int hi u,.int 1 v] }).objs.size],_,_,H,rfl,
  I1.kept (t':=tk) fun b o e=>iN _ e,turn_range _ lo (hi-lo).toNat,?_,fun b hb=>?_,q⟩
 ·have e1:lo+((0:Nat):Int)*1=lo:=by simp
  have e2:(((hi-lo).toNat:Nat):Int)-((0:Nat):Int)=Builtin.Range.rangeSize lo hi 1:=by rw [rangeSize_one];split <;> omega
  show IsRangeIter _ _ (lo+((0:Nat):Int)*1) ((((hi-lo).toNat:Nat):Int)-((0:Nat):Int)) 1
  rw [e1,e2]
  exact i9 _ rfl
 ·have e:b=(s.heap.push { cls:=.type "range",data:=.fields #[.int lo t,.int hi u,.int 1 v] }).objs.size:=by simpa using hb
  subst e
  exact I1.fpOk (iP _) (I1.hok.fresh (iP _))
noncomputable def iRng1 (ta:TA):TI:=fun σ H R=>ta σ H fun vs H1=>∃ j:Int,vs=[.int j]∧-(2 ^ 62)≤j∧j<2 ^ 62∧R (Itr 0 j.toNat) H1
theorem pi_range1 {a:Expr} {ta:TA} {p pos:Pos} (hg:Gl X "range") (hm:X.mg "range"=none) (ha:PA X [a] ta) (hs:starEach [a] X.env=[(false,eval a X.env)]:=by rfl):PI X tg (.Call (.Name "range" p) [a] [] pos) (iRng1 ta):=by
 intro pins s σ H R I h
 refine Call_ (ld_blt I hg hm boot_range (PyProof.Rows.callWith_type1 (thn (ha pos pins s σ H _ I h) fun us s1 ⟨vs,H1,I1,r1,q1⟩=>?_) hs rfl))
 obtain ⟨j,e,q1,q2,q⟩:=q1
 subst e
 cases r1 with
 | cons r rr=>
  cases rr
  obtain ⟨t,rfl⟩:=r
  exact call_range_1 (range_it I1 (by omega) (by omega) q1 q2 (by simpa using q))
noncomputable def tFor (wi:TI) (g:TG) (tb:TS):TS:=fun D σ H=>wi σ H fun J H1=>∃ W:Nat→Nat→St→Hp→Prop,(∃ m,W 0 m σ H1)∧∀ i m σ H,W i m σ H→
 (J.stop i H∧D.nx σ H)∨(J.go i H∧∃ N:St→Hp→Prop,(∀ σ' H',N σ' H'→∃ m',m'<m∧W (i+1) m' σ' H')∧∀ x H',J.yld i H x H'→g x σ H' fun σ2 H2=>tb { D with nx:=N,ct:=N,bk:=D.nx } σ2 H2)
noncomputable def pinsAt (fp:List Addr) (h:Heap):List (Addr × Obj):=fp.filterMap fun b=>(h.get? b).map fun o=>(b,o)
theorem eC {fp:List Addr} {h:Heap} {b:Addr} {o:Obj} (hb:b∈fp) (e:h.get? b=some o):(b,o)∈pinsAt fp h:=List.mem_filterMap.mpr ⟨b,hb,by rw [e];rfl⟩
theorem of_pinsAt {fp:List Addr} {h:Heap} {p:Addr × Obj} (hp:p∈pinsAt fp h):p.1∈fp∧h.get? p.1=some p.2:=by
 obtain ⟨b,hb,e⟩:=List.mem_filterMap.mp hp
 cases q:h.get? b with
 | none=>rw [q] at e;cases e
 | some o=>
  rw [q] at e
  have e':(b,o)=p:=jh e
  subst e'
  exact ⟨hb,q⟩
theorem Inv.pinned {pins:List (Addr × Obj)} {σ:St} {H:Hp} {s:Shared} {fp:List Addr} (I:Inv X pins σ H s) (hf:∀ b∈fp,FpOk X pins H b) (ho:∀ b∈fp,∃ o,s.heap.get? b=some o∧∀ v,o.data≠.cell v):Inv X (pins++pinsAt fp s.heap) σ H s:=
 I.pins_of fun p hp=>(List.mem_append.mp hp).elim (fun z=>I.pin p (jk _ z)) fun z=>by
  obtain ⟨hb,e⟩:=of_pinsAt z
  obtain ⟨f0,f1,f2,_⟩:=hf p.1 hb
  obtain ⟨o,e',d⟩:=ho p.1 hb
  rw [e] at e';cases e'
  exact ⟨e,f0,f1,f2,d⟩
theorem Inv.unpinned {pins pl:List (Addr × Obj)} {σ:St} {H:Hp} {s:Shared} (I:Inv X (pins++pl) σ H s):Inv X pins σ H s:=I.pins_of fun p hp=>I.pin p (jk _ (List.mem_append_left _ hp))
theorem a9 {iter:Expr} {body:List Stmt} {wi:TI} {g:TG} {tb:TS} {pos:Pos} (hp:PassesOwn (model X.prog X.w) X.A X.env X.xe) (hc:X.calm=true) (hi:PI X tg iter wi) (hg:PG X tg g) (hb:PSs X body tb)
  (hs:∀ x,foldedSetIterable iter X.env x=pure x:=by intro _;rfl):PS X (.For tg iter body [] pos) (tFor wi g tb):=by
 intro pins s σ H D I h
 refine wpAny_For (thn (hi pins s σ H _ I h) fun v s1 h1=>thn h1 fun itv s2 h2=>?_) hs
 obtain ⟨it,fp,tn,J,H2,e,I2,T,st2,f2,W,⟨m0,w0⟩,turn⟩:=h2
 subst e
 have stat:∀ {H':Hp},(∀ b∈fp,H' b=none)→∀ b∈fp,FpOk X pins H' b:=fun hn b hb=>⟨hn b hb,(f2 b hb).2⟩
 refine codeAny_forLoop_any (fun n s'=>∃ i σ' H',Inv X pins σ' H' s'∧tn i s'.heap∧(∀ b∈fp,H' b=none)∧W i n σ' H') ?_ m0 ⟨0,σ,H2,I2,st2,fun b hb=>(f2 b hb).1,w0⟩
 rintro n s3 ⟨i,σ3,H3,I3,st3,fr3,w3⟩
 rcases turn i n σ3 H3 w3 with ⟨stop,qn⟩ | ⟨go,N,hN,step⟩
 ·refine wpAny_passesOwn hp (thn (T.done X rfl rfl rfl hc i pins s3 σ3 H3 X.xe I3 (stat fr3) st3 stop) fun r s4 ⟨hr,I4⟩=>?_)
  subst hr
  exact wpAny_execs_nil ⟨σ3,H3,I4,qn⟩
 ·refine wpAny_passesOwn hp (thn (T.item X rfl rfl rfl hc i pins s3 σ3 H3 X.xe I3 (stat fr3) st3 go) fun r s4 ⟨u,hr,h4⟩=>?_)
  subst hr
  refine wpAny_passesOwn hp (thn h4 fun _ s5 ⟨x,H5,I5,r5,y5,st5,fr5⟩=>?_)
  have I5':=I5.pinned (stat fr5) (T.obj _ _ st5)
  refine wpAny_passesOwn hp (thn (hg _ s5 σ3 H5 x u _ I5' r5 (step x H5 y5)) fun _ s6 ⟨σ6,H6,I6,q6⟩=>?_)
  refine wpAny_passesOwn hp (thn (hb _ s6 σ6 H6 _ I6 q6) fun f s7 q7=>?_)
  have again:∀ {σ7:St} {H7:Hp},Inv X (pins++pinsAt fp s5.heap) σ7 H7 s7→N σ7 H7→∃ m,m<n∧∃ i σ' H',Inv X pins σ' H' s7∧tn i s7.heap∧(∀ b∈fp,H' b=none)∧W i m σ' H':=fun {σ7 H7} I7 n7=>by
   obtain ⟨m',hm,w7⟩:=hN σ7 H7 n7
   refine ⟨m',hm,i+1,σ7,H7,I7.unpinned,T.keep _ _ _ st5 fun b hb o e=>(I7.pin (b,o) (jk _ (jk _ (eC hb e)))).1,fun b hb=>?_,w7⟩
   obtain ⟨o,e,d⟩:=T.obj _ _ st5 b hb
   exact (I7.pin (b,o) (jk _ (jk _ (eC hb e)))).2.1
  cases f with
  | next=>obtain ⟨σ7,H7,I7,n7⟩:=q7;exact again I7 n7
  | cont=>obtain ⟨σ7,H7,I7,n7⟩:=q7;exact again I7 n7
  | brk=>obtain ⟨σ7,H7,I7,q7⟩:=q7;exact ⟨σ7,H7,I7.unpinned,q7⟩
  | ret v=>obtain ⟨x7,σ7,H7,I7,r7,q7⟩:=q7;exact ⟨x7,σ7,H7,I7.unpinned,r7,q7⟩
end
theorem bn {K:PySem.W.Frag} {a:Addr} {xs:List V} {g:TG} {tb:TS} {D:Ends} {σ:St} {H:Hp} (Pv:Nat→St→Hp→Prop) (h0:Pv 0 σ H) (hl:∀ i σ H,i≤xs.length→Pv i σ H→SqL K H a xs)
  (hs:∀ i x σ H,xs[i]?=some x→Pv i σ H→g x σ H fun σ2 H2=>tb { D with nx:=Pv (i+1),ct:=Pv (i+1),bk:=D.nx } σ2 H2) (hd:∀ σ H,Pv xs.length σ H→D.nx σ H) :
  ∃ W:Nat→Nat→St→Hp→Prop,(∃ m,W 0 m σ H)∧∀ i m σ H,W i m σ H→
   ((Itl K a).stop i H∧D.nx σ H)∨((Itl K a).go i H∧∃ N:St→Hp→Prop,(∀ σ' H',N σ' H'→∃ m',m'<m∧W (i+1) m' σ' H')∧∀ x H',(Itl K a).yld i H x H'→g x σ H' fun σ2 H2=>tb { D with nx:=N,ct:=N,bk:=D.nx } σ2 H2):=by
 refine ⟨fun i m σ H=>m=xs.length-i∧i≤xs.length∧Pv i σ H,⟨xs.length,by simp,iY _,h0⟩,?_⟩
 rintro i m σ H ⟨rfl,hi,p⟩
 have q:=hl i σ H hi p
 by_cases hlt:i<xs.length
 ·refine .inr ⟨⟨xs,xs[i],q,by simp [hlt]⟩,Pv (i+1),fun σ' H' p'=>⟨xs.length-(i+1),by omega,rfl,hlt,p'⟩,fun x H' y=>?_⟩
  obtain ⟨e,y⟩:=y
  subst e
  exact hs i x σ _ (y xs q) p
 ·have e:i=xs.length:=by omega
  subst e
  exact .inl ⟨⟨xs,q,iP _⟩,hd σ H p⟩
theorem for_tup {K:PySem.W.Frag} {a:Addr} {xs:List V} {g:TG} {tb:TS} {D:Ends} {σ:St} {H:Hp} (Pv:Nat→St→Hp→Prop) (h0:Pv 0 σ H) (hl:∀ i σ H,i≤xs.length→Pv i σ H→SqT K H a xs)
  (hs:∀ i x σ H,xs[i]?=some x→Pv i σ H→g x σ H fun σ2 H2=>tb { D with nx:=Pv (i+1),ct:=Pv (i+1),bk:=D.nx } σ2 H2) (hd:∀ σ H,Pv xs.length σ H→D.nx σ H) :
  ∃ W:Nat→Nat→St→Hp→Prop,(∃ m,W 0 m σ H)∧∀ i m σ H,W i m σ H→
   ((Itt K a).stop i H∧D.nx σ H)∨((Itt K a).go i H∧∃ N:St→Hp→Prop,(∀ σ' H',N σ' H'→∃ m',m'<m∧W (i+1) m' σ' H')∧∀ x H',(Itt K a).yld i H x H'→g x σ H' fun σ2 H2=>tb { D with nx:=N,ct:=N,bk:=D.nx } σ2 H2):=by
 refine ⟨fun i m σ H=>m=xs.length-i∧i≤xs.length∧Pv i σ H,⟨xs.length,by simp,iY _,h0⟩,?_⟩
 rintro i m σ H ⟨rfl,hi,p⟩
 have q:=hl i σ H hi p
 by_cases hlt:i<xs.length
 ·refine .inr ⟨⟨xs,xs[i],q,by simp [hlt]⟩,Pv (i+1),fun σ' H' p'=>⟨xs.length-(i+1),by omega,rfl,hlt,p'⟩,fun x H' y=>?_⟩
  obtain ⟨e,y⟩:=y
  subst e
  exact hs i x σ _ (y xs q) p
 ·have e:i=xs.length:=by omega
  subst e
  exact .inl ⟨⟨xs,q,iP _⟩,hd σ H p⟩
theorem for_range {lo:Int} {n:Nat} {g:TG} {tb:TS} {D:Ends} {σ:St} {H:Hp} (Pv:Nat→St→Hp→Prop) (h0:Pv 0 σ H)
  (hs:∀ i σ H,i<n→Pv i σ H→g (.int (lo+i)) σ H fun σ2 H2=>tb { D with nx:=Pv (i+1),ct:=Pv (i+1),bk:=D.nx } σ2 H2) (hd:∀ σ H,Pv n σ H→D.nx σ H) :
  ∃ W:Nat→Nat→St→Hp→Prop,(∃ m,W 0 m σ H)∧∀ i m σ H,W i m σ H→
   ((Itr lo n).stop i H∧D.nx σ H)∨((Itr lo n).go i H∧∃ N:St→Hp→Prop,(∀ σ' H',N σ' H'→∃ m',m'<m∧W (i+1) m' σ' H')∧∀ x H',(Itr lo n).yld i H x H'→g x σ H' fun σ2 H2=>tb { D with nx:=N,ct:=N,bk:=D.nx } σ2 H2):=by
 refine ⟨fun i m σ H=>m=n-i∧i≤n∧Pv i σ H,⟨n,by simp,iY _,h0⟩,?_⟩
 rintro i m σ H ⟨rfl,hi,p⟩
 by_cases hlt:i<n
 ·refine .inr ⟨hlt,Pv (i+1),fun σ' H' p'=>⟨n-(i+1),by omega,rfl,hlt,p'⟩,fun x H' y=>?_⟩
  obtain ⟨e,y⟩:=y
  subst e y
  exact hs i σ _ hlt p
 ·have e:i=n:=by omega
  subst e
  exact .inl ⟨iP _,hd σ H p⟩
theorem while_by {c:TT} {tb:TS} {D:Ends} {σ:St} {H:Hp} (Pv:St→Hp→Prop) (μ:St→Hp→Nat) (h0:Pv σ H)
  (hs:∀ σ H,Pv σ H→c σ H fun b H1=>if b=true then tb { D with nx:=fun σ' H'=>Pv σ' H'∧μ σ' H' < μ σ H,ct:=fun σ' H'=>Pv σ' H'∧μ σ' H' < μ σ H,bk:=D.nx } σ H1 else D.nx σ H1)
  (mono:∀ σ H Q Q',(∀ b H1,Q b H1→Q' b H1)→c σ H Q→c σ H Q'):tWhile c tb D σ H:=by
 refine ⟨fun m σ H=>m = μ σ H∧Pv σ H,⟨_,rfl,h0⟩,?_⟩
 rintro m σ H ⟨rfl,p⟩
 refine mono σ H _ _ (fun b H1 q=>?_) (hs σ H p)
 cases b with
 | true=>exact ⟨_,fun σ' H' ⟨p',l⟩=>⟨_,l,rfl,p'⟩,q⟩
 | false=>exact q
end L2
namespace L2
open PySem PySem.Spec PyProof.Rows
noncomputable abbrev R2:=V→V→Hp→VK→Prop
noncomputable def OpR (X:Cx) (f:Value→Value→Sem Value) (r:R2):Prop:=
 ∀ (pins:List (Addr × Obj)) (s:Shared) (σ:St) (H:Hp) (x y:V) (v u:Value) (Q:VK),Inv X pins σ H s→RelV x v→RelV y u→r x y H Q→
  wpAny (model X.prog X.w) X.A (f v u) (EP X pins σ Q) X.xe s
noncomputable def UnR (X:Cx) (f:Value→Sem Value) (r:V→Hp→VK→Prop):Prop:=
 ∀ (pins:List (Addr × Obj)) (s:Shared) (σ:St) (H:Hp) (x:V) (v:Value) (Q:VK),Inv X pins σ H s→RelV x v→r x H Q→
  wpAny (model X.prog X.w) X.A (f v) (EP X pins σ Q) X.xe s
noncomputable def gx (X:Cx) (f:Value) (r:List V→Hp→VK→Prop):Prop:=
 ∀ (pins:List (Addr × Obj)) (s:Shared) (σ:St) (H:Hp) (xs:List V) (us:List Value) (Q:VK),Inv X pins σ H s→Vals xs us→r xs H Q→
  wpAny (model X.prog X.w) X.A (call f us) (EP X pins σ Q) X.xe s
noncomputable def tOp (r:R2) (ta tb:TE):TE:=fun σ H Q=>ta σ H fun x H1=>tb σ H1 fun y H2=>r x y H2 Q
noncomputable def tUn (r:V→Hp→VK→Prop) (ta:TE):TE:=fun σ H Q=>ta σ H fun x H1=>r x H1 Q
noncomputable def rI (C:Int→Int→Prop) (g:Int→Int→V):R2:=fun x y H Q=>∃ i j,x=.int i∧y=.int j∧C i j∧Q (g i j) H
inductive IrI0 (g:Int→Int→V) (x:V) (y:V) (H:Hp) (Q:VK):Prop
 | mk (i:_) (j:_) (h1:x=.int i) (h2:y=.int j) (h3:Q (g i j) H):IrI0 g x y H Q
noncomputable def rI0 (g:Int→Int→V):R2:=fun x y H Q=>IrI0 g x y H Q
inductive IrU (g:Int→V) (x:V) (H:Hp) (Q:VK):Prop
 | mk (i:_) (h1:x=.int i) (h2:Q (g i) H):IrU g x H Q
noncomputable def rU (g:Int→V):V→Hp→VK→Prop:=fun x H Q=>IrU g x H Q
section
variable {X:Cx} {a b c:Expr} {ta tb tc:TE} {pos:Pos}
theorem binT (ha:PE X a ta) (hb:PE X b tb) {pins:List (Addr × Obj)} {s:Shared} {σ:St} {H:Hp} {R:V→V→Hp→Prop} (I:Inv X pins σ H s)
  (h:ta σ H fun x H1=>tb σ H1 fun y H2=>R x y H2) {Q:Value→Shared→Prop} {f:Value→Value→Sem Value}
  (hf:∀ v u s2 x y H2,Inv X pins σ H2 s2→RelV x v→RelV y u→R x y H2→wpAny (model X.prog X.w) X.A (f v u) Q X.xe s2) :
  wpAny (model X.prog X.w) X.A (eval a X.env) (fun v s₁=>wpAny (model X.prog X.w) X.A (eval b X.env) (fun u s₂=>wpAny (model X.prog X.w) X.A (f v u) Q X.xe s₂) X.xe s₁) X.xe s:=by
 refine thn (ha pins s σ H _ I h) fun v s1 ⟨x,H1,I1,r1,q1⟩=>?_
 refine thn (hb pins s1 σ H1 _ I1 q1) fun u s2 ⟨y,H2,I2,r2,q2⟩=>?_
 exact hf v u s2 x y H2 I2 r1 r2 q2
theorem am {op:Operator} {r:R2} (ho:OpR X (binaryOp op) r) (ha:PE X a ta) (hb:PE X b tb):PE X (.BinOp a op b pos) (tOp r ta tb):=by
 intro pins s σ H Q I h
 exact wpAny_BinOp (binT ha hb I h fun v u s2 x y H2 I2 rx ry q=>ho pins s2 σ H2 x y v u Q I2 rx ry q)
theorem pe_un {op:UnaryOp} {r:V→Hp→VK→Prop} (ho:UnR X (unaryOp op) r) (ha:PE X a ta):PE X (.UnaryOp op a pos) (tUn r ta):=by
 intro pins s σ H Q I h
 exact UnaryOp_ (thn (ha pins s σ H _ I h) fun v s1 ⟨x,H1,I1,r1,q1⟩=>ho pins s1 σ H1 x v Q I1 r1 q1)
theorem opI {f:Value→Value→Sem Value} {C:Int→Int→Prop} {g:Int→Int→Int}
  (rule:∀ (i j:Int) (t u:Tok) (s:Shared) (Q:Value→Shared→Prop) (E:Value→Shared→Prop),C i j→Q (.int (g i j) s.toks) { s with toks:=s.toks+1 }→wpAny (model X.prog X.w) X.A (f (.int i t) (.int j u)) Q E s) :
  OpR X f (rI C fun i j=>.int (g i j)):=by
 intro pins s σ H x y v u Q I rx ry h
 obtain ⟨i,j,rfl,rfl,hc,q⟩:=h
 obtain ⟨t,rfl⟩:=rx
 obtain ⟨t',rfl⟩:=ry
 exact rule i j t t' s _ _ hc ⟨.int (g i j),H,I.tok _,⟨_,rfl⟩,q⟩
theorem opI0 {f:Value→Value→Sem Value} {g:Int→Int→Int}
  (rule:∀ (i j:Int) (t u:Tok) (s:Shared) (Q:Value→Shared→Prop) (E:Value→Shared→Prop),Q (.int (g i j) s.toks) { s with toks:=s.toks+1 }→wpAny (model X.prog X.w) X.A (f (.int i t) (.int j u)) Q E s) :
  OpR X f (rI0 fun i j=>.int (g i j)):=by
 intro pins s σ H x y v u Q I rx ry h
 obtain ⟨i,j,rfl,rfl,q⟩:=h
 obtain ⟨t,rfl⟩:=rx
 obtain ⟨t',rfl⟩:=ry
 exact rule i j t t' s _ _ ⟨.int (g i j),H,I.tok _,⟨_,rfl⟩,q⟩
theorem opB0 {f:Value→Value→Sem Value} {g:Int→Int→Bool}
  (rule:∀ (i j:Int) (t u:Tok) (s:Shared) (Q:Value→Shared→Prop) (E:Value→Shared→Prop),Q (.bool (g i j)) s→wpAny (model X.prog X.w) X.A (f (.int i t) (.int j u)) Q E s) :
  OpR X f (rI0 fun i j=>.bl (g i j)):=by
 intro pins s σ H x y v u Q I rx ry h
 obtain ⟨i,j,rfl,rfl,q⟩:=h
 obtain ⟨t,rfl⟩:=rx
 obtain ⟨t',rfl⟩:=ry
 exact rule i j t t' s _ _ ⟨.bl (g i j),H,I,rfl,q⟩
noncomputable def CDiv (i j:Int):Prop:=0<j∧j<1073741824
noncomputable def CPow (i j:Int):Prop:=0≤j∧j≤1000000∧i.natAbs<2 ^ 64
noncomputable def CMul (i j:Int):Prop:=(-(2 ^ 64)<i∧i<2 ^ 64)∨(-(2 ^ 64)<j∧j<2 ^ 64)
theorem CMul.ok {i j:Int} (h:CMul i j):IntMulOk i j:=by
 rcases h with ⟨h1,h2⟩ | ⟨h1,h2⟩
 ·exact .of_left (intBits_le_64 h1 h2)
 ·exact .of_right (intBits_le_64 h1 h2)
theorem aS:OpR X (binaryOp .Add) (rI0 fun i j=>.int (i+j)):=opI0 fun _ _ _ _ _ _ _ q=>add_int q
theorem op_sub:OpR X (binaryOp .Sub) (rI0 fun i j=>.int (i-j)):=opI0 fun _ _ _ _ _ _ _ q=>sub_int q
theorem op_mul:OpR X (binaryOp .Mult) (rI CMul fun i j=>.int (i*j)):=opI fun _ _ _ _ _ _ _ hc q=>mul_int q hc.ok
theorem aO:OpR X (binaryOp .FloorDiv) (rI CDiv fun i j=>.int (i / j)):=opI fun i j _ _ _ _ _ hc q=>by
 have h1:(0:Int)<j:=hc.1
 have h2:j<1073741824:=hc.2
 exact floordiv_int (by omega) (by rw [Int.fdiv_eq_ediv_of_nonneg i (by omega)];exact q) (.inl (PyProof.noPylong_small (by omega)))
theorem aI:OpR X (binaryOp .Mod) (rI (fun _ j=>0<j) fun i j=>.int (i % j)):=opI fun i j _ _ _ _ _ hc q=>by
 have h1:(0:Int)<j:=hc
 exact mod_int' (by omega) (by rw [Int.fmod_eq_emod_of_nonneg i (by omega)];exact q)
theorem unI {f:Value→Sem Value} {g:Int→Int}
  (rule:∀ (i:Int) (t:Tok) (s:Shared) (Q:Value→Shared→Prop) (E:Value→Shared→Prop),Q (.int (g i) s.toks) { s with toks:=s.toks+1 }→wpAny (model X.prog X.w) X.A (f (.int i t)) Q E s) :
  UnR X f (rU fun i=>.int (g i)):=by
 intro pins s σ H x v Q I rx h
 obtain ⟨i,rfl,q⟩:=h
 obtain ⟨t,rfl⟩:=rx
 exact rule i t s _ _ ⟨.int (g i),H,I.tok _,⟨_,rfl⟩,q⟩
theorem un_neg:UnR X (unaryOp .USub) (rU fun i=>.int (-i)):=unI fun _ _ _ _ _ q=>neg_int q
end
noncomputable def scal:V→V→Bool
 | .non,.non=>true | .non,.int _=>true | .int _,.non=>true | .non,.bl _=>true | .bl _,.non=>true | .non,.str _=>true | .str _,.non=>true
 | .int _,.int _=>true | .bl _,.bl _=>true | .str _,.str _=>true | .byt _,.byt _=>true
 | .int _,.str _=>true | .str _,.int _=>true | .bl _,.str _=>true | .str _,.bl _=>true
 | _,_=>false
noncomputable def rEq:R2:=fun x y H Q=>scal x y=true∧Q (.bl (decide (x=y))) H
noncomputable def rNe:R2:=fun x y H Q=>scal x y=true∧Q (.bl (!decide (x=y))) H
theorem dec_int {i j:Int}:decide (V.int i=V.int j)=(i == j):=by
 rw [Bool.eq_iff_iff]
 simp
theorem dec_bl {i j:Bool}:decide (V.bl i=V.bl j)=(i == j):=by
 rw [Bool.eq_iff_iff]
 simp
theorem dec_str {i j:Str}:decide (V.str i=V.str j)=(i == j):=by
 rw [Bool.eq_iff_iff]
 simp
theorem dec_byt {i j:Array UInt8}:decide (V.byt i=V.byt j)=(i.toList == j.toList):=by
 rw [Bool.eq_iff_iff]
 cases i
 cases j
 simp
section
variable {X:Cx} {a b c:Expr} {ta tb tc:TE} {pos:Pos}
theorem aV {pins:List (Addr × Obj)} {σ:St} {H:Hp} {s:Shared} {Q:VK} {k k':Bool} (I:Inv X pins σ H s) (q:Q (.bl k) H) (e:k=k'):EP X pins σ Q (.bool k') s:=by
 subst e
 exact ⟨.bl k,H,I,rfl,q⟩
theorem ba:OpR X (compareOp .Eq) rEq:=by
 intro pins s σ H x y v u Q I rx ry h
 obtain ⟨hs,q⟩:=h
 cases x with
 | non=>
  cases rx
  cases y with
  | non=>cases ry;exact PySem.EqNone.eq_none_none (aV I q (by simp))
  | bl j=>cases ry;exact PySem.EqNone.eq_none_bool (aV I q (by simp))
  | int j=>obtain ⟨t',rfl⟩:=ry;exact PySem.EqNone.eq_none_int (aV I q (by simp))
  | str j=>obtain ⟨t',rfl⟩:=ry;exact PySem.EqNone.eq_none_str (aV I q (by simp))
  | _=>exact absurd (show false=true from hs) i8
 | bl i=>
  cases rx
  cases y with
  | non=>cases ry;exact PySem.EqNone.eq_bool_none (aV I q (by simp))
  | bl j=>cases ry;exact eq_bool (aV I q dec_bl)
  | str j=>obtain ⟨t',rfl⟩:=ry;exact PySem.EqMixed.eq_bool_str (aV I q (by simp))
  | _=>exact absurd (show false=true from hs) i8
 | int i=>
  obtain ⟨t,rfl⟩:=rx
  cases y with
  | non=>cases ry;exact PySem.EqNone.eq_int_none (aV I q (by simp))
  | int j=>obtain ⟨t',rfl⟩:=ry;exact eq_int (aV I q dec_int)
  | str j=>obtain ⟨t',rfl⟩:=ry;exact PySem.EqMixed.eq_int_str (aV I q (by simp))
  | _=>exact absurd (show false=true from hs) i8
 | str i=>
  obtain ⟨t,rfl⟩:=rx
  cases y with
  | non=>cases ry;exact PySem.EqNone.eq_str_none (aV I q (by simp))
  | bl j=>cases ry;exact PySem.EqMixed.eq_str_bool (aV I q (by simp))
  | int j=>obtain ⟨t',rfl⟩:=ry;exact PySem.EqMixed.eq_str_int (aV I q (by simp))
  | str j=>obtain ⟨t',rfl⟩:=ry;exact eq_str (aV I q dec_str)
  | _=>exact absurd (show false=true from hs) i8
 | byt i=>
  obtain ⟨t,rfl⟩:=rx
  cases y with
  | byt j=>obtain ⟨t',rfl⟩:=ry;exact PySem.W.eq_bytes (aV I q dec_byt)
  | _=>exact absurd (show false=true from hs) i8
 | _=>cases y <;> exact absurd (show false=true from hs) i8
theorem op_ne:OpR X (compareOp .NotEq) rNe:=by
 intro pins s σ H x y v u Q I rx ry h
 obtain ⟨hs,q⟩:=h
 cases x with
 | non=>
  cases rx
  cases y with
  | non=>cases ry;exact PySem.EqNone.ne_none_none (aV I q (by simp))
  | bl j=>cases ry;exact PySem.EqNone.ne_none_bool (aV I q (by simp))
  | int j=>obtain ⟨t',rfl⟩:=ry;exact PySem.EqNone.ne_none_int (aV I q (by simp))
  | str j=>obtain ⟨t',rfl⟩:=ry;exact PySem.EqNone.ne_none_str (aV I q (by simp))
  | _=>exact absurd (show false=true from hs) i8
 | bl i=>
  cases rx
  cases y with
  | non=>cases ry;exact PySem.EqNone.ne_bool_none (aV I q (by simp))
  | bl j=>cases ry;exact ne_bool (aV I q (jy not dec_bl))
  | str j=>obtain ⟨t',rfl⟩:=ry;exact PySem.EqMixed.ne_bool_str (aV I q (by simp))
  | _=>exact absurd (show false=true from hs) i8
 | int i=>
  obtain ⟨t,rfl⟩:=rx
  cases y with
  | non=>cases ry;exact PySem.EqNone.ne_int_none (aV I q (by simp))
  | int j=>obtain ⟨t',rfl⟩:=ry;exact ne_int (aV I q (jy not dec_int))
  | str j=>obtain ⟨t',rfl⟩:=ry;exact PySem.EqMixed.ne_int_str (aV I q (by simp))
  | _=>exact absurd (show false=true from hs) i8
 | str i=>
  obtain ⟨t,rfl⟩:=rx
  cases y with
  | non=>cases ry;exact PySem.EqNone.ne_str_none (aV I q (by simp))
  | bl j=>cases ry;exact PySem.EqMixed.ne_str_bool (aV I q (by simp))
  | int j=>obtain ⟨t',rfl⟩:=ry;exact PySem.EqMixed.ne_str_int (aV I q (by simp))
  | str j=>obtain ⟨t',rfl⟩:=ry;exact ne_str (aV I q (jy not dec_str))
  | _=>exact absurd (show false=true from hs) i8
 | byt i=>
  obtain ⟨t,rfl⟩:=rx
  cases y with
  | byt j=>obtain ⟨t',rfl⟩:=ry;exact PySem.W.ne_bytes (aV I q (jy not dec_byt))
  | _=>exact absurd (show false=true from hs) i8
 | _=>cases y <;> exact absurd (show false=true from hs) i8
theorem ft:OpR X (compareOp .Lt) (rI0 fun i j=>.bl (decide (i<j))):=opB0 fun _ _ _ _ _ _ _ q=>lt_int q
theorem op_le:OpR X (compareOp .LtE) (rI0 fun i j=>.bl (decide (i≤j))):=opB0 fun _ _ _ _ _ _ _ q=>le_int q
theorem gw:OpR X (compareOp .Gt) (rI0 fun i j=>.bl (decide (j<i))):=opB0 fun _ _ _ _ _ _ _ q=>gt_int q
theorem op_isN:OpR X (compareOp .Is) (fun x y H Q=>y=.non∧Q (.bl (decide (x=.non))) H):=by
 intro pins s σ H x y v u Q I rx ry h
 obtain ⟨rfl,q⟩:=h
 cases ry
 refine is_none_gen (aV I q ?_)
 cases x <;> first
  | (cases rx;rfl)
  | (obtain ⟨t,rfl⟩:=rx;rfl)
theorem dF:OpR X (compareOp .IsNot) (fun x y H Q=>y=.non∧Q (.bl (!decide (x=.non))) H):=by
 intro pins s σ H x y v u Q I rx ry h
 obtain ⟨rfl,q⟩:=h
 cases ry
 refine isnot_none_gen (aV I q ?_)
 cases x <;> first
  | (cases rx;rfl)
  | (obtain ⟨t,rfl⟩:=rx;rfl)
theorem az (b:Expr) {op:CmpOp} (h:op≠.In:=by decide) (h2:op≠.NotIn:=by decide):behindInMarks op b=false:=by
 have e1:(op == CmpOp.In)=false:=by cases op <;> first | rfl | exact absurd rfl h
 have e2:(op == CmpOp.NotIn)=false:=by cases op <;> first | rfl | exact absurd rfl h2
 cases b <;> simp [behindInMarks,e1,e2]
theorem fF {op:CmpOp} {r:R2} (ho:OpR X (compareOp op) r) (ha:PE X a ta) (hb:PE X b tb) (hm:behindInMarks op b=false):PE X (.Compare a [op] [b] pos) (tOp r ta tb):=by
 intro pins s σ H Q I h
 exact wpAny_Compare1 (binT ha hb I h fun v u s2 x y H2 I2 rx ry q=>ho pins s2 σ H2 x y v u Q I2 rx ry q) hm
inductive ItTest (Q:Bool→Hp→Prop) (x:V) (H':Hp):Prop
 | mk (k:_) (h1:x=.bl k) (h2:Q k H'):ItTest Q x H'
noncomputable def tTest (t:TE):TT:=fun σ H Q=>t σ H fun x H'=>ItTest Q x H'
theorem aw {op:CmpOp} {r:R2} (ho:OpR X (compareOp op) r) (ha:PE X a ta) (hb:PE X b tb) (hm:behindInMarks op b=false):PT X (.Compare a [op] [b] pos) (tTest (tOp r ta tb)):=by
 intro pins s σ H Q I h
 refine wpAny_isTrue_Compare1 (thn (ha pins s σ H _ I h) fun v s1 ⟨x,H1,I1,r1,q1⟩=>thn (hb pins s1 σ H1 _ I1 q1) fun u s2 ⟨y,H2,I2,r2,q2⟩=>
  thn (ho pins s2 σ H2 x y v u _ I2 r1 r2 q2) fun c s3 ⟨z,H3,I3,r3,k,e,q3⟩=>?_) hm
 subst e
 cases r3
 exact wpAny_truthy_bool ⟨H3,I3,q3⟩
theorem line63:(sizeLine:Nat)<2 ^ 63:=by rw [sizeLine_eq];decide
theorem op_add_str:OpR X (binaryOp .Add) (fun x y H Q=>∃ i j,x=.str i∧y=.str j∧i.length+j.length≤sizeLine∧Q (.str (i++j)) H):=by
 intro pins s σ H x y v u Q I rx ry h
 obtain ⟨i,j,rfl,rfl,hz,q⟩:=h
 obtain ⟨t,rfl⟩:=rx
 obtain ⟨t',rfl⟩:=ry
 exact add_str (fun t' tk=>⟨.str (i++j),H,I.tok _,⟨_,rfl⟩,q⟩) hz
theorem vals1 {x:V} {us:List Value} (r:Vals [x] us):∃ u,us=[u]∧RelV x u:=by
 cases r with
 | cons r1 r2=>cases r2;exact ⟨_,rfl,r1⟩
theorem call_abs:gx X (.builtin "abs") (fun xs H Q=>∃ i,xs=[.int i]∧Q (.int (if i<0 then -i else i)) H):=by
 intro pins s σ H xs us Q I r h
 obtain ⟨i,rfl,q⟩:=h
 obtain ⟨u,rfl,t,rfl⟩:=vals1 r
 exact call_abs_int fun u tk=>⟨.int (if i<0 then -i else i),H,I.tok _,⟨_,rfl⟩,q⟩
end
end L2
namespace L2
open PySem PySem.Spec PyProof.Rows
structure ObjM (h:Heap) (x dx C:Addr) (mA:Str→Option Value):Prop where
 obj:h.get? x=some (PySem.W.instObj C dx)
 ns:h.Ns1 dx mA
 ne:dx≠x
theorem lookIn_ns {h:Heap} {dx:Addr} {mA:Str→Option Value} (n:h.Ns1 dx mA):∃ od,h.get? dx=some od∧∀ name,PySem.W.lookIn name od=some (mA name):=by
 obtain ⟨o,es,ep,ho,hd,hk,_,hm⟩:=n
 refine ⟨o,ho,fun name=>?_⟩
 have e:=hm name
 unfold nsFind findBy at e
 rw [← Array.find?_toList] at e
 unfold PySem.W.lookIn
 rw [hd]
 dsimp only
 split
 ·rename_i y q
  rw [q] at e
  exact jy some e
 ·rename_i q
  rw [q] at e
  have a:es.toList.any (·.refKey)=false:=by
   rw [List.any_eq_false]
   intro y hy
   obtain ⟨z,t,hkey⟩:=hk y (Array.mem_toList_iff.mp hy)
   simp [DictEntry.refKey,hkey]
  have a':¬ es.toList.any (·.refKey)=true:=by rw [a];exact i8
  rw [if_neg a']
  exact jy some e
theorem ObjM.look {h:Heap} {x dx C:Addr} {mA:Str→Option Value} (I:ObjM h x dx C mA):∃ od,PySem.W.InstAt h x (PySem.W.instObj C dx) C (some od)∧∀ name,PySem.W.lookIn name od=some (mA name):=
 let ⟨od,ho,hl⟩:=lookIn_ns I.ns
 ⟨od,⟨I.obj,rfl,rfl,ho⟩,hl⟩
section
variable {prog:Program} {w:World} {A:Around} {E:Value→Shared→Prop} {s:Shared} {K:PySem.W.Frag} {x dx C f:Addr} {mA:Str→Option Value} {name:Str} {v:Value}
theorem get_map {expr:Bool} {Q:Value→Shared→Prop} (X:K.In s.heap) (I:ObjM s.heap x dx C mA) (hg:PySem.W.plainGet K C name=true) (hh:PySem.W.hasDictIn K C=true)
  (ha:PySem.W.findIn K (.ref C) name=some none) (hv:mA name=some v) (hv':PySem.W.handedIn v=true) (h:Q v { s with toks:=s.toks+1 }) :
  wpAny (model prog w) A (getAttr (.ref x) name expr) Q E s:=by
 obtain ⟨od,J,hl⟩:=I.look
 exact PySem.W.get_value X J (PySem.W.plainGet_of hg).1 (PySem.W.findObj_own hh ha rfl (by rw [hl,hv])) hv' h
theorem get_meth {pl:Sem Bool} {Q:Value × List Value→Shared→Prop} (X:K.In s.heap) (I:ObjM s.heap x dx C mA) (hg:PySem.W.plainGet K C name=true)
  (hf:PySem.W.findIn K (.ref C) name=some (some (.ref f))) (ht:PySem.W.isFn K (.ref f)=true) (hv:mA name=none) (h:Q (.ref f,[.ref x]) s) :
  wpAny (model prog w) A (getMethod (.ref x) name pl) Q E s:=by
 obtain ⟨od,J,hl⟩:=I.look
 exact PySem.W.method_fn X J (PySem.W.plainGet_of hg).1 (PySem.W.plainGet_of hg).2 hf (beq_iff_eq.mp ht) (by show (PySem.W.lookIn name od).map (·.isSome)=some false;rw [hl,hv];rfl) h
theorem set_map {ns:List Str} {Q:Unit→Shared→Prop} (X:K.In s.heap) (I:ObjM s.heap x dx C mA)
  (hs:PySem.W.findIn K (.ref C) "__setattr__"=some (some (.builtin "object.__setattr__"))) (hp:PySem.W.plainOver K C=true) (ht:PySem.W.takerIn K C name=some none) (hh:PySem.W.hasDictIn K C=true)
  (hw:PySem.Within mA ns) (hsz:ns.length≤sizeLine)
  (h:∀ h',ObjM h' x dx C (fun y=>if y=name then some v else mA y)→Heap.SameBut dx s.heap h'→Q () { s with heap:=h',toks:=s.toks+2 }) :
  wpAny (model prog w) A (setAttr (.ref x) name v) Q E s:=by
 obtain ⟨od,J,hl⟩:=I.look
 refine PySem.W.set_plain X J hs (PySem.W.osa_open (s:={ s with toks:=s.toks+1 }) (r:=none) X J hp ht fun b=>?_)
 obtain ⟨cd,hc,hd'⟩:=PySem.W.any_some hh
 have hx:s.heap.get? x=some ⟨.ref C,some dx,.plain,#[]⟩:=I.obj
 refine iK (iQ (iK (iK (wpAny_loadPart hx (iK (PySem.W.Looks.here (s:={ s with toks:=s.toks+1 }) (PySem.W.looks_clsIn X hc) ?_))))))
 rw [hd']
 refine iQ (a:=some dx) (iK (iQ (iK ?_)))
 refine wpAny_nsSet1 (s:={ s with toks:=s.toks+1 }) I.ns fun h' hn2 hs2=>?_
 obtain ⟨oD,esD,epD,hoD,hdD,hcD⟩:=hn2.count (PySem.Within.cons name v hw)
 refine iK (wpAny_lookBehind hoD (by rw [hdD];exact pastItsLine_dict (i3 hcD (by rw [jr];omega))) ?_)
 exact iQ (h _ ⟨(hs2.2 _ (Ne.symm I.ne)).trans I.obj,hn2,I.ne⟩ hs2)
theorem make_map {R:Result→Shared→Prop} {vs:List Value} {kw:List (Str × Value)} (X:K.In s.heap) (hm:PySem.W.makesIn K C=true)
  (hi:PySem.W.findIn K (.ref C) "__init__"=some (some (.ref f))) (hf:PySem.W.typeIn K (.ref f)=some (.type "function"))
  (h:codeAny (model prog w) (A.under (.builtin "type.__call__" ⟨.ref C::vs,kw⟩)) (.call (.ref f) ⟨.ref (s.heap.objs.size+1)::vs,kw⟩) (PySem.W.InitBack (s.heap.objs.size+1) R)
   { s with heap:=(s.heap.push PySem.W.emptyDict).push (PySem.W.instObj C s.heap.objs.size) }) :
  codeAny (model prog w) A (.call (.ref C) ⟨vs,kw⟩) R s:=by
 obtain ⟨hh,g,d,t,os⟩:=s
 exact PySem.W.make_core (PySem.W.makes_of X hm) (PySem.W.looks_findIn X hi) (fun self=>PySem.W.bind_fn X self hf) (.inl rfl) h
end
noncomputable def bY (f:Str) (v:V):List (Str × V)→List (Str × V)
 | []=>[(f,v)]
 | (g,x)::r=>if g=f then (g,v)::r else (g,x)::bY f v r
theorem dz (f g:Str) (v:V):∀ fs:List (Str × V),(bY f v fs).lookup g=if g=f then some v else fs.lookup g
 | []=>by
  show List.lookup g [(f,v)]=_
  by_cases h:g=f
  ·have hb:(g == f)=true:=beq_iff_eq.mpr h
   simp only [List.lookup,hb,if_pos h]
  ·have hb:(g == f)=false:=jL.mpr h
   simp only [List.lookup,hb,if_neg h]
 | (k,x)::r=>by
  have ih:=dz f g v r
  rw [show bY f v ((k,x)::r)=(if k=f then (k,v)::r else (k,x)::bY f v r) from rfl]
  by_cases hk:k=f
  ·rw [if_pos hk]
   by_cases h:g=k
   ·have hb:(g == k)=true:=beq_iff_eq.mpr h
    simp only [List.lookup,hb,if_pos (h.trans hk)]
   ·have hb:(g == k)=false:=jL.mpr h
    simp only [List.lookup,hb,if_neg (fun e:g=f=>h (e.trans hk.symm))]
  ·rw [if_neg hk]
   by_cases h:g=k
   ·have hb:(g == k)=true:=beq_iff_eq.mpr h
    simp only [List.lookup,hb,if_neg (fun e:g=f=>hk (h.symm.trans e))]
   ·have hb:(g == k)=false:=jL.mpr h
    simp only [List.lookup,hb]
    exact ih
theorem keys_putF (f:Str) (v:V):∀ fs:List (Str × V),f∈(bY f v fs).map (·.1)∧∀ g,g∈fs.map (·.1)→g∈(bY f v fs).map (·.1)
 | []=>⟨by simp [bY],fun g h=>by simp at h⟩
 | (k,x)::r=>by
  obtain ⟨i1,i2⟩:=keys_putF f v r
  rw [show bY f v ((k,x)::r)=(if k=f then (k,v)::r else (k,x)::bY f v r) from rfl]
  by_cases hk:k=f
  ·rw [if_pos hk]
   subst hk
   exact ⟨by simp,fun g h=>by simpa using h⟩
  ·rw [if_neg hk]
   refine ⟨?_,fun g h=>?_⟩
   ·rw [jv]
    exact jn _ i1
   ·rw [jv] at h ⊢
    rcases ja.mp h with e | e
    ·exact ja.mpr (.inl e)
    ·exact jn _ (i2 g e)
theorem bV (f:Str) (v:V):∀ fs:List (Str × V),(bY f v fs).length≤fs.length+1
 | []=>by simp [bY]
 | (k,x)::r=>by
  have ih:=bV f v r
  rw [show bY f v ((k,x)::r)=(if k=f then (k,v)::r else (k,x)::bY f v r) from rfl]
  by_cases hk:k=f
  ·rw [if_pos hk,jr,jr];omega
  ·rw [if_neg hk,jr,jr];omega
theorem RelO.some_of {v:V} {o:Option Value} (r:RelO (some v) o):∃ u,o=some u∧RelV v u:=by
 cases o with
 | none=>exact (show False from r).elim
 | some u=>exact ⟨u,rfl,r⟩
theorem RelO.none_of {o:Option Value} (r:RelO none o):o=none:=by
 cases o with
 | none=>rfl
 | some u=>exact (show False from r).elim
theorem handed_of {v:V} {u:Value} (r:RelV v u):PySem.W.handedIn u=true:=by
 cases v with
 | non=>cases (show u=Value.none from r);rfl
 | bl b=>cases (show u=Value.bool b from r);rfl
 | int i=>obtain ⟨t,e⟩:=(show ∃ t,u=Value.int i t from r);cases e;rfl
 | str x=>obtain ⟨t,e⟩:=(show ∃ t,u=Value.str x t from r);cases e;rfl
 | byt b=>obtain ⟨t,e⟩:=(show ∃ t,u=Value.bytes b t from r);cases e;rfl
 | flt b=>obtain ⟨t,e⟩:=(show ∃ t,u=Value.float b t from r);cases e;rfl
 | ref a=>cases (show u=Value.ref a from r);rfl
 | ty n=>cases (show u=Value.type n from r);rfl
section
variable {P:Program} {w:World} {H H':Hp} {h h':Heap} {a C dx:Addr} {fs fs':List (Str × V)}
theorem ins_get (hok:HOk P w H h) (e:H a=some (.ins C dx fs)):∃ mA,ObjM h a dx C mA∧(∀ f,RelO (fs.lookup f) (mA f))∧PySem.Within mA (fs.map (·.1))∧fs.length≤1000∧H dx=some (.own a):=by
 obtain ⟨d,z,ne,ob,mA,n,r,q⟩:=(show ObjOk P w H h a (.ins C dx fs) from hok a _ e)
 exact ⟨mA,⟨ob,n,ne⟩,r,q,z,d⟩
end
structure Cls (K:PySem.W.Frag) (C:Addr):Prop where
 pg:PySem.W.plainGet K C Str.empty=true
 hd:PySem.W.hasDictIn K C=true
 po:PySem.W.plainOver K C=true
 sa:PySem.W.findIn K (.ref C) "__setattr__"=some (some (.builtin "object.__setattr__"))
theorem Cls.get {K:PySem.W.Frag} {C:Addr} (c:Cls K C) (f:Str):PySem.W.plainGet K C f=true:=c.pg
noncomputable def NoAttr (K:PySem.W.Frag) (C:Addr) (f:Str):Prop:=PySem.W.findIn K (.ref C) f=some none
theorem NoAttr.taker {K:PySem.W.Frag} {C:Addr} {f:Str} (n:NoAttr K C f):PySem.W.takerIn K C f=some none:=by
 unfold PySem.W.takerIn
 rw [show PySem.W.findIn K (.ref C) f=some none from n]
 rfl
structure Con (K:PySem.W.Frag) (C:Addr) (f:Str) (v:V) (u:Value):Prop where
 at_:PySem.W.findIn K (.ref C) f=some (some u)
 rel:RelV v u
 get:PySem.W.specialIn K u "__get__"=some none
 cp:PySem.W.copiedNames.contains f=false
structure Meth (K:PySem.W.Frag) (C:Addr) (m:Str) (f:Addr):Prop where
 at_:PySem.W.findIn K (.ref C) m=some (some (.ref f))
 fn:PySem.W.isFn K (.ref f)=true
 kp:PySem.W.keepIn K (.ref f)=true
section
variable {X:Cx} {pins:List (Addr × Obj)} {σ:St} {H:Hp} {s:Shared} {a C dx:Addr} {fs:List (Str × V)} {f:Str} {v:V} {A:Around} {E:Value→Shared→Prop}
theorem ib {b:Bool} {Q:Value→Shared→Prop} (I:Inv X pins σ H s) (e:H a=some (.ins C dx fs)) (c:Cls X.K C) (n:NoAttr X.K C f) (l:fs.lookup f=some v)
  (h:∀ u s',Inv X pins σ H s'→RelV v u→Q u s'):wpAny (model X.prog X.w) A (getAttr (.ref a) f b) Q E s:=by
 obtain ⟨mA,O,r,_,_,_⟩:=ins_get I.hok e
 obtain ⟨u,hu,ru⟩:=RelO.some_of (v:=v) (o:=mA f) (by rw [← l];exact r f)
 exact get_map I.kIn O (c.get f) c.hd n hu (handed_of ru) (h u _ (I.tok _) ru)
theorem gr {m:Str} {g:Addr} {pl:Sem Bool} {Q:Value × List Value→Shared→Prop} (I:Inv X pins σ H s) (e:H a=some (.ins C dx fs)) (c:Cls X.K C) (k:Meth X.K C m g) (l:fs.lookup m=none)
  (h:Q (.ref g,[.ref a]) s):wpAny (model X.prog X.w) A (getMethod (.ref a) m pl) Q E s:=by
 obtain ⟨mA,O,r,_,_,_⟩:=ins_get I.hok e
 have hn:mA m=none:=RelO.none_of (by rw [← l];exact r m)
 exact get_meth I.kIn O (c.get m) k.at_ k.fn hn h
theorem setattr_ok {y:V} {u:Value} {Q:Unit→Shared→Prop} (I:Inv X pins σ H s) (e:H a=some (.ins C dx fs)) (c:Cls X.K C) (n:NoAttr X.K C f) (hl:fs.length<1000) (ry:RelV y u)
  (h:∀ s',Inv X pins σ (upd H a (.ins C dx (bY f y fs))) s'→Q () s'):wpAny (model X.prog X.w) A (setAttr (.ref a) f u) Q E s:=by
 obtain ⟨mA,O,r,wi,_,ho⟩:=ins_get I.hok e
 have hz:(fs.map (·.1)).length≤sizeLine:=by rw [iM,sizeLine_eq];omega
 refine set_map I.kIn O c.sa c.po n.taker c.hd wi hz fun h' O' sb=>h _ ?_
 have hd:∃ o,h'.get? dx=some o:=let ⟨o,_,_,e',_⟩:=O'.ns;⟨o,e'⟩
 refine I.write (x:=a) (e:=dx) (by rw [e];exact True.intro) (.inr ho) (fun b q hb z=>(sb.2 b hb).trans z) hd ?_
 refine ⟨by rw [aj O.ne];exact ho,?_,O.ne,O'.obj,_,O'.ns,fun g=>?_,fun g hg=>?_⟩
 ·have:=bV f y fs;omega
 ·show RelO ((bY f y fs).lookup g) (if g=f then some u else mA g)
  rw [dz]
  by_cases q:g=f
  ·rw [if_pos q,if_pos q];exact ry
  ·rw [if_neg q,if_neg q];exact r g
 ·by_cases q:g=f
  ·rw [q];exact (keys_putF f y fs).1
  ·refine (keys_putF f y fs).2 g (wi g fun z=>hg ?_)
   show (if g=f then some u else mA g)=none
   rw [if_neg q];exact z
theorem Inv.made (I:Inv X pins σ H s):Inv X pins σ (upd (upd H s.heap.objs.size (.own (s.heap.objs.size+1))) (s.heap.objs.size+1) (.ins C s.heap.objs.size []))
  { s with heap:=(s.heap.push PySem.W.emptyDict).push (PySem.W.instObj C s.heap.objs.size) }:=by
 have e1:(s.heap.push PySem.W.emptyDict).get? s.heap.objs.size=some PySem.W.emptyDict:=i9 s.heap rfl
 have e2:((s.heap.push PySem.W.emptyDict).push (PySem.W.instObj C s.heap.objs.size)).get? (s.heap.objs.size+1)=some (PySem.W.instObj C s.heap.objs.size):=by
  have:=i9 (s.heap.push PySem.W.emptyDict) (o:=PySem.W.instObj C s.heap.objs.size) rfl
  rwa [Heap.size_push] at this
 have e3:(s.heap.push PySem.W.emptyDict).Ns s.heap.objs.size (fun _=>none):=⟨PySem.W.emptyDict,#[],_,e1,rfl,(fun e he=>absurd he (by simp)),fun _=>rfl⟩
 have I1:=I.laid (a:=s.heap.objs.size) (o:=.own (s.heap.objs.size+1)) (h':=s.heap.push PySem.W.emptyDict) (t':=s.toks) (fun b u q=>iN _ q) (iP _) ⟨_,e1⟩
 refine I1.laid (a:=s.heap.objs.size+1) (o:=.ins C s.heap.objs.size []) (t':=s.toks) (fun b u q=>iN _ q) (Nat.le_of_eq (Heap.size_push _ _)) ?_
 have ne:s.heap.objs.size≠s.heap.objs.size+1:=jm (Nat.lt_succ_self _)
 refine ⟨by rw [aj ne,ad],iY _,ne,e2,fun _=>none,(Heap.Ns1.of_empty e3).at fun o q=>iN _ q,fun _=>True.intro,fun y hy=>absurd rfl hy⟩
theorem attr_of {prog:Program} {w:World} {env:Env} {e:Expr} {f:Str} {pos:Pos} {s:Shared} {Q:Value→Shared→Prop} (hb:attributeBase e f env (eval e env)=eval e env)
  (h:wpAny (model prog w) A (eval e env) (fun o s₁=>wpAny (model prog w) A (getAttr o f true) Q E s₁) E s):wpAny (model prog w) A (eval (.Attribute e f pos) env) Q E s:=
 Attribute_any_ h (by rw [arm_eval_Attribute,hb])
end
inductive ItFld (K:PySem.W.Frag) (f:Str) (Q:VK) (x:V) (H1:Hp):Prop
 | mk (a:_) (C:_) (dx:_) (fs:_) (v:_) (h1:x=.ref a) (h2:H1 a=some (.ins C dx fs)) (h3:Cls K C) (h4:NoAttr K C f) (h5:fs.lookup f=some v) (h6:Q v H1):ItFld K f Q x H1
noncomputable def tFld (K:PySem.W.Frag) (ta:TE) (f:Str):TE:=fun σ H Q=>ta σ H fun x H1=>ItFld K f Q x H1
noncomputable def sFld (K:PySem.W.Frag) (ta tv:TE) (f:Str):TS:=fun D σ H=>tv σ H fun y H1=>ta σ H1 fun x H2=>∃ a C dx fs,x=.ref a∧H2 a=some (.ins C dx fs)∧Cls K C∧NoAttr K C f∧fs.length<1000∧
 D.nx σ (upd H2 a (.ins C dx (bY f y fs)))
section
variable {X:Cx} {o e value:Expr} {f:Str} {pos pos' tpos:Pos} {ta tv:TE}
theorem a8 (he:PE X e ta) (hb:attributeBase e f X.env (eval e X.env)=eval e X.env):PE X (.Attribute e f pos) (tFld X.K ta f):=by
 intro pins s σ H Q I h
 refine attr_of hb (thn (he pins s σ H _ I h) fun u s1 ⟨x,H1,I1,rx,a,C,dx,fs,v,ex,ea,c,n,l,q⟩=>?_)
 subst ex
 obtain rfl:u=Value.ref a:=rx
 exact ib I1 ea c n l fun u' s2 I2 ru=>⟨v,H1,I2,ru,q⟩
theorem d9 (ha:PE X o ta) (hv:PE X value tv) (hs:swapsWith value (some (.Attribute o f pos')) pos.line X.env=pure false):PS X (.Assign [.Attribute o f pos'] value pos) (sFld X.K ta tv f):=by
 intro pins s σ H D I h
 refine plainObj_wpAny_Assign_Attribute (thn (hv pins s σ H _ I h) fun u s1 ⟨y,H1,I1,ry,q⟩=>thn (ha pins s1 σ H1 _ I1 q) fun ov s2 ⟨x,H2,I2,rx,a,C,dx,fs,ex,ea,c,n,l,q2⟩=>?_) hs
 subst ex
 obtain rfl:ov=Value.ref a:=rx
 exact setattr_ok I2 ea c n l ry fun s3 I3=>⟨σ,_,I3,q2⟩
end
section
variable {X:Cx} {pins:List (Addr × Obj)} {σ:St} {H:Hp} {s:Shared} {A:Around} {E:Value→Shared→Prop} {Q:Value→Shared→Prop} {c:Value} {b:Bool}
inductive TyOf (K:PySem.W.Frag) (H:Hp):V→Value→Prop where
 | non:TyOf K H .non (.type "NoneType")
 | bl (x:Bool):TyOf K H (.bl x) (.type "bool")
 | int (i:Int):TyOf K H (.int i) (.type "int")
 | str (x:Str):TyOf K H (.str x) (.type "str")
 | flt (x:UInt64):TyOf K H (.flt x) (.type "float")
 | lst {a:Addr} {xs:List V} (e:H a=some (.lst xs)):TyOf K H (.ref a) (.type "list")
 | frz {a:Addr} {o:Obj} {xs:List V} (e:H a=some (.frz o (.lst xs))):TyOf K H (.ref a) (.type "list")
 | tup {a:Addr} {xs:List V} (e:H a=some (.tup xs)):TyOf K H (.ref a) (.type "tuple")
 | dK {a:Addr} {kvs:List (Key × V)} (e:H a=some (.dK kvs)):TyOf K H (.ref a) (.type "dict")
 | dT {a:Addr} {kvs:List (List Key × V)} (e:H a=some (.dT kvs)):TyOf K H (.ref a) (.type "dict")
 | ins {a C dx:Addr} {fs:List (Str × V)} (e:H a=some (.ins C dx fs)) (cl:Cls K C) (ha:PySem.W.findIn K (.ref C) "__class__"=some (some (.builtin "object.__class__")))
   (hn:PySem.W.specialIn K (.builtin "object.__class__") "__get__"=some (some (.builtin "getset_descriptor.__get__"))) (htk:PySem.W.takesIn K (.builtin "object.__class__")=some true)
   (hm:PySem.W.mroIn K C (.type "object")=some true):TyOf K H (.ref a) (.ref C)
theorem isinst_ok {x:V} {u t:Value} (I:Inv X pins σ H s) (rx:RelV x u) (ty:TyOf X.K H x t) (e:PySem.W.kitOne X.K t c=some b) (h:∀ tk,Q (.bool b) { s with toks:=tk }) :
  wpAny (model X.prog X.w) A (call (.builtin "isinstance") [u,c]) Q E s:=by
 cases ty with
 | non=>cases (show u=Value.none from rx);exact jK PySem.W.kitx_none I.kIn True.intro e (fun z=>nomatch z) h
 | bl y=>cases (show u=Value.bool y from rx);exact jK PySem.W.kitx_bool I.kIn True.intro e (fun z=>nomatch z) h
 | int i=>obtain ⟨t,q⟩:=(show ∃ t,u=Value.int i t from rx);cases q;exact jK PySem.W.kitx_int I.kIn True.intro e (fun z=>nomatch z) h
 | str y=>obtain ⟨t,q⟩:=(show ∃ t,u=Value.str y t from rx);cases q;exact jK PySem.W.kitx_str I.kIn True.intro e (fun z=>nomatch z) h
 | flt y=>obtain ⟨t,q⟩:=(show ∃ t,u=Value.float y t from rx);cases q;exact jK PySem.W.kitx_float I.kIn True.intro e (fun z=>nomatch z) h
 | @lst a xs ea=>
  cases (show u=Value.ref a from rx)
  obtain ⟨_,_,n,_,h1⟩:=(show ObjOk X.prog X.w H s.heap a (.lst xs) from I.hok a _ ea)
  exact jK PySem.W.kitx_list I.kIn ⟨_,h1,rfl⟩ e (fun z=>nomatch z) h
 | @frz a ob xs ea=>
  cases (show u=Value.ref a from rx)
  obtain ⟨_,_,_,n,_,h1⟩:=(show ObjOk X.prog X.w H s.heap a (.frz ob (.lst xs)) from I.hok a _ ea)
  exact jK PySem.W.kitx_list I.kIn ⟨_,h1,rfl⟩ e (fun z=>nomatch z) h
 | @tup a xs ea=>
  cases (show u=Value.ref a from rx)
  obtain ⟨_,_,_,p⟩:=(show ObjOk X.prog X.w H s.heap a (.tup xs) from I.hok a _ ea)
  obtain ⟨o,h1,h2,_⟩:=p
  exact jK PySem.W.kitx_tuple I.kIn ⟨o,h1,h2⟩ e (fun z=>nomatch z) h
 | @dK a kvs ea=>
  cases (show u=Value.ref a from rx)
  obtain ⟨_,_,vs,_,p⟩:=(show ObjOk X.prog X.w H s.heap a (.dK kvs) from I.hok a _ ea)
  obtain ⟨o,es,ep,h1,h2,_⟩:=p
  exact jK PySem.W.kitx_dict I.kIn ⟨o,h1,h2.1⟩ e (fun z=>nomatch z) h
 | @dT a kvs ea=>
  cases (show u=Value.ref a from rx)
  obtain ⟨_,_,xs,_,o,es,ep,h1,h2,_⟩:=(show ObjOk X.prog X.w H s.heap a (.dT kvs) from I.hok a _ ea)
  exact jK PySem.W.kitx_dict I.kIn ⟨o,h1,h2.1⟩ e (fun z=>nomatch z) h
 | @ins a C dx fs ea cl ha hn htk hm=>
  cases (show u=Value.ref a from rx)
  obtain ⟨mA,O,_⟩:=ins_get I.hok ea
  obtain ⟨od,J,_⟩:=O.look
  exact jK (PySem.W.kitx_own (cl.get _) cl.hd ha hn htk hm) I.kIn J e (fun z=>nomatch z) h
end
end L2
namespace L2
open PySem PySem.Spec PyProof.Rows
structure Room (k:Nat) (A:Around):Prop where
 hd:A.handled=none
 dp:A.depth+3*k+5<recursionLimit
 un:A.units+16*k+200<cLine
theorem Room.mono {j k:Nat} {A:Around} (r:Room k A) (h:j≤k):Room j A:=⟨r.hd,by have:=r.dp;omega,by have:=r.un;omega⟩
theorem Room.deeper {k:Nat} {A:Around} (r:Room (k+1) A) (env:Env):Room k (A.deeper env):=
 ⟨r.hd,by have:=r.dp;show A.depth+1+3*k+5<_;omega,by have:=r.un;show A.units+3+16*k+200<_;omega⟩
theorem make_depth {A:Around} {C:Addr} {us:List Value} {kw:List (Str × Value)}:(A.under (.builtin "type.__call__" ⟨.ref C::us,kw⟩)).depth=A.depth+1:=by
 first | rfl | simp [Around.under,Code.weight,Code.isCreation,Code.isGuard,Code.isCaller,Code.frames,Code.isFrame,guardIds]
theorem make_units {A:Around} {C:Addr} {us:List Value} {kw:List (Str × Value)}:(A.under (.builtin "type.__call__" ⟨.ref C::us,kw⟩)).units=A.units+1:=by
 first | rfl | simp [Around.under,Code.cUnits,Code.frames,Code.isFrame]
theorem Room.make {k:Nat} {A:Around} (r:Room (k+1) A) (C:Addr) (us:List Value) (kw:List (Str × Value)):Room k (A.under (.builtin "type.__call__" ⟨.ref C::us,kw⟩)):=
 ⟨r.hd,by have:=r.dp;rw [make_depth];omega,by have:=r.un;rw [make_units];omega⟩
theorem Room.depth {k:Nat} {A:Around} (r:Room k A):A.depth<recursionLimit:=by have:=r.dp;omega
theorem Room.units {k:Nat} {A:Around} (r:Room k A):A.units+64<cLine:=by have:=r.un;omega
theorem Room.units0 {k:Nat} {A:Around} (r:Room k A):A.units<cLine:=by have:=r.un;omega
noncomputable def tNil:TA:=fun _ H Q=>Q [] H
noncomputable def tCons (ta:TE) (tr:TA):TA:=fun σ H Q=>ta σ H fun x H1=>tr σ H1 fun xs H2=>Q (x::xs) H2
section
variable {X:Cx} {e:Expr} {es:List Expr} {te:TE} {t:TA} {pos:Pos}
theorem ae:PA X [] tNil:=fun _ _ _ _ H Q I h=>Calls.spliced_nil ⟨[],H,I,.nil,h⟩
theorem aa (ha:PE X e te) (hr:PA X es t) (hs:starEach (e::es) X.env=(false,eval e X.env)::starEach es X.env:=by rfl):PA X (e::es) (tCons te t):=by
 intro pos pins s σ H Q I h
 rw [hs]
 show wpAny _ _ (spliced ((false,eval e X.env)::backTo pos (starEach es X.env))) _ _ s
 refine Calls.spliced_cons (thn (ha pins s σ H _ I h) fun u s1 ⟨x,H1,I1,r1,q1⟩=>?_)
 exact thn (hr pos pins s1 σ H1 _ I1 q1) fun us s2 ⟨xs,H2,I2,r2,q2⟩=>⟨x::xs,H2,I2,.cons r1 r2,q2⟩
noncomputable def tTup (t:TA):TE:=fun σ H Q=>t σ H fun xs H1=>xs.length≤sizeLine∧∀ p,H1 p=none→Q (.ref p) (upd H1 p (.tup xs))
noncomputable def tLst (t:TA):TE:=fun σ H Q=>t σ H fun xs H1=>xs.length≤sizeLine∧∀ p,H1 p=none→Q (.ref p) (upd H1 p (.lst xs))
theorem aF {x1} (h:PA X es t):PE X (.Tuple es x1 pos) (tTup t):=by
 intro pins s σ H Q I hq
 refine wpAny_Tuple_spliced (thn (h pos pins s σ H _ I hq) fun us s1 ⟨xs,H1,I1,r,z,q⟩=>⟨by rw [← r.length];exact z,?_⟩)
 have hf:H1 s1.heap.objs.size=none:=I1.hok.fresh (iP _)
 refine ⟨.ref s1.heap.objs.size,upd H1 s1.heap.objs.size (.tup xs),I1.laid (t':=s1.toks) (fun b u e=>iN _ e) (iP _) ?_,rfl,q _ hf⟩
 exact ⟨z,us,r,⟨_,i9 _ rfl,rfl,_,rfl⟩⟩
theorem pe_lst (h:PA X es t):PE X (.List es pos) (tLst t):=by
 intro pins s σ H Q I hq
 refine wpAny_List_spliced (thn (h pos pins s σ H _ I hq) fun us s1 ⟨xs,H1,I1,r,z,q⟩=>⟨by rw [← r.length];exact z,?_⟩)
 have hf:H1 s1.heap.objs.size=none:=I1.hok.fresh (iP _)
 refine ⟨.ref s1.heap.objs.size,upd H1 s1.heap.objs.size (.lst xs),I1.laid (t':=s1.toks) (fun b u e=>iN _ e) (iP _) ?_,rfl,q _ hf⟩
 exact ⟨z,us,0,r,i9 _ rfl⟩
end
noncomputable abbrev Sp:=List V→Hp→VK→XK→Prop
noncomputable abbrev CXT:=List Env→Hp→Shared→XK→Value→Shared→Prop
structure Env0 (P:Program) (w:World) (K:PySem.W.Frag) (mg:Str→Option Value) (base:Heap) (A:Around) (outer:List Env) (s:Shared) (H:Hp):Prop where
 frames:A.frames=some outer
 mod:Mod K mg base
 bs:∀ b o,base.get? b=some o→s.heap.get? b=some o∧H b=none
 bsz:base.objs.size≤s.heap.objs.size
 funs:s.heap.FunFrames base outer
 frf:∀ b∈frs outer,H b=none
 hok:HOk P w H s.heap
 bare:AllBare s.gens
noncomputable def CE (outer:List Env) (P:Program) (w:World) (H:Hp) (s:Shared) (Q:VK) (u:Value) (s':Shared):Prop:=
 ∃ v H',s'.os=s.os∧AllBare s'.gens∧Un (frs outer) [] H H' s.heap s'.heap∧HOk P w H' s'.heap∧RelV v u∧Q v H'
noncomputable def CR (CX:CXT) (outer:List Env) (P:Program) (w:World) (H:Hp) (s:Shared) (Q:VK) (E:XK) (r:Result) (s':Shared):Prop:=
 match r with
 | .ok (.ret u)=>CE outer P w H s Q u s'
 | .ok _=>False
 | .error e=>CX outer H s E e s'
structure FnOk (P:Program) (w:World) (K:PySem.W.Frag) (mg:Str→Option Value) (base:Heap) (CX:CXT) (k:Nat) (f:Addr) (fd:FuncData) (ps:List Str) (sp:Sp):Prop where
 len:∀ vs H Q E,sp vs H Q E→vs.length=ps.length
 run:∀ (A:Around) (outer:List Env) (s:Shared) (H:Hp) (args:Args) (us:List Value) (vs:List V) (Q:VK) (E:XK),Room k A→Env0 P w K mg base A outer s H→BindsTo s fd args (ps.zip us)→Vals vs us→sp vs H Q E→
  codeAny (model P w) A (.call (.ref f) args) (CR CX outer P w H s Q E) s
theorem FnOk.imp {P:Program} {w:World} {K:PySem.W.Frag} {mg:Str→Option Value} {base:Heap} {CX:CXT} {k:Nat} {f:Addr} {fd:FuncData} {ps:List Str} {sp sp':Sp} (F:FnOk P w K mg base CX k f fd ps sp)
  (h:∀ vs H Q E,sp' vs H Q E→sp vs H Q E):FnOk P w K mg base CX k f fd ps sp':=
 ⟨fun vs H Q E q=>F.len vs H Q E (h _ _ _ _ q),fun A outer s H args us vs Q E hr he hb hv hs=>F.run A outer s H args us vs Q E hr he hb hv (h _ _ _ _ hs)⟩
theorem Env0.make {P:Program} {w:World} {K:PySem.W.Frag} {mg:Str→Option Value} {base:Heap} {A:Around} {outer:List Env} {s:Shared} {H:Hp} (e:Env0 P w K mg base A outer s H) (C:Addr) (us:List Value) (kw:List (Str × Value)) :
  Env0 P w K mg base (A.under (.builtin "type.__call__" ⟨.ref C::us,kw⟩)) outer s H:=⟨by first | exact e.frames | (simpa [Around.under,Code.envs,Code.isFrame,pushEnvs] using e.frames),e.mod,e.bs,e.bsz,e.funs,e.frf,e.hok,e.bare⟩
section
variable {X:Cx} {pins:List (Addr × Obj)} {σ:St} {H:Hp} {s s':Shared}
theorem Inv.env0 (I:Inv X pins σ H s):Env0 X.prog X.w X.K X.mg X.base X.A X.stack s H:=
 ⟨I.ok.frames,I.ok.mod,I.bs,i3 I.ok.bsz I.sz,I.stack,I.stkFree,I.hok,I.bare⟩
theorem Inv.after {Q:VK} {u:Value} (I:Inv X pins σ H s) (h:CE X.stack X.prog X.w H s Q u s'):EP X pins σ Q u s':=by
 obtain ⟨v,H',os,bare,un,hok,r,q⟩:=h
 obtain ⟨hh,g,d,t,os'⟩:=s'
 obtain rfl:os'=s.os:=os
 exact ⟨v,H',I.call (h':=hh) (g':=g) (d':=d) (t':=t) (ch:=[]) un hok bare (fun b z=>absurd z (by simp)),r,q⟩
end
noncomputable def tCall (sp:Sp) (dvs:List V) (E:XK) (t:TA):TE:=fun σ H Q=>t σ H fun vs H1=>sp (vs++dvs) H1 Q E
inductive ItMeth (C:Addr) (m:Str) (sp:Sp) (dvs:List V) (E:XK) (t:TA) (σ:St) (Q:VK) (x:V) (H1:Hp):Prop
 | mk (a:_) (dx:_) (fs:_) (h1:x=.ref a) (h2:H1 a=some (.ins C dx fs)) (h3:fs.lookup m=none) (h4:t σ H1 fun vs H2=>sp (x::(vs++dvs)) H2 Q E):ItMeth C m sp dvs E t σ Q x H1
noncomputable def tMake (C:Addr) (sp:Sp) (dvs:List V) (E:XK) (t:TA):TE:=fun σ H Q=>t σ H fun vs H1=>∀ x dx,H1 x=none→H1 dx=none→dx≠x→
 sp (.ref x::(vs++dvs)) (upd (upd H1 dx (.own x)) x (.ins C dx [])) (fun v H2=>v=.non∧Q (.ref x) H2) E
noncomputable def Binds (K:PySem.W.Frag) (fd:FuncData) (ps:List Str) (ds:List Value):Prop:=
 ∀ (s:Shared) (us:List Value),K.In s.heap→(us++ds).length=ps.length→BindsTo s fd ⟨us,[]⟩ (ps.zip (us++ds))
theorem Binds.all {K:PySem.W.Frag} {fd:FuncData} {ps:List Str} (h:∀ us:List Value,us.length=ps.length→bindArgs fd ⟨us,[]⟩=pure (ps.zip us)):Binds K fd ps []:=fun s us _ hl=>by
 rw [j8] at hl ⊢
 exact .of_eq (h us hl)
noncomputable def c7 (CX:CXT) (X:Cx) (E:XK):Prop:=∀ (pins:List (Addr × Obj)) (σ:St) (H:Hp) (s:Shared) (e:Value) (s':Shared),Inv X pins σ H s→CX X.stack H s E e s'→X.xe e s'
section
variable {X:Cx} {CX:CXT} {k:Nat} {f C:Addr} {fd:FuncData} {ps:List Str} {sp:Sp} {dvs:List V} {ds:List Value} {E:XK} {x m:Str} {p pos apos:Pos} {e o:Expr} {es:List Expr} {ta:TE} {t:TA}
theorem run_fn {pins:List (Addr × Obj)} {σ:St} {H:Hp} {s:Shared} {Q:VK} {us:List Value} {vs:List V} (F:FnOk X.prog X.w X.K X.mg X.base CX k f fd ps sp) (hr:Room k X.A) (hb:Binds X.K fd ps ds) (hd:Vals dvs ds) (hx:c7 CX X E)
  (I:Inv X pins σ H s) (r:Vals vs us) (h:sp (vs++dvs) H Q E):wpAny (model X.prog X.w) X.A (call (.ref f) us) (EP X pins σ Q) X.xe s:=by
 have r2:Vals (vs++dvs) (us++ds):=r.append hd
 have hl:(us++ds).length=ps.length:=by rw [← r2.length];exact F.len _ _ _ _ h
 refine wpAny_call (codeAny_mono (F.run X.A X.stack s H ⟨us,[]⟩ (us++ds) (vs++dvs) Q E hr I.env0 (hb s us I.kIn hl) r2 h) fun r s' hq=>?_)
 cases r with
 | error e=>exact hx pins σ H s e s' I hq
 | ok fl=>
  cases fl with
  | ret u=>exact I.after hq
  | next=>exact False.elim hq
  | brk=>exact False.elim hq
  | cont=>exact False.elim hq
theorem pe_call (F:FnOk X.prog X.w X.K X.mg X.base CX k f fd ps sp) (hr:Room k X.A) (hg:Gl X x) (hm:X.mg x=some (.ref f)) (hk:PySem.W.keepIn X.K (.ref f)=true) (hb:Binds X.K fd ps ds) (hd:Vals dvs ds) (hx:c7 CX X E)
  (ha:PA X (e::es) t) (hdb:(x == ("__debug__":Str))=false:=by decide) (he:starEach (e::es) X.env=(false,eval e X.env)::starEach es X.env:=by rfl) (hpl:(backTo pos (starEach es X.env)).any (·.1)=false:=by rfl) :
  PE X (.Call (.Name x p) (e::es) [] pos) (tCall sp dvs E t):=by
 intro pins s σ H Q I h
 refine wpAny_Call_Name_kw (e7 I hg hm ?_ hdb)
 refine kc (h₀:=X.base) I.ok.mod.kin hk (thn (ha pos pins s σ H _ I h) fun us s1 ⟨vs,H1,I1,r,q⟩=>⟨I1.kIn,?_⟩) he hpl
 exact run_fn F hr hb hd hx I1 r q
structure Mk (K:PySem.W.Frag) (C f:Addr):Prop where
 makes:PySem.W.makesIn K C=true
 init:PySem.W.findIn K (.ref C) "__init__"=some (some (.ref f))
 fn:PySem.W.isFn K (.ref f)=true
 kp:PySem.W.keepIn K (.ref C)=true
theorem run_make {pins:List (Addr × Obj)} {σ:St} {H:Hp} {s:Shared} {Q:VK} {us:List Value} {vs:List V} (M:Mk X.K C f) (F:FnOk X.prog X.w X.K X.mg X.base CX k f fd ps sp) (hr:Room (k+1) X.A) (hb:Binds X.K fd ps ds) (hd:Vals dvs ds)
  (hx:c7 CX X E) (I:Inv X pins σ H s) (r:Vals vs us)
  (h:∀ x dx,H x=none→H dx=none→dx≠x→sp (.ref x::(vs++dvs)) (upd (upd H dx (.own x)) x (.ins C dx [])) (fun v H2=>v=.non∧Q (.ref x) H2) E) :
  wpAny (model X.prog X.w) X.A (call (.ref C) us) (EP X pins σ Q) X.xe s:=by
 have hq:=h (s.heap.objs.size+1) s.heap.objs.size (I.hok.fresh (Nat.le_succ _)) (I.hok.fresh (iP _)) (jm (Nat.lt_succ_self _))
 have I2:=Inv.made (C:=C) I
 have r2:Vals (V.ref (s.heap.objs.size+1)::(vs++dvs)) (Value.ref (s.heap.objs.size+1)::(us++ds)):=.cons rfl (r.append hd)
 have hl:(Value.ref (s.heap.objs.size+1)::us++ds).length=ps.length:=by
  have e:=r2.length
  rw [F.len _ _ _ _ hq] at e
  exact e.symm
 refine wpAny_call (make_map (f:=f) I.kIn M.makes M.init (beq_iff_eq.mp M.fn) (codeAny_mono (F.run _ X.stack _ _ ⟨Value.ref (s.heap.objs.size+1)::us,[]⟩ (Value.ref (s.heap.objs.size+1)::(us++ds)) _ _ E (hr.make C us [])
  (I2.env0.make C us []) (hb _ (Value.ref (s.heap.objs.size+1)::us) I2.kIn hl) r2 hq) fun r s' hq'=>?_))
 cases r with
 | error e=>exact hx pins σ _ _ e s' I2 hq'
 | ok fl=>
  cases fl with
  | ret u=>
   obtain ⟨v,H',I3,rv,ev,q3⟩:=I2.after hq'
   subst ev
   exact ⟨rv,⟨V.ref (s.heap.objs.size+1),H',I3,rfl,q3⟩⟩
  | next=>exact False.elim hq'
  | brk=>exact False.elim hq'
  | cont=>exact False.elim hq'
theorem pe_make (M:Mk X.K C f) (F:FnOk X.prog X.w X.K X.mg X.base CX k f fd ps sp) (hr:Room (k+1) X.A) (hg:Gl X x) (hm:X.mg x=some (.ref C)) (hb:Binds X.K fd ps ds) (hd:Vals dvs ds) (hx:c7 CX X E)
  (ha:PA X (e::es) t) (hdb:(x == ("__debug__":Str))=false:=by decide) (he:starEach (e::es) X.env=(false,eval e X.env)::starEach es X.env:=by rfl) (hpl:(backTo pos (starEach es X.env)).any (·.1)=false:=by rfl) :
  PE X (.Call (.Name x p) (e::es) [] pos) (tMake C sp dvs E t):=by
 intro pins s σ H Q I h
 refine wpAny_Call_Name_kw (e7 I hg hm ?_ hdb)
 refine kc (h₀:=X.base) I.ok.mod.kin M.kp (thn (ha pos pins s σ H _ I h) fun us s1 ⟨vs,H1,I1,r,q⟩=>⟨I1.kIn,?_⟩) he hpl
 exact run_make M F hr hb hd hx I1 r q
end
section
variable {X:Cx} {CX:CXT} {k:Nat} {f C:Addr} {fd:FuncData} {ps ks:List Str} {sp:Sp} {E:XK} {x m:Str} {p pos apos kpos:Pos} {e o:Expr} {es:List Expr} {kws:List Keyword} {te ta:TE} {t tk:TA} {nm:Option Str}
variable {g:List Value→List Value→List Value} {gV:List V→List V→List V}
end
structure FnScope (N P:List Str) (sc:Scope):Prop where
 kind:sc.kind=.function
 co:sc.isCoroutine=false
 gen:sc.isGenerator=false
 nd:N.Nodup
 pre:N.take P.length=P
 par:∀ x∈P,sc.names.lookup x=some .local∨sc.names.lookup x=some .cell
 nofree:∀ y∈sc.names,y.2≠.free
theorem bindL_out {kindOf:Str→Option NameKind} {x:Str}:∀ {binds:List (Str × Value)} {m:Str→Option Value},(∀ v,(x,v) ∉ binds)→bindL kindOf binds m x=m x
 | [],_,_=>rfl
 | (n,v)::r,m,h=>by
  unfold bindL
  rw [bindL_out fun w hw=>h w (jn _ hw)]
  split
  ·have:x≠n:=by rintro rfl;exact h v List.mem_cons_self
   simp [this]
  ·rfl
theorem bindC_out {kindOf:Str→Option NameKind} {x:Str}:∀ {binds:List (Str × Value)} {m:Str→Option Value},(∀ v,(x,v) ∉ binds)→bindC kindOf binds m x=m x
 | [],_,_=>rfl
 | (n,v)::r,m,h=>by
  unfold bindC
  rw [bindC_out fun w hw=>h w (jn _ hw)]
  split
  ·rfl
  ·have:x≠n:=by rintro rfl;exact h v List.mem_cons_self
   simp [this]
theorem bindL_get {kindOf:Str→Option NameKind} {x:Str} {v:Value}:∀ {P:List Str} {vs:List Value} {i:Nat} {m:Str→Option Value},P.Nodup→P[i]?=some x→vs[i]?=some v→kindOf x=some .local→
  bindL kindOf (P.zip vs) m x=some v
 | [],_,_,_,_,h,_,_=>by simp at h
 | _::_,[],_,_,_,_,h,_=>by simp at h
 | p::P,w::vs,0,m,nd,h1,h2,hk=>by
  simp at h1 h2;subst h1;subst h2
  show bindL kindOf ((p,w)::P.zip vs) m p=_
  unfold bindL
  rw [bindL_out fun v hv=>(List.nodup_cons.mp nd).1 (List.of_mem_zip hv).1,if_pos hk]
  simp
 | p::P,w::vs,i+1,m,nd,h1,h2,hk=>by
  show bindL kindOf ((p,w)::P.zip vs) m x=_
  unfold bindL
  exact bindL_get (i:=i) (List.nodup_cons.mp nd).2 (by simpa using h1) (by simpa using h2) hk
theorem bindC_get {kindOf:Str→Option NameKind} {x:Str} {v:Value}:∀ {P:List Str} {vs:List Value} {i:Nat} {m:Str→Option Value},P.Nodup→P[i]?=some x→vs[i]?=some v→kindOf x≠some .local→
  bindC kindOf (P.zip vs) m x=some v
 | [],_,_,_,_,h,_,_=>by simp at h
 | _::_,[],_,_,_,_,h,_=>by simp at h
 | p::P,w::vs,0,m,nd,h1,h2,hk=>by
  simp at h1 h2;subst h1;subst h2
  show bindC kindOf ((p,w)::P.zip vs) m p=_
  unfold bindC
  rw [bindC_out fun v hv=>(List.nodup_cons.mp nd).1 (List.of_mem_zip hv).1,if_neg hk]
  simp
 | p::P,w::vs,i+1,m,nd,h1,h2,hk=>by
  show bindC kindOf ((p,w)::P.zip vs) m x=_
  unfold bindC
  exact bindC_get (i:=i) (List.nodup_cons.mp nd).2 (by simpa using h1) (by simpa using h2) hk
noncomputable def eJ (N:List Str) (vs:List V):St:=vs.map some++List.replicate (N.length-vs.length) none
noncomputable def aM (CX:CXT) (P:Program) (w:World) (K:PySem.W.Frag) (mg:Str→Option Value) (base:Heap) (N:List Str) (qual:Str) (scope:Scope) (f:Addr) (cd:Value) (A:Around) (outer:List Env) (s:Shared) (H:Hp) (E:XK):Cx where
 prog:=P
 w:=w
 K:=K
 mg:=mg
 base:=base
 A:=A.deeper (envOfC qual scope s.heap.objs.size f cd)
 N:=N
 s₀:=s
 H₀:=H
 env:=envOfC qual scope s.heap.objs.size f cd
 outer:=outer
 stack:=envOfC qual scope s.heap.objs.size f cd::outer
 ex:=[]
 calm:=true
 fn:=fun _=>true
 pn:=[]
 xe:=fun e s'=>wpAny (model P w) (A.deeper (envOfC qual scope s.heap.objs.size f cd)) (leaving (envOfC qual scope s.heap.objs.size f cd) e) (fun _ s''=>CX outer H s E e s'') (fun e' s''=>CX outer H s E e' s'') s'
theorem cell_has {sc:Scope} {n:Nat} {x:Str} (h:sc.names.lookup x=some .cell):∃ c,(cellsFrom n sc.names []).lookup x=some c:=by
 have q:=PySem.W.cellsFrom_some sc.names n [] (.inl h)
 exact Option.isSome_iff_exists.mp q
theorem inv_start {CX:CXT} {P:Program} {w:World} {K:PySem.W.Frag} {mg:Str→Option Value} {base:Heap} {N ps:List Str} {qual:Str} {scope:Scope} {f:Addr} {cd:Value} {A:Around} {outer:List Env} {s s1:Shared} {H:Hp} {E:XK} {us:List Value} {vs:List V}
  (S:FnScope N ps scope) (hd:A.handled=none) (e0:Env0 P w K mg base A outer s H) (hl:vs.length=ps.length) (r:Vals vs us)
  (x:InCallC s s.heap.objs.size (bindL (envOfC qual scope s.heap.objs.size f cd).kindOf (ps.zip us) fun _=>none) (cellsFrom (s.heap.objs.size+1) scope.names []) (bindC (envOfC qual scope s.heap.objs.size f cd).kindOf (ps.zip us) fun _=>none) s1) :
  Inv (aM CX P w K mg base N qual scope f cd A outer s H E) [] (eJ N vs) H s1:=by
 have hpl:ps.length≤N.length:=by have:=jy List.length S.pre;rw [i6] at this;omega
 obtain ⟨h1,tk,rfl,hk⟩:=x.done
 have noA:∀ b:Addr,b ∉ (aM CX P w K mg base N qual scope f cd A outer s H E).ex:=fun b z=>absurd (show b∈([]:List Addr) from z) (by simp)
 refine ⟨⟨e0.mod,S.kind,rfl,rfl,iP _,fun y z c h1 h2=>?_,fun y hy=>?_,fun y c _ h=>?_,fun _=>hd,Around.frames_deeper e0.frames,.inr ⟨rfl,rfl⟩,fun b z=>absurd z (noA b),e0.bs,e0.bsz,fun b _ _=>noA b,fun b z=>absurd z (noA b),e0.funs,e0.frf⟩,
  rfl,e0.bare,Un.kept hk,⟨_,x.toInCall.ns,fun i y v h1 h2 h3=>?_⟩,fun y c h=>⟨_,x.cell y c h⟩,e0.hok.fresh (iP _),fun y c h=>?_,fun p hp=>absurd (show p∈([]:List (Addr × Obj)) from hp) (by simp),e0.hok.kept hk,?_⟩
 ·exact name_of_addr x.apart (jM h1) (jM h2)
 ·have hy:scope.names.lookup y=some .cell∨scope.names.lookup y=some .free:=hy
  rcases hy with hy | hy
  ·exact cell_has hy
  ·exact absurd rfl (S.nofree _ (jM hy))
 ·exact Nat.le_of_lt (x.above y c (jM h))
 ·have hi:i<vs.length:=by
   unfold eJ at h2
   by_cases hi:i<vs.length
   ·exact hi
   ·rw [jQ (by simpa using hi)] at h2
    rw [List.getElem?_replicate] at h2
    split at h2 <;> cases h2
  have ha:vs[i]?=some v:=by
   unfold eJ at h2
   rw [List.getElem?_append_left (by simpa using hi),i4] at h2
   cases e:vs[i]? with
   | none=>rw [e] at h2;cases h2
   | some a=>rw [e] at h2;cases h2;rfl
  obtain ⟨u,hu,rv⟩:=r.get ha
  have hp:ps[i]?=some y:=by
   rw [← S.pre,List.getElem?_take_of_lt (by omega)];exact h1
  have ndP:ps.Nodup:=by rw [← S.pre];exact S.nd.sublist (List.take_sublist _ _)
  refine ⟨u,rv,?_⟩
  rcases S.par y (iR hp) with k | k
  ·exact .inl ⟨k,bindL_get ndP hp hu k⟩
  ·obtain ⟨c,e⟩:=cell_has (n:=s.heap.objs.size+1) k
   refine .inr ⟨.inl k,c,e,?_⟩
   have q:=x.cell y c e
   rw [bindC_get ndP hp hu (by show scope.names.lookup y≠_;rw [k];decide)] at q
   exact q
 ·exact e0.hok.fresh (Nat.le_of_lt (x.above y c (jM h)))
 ·unfold eJ
  show _=N.length
  rw [jd,iM,jV]
  omega
theorem fn_of {CX:CXT} {P:Program} {w:World} {K:PySem.W.Frag} {mg:Str→Option Value} {base:Heap} {k:Nat} {f:Addr} {name qual:Str} {params:Arguments} {body:List Stmt} {scope:Scope} {dV kV doc pm cdv ct oc:Value} {an od:Option Addr}
  {osl:Array (Option Value)} {N ps:List Str} {sp:Sp} (lk:K.lookup f=some ⟨oc,od,.func (PySem.W.fnOf name qual params body scope dV kV doc pm an cdv ct),osl⟩) (hcd:PySem.W.codeIn K cdv qual=true) (S:FnScope N ps scope)
  (len:∀ vs H Q E,sp vs H Q E→vs.length=ps.length)
  (hbody:∀ (A:Around) (outer:List Env) (s:Shared) (H:Hp) (vs:List V) (Q:VK) (E:XK),Room k (A.deeper (envOfC qual scope s.heap.objs.size f cdv))→sp vs H Q E→
   ∃ t,PSs (aM CX P w K mg base N qual scope f cdv A outer s H E) body t∧t { nx:=fun _ H'=>Q .non H',rt:=Q } (eJ N vs) H) :
  FnOk P w K mg base CX (k+1) f (PySem.W.fnOf name qual params body scope dV kV doc pm an cdv ct) ps sp:=by
 refine ⟨len,fun A outer s H args us vs Q E hr e0 hb r hsp=>?_⟩
 have hl:=len _ _ _ _ hsp
 have KX:K.In s.heap:=e0.mod.kin.keeps fun b o e=>(e0.bs b o e).1
 have lim:s.heap.NoLimit:=e0.mod.nolimit.keeps fun b o e=>(e0.bs b o e).1
 have hkind:∀ y∈ps.zip us,scope.names.lookup y.1=some .local∨(scope.names.lookup y.1=some .cell∧((cellsFrom (s.heap.objs.size+1) scope.names []).lookup y.1).isSome=true):=fun ⟨n,v⟩ hy=>by
  rcases S.par n (List.of_mem_zip hy).1 with q | q
  ·exact .inl q
  ·exact .inr ⟨q,PySem.W.cellsFrom_some _ _ _ (.inl q)⟩
 refine codeAny_call_function hr.depth (KX _ _ lk) rfl S.co S.gen rfl (PySem.W.codeRec_of KX hcd) (hb _ _ _ _ ?_)
 refine wpAny_newFunctionEnv_cells S.kind hkind fun env he s1 x=>?_
 subst he
 refine ⟨lim.keeps x.toInCall.keep,codeAny_func ?_⟩
 obtain ⟨t,ht,hq⟩:=hbody A outer s H vs Q E (hr.deeper _) hsp
 have I:Inv (aM CX P w K mg base N qual scope f cdv A outer s H E) [] (eJ N vs) H s1:=inv_start S hr.hd e0 hl r x
 refine jo (ht [] s1 (eJ N vs) H _ I hq) (fun fl s' hs=>?_) fun e s' hs=>hs
 have fin:∀ {σ':St} {H':Hp} {v:V} {u:Value},Inv (aM CX P w K mg base N qual scope f cdv A outer s H E) [] σ' H' s'→RelV v u→Q v H'→CE outer P w H s Q u s':=
  fun {σ' H' v u} J rv q=>⟨v,H',J.os,J.bare,J.base,J.hok,rv,q⟩
 cases fl with
 | ret u=>
  obtain ⟨v,σ',H',J,rv,q⟩:=hs
  exact fin J rv q
 | next=>
  obtain ⟨σ',H',J,q⟩:=hs
  exact fin (v:=V.non) (u:=Value.none) J rfl q
 | brk=>
  obtain ⟨_,_,_,q⟩:=hs
  exact False.elim q
 | cont=>
  obtain ⟨_,_,_,q⟩:=hs
  exact False.elim q
end L2
namespace L2
open PySem PySem.Spec PyProof.Rows
section
variable {X:Cx} {x:Str} {p pos:Pos} {e:Expr} {es:List Expr} {t:TA} {id T:String} {r:List V→Hp→VK→Prop}
noncomputable def tCB (r:List V→Hp→VK→Prop) (t:TA):TE:=fun σ H Q=>t σ H fun vs H1=>r vs H1 Q
theorem aU (hc:gx X (.builtin id) r) (hg:Gl X x) (hm:X.mg x=none) (hv:bootBuiltins x=some (.builtin id)) (ha:PA X (e::es) t) (hn:x≠"__name__":=by decide) (hdb:(x == ("__debug__":Str))=false:=by decide)
  (he:starEach (e::es) X.env=(false,eval e X.env)::starEach es X.env:=by rfl) (hpl:(backTo pos (starEach es X.env)).any (·.1)=false:=by rfl):PE X (.Call (.Name x p) (e::es) [] pos) (tCB r t):=by
 intro pins s σ H Q I h
 refine wpAny_Call_Name_kw (ld_blt I hg hm hv ?_ hn hdb)
 exact PyProof.Rows.callWith_builtin1 (thn (ha pos pins s σ H _ I h) fun us s1 ⟨vs,H1,I1,r1,q1⟩=>hc pins s1 σ H1 vs us Q I1 r1 q1) he hpl
theorem bS (hc:gx X (.type T) r) (hg:Gl X x) (hm:X.mg x=none) (hv:bootBuiltins x=some (.type T)) (ha:PA X (e::es) t) (hn:x≠"__name__":=by decide) (hdb:(x == ("__debug__":Str))=false:=by decide)
  (he:starEach (e::es) X.env=(false,eval e X.env)::starEach es X.env:=by rfl) (hpl:(backTo pos (starEach es X.env)).any (·.1)=false:=by rfl):PE X (.Call (.Name x p) (e::es) [] pos) (tCB r t):=by
 intro pins s σ H Q I h
 refine wpAny_Call_Name_kw (ld_blt I hg hm hv ?_ hn hdb)
 exact PyProof.Rows.callWith_type1 (thn (ha pos pins s σ H _ I h) fun us s1 ⟨vs,H1,I1,r1,q1⟩=>hc pins s1 σ H1 vs us Q I1 r1 q1) he hpl
end
end L2
namespace HT
open PySem PyProof.Rows
noncomputable def lexLt:List Int→List Int→Bool
 | [],[]=>false
 | [],_::_=>true
 | _::_,[]=>false
 | x::xs,y::ys=>if x=y then lexLt xs ys else decide (x<y)
section
open PySem.SeqAt
open PySem.AutoSeq1 (wpAny_loadPart')
open PySem.MeetsSeq PySem.MeetsSeq2 PySem.MeetsSeq3
end
section
variable {prog:Program} {w:World} {A:Around} {E:Value→Shared→Prop} {s:Shared}
theorem cat_tup {t b:Addr} {vs ws:List Value} {Q:Value→Shared→Prop} (ht:IsTup s.heap t vs.toArray) (hb:IsTup s.heap b ws.toArray) (hv:vs≠[])
  (h1:ws=[]→Q (.ref t) s) (h2:ws≠[]→Q (.ref s.heap.objs.size) { s with heap:=s.heap.push { cls:=.type "tuple",data:=.seq (vs++ws).toArray } })
  (hsz:vs.length+ws.length≤sizeLine):wpAny (model prog w) A (binaryOp .Add (.ref t) (.ref b)) Q E s:=by
 obtain ⟨⟨cls,dd,data,sl⟩,ho,hc,n,hd⟩:=id ht
 obtain ⟨⟨cls2,dd2,data2,sl2⟩,ho2,hc2,n2,hd2⟩:=id hb
 simp only at hc hd hc2 hd2
 subst hc hd hc2 hd2
 have e:vs.toArray++ws.toArray=(vs++ws).toArray:=by simp
 by_cases hw:ws=[]
 ·exact concat_meets ⟨_,ho,rfl⟩ ⟨_,ho2,rfl⟩ noFill_tuple_add seq_tuple_add PySem.F.slot_tuple_add PySem.F.entry_tuple_add (PySem.F.args_tuple_add_2 _ _)
   (tuple_addW1 t b vs.toArray ws.toArray n n2 dd dd2 sl sl2 (by simpa using hv) (by simp [hw])) ⟨ho,ho2,h1 hw⟩
 ·refine concat_meets ⟨_,ho,rfl⟩ ⟨_,ho2,rfl⟩ noFill_tuple_add seq_tuple_add PySem.F.slot_tuple_add PySem.F.entry_tuple_add (PySem.F.args_tuple_add_2 _ _)
   (tuple_addW2 t b vs.toArray ws.toArray n n2 dd dd2 sl sl2 (by simpa using hv) (by simpa using hw) (by rw [jj,jj];exact hsz)) ⟨ho,ho2,?_⟩
  rw [e]
  exact h2 hw
noncomputable def sIx (n d:Nat):Option Int→Nat
 | none=>d
 | some v=>if v<0 then (v+(n:Int)).toNat else min v.toNat n
theorem sIx_le (n d:Nat) (hd:d≤n) (o:Option Int):sIx n d o≤n:=by
 cases o with
 | none=>exact hd
 | some v=>
  show (if v<0 then (v+(n:Int)).toNat else min v.toNat n)≤n
  by_cases hv:v<0
  ·rw [if_pos hv];omega
  ·rw [if_neg hv];exact Nat.min_le_right _ _
theorem clip_eq (v:Int) (n d:Nat):(if v<0 then max (v+(n:Int)) 0 else min v (n:Int))=((sIx n d (some v):Nat):Int):=by
 show (if v<0 then max (v+(n:Int)) 0 else min v (n:Int))=(((if v<0 then (v+(n:Int)).toNat else min v.toNat n):Nat):Int)
 by_cases hv:v<0
 ·simp only [if_pos hv];omega
 ·simp only [if_neg hv];omega
theorem adjust_gen (lo hi:Option Int) (n:Nat):Builtin.Slice.sliceAdjust lo hi 1 (n:Int)=(((sIx n 0 lo:Nat):Int),((sIx n n hi:Nat):Int)):=by
 have h1:¬ ((1:Int)<0):=by omega
 unfold Builtin.Slice.sliceAdjust
 simp only [h1,if_false]
 refine Prod.ext ?_ ?_
 ·cases lo with
  | none=>rfl
  | some v=>exact clip_eq v n 0
 ·cases hi with
  | none=>rfl
  | some v=>exact clip_eq v n n
theorem places_gen (i j:Nat):Builtin.Slice.slicePlaces (i:Int) (j:Int) 1=j-i:=by
 unfold Builtin.Slice.slicePlaces
 have h1:(1:Int) > 0:=by omega
 simp only [h1,if_true,Int.ediv_one]
 split <;> omega
theorem slicePart_ {v:Value} {o:Option Int} {Q:Option Int→Shared→Prop} (p:IsPart v o) (h:Q o s):wpAny (model prog w) A (Builtin.Slice.slicePartIndex v) Q E s:=by
 cases p with
 | none=>exact slicePart_none h
 | int i t=>exact slicePart_int h
theorem sliceApplied_gen {sl:Addr} {vl vu:Value} {lo hi:Option Int} {n:Nat} {Q:Int × Int × Nat→Shared→Prop} (hs:s.heap.IsSliceOf sl vl vu .none) (pl:IsPart vl lo) (pu:IsPart vu hi)
  (h:Q (((sIx n 0 lo:Nat):Int),1,sIx n n hi-sIx n 0 lo) s):wpAny (model prog w) A (Builtin.Slice.sliceApplied (.ref sl) (pure (n:Int))) Q E s:=by
 obtain ⟨os,hos,hcs,hds⟩:=id hs
 unfold Builtin.Slice.sliceApplied Builtin.Slice.sliceFields
 refine iK (iK (jB hos hds (x:=vl) rfl (iK (jB hos hds (x:=vu) rfl (iK (jB hos hds (x:=.none) rfl (iQ ?_)))))))
 refine iK (slicePart_none ?_)
 show wpAny _ _ (if ((1:Int) == 0)=true then _ else _) _ _ s
 rw [if_neg (by decide)]
 refine iK (slicePart_ pl (iK (slicePart_ pu (iK (iQ ?_)))))
 show wpAny _ _ (match Builtin.Slice.sliceAdjust lo hi 1 (n:Int) with | (lo,hi)=>pure (lo,(1:Int),Builtin.Slice.slicePlaces lo hi 1)) _ _ s
 rw [adjust_gen lo hi n]
 show wpAny _ _ (pure (((sIx n 0 lo:Nat):Int),(1:Int),Builtin.Slice.slicePlaces ((sIx n 0 lo:Nat):Int) ((sIx n n hi:Nat):Int) 1)) _ _ s
 rw [places_gen]
 exact iQ h
theorem pick_gen (xs:Array Value) (i k:Nat):((List.range k).filterMap fun (m:Nat)=>xs[((i:Int)+(m:Int)*1).toNat]?).toArray=((xs.toList.drop i).take k).toArray:=by
 have e:(fun (m:Nat)=>xs[((i:Int)+(m:Int)*1).toNat]?)=fun m=>xs[i+m]?:=by
  funext m
  have:((i:Int)+(m:Int)*1).toNat=i+m:=by omega
  rw [this]
 rw [e]
 have:=pick_run xs i k
 rw [List.filterMap_map] at this
 have e2:((fun x=>xs[x]?) ∘ fun x=>i+x)=fun m=>xs[i+m]?:=rfl
 rw [e2] at this
 rw [this]
theorem getItem_tuple_cut {t sl:Addr} {items:Array Value} {vl vu:Value} {lo hi:Option Int} {Q:Value→Shared→Prop} (ht:IsTup s.heap t items) (hs:s.heap.IsSliceOf sl vl vu .none) (pl:IsPart vl lo) (pu:IsPart vu hi)
  (hw:¬ (sIx items.size 0 lo=0∧sIx items.size items.size hi=items.size))
  (h:Q (.ref s.heap.objs.size) { s with heap:=s.heap.push { cls:=.type "tuple",data:=.seq ((items.toList.drop (sIx items.size 0 lo)).take (sIx items.size items.size hi-sIx items.size 0 lo)).toArray } })
  (hsz:items.size≤sizeLine):wpAny (model prog w) A (getItem (.ref t) (.ref sl)) Q E s:=by
 have htake:sizeOk (.seq ((items.toList.drop (sIx items.size 0 lo)).take (sIx items.size items.size hi-sIx items.size 0 lo)).toArray):=by
  show ((items.toList.drop (sIx items.size 0 lo)).take (sIx items.size items.size hi-sIx items.size 0 lo)).toArray.size≤sizeLine
  rw [jj,i6,List.length_drop,Array.length_toList]
  omega
 have hj:sIx items.size items.size hi≤items.size:=sIx_le _ _ (iP _) hi
 obtain ⟨os,hos,hcs,hds⟩:=id hs
 have hTs:s.TypeIs (.ref sl) "slice":=⟨os,hos,hcs⟩
 unfold getItem
 try with_reducible refine jW ?_
 first | refine iK (iQ ?_) | skip
 refine iK (wpAny_sequenceKey ht.typeIs (by decide) ?_)
 refine iK (wpAny_callSpecial?_slot (name:=Str.ofString "__getitem__") ht.typeIs PyProof.Rows.slot_tuple_getitem
  (wpAny_call_entry PyProof.Rows.slot_tuple_getitem ht.typeIs entry_tuple_getitem ?_ (args_tuple_getitem _ _)))
 show wpAny _ _ (Builtin.Tuple.tupleItemsOf (.ref t) >>= _) _ _ s
 refine iK (tupleItemsOf_ ht ?_)
 refine iK (wpAny_typeOf hTs ?_)
 rw [if_pos (by decide)]
 refine iK (sliceApplied_gen hs pl pu ?_)
 have hno:¬ ((((sIx items.size 0 lo:Nat):Int) == 0 && (1:Int) == 1 && (sIx items.size items.size hi-sIx items.size 0 lo) == items.size)=true):=by
  intro q
  rw [j4,j4] at q
  have q1:((sIx items.size 0 lo:Nat):Int)=0:=eq_of_beq q.1.1
  have q2:sIx items.size items.size hi-sIx items.size 0 lo=items.size:=eq_of_beq q.2
  exact hw ⟨by omega,by omega⟩
 show wpAny _ _ (if (((sIx items.size 0 lo:Nat):Int) == 0 && (1:Int) == 1 && (sIx items.size items.size hi-sIx items.size 0 lo) == items.size)=true then _ else _) _ _ s
 rw [if_neg hno,pick_gen]
 first
  | exact iK (m:=Builtin.Tuple.tupleExact _) (j6 (iQ ⟨_,rfl,iQ h⟩) htake)
  | exact iK (m:=Builtin.Tuple.tupleExact _) (j6 (iK (iQ (iQ ⟨_,rfl,iQ h⟩))) htake)
  | exact iK (iK (m:=Builtin.Tuple.tupleExact _) (j6 (iQ (iQ ⟨_,rfl,iQ h⟩)) htake))
  | exact iK (iK (m:=Builtin.Tuple.tupleExact _) (j6 (iQ ⟨_,rfl,iQ h⟩) htake))
end
end HT
namespace L2
open PySem PySem.Spec PyProof.Rows
noncomputable abbrev TO:=St→Hp→(Option Int→Hp→Prop)→Prop
noncomputable def PO (X:Cx) (e:Option Expr) (t:TO):Prop:=
 ∀ (pins:List (Addr × Obj)) (s:Shared) (σ:St) (H:Hp) (Q:Option Int→Hp→Prop),Inv X pins σ H s→t σ H Q→
  wpAny (model X.prog X.w) X.A (evalPart e X.env) (fun u s'=>∃ o H',Inv X pins σ H' s'∧IsPart u o∧Q o H') X.xe s
noncomputable def tNoPart:TO:=fun _ H Q=>Q none H
noncomputable def tPart (t:TE):TO:=fun σ H Q=>t σ H fun x H1=>∃ i,x=.int i∧Q (some i) H1
section
variable {X:Cx} {e:Expr} {te:TE} {lo hi:Option Expr} {tl th:TO} {pos p2:Pos}
theorem po_none:PO X none tNoPart:=by
 intro pins s σ H Q I h
 rw [evalPart_none]
 exact iQ ⟨none,H,I,.none,h⟩
theorem po_some (h:PE X e te):PO X (some e) (tPart te):=by
 intro pins s σ H Q I hw
 rw [evalPart_some]
 refine thn (h pins s σ H _ I hw) fun u s1 ⟨x,H1,I1,r1,q1⟩=>?_
 obtain ⟨i,rfl,q⟩:=q1
 obtain ⟨t,rfl⟩:=r1
 exact ⟨some i,H1,I1,.int i t,q⟩
noncomputable def SlR (X:Cx) (r:V→Option Int→Option Int→Hp→VK→Prop):Prop:=
 ∀ (pins:List (Addr × Obj)) (s:Shared) (σ:St) (H:Hp) (x:V) (v vl vu:Value) (lo hi:Option Int) (sl:Addr) (Q:VK),Inv X pins σ H s→RelV x v→s.heap.IsSliceOf sl vl vu .none→IsPart vl lo→IsPart vu hi→r x lo hi H Q→
  ∃ T id,typeLookup (.type T) "__getitem__"=pure (some (.builtin id))∧s.TypeIs v T∧wpAny (model X.prog X.w) X.A (getItem v (.ref sl)) (EP X pins σ Q) X.xe s
noncomputable def tSl (r:V→Option Int→Option Int→Hp→VK→Prop) (te:TE) (tl th:TO):TE:=fun σ H Q=>te σ H fun x H1=>tl σ H1 fun l H2=>th σ H2 fun u H3=>r x l u H3 Q
theorem iy {r:V→Option Int→Option Int→Hp→VK→Prop} (hr:SlR X r) (he:PE X e te) (hl:PO X lo tl) (hu:PO X hi th):PE X (.Subscript e (.Slice lo hi none p2) pos) (tSl r te tl th):=by
 intro pins s σ H Q I h
 refine Subscript_ (thn (he pins s σ H _ I h) fun v s1 ⟨x,H1,I1,r1,q1⟩=>?_)
 refine wpAny_Slice (thn (hl pins s1 σ H1 _ I1 q1) fun vl s2 ⟨l,H2,I2,pl,q2⟩=>thn (hu pins s2 σ H2 _ I2 q2) fun vu s3 ⟨u,H3,I3,pu,q3⟩=>?_)
 rw [evalPart_none]
 refine iQ ?_
 have I4:Inv X pins σ H3 { s3 with heap:=s3.heap.push { cls:=.type "slice",data:=.fields #[vl,vu,.none] } }:=I3.kept (t':=s3.toks) fun b ob q=>iN _ q
 obtain ⟨T,id,hT,ht,hg⟩:=hr pins { s3 with heap:=s3.heap.push { cls:=.type "slice",data:=.fields #[vl,vu,.none] } } σ H3 x v vl vu l u s3.heap.objs.size Q I4 r1 (Heap.IsSliceOf.new ..) pl pu q3
 show wpAny (model X.prog X.w) X.A (subscriptTail e (.Slice lo hi none p2) v (.ref s3.heap.objs.size)) (EP X pins σ Q) X.xe { s3 with heap:=s3.heap.push { cls:=.type "slice",data:=.fields #[vl,vu,.none] } }
 exact tail_any (ops:=[.ref s3.heap.objs.size,v]) ht hT hg (by with_unfolding_all rfl)
noncomputable def cutV (xs:List V) (lo hi:Option Int):List V:=(xs.drop (HT.sIx xs.length 0 lo)).take (HT.sIx xs.length xs.length hi-HT.sIx xs.length 0 lo)
theorem cutV_length (xs:List V) (lo hi:Option Int):(cutV xs lo hi).length≤xs.length:=by
 unfold cutV
 rw [i6,List.length_drop]
 omega
noncomputable def rSlT (K:PySem.W.Frag):V→Option Int→Option Int→Hp→VK→Prop:=fun x lo hi H Q=>∃ a xs,x=.ref a∧SqT K H a xs∧
 ¬ (HT.sIx xs.length 0 lo=0∧HT.sIx xs.length xs.length hi=xs.length)∧∀ p,H p=none→Q (.ref p) (upd H p (.tup (cutV xs lo hi)))
theorem sl_tup:SlR X (rSlT X.K):=by
 intro pins s σ H x v vl vu lo hi sl Q I rx hs pl pu h
 obtain ⟨a,xs,rfl,hx,hw,q⟩:=h
 cases rx
 obtain ⟨its,r,ht,hz⟩:=I.tuple hx
 have hlen:its.toArray.size=xs.length:=by rw [jj];exact r.length.symm
 refine ⟨"tuple",_,PyProof.Rows.slot_tuple_getitem.lookup,ht.typeIs,?_⟩
 refine HT.getItem_tuple_cut ht hs pl pu (by rw [hlen];exact hw) ?_ (by rw [hlen];exact hz)
 rw [hlen]
 refine ⟨.ref s.heap.objs.size,_,I.laid (t':=s.toks) (o:=.tup (cutV xs lo hi)) (fun b ob q=>iN _ q) (iP _) ?_,rfl,q _ (I.hok.fresh (iP _))⟩
 exact ⟨i3 (cutV_length xs lo hi) hz,_,(r.drop (HT.sIx xs.length 0 lo)).take (HT.sIx xs.length xs.length hi-HT.sIx xs.length 0 lo),IsTup.new _ _⟩
noncomputable def rCatT (K:PySem.W.Frag):R2:=fun x y H Q=>∃ a b xs ys,x=.ref a∧y=.ref b∧SqT K H a xs∧SqT K H b ys∧xs≠[]∧xs.length+ys.length≤sizeLine∧
 (ys=[]→Q (.ref a) H)∧(ys≠[]→∀ p,H p=none→Q (.ref p) (upd H p (.tup (xs++ys))))
theorem Vals.nil_iff {xs:List V} {us:List Value} (r:Vals xs us):us=[]↔xs=[]:=by
 cases r with
 | nil=>simp
 | cons _ _=>simp
theorem op_catT:OpR X (binaryOp .Add) (rCatT X.K):=by
 intro pins s σ H x y v u Q I rx ry h
 obtain ⟨a,b,xs,ys,rfl,rfl,ha,hb,hx,hz,q1,q2⟩:=h
 cases rx
 cases ry
 obtain ⟨its,r1,p1,_⟩:=I.tuple ha
 obtain ⟨its2,r2,p2,_⟩:=I.tuple hb
 refine HT.cat_tup p1 p2 (fun z=>hx (r1.nil_iff.mp z)) (fun z=>⟨.ref a,H,I,rfl,q1 (r2.nil_iff.mp z)⟩) (fun z=>?_) (by rw [← r1.length,← r2.length];exact hz)
 refine ⟨.ref s.heap.objs.size,_,I.laid (t':=s.toks) (o:=.tup (xs++ys)) (fun b ob q=>iN _ q) (iP _) ?_,rfl,q2 (fun w=>z (r2.nil_iff.mpr w)) _ (I.hok.fresh (iP _))⟩
 exact ⟨by rw [jd];exact hz,_,r1.append r2,IsTup.new _ _⟩
end
end L2
namespace L2
open PySem PySem.Spec PyProof.Rows
noncomputable def ixN (n:Nat) (i:Int):Option Nat:=if 0≤i then (if i<n then some i.toNat else none) else if -(n:Int)≤i then some (i+n).toNat else none
noncomputable def atI {α:Type} (xs:List α) (i:Int):Option α:=(ixN xs.length i).bind fun j=>xs[j]?
theorem ixN_seq {n:Nat} {i:Int} {j:Nat} (h:ixN n i=some j):seqIndex? i n=some j∧j<n∧-(n:Int)≤i∧i<n:=by
 unfold ixN at h
 by_cases h0:0≤i
 ·rw [if_pos h0] at h
  by_cases h1:i<n
  ·rw [if_pos h1] at h
   have e:i.toNat=j:=jh h
   exact ⟨by rw [seqIndex_of h0 h1,e],by omega,by omega,h1⟩
  ·rw [if_neg h1] at h;cases h
 ·rw [if_neg h0] at h
  by_cases h1:-(n:Int)≤i
  ·rw [if_pos h1] at h
   have e:(i+n).toNat=j:=jh h
   exact ⟨by rw [seqIndex_neg (by omega) h1,e],by omega,h1,by omega⟩
  ·rw [if_neg h1] at h;cases h
theorem atI_get {α:Type} {xs:List α} {i:Int} {v:α} (h:atI xs i=some v):∃ j,seqIndex? i xs.length=some j∧xs[j]?=some v∧j<xs.length∧-(xs.length:Int)≤i∧i<xs.length:=by
 unfold atI at h
 cases e:ixN xs.length i with
 | none=>rw [e] at h;cases h
 | some j=>
  rw [e] at h
  obtain ⟨h1,h2,h3,h4⟩:=ixN_seq e
  exact ⟨j,h1,h,h2,h3,h4⟩
theorem atI_nat {α:Type} {xs:List α} {j:Nat} {v:α} (h:xs[j]?=some v):atI xs (j:Int)=some v:=by
 have hj:j<xs.length:=(iL.mp h).1
 have e:ixN xs.length (j:Int)=some j:=by
  unfold ixN
  rw [if_pos (by omega),if_pos (by omega)];simp
 unfold atI;rw [e];exact h
noncomputable def PlainIx (b:Expr):Prop:=∀ o i,subscripted b false o i=operate [o,i] (getItem o i)
noncomputable def IxR (X:Cx) (r:R2):Prop:=
 ∀ (value slice:Expr) (pins:List (Addr × Obj)) (s:Shared) (σ:St) (H:Hp) (x y:V) (v u:Value) (Q:VK),Inv X pins σ H s→RelV x v→RelV y u→r x y H Q→
  subscripted slice false v u=operate [v,u] (getItem v u)→wpAny (model X.prog X.w) X.A (subscriptTail value slice v u) (EP X pins σ Q) X.xe s
noncomputable def MtR (X:Cx) (id:String) (r:V→List V→Hp→VK→Prop):Prop:=
 ∀ (pins:List (Addr × Obj)) (s:Shared) (σ:St) (H:Hp) (x:V) (xs:List V) (v:Value) (us:List Value) (Q:VK),Inv X pins σ H s→RelV x v→Vals xs us→r x xs H Q→
  wpAny (model X.prog X.w) X.A (call (.builtin id) (v::us)) (EP X pins σ Q) X.xe s
section
variable {X:Cx} {a b:Expr} {ta tb:TE} {pos:Pos}
theorem ap {r:R2} (hr:IxR X r) (ha:PE X a ta) (hb:PE X b tb) (hs:PlainIx b):PE X (.Subscript a b pos) (tOp r ta tb):=by
 intro pins s σ H Q I h
 exact Subscript_ (binT ha hb I h fun v u s2 x y H2 I2 rx ry q=>hr a b pins s2 σ H2 x y v u Q I2 rx ry q (hs _ _))
noncomputable def rIxL (K:PySem.W.Frag):R2:=fun x y H Q=>∃ p xs i v,x=.ref p∧y=.int i∧SqL K H p xs∧atI xs i=some v∧Q v H
noncomputable def rIxT (K:PySem.W.Frag):R2:=fun x y H Q=>∃ p xs i v,x=.ref p∧y=.int i∧SqT K H p xs∧atI xs i=some v∧Q v H
noncomputable def rIxS:R2:=fun x y H Q=>∃ z i c,x=.str z∧y=.int i∧z.length≤sizeLine∧atI z.cps.toList i=some c∧Q (.str ⟨#[c]⟩) H
theorem eF:IxR X (rIxL X.K):=by
 intro value slice pins s σ H x y v u Q I rx ry h hs
 obtain ⟨p,xs,i,z,rfl,rfl,hq,he,q⟩:=h
 cases rx
 obtain ⟨t,rfl⟩:=ry
 obtain ⟨its,r,pl,hz⟩:=I.list hq
 obtain ⟨j,h1,h2,h3,h4,h5⟩:=atI_get he
 obtain ⟨w,ew,rw'⟩:=r.get h2
 have hl:=r.length
 have hn:=line63
 have fin:EP X pins σ Q w s:=⟨z,H,I,rw',q⟩
 by_cases h0:0≤i
 ·have hj:i.toNat=j:=by
   rw [seqIndex_of h0 h5] at h1
   exact jh h1
  exact item_listR pl.isList h0 (by omega) (by rw [hj];simpa using ew) fin hs
 ·have hj:(i+(its.toArray.size:Int)).toNat=j:=by
   rw [seqIndex_neg (by omega) h4] at h1
   rw [jj,← hl]
   exact jh h1
  exact subscriptTail_builtinR (x:=w) pl.isList.typeIs slot_list_getitem.lookup
   (wpAny_getItem_list_neg (Q:=fun r s'=>r=w∧EP X pins σ Q r s') pl.isList (by omega) (by rw [jj] <;> omega) (by omega) (by rw [hj];simpa using ew) ⟨rfl,fin⟩) hs
theorem al:IxR X (rIxT X.K):=by
 intro value slice pins s σ H x y v u Q I rx ry h hs
 obtain ⟨p,xs,i,z,rfl,rfl,hq,he,q⟩:=h
 cases rx
 obtain ⟨t,rfl⟩:=ry
 obtain ⟨its,r,pl,hz⟩:=I.tuple hq
 obtain ⟨j,h1,h2,h3,h4,h5⟩:=atI_get he
 obtain ⟨w,ew,rw'⟩:=r.get h2
 have hl:=r.length
 have hn:=line63
 have fin:EP X pins σ Q w s:=⟨z,H,I,rw',q⟩
 exact subscriptTail_builtinR (x:=w) pl.typeIs slot_tuple_getitem.lookup
  (getItem_tuple (j:=j) (Q:=fun r s'=>r=w∧EP X pins σ Q r s') pl (by omega) (by omega) (by rw [jj,← hl];exact h1) (by simpa using ew) ⟨rfl,fin⟩) hs
theorem ix_str:IxR X rIxS:=by
 intro value slice pins s σ H x y v u Q I rx ry h hs
 obtain ⟨z,i,c,rfl,rfl,hz,he,q⟩:=h
 obtain ⟨t,rfl⟩:=rx
 obtain ⟨t',rfl⟩:=ry
 obtain ⟨j,h1,h2,h3,h4,h5⟩:=atI_get he
 have hl:z.cps.toList.length=z.length:=by simp [Str.length]
 rw [hl] at h1 h4 h5
 have hn:=line63
 exact tail_any (typeIs_str s z t) slot_str_getitem.lookup (getItem_str (c:=c) (by
  have e1:decide (i < -(2 ^ 63:Int))=false:=iX (by omega)
  have e2:decide (i ≥ 2 ^ 63)=false:=iX (by omega)
  rw [e1,e2,Bool.or_false]) (by rw [h1];simpa using h2) ⟨.str ⟨#[c]⟩,H,I.tok _,⟨_,rfl⟩,q⟩) hs
noncomputable def eT:V→Bool
 | .non=>true
 | .bl _=>true
 | .int _=>true
 | .str _=>true
 | _=>false
noncomputable def eqV:V→V→Bool
 | .non,.non=>true
 | .bl a,.bl b=>a == b
 | .bl a,.int b=>(if a then 1 else 0) == b
 | .int a,.bl b=>a == (if b then 1 else 0)
 | .int a,.int b=>a == b
 | .str a,.str b=>a == b
 | _,_=>false
theorem eqAt_V {A:Around} {s:Shared} {y x:V} {u v:Value} (ry:RelV y u) (rx:RelV x v) (fy:eT y=true) (fx:eT x=true):SeqAt.EqAt A s u v (eqV y x):=by
 cases y with
 | non=>
  cases ry
  cases x with
  | non=>cases rx;exact SeqAt.EqAt.same _
  | bl b=>cases rx;exact SeqAt.EqAt.none_bool b
  | int b=>obtain ⟨t,rfl⟩:=rx;exact SeqAt.EqAt.none_int b t
  | str b=>obtain ⟨t,rfl⟩:=rx;exact SeqAt.EqAt.none_str b t
  | _=>exact absurd (show false=true from fx) i8
 | bl a=>
  cases ry
  cases x with
  | non=>cases rx;exact SeqAt.EqAt.bool_none a
  | bl b=>cases rx;exact SeqAt.EqAt.bool_bool a b
  | int b=>obtain ⟨t,rfl⟩:=rx;exact SeqAt.EqAt.bool_int a b t
  | str b=>obtain ⟨t,rfl⟩:=rx;exact SeqAt.EqAt.bool_str a b t
  | _=>exact absurd (show false=true from fx) i8
 | int a=>
  obtain ⟨t',rfl⟩:=ry
  cases x with
  | non=>cases rx;exact SeqAt.EqAt.int_none a t'
  | bl b=>cases rx;exact SeqAt.EqAt.int_bool a t' b
  | int b=>obtain ⟨t,rfl⟩:=rx;exact SeqAt.EqAt.int_int a t' b t
  | str b=>obtain ⟨t,rfl⟩:=rx;exact SeqAt.EqAt.int_str a t' b t
  | _=>exact absurd (show false=true from fx) i8
 | str a=>
  obtain ⟨t',rfl⟩:=ry
  cases x with
  | non=>cases rx;exact SeqAt.EqAt.str_none a t'
  | bl b=>cases rx;exact SeqAt.EqAt.str_bool a t' b
  | int b=>obtain ⟨t,rfl⟩:=rx;exact SeqAt.EqAt.str_int a t' b t
  | str b=>obtain ⟨t,rfl⟩:=rx;exact SeqAt.EqAt.str_str a t' b t
  | _=>exact absurd (show false=true from fx) i8
 | _=>exact absurd (show false=true from fy) i8
noncomputable def eqU (x:V) (u:Value):Bool:=match u with
 | .none=>eqV .non x
 | .bool b=>eqV (.bl b) x
 | .int i _=>eqV (.int i) x
 | .str z _=>eqV (.str z) x
 | _=>false
theorem eqU_of {x y:V} {u:Value} (r:RelV y u) (f:eT y=true):eqU x u=eqV y x:=by
 cases y with
 | non=>cases r;rfl
 | bl b=>cases r;rfl
 | int i=>obtain ⟨t,rfl⟩:=r;rfl
 | str z=>obtain ⟨t,rfl⟩:=r;rfl
 | _=>exact absurd (show false=true from f) i8
theorem any_eqU {x:V}:∀ {xs:List V} {us:List Value},Vals xs us→xs.all eT=true→us.any (eqU x)=xs.any fun y=>eqV y x
 | _,_,.nil,_=>rfl
 | y::xs,u::us,.cons r t,f=>by
  rw [List.all_cons,j4] at f
  rw [List.any_cons,List.any_cons,eqU_of r f.1,any_eqU t f.2]
theorem mem_eqAt {A:Around} {s:Shared} {x:V} {v:Value} (rx:RelV x v) (fx:eT x=true):∀ {xs:List V} {us:List Value},Vals xs us→xs.all eT=true→∀ u∈us,SeqAt.EqAt A s u v (eqU x u)
 | _,_,.nil,_=>fun u hu=>by cases hu
 | y::xs,u::us,.cons r t,f=>fun u' hu=>by
  rw [List.all_cons,j4] at f
  rcases ja.mp hu with rfl | hu
  ·rw [eqU_of r f.1];exact eqAt_V r rx f.1 fx
  ·exact mem_eqAt rx fx t f.2 u' hu
noncomputable def inV (x:V) (xs:List V):Bool:=xs.any fun y=>eqV y x
noncomputable def rIn (K:PySem.W.Frag) (neg:Bool):R2:=fun x y H Q=>∃ p xs,y=.ref p∧(SqL K H p xs∨SqT K H p xs)∧eT x=true∧xs.all eT=true∧Q (.bl (if neg then !inV x xs else inV x xs)) H
theorem eY:OpR X (compareOp .NotIn) (rIn X.K true):=by
 intro pins s σ H x y v u Q I rx ry h
 obtain ⟨p,xs,rfl,hq,fx,fs,q⟩:=h
 cases ry
 rcases hq with hq | hq
 ·obtain ⟨its,r,pl,hz⟩:=I.list hq
  refine SeqAt.notIn_listAt (eqU x) pl.isList (fun w hw=>mem_eqAt rx fx r fs w (by simpa using hw)) ⟨.bl _,H,I,rfl,?_⟩
  rw [show its.toArray.any (eqU x)=its.any (eqU x) by simp,any_eqU r fs]
  exact q
 ·obtain ⟨its,r,pl,hz⟩:=I.tuple hq
  refine SeqAt.notIn_tupleAt (eqU x) pl (fun w hw=>mem_eqAt rx fx r fs w (by simpa using hw)) ⟨.bl _,H,I,rfl,?_⟩
  rw [show its.toArray.any (eqU x)=its.any (eqU x) by simp,any_eqU r fs]
  exact q
theorem call_len_seq:gx X (.builtin "len") (fun xs H Q=>∃ p ys,xs=[.ref p]∧(SqL X.K H p ys∨SqT X.K H p ys)∧Q (.int ys.length) H):=by
 intro pins s σ H xs us Q I r h
 obtain ⟨p,ys,rfl,hq,q⟩:=h
 obtain ⟨u,rfl,rx⟩:=vals1 r
 cases rx
 have hn:=line63
 rcases hq with hq | hq
 ·obtain ⟨its,r',pl,hz⟩:=I.list hq
  have hlen:=r'.length
  exact Calls.call_len_list pl.isList (by simp only [jj] <;> omega) ⟨.int ys.length,H,I.tok _,⟨s.toks+1,by rw [jj,hlen]⟩,q⟩
 ·obtain ⟨its,r',pl,hz⟩:=I.tuple hq
  have hlen:=r'.length
  exact len_tuple pl (by simp only [jj] <;> omega) ⟨.int ys.length,H,I.tok _,⟨s.toks+1,by rw [jj,hlen]⟩,q⟩
noncomputable def tyV (K:PySem.W.Frag) (T:String) (x:V) (H:Hp):Prop:=match x with
 | .str _=>T = "str"
 | .int _=>T = "int"
 | .ref p=>(T = "list"∧∃ xs,SqL K H p xs)∨(T = "tuple"∧∃ o,K.lookup p=some o∧o.cls=.type "tuple"∧o.dict=none)∨
   (T = "dict"∧((∃ kvs,H p=some (.dK kvs))∨∃ kvs,H p=some (.dT kvs)))∨(T = "set"∧∃ S n,H p=some (.set S n))
 | _=>False
theorem tyV_is {pins:List (Addr × Obj)} {σ:St} {H:Hp} {s:Shared} {T:String} {x:V} {v:Value} (I:Inv X pins σ H s) (r:RelV x v) (ty:tyV X.K T x H) :
  s.TypeIs v T∧∀ a,v=.ref a→∃ ob,s.heap.get? a=some ob∧ob.dict=none:=by
 cases x with
 | str z=>
  obtain ⟨t,rfl⟩:=r
  cases (show T = "str" from ty)
  exact ⟨typeIs_str s z t,fun _ e=>nomatch e⟩
 | int i=>
  obtain ⟨t,rfl⟩:=r
  cases (show T = "int" from ty)
  exact ⟨typeIs_int s i t,fun _ e=>nomatch e⟩
 | ref p=>
  cases r
  rcases ty with ⟨rfl,xs,hq⟩ | ⟨rfl,o,hk,hc,hd⟩ | ⟨rfl,hk⟩ | ⟨rfl,S,n,hk⟩
  ·obtain ⟨its,_,pl,_⟩:=I.list hq
   refine ⟨pl.isList.typeIs,fun a e=>?_⟩
   cases e
   obtain ⟨o,n,e,c,hd,_⟩:=pl
   exact ⟨o,e,hd⟩
  ·refine ⟨⟨o,I.kIn p o hk,hc⟩,fun a e=>?_⟩
   cases e
   exact ⟨o,I.kIn _ o hk,hd⟩
  ·have z:∃ o,s.heap.get? p=some o∧o.ExactDict:=by
    rcases hk with ⟨kvs,hk⟩ | ⟨kvs,hk⟩
    ·obtain ⟨_,_,_,_,o,_,_,e,ex,_⟩:=I.hok p _ hk
     exact ⟨o,e,ex⟩
    ·obtain ⟨_,_,_,_,o,_,_,e,ex,_⟩:=I.hok p _ hk
     exact ⟨o,e,ex⟩
   obtain ⟨o,e,ex⟩:=z
   refine ⟨⟨o,e,ex.1⟩,fun a e2=>?_⟩
   cases e2
   exact ⟨o,e,ex.2.1⟩
  ·obtain ⟨o,_,_,_,e,ex,_⟩:=I.hok p _ hk
   refine ⟨⟨o,e,ex.1⟩,fun a e2=>?_⟩
   cases e2
   exact ⟨o,e,ex.2.1⟩
 | _=>exact False.elim ty
noncomputable def tBM0 (K:PySem.W.Frag) (T:String) (r:V→List V→Hp→VK→Prop) (to:TE):TE:=fun σ H Q=>to σ H fun x H1=>tyV K T x H1∧r x [] H1 Q
noncomputable def tBM (K:PySem.W.Frag) (T:String) (r:V→List V→Hp→VK→Prop) (to:TE) (t:TA):TE:=fun σ H Q=>to σ H fun x H1=>tyV K T x H1∧t σ H1 fun xs H2=>r x xs H2 Q
variable {o e:Expr} {es:List Expr} {to:TE} {t:TA} {name:Str} {apos cpos:Pos} {T id:String} {r:V→List V→Hp→VK→Prop}
theorem pe_bm0 (pa:PlainAttrs T) (slot:Slot T name id) (hty:typeOf (.builtin id)=pure (.type "method_descriptor")) (hm:MtR X id r) (ho:PE X o to)
  (hbase:attributeBase o name X.env (eval o X.env)=eval o X.env:=by rfl) (hline:(apos.endLine == cpos.line)=true:=by rfl):PE X (.Call (.Attribute o name apos) [] [] cpos) (tBM0 X.K T r to):=by
 intro pins s σ H Q I h
 refine wpAny_Call_method0_late hbase hline (thn (ho pins s σ H _ I h) fun v s1 ⟨x,H1,I1,r1,ty,q1⟩=>?_)
 obtain ⟨h1,h2⟩:=tyV_is I1 r1 ty
 exact ⟨T,id,pa,slot,hty,h1,h2,Calls.callWith_builtin rfl (PySem.evalArgs_none (hm pins s1 σ H1 x [] v [] Q I1 r1 .nil q1))⟩
theorem pe_bm (pa:PlainAttrs T) (slot:Slot T name id) (hty:typeOf (.builtin id)=pure (.type "method_descriptor")) (hm:MtR X id r) (ho:PE X o to) (ha:PA X (e::es) t)
  (hbase:attributeBase o name X.env (eval o X.env)=eval o X.env:=by rfl)
  (hfew:((backTo cpos (starEach (e::es) X.env)).all (fun x=>!x.1) && (backToKw cpos (keywordEach [] X.env)).all (fun x=>x.1.isSome)
   && decide ((e::es).length+([]:List Keyword).length+(if ([]:List Keyword).isEmpty then 0 else 1)<30))=true:=by rfl)
  (hline:(apos.endLine == cpos.line)=true:=by rfl) (hs:starEach (e::es) X.env=(false,eval e X.env)::starEach es X.env:=by rfl) (hplain:(backTo cpos (starEach es X.env)).any (·.1)=false:=by rfl) :
  PE X (.Call (.Attribute o name apos) (e::es) [] cpos) (tBM X.K T r to t):=by
 intro pins s σ H Q I h
 refine wpAny_Call_method_late hbase hfew hline rfl (thn (ho pins s σ H _ I h) fun v s1 ⟨x,H1,I1,r1,ty,q1⟩=>?_)
 obtain ⟨h1,h2⟩:=tyV_is I1 r1 ty
 refine ⟨T,id,pa,slot,hty,h1,h2,?_⟩
 have hA:=ha cpos pins s1 σ H1 _ I1 q1
 rw [hs] at hA ⊢
 refine Calls.callWith_builtin (by show (false || (backTo cpos (starEach es X.env)).any (·.1))=false;rw [hplain] <;> rfl) (Calls.evalArgs_plain ?_)
 exact thn hA fun us s2 ⟨vs,H2,I2,r2,q2⟩=>hm pins s2 σ H2 x vs v us Q I2 r1 r2 q2
end
end L2
namespace L2
open PySem PySem.Spec PyProof.Rows
noncomputable def MtM (X:Cx) (id:String) (r:V→List V→Hp→VK→Prop):Prop:=
 ∀ (pins:List (Addr × Obj)) (s:Shared) (σ:St) (H:Hp) (x:V) (xs:List V) (v:Value) (us:List Value) (Q:VK),Inv X pins σ H s→RelV x v→Vals xs us→r x xs H Q→
  wpAny (model X.prog X.w) X.A (call (.builtin id) (v::us)) (EP X pins σ Q) X.xe s
theorem Vals.one:∀ {x:V} {us:List Value},Vals [x] us→∃ u,us=[u]∧RelV x u
 | _,_,.cons r .nil=>⟨_,rfl,r⟩
section
variable {X:Cx} {pins:List (Addr × Obj)} {σ:St} {H:Hp} {s:Shared} {l b:Addr} {xs ys zs:List V}
theorem Inv.lset {its its':List Value} {n:Nat} {f:Array Value→Array Value} {t':Nat} (I:Inv X pins σ H s) (hH:H l=some (.lst xs))
  (e:s.heap.get? l=some { cls:=.type "list",data:=.seq its.toArray n }) (hf:f its.toArray=its'.toArray) (hv:Vals ys its') (hz:ys.length≤sizeLine) :
  Inv X pins σ (upd H l (.lst ys)) { s with heap:=s.heap.update l (Obj.mapSeq f),toks:=t' }:=by
 have q:=PySem.IsL.update e f
 rw [hf] at q
 refine I.write (x:=l) (e:=l) (by rw [hH];exact trivial) (.inl rfl) (fun b' u hb hu=>(jU s.heap (Obj.mapSeq f) (Ne.symm hb)).trans hu) ⟨_,q⟩ ?_
 exact ⟨hz,its',_,hv,q⟩
theorem Inv.lstM (I:Inv X pins σ H s) (hH:H l=some (.lst xs)):xs.length≤sizeLine∧∃ (its:List Value) (n:Nat),Vals xs its∧xs.length=its.length∧s.heap.get? l=some { cls:=.type "list",data:=.seq its.toArray n }:=by
 obtain ⟨z,its,n,r,e⟩:=I.hok l _ hH
 exact ⟨z,its,n,r,r.length,e⟩
end
section
variable {X:Cx}
noncomputable def rAppend:V→List V→Hp→VK→Prop:=fun x vs H Q=>∃ l xs y,x=.ref l∧vs=[y]∧H l=some (.lst xs)∧xs.length<sizeLine∧Q .non (upd H l (.lst (xs++[y])))
theorem fV:MtM X "list.append" rAppend:=by
 intro pins s σ H x vs v us Q I rx rv h
 obtain ⟨l,xs,y,rfl,rfl,hH,hz,q⟩:=h
 cases rx
 obtain ⟨u,rfl,ru⟩:=rv.one
 obtain ⟨z,its,n,r,hl,e⟩:=I.lstM hH
 refine call_meets F.slot_list_append ⟨_,e,rfl⟩ F.entry_list_append (F.args_list_append_2 _ _) (PySem.list_append l its.toArray n u (by rw [jj];omega)) ⟨e,?_⟩
 refine ⟨.non,_,I.lset (its':=its++[u]) hH e (by simp) (r.append (.cons ru .nil)) ?_,rfl,q⟩
 rw [jd,List.length_singleton]
 omega
end
section
variable {prog:Program} {w:World} {A:Around} {E:Value→Shared→Prop} {s:Shared}
end
section
variable {X:Cx}
end
end L2
namespace Att
open PySem PySem.W PySem.Calls PyProof.Rows
theorem ints_of_wellAll {P:Params} {h:Heap}:∀ (ns:List Int) (vs:List Value),WellAll P h vs (ns.map WData.int)→IntsAre vs ns:=by
 intro ns
 induction ns with
 | nil=>
  intro vs w
  rw [List.map_nil] at w
  cases w
  exact .nil
 | cons n ns ih=>
  intro vs w
  rw [jv] at w
  cases w with
  | cons a b=>
   cases a
   exact .cons _ _ (ih _ b)
theorem script_of {l:OpenLaw} {n:Nat} (hn:l.most=some n) {P:Params} {h:Heap} {args:List WData} {vals:List Value}
  (hpre:l.row.toRowW.claim.pre args=true) (hwl:WellAll P h vals args) :
  ∃ a vs ns,vals=[Value.ref a]∧args=[WData.list (ns.map WData.int)]∧h.get? a=some { cls:=.type "list",data:=.seq vs.toArray }∧IntsAre vs ns∧ns.length≤n:=by
 have hsh:WShape.hasAll [] args [.list .int]=true:=(pre_splitW hpre).1
 have hc:l.pre.holds [] { args:=args }=true:=(pre_splitW hpre).2
 obtain ⟨d,r,rfl,h1,h2⟩:=hasAllW_cons hsh
 obtain rfl:=hasAllW_nil h2
 obtain ⟨xs,rfl,h3⟩:=hasW_list h1
 obtain ⟨ns,rfl⟩:=items_int h3
 have hlen:ns.length≤n:=by
  unfold OpenLaw.pre at hc
  have h4:(WTm.not (.lt (.lit (.int (n:Int))) (.len (.arg 0)))).holds [] { args:=[.list (ns.map .int)] }=true:=by
   have h4:=(holds_andW hc).1
   rw [hn] at h4
   exact h4
  have h5:=condW_of h4 (w_not (w_lt w_lit (w_len_list (w_arg rfl))))
  rw [iM] at h5
  refine Nat.le_of_not_lt fun q=>?_
  have q':(n:Int)<((ns.length:Nat):Int):=by omega
  first
   | (rw [iW q'] at h5;exact absurd h5 (by decide))
   | (simp at h5;omega)
 cases hwl with
 | cons w1 w2=>
  cases w2
  cases w1 with
  | list ho hall=>exact ⟨_,_,ns,rfl,rfl,ho,ints_of_wellAll ns _ hall,hlen⟩
theorem post_true (l:OpenLaw) (args:List WData):l.row.toRowW.claim.post args (.bool true) args=true:=
 postW_of (r:=l.row.toRowW) (X:=(true == true))
  (show WShape.has [] (.bool true) .bool=true by first | rfl | decide | simp [WShape.has,WShape.arms,WShape.armsAll])
  (show (WTm.eq .res (.lit (.bool true))).value [] { args:=args,res:=some (.bool true),after:=args }=some (.bool (true == true)) from w_eq_bool (w_res rfl) w_lit) rfl
section
variable {prog:Program} {w:World} {A:Around} {E:Value→Shared→Prop} {s:Shared} {K:Frag}
end
end Att
namespace L2
open PySem PySem.Spec PyProof.Rows
theorem vals_ints:∀ {vs:List Value} {ns:List Int},IntsAre vs ns→Vals (ns.map V.int) vs
 | _,_,.nil=>.nil
 | _,_,.cons n t h=>.cons ⟨t,rfl⟩ (vals_ints h)
noncomputable def Only (H:Hp):Prop:=∀ b,H b=none∨∃ o xs,H b=some (.frz o (.lst xs))
theorem law_call {P:Program} {w:World} {K:PySem.W.Frag} {mg mb:Str→Option Value} {CX:CXT} {k:Nat} {fa a:Addr} {fd:FuncData} {x:Str} {sp:Sp} {s₁:Shared} {vs:List Value} {ns:List Int}
  (KX:K.In s₁.heap) (hns:s₁.heap.Ns mainGlobals mg) (hb:s₁.heap.Ns builtinsNs mb) (hbb:∀ x:Str,x≠"__name__"→mb x=bootBuiltins x) (hlim:s₁.heap.NoLimit) (hg:s₁.gens = #[])
  (ha:s₁.heap.get? a=some { cls:=.type "list",data:=.seq vs.toArray }) (hi:IntsAre vs ns) (hl:ns.length≤sizeLine) (hr:Room k callerA)
  (F:∀ base:Heap,K.In base→base.Ns mainGlobals mg→FnOk P w K mg base CX k fa fd [x] sp) (hbind:∀ (s:Shared) (u:Value),BindsTo s fd ⟨[u],[]⟩ [(x,u)])
  (hsp:∀ H:Hp,Only H→SqL K H a (ns.map V.int)→sp [.ref a] H (fun v _=>v=.bl true) fun _ _ _=>False)
  (hCX:∀ H e s',CX [] H s₁ (fun _ _ _=>False) e s'→False) :
  codeAny (model P w) callerA (.call (.ref fa) ⟨[.ref a],[]⟩) (fun r s'=>r=.ok (.ret (.bool true))∧OldK s₁.heap s'.heap∧s'.os=s₁.os∧AllBare s'.gens) s₁:=by
 have rv:=vals_ints hi
 have lenV:=hi.length
 have core:∀ H:Hp,Only H→SqL K H a (ns.map V.int)→HOk P w H s₁.heap→(∀ b,H b≠none→b=a)→(H a≠none→K.lookup a=none)→
   codeAny (model P w) callerA (.call (.ref fa) ⟨[.ref a],[]⟩) (fun r s'=>r=.ok (.ret (.bool true))∧OldK s₁.heap s'.heap∧s'.os=s₁.os∧AllBare s'.gens) s₁:=by
  intro H hO hS hok hA hK
  have base_of:∀ {b:Addr} {o:Obj},s₁.heap.get? b=some o→H b=none→(hidT s₁.heap H).get? b=some o:=fun e n=>hidT_get e n
  have noA:∀ {b:Addr} {o:Obj} {es:Array DictEntry} {ep:Nat},s₁.heap.get? b=some o→o.data=.dict es ep→H b=none:=fun {b o es ep} e d=>by
   cases q:H b with
   | none=>rfl
   | some u=>
    have e':b=a:=hA b (by rw [q];simp)
    subst e'
    rw [ha] at e;cases e
    have d':Data.seq vs.toArray _=Data.dict es ep:=d
    cases d'
  have nsK:∀ {b:Addr} {m:Str→Option Value},s₁.heap.Ns b m→(hidT s₁.heap H).Ns b m:=fun {b m} ⟨o,es,ep,e,d,r⟩=>⟨o,es,ep,base_of e (noA e d),d,r⟩
  have hKb:K.In (hidT s₁.heap H):=fun b o e=>base_of (KX b o e) (by
   cases q:H b with
   | none=>rfl
   | some u=>
    have e':b=a:=hA b (by rw [q];simp)
    subst e'
    rw [hK (by rw [q];simp)] at e;cases e)
  have hM:Mod K mg (hidT s₁.heap H):=⟨hKb,nsK hns,⟨mb,nsK hb,hbb⟩,let ⟨mc,h1,h2⟩:=hlim;⟨mc,nsK h1,h2⟩⟩
  have e0:Env0 P w K mg (hidT s₁.heap H) callerA [] s₁ H:=⟨rfl,hM,fun b o e=>of_hidT e,Nat.le_of_eq (hidT_size _ _),trivial,fun b hb=>absurd (show b∈([]:List Addr) from hb) (by simp),hok,.of_eq hg⟩
  refine codeAny_mono ((F _ hKb (nsK hns)).run callerA [] s₁ H ⟨[.ref a],[]⟩ [.ref a] [.ref a] _ _ hr e0 (hbind s₁ (.ref a)) (.cons rfl .nil) (hsp H hO hS)) fun r s' h=>?_
  cases r with
  | error e=>exact (hCX H e s' h).elim
  | ok fl=>
   cases fl with
   | next=>exact False.elim h
   | brk=>exact False.elim h
   | cont=>exact False.elim h
   | ret u=>
    obtain ⟨v,H',os,bare,un,hok',r',q⟩:=h
    have q':v=.bl true:=q
    subst q'
    obtain rfl:u=Value.bool true:=r'
    refine ⟨rfl,OldK.of_keep fun b o e=>?_,os,bare⟩
    cases q:H b with
    | none=>exact un.keep b o e q (by intro z;exact absurd (show b∈([]:List Addr) from z) (by simp)) (by simp)
    | some u=>
     rcases hO b with z | ⟨ob,xs,z⟩
     ·rw [q] at z;cases z
     ·have z2:=un.frzs b ob _ z
      obtain ⟨e1,_⟩:=hok b _ z
      obtain ⟨e2,_⟩:=hok' b _ z2
      rw [e] at e1;cases e1
      exact e2
 cases hk:K.lookup a with
 | some o=>
  have e:=KX a o hk
  rw [ha] at e
  cases e
  refine core (fun _=>none) (fun _=>.inl rfl) (.inr ⟨_,vs.toArray,_,hk,rfl,rfl,rfl,by rw [jj,lenV];exact hl,by simpa using rv⟩) (fun b u z=>by have z':(none:Option HO)=some u:=z;cases z') (fun b z=>absurd rfl z) fun z=>absurd rfl z
 | none=>
  refine core (fun b=>if b=a then some (.frz { cls:=.type "list",data:=.seq vs.toArray } (.lst (ns.map V.int))) else none) (fun b=>?_) (.inl (.inr ⟨{ cls:=.type "list",data:=.seq vs.toArray },if_pos rfl⟩)) (fun b u z=>?_) (fun b z=>?_) fun _=>hk
  ·by_cases hb:b=a
   ·exact .inr ⟨_,_,if_pos hb⟩
   ·exact .inl (if_neg hb)
  ·by_cases hb:b=a
   ·have z':=(if_pos hb).symm.trans z
    cases z'
    subst hb
    exact ⟨ha,by rw [iM];exact hl,vs,_,rv,ha⟩
   ·have z':=(if_neg hb).symm.trans z
    cases z'
  ·by_cases hb:b=a
   ·exact hb
   ·exact absurd (if_neg hb) z
end L2
namespace L2
open PySem PySem.Spec PyProof.Rows
end L2
namespace L2
open PySem PySem.Spec PyProof.Rows
noncomputable def aZ (s:Stmt) (j:Nat):Stmt:=match s with
 | .ClassDef _ _ _ body _ _ _ _ _ _ _=>body.getD j (.Pass ⟨0,0,0,0⟩)
 | _=>.Pass ⟨0,0,0,0⟩
noncomputable def au (s:Stmt):Arguments:=match s with
 | .FunctionDef _ a _ _ _ _ _ _ _ _=>a
 | _=>{ posonlyargs:=[],args:=[],vararg:=none,kwonlyargs:=[],kw_defaults:=[],kwarg:=none,defaults:=[] }
noncomputable def ao (s:Stmt):List Stmt:=match s with
 | .FunctionDef _ _ b _ _ _ _ _ _ _=>b
 | _=>[]
noncomputable def af (s:Stmt):Scope:=match s with
 | .FunctionDef _ _ _ _ _ _ sc _ _ _=>sc
 | _=>{ kind:=.function,names:=[],isGenerator:=false,isCoroutine:=false }
noncomputable abbrev CX0:CXT:=fun _ _ _ _ _ _=>False
noncomputable abbrev E0:XK:=fun _ _ _=>False
theorem ak {X:Cx}:c7 CX0 X E0:=fun _ _ _ _ _ _ _ h=>h.elim
structure Fun (K:PySem.W.Frag) (x qual:Str) (st:Stmt) (f:Addr) (fd:FuncData):Prop where
 ex:∃ (oc:Value) (od:Option Addr) (kV doc pm:Value) (an:Option Addr) (cdv ct:Value) (osl:Array (Option Value)),
  fd=PySem.W.fnOf x qual (au st) (ao st) (af st) .none kV doc pm an cdv ct∧K.lookup f=some ⟨oc,od,.func fd,osl⟩∧PySem.W.codeIn K cdv qual=true
 kp:PySem.W.keepIn K (.ref f)=true
section
variable {P:Program} {w:World} {K:PySem.W.Frag} {mg:Str→Option Value} {base:Heap}
theorem Fun.ok {x qual:Str} {st:Stmt} {f:Addr} {fd:FuncData} {N ps:List Str} {k:Nat} {sp:Sp} (F:Fun K x qual st f fd) (S:FnScope N ps (af st)) (len:∀ vs H Q E,sp vs H Q E→vs.length=ps.length)
  (hbody:∀ (cdv:Value) (A:Around) (outer:List Env) (s:Shared) (H:Hp) (vs:List V) (Q:VK) (E:XK),Room k (A.deeper (envOfC qual (af st) s.heap.objs.size f cdv))→sp vs H Q E→
   ∃ t,PSs (aM CX0 P w K mg base N qual (af st) f cdv A outer s H E).nox (ao st) t∧t { nx:=fun _ H'=>Q .non H',rt:=Q } (eJ N vs) H):FnOk P w K mg base CX0 (k+1) f fd ps sp:=by
 obtain ⟨oc,od,kV,doc,pm,an,cdv,ct,osl,rfl,lk,hcd⟩:=F.ex
 refine fn_of lk hcd S len fun A outer s H vs Q E hr hsp=>?_
 obtain ⟨t,h,q⟩:=hbody cdv A outer s H vs Q E hr hsp
 exact ⟨t,h.nox,q⟩
theorem Fun.binds {x qual:Str} {st:Stmt} {f:Addr} {fd:FuncData} {ps:List Str} (F:Fun K x qual st f fd)
  (h:∀ (kV doc pm:Value) (an:Option Addr) (cdv ct:Value) (us:List Value),us.length=ps.length→bindArgs (PySem.W.fnOf x qual (au st) (ao st) (af st) .none kV doc pm an cdv ct) ⟨us,[]⟩=pure (ps.zip us)):Binds K fd ps []:=by
 obtain ⟨oc,od,kV,doc,pm,an,cdv,ct,osl,rfl,lk,hcd⟩:=F.ex
 exact .all (h kV doc pm an cdv ct)
theorem aC {x qual:Str} {st:Stmt} {f:Addr} {oc:Value} {od an:Option Addr} {osl:Array (Option Value)} {kV doc pm cdv ct:Value} (l:K.lookup f=some ⟨oc,od,.func (PySem.W.fnOf x qual (au st) (ao st) (af st) .none kV doc pm an cdv ct),osl⟩)
  (c:PySem.W.codeIn K cdv qual=true) (k:PySem.W.keepIn K (.ref f)=true):Fun K x qual st f (PySem.W.fnOf x qual (au st) (ao st) (af st) .none kV doc pm an cdv ct):=⟨⟨oc,od,kV,doc,pm,an,cdv,ct,osl,rfl,l,c⟩,k⟩
end
theorem aJ {A:Around} {k:Nat} (hr:Room k A):A.units+1<cLine:=jf (Nat.add_le_add_left (by decide:1≤64) _) hr.units
theorem aE {n:Nat} (h:n≤1000):n<sizeLine:=jf h (by decide)
section
variable {X:Cx}
theorem pv (i:Nat) {x:Str} {pos:Pos} (hN:X.N[i]?=some x:=by rfl) (hv:Vis X.env.scope x:=by first | exact Or.inl rfl | exact Or.inr (Or.inl rfl) | exact Or.inr (Or.inr rfl)) (hd:(x == ("__debug__":Str))=false:=by decide)
  (hcd:(x == ("__classdict__":Str))=false:=by decide):PE X (.Name x pos) (tVar i):=pe_var hN hv hd hcd
end
theorem iteF {A B:Prop} (h:B):if false=true then A else B:=by
 rw [if_neg i8]
 exact h
theorem iteT {A B:Prop} (h:A):if true=true then A else B:=by
 rw [if_pos rfl]
 exact h
theorem ite2 {c A B:Prop} [Decidable c] (h1:c→A) (h2:¬ c→B):if c then A else B:=by
 by_cases h:c
 ·rw [if_pos h]
  exact h1 h
 ·rw [if_neg h]
  exact h2 h
theorem iteNS {c A B:Prop} [Decidable c] (hc:c) (h:B):if (!decide c)=true then A else B:=by
 rw [iW hc]
 exact iteF h
noncomputable def Same (H H':Hp):Prop:=∀ b o,H b=some o→H' b=some o
theorem Same.refl (H:Hp):Same H H:=fun _ _ h=>h
theorem Same.trans {H H1 H2:Hp} (a:Same H H1) (b:Same H1 H2):Same H H2:=fun c o h=>b c o (a c o h)
theorem Same.free {H H':Hp} (e:Same H H') {l:Addr} (h:H' l=Option.none):H l=Option.none:=by
 cases q:H l with
 | none=>rfl
 | some o=>
  rw [e l o q] at h
  cases h
theorem Same.seq {K:PySem.W.Frag} {H H':Hp} {a:Addr} {xs:List V} (e:Same H H') (h:SqL K H a xs):SqL K H' a xs:=by
 rcases h with (h | ⟨o,h⟩) | h
 ·exact .inl (.inl (e _ _ h))
 ·exact .inl (.inr ⟨o,e _ _ h⟩)
 ·exact .inr h
end L2
set_option maxHeartbeats 4000000
set_option exponentiation.threshold 300
namespace L2
open PySem PySem.Spec PyProof.Rows
section
variable {X:Cx}
theorem bits_le {k:Int} {n:Nat} (h:k.natAbs<2 ^ n):Builtin.Int.intBits k≤n:=by
 unfold Builtin.Int.intBits
 split
 ·exact iY _
 ·rename_i h0
  have hz:k.natAbs≠0:=by
   intro z
   apply h0
   have:k=0:=by omega
   simp [this]
  have:k.natAbs.log2<n:=(Nat.log2_lt hz).mpr h
  omega
noncomputable def CMulB (i j:Int):Prop:=i.natAbs<2 ^ 9000∧j.natAbs<2 ^ 9000
theorem CMulB.ok {i j:Int} (h:CMulB i j):IntMulOk i j:=by
 refine IntMulOk.of_bits (i3 (bits_le h.1) (by decide)) (i3 (bits_le h.2) (by decide))
theorem aT:OpR X (binaryOp .Mult) (rI CMulB fun i j=>.int (i*j)):=opI fun _ _ _ _ _ _ _ hc q=>mul_int q hc.ok
noncomputable def CDivB (_ j:Int):Prop:=j≠0∧j.natAbs<2 ^ 9000
theorem CDivB.ok {i j:Int} (h:CDivB i j):Builtin.divisionGoesByPylong i j=false:=
 PyProof.noPylong_of_log2 ((Nat.log2_lt (by have:=h.1;omega)).mpr h.2)
theorem bu:OpR X (binaryOp .FloorDiv) (rI CDivB fun i j=>.int (i.fdiv j)):=opI fun _ _ _ _ _ _ _ hc q=>floordiv_int hc.1 q (.inl hc.ok)
noncomputable def rIsI (K:PySem.W.Frag) (c:Value):List V→Hp→VK→Prop:=fun vs H Q=>∃ x y t b,vs=[x,y]∧(∀ u,RelV y u→u=c)∧TyOf K H x t∧PySem.W.kitOne K t c=some b∧Q (.bl b) H
theorem gL {c:Value}:gx X (.builtin "isinstance") (rIsI X.K c):=by
 intro pins s σ H xs us Q I r h
 obtain ⟨x,y,t,b,rfl,hc,ty,e,q⟩:=h
 cases r with
 | cons r1 r2=>
  cases r2 with
  | cons r3 r4=>
   cases r4
   have:=hc _ r3
   subst this
   exact isinst_ok I r1 ty e fun tk=>⟨.bl b,H,I.tok tk,rfl,q⟩
end
section
variable {X:Cx}
noncomputable def cD (X:Cx) (pins:List (Addr × Obj)) (N':List Str) (scope:Scope) (cl:List (Str × Addr)) (C:Addr) (fp:List Addr) (s:Shared) (H:Hp):Cx:=
 { X with N:=N',s₀:=s,H₀:=H,env:=compEnvC scope cl C X.env,outer:=X.stack,stack:=X.stack,ex:=fp,fn:=fun _=>false,pn:=X.pn++pins,xe:=fun _ _=>False }
structure Clos (X:Cx) (scope:Scope) (cl:List (Str × Addr)):Prop where
 clos:closureFor scope X.env=pure cl
 sub:∀ y c,cl.lookup y=some c→X.env.cells.lookup y=some c
 has:∀ y,((relabel scope X.env).names.lookup y=some .cell∨(relabel scope X.env).names.lookup y=some .free)→∃ c,cl.lookup y=some c
theorem relabel_none {scope:Scope} {env:Env} (hf:∀ x∈scope.names,x.2≠.free):relabel scope env=scope:=by
 unfold relabel
 have:(scope.names.map fun (n,k)=>if (k == NameKind.free && env.scope.kind == .function && env.kindOf n == some .cell) then (n,NameKind.cell) else (n,k))=scope.names:=by
  refine map_eq_self fun x hx=>?_
  obtain ⟨n,k⟩:=x
  have h1:(k == NameKind.free)=false:=by simpa using hf _ hx
  simp [h1]
 rw [this]
theorem Clos.none {scope:Scope} (hf:∀ x∈scope.names,x.2≠.free) (hc:∀ x∈scope.names,x.2≠.cell):Clos X scope []:=by
 refine ⟨closureFor_none hf,fun y c h=>by simp at h,fun y h=>?_⟩
 rw [relabel_none hf] at h
 rcases h with h | h
 ·exact absurd rfl (hc _ (jM h))
 ·exact absurd rfl (hf _ (jM h))
noncomputable def Reads (X:Cx) (scope:Scope) (rest:List Str) (sel:St→St):Prop:=
 ∀ σ,(sel σ).length=rest.length∧∀ (i:Nat) (y:Str) (v:V),rest[i]?=some y→(sel σ)[i]?=some (some v)→∃ j:Nat,X.N[j]?=some y∧σ[j]?=some (some v)∧X.env.scope.names.lookup y=some .cell∧(relabel scope X.env).names.lookup y=some .cell
end
end L2
namespace L2
open PySem PySem.Spec PyProof.Rows
theorem ifV {k m:Int} {A B:Prop} (h1:k=m→A) (h2:k≠m→B):if decide (V.int k=V.int m)=true then A else B:=by
 by_cases h:k=m
 ·rw [if_pos (by rw [h];exact iW rfl)]
  exact h1 h
 ·rw [if_neg (by rw [iX (by intro z;exact h (V.int.inj z))];decide)]
  exact h2 h
theorem ifB {c A B:Prop} [Decidable c] (h1:c→A) (h2:¬ c→B):if decide c=true then A else B:=by
 by_cases h:c
 ·rw [if_pos (iW h)]
  exact h1 h
 ·rw [if_neg (by rw [iX h];decide)]
  exact h2 h
theorem gW {c:Bool} {A B:Prop} (h:c=true) (a:A):if c=true then A else B:=by
 rw [if_pos h]
 exact a
theorem eQ {c:Bool} {A B:Prop} (h:c=false) (b:B):if c=true then A else B:=by
 rw [if_neg (by rw [h];decide)]
 exact b
theorem neV {k m:Int} (h:k≠m):decide (V.int k=V.int m)=false:=iX (by intro z;exact h (V.int.inj z))
end L2
namespace L2
open PySem PySem.Spec PyProof.Rows
section
variable {X:Cx} {st:Stmt} {rest:List Stmt} {t u:TS}
noncomputable def tCut (t u:TS):TS:=fun D σ H=>∃ M:St→Hp→Prop,t { D with nx:=M } σ H∧∀ σ' H',M σ' H'→u D σ' H'
theorem aP (h1:PS X st t) (h2:PSs X rest u):PSs X (st::rest) (tCut t u):=by
 intro pins s σ H D I ⟨M,h,hM⟩
 refine wpAny_execs_cons (thn (h1 pins s σ H { D with nx:=M } I h) fun f s1 q=>?_)
 cases f with
 | next=>
  obtain ⟨σ',H',I',q⟩:=q
  exact h2 pins s1 σ' H' D I' (hM σ' H' q)
 | ret v=>exact q
 | brk=>exact q
 | cont=>exact q
end
noncomputable def rLen (K:PySem.W.Frag):List V→Hp→VK→Prop:=fun xs H Q=>∃ p ys,xs=[.ref p]∧(SqL K H p ys∨SqT K H p ys)∧Q (.int ys.length) H
theorem cB {X:Cx}:gx X (.builtin "len") (rLen X.K):=call_len_seq
end L2
namespace L2
open PySem
noncomputable def Trail (h:Heap) (e:Addr) (vs:Array Value):Option Addr→Prop
 | none=>vs[1]?=some .none
 | some T=>vs[1]?=some (.ref T)∧T≠e∧∃ oT ts,h.get? T=some oT∧oT.data=.fields ts∧ts[3]?=some .none
structure Noted (l:List Env) (e:Addr) (oe:Obj) (vs:Array Value) (tr:Option Addr) (h h':Heap):Prop where
 exc:∃ vs' T,h'.get? e=some { oe with data:=.fields vs' }∧vs'[0]?=vs[0]?∧h.objs.size≤T∧Trail h' e vs' (some T)
 keep:∀ b o,b≠e→tr≠some b→b ∉ l.filterMap (·.frame)→h.get? b=some o→h'.get? b=some o
 slot:∀ b o,b≠e→tr≠some b→b∈l.filterMap (·.frame)→h.get? b=some o→∃ sl,h'.get? b=some { o with slots:=sl }
section
variable {M:Model} {A:Around} {E:Value→Shared→Prop} {s:Shared} {base:Heap} {env:Env} {outer:List Env} {L e:Addr} {oe:Obj} {vs:Array Value} {Q:Unit→Shared→Prop}
theorem mapFields_eq {o:Obj} {ws:Array Value} (hd:o.data=.fields ws) (f:Array Value→Array Value):Obj.mapFields f o = { o with data:=.fields (f ws) }:=by
 obtain ⟨c,d,dt,sl⟩:=o
 cases hd
 rfl
theorem entry_core {head:Value} {hadNext:Bool} (hfr:A.frames=some (env::outer)) (hl:s.heap.FunFrames base (env::outer)) (hf:env.frame=some L)
  (he:s.heap.get? e=some oe) (hd:oe.data=.fields vs) (hsz:1<vs.size) (h:∀ h',Noted (env::outer) e oe vs none s.heap h'→Q () { s with heap:=h' }) :
  wpAny M A (do let a ← frameOf env;let pl ← entryPlaceOf L hadNext;let b ← EntryCells.newEntry head a .none (rawInt L) .none pl;setField (.ref e) 1 b) (fun _ s'=>wpAny M A (setFlight (.ref e) none) Q E s') E s:=by
 have ne:∀ b∈(env::outer).filterMap (·.frame),b≠e:=fun b hm z=>by
  obtain ⟨_,o,ho,hnf⟩:=hl.mem hm
  rw [z,he] at ho
  cases ho
  exact hnf vs hd
 refine iK (wpAny_frameOf_fun hfr hl hf fun h₁ hs₁=>iK (wpAny_entryPlaceOf fun pl hpl=>?_))
 unfold EntryCells.newEntry newFields
 refine iK (j6 ?_ (hpl.sizeOk5 _ _ _ _ _))
 have a₁:h₁.get? e=some oe:=(hs₁.2.1 e fun hm=>ne e hm rfl).trans he
 generalize hot:({ cls:=.type "traceback",dict:=none,data:=.fields ([head,.ref L,.none,rawInt L,.none]++(if pl.isEmpty then List.replicate 6 Value.none else pl)).toArray }:Obj)=ot
 have fr:ot.isFreed=false:=by rw [← hot];rfl
 obtain ⟨ts,hts,h3⟩:∃ ts:Array Value,ot.data=.fields ts∧3<ts.size:=by
  refine ⟨_,by rw [← hot],?_⟩
  simp only [jj,jd,jr,List.length_nil]
  omega
 have a₂:=iN (h:=h₁) ot a₁
 refine wpAny_setField a₂ hd hsz ?_
 have nT:h₁.objs.size≠e:=kg (iT a₁)
 have d₃:=Obj.data_mapFields hd (·.setIfInBounds 1 (Value.ref h₁.objs.size))
 have a₃:=Heap.get?_update_self (Obj.mapFields (·.setIfInBounds 1 (Value.ref h₁.objs.size))) a₂ (Obj.isFreed_of_fields d₃)
 have t₃:=(jU (h₁.push ot) (Obj.mapFields (·.setIfInBounds 1 (Value.ref h₁.objs.size))) (Ne.symm nT)).trans (i9 h₁ fr)
 unfold setFlight
 refine iK (jB a₃ d₃ (x:=.ref h₁.objs.size) (by simp [hsz]) ?_)
 rw [if_pos (show (Value.ref h₁.objs.size != Value.none)=true from by simp)]
 refine wpAny_setField t₃ hts h3 (h _ ?_)
 have old:∀ b o,b≠e→h₁.get? b=some o→(((h₁.push ot).update e (Obj.mapFields (·.setIfInBounds 1 (Value.ref h₁.objs.size)))).update h₁.objs.size (Obj.mapFields (·.setIfInBounds 3 Value.none))).get? b=some o:=fun b o hb q=>by
  rw [jU _ _ (kg (iT q)),jU _ _ (Ne.symm hb)]
  exact iN _ q
 have e₄:=(jU ((h₁.push ot).update e (Obj.mapFields (·.setIfInBounds 1 (Value.ref h₁.objs.size)))) (Obj.mapFields (·.setIfInBounds 3 Value.none)) nT).trans a₃
 have t₄:=Heap.get?_update_self (Obj.mapFields (·.setIfInBounds 3 Value.none)) t₃ (Obj.isFreed_of_fields (Obj.data_mapFields hts _))
 refine ⟨⟨_,h₁.objs.size,by rw [mapFields_eq hd] at e₄;exact e₄,by rw [Array.getElem?_setIfInBounds_ne (by decide)],?_,by simp [hsz],nT,_,_,t₄,Obj.data_mapFields hts _,by simp [h3]⟩,fun b o nb _ hb q=>?_,fun b o nb _ hb q=>?_⟩
 ·exact Nat.le_of_eq hs₁.1.symm
 ·exact old b o nb ((hs₁.2.1 b hb).trans q)
 ·obtain ⟨sl,q₁⟩:=hs₁.2.2 b o q
  exact ⟨sl,old b _ nb q₁⟩
theorem noted_ok {tr:Option Addr} (hfr:A.frames=some (env::outer)) (hl:s.heap.FunFrames base (env::outer)) (hf:env.frame=some L)
  (he:s.heap.get? e=some oe) (hd:oe.data=.fields vs) (ht:Trail s.heap e vs tr) (h:∀ h',Noted (env::outer) e oe vs tr s.heap h'→Q () { s with heap:=h' }) :
  wpAny M A (noteFrame (.ref e) env) (fun _ s'=>wpAny M A (setFlight (.ref e) none) Q E s') E s:=by
 unfold noteFrame
 simp only [hf]
 cases tr with
 | none=>
  have ht:vs[1]?=some .none:=ht
  refine iK (jB he hd ht ?_)
  rw [if_neg (by decide)]
  exact entry_core hfr hl hf he hd (Array.getElem?_eq_some_iff.mp ht).1 h
 | some T=>
  obtain ⟨h1,nT,oT,ts,gT,dT,h3⟩:=ht
  refine iK (jB he hd h1 ?_)
  rw [if_pos (show (Value.ref T != Value.none)=true from by simp)]
  refine iK (jB gT dT h3 ?_)
  rw [if_neg (show ¬ ((Value.none == rawInt L)=true) from by simp [rawInt])]
  refine iK (wpAny_setField gT dT (Array.getElem?_eq_some_iff.mp h3).1 ?_)
  have oth:∀ b,b≠T→(s.heap.update T (Obj.mapFields (·.setIfInBounds 3 Value.none))).get? b=s.heap.get? b:=fun b hb=>jU _ _ (Ne.symm hb)
  have nr:∀ b o,s.heap.get? b=some o→(∀ ws,o.data≠.fields ws)→b≠T:=fun b o hb hn q=>by
   rw [q,gT] at hb
   cases hb
   exact hn ts dT
  refine entry_core hfr (hl.of_keeps fun b o hb hn=>⟨o,(oth b (nr b o hb hn)).trans hb,rfl⟩) hf ((oth e (Ne.symm nT)).trans he) hd (Array.getElem?_eq_some_iff.mp h1).1 fun h' N=>h h' ⟨?_,?_,?_⟩
  ·obtain ⟨vs',T',q1,q2,q3,q4⟩:=N.exc
   exact ⟨vs',T',q1,q2,by rw [Heap.size_after_update] at q3;exact q3,q4⟩
  ·intro b o nb nt hb q
   exact N.keep b o nb (by intro z;cases z) hb ((oth b fun z=>nt (by rw [z])).trans q)
  ·intro b o nb nt hb q
   exact N.slot b o nb (by intro z;cases z) hb ((oth b fun z=>nt (by rw [z])).trans q)
theorem leaving_ok {tr:Option Addr} (hfr:A.frames=some (env::outer)) (hl:s.heap.FunFrames base (env::outer)) (hf:env.frame=some L)
  (he:s.heap.get? e=some oe) (hd:oe.data=.fields vs) (ht:Trail s.heap e vs tr) (h:∀ h',Noted (env::outer) e oe vs tr s.heap h'→Q () { s with heap:=h' }) :
  wpAny M A (leaving env (.ref e)) Q E s:=by
 unfold leaving
 exact iK (noted_ok hfr hl hf he hd ht h)
end
end L2
namespace L2
open PySem PySem.Spec PyProof.Rows
section
variable {P:Program} {w:World} {H:Hp} {h:Heap} {a:Addr} {o:HO}
theorem ObjOk.there (x:ObjOk P w H h a o):∃ ob,h.get? a=some ob:=by
 cases o with
 | lst xs=>obtain ⟨_,_,_,_,e⟩:=x;exact ⟨_,e⟩
 | tup xs=>obtain ⟨_,_,_,⟨_,e,_⟩⟩:=x;exact ⟨_,e⟩
 | dK kvs=>obtain ⟨_,_,_,_,o,_,_,e,_⟩:=x;exact ⟨_,e⟩
 | dT kvs=>obtain ⟨_,_,_,_,o,_,_,e,_⟩:=x;exact ⟨_,e⟩
 | set S n=>obtain ⟨o,_,_,_,e,_⟩:=x;exact ⟨_,e⟩
 | ins C dx fs=>obtain ⟨_,_,_,e,_⟩:=x;exact ⟨_,e⟩
 | own y=>exact x
 | xd fs=>obtain ⟨_,⟨_,_,_,e,_⟩,_⟩:=x;exact ⟨_,e⟩
 | rng lo hi=>obtain ⟨_,_,_,e⟩:=x;exact ⟨_,e⟩
 | frz ob u=>obtain ⟨e,_⟩:=x;exact ⟨_,e⟩
 | tbl ps=>exact ⟨_,(show h.get? a=some _ from x)⟩
 | met f y=>exact ⟨_,(show h.get? a=some _ from x)⟩
 | ext φ=>obtain ⟨_,e,_⟩:=x;exact e
theorem HOk.noObj (x:HOk P w H h) (e:h.get? a=none):H a=none:=by
 cases q:H a with
 | none=>rfl
 | some o=>
  obtain ⟨ob,z⟩:=(x a o q).there
  rw [e] at z
  cases z
end
section
variable {X:Cx} {pins:List (Addr × Obj)} {σ:St} {H H':Hp} {s s':Shared} {h':Heap}
noncomputable def Off (X:Cx) (pins:List (Addr × Obj)) (b:Addr):Prop:=
 X.s₀.heap.get? b=none∧b≠X.env.locals∧b ∉ X.fs∧(∀ x c,X.env.cells.lookup x=some c→c≠b)∧∀ p∈X.pn++pins,p.1≠b
theorem Inv.off {b:Addr} (I:Inv X pins σ H s) (hex:X.ex=[]) (hb:s.heap.get? b=none):Off X pins b:=by
 have no:∀ {c:Addr} {o:Obj},s.heap.get? c=some o→c≠b:=fun e z=>by rw [z,hb] at e;cases e
 refine ⟨?_,fun z=>?_,fun z=>?_,fun x c e=>?_,fun p hp=>no (I.pin p hp).1⟩
 ·cases q:X.s₀.heap.get? b with
  | none=>rfl
  | some o=>
   obtain ⟨o',e⟩:=I.base.there b o q (by rw [hex];simp)
   rw [hb] at e
   cases e
 ·obtain ⟨m,⟨o,_,_,e,_⟩,_⟩:=I.loc
  exact no e z.symm
 ·obtain ⟨_,o,e,_⟩:=I.funs.mem z
  exact no e rfl
 ·obtain ⟨v,o,q,_⟩:=I.cell x c e
  exact no q
theorem Inv.stepO {ch:List Addr} (I:Inv X pins σ H s) (hch:∀ b∈ch,Off X pins b)
  (keep:∀ b o,b≠X.env.locals→b ∉ X.fs→b ∉ ch→s.heap.get? b=some o→H b=none→h'.get? b=some o)
  (slot:∀ b o,b≠X.env.locals→b∈X.fs→b ∉ ch→s.heap.get? b=some o→H b=none→∃ sl,h'.get? b=some { o with slots:=sl }) (free:∀ b o,b ∉ ch→s.heap.get? b=some o→H b=none→H' b=none)
  (there:∀ b o,b ∉ ch→s.heap.get? b=some o→∃ o',h'.get? b=some o')
  (tups:∀ b xs,H b=some (.tup xs)→H' b=some (.tup xs)) (frzs:∀ b o u,H b=some (.frz o u)→H' b=some (.frz o u)) (tbls:∀ b ps,H b=some (.tbl ps)→∃ more,H' b=some (.tbl (ps++more)))
  (ns:∀ m,s.heap.Ns X.env.locals m→h'.Ns X.env.locals m) (hok:HOk X.prog X.w H' h') :
  Inv X pins σ H' { s with heap:=h' }:=by
 have neL:∀ b o,X.s₀.heap.get? b=some o→b≠X.env.locals:=fun b o e=>jm (jg (iT e) I.ok.above)
 have neC:∀ b o,X.s₀.heap.get? b=some o→b ∉ ch:=fun b o e hb=>by rw [(hch b hb).1] at e;cases e
 have cellK:∀ x c,X.env.cells.lookup x=some c→∀ v,s.heap.IsCell c v→h'.IsCell c v:=fun x c e v ⟨o,ho,hd⟩=>by
  have nch:c ∉ ch:=fun z=>(hch c z).2.2.2.1 x c e rfl
  by_cases hc:c∈X.fs
  ·obtain ⟨sl,q⟩:=slot c o (I.cne x c e) hc nch ho (I.freeC x c e)
   exact ⟨_,q,hd⟩
  ·exact ⟨o,keep c o (I.cne x c e) hc nch ho (I.freeC x c e),hd⟩
 refine ⟨I.ok,I.os,I.bare,⟨fun b o e n hb hx=>?_,fun b o e n hb hx=>?_,fun b o e n hx=>?_,fun b o e hx=>?_,fun b xs e=>tups b xs (I.base.tups b xs e),fun b o xs e=>frzs b o xs (I.base.frzs b o xs e),fun b ps e=>?_⟩,?_,fun x c e=>?_,?_,fun x c e=>?_,fun p hp=>?_,hok,I.len⟩
 ·exact keep b o (neL b o e) hb (neC b o e) (I.base.keep b o e n hb hx) (I.base.free b o e n hx)
 ·obtain ⟨sl,e1⟩:=I.base.slot b o e n hb hx
  obtain ⟨sl',e2⟩:=slot b _ (neL b o e) hb (neC b o e) e1 (I.base.free b o e n hx)
  exact ⟨sl',e2⟩
 ·obtain ⟨o',e1⟩:=I.base.there b o e hx
  exact free b o' (neC b o e) e1 (I.base.free b o e n hx)
 ·obtain ⟨o',e1⟩:=I.base.there b o e hx
  exact there b o' (neC b o e) e1
 ·obtain ⟨m1,e1⟩:=I.base.tbls b ps e
  obtain ⟨m2,e2⟩:=tbls b _ e1
  exact ⟨m1++m2,by rw [e2,Array.append_assoc]⟩
 ·obtain ⟨m,hn,hl⟩:=I.loc
  refine ⟨m,ns m hn,fun i x v e1 e2 e3=>?_⟩
  obtain ⟨u,r,l⟩:=hl i x v e1 e2 e3
  refine ⟨u,r,?_⟩
  rcases l with l | ⟨k,c,e,z⟩
  ·exact .inl l
  ·exact .inr ⟨k,c,e,cellK x c e _ z⟩
 ·obtain ⟨v,z⟩:=I.cell x c e
  exact ⟨v,cellK x c e v z⟩
 ·obtain ⟨m,⟨o,_,_,ho,_⟩,_⟩:=I.loc
  exact free _ o (fun z=>(hch _ z).2.1 rfl) ho I.free
 ·obtain ⟨v,o,ho,hd⟩:=I.cell x c e
  exact free c o (fun z=>(hch c z).2.2.2.1 x c e rfl) ho (I.freeC x c e)
 ·obtain ⟨e,n,ne,nf,d⟩:=I.pin p hp
  have nch:p.1 ∉ ch:=fun z=>(hch p.1 z).2.2.2.2 p hp rfl
  exact ⟨keep p.1 p.2 ne nf nch e n,free p.1 p.2 nch e n,ne,nf,d⟩
theorem Inv.noted {e:Addr} {oe:Obj} {vs:Array Value} {tr:Option Addr} (I:Inv X pins σ H s) (hH:H e=none) (ho:Off X pins e) (ht:∀ T,tr=some T→H T=none∧Off X pins T)
  (N:Noted X.stack e oe vs tr s.heap h'):Inv X pins σ H { s with heap:=h' }:=by
 have any:∀ b o,b ∉ e::tr.toList→s.heap.get? b=some o→∃ sl,h'.get? b=some { o with slots:=sl }:=fun b o hb q=>by
  have n1:b≠e:=fun z=>hb (by rw [z];exact List.mem_cons_self)
  have n2:tr≠some b:=fun z=>hb (jn _ (by rw [z];simp))
  by_cases hs:b∈frs X.stack
  ·exact N.slot b o n1 n2 hs q
  ·exact ⟨o.slots,N.keep b o n1 n2 hs q⟩
 have kp:∀ b o,b≠X.env.locals→b ∉ X.fs→b ∉ e::tr.toList→s.heap.get? b=some o→h'.get? b=some o:=fun b o hL hb hc q=>
  N.keep b o (fun z=>hc (by rw [z];exact List.mem_cons_self)) (fun z=>hc (jn _ (by rw [z];simp))) (fun z=>(ja.mp (I.stkSub b z)).elim hL hb) q
 have offs:∀ b∈e::tr.toList,H b=none∧Off X pins b:=fun b hb=>by
  rcases ja.mp hb with z | z
  ·rw [z];exact ⟨hH,ho⟩
  ·exact ht b (by simpa using z)
 refine I.stepO (ch:=e::tr.toList) (fun b hb=>(offs b hb).2) (fun b o hL hb hc q _=>kp b o hL hb hc q) (fun b o _ _ hc q _=>any b o hc q) (fun _ _ _ _ n=>n)
  (fun b o hc q=>let ⟨_,z⟩:=any b o hc q;⟨_,z⟩) (fun _ _ q=>q) (fun _ _ _ q=>q) (fun b ps q=>⟨#[],by rw [q];simp⟩) (fun m hm=>?_) (fun b u q=>?_)
 ·obtain ⟨o,es,ep,g,r⟩:=hm
  obtain ⟨sl,g'⟩:=any _ o (fun z=>(offs _ z).2.2.1 rfl) g
  exact ⟨_,es,ep,g',r⟩
 ·refine (I.hok b u q).stay (fun c v hc g=>?_) (fun _ z=>z) fun _ _ z=>z
  have trk:H c≠none:=by
   rcases hc with z | z
   ·rw [z,q];simp
   ·rw [z];simp
  refine N.keep c v (fun z=>trk (by rw [z];exact hH)) (fun z=>trk (ht c z).1) (fun z=>trk (I.stkFree c z)) g
noncomputable def XFly (X:Cx) (pins:List (Addr × Obj)) (H:Hp) (h:Heap) (x:Addr) (cls:Value) (d:Option Addr):Prop:=
 H x=none∧Off X pins x∧∃ vs sl tr,h.get? x=some ⟨cls,d,.fields vs,sl⟩∧Trail h x vs tr∧∀ T,tr=some T→H T=none∧Off X pins T
noncomputable def XP (X:Cx) (pins:List (Addr × Obj)) (σ:St) (E:XK) (e:Value) (s':Shared):Prop:=∃ x cls d H',e=.ref x∧Inv X pins σ H' s'∧XFly X pins H' s'.heap x cls d∧E cls d H'
noncomputable def Fly (g:Heap) (H:Hp) (h:Heap) (x:Addr) (cls:Value) (d:Option Addr):Prop:=
 g.get? x=none∧H x=none∧∃ vs sl tr,h.get? x=some ⟨cls,d,.fields vs,sl⟩∧Trail h x vs tr∧∀ T,tr=some T→g.get? T=none∧H T=none
noncomputable def CX1 (P:Program) (w:World):CXT:=fun outer H s E e s'=>∃ x cls d H',e=.ref x∧s'.os=s.os∧AllBare s'.gens∧Un (frs outer) [] H H' s.heap s'.heap∧HOk P w H' s'.heap∧Fly s.heap H' s'.heap x cls d∧E cls d H'
theorem XP.of_call {E:XK} {e:Value} (hex:X.ex=[]) (I:Inv X pins σ H s) (h:CX1 X.prog X.w X.stack H s E e s'):XP X pins σ E e s':=by
 obtain ⟨x,cls,d,H',rfl,os,bare,un,hok,⟨f1,f2,vs,sl,tr,f3,f4,f5⟩,q⟩:=h
 exact ⟨x,cls,d,H',rfl,I.call' os un hok bare (fun b z=>absurd z (by simp)),⟨f2,I.off hex f1,vs,sl,tr,f3,f4,fun T z=>⟨(f5 T z).2,I.off hex (f5 T z).1⟩⟩,q⟩
end
section
variable {P:Program} {w:World} {K:PySem.W.Frag} {mg:Str→Option Value} {base:Heap} {N:List Str} {qual:Str} {scope:Scope} {f:Addr} {cd:Value} {A:Around} {outer:List Env} {s₀:Shared} {H₀:Hp} {E:XK}
theorem xe_of {pins:List (Addr × Obj)} {σ:St} {e:Value} {s':Shared} (h:XP (aM (CX1 P w) P w K mg base N qual scope f cd A outer s₀ H₀ E) pins σ E e s') :
  (aM (CX1 P w) P w K mg base N qual scope f cd A outer s₀ H₀ E).xe e s':=by
 obtain ⟨x,cls,d,H',rfl,I,⟨f1,f2,vs,sl,tr,f3,f4,f5⟩,q⟩:=h
 refine leaving_ok (L:=s₀.heap.objs.size) I.ok.frames I.stack rfl f3 rfl f4 fun h' Nt=>?_
 have J:=I.noted f1 f2 f5 Nt
 obtain ⟨vs',T,g1,_,g2,g3⟩:=Nt.exc
 refine ⟨x,cls,d,H',rfl,J.os,J.bare,J.base,J.hok,⟨f2.1,f1,vs',sl,some T,g1,g3,fun T' z=>?_⟩,q⟩
 cases z
 exact ⟨(I.off rfl (Heap.get?_none_of_le g2)).1,I.hok.fresh g2⟩
theorem pass1:c7 (CX1 P w) (aM (CX1 P w) P w K mg base N qual scope f cd A outer s₀ H₀ E) E:=fun _ _ _ _ _ _ I h=>xe_of (XP.of_call rfl I h)
theorem Fun.okX {x qual:Str} {st:Stmt} {f:Addr} {fd:FuncData} {N ps:List Str} {k:Nat} {sp:Sp} (F:Fun K x qual st f fd) (S:FnScope N ps (af st)) (len:∀ vs H Q E,sp vs H Q E→vs.length=ps.length)
  (hbody:∀ (cdv:Value) (A:Around) (outer:List Env) (s:Shared) (H:Hp) (vs:List V) (Q:VK) (E:XK),Room k (A.deeper (envOfC qual (af st) s.heap.objs.size f cdv))→sp vs H Q E→
   ∃ t,PSs (aM (CX1 P w) P w K mg base N qual (af st) f cdv A outer s H E) (ao st) t∧t { nx:=fun _ H'=>Q .non H',rt:=Q } (eJ N vs) H):FnOk P w K mg base (CX1 P w) (k+1) f fd ps sp:=by
 obtain ⟨oc,od,kV,doc,pm,an,cdv,ct,osl,rfl,lk,hcd⟩:=F.ex
 exact fn_of lk hcd S len fun A outer s H vs Q E hr hsp=>hbody cdv A outer s H vs Q E hr hsp
end
end L2
namespace L2
open PySem PySem.Spec PyProof.Rows
noncomputable abbrev bmV:List Value:=[.type "ValueError",.type "Exception",.type "BaseException",.type "object"]
section
variable {X:Cx} {E:XK}
noncomputable def XOut (X:Cx) (E:XK):Prop:=∀ pins σ e s',XP X pins σ E e s'→X.xe e s'
theorem xout1 {P:Program} {w:World} {K:PySem.W.Frag} {mg:Str→Option Value} {base:Heap} {N:List Str} {qual:Str} {scope:Scope} {f:Addr} {cd:Value} {A:Around} {outer:List Env} {s₀:Shared} {H₀:Hp} :
  XOut (aM (CX1 P w) P w K mg base N qual scope f cd A outer s₀ H₀ E) E:=fun _ _ _ _ h=>xe_of h
noncomputable def PX (X:Cx) (e:Expr) (t:XK→TE):Prop:=
 ∀ (pins:List (Addr × Obj)) (s:Shared) (σ:St) (H:Hp) (Q:VK) (E:XK),Inv X pins σ H s→t E σ H Q→wpAny (model X.prog X.w) X.A (eval e X.env) (EP X pins σ Q) (XP X pins σ E) s
noncomputable def PSX (X:Cx) (st:List Stmt) (t:XK→TS):Prop:=
 ∀ (pins:List (Addr × Obj)) (s:Shared) (σ:St) (H:Hp) (D:Ends) (E:XK),Inv X pins σ H s→t E D σ H→wpAny (model X.prog X.w) X.A (execs st X.env) (SP X pins D) (XP X pins σ E) s
variable {k:Nat} {f C:Addr} {fd:FuncData} {ps:List Str} {sp:Sp} {dvs:List V} {ds:List Value} {x m:Str} {p pos apos:Pos} {e o:Expr} {es:List Expr} {ta:TE} {t:TA}
theorem run_fnX {pins:List (Addr × Obj)} {σ:St} {H:Hp} {s:Shared} {Q:VK} {us:List Value} {vs:List V} (F:FnOk X.prog X.w X.K X.mg X.base (CX1 X.prog X.w) k f fd ps sp) (hr:Room k X.A) (hb:Binds X.K fd ps ds) (hd:Vals dvs ds) (hex:X.ex=[])
  (I:Inv X pins σ H s) (r:Vals vs us) (h:sp (vs++dvs) H Q E):wpAny (model X.prog X.w) X.A (call (.ref f) us) (EP X pins σ Q) (XP X pins σ E) s:=by
 have r2:Vals (vs++dvs) (us++ds):=r.append hd
 have hl:(us++ds).length=ps.length:=by rw [← r2.length];exact F.len _ _ _ _ h
 refine wpAny_call (codeAny_mono (F.run X.A X.stack s H ⟨us,[]⟩ (us++ds) (vs++dvs) Q E hr I.env0 (hb s us I.kIn hl) r2 h) fun r s' hq=>?_)
 cases r with
 | error e=>exact XP.of_call hex I hq
 | ok fl=>
  cases fl with
  | ret u=>exact I.after hq
  | next=>exact False.elim hq
  | brk=>exact False.elim hq
  | cont=>exact False.elim hq
theorem px_call (F:FnOk X.prog X.w X.K X.mg X.base (CX1 X.prog X.w) k f fd ps sp) (hr:Room k X.A) (hg:Gl X x) (hm:X.mg x=some (.ref f)) (hk:PySem.W.keepIn X.K (.ref f)=true) (hb:Binds X.K fd ps ds) (hd:Vals dvs ds) (hex:X.ex=[])
  (ha:PA X.nox (e::es) t) (hdb:(x == ("__debug__":Str))=false:=by decide) (he:starEach (e::es) X.env=(false,eval e X.env)::starEach es X.env:=by rfl) (hpl:(backTo pos (starEach es X.env)).any (·.1)=false:=by rfl) :
  PX X (.Call (.Name x p) (e::es) [] pos) (fun E=>tCall sp dvs E t):=by
 intro pins s σ H Q E I h
 refine wpAny_Call_Name_kw (e7 I hg hm ?_ hdb)
 refine kc (h₀:=X.base) I.ok.mod.kin hk (jo (ha pos pins s σ H _ (I.wish _) h) (fun us s1 ⟨vs,H1,I1,r,q⟩=>⟨I1.kIn,?_⟩) fun _ _ z=>z.elim) he hpl
 exact run_fnX F hr hb hd hex I1.unwish r q
noncomputable def PSx (X:Cx) (st:Stmt) (t:XK→TS):Prop:=
 ∀ (pins:List (Addr × Obj)) (s:Shared) (σ:St) (H:Hp) (D:Ends) (E:XK),Inv X pins σ H s→t E D σ H→wpAny (model X.prog X.w) X.A (exec st X.env) (SP X pins D) (XP X pins σ E) s
theorem psx_expr {te:XK→TE} (he:PX X e te) (hs:swapsWith e none pos.line X.env=pure false:=by rfl):PSx X (.Expr e pos) (fun E=>tDrop (te E)):=by
 intro pins s σ H D E I h
 exact wpAny_Expr_any (thn (he pins s σ H _ E I h) fun v s1 ⟨x,H1,I1,r1,q1⟩=>⟨σ,H1,I1,q1⟩) I.quiet hs
theorem pssx_one {st:Stmt} {t:XK→TS} (h1:PSx X st t):PSX X [st] t:=by
 intro pins s σ H D E I h
 refine wpAny_execs_cons (thn (h1 pins s σ H D E I h) fun f s1 q=>?_)
 cases f with
 | next=>exact wpAny_execs_nil q
 | ret v=>exact q
 | brk=>exact q
 | cont=>exact q
end
section
variable {X:Cx}
noncomputable abbrev Cx.hnd (X:Cx) (x:Addr):Cx:={ X with A:=X.A.mark (some (.ref x)),calm:=false,xe:=fun _ _=>False }
theorem Cx.Ok.hnd {x:Addr} (ok:X.Ok):(X.hnd x).Ok:=⟨ok.mod,ok.kind,ok.glob,ok.blt,ok.above,ok.inj,ok.has,ok.cab,(fun z=>nomatch z),ok.frames,ok.stk,ok.exf,ok.bs,ok.bsz,ok.noex,ok.exfs,ok.funs,ok.frf⟩
variable {pins:List (Addr × Obj)} {σ:St} {H:Hp} {s:Shared} {x:Addr}
theorem Inv.hnd (I:Inv X pins σ H s):Inv (X.hnd x) pins σ H s:=⟨I.ok.hnd,I.os,I.bare,I.base,I.loc,I.cell,I.free,I.freeC,I.pin,I.hok,I.len⟩
theorem Inv.unhnd (ok:X.Ok) (I:Inv (X.hnd x) pins σ H s):Inv X pins σ H s:=⟨ok,I.os,I.bare,I.base,I.loc,I.cell,I.free,I.freeC,I.pin,I.hok,I.len⟩
theorem SP.unhnd {D:Ends} {f:Flow} {s':Shared} (ok:X.Ok) (h:SP (X.hnd x) pins D f s'):SP X pins D f s':=by
 cases f with
 | next=>obtain ⟨σ',H',I,q⟩:=h;exact ⟨σ',H',I.unhnd ok,q⟩
 | brk=>obtain ⟨σ',H',I,q⟩:=h;exact ⟨σ',H',I.unhnd ok,q⟩
 | cont=>obtain ⟨σ',H',I,q⟩:=h;exact ⟨σ',H',I.unhnd ok,q⟩
 | ret u=>obtain ⟨v,σ',H',I,r,q⟩:=h;exact ⟨v,σ',H',I.unhnd ok,r,q⟩
noncomputable def XO (x C:Addr) (d:Option Addr):HO:=.ext fun h=>∃ vs sl,h.get? x=some ⟨.ref C,d,.fields vs,sl⟩
theorem Inv.track {o:HO} (I:Inv X pins σ H s) (hn:H x=none) (ho:Off X pins x) (new:ObjOk X.prog X.w (upd H x o) s.heap x o):Inv X pins σ (upd H x o) s:=by
 have ne:∀ b u,H b=some u→b≠x:=fun b u e z=>by rw [z,hn] at e;cases e
 have nx:∀ b,b≠x→H b=none→upd H x o b=none:=fun b hb e=>by rw [aj hb];exact e
 refine ⟨I.ok,I.os,I.bare,⟨I.base.keep,I.base.slot,fun b u e n hx=>nx b (fun z=>by rw [z,ho.1] at e;cases e) (I.base.free b u e n hx),I.base.there,fun b xs e=>?_,fun b u v e=>?_,fun b ps e=>?_⟩,
  I.loc,I.cell,nx _ (Ne.symm ho.2.1) I.free,fun y c e=>nx c (ho.2.2.2.1 y c e) (I.freeC y c e),fun p hp=>?_,fun b u e=>?_,I.len⟩
 ·have q:=I.base.tups b xs e
  rw [aj (ne b _ q)]
  exact q
 ·have q:=I.base.frzs b u v e
  rw [aj (ne b _ q)]
  exact q
 ·obtain ⟨more,q⟩:=I.base.tbls b ps e
  exact ⟨more,by rw [aj (ne b _ q)];exact q⟩
 ·obtain ⟨e,n,r⟩:=I.pin p hp
  exact ⟨e,nx p.1 (ho.2.2.2.2 p hp) n,r⟩
 ·by_cases hb:b=x
  ·subst hb
   rw [ad] at e
   cases e
   exact new
  ·rw [aj hb] at e
   exact (I.hok b u e).stay (fun _ _ _ q=>q) (fun c q=>by rw [aj (ne c _ q)];exact q) fun c xs q=>by rw [aj (ne c _ q)];exact q
theorem excMatches_K {K:PySem.W.Frag} {M:Model} {A:Around} {E:Value→Shared→Prop} {s:Shared} {e C C':Addr} {d:Option Addr} {dt:Data} {sl:Array (Option Value)} {b:Bool} {Q:Bool→Shared→Prop} (X:K.In s.heap) (he:s.heap.get? e=some ⟨.ref C,d,dt,sl⟩)
  (h1:PySem.W.instIn K (.ref C') (.type "tuple")=some false) {cd:ClassData} (h2:PySem.W.clsIn K C'=some cd) (h3:PySem.W.subIn K (.ref C') (.type "BaseException")=some true) (h4:PySem.W.subIn K (.ref C) (.ref C')=some b) (q:Q b s) :
  wpAny M A (excMatches (.ref e) (.ref C')) Q E s:=by
 have it:PySem.W.Looks M s.heap (isExcClass (.ref C')) true:=by
  unfold isExcClass
  refine PySem.W.Looks.andThen (a:=true) ?_ (PySem.W.looks_subIn X h3)
  unfold PySem.W.clsIn at h2
  split at h2
  ·rename_i ho
   intro A' Q' E' s' k q'
   unfold isType loadHead
   exact iK (wpAny_loadPart (k _ _ (X _ _ ho)) (iQ q'))
  ·cases h2
 have ty:PySem.W.Looks M s.heap (typeOf (.ref e)) (.ref C):=(PySem.W.Looks.ld he).andThen .now
 unfold excMatches
 refine iK ((PySem.W.looks_instIn X h1).here ?_)
 simp only [jZ,if_false]
 refine iK (iQ ?_)
 simp only [List.forIn_cons,List.forIn_nil]
 refine iK (iK ?_)
 refine iK (it.here ?_)
 simp only [Bool.not_true,jZ,if_false]
 refine iQ (iQ (iK (ty.here (iK (iK (iK ((PySem.W.looks_subIn X h4).here ?_)))))))
 cases b with
 | true=>exact iQ (iQ (iQ q))
 | false=>exact iQ (iQ (iQ q))
theorem flight_same {M:Model} {A:Around} {E:Value→Shared→Prop} {vs:Array Value} {T:Addr} {c:Value} {d:Option Addr} {sl:Array (Option Value)} {Q:Unit→Shared→Prop} (he:s.heap.get? x=some ⟨c,d,.fields vs,sl⟩) (ht:Trail s.heap x vs (some T)) (q:Q () s):wpAny M A (setFlight (.ref x) none) Q E s:=by
 obtain ⟨h1,_,oT,ts,gT,dT,h3⟩:=ht
 refine wpAny_setFlight_none he rfl h1 gT dT (Array.getElem?_eq_some_iff.mp h3).1 ?_
 rw [Heap.update_setField_same s.heap T oT ts 3 .none gT dT h3]
 exact q
theorem gO {M:Model} {A:Around} {E:Value→Shared→Prop} {i:Nat} {n:Str} {pos:Pos} {Q:Unit→Shared→Prop} (I:Inv X pins σ H s) (hN:X.N.Nodup) (hi:X.N[i]?=some n) (hk:X.env.scope.names.lookup n=some .local)
  (h:∀ s',Inv X pins (σ.set i none) H s'→Q () s'):wpAny M A (do bindName X.env n .none;unbindBehindTheSuite X.env n pos) Q E s:=by
 obtain ⟨m,hn,hl⟩:=id I.loc
 have hcls:(X.env.scope.kind == .class || (X.env.scope.kind == .module && X.env.locals != X.env.globals))=false:=by rw [I.ok.kind];rfl
 have hiσ:i < σ.length:=by rw [I.len];exact (iL.mp hi).1
 have cne:=I.cne
 obtain ⟨oL,_,_,hoL,_⟩:=id hn
 have neL:∀ b o,X.s₀.heap.get? b=some o→b≠X.env.locals:=fun b o e=>jm (jg (iT e) I.ok.above)
 refine wpAny_nameGoes_keeps hk hn hcls fun h' v hn' hs=>h _ ⟨I.ok,I.os,I.bare,⟨fun b o e n hb hx=>?_,fun b o e n hb hx=>?_,I.base.free,fun b o e hx=>?_,I.base.tups,I.base.frzs,I.base.tbls⟩,⟨_,hn',fun j y v' e1 e2 e3=>?_⟩,fun y c e=>?_,I.free,I.freeC,fun p hp=>?_,fun b u e=>?_,by simpa using I.len⟩
 ·exact (hs.2 b (neL b o e)).trans (I.base.keep b o e n hb hx)
 ·obtain ⟨sl,e1⟩:=I.base.slot b o e n hb hx
  exact ⟨sl,(hs.2 b (neL b o e)).trans e1⟩
 ·obtain ⟨o',e1⟩:=I.base.there b o e hx
  exact ⟨o',(hs.2 b (neL b o e)).trans e1⟩
 ·by_cases hj:j=i
  ·subst hj
   rw [List.getElem?_set_self hiσ] at e2
   cases e2
  ·rw [List.getElem?_set_ne (Ne.symm hj)] at e2
   obtain ⟨u',r',q⟩:=hl j y v' e1 e2 e3
   refine ⟨u',r',?_⟩
   rcases q with ⟨k,e⟩ | ⟨k,c,e,z⟩
   ·refine .inl ⟨k,?_⟩
    have:y≠n:=fun e=>hj (nodup_ix hN e1 (e ▸ hi))
    simp [this,e]
   ·exact .inr ⟨k,c,e,z.sameBut hs (cne y c e)⟩
 ·obtain ⟨w',z⟩:=I.cell y c e
  exact ⟨w',z.sameBut hs (cne y c e)⟩
 ·obtain ⟨e,n,ne,nf,d⟩:=I.pin p hp
  exact ⟨(hs.2 p.1 ne).trans e,n,ne,nf,d⟩
 ·refine (I.hok b u e).stay (fun c w' hc q=>(hs.2 c ?_).trans q) (fun _ q=>q) fun _ _ q=>q
  rintro rfl
  rcases hc with z | z
  ·rw [← z,I.free] at e;cases e
  ·rw [I.free] at z;cases z
noncomputable def XHeld (X:Cx) (pins:List (Addr × Obj)) (H:Hp) (h:Heap) (x:Addr) (cls:Value) (d:Option Addr):Prop:=
 H x=none∧Off X pins x∧∃ vs sl T,h.get? x=some ⟨cls,d,.fields vs,sl⟩∧Trail h x vs (some T)∧H T=none∧Off X pins T
noncomputable abbrev TH:=Ends→St→Value→Option Addr→Hp→Prop
noncomputable def PH (X:Cx) (hs:List ExceptHandler) (t:TH):Prop:=
 ∀ (pins:List (Addr × Obj)) (s:Shared) (σ:St) (H:Hp) (D:Ends) (x:Addr) (cls:Value) (d:Option Addr),Inv X pins σ H s→XHeld X pins H s.heap x cls d→t D σ cls d H→
  wpAny (model X.prog X.w) X.A (handleBy (.ref x) X.env hs) (SP X pins D) X.xe s
structure Catches (K:PySem.W.Frag) (C:Addr):Prop where
 tu:PySem.W.instIn K (.ref C) (.type "tuple")=some false
 cl:∃ cd,PySem.W.clsIn K C=some cd
 ex:PySem.W.subIn K (.ref C) (.type "BaseException")=some true
noncomputable def hNever:TH:=fun _ _ _ _ _=>False
theorem ph_never {hs:List ExceptHandler}:PH X hs hNever:=fun _ _ _ _ _ _ _ _ _ _ h=>h.elim
noncomputable def hAs (K:PySem.W.Frag) (C':Addr) (i:Nat) (t:TS) (tr:TH):TH:=fun D σ cls d H=>∃ C b,cls=.ref C∧PySem.W.subIn K (.ref C) (.ref C')=some b∧
 if b=true then ∀ x,H x=none→t { nx:=fun σ' H'=>D.nx (σ'.set i none) H',rt:=D.rt,bk:=fun σ' H'=>D.bk (σ'.set i none) H',ct:=fun σ' H'=>D.ct (σ'.set i none) H' } (σ.set i (some (.ref x))) (upd H x (XO x C d)) else tr D σ cls d H
theorem ph_as {y n:Str} {i:Nat} {C':Addr} {np pos:Pos} {b₀:Stmt} {suite:List Stmt} {rest:List ExceptHandler} {t:TS} {tr:TH} (hg:Gl X y) (hm:X.mg y=some (.ref C')) (hc:Catches X.K C') (hN:X.N.Nodup) (hi:X.N[i]?=some n) (hk:X.env.scope.names.lookup n=some .local)
  (hsu:∀ x,PSs (X.hnd x) (b₀ :: suite) t) (hr:PH X rest tr) (hd:(y == ("__debug__":Str))=false:=by decide):PH X (.ExceptHandler (some (.Name y np)) (some n) (b₀ :: suite) pos::rest) (hAs X.K C' i t tr):=by
 intro pins s σ H D x cls d I hx h
 obtain ⟨C,b,rfl,hsub,q⟩:=h
 obtain ⟨f1,f2,vs,sl,T,f3,f4,f5⟩:=id hx
 obtain ⟨cd,hcd⟩:=hc.cl
 refine wpAny_handleBy_cons (codeAny_handlers_test (e7 (X:=X.hnd x) I.hnd hg hm (excMatches_K I.kIn f3 hc.tu hcd hc.ex hsub ?_) hd)) (by intro z;cases z)
 cases b with
 | false=>exact hr pins s σ H D x _ d I hx q
 | true=>
  have J:Inv X pins σ (upd H x (XO x C d)) s:=I.track f1 f2 ⟨⟨vs,sl,f3⟩,⟨_,f3⟩,fun h1 h2 ⟨vs',sl',e⟩ k=>⟨vs',sl',k _ e⟩⟩
  refine codeAny_handlers_suite_as (flight_same f3 f4 (store_ok (v:=.ref x) J hN hi (.inl hk) rfl (fun s2 J2=>?_) (.inr hk)))
  refine jo (hsu x pins s2 _ _ _ J2.hnd (q x f1)) (fun f s3 z=>?_) fun _ _ z=>z.elim
  have z:=z.unhnd I.ok
  cases f with
  | next=>obtain ⟨σ',H',I',q'⟩:=z;exact gO I' hN hi hk fun s4 I4=>⟨_,H',I4,q'⟩
  | brk=>obtain ⟨σ',H',I',q'⟩:=z;exact gO I' hN hi hk fun s4 I4=>⟨_,H',I4,q'⟩
  | cont=>obtain ⟨σ',H',I',q'⟩:=z;exact gO I' hN hi hk fun s4 I4=>⟨_,H',I4,q'⟩
  | ret u=>obtain ⟨v,σ',H',I',r',q'⟩:=z;exact gO I' hN hi hk fun s4 I4=>⟨v,_,H',I4,r',q'⟩
noncomputable def tTry (tb:XK→TS) (th:TH):TS:=fun D σ H=>tb (fun cls d H'=>th D σ cls d H') D σ H
theorem ps_try {body:List Stmt} {h₀:ExceptHandler} {hs:List ExceptHandler} {pos:Pos} {tb:XK→TS} {th:TH} (hb:PSX X body tb) (hh:PH X (h₀ :: hs) th) (hex:X.ex=[]:=by rfl) (hstk:X.stack=X.env::X.outer:=by rfl) (hfr:X.env.frame=some X.env.locals:=by rfl) :
  PS X (.Try body (h₀ :: hs) [] [] pos) (tTry tb th):=by
 intro pins s σ H D I h
 refine wpAny_Try_except (jo (hb pins s σ H D _ I h) (fun f s1 q=>?_) fun e s1 q=>?_)
 ·cases f with
  | next=>exact wpAny_execs_nil q
  | ret v=>exact q
  | brk=>exact q
  | cont=>exact q
 ·obtain ⟨x,cls,d,H',rfl,I',⟨f1,f2,vs,sl,tr,f3,f4,f5⟩,q⟩:=q
  refine noted_ok (env:=X.env) (outer:=X.outer) (by rw [← hstk];exact I'.ok.frames) (by rw [← hstk];exact I'.stack) hfr f3 rfl f4 fun h' N=>?_
  have J:=I'.noted f1 f2 f5 (by rw [hstk];exact N)
  obtain ⟨vs',T,g1,_,g2,g3⟩:=N.exc
  exact hh pins _ σ H' D x cls d J ⟨f1,f2,vs',sl,T,g1,g3,I'.hok.fresh g2,I'.off hex (Heap.get?_none_of_le g2)⟩ q
end
end L2
namespace L2
open PySem PySem.Spec PyProof.Rows
noncomputable def FnB (P:Program) (w:World) (K:PySem.W.Frag) (mg:Str→Option Value) (base:Heap) (CX:CXT) (x:Str) (k:Nat) (ps:List Str) (sp:Sp):Prop:=
 ∃ f fd,mg x=some (.ref f)∧PySem.W.keepIn K (.ref f)=true∧Binds K fd ps []∧FnOk P w K mg base CX k f fd ps sp
noncomputable def MtB (P:Program) (w:World) (K:PySem.W.Frag) (mg:Str→Option Value) (base:Heap) (CX:CXT) (C:Addr) (m:Str) (k:Nat) (ps:List Str) (sp:Sp):Prop:=
 ∃ f fd,Meth K C m f∧Binds K fd ps []∧FnOk P w K mg base CX k f fd ps sp
noncomputable def MkB (P:Program) (w:World) (K:PySem.W.Frag) (mg:Str→Option Value) (base:Heap) (CX:CXT) (C:Addr) (k:Nat) (ps:List Str) (dvs:List V) (sp:Sp):Prop:=
 ∃ f fd ds,Mk K C f∧Binds K fd ps ds∧Vals dvs ds∧FnOk P w K mg base CX k f fd ps sp
section
variable {P:Program} {w:World} {K:PySem.W.Frag} {mg:Str→Option Value} {base:Heap} {CX:CXT} {x m:Str} {C:Addr} {k:Nat} {ps:List Str} {sp:Sp} {dvs:List V}
theorem FnB.imp {sp':Sp} (h:FnB P w K mg base CX x k ps sp) (i:∀ vs H Q E,sp' vs H Q E→sp vs H Q E):FnB P w K mg base CX x k ps sp':=by
 obtain ⟨f,fd,a,b,c,d⟩:=h
 exact ⟨f,fd,a,b,c,d.imp i⟩
end
section
variable {X:Cx} {CX:CXT} {k j:Nat} {C:Addr} {ps:List Str} {sp:Sp} {dvs:List V} {E:XK} {x m:Str} {p pos apos:Pos} {e o:Expr} {es:List Expr} {ta:TE} {t:TA}
theorem av (F:FnB X.prog X.w X.K X.mg X.base CX x k ps sp) (hr:Room j X.A) (hx:c7 CX X E) (ha:PA X (e::es) t) (hj:k≤j:=by decide) (hg:Gl X x:=by rfl) (hdb:(x == ("__debug__":Str))=false:=by decide)
  (he:starEach (e::es) X.env=(false,eval e X.env)::starEach es X.env:=by rfl) (hpl:(backTo pos (starEach es X.env)).any (·.1)=false:=by rfl):PE X (.Call (.Name x p) (e::es) [] pos) (tCall sp [] E t):=by
 obtain ⟨f,fd,a,b,c,d⟩:=F
 exact pe_call d (hr.mono hj) hg a b c .nil hx ha hdb he hpl
theorem pe_mk (F:MkB X.prog X.w X.K X.mg X.base CX C k ps dvs sp) (hr:Room j X.A) (hm:X.mg x=some (.ref C)) (hx:c7 CX X E) (ha:PA X (e::es) t) (hj:k+1≤j:=by decide) (hg:Gl X x:=by rfl) (hdb:(x == ("__debug__":Str))=false:=by decide)
  (he:starEach (e::es) X.env=(false,eval e X.env)::starEach es X.env:=by rfl) (hpl:(backTo pos (starEach es X.env)).any (·.1)=false:=by rfl):PE X (.Call (.Name x p) (e::es) [] pos) (tMake C sp dvs E t):=by
 obtain ⟨f,fd,ds,a,b,c,d⟩:=F
 exact pe_make a d (hr.mono hj) hg hm b c hx ha hdb he hpl
theorem px_fn (F:FnB X.prog X.w X.K X.mg X.base (CX1 X.prog X.w) x k ps sp) (hr:Room j X.A) (ha:PA X.nox (e::es) t) (hj:k≤j:=by decide) (hg:Gl X x:=by rfl) (hex:X.ex=[]:=by rfl) (hdb:(x == ("__debug__":Str))=false:=by decide)
  (he:starEach (e::es) X.env=(false,eval e X.env)::starEach es X.env:=by rfl) (hpl:(backTo pos (starEach es X.env)).any (·.1)=false:=by rfl):PX X (.Call (.Name x p) (e::es) [] pos) (fun E=>tCall sp [] E t):=by
 obtain ⟨f,fd,a,b,c,d⟩:=F
 exact px_call d (hr.mono hj) hg a b c .nil hex ha hdb he hpl
end
noncomputable def FDe (K:PySem.W.Frag) (mg:Str→Option Value) (x:Str) (st:Stmt) (ps:List Str):Prop:=∃ f fd,Fun K x x st f fd∧mg x=some (.ref f)∧Binds K fd ps []
noncomputable def MDe (K:PySem.W.Frag) (C:Addr) (x qual:Str) (st:Stmt) (ps:List Str):Prop:=∃ f fd,Fun K x qual st f fd∧Meth K C x f∧Binds K fd ps []
section
variable {P:Program} {w:World} {K:PySem.W.Frag} {mg:Str→Option Value} {base:Heap} {x qual:Str} {C:Addr} {st:Stmt} {N ps:List Str} {k:Nat} {sp:Sp}
theorem FDe.ok (F:FDe K mg x st ps) (S:FnScope N ps (af st)) (len:∀ vs H Q E,sp vs H Q E→vs.length=ps.length)
  (hbody:∀ (f:Addr) (cdv:Value) (A:Around) (outer:List Env) (s:Shared) (H:Hp) (vs:List V) (Q:VK) (E:XK),Room k (A.deeper (envOfC x (af st) s.heap.objs.size f cdv))→sp vs H Q E→
   ∃ t,PSs (aM CX0 P w K mg base N x (af st) f cdv A outer s H E).nox (ao st) t∧t { nx:=fun _ H'=>Q .non H',rt:=Q } (eJ N vs) H):FnB P w K mg base CX0 x (k+1) ps sp:=
 let ⟨f,fd,a,b,c⟩:=F
 ⟨f,fd,b,a.kp,c,a.ok S len (hbody f)⟩
theorem MDe.ok (F:MDe K C x qual st ps) (S:FnScope N ps (af st)) (len:∀ vs H Q E,sp vs H Q E→vs.length=ps.length)
  (hbody:∀ (f:Addr) (cdv:Value) (A:Around) (outer:List Env) (s:Shared) (H:Hp) (vs:List V) (Q:VK) (E:XK),Room k (A.deeper (envOfC qual (af st) s.heap.objs.size f cdv))→sp vs H Q E→
   ∃ t,PSs (aM CX0 P w K mg base N qual (af st) f cdv A outer s H E).nox (ao st) t∧t { nx:=fun _ H'=>Q .non H',rt:=Q } (eJ N vs) H):MtB P w K mg base CX0 C x (k+1) ps sp:=
 let ⟨f,fd,a,b,c⟩:=F
 ⟨f,fd,b,c,a.ok S len (hbody f)⟩
theorem FDe.okX (F:FDe K mg x st ps) (S:FnScope N ps (af st)) (len:∀ vs H Q E,sp vs H Q E→vs.length=ps.length)
  (hbody:∀ (f:Addr) (cdv:Value) (A:Around) (outer:List Env) (s:Shared) (H:Hp) (vs:List V) (Q:VK) (E:XK),Room k (A.deeper (envOfC x (af st) s.heap.objs.size f cdv))→sp vs H Q E→
   ∃ t,PSs (aM (CX1 P w) P w K mg base N x (af st) f cdv A outer s H E) (ao st) t∧t { nx:=fun _ H'=>Q .non H',rt:=Q } (eJ N vs) H):FnB P w K mg base (CX1 P w) x (k+1) ps sp:=
 let ⟨f,fd,a,b,c⟩:=F
 ⟨f,fd,b,a.kp,c,a.okX S len (hbody f)⟩
theorem MDe.okX (F:MDe K C x qual st ps) (S:FnScope N ps (af st)) (len:∀ vs H Q E,sp vs H Q E→vs.length=ps.length)
  (hbody:∀ (f:Addr) (cdv:Value) (A:Around) (outer:List Env) (s:Shared) (H:Hp) (vs:List V) (Q:VK) (E:XK),Room k (A.deeper (envOfC qual (af st) s.heap.objs.size f cdv))→sp vs H Q E→
   ∃ t,PSs (aM (CX1 P w) P w K mg base N qual (af st) f cdv A outer s H E) (ao st) t∧t { nx:=fun _ H'=>Q .non H',rt:=Q } (eJ N vs) H):MtB P w K mg base (CX1 P w) C x (k+1) ps sp:=
 let ⟨f,fd,a,b,c⟩:=F
 ⟨f,fd,b,c,a.okX S len (hbody f)⟩
end
noncomputable def FunG (K:PySem.W.Frag) (x qual:Str) (st:Stmt) (f:Addr) (fd:FuncData):Prop:=∃ (oc:Value) (od:Option Addr) (dV kV doc pm:Value) (an:Option Addr) (cdv ct:Value) (osl:Array (Option Value)),
  fd=PySem.W.fnOf x qual (au st) (ao st) (af st) dV kV doc pm an cdv ct∧K.lookup f=some ⟨oc,od,.func fd,osl⟩∧PySem.W.codeIn K cdv qual=true
structure FunD (K:PySem.W.Frag) (x qual:Str) (st:Stmt) (f:Addr) (fd:FuncData) (ds:Array Value):Prop where
 ex:∃ (oc:Value) (od:Option Addr) (T:Addr) (kV doc pm:Value) (an:Option Addr) (cdv ct:Value) (osl:Array (Option Value)) (o:Obj) (n:Nat),
  fd=PySem.W.fnOf x qual (au st) (ao st) (af st) (.ref T) kV doc pm an cdv ct∧K.lookup f=some ⟨oc,od,.func fd,osl⟩∧PySem.W.codeIn K cdv qual=true∧K.lookup T=some o∧o.data=.seq ds n
section
variable {P:Program} {w:World} {K:PySem.W.Frag} {mg:Str→Option Value} {base:Heap} {x qual:Str} {C:Addr} {st:Stmt} {f:Addr} {fd:FuncData} {ds:Array Value} {N ps:List Str} {k:Nat} {sp:Sp}
theorem FunD.gen (F:FunD K x qual st f fd ds):FunG K x qual st f fd:=by
 obtain ⟨oc,od,T,kV,doc,pm,an,cdv,ct,osl,_,_,e,l,c,_⟩:=F.ex
 exact ⟨oc,od,.ref T,kV,doc,pm,an,cdv,ct,osl,e,l,c⟩
theorem Fun.gen (F:Fun K x qual st f fd):FunG K x qual st f fd:=by
 obtain ⟨oc,od,kV,doc,pm,an,cdv,ct,osl,e,l,c⟩:=F.ex
 exact ⟨oc,od,.none,kV,doc,pm,an,cdv,ct,osl,e,l,c⟩
theorem FunD.binds {es:List Value} (F:FunD K x qual st f fd ds)
  (h:∀ (T:Addr) (kV doc pm:Value) (an:Option Addr) (cdv ct:Value) (us:List Value),(us++es).length=ps.length→∃ k,bindArgs (PySem.W.fnOf x qual (au st) (ao st) (af st) (.ref T) kV doc pm an cdv ct) ⟨us,[]⟩=seqItems? (.ref T) >>= k∧k (some ds)=pure (ps.zip (us++es))):Binds K fd ps es:=by
 obtain ⟨oc,od,T,kV,doc,pm,an,cdv,ct,osl,o,n,rfl,lk,hcd,lt,hd⟩:=F.ex
 intro s us KX hl
 obtain ⟨k,h1,h2⟩:=h T kV doc pm an cdv ct us hl
 exact PySem.W.binds_K KX rfl lt hd h1 h2
theorem funD_mk {T:Addr} {oc:Value} {od an:Option Addr} {osl:Array (Option Value)} {kV doc pm cdv ct:Value} {o:Obj} {n:Nat} (l:K.lookup f=some ⟨oc,od,.func (PySem.W.fnOf x qual (au st) (ao st) (af st) (.ref T) kV doc pm an cdv ct),osl⟩)
  (c:PySem.W.codeIn K cdv qual=true) (t:K.lookup T=some o) (hd:o.data=.seq ds n):FunD K x qual st f (PySem.W.fnOf x qual (au st) (ao st) (af st) (.ref T) kV doc pm an cdv ct) ds:=⟨⟨oc,od,T,kV,doc,pm,an,cdv,ct,osl,o,n,rfl,l,c,t,hd⟩⟩
theorem FunG.ok (F:FunG K x qual st f fd) (S:FnScope N ps (af st)) (len:∀ vs H Q E,sp vs H Q E→vs.length=ps.length)
  (hbody:∀ (cdv:Value) (A:Around) (outer:List Env) (s:Shared) (H:Hp) (vs:List V) (Q:VK) (E:XK),Room k (A.deeper (envOfC qual (af st) s.heap.objs.size f cdv))→sp vs H Q E→
   ∃ t,PSs (aM CX0 P w K mg base N qual (af st) f cdv A outer s H E).nox (ao st) t∧t { nx:=fun _ H'=>Q .non H',rt:=Q } (eJ N vs) H):FnOk P w K mg base CX0 (k+1) f fd ps sp:=by
 obtain ⟨oc,od,dV,kV,doc,pm,an,cdv,ct,osl,rfl,lk,hcd⟩:=F
 refine fn_of lk hcd S len fun A outer s H vs Q E hr hsp=>?_
 obtain ⟨t,h,q⟩:=hbody cdv A outer s H vs Q E hr hsp
 exact ⟨t,h.nox,q⟩
noncomputable def IDe (K:PySem.W.Frag) (C:Addr) (qual:Str) (st:Stmt) (ps:List Str) (dvss:List (List V)):Prop:=∃ f fd,FunG K "__init__" qual st f fd∧Mk K C f∧∀ dvs∈dvss,∃ es,Vals dvs es∧Binds K fd ps es
theorem IDe.ok {dvss:List (List V)} (F:IDe K C qual st ps dvss) (S:FnScope N ps (af st)) (len:∀ vs H Q E,sp vs H Q E→vs.length=ps.length)
  (hbody:∀ (f:Addr) (cdv:Value) (A:Around) (outer:List Env) (s:Shared) (H:Hp) (vs:List V) (Q:VK) (E:XK),Room k (A.deeper (envOfC qual (af st) s.heap.objs.size f cdv))→sp vs H Q E→
   ∃ t,PSs (aM CX0 P w K mg base N qual (af st) f cdv A outer s H E).nox (ao st) t∧t { nx:=fun _ H'=>Q .non H',rt:=Q } (eJ N vs) H):∀ dvs∈dvss,MkB P w K mg base CX0 C (k+1) ps dvs sp:=fun dvs hd=>
 let ⟨f,fd,a,b,c⟩:=F
 let ⟨es,v,d⟩:=c dvs hd
 ⟨f,fd,es,b,d,v,a.ok S len (hbody f)⟩
end
end L2
namespace L2
open PySem PySem.Spec PyProof.Rows PySem.W PySem.Calls
theorem weight_mem:∀ (ns:List Int) (n:Int),n∈ns→Builtin.Int.intBits n≤WData.weightAll (ns.map WData.int)
 | m::r,n,h=>by
  rw [jv]
  show Builtin.Int.intBits n≤WData.weight (.int m)+1+WData.weightAll (r.map WData.int)
  rcases ja.mp h with z | z
  ·subst z
   have:WData.weight (.int n)=Builtin.Int.intBits n:=by
    simp only [WData.weight,Builtin.Int.intBits]
   omega
  ·have:=weight_mem r n z
   omega
theorem bits_of_lay {ns:List Int} (h:WData.layableAll [WData.list (ns.map WData.int)]=true):∀ n∈ns,Builtin.Int.intBits n≤2 ^ 20:=fun n hn=>by
 have h1:(WData.list (ns.map WData.int)).layable=true:=by
  unfold WData.layableAll at h
  simpa using h
 have h2:=(layableW_iff.mp h1).2.2
 have h3:=weight_mem ns n hn
 exact i3 h3 h2
theorem walk_ofB {l:PySem.W.OpenLaw} {n k:Nat} {q:Program} {loose:List Str} {XP:(Str→Option Value)→Heap→Prop} {YP:World→Heap→Prop} {d:DefRec} {K:Params→PySem.W.Frag} {CX:World→CXT} {sp:World→Sp} {x:Str}
  (hn:l.most=some n) (hn2:n≤sizeLine) (hdf:d.params.defaults=[]) (hr:Room k callerA)
  (hY:∀ (w:World) (h:Heap),YP w h→(K w.params).In h)
  (F:∀ (w:World) (mg:Str→Option Value) (fa:Addr) (h:Heap),(K w.params).In h→h.Ns mainGlobals mg→mg d.name=some (.ref fa)→
   ∃ fd:FuncData,(∀ (s:Shared) (u:Value),BindsTo s fd ⟨[u],[]⟩ [(x,u)])∧
    ∀ base:Heap,(K w.params).In base→base.Ns mainGlobals mg→FnOk l.prog w (K w.params) mg base (CX w) k fa fd [x] (sp w))
  (hsp:∀ (w:World) (H:Hp) (a:Addr) (ns:List Int),ns.length≤n→(∀ i∈ns,Builtin.Int.intBits i≤2 ^ 20)→Only H→SqL (K w.params) H a (ns.map V.int)→sp w [.ref a] H (fun v _=>v=.bl true) fun _ _ _=>False)
  (hCX:∀ (w:World) (H:Hp) (s:Shared) (e:Value) (s':Shared),CX w [] H s (fun _ _ _=>False) e s'→False) :
  PySem.W.WalkO q loose XP YP l.row.toRowW d [] (fun f vs=>PySem.call f vs):=by
 intro w s₀ s₁ mg mb G Y fa o pm cd doc dV kV ho hd hcd hD hmg hg args vals as hpre hlay hrd hwl hlo
 obtain rfl:dV=.none:=Dflts.none hD hdf
 obtain rfl:kV=.none:=Dflts.noKw hD
 obtain ⟨a,vs,ns,rfl,rfl,hobj,hints,hlen⟩:=Att.script_of hn hpre hwl
 have hbits:=bits_of_lay hlay
 have KX:=hY w _ Y
 obtain ⟨fd,hb,hF⟩:=F w mg fa _ KX G.T.g hmg
 refine enter_call (codeAny_mono (law_call KX G.T.g G.T.b G.T.builtins G.T.nolimit hg hobj hints (i3 hlen hn2) hr hF hb (fun H hO hS=>hsp w H a ns hlen hbits hO hS) fun H e s'=>hCX w H s₁ e s') fun r s' hq=>?_)
 obtain ⟨rfl,h2,h3,h4⟩:=hq
 exact ⟨.inl ⟨.bool true,.bool true,[],rfl,fun _=>rfl,.bool true,Att.post_true l _,fun _=>⟨List.Pairwise.nil,fun _ hm=>(nomatch hm)⟩⟩,h2,h3,h4⟩
section
variable {X:Cx}
end
end L2
namespace L2
open PySem PySem.Spec PyProof.Rows
section
variable {prog:Program} {w:World} {A:Around} {E:Value→Shared→Prop} {s:Shared} {K:PySem.W.Frag} {x D:Addr} {ox:Obj} {od:Option Obj} {name:Str}
structure ExA (K:PySem.W.Frag) (D:Addr):Prop where
 ga:PySem.W.findIn K (.ref D) "__getattribute__"=some (some (.builtin "BaseException.__getattribute__"))
 gh:PySem.W.findIn K (.ref D) "__getattr__"=some none
 be:PySem.W.mroIn K D (.type "BaseException")=some true
 ca:PySem.W.findIn K (.ref D) "__class__"=some (some (.builtin "object.__class__"))
 gs:PySem.W.specialIn K (.builtin "object.__class__") "__get__"=some (some (.builtin "getset_descriptor.__get__"))
 tk:PySem.W.takesIn K (.builtin "object.__class__")=some true
 ob:PySem.W.mroIn K D (.type "object")=some true
 cl:∃ cd,PySem.W.clsIn K D=some cd
theorem exc_check {nameV:Value} {Q:Unit→Shared→Prop} (a:ExA K D) (X:K.In s.heap) (I:PySem.W.InstAt s.heap x ox D od) (hq:Q () s):wpAny (model prog w) A (checkBuiltinCall "BaseException.__getattribute__" ⟨[.ref x,nameV],[]⟩) Q E s:=by
 have hk:builtinKind "BaseException.__getattribute__"=some .slot:=by decide +kernel
 have hsplit:splitId "BaseException.__getattribute__"=some ("BaseException","__getattribute__"):=by decide +kernel
 have ha:=F.args_bexc_ga (.ref x) nameV
 have LI:PySem.W.Looks (model prog w) s.heap (isInstance (.ref x) (.type "BaseException")) true:=I.type.andThen (PySem.W.looks_mroIn X a.be)
 obtain ⟨hh,g,d,t,os⟩:=s
 simp only [checkBuiltinCall,hk,hsplit]
 refine iK (LI.at ?_)
 repeat (first | assumption | wp_step)
theorem exc_call_val {tk:Tok} {v:Value} {R:Result→Shared→Prop} (a:ExA K D) (X:K.In s.heap) (I:PySem.W.InstAt s.heap x ox D od) (hf:PySem.W.findObj K D od name=some (.value v)) (hq:R (.ok (.ret v)) s) :
  codeAny (model prog w) A (.call (.builtin "BaseException.__getattribute__") ⟨[.ref x,.str name tk],[]⟩) R s:=by
 refine codeAny_call_builtin F.excAttr_ValueError.ga.plain F.entry_bexc_ga (exc_check a X I ?_)
 have L0:=I.type (M:=model prog w)
 have L1:=PySem.W.looks_find (M:=model prog w) X I hf
 obtain ⟨hh,g,d,t,os⟩:=s
 refine iK (iQ ?_)
 refine iK (iQ ?_)
 refine iK (L0.at (iK (L1.at ?_)))
 exact iQ hq
theorem exc_call_cls {tk:Tok} {R:Result→Shared→Prop} (a:ExA K D) (X:K.In s.heap) (I:PySem.W.InstAt s.heap x ox D od) (hq:R (.ok (.ret (.ref D))) s) :
  codeAny (model prog w) A (.call (.builtin "BaseException.__getattribute__") ⟨[.ref x,.str "__class__" tk],[]⟩) R s:=by
 refine codeAny_call_builtin F.excAttr_ValueError.ga.plain F.entry_bexc_ga (exc_check a X I ?_)
 have hf:PySem.W.findObj K D od "__class__"=some (.bind (.builtin "getset_descriptor.__get__") (.builtin "object.__class__")):=by
  obtain ⟨cd,hc⟩:=a.cl
  unfold PySem.W.findObj
  rw [hc,Option.bind_some,a.ca,Option.bind_some]
  simp [a.gs,a.tk]
 have L0:=I.type (M:=model prog w)
 have L1:=PySem.W.looks_find (M:=model prog w) X I hf
 obtain ⟨hh,g,d,t,os⟩:=s
 refine iK (iQ ?_)
 refine iK (iQ ?_)
 refine iK (L0.at (iK (L1.at ?_)))
 refine iK (jW (wpAny_call (PySem.W.class_get (s:=⟨hh,g,d,t,os⟩) X I a.ob ?_)))
 exact iQ hq
theorem exc_by {tk:Tok} {fill expr:Bool} {v:Value} {Q:Value→Shared→Prop} (a:ExA K D) (X:K.In s.heap) (I:PySem.W.InstAt s.heap x ox D od) (hv:PySem.W.handedIn v=true)
  (h:∀ (A:Around) (R:Result→Shared→Prop),R (.ok (.ret v)) s→codeAny (model prog w) A (.call (.builtin "BaseException.__getattribute__") ⟨[.ref x,.str name tk],[]⟩) R s) (q:Q v s) :
  wpAny (model prog w) A (getAttrBy (.ref x) (.str name tk) fill expr) Q E s:=by
 have L0:=I.type (M:=model prog w)
 have L1:=PySem.W.looks_findIn (M:=model prog w) X a.ga
 have L2:=PySem.W.looks_findIn (M:=model prog w) X a.gh
 have f3:=F.excAttr_ValueError.ga.bind (.ref x)
 obtain ⟨hh,g,d,t,os⟩:=s
 unfold getAttrBy
 refine jW (iK (L0.at (iK (L1.at ?_))))
 have hx2:(Value.builtin "BaseException.__getattribute__" == Value.builtin "object.__getattribute__")=false:=by decide +kernel
 have hx0:(expr && onTheHeap (Value.builtin "BaseException.__getattribute__"))=false:=by cases expr <;> rfl
 dsimp only
 rw [hx2,Bool.and_false]
 simp only [jZ,if_false]
 unfold getAttrByItsOwn hookBefore callGetattribute boundAndCalled
 rw [hx0]
 simp only [jZ,if_false,onTheHeap,if_true]
 refine iK (L2.at ?_)
 refine iK (wpAny_attempt (jW ?_))
 rw [f3]
 refine iK (iQ ?_)
 refine wpAny_call (h _ _ ?_)
 exact PySem.W.handed_on hv q
theorem exc_cls {Q:Option Value→Shared→Prop} (a:ExA K D) (X:K.In s.heap) (I:PySem.W.InstAt s.heap x ox D od) (h:Q (some (.ref D)) { s with toks:=s.toks+1 }):wpAny (model prog w) A (getAttr? (.ref x) "__class__") Q E s:=by
 obtain ⟨hh,g,d,t,os⟩:=s
 unfold getAttr? getAttrBy?
 refine iK (wpAny_mkText (iK (wpAny_attempt ?_)))
 exact exc_by (s:=⟨hh,g,d,t+1,os⟩) a X I rfl (fun A R q=>exc_call_cls (s:=⟨hh,g,d,t+1,os⟩) a X I q) (iQ h)
theorem kitx_exc (a:ExA K D):PySem.W.KitX K (.ref x) (.ref D) (fun h=>∃ ox od,PySem.W.InstAt h x ox D od) where
 ty:=fun _ _ _ ⟨_,_,I⟩=>I.type
 it:=fun _ _ X _=>by
  obtain ⟨cdD,hcD⟩:=a.cl
  unfold PySem.W.clsIn at hcD
  split at hcD
  ·rename_i c' d' cd' sl' ho
   intro A' Q' E' s' k q
   unfold isType loadHead
   exact iK (wpAny_loadPart (k _ _ (X _ _ ho)) (iQ q))
  ·cases hcD
 ne:=fun h tp dd its n sl X htp=>by
  obtain ⟨cdD,hcD⟩:=a.cl
  refine Bool.eq_false_iff.mpr fun q=>?_
  have e:D=tp:=Value.ref.inj (beq_iff_eq.mp q)
  subst e
  unfold PySem.W.clsIn at hcD
  split at hcD
  ·rename_i c' d' cd' sl' ho
   have z:=(X _ _ ho).symm.trans htp
   cases z
  ·cases hcD
 ca:=fun X ⟨_,_,I⟩ k=>exc_cls a X I k
end
section
variable {X:Cx}
noncomputable def XAt (H:Hp) (x D:Addr):Prop:=H x=some (XO x D none)
noncomputable def eqVs:List V→List V→Bool
 | [],[]=>true
 | x::xs,y::ys=>eqV x y && eqVs xs ys
 | _,_=>false
theorem eqVs_len:∀ {xs ys:List V},xs.length≠ys.length→eqVs xs ys=false
 | [],[],h=>absurd rfl h
 | [],_::_,_=>rfl
 | _::_,[],_=>rfl
 | x::xs,y::ys,h=>by
  show (eqV x y && eqVs xs ys)=false
  rw [eqVs_len (fun z=>h (jy (· + 1) z)),Bool.and_false]
noncomputable def iI (xs ys:List V) (j:Nat):Bool:=match xs[j]?,ys[j]? with | some x,some y=>eqV x y | _,_=>true
theorem eqVs_all:∀ {xs ys:List V},xs.length=ys.length→(List.range xs.length).all (iI xs ys)=eqVs xs ys
 | [],[],_=>rfl
 | x::xs,y::ys,h=>by
  rw [jr,List.range_succ_eq_map,List.all_cons,List.all_map]
  show (eqV x y && _)=(eqV x y && eqVs xs ys)
  rw [← eqVs_all (Nat.succ.inj h)]
  rfl
theorem ii {xs:List V} {us:List Value} (r:Vals xs us):∀ {j:Nat} {x:V} {u:Value},xs[j]?=some x→us[j]?=some u→RelV x u:=by
 induction r with
 | nil=>intro j x u h;cases h
 | cons r1 _ ih=>
  intro j x u h1 h2
  cases j with
  | zero=>cases h1;cases h2;exact r1
  | succ j=>exact ih h1 h2
end
end L2
namespace L2
open PySem PySem.Spec PyProof.Rows
inductive ItMethD (P:Program) (w:World) (K:PySem.W.Frag) (mg:Str→Option Value) (base:Heap) (CX:CXT) (m:Str) (j:Nat) (E:XK) (t:TA) (σ:St) (Q:VK) (x:V) (H1:Hp):Prop
 | mk (a:_) (C:_) (dx:_) (fs:_) (k:_) (ps:_) (sp:_) (h1:x=.ref a) (h2:H1 a=some (.ins C dx fs)) (h3:fs.lookup m=none) (h4:Cls K C) (h5:k≤j) (h6:MtB P w K mg base CX C m k ps sp) (h7:t σ H1 fun vs H2=>sp ((.ref a::vs)++[]) H2 Q E):ItMethD P w K mg base CX m j E t σ Q x H1
noncomputable def tMethD (P:Program) (w:World) (K:PySem.W.Frag) (mg:Str→Option Value) (base:Heap) (CX:CXT) (m:Str) (j:Nat) (E:XK) (ta:TE) (t:TA):TE:=fun σ H Q=>ta σ H fun x H1=>ItMethD P w K mg base CX m j E t σ Q x H1
structure ClsRd (K:PySem.W.Frag) (C:Addr):Prop where
 rd:PySem.W.readsIn K C (.type "type")=true
 sg:PySem.W.specialIn K (.ref C) "__getattribute__"=some (some (.builtin "type.__getattribute__"))
noncomputable def CfB (P:Program) (w:World) (K:PySem.W.Frag) (mg:Str→Option Value) (base:Heap) (CX:CXT) (C:Addr) (m:Str) (k:Nat) (ps:List Str) (sp:Sp):Prop:=
 ∃ f fd,ClsRd K C∧PySem.W.findCls K (.ref C) (.type "type") m=some (.val (.ref f))∧PySem.W.keepIn K (.ref f)=true∧Binds K fd ps []∧FnOk P w K mg base CX k f fd ps sp
section
variable {X:Cx} {CX:CXT} {k j:Nat} {C:Addr} {ps:List Str} {sp:Sp} {E:XK} {x m:Str} {p pos apos:Pos} {e o:Expr} {es:List Expr} {ta:TE} {t:TA}
theorem hU {pl:Sem Bool} (he:PE X o ta) (hr:Room j X.A) (hx:c7 CX X E) (ha:PA X (e::es) t)
  (hst:starEach (e::es) X.env=(false,eval e X.env)::starEach es X.env:=by rfl) (hpl:(backTo pos (starEach es X.env)).any (·.1)=false:=by rfl)
  (ht:eval (.Call (.Attribute o m apos) (e::es) [] pos) X.env=(do
   let ov ← eval o X.env
   standAt apos.atName
   let (f,first) ← holding [ov] (getMethod ov m pl)
   callWith pos f first (backTo pos (starEach (e::es) X.env)) (backToKw pos (keywordEach [] X.env))):=by rfl):PE X (.Call (.Attribute o m apos) (e::es) [] pos) (tMethD X.prog X.w X.K X.mg X.base CX m j E ta t):=by
 intro pins s σ H Q I h
 refine j9 (pl:=pl) (thn (he pins s σ H _ I h) fun u s1 ⟨x,H1,I1,rx,a,C,dx,fs,k,ps,sp,ex,ea,l,c,hj,⟨f,fd,hm,hb,F⟩,q⟩=>?_) ht
 subst ex
 obtain rfl:u=Value.ref a:=rx
 refine gr I1 ea c hm l ?_
 refine kc (first:=[.ref a]) (h₀:=X.base) I.ok.mod.kin hm.kp (thn (ha pos pins s1 σ H1 _ I1 q) fun us s2 ⟨vs,H2,I2,r,q2⟩=>⟨I2.kIn,?_⟩) hst hpl
 exact run_fn (us:=.ref a::us) (vs:=.ref a::vs) F (hr.mono hj) hb .nil hx I2 (.cons rfl r) q2
theorem eD {pl:Sem Bool} (he:PE X o ta) (hr:Room j X.A) (hx:c7 CX X E)
  (ht:eval (.Call (.Attribute o m apos) [] [] pos) X.env=(do
   let ov ← eval o X.env
   standAt apos.atName
   let (f,first) ← holding [ov] (getMethod ov m pl)
   callWith pos f first (backTo pos (starEach [] X.env)) (backToKw pos (keywordEach [] X.env))):=by rfl):PE X (.Call (.Attribute o m apos) [] [] pos) (tMethD X.prog X.w X.K X.mg X.base CX m j E ta tNil):=by
 intro pins s σ H Q I h
 refine j9 (pl:=pl) (thn (he pins s σ H _ I h) fun u s1 ⟨x,H1,I1,rx,a,C,dx,fs,k,ps,sp,ex,ea,l,c,hj,⟨f,fd,hm,hb,F⟩,q⟩=>?_) ht
 subst ex
 obtain rfl:u=Value.ref a:=rx
 refine gr I1 ea c hm l ?_
 exact PySem.W.callWith_K0 (first:=[.ref a]) I1.kIn hm.kp (run_fn (us:=[.ref a]) (vs:=[.ref a]) F (hr.mono hj) hb .nil hx I1 (.cons rfl .nil) q)
theorem pe_cf {np:Pos} {pl:Sem Bool} (F:CfB X.prog X.w X.K X.mg X.base CX C m k ps sp) (hr:Room j X.A) (hm:X.mg x=some (.ref C)) (hx:c7 CX X E) (ha:PA X (e::es) t) (hj:k≤j:=by decide) (hg:Gl X x:=by rfl) (hdb:(x == ("__debug__":Str))=false:=by decide)
  (hst:starEach (e::es) X.env=(false,eval e X.env)::starEach es X.env:=by rfl) (hpl:(backTo pos (starEach es X.env)).any (·.1)=false:=by rfl)
  (ht:eval (.Call (.Attribute (.Name x np) m apos) (e::es) [] pos) X.env=(do
   let ov ← eval (.Name x np) X.env
   standAt apos.atName
   let (f,first) ← holding [ov] (getMethod ov m pl)
   callWith pos f first (backTo pos (starEach (e::es) X.env)) (backToKw pos (keywordEach [] X.env))):=by rfl):PE X (.Call (.Attribute (.Name x np) m apos) (e::es) [] pos) (tCall sp [] E t):=by
 intro pins s σ H Q I h
 obtain ⟨f,fd,c,hf,hk,hb,F⟩:=F
 refine j9 (pl:=pl) (e7 I hg hm ?_ hdb) ht
 refine PySem.W.method_cls I.kIn c.sg (PySem.W.cls_value I.kIn c.rd hf rfl ?_)
 have I1:=I.tok (s.toks+1)
 refine kc (first:=[]) (h₀:=X.base) I.ok.mod.kin hk (thn (ha pos pins _ σ H _ I1 h) fun us s2 ⟨vs,H2,I2,r,q2⟩=>⟨I2.kIn,?_⟩) hst hpl
 exact run_fn (us:=us) (vs:=vs) F (hr.mono hj) hb .nil hx I2 r q2
noncomputable def rRepS:R2:=fun x y H Q=>∃ z n,x=.str z∧y=.int n∧z.length=1∧n.natAbs<1000∧Q (.str (Txt.mul z n)) H
theorem op_rep_str:OpR X (binaryOp .Mult) rRepS:=by
 intro pins s σ H x y v u Q I rx ry h
 obtain ⟨z,n,rfl,rfl,hz,hn,q⟩:=h
 obtain ⟨t,rfl⟩:=rx
 obtain ⟨t',rfl⟩:=ry
 refine SB.mul ⟨?_,fun h1 _=>?_,fun h1 _=>?_⟩ fun t' tk=>⟨.str _,H,I.tok _,⟨_,rfl⟩,q⟩
 ·simp;omega
 ·rw [hz]
  have:(1:Int)≤(2 ^ 63-1) / n:=Int.le_ediv_of_mul_le (by omega) (by omega)
  omega
 ·rw [hz]
  unfold Builtin.Str.tooLong
  simp only [jF,gt_iff_lt,decide_eq_false_iff_not]
  omega
end
section
variable {P:Program} {w:World} {K:PySem.W.Frag} {mg:Str→Option Value} {base:Heap} {x qual:Str} {C:Addr} {st:Stmt} {N ps:List Str} {k:Nat} {sp:Sp}
noncomputable def CDe (K:PySem.W.Frag) (C:Addr) (qual:Str) (st:Stmt) (ps:List Str):Prop:=∃ f fd,FunG K "__init__" qual st f fd∧ClsRd K C∧PySem.W.findCls K (.ref C) (.type "type") "__init__"=some (.val (.ref f))∧PySem.W.keepIn K (.ref f)=true∧Binds K fd ps []
theorem CDe.ok (F:CDe K C qual st ps) (S:FnScope N ps (af st)) (len:∀ vs H Q E,sp vs H Q E→vs.length=ps.length)
  (hbody:∀ (f:Addr) (cdv:Value) (A:Around) (outer:List Env) (s:Shared) (H:Hp) (vs:List V) (Q:VK) (E:XK),Room k (A.deeper (envOfC qual (af st) s.heap.objs.size f cdv))→sp vs H Q E→
   ∃ t,PSs (aM CX0 P w K mg base N qual (af st) f cdv A outer s H E).nox (ao st) t∧t { nx:=fun _ H'=>Q .non H',rt:=Q } (eJ N vs) H):CfB P w K mg base CX0 C "__init__" (k+1) ps sp:=
 let ⟨f,fd,a,b,c,d,e⟩:=F
 ⟨f,fd,b,c,d,e,a.ok S len (hbody f)⟩
end
end L2
namespace L2
open PySem PySem.Spec PyProof.Rows
section
variable {prog:Program} {w:World} {A:Around} {E:Value→Shared→Prop} {s:Shared}
theorem draw_list {it t:Addr} {items:Array Value} (hne:t≠it):∀ (n i:Nat) (s:Shared) (Q:List Value→Shared→Prop),s.heap.IsListIter it t i→s.heap.IsList t items→i+n≤items.size→
  (∀ h',h'.IsListIter it t (i+n)→Heap.SameBut it s.heap h'→Q ((items.toList.drop i).take n) { s with heap:=h' })→wpAny (model prog w) A (draw (.ref it) n) Q E s
 | 0,i,s,Q,hit,_,_,hQ=>by
  show wpAny _ _ (pure []) Q E s
  exact iQ (by simpa using hQ s.heap hit (Heap.SameBut.refl ..))
 | n+1,i,s,Q,hit,ht,hle,hQ=>by
  have hlt:i<items.size:=by omega
  show wpAny _ _ (pyNext (.ref it) >>= _) Q E s
  refine iK (wpAny_pyNext_list_item hit ht (x:=items[i]) (by simp [hlt]) fun h₁ hit₁ hs₁=>?_)
  refine iK (jW (draw_list hne n (i+1) _ _ hit₁ (ht.extBut hs₁.extBut hne) (by omega) fun h₂ hit₂ hs₂=>iQ ?_))
  have hd:items.toList.drop i=items[i]::items.toList.drop (i+1):=by simp [List.drop_eq_getElem_cons,hlt]
  have:=hQ h₂ (by rw [show i+(n+1)=i+1+n by omega];exact hit₂) (hs₁.trans hs₂)
  rw [hd,List.take_succ_cons] at this
  exact this
theorem unpackItems_list {t:Addr} {items:Array Value} {Q:List Value→Shared→Prop} (hh:A.handled=none) (ht:s.heap.IsList t items)
  (hQ:∀ h',Heap.ExtBut s.heap.objs.size s.heap h'→Q items.toList { s with heap:=h' }):wpAny (model prog w) A (unpackItems (.ref t) items.size none) Q E s:=by
 have hlt:t≠s.heap.objs.size:=by obtain ⟨o,ho,_⟩:=ht;exact jm (iT ho)
 unfold unpackItems
 refine iK ?_
 ·unfold notIterableAtAll
  refine iK (wpAny_specialOf ht.typeIs slot_list_iter.lookup ?_)
  refine iQ ?_
  simp only [jZ,if_false]
  refine iK (jW (wpAny_pyIter_list ht ?_))
  refine iK (jW (draw_list hlt items.size 0 _ _ ⟨_,i9 _ rfl,rfl,rfl⟩ (ht.push _) (by omega) fun h₁ hit₁ hs₁=>?_))
  have hall:List.take items.size (List.drop 0 items.toList)=items.toList:=by
   rw [List.drop_zero];exact List.take_of_length_le (by simp)
  rw [hall]
  rw [if_neg (by simp)]
  have ht₁:h₁.IsList t items:=(ht.push _).extBut hs₁.extBut hlt
  refine iK (jW (wpAny_pyNext_list_end hh hit₁ ht₁ (by simp) fun h₂ he₂=>?_))
  simp only [Option.isSome_none,jZ,if_false]
  refine iQ (hQ h₂ fun b o hb e=>he₂ b o hb (hs₁.extBut b o hb (iN _ e)))
theorem unpack_list {t:Addr} {items:Array Value} {targets:List (Bool × (Value→Sem Unit))} {Q:Unit→Shared→Prop} (hh:A.handled=none) (ht:s.heap.IsList t items)
  (hn:targets.length=items.size) (hstar:targets.findIdx? (·.1)=none)
  (h:∀ h',Heap.ExtBut s.heap.objs.size s.heap h'→wpAny (model prog w) A (assignInOrder (targets.map (·.2)) items.toList) Q E { s with heap:=h' }) :
  wpAny (model prog w) A (unpack (.ref t) targets) Q E s:=by
 unfold unpack
 rw [hn,hstar]
 exact iK (jW (unpackItems_list hh ht h))
end
section
variable {X:Cx} {pos:Pos}
noncomputable def gLst (K:PySem.W.Frag) (n:Nat) (t:TGs):TG:=fun v σ H Q=>∃ a xs,v=.ref a∧SqL K H a xs∧xs.length=n∧t xs σ H Q
theorem pg_lst {es:List Expr} {k:Nat} {t:TGs} {n:Nat} (hc:X.calm=true) (h:PGs X es t)
  (hn:(assignEach es X.env).length=n:=by rfl) (hst:(assignEach es X.env).findIdx? (·.1)=none:=by rfl):PG X (.Tuple es k pos) (gLst X.K n t):=by
 intro pins s σ H v u Q I r hw
 obtain ⟨a,xs,e1,hq,hl,hw⟩:=hw
 subst e1
 cases r
 obtain ⟨its,rv,ht,hz⟩:=I.list hq
 rw [assign_Tuple]
 refine iK (ki (unpack_list (I.ok.hd hc) ht.isList (by simp [hn,← hl,rv.length]) hst fun h' hx=>?_))
 have I1:Inv X pins σ H { s with heap:=h' }:=I.kept (t':=s.toks) fun b o e=>hx b o (jm (iT e)) e
 exact h pins _ σ H xs _ Q I1 (by simpa using rv) hw
end
end L2
namespace L2
open PySem PySem.Spec PyProof.Rows
noncomputable def ie (P:Program) (w:World) (K:PySem.W.Frag) (mg:Str→Option Value) (base:Heap) (qual:Str) (st:Stmt) (N:List Str) (k:Nat) (sp:Sp):Prop:=
 ∀ (f:Addr) (cdv:Value) (A:Around) (outer:List Env) (s:Shared) (H:Hp) (vs:List V) (Q:VK) (E:XK),Room k (A.deeper (envOfC qual (af st) s.heap.objs.size f cdv))→sp vs H Q E→
  ∃ t,PSs (aM CX0 P w K mg base N qual (af st) f cdv A outer s H E).nox (ao st) t∧t { nx:=fun _ H'=>Q .non H',rt:=Q } (eJ N vs) H
end L2
namespace L2
open PySem PySem.Spec PyProof.Rows
section
variable {prog:Program} {w:World} {A:Around} {E:Value→Shared→Prop} {h:Heap} {g:Array GenState} {d:Drawn} {t:Nat} {os:OsState}
variable {nm q:Str} {C N:Addr} {bs bm bmB:List Value} {hdct:Bool} {sn:List Str} {sub:List Value} {ab:Bool} {col:Option Bool} {dd:Option Addr} {k0 k1 k2 k3 k5:Option Value} {B newId initId:String}
theorem type_call_initT (F:ExcBaseFacts B newId initId bmB) (T:OwnTail h bmB bm) {mN:Str→Option Value} {rest:List Value} {fI:Addr} {oI:Obj} {Q:Fin→Shared→Prop}
  (hC:h.get? C=some (excClassObj nm q C N bs bm hdct sn sub ab col dd k0 k1 k2 k3 k5 newId)) (hn:h.Ns N mN) (hi:mN "__init__"=some (.ref fI))
  (hfI:h.get? fI=some oI) (hfc:oI.cls=.type "function")
  (hq:∀ h' e,Heap.MadeExcOf h h' e (.ref C) rest→
   wpAny (model prog w) A (call (.ref fI) (.ref e::rest)) (fun r s'=>r=.none∧Q (.done (.ret (.ref e))) s') E ⟨h',g,d,t,os⟩) (hrest:rest.length≤sizeLine:=by size_fits) :
  wpAny (model prog w) A (Builtin.«type.__call__» ⟨.ref C::rest,[]⟩) Q E ⟨h,g,d,t,os⟩:=by
 repeat (first | with_reducible refine wpAny_loadPart_at hC ?_ | with_reducible refine wpAny_madeBy_exc hC ?_ | wp_step)
 refine codeAny_call_builtin_code (Code.quiet_builtin _ F.quiet) (wpAny_check_new_subT F T hC ?_)
 refine codeAny_exc_new_subT F T hC ?_ hrest
 show wpAny _ _ _ _ _ _
 have hC₁:=iN { cls:=.ref C,data:=.fields #[.ref h.objs.size,.none,.none,.none,.bool false,.none] }
  (iN { cls:=.type "tuple",data:=.seq rest.toArray } hC)
 have hfI₁:=iN { cls:=.ref C,data:=.fields #[.ref h.objs.size,.none,.none,.none,.bool false,.none] }
  (iN { cls:=.type "tuple",data:=.seq rest.toArray } hfI)
 have hn₁:((h.push { cls:=.type "tuple",data:=.seq rest.toArray }).push { cls:=.ref C,data:=.fields #[.ref h.objs.size,.none,.none,.none,.bool false,.none] }).Ns N mN:=
  let ⟨o,es,ep,e,r⟩:=hn;⟨o,es,ep,iN _ (iN _ e),r⟩
 have hget:((h.push { cls:=.type "tuple",data:=.seq rest.toArray }).push
   { cls:=.ref C,data:=.fields #[.ref h.objs.size,.none,.none,.none,.bool false,.none] }).get? (h.objs.size+1)=some
   { cls:=.ref C,data:=.fields #[.ref h.objs.size,.none,.none,.none,.bool false,.none] }:=by heap_get
 have hcC:(Value.ref C::bm).contains (.ref C)=true:=by simp
 have T₁:=T.keeps (h':=(h.push { cls:=.type "tuple",data:=.seq rest.toArray }).push { cls:=.ref C,data:=.fields #[.ref h.objs.size,.none,.none,.none,.bool false,.none] })
  fun b o e=>iN _ (iN _ e)
 unfold isInstance
 repeat (first | with_reducible refine wpAny_loadPart_at hget ?_ | (with_reducible refine wpAny_isSubtype_exc hC₁ ?_;rw [hcC]) | wp_step)
 show wpAny _ _ (typeLookup (.ref C) _) _ _ _
 refine wpAny_typeLookup_tail hC₁ hn₁ T₁ F.mroIs F.init.lookup ?_
 rw [hi]
 refine jW (iK ?_)
 unfold bindSpecial
 refine iK (wpAny_typeOf (T:="function") ⟨_,hfI₁,hfc⟩ ?_)
 rw [if_pos (by decide)]
 refine iQ (iK (jo (hq _ (h.objs.size+1) ⟨fun b o hb=>iN _ (iN _ hb),Heap.get?_none_of_le (Nat.le_succ _),h.objs.size,hget,Heap.get?_none_of_le (iP _),?_⟩) (fun r s' hr=>?_) fun _ _ x=>x))
 ·exact iN _ (Heap.get?_push_at rfl rfl)
 ·obtain ⟨rfl,hQ⟩:=hr
  wp_walk
  exact hQ
theorem call_initT (F:ExcBaseFacts B newId initId bmB) (T:OwnTail h bmB bm) {mN:Str→Option Value} {rest:List Value} {fI:Addr} {oI:Obj} {Q:Value→Shared→Prop}
  (hC:h.get? C=some (excClassObj nm q C N bs bm hdct sn sub ab col dd k0 k1 k2 k3 k5 newId)) (hn:h.Ns N mN) (hi:mN "__init__"=some (.ref fI))
  (hfI:h.get? fI=some oI) (hfc:oI.cls=.type "function")
  (hq:∀ h' e,Heap.MadeExcOf h h' e (.ref C) rest→
   wpAny (model prog w) (A.under (.builtin "type.__call__" ⟨.ref C::rest,[]⟩)) (call (.ref fI) (.ref e::rest)) (fun r s'=>r=.none∧Q (.ref e) s') E ⟨h',g,d,t,os⟩) (hrest:rest.length≤sizeLine:=by size_fits) :
  wpAny (model prog w) A (call (.ref C) rest) Q E ⟨h,g,d,t,os⟩:=by
 have f1:=tc_lookup
 have f2:=tc_bind (.ref C)
 have hT:(⟨h,g,d,t,os⟩:Shared).TypeIs (.ref C) "type":=⟨_,hC,rfl⟩
 refine wpAny_call (codeAny_of_tree ?_)
 show wpAny _ _ (callAny (.ref C) _) _ _ _
 repeat (any_goals (first | assumption | with_reducible refine wpAny_loadPart_at hC ?_ | wp_step))
 refine ⟨rfl,?_⟩
 refine codeAny_call_builtin_at (Code.quiet_builtin _ (by decide +kernel)) entry_typeCall (wpAny_check_type_call_sub hC (type_call_initT (hrest:=hrest) F T hC hn hi hfI hfc fun h' e hm=>?_))
 exact hq h' e hm
end
end L2
namespace L2
open PySem PySem.Spec PyProof.Rows
open Builtin Builtin.ObjectAttr
section
theorem refuse_bmV (self:Value):refuseLoop self "__setattr__" bmV=pure ():=by kernel_rfl
structure ExI (K:PySem.W.Frag) (C:Addr):Prop where
 cl:∃ (cd:ClassData) (tl:List Addr),PySem.W.clsIn K C=some cd∧cd.mro=tl.map Value.ref++bmV∧cd.hasDict=true
 sa:PySem.W.findIn K (.ref C) "__setattr__"=some (some (.builtin "object.__setattr__"))
theorem refuse_tail (self:Value):∀ tl:List Addr,refuseLoop self "__setattr__" (tl.map Value.ref++bmV)=pure ()
 | []=>refuse_bmV self
 | a::tl=>by
  rw [jv,List.cons_append,refuseLoop_ref]
  exact refuse_tail self tl
variable {prog:Program} {w:World} {A:Around} {E:Value→Shared→Prop} {s:Shared} {K:PySem.W.Frag} {x C:Addr} {o:Obj} {od:Option Obj} {name:Str} {v:Value}
theorem exc_open {tk:Tok} {R:Result→Shared→Prop} (X:K.In s.heap) (I:PySem.W.InstAt s.heap x o C od) (F:ExI K C) (n:NoAttr K C name)
  (h:∀ b,wpAny (model prog w) A.in1 (storeInOwnDict (.ref x) (.ref C) (.str name tk) name v b)
   (fun fin s'=>match fin with | .done f=>R (.ok f) s' | .again c'=>c'.quiet=true∧codeAny (model prog w) A c' R s') (fun e s'=>R (.error e) s') s) :
  codeAny (model prog w) A (.call (.builtin "object.__setattr__") ⟨[.ref x,.str name tk,v],[]⟩) R s:=by
 have SF:=PySem.F.store_object
 obtain ⟨cd,tl,hc,hm,hd⟩:=F.cl
 have has:cd.mro.contains (.type "object")=true:=by rw [hm];simp
 have ne:cd.mro.isEmpty=false:=by rw [hm];simp
 have sub:PySem.W.Looks (model prog w) s.heap (isInstance (.ref x) (.type "object")) true:=I.type.andThen (PySem.W.looks_mroIn X (by unfold PySem.W.mroIn;rw [hc,Option.bind_some,if_neg (by rw [ne];decide),has]))
 refine codeAny_call_builtin SF.slot.plain SF.entry (@PySem.W.check_slot (model prog w) _ _ s "object.__setattr__" "object" "__setattr__" (.ref x) [.str name tk,v] [] _ SF.kind SF.split sub (SF.args (.ref x) (.str name tk) v) ?_)
 obtain ⟨attr,ha,hr⟩:=Option.bind_eq_some_iff.mp n.taker
 have hmr:PySem.W.Looks (model prog w) s.heap (mroOf (.ref C)) cd.mro:=(PySem.W.looks_clsIn X hc).andThen .now
 have L3:PySem.W.Looks (model prog w) s.heap (storeTaker? attr) none:=by
  cases attr with
  | none=>cases hr;exact .now
  | some a=>
   obtain ⟨b,hb,hr⟩:=Option.map_eq_some_iff.mp hr
   refine (PySem.W.looks_takesIn X hb).andThen ?_
   cases b with
   | true=>cases hr
   | false=>exact .now
 rw [PySem.W.osa_eq,refuse_eq]
 refine iK (iK (I.type.here (iK (hmr.here ?_))))
 rw [hm,refuse_tail]
 refine iQ (iK (I.type.here (iK ((PySem.W.looks_findIn X ha).here (iK (L3.here ?_))))))
 exact h _
theorem exc_set0 {Q:Unit→Shared→Prop} (X:K.In s.heap) (F:ExI K C) (n:NoAttr K C name) (hx:s.heap.get? x=some o) (hc:o.cls=.ref C) (hnc:∀ c,o.data≠.cls c) (hdn:o.dict=none)
  (hq:∀ h' tk',h'.get? x=some { cls:=o.cls,dict:=some s.heap.objs.size,data:=o.data,slots:=o.slots }→h'.Ns1 s.heap.objs.size (fun y=>if y=name then some v else none)→
   (∀ b ob,b≠x→s.heap.get? b=some ob→h'.get? b=some ob)→Q () { s with heap:=h',toks:=tk' }) :
  wpAny (model prog w) A (setAttr (.ref x) name v) Q E s:=by
 have hno:PySem.W.notCls o=true:=by
  unfold PySem.W.notCls
  split
  ·rename_i c e
   exact absurd e (hnc c)
  ·rfl
 have I:PySem.W.InstAt s.heap x o C none:=⟨hx,hc,hno,by rw [hdn];trivial⟩
 refine PySem.W.set_plain X I F.sa (exc_open (s:={ s with toks:=s.toks+1 }) X I F n fun b=>?_)
 obtain ⟨cd,tl,hcl,hm,hd⟩:=F.cl
 obtain ⟨h,g,d,t,os⟩:=s
 dsimp only at hx X hq
 have hx₁:(h.push { cls:=.type "dict",data:=.dict #[] }).get? x=some o:=iN _ hx
 have hxs:x≠h.objs.size:=jm (iT hx)
 unfold storeInOwnDict ownDictForStores instanceDict
 refine iK (iQ (iK (iK (wpAny_loadPart hx ?_))))
 rw [hc]
 refine iK ((PySem.W.looks_clsIn X hcl).at ?_)
 rw [hd,hdn]
 simp only [Bool.not_true,jZ,if_false]
 have hth:typeHasDict (.ref C)=true:=by simp [typeHasDict]
 rw [hth]
 simp only [Bool.not_true,Bool.or_self,jZ,if_false]
 refine iK (wpAny_alloc' (iK (wpAny_update' hx₁ (iQ ?_))))
 have hgd:((h.push { cls:=.type "dict",data:=.dict #[] }).update x fun o=>{ cls:=o.cls,dict:=some h.objs.size,data:=o.data,slots:=o.slots }).get? h.objs.size
   = some { cls:=.type "dict",data:=.dict #[] }:=
  (Heap.get?_update_ne _ _ _ _ hxs.symm).trans (Heap.get?_push_at rfl rfl)
 have hnd:((h.push { cls:=.type "dict",data:=.dict #[] }).update x fun o=>{ cls:=o.cls,dict:=some h.objs.size,data:=o.data,slots:=o.slots }).Ns h.objs.size (fun _=>none):=
  ⟨_,#[],_,hgd,rfl,fun e he=>absurd he (by simp),fun _=>rfl⟩
 show wpAny _ _ (storeInDict h.objs.size (.str name t) name v) _ _ _
 unfold storeInDict newKeyGuard
 refine iK (iQ (iK (wpAny_nsSet1 (Heap.Ns1.of_empty hnd) fun h' hn' hs=>?_)))
 obtain ⟨oD,esD,epD,hoD,hdD,hcD⟩:=hn'.count (Within.cons name v Within.nil)
 refine iK (wpAny_lookBehind hoD (by rw [hdD];exact pastItsLine_dict (i3 hcD (by rw [jr,List.length_nil,sizeLine_eq];omega))) ?_)
 refine iQ (hq h' _ ?_ hn' (fun b ob hbx hb=>?_))
 ·refine (hs.2 x hxs).trans (Heap.get?_update_self _ hx₁ ?_)
  have hfr:=(Heap.get?_some_iff.mp hx).2
  obtain ⟨oc,od,odt,osl⟩:=o
  cases odt <;> first | rfl | exact hfr
 ·exact (hs.2 b (jm (iT hb))).trans ((Heap.get?_update_ne _ _ _ _ hbx).trans (iN _ hb))
theorem exc_base_init {nm q:Str} {N:Addr} {bs bm bmB:List Value} {hdct:Bool} {sn:List Str} {sub:List Value} {ab:Bool} {col:Option Bool} {dd de:Option Addr} {k0 k1 k2 k3 k5:Option Value} {B newId initId:String} {e t0:Addr} {rest:List Value} {Q:Value→Shared→Prop}
  (F:ExcBaseFacts B newId initId bmB) (T:OwnTail s.heap bmB bm) (hC:s.heap.get? C=some (excClassObj nm q C N bs bm hdct sn sub ab col dd k0 k1 k2 k3 k5 newId)) (he:s.heap.get? e=some ⟨.ref C,de,.fields #[.ref t0,.none,.none,.none,.bool false,.none],#[]⟩)
  (hq:∀ h' t1,h'.get? e=some ⟨.ref C,de,.fields #[.ref t1,.none,.none,.none,.bool false,.none],#[]⟩→(∀ b ob,b≠e→s.heap.get? b=some ob→h'.get? b=some ob)→Q .none { s with heap:=h' }) (hrest:rest.length≤sizeLine) :
  wpAny (model prog w) A (call (.builtin initId) (.ref e::rest)) Q E s:=by
 obtain ⟨h,g,d,t,os⟩:=s
 dsimp only at hC he hq T
 refine wpAny_call (codeAny_call_builtin F.init.plain F.initEntry (wpAny_check_init_subT F T hC he rfl ?_))
 wp_walk
 refine hq _ h.objs.size ?_ fun b ob hb e=>?_
 ·rw [Heap.get?_update_self _ (iN _ he) rfl]
  rfl
 ·rw [jU _ _ (Ne.symm hb)]
  exact iN _ e
theorem hJ {M:Model} {env:Env} {nm q:Str} {N:Addr} {bs bm:List Value} {hdct:Bool} {sn:List Str} {sub:List Value} {ab:Bool} {col:Option Bool} {dd:Option Addr} {k0 k1 k2 k3 k5:Option Value} {newId:String} {y:Sem Value} {Q:Flow→Shared→Prop} (hbase:bm.contains (.type "BaseException")=true) (hh:A.handled=none)
  (h:wpAny M A y (fun v s₁=>∃ e t de,v=.ref e∧s₁.heap.get? C=some (excClassObj nm q C N bs bm hdct sn sub ab col dd k0 k1 k2 k3 k5 newId)∧
   s₁.heap.get? e=some ⟨.ref C,de,.fields #[.ref t,.none,.none,.none,.bool false,.none],#[]⟩∧E (.ref e) s₁) E s) :
  wpAny M A (raiseStmt env (some y) none) Q E s:=by
 have hcB:(Value.ref C::bm).contains (.type "BaseException")=true:=by rw [List.contains_cons,hbase,Bool.or_true]
 unfold raiseStmt
 refine iK (jo h (fun v s₁ h₁=>?_) fun _ _ x=>x)
 obtain ⟨e,t,de,rfl,hC,he,hE⟩:=h₁
 obtain ⟨hp,g,d,tk,os⟩:=s₁
 repeat (first | with_reducible refine wpAny_loadPart_at he ?_ | with_reducible refine wpAny_loadPart_at hC ?_ | (with_reducible refine wpAny_isSubtype_exc hC ?_;rw [hcB]) | wp_step)
 exact wpAny_raiseNew_none hh hE
noncomputable def excFI (K:PySem.W.Frag) (C:Addr) (bmB:List Value) (newId:String):Option Addr:=match K.lookup C with
 | some ⟨.type "type",_,.cls cd,sl⟩=>(match cd.mro,sl.toList with
  | .ref C'::bm,[_,_,_,_,some (.builtin n),_]=>if (C' == C && n == newId && !cd.hasDel && PySem.W.tailIn K bmB bm && PySem.W.nsOkIn K cd.ns)=true then (match PySem.W.nsIn K cd.ns "__init__" with | some (some (.ref f))=>some f | _=>none) else none
  | _,_=>none)
 | _=>none
theorem ns_of {h:Heap} {N:Addr} {mg:Str→Option Value} {n:Str} {v:Value} (X:K.In h) (G:h.Ns N mg) (e:PySem.W.nsIn K N n=some (some v)):mg n=some v:=by
 obtain ⟨o,es,ep,ho,hd,_,hf⟩:=G
 unfold PySem.W.nsIn at e
 split at e
 ·rename_i c d es' n' sl q
  have:=X _ _ q
  rw [ho] at this
  cases this
  cases hd
  split at e
  ·rename_i en he
   cases e
   rw [← hf]
   unfold nsFind findBy
   rw [← Array.find?_toList,he]
   rfl
  ·split at e <;> cases e
 ·cases e
theorem exc_objI {h:Heap} {bmB:List Value} {newId:String} {f:Addr} (X:K.In h) (q:excFI K C bmB newId=some f) :
  ∃ bm N nm qn bs hd sn sub ab col dd k0 k1 k2 k3 k5 mN,h.get? C=some (excClassObj nm qn C N bs bm hd sn sub ab col dd k0 k1 k2 k3 k5 newId)∧h.Ns N mN∧mN "__init__"=some (.ref f)∧OwnTail h bmB bm:=by
 unfold excFI at q
 split at q
 case h_2=>cases q
 case h_1 dd cd sl lk=>
  split at q
  case h_2=>cases q
  case h_1 C' bm k0 k1 k2 k3 n k5 hm hs=>
   split at q
   case isFalse=>cases q
   case isTrue hq=>
    simp only [j4,beq_iff_eq,Bool.not_eq_true'] at hq
    obtain ⟨⟨⟨⟨e1,e2⟩,hdel⟩,ht⟩,hok⟩:=hq
    subst e1 e2
    split at q
    case h_2=>cases q
    case h_1 f' hi=>
     cases q
     obtain ⟨nm,bs,mro,ns,qn,hd,sn,sub,ab,col,del⟩:=cd
     dsimp only at hm hdel hok hi
     subst hm hdel
     obtain ⟨l⟩:=sl
     have hs:l=_:=hs
     subst hs
     exact ⟨bm,ns,nm,qn,bs,hd,sn,sub,ab,col,dd,k0,k1,k2,k3,k5,_,X _ _ lk,.of_isNs (PySem.W.isNs_of_in X hok),ns_of X (.of_isNs (PySem.W.isNs_of_in X hok)) hi,PySem.W.tail_of_in X ht⟩
end
end L2
namespace L2
open PySem PySem.Spec PyProof.Rows
section
variable {prog:Program} {w:World} {A:Around} {E:Value→Shared→Prop} {s:Shared} {env:Env}
variable {nm q:Str} {C N:Addr} {bs bm bmB:List Value} {hdct:Bool} {sn:List Str} {sub:List Value} {ab:Bool} {col:Option Bool} {dd:Option Addr} {k0 k1 k2 k3 k5:Option Value} {B newId initId:String}
theorem Raise_call_initT (F:ExcBaseFacts B newId initId bmB) {mN:Str→Option Value} {fI:Addr} {oI:Obj} {x:Str} {np cpos pos:Pos} {args:List Expr} {Q:Flow→Shared→Prop}
  (hbase:bm.contains (.type "BaseException")=true) (hh:A.handled=none) (hplain:(backTo cpos (starEach args env)).any (·.1)=false) (hi:mN "__init__"=some (.ref fI)) (hfc:oI.cls=.type "function")
  (h:wpAny (model prog w) A (eval (.Name x np) env) (fun f s₁=>f=.ref C∧wpAny (model prog w) A (evalArgs (.ref C) true (backTo cpos (starEach args env)) [])
   (fun a s₂=>a.kw=[]∧a.pos.length≤sizeLine∧s₂.heap.get? C=some (excClassObj nm q C N bs bm hdct sn sub ab col dd k0 k1 k2 k3 k5 newId)∧s₂.heap.Ns N mN∧OwnTail s₂.heap bmB bm∧s₂.heap.get? fI=some oI∧
    ∀ h' e,Heap.MadeExcOf s₂.heap h' e (.ref C) a.pos→wpAny (model prog w) (A.under (.builtin "type.__call__" ⟨.ref C::a.pos,[]⟩)) (call (.ref fI) (.ref e::a.pos))
     (fun r s'=>r=.none∧(∃ t de,s'.heap.get? C=some (excClassObj nm q C N bs bm hdct sn sub ab col dd k0 k1 k2 k3 k5 newId)∧s'.heap.get? e=some ⟨.ref C,de,.fields #[.ref t,.none,.none,.none,.bool false,.none],#[]⟩)∧E (.ref e) s') E { s₂ with heap:=h' }) E s₁) E s) :
  wpAny (model prog w) A (exec (.Raise (some (.Call (.Name x np) args [] cpos)) none pos) env) Q E s:=by
 rw [arm_exec_Raise]
 first
  | refine iK (ki (hJ (C:=C) (nm:=nm) (q:=q) (N:=N) (bs:=bs) (bm:=bm) (hdct:=hdct) (sn:=sn) (sub:=sub) (ab:=ab) (col:=col) (dd:=dd) (k0:=k0) (k1:=k1) (k2:=k2) (k3:=k3) (k5:=k5) (newId:=newId) hbase hh (iK (jo (wpAny_Call_ofName (jo h (fun f s₁ h₁=>?_) fun _ _ x=>x)) (fun v s₃ h₃=>iK (ki (iQ h₃))) fun _ _ x=>x))))
  | (simp only [evalOpt,Option.map];refine iK (ki (hJ (C:=C) (nm:=nm) (q:=q) (N:=N) (bs:=bs) (bm:=bm) (hdct:=hdct) (sn:=sn) (sub:=sub) (ab:=ab) (col:=col) (dd:=dd) (k0:=k0) (k1:=k1) (k2:=k2) (k3:=k3) (k5:=k5) (newId:=newId) hbase hh (iK (jo (wpAny_Call_ofName (jo h (fun f s₁ h₁=>?_) fun _ _ x=>x)) (fun v s₃ h₃=>iK (ki (iQ h₃))) fun _ _ x=>x)))))
  | (refine iK (ki (hJ (C:=C) (nm:=nm) (q:=q) (N:=N) (bs:=bs) (bm:=bm) (hdct:=hdct) (sn:=sn) (sub:=sub) (ab:=ab) (col:=col) (dd:=dd) (k0:=k0) (k1:=k1) (k2:=k2) (k3:=k3) (k5:=k5) (newId:=newId) hbase hh ?_));refine iK (jo (wpAny_Call_ofName (jo h (fun f s₁ h₁=>?_) fun _ _ x=>x)) (fun v s₃ h₃=>iK (ki (iQ h₃))) fun _ _ x=>x))
 obtain ⟨rfl,h₁⟩:=h₁
 unfold callWith
 refine iK (jW (jo h₁ (fun a s₂ h₂=>iK (ki ?_)) fun _ _ x=>x))
 obtain ⟨apos,akw⟩:=a
 obtain ⟨hkw,hlen,hC,hn,T,hf,h₂⟩:=h₂
 obtain rfl:akw=[]:=hkw
 obtain ⟨hp,g,d,tk,os⟩:=s₂
 simp only [hplain]
 refine iK (wpAny_keeperOf_exc hC ?_)
 refine iK (call_initT (hrest:=hlen) F T hC hn hi hf hfc fun h' e hm=>jo (h₂ h' e hm) (fun r s' z=>?_) fun _ _ z=>z)
 obtain ⟨rfl,⟨t,de,g1,g2⟩,z⟩:=z
 exact ⟨rfl,iK (jW (wpAny_point (iQ ⟨e,t,de,rfl,g1,g2,z⟩)))⟩
end
noncomputable def XI (e C:Addr) (d:Option Addr):HO:=.ext fun h=>∃ t,h.get? e=some ⟨.ref C,d,.fields #[.ref t,.none,.none,.none,.bool false,.none],#[]⟩
noncomputable def del (H:Hp) (e:Addr):Hp:=fun b=>if b=e then none else H b
section
variable {X:Cx} {pins:List (Addr × Obj)} {σ:St} {H:Hp} {s:Shared} {x:Addr}
theorem XI.ok {P:Program} {w:World} {h:Heap} {C t:Addr} {d:Option Addr} (e:h.get? x=some ⟨.ref C,d,.fields #[.ref t,.none,.none,.none,.bool false,.none],#[]⟩):ObjOk P w H h x (XI x C d):=
 ⟨⟨t,e⟩,⟨_,e⟩,fun _ _ ⟨t',e'⟩ k=>⟨t',k _ e'⟩⟩
theorem Inv.forget {φ:Heap→Prop} (I:Inv X pins σ H s) (hx:H x=some (.ext φ)):Inv X pins σ (del H x) s:=by
 have nn:∀ b,H b=none→del H x b=none:=fun b e=>by unfold del;split;rfl;exact e
 have st:∀ b u,H b=some u→(∀ φ,u≠.ext φ)→del H x b=some u:=fun b u e ne=>by
  unfold del
  rw [if_neg]
  ·exact e
  ·rintro rfl
   rw [hx] at e
   cases e
   exact ne _ rfl
 refine ⟨I.ok,I.os,I.bare,⟨I.base.keep,I.base.slot,fun b u e n hx=>nn b (I.base.free b u e n hx),I.base.there,fun b xs e=>st b _ (I.base.tups b xs e) (by nofun),fun b u v e=>st b _ (I.base.frzs b u v e) (by nofun),fun b ps e=>?_⟩,
  I.loc,I.cell,nn _ I.free,fun y c e=>nn _ (I.freeC y c e),fun p hp=>?_,fun b u e=>?_,I.len⟩
 ·obtain ⟨more,q⟩:=I.base.tbls b ps e
  exact ⟨more,st b _ q (by nofun)⟩
 ·obtain ⟨e,n,r⟩:=I.pin p hp
  exact ⟨e,nn _ n,r⟩
 ·have e':H b=some u:=by
   unfold del at e
   split at e
   ·cases e
   ·exact e
  exact (I.hok b u e').stay (fun _ _ _ q=>q) (fun c q=>st c _ q (by nofun)) fun c xs q=>st c _ q (by nofun)
end
end L2
namespace L2
open PySem PySem.Spec PyProof.Rows
noncomputable def XiB (P:Program) (w:World) (K:PySem.W.Frag) (mg:Str→Option Value) (base:Heap) (C:Addr) (k:Nat) (ps:List Str) (sp:Sp):Prop:=
 ∃ f fd,excFI K C bmV "ValueError.__new__"=some f∧PySem.W.typeIn K (.ref f)=some (.type "function")∧Binds K fd ps []∧FnOk P w K mg base CX0 k f fd ps sp
section
variable {X:Cx} {E:XK}
noncomputable def tRaiseI (C:Addr) (sp:Sp) (E:XK) (t:TA):TS:=fun _ σ H=>t σ H fun vs H1=>vs.length≤sizeLine∧
 ∀ e,H1 e=none→sp ((.ref e::vs)++[]) (upd H1 e (XI e C none)) (fun v H2=>v=.non∧∃ d,H2 e=some (XI e C d)∧E (.ref C) d (del H2 e)) E0
theorem ps_raiseI {C:Addr} {x:Str} {np cpos pos:Pos} {e:Expr} {es:List Expr} {t:TA} {k j:Nat} {ps:List Str} {sp:Sp} (hxe:XOut X E) (hex:X.ex=[]) (hr:Room j X.A) (hg:Gl X x) (hm:X.mg x=some (.ref C))
  (O:XiB X.prog X.w X.K X.mg X.base C k ps sp) (ha:PA X (e::es) t) (hj:k+1≤j:=by decide) (he:starEach (e::es) X.env=(false,eval e X.env)::starEach es X.env:=by rfl) (hpl:(backTo cpos (starEach es X.env)).any (·.1)=false:=by rfl)
  (hd:(x == ("__debug__":Str))=false:=by decide):PS X (.Raise (some (.Call (.Name x np) (e::es) [] cpos)) none pos) (tRaiseI C sp E t):=by
 intro pins s σ H D I h
 obtain ⟨f,fd,hfi,hft,hb,F⟩:=O
 obtain ⟨bm,N,nm,qn,bs,hd',sn,sub,ab,col,dd,k0,k1,k2,k3,k5,mN,hC,hN,hi,T⟩:=exc_objI I.ok.mod.kin hfi
 obtain ⟨oI,hoI,hcI⟩:=Option.map_eq_some_iff.mp hft
 refine Raise_call_initT (C:=C) (nm:=nm) (q:=qn) (N:=N) (bs:=bs) (bm:=bm) (hdct:=hd') (sn:=sn) (sub:=sub) (ab:=ab) (col:=col) (dd:=dd) (k0:=k0) (k1:=k1) (k2:=k2) (k3:=k3) (k5:=k5)
  PySem.F.excBase_ValueError (mN:=mN) (fI:=f) (oI:=oI) (T.hasType rfl) hr.hd (by rw [he];show (false || (backTo cpos (starEach es X.env)).any (·.1))=false;rw [hpl];rfl) hi hcI (e7 I hg hm ⟨rfl,?_⟩ hd)
 have ha':=ha cpos pins s σ H _ I h
 rw [he] at ha' ⊢
 refine Calls.evalArgs_plain (thn ha' fun us s1 ⟨vs,H1,I1,r,hl,q⟩=>⟨rfl,by rw [← r.length];exact hl,I1.bk _ _ hC,hN.keeps I1.bk,T.keeps I1.bk,I1.bk _ _ (I.ok.mod.kin _ _ hoI),fun h' y hy=>?_⟩)
 obtain ⟨t',g1,_,_⟩:=hy.there
 have ny:=I1.hok.noObj hy.new
 have J:Inv X pins σ (upd H1 y (XI y C none)) { s1 with heap:=h' }:=(I1.kept (t':=s1.toks) hy.keeps).track ny (I1.off hex hy.new) (XI.ok g1)
 have hq:=q y ny
 have r2:Vals ((V.ref y::vs)++[]) ((Value.ref y::us)++[]):=Vals.append (.cons rfl r) .nil
 have hl2:((Value.ref y::us)++[]).length=ps.length:=by rw [← r2.length];exact F.len _ _ _ _ hq
 refine wpAny_call (codeAny_mono (F.run _ X.stack _ _ ⟨Value.ref y::us,[]⟩ _ _ _ E0 ((hr.mono hj).make C us []) (J.env0.make C us []) (hb _ (Value.ref y::us) J.kIn hl2) r2 hq) fun r s' hq'=>?_)
 cases r with
 | error e=>exact False.elim hq'
 | ok fl=>
  cases fl with
  | ret u=>
   obtain ⟨v,H',I3,rv,ev,d,hx,q3⟩:=J.after hq'
   subst ev
   obtain ⟨⟨t2,g2⟩,_⟩:=(show ObjOk X.prog X.w H' s'.heap y (XI y C d) from I3.hok y _ hx)
   refine ⟨rv,⟨t2,d,I3.bk _ _ hC,g2⟩,?_⟩
   refine hxe pins σ _ _ ⟨y,.ref C,d,del H' y,rfl,I3.forget hx,⟨by unfold del;rw [if_pos rfl],I1.off hex hy.new,_,_,none,g2,rfl,fun T z=>by cases z⟩,q3⟩
  | next=>exact False.elim hq'
  | brk=>exact False.elim hq'
  | cont=>exact False.elim hq'
end
end L2
namespace L2
open PySem PySem.Spec PyProof.Rows
section
variable {X:Cx} {e e1 e2 value:Expr} {es:List Expr} {pos apos np pos':Pos} {t:TA} {ta tv t1 t2:TE} {x f:Str} {G:Addr}
theorem upd_id {H:Hp} {a:Addr} {o:HO} (h:H a=some o):upd H a o=H:=by
 funext b
 by_cases hb:b=a
 ·subst hb
  rw [ad,h]
 ·rw [aj hb]
noncomputable def tBI (K:PySem.W.Frag) (t:TA):TE:=fun σ H Q=>t σ H fun vs H1=>∃ e C d rest f,vs=.ref e::rest∧H1 e=some (XI e C d)∧excFI K C bmV "ValueError.__new__"=some f∧rest.length≤sizeLine∧Q .non H1
theorem pe_binit {pl:Sem Bool} (cr:ClsRd X.K G) (hf:PySem.W.findCls X.K (.ref G) (.type "type") "__init__"=some (.val (.builtin "ValueError.__init__"))) (hm:X.mg x=some (.ref G)) (ha:PA X (e::es) t) (hg:Gl X x:=by rfl) (hdb:(x == ("__debug__":Str))=false:=by decide)
  (hst:starEach (e::es) X.env=(false,eval e X.env)::starEach es X.env:=by rfl) (hpl:(backTo pos (starEach es X.env)).any (·.1)=false:=by rfl)
  (ht:eval (.Call (.Attribute (.Name x np) "__init__" apos) (e::es) [] pos) X.env=(do
   let ov ← eval (.Name x np) X.env
   standAt apos.atName
   let (f,first) ← holding [ov] (getMethod ov "__init__" pl)
   callWith pos f first (backTo pos (starEach (e::es) X.env)) (backToKw pos (keywordEach [] X.env))):=by rfl):PE X (.Call (.Attribute (.Name x np) "__init__" apos) (e::es) [] pos) (tBI X.K t):=by
 intro pins s σ H Q I h
 refine j9 (pl:=pl) (e7 I hg hm ?_ hdb) ht
 refine PySem.W.method_cls I.kIn cr.sg (PySem.W.cls_value I.kIn cr.rd hf (by decide +kernel) ?_)
 have I1:=I.tok (s.toks+1)
 refine PyProof.Rows.callWith_builtin1 (thn (ha pos pins _ σ H _ I1 h) fun us s1 ⟨vs,H1,I2,r1,q1⟩=>?_) hst hpl
 obtain ⟨y,C,d,rest,fi,rfl,hy,hfi,hl,q⟩:=q1
 cases r1 with
 | cons r2 r3=>
  cases r2
  obtain ⟨bm,N,nm,qn,bs,hd',sn,sub,ab,col,dd,k0,k1,k2,k3,k5,mN,hC,hN,hi,T⟩:=exc_objI I2.kIn hfi
  obtain ⟨⟨t0,g0⟩,_⟩:=(show ObjOk X.prog X.w H1 s1.heap y (XI y C d) from I2.hok y _ hy)
  refine exc_base_init PySem.F.excBase_ValueError T hC g0 (fun h' t1 g1 kp=>?_) (by rw [← r3.length];exact hl)
  have J:=I2.write (t':=s1.toks) (x:=y) (e:=y) (o:=XI y C d) (by rw [hy];exact True.intro) (.inl rfl) kp ⟨_,g1⟩ (XI.ok g1)
  rw [upd_id hy] at J
  exact ⟨.non,H1,J,rfl,q⟩
noncomputable def tJ2 (t1 t2:TE):TE:=fun σ H Q=>t1 σ H fun x H1=>∃ a,x=.str a∧a.length≤sizeLine∧t2 σ H1 fun y H2=>∃ b,y=.str b∧a.length+b.length≤sizeLine∧Q (.str (a++b)) H2
theorem pe_j2 (h1:PE X e1 t1) (h2:PE X e2 t2):PE X (.JoinedStr [e1,e2] pos) (tJ2 t1 t2):=by
 intro pins s σ H Q I h
 refine JoinedStr_many (joinParts_cons (thn (h1 pins s σ H _ I h) fun u s1 ⟨x,H1,I1,rx,a,ex,ha,q⟩=>?_))
 subst ex
 obtain ⟨t,rfl⟩:=rx
 refine ⟨by rw [Str.empty_append];exact ha,joinParts_cons (thn (h2 pins s1 σ H1 _ I1 q) fun u s2 ⟨y,H2,I2,ry,b,ey,hb,q2⟩=>?_)⟩
 subst ey
 obtain ⟨t',rfl⟩:=ry
 have hl:((Str.empty++a)++b).length≤sizeLine:=by rw [Str.empty_append,strLen_append];exact hb
 refine ⟨hl,joinParts_nil ?_ hl⟩
 rw [Str.empty_append]
 exact ⟨.str _,H2,I2.tok _,⟨_,rfl⟩,q2⟩
noncomputable def tFv (tv:TE):TE:=fun σ H Q=>tv σ H fun x H1=>∃ z,x=.str z∧z.length≤sizeLine∧Q (.str z) H1
theorem pe_fv (h:PE X value tv):PE X (.FormattedValue value (-1) none pos) (tFv tv):=by
 intro pins s σ H Q I hq
 refine FormattedValue_plain (thn (h pins s σ H _ I hq) fun u s1 ⟨x,H1,I1,rx,z,ex,hz,q⟩=>?_)
 subst ex
 obtain ⟨t,rfl⟩:=rx
 exact formatField_str (fun t' tk=>⟨.str z,H1,I1.tok tk,⟨_,rfl⟩,q⟩) hz
noncomputable def sXf (K:PySem.W.Frag) (ta tv:TE) (f:Str):TS:=fun D σ H=>tv σ H fun y H1=>ta σ H1 fun x H2=>∃ a C,x=.ref a∧H2 a=some (XI a C none)∧ExI K C∧NoAttr K C f∧
 ∀ dx,H2 dx=none→D.nx σ (upd (upd H2 a (XI a C (some dx))) dx (.xd [(f,y)]))
theorem ps_xfld {o:Expr} (ha:PE X o ta) (hv:PE X value tv) (hs:swapsWith value (some (.Attribute o f pos')) pos.line X.env=pure false) (hex:X.ex=[]:=by rfl):PS X (.Assign [.Attribute o f pos'] value pos) (sXf X.K ta tv f):=by
 intro pins s σ H D I h
 refine plainObj_wpAny_Assign_Attribute (thn (hv pins s σ H _ I h) fun u s1 ⟨y,H1,I1,ry,q⟩=>thn (ha pins s1 σ H1 _ I1 q) fun ov s2 ⟨x,H2,I2,rx,a,C,ex,ea,c,n,q2⟩=>?_) hs
 subst ex
 obtain rfl:ov=Value.ref a:=rx
 obtain ⟨⟨t0,g0⟩,_⟩:=(show ObjOk X.prog X.w H2 s2.heap a (XI a C none) from I2.hok a _ ea)
 refine exc_set0 I2.kIn c n g0 rfl (by nofun) rfl fun h' tk' g1 ns kp=>?_
 have nd:H2 s2.heap.objs.size=none:=I2.hok.fresh (iP _)
 have ne:s2.heap.objs.size≠a:=fun z=>by rw [z,ea] at nd;cases nd
 have J:=I2.write (t':=tk') (x:=a) (e:=a) (o:=XI a C (some s2.heap.objs.size)) (by rw [ea];exact True.intro) (.inl rfl) kp ⟨_,g1⟩ (XI.ok g1)
 have J2:=J.track (x:=s2.heap.objs.size) (o:=.xd [(f,y)]) (by rw [aj ne];exact nd) (I2.off hex (Heap.get?_none_of_le (iP _))) ⟨_,ns,fun g=>?_⟩
 ·exact ⟨σ,_,J2,q2 _ nd⟩
 ·show RelO (List.lookup g [(f,y)]) (if g=f then some u else none)
  rw [j5]
  by_cases h:g=f
  ·rw [if_pos h,show (g == f)=true from beq_iff_eq.mpr h]
   exact ry
  ·rw [if_neg h,show (g == f)=false from jL.mpr h]
   exact True.intro
noncomputable def tXf (K:PySem.W.Frag) (ta:TE) (f:Str):TE:=fun σ H Q=>ta σ H fun x H1=>∃ a C dx fs v,x=.ref a∧H1 a=some (XO a C (some dx))∧H1 dx=some (.xd fs)∧ExA K C∧PySem.W.hasDictIn K C=true∧PySem.W.findIn K (.ref C) f=some none∧fs.lookup f=some v∧Q v H1
theorem pe_xfld (he:PE X e ta) (hb:attributeBase e f X.env (eval e X.env)=eval e X.env):PE X (.Attribute e f pos) (tXf X.K ta f):=by
 intro pins s σ H Q I h
 refine attr_of hb (thn (he pins s σ H _ I h) fun u s1 ⟨x,H1,I1,rx,a,C,dx,fs,v,ex,ea,ed,c,hd,nf,l,q⟩=>?_)
 subst ex
 obtain rfl:u=Value.ref a:=rx
 obtain ⟨⟨vs,sl,g0⟩,_⟩:=(show ObjOk X.prog X.w H1 s1.heap a (XO a C (some dx)) from I1.hok a _ ea)
 obtain ⟨mA,ns,rel⟩:=(show ObjOk X.prog X.w H1 s1.heap dx (.xd fs) from I1.hok dx _ ed)
 obtain ⟨od,ho,hl⟩:=lookIn_ns ns
 obtain ⟨u,hu,ru⟩:=RelO.some_of (v:=v) (o:=mA f) (by rw [← l];exact rel f)
 have J:PySem.W.InstAt s1.heap a ⟨.ref C,some dx,.fields vs,sl⟩ C (some od):=⟨g0,rfl,rfl,ho⟩
 have hfo:PySem.W.findObj X.K C (some od) f=some (.value u):=PySem.W.findObj_own hd nf rfl (by rw [hl,hu])
 obtain ⟨hh,gg,dd,tt,os⟩:=s1
 unfold getAttr
 refine iK (wpAny_mkText ?_)
 exact exc_by (s:=⟨hh,gg,dd,tt+1,os⟩) c I1.kIn J (handed_of ru) (fun A R q=>exc_call_val (s:=⟨hh,gg,dd,tt+1,os⟩) c I1.kIn J hfo q) ⟨v,H1,I1.tok _,ru,q⟩
noncomputable def XAtD (H:Hp) (x C:Addr) (fs:List (Str × V)):Prop:=∃ dx,H x=some (XO x C (some dx))∧H dx=some (.xd fs)
noncomputable def rIsXD (K:PySem.W.Frag) (c:Value):List V→Hp→VK→Prop:=fun vs H Q=>∃ x D y b fs,vs=[.ref x,y]∧(∀ u,RelV y u→u=c)∧XAtD H x D fs∧ExA K D∧PySem.W.kitOne K (.ref D) c=some b∧Q (.bl b) H
theorem call_isXD {c:Value}:gx X (.builtin "isinstance") (rIsXD X.K c):=by
 intro pins s σ H xs us Q I r h
 obtain ⟨x,D,y,b,fs,rfl,hc,⟨dx,hx,hd⟩,ea,e,q⟩:=h
 cases r with
 | cons r1 r2=>
  cases r2 with
  | cons r3 r4=>
   cases r4
   have:=hc _ r3
   subst this
   cases r1
   obtain ⟨⟨vs,sl,g⟩,_⟩:=(show ObjOk X.prog X.w H s.heap x (XO x D (some dx)) from I.hok x _ hx)
   obtain ⟨mA,ns,rel⟩:=(show ObjOk X.prog X.w H s.heap dx (.xd fs) from I.hok dx _ hd)
   obtain ⟨od,ho,hl⟩:=lookIn_ns ns
   exact jK (kitx_exc ea) I.kIn ⟨_,some od,g,rfl,rfl,ho⟩ e (fun z=>nomatch z) fun tk=>⟨.bl b,H,I.tok tk,rfl,q⟩
end
end L2
namespace L2
open PySem PySem.Spec PyProof.Rows
section
variable {P:Program} {w:World} {K:PySem.W.Frag} {mg:Str→Option Value} {base:Heap} {qual:Str} {C:Addr} {st:Stmt} {N ps:List Str} {k:Nat} {sp:Sp}
noncomputable def XiDe (K:PySem.W.Frag) (C:Addr) (qual:Str) (st:Stmt) (ps:List Str):Prop:=∃ f fd,FunG K "__init__" qual st f fd∧excFI K C bmV "ValueError.__new__"=some f∧PySem.W.typeIn K (.ref f)=some (.type "function")∧Binds K fd ps []
theorem XiDe.ok (F:XiDe K C qual st ps) (S:FnScope N ps (af st)) (len:∀ vs H Q E,sp vs H Q E→vs.length=ps.length) (hbody:ie P w K mg base qual st N k sp):XiB P w K mg base C (k+1) ps sp:=
 let ⟨f,fd,a,b,c,d⟩:=F
 ⟨f,fd,b,c,d,a.ok S len (hbody f)⟩
theorem XiDe.fi (F:XiDe K C qual st ps):∃ f,excFI K C bmV "ValueError.__new__"=some f:=by
 obtain ⟨f,_,_,b,_⟩:=F
 exact ⟨f,b⟩
end
end L2
namespace L2
open PySem PySem.Spec PyProof.Rows
section
variable {X:Cx}
theorem pe_gi {x:Str} {i:Int} {pos:Pos} (h:∃ tk,X.mg x=some (.int i tk)) (hg:Gl X x:=by rfl) (hd:(x == ("__debug__":Str))=false:=by decide):PE X (.Name x pos) (tC (.int i)):=by
 obtain ⟨tk,h⟩:=h
 exact iz hg h ⟨tk,rfl⟩ hd
noncomputable def rNeN (K:PySem.W.Frag):R2:=fun x y H Q=>∃ p q xs,x=.ref p∧y=.ref q∧SqL K H p xs∧SqL K H q []∧Q (.bl (!xs.isEmpty)) H
theorem op_neN (hu:X.A.units<cLine):OpR X (compareOp .NotEq) (rNeN X.K):=by
 intro pins s σ H x y v u Q I rx ry h
 obtain ⟨p,q,xs,rfl,rfl,hp,hq,k⟩:=h
 cases rx
 cases ry
 obtain ⟨us,r,pl,hz⟩:=I.list hp
 obtain ⟨ws,r',pl',hz'⟩:=I.list hq
 cases r'
 cases r with
 | nil=>exact SeqAt.RcNeAt.lists (e:=fun _=>true) pl.isList pl'.isList rfl hu (fun j h1 _=>absurd h1 (by simp)) X.prog X.w X.xe _ ⟨.bl false,H,I,rfl,k⟩
 | cons=>exact SeqAt.RcNeAt.lists_lengths pl.isList pl'.isList (by simp) hu X.prog X.w X.xe _ ⟨.bl true,H,I,rfl,k⟩
theorem pe_fldK {K:PySem.W.Frag} {o:Expr} {f:Str} {pos:Pos} {ta:TE} (hK:X.K=K) (h:PE X o ta) (hb:attributeBase o f X.env (eval o X.env)=eval o X.env):PE X (.Attribute o f pos) (tFld K ta f):=by
 subst hK
 exact a8 h hb
end
end L2
namespace L2
open PySem PySem.Spec PyProof.Rows
section
variable {κ:Type} [DecidableEq κ]
noncomputable def bc (kvs:List (κ × V)) (k:κ):Option V:=(kvs.find? fun kv=>decide (kv.1=k)).map (·.2)
noncomputable def bg (kvs:List (κ × V)) (k:κ) (v:V):List (κ × V):=
 if (kvs.any fun kv=>decide (kv.1=k))=true then kvs.map (fun kv=>if kv.1=k then (kv.1,v) else kv) else kvs++[(k,v)]
noncomputable def dC (kvs:List (κ × V)) (k:κ):List (κ × V):=kvs.filter fun kv=>decide (kv.1≠k)
theorem bD {p:κ × V} {r:List (κ × V)} {k:κ} (e:p.1=k):bc (p::r) k=some p.2:=by simp [bc,List.find?_cons,e]
theorem br {p:κ × V} {r:List (κ × V)} {k:κ} (e:¬ p.1=k):bc (p::r) k=bc r k:=by simp [bc,List.find?_cons,e]
theorem eG (k:κ):∀ kvs:List (κ × V),(kvs.any fun kv=>decide (kv.1=k))=(bc kvs k).isSome
 | []=>rfl
 | p::r=>by
  rw [List.any_cons]
  by_cases e:p.1=k
  ·simp only [bD e,iW e,Bool.true_or,Option.isSome_some]
  ·rw [br e,iX e,Bool.false_or];exact eG k r
theorem valV_map (k j:κ) (y:V):∀ kvs:List (κ × V),bc (kvs.map fun kv=>if kv.1=k then (kv.1,y) else kv) j=(bc kvs j).map fun x=>if j=k then y else x
 | []=>rfl
 | p::r=>by
  have ih:=valV_map k j y r
  rw [jv]
  by_cases h:p.1=k
  ·rw [if_pos h]
   by_cases e:p.1=j
   ·rw [bD (p:=(p.1,y)) e,bD e,jT,if_pos (e.symm.trans h)]
   ·rw [br (p:=(p.1,y)) e,br e,ih]
  ·rw [if_neg h]
   by_cases e:p.1=j
   ·rw [bD (p:=p) e,bD e,jT,if_neg (fun z=>h (e.trans z))]
   ·rw [br (p:=p) e,br e,ih]
theorem valV_snoc (k j:κ) (y:V):∀ kvs:List (κ × V),bc kvs k=none→bc (kvs++[(k,y)]) j=if j=k then some y else bc kvs j
 | [],_=>by
  by_cases e:k=j
  ·rw [if_pos e.symm];exact bD (p:=(k,y)) e
  ·rw [if_neg (fun z=>e z.symm)];exact br (p:=(k,y)) e
 | p::r,hn=>by
  rw [List.cons_append]
  have hk:¬ p.1=k:=fun z=>by rw [bD z] at hn;cases hn
  rw [br hk] at hn
  have ih:=valV_snoc k j y r hn
  by_cases e:p.1=j
  ·rw [bD e,bD e,if_neg (fun z=>hk (e.trans z))]
  ·rw [br e,br e,ih]
theorem valV_put (kvs:List (κ × V)) (k j:κ) (y:V):bc (bg kvs k y) j=if j=k then some y else bc kvs j:=by
 unfold bg
 by_cases a:(kvs.any fun kv=>decide (kv.1=k))=true
 ·rw [if_pos a,valV_map]
  rw [eG] at a
  by_cases e:j=k
  ·obtain ⟨x,hx⟩:=Option.isSome_iff_exists.mp a
   rw [if_pos e,e,hx,jT,if_pos rfl]
  ·rw [if_neg e]
   cases bc kvs j with
   | none=>rfl
   | some x=>rw [jT,if_neg e]
 ·rw [if_neg a]
  refine valV_snoc k j y kvs ?_
  rw [eG] at a
  cases q:bc kvs k with
  | none=>rfl
  | some x=>rw [q] at a;exact (a rfl).elim
theorem fG (kvs:List (κ × V)) (k:κ) (v:V):(bg kvs k v).length≤kvs.length+1:=by
 unfold bg
 split
 ·rw [iM];omega
 ·rw [jd,jr,List.length_nil];omega
theorem putK_new {kvs:List (κ × V)} {k:κ} (v:V) (h:bc kvs k=none):bg kvs k v=kvs++[(k,v)]:=by
 unfold bg
 rw [eG,h]
 exact if_neg (by decide)
theorem RelO.isSome_eq {o:Option V} {u:Option Value} (r:RelO o u):o.isSome=u.isSome:=by
 cases o with
 | none=>cases u with
  | none=>rfl
  | some _=>exact (show False from r).elim
 | some _=>cases u with
  | none=>exact (show False from r).elim
  | some _=>rfl
theorem RelO.getD {o:Option V} {u:Option Value} {d:V} {d':Value} (r:RelO o u) (rd:RelV d d'):RelV (o.getD d) (u.getD d'):=by
 cases o with
 | none=>cases u with
  | none=>exact rd
  | some _=>exact (show False from r).elim
 | some _=>cases u with
  | none=>exact (show False from r).elim
  | some _=>exact r
theorem KV.val {kvs:List (κ × V)} {vs:List (κ × Value)} (r:KV kvs vs) (k:κ):RelO (bc kvs k) (valueAt vs k):=by
 unfold KV at r
 induction r with
 | nil=>exact True.intro
 | @cons p q ps qs h t ih=>
  obtain ⟨h1,h2⟩:=h
  by_cases e:p.1=k
  ·have e':q.1=k:=h1.symm.trans e
   have b:valueAt (q::qs) k=some q.2:=by simp [valueAt,List.find?_cons,e']
   rw [bD e,b];exact h2
  ·have e':¬ q.1=k:=fun z=>e (h1.trans z)
   have b:valueAt (q::qs) k=valueAt qs k:=by simp [valueAt,List.find?_cons,e']
   rw [br e,b];exact ih
theorem KV.any {kvs:List (κ × V)} {vs:List (κ × Value)} (r:KV kvs vs) (k:κ):(kvs.any fun kv=>decide (kv.1=k))=vs.any fun kv=>decide (kv.1=k):=by
 unfold KV at r
 induction r with
 | nil=>rfl
 | cons h t ih=>rw [List.any_cons,List.any_cons,ih,h.1]
theorem KV.repl {kvs:List (κ × V)} {vs:List (κ × Value)} (r:KV kvs vs) (k:κ) {y:V} {u:Value} (ry:RelV y u) :
  KV (kvs.map fun kv=>if kv.1=k then (kv.1,y) else kv) (vs.map fun kv=>if kv.1=k then (kv.1,u) else kv):=by
 unfold KV at r ⊢
 induction r with
 | nil=>exact .nil
 | @cons p q ps qs h t ih=>
  rw [jv,jv]
  refine .cons ?_ ih
  obtain ⟨h1,h2⟩:=h
  by_cases e:p.1=k
  ·rw [if_pos e,if_pos (h1.symm.trans e)];exact ⟨h1,ry⟩
  ·rw [if_neg e,if_neg (fun z=>e (h1.trans z))];exact ⟨h1,h2⟩
theorem KV.put {kvs:List (κ × V)} {vs:List (κ × Value)} (r:KV kvs vs) (k:κ) {y:V} {u:Value} (ry:RelV y u):KV (bg kvs k y) (stored vs k u):=by
 unfold bg stored
 rw [r.any k]
 by_cases e:(vs.any fun kv=>decide (kv.1=k))=true
 ·rw [if_pos e,if_pos e];exact r.repl k ry
 ·rw [if_neg e,if_neg e];exact Paired.snoc r ⟨rfl,ry⟩
theorem KV.drop {kvs:List (κ × V)} {vs:List (κ × Value)} (r:KV kvs vs) (k:κ):KV (dC kvs k) (without vs k):=by
 unfold KV at r ⊢
 unfold dC without
 induction r with
 | nil=>exact .nil
 | @cons p q ps qs h t ih=>
  obtain ⟨h1,h2⟩:=h
  rw [List.filter_cons,List.filter_cons]
  by_cases e:p.1=k
  ·have a:¬ decide (p.1≠k)=true:=by simp [e]
   have b:¬ decide (q.1≠k)=true:=by simp [h1.symm.trans e]
   rw [if_neg a,if_neg b];exact ih
  ·have e':¬ q.1=k:=fun z=>e (h1.trans z)
   have a:decide (p.1≠k)=true:=by simp [e]
   have b:decide (q.1≠k)=true:=by simp [e']
   rw [if_pos a,if_pos b];exact .cons ⟨h1,h2⟩ ih
theorem KV.length {kvs:List (κ × V)} {vs:List (κ × Value)} (r:KV kvs vs):kvs.length=vs.length:=Paired.length r
theorem dropK_le (kvs:List (κ × V)) (k:κ):(dC kvs k).length≤kvs.length:=jC _ _
end
theorem kV_is {P:Program} {w:World} {k:Key} {u:Value} (r:RelV (kV k) u):(aY P w).is k u=true:=by
 cases k with
 | inl i=>obtain ⟨t,e⟩:=(show ∃ t,u=Value.int i t from r);subst e;exact mixKind_int P w i t
 | inr x=>obtain ⟨t,e⟩:=(show ∃ t,u=Value.str x t from r);subst e;exact mixKind_str P w x t
theorem kV_inj {a b:Key} (e:kV a=kV b):a=b:=by
 cases a with
 | inl i=>cases b with
  | inl j=>have e':V.int i=V.int j:=e;injection e' with e';rw [e']
  | inr y=>exact nomatch (show V.int i=V.str y from e)
 | inr x=>cases b with
  | inl j=>exact nomatch (show V.str x=V.int j from e)
  | inr y=>have e':V.str x=V.str y:=e;injection e' with e';rw [e']
theorem items_are {P:Program} {w:World}:∀ {ks:List Key} {us:List Value},Vals (ks.map kV) us→ItemsAre (aY P w) ks us
 | [],_,r=>by rw [List.map_nil] at r;cases r;exact .nil
 | k::ks,_,r=>by
  rw [jv] at r
  cases r with
  | cons h t=>exact .cons (kV_is h) (items_are t)
noncomputable abbrev KT (H:Hp):List (List Key × V)→List (List Key × Addr × Value)→Prop:=Paired fun p q=>p.1=q.1∧H q.2.1=some (.tup (p.1.map kV))∧RelV p.2 q.2.2
theorem KT.val {H:Hp} {kvs:List (List Key × V)} {xs:List (List Key × Addr × Value)} (r:KT H kvs xs) (k:List Key):RelO (bc kvs k) ((atKey xs k).map (·.2)):=by
 induction r with
 | nil=>exact True.intro
 | @cons p q ps qs h t ih=>
  obtain ⟨h1,_,h2⟩:=h
  by_cases e:p.1=k
  ·have e':q.1=k:=h1.symm.trans e
   have b:atKey (q::qs) k=some q.2:=by simp [atKey,List.find?_cons,e']
   rw [bD e,b];exact h2
  ·have e':¬ q.1=k:=fun z=>e (h1.trans z)
   have b:atKey (q::qs) k=atKey qs k:=by simp [atKey,List.find?_cons,e']
   rw [br e,b];exact ih
theorem KT.repl {H:Hp} {kvs:List (List Key × V)} {xs:List (List Key × Addr × Value)} (r:KT H kvs xs) (k:List Key) {y:V} {u:Value} (ry:RelV y u) :
  KT H (kvs.map fun kv=>if kv.1=k then (kv.1,y) else kv) (xs.map (putAt k u)):=by
 induction r with
 | nil=>exact .nil
 | @cons p q ps qs h t ih=>
  rw [jv,jv]
  refine .cons ?_ ih
  obtain ⟨h1,h2,h3⟩:=h
  unfold putAt
  by_cases e:p.1=k
  ·rw [if_pos e,if_pos (h1.symm.trans e)];exact ⟨h1,h2,ry⟩
  ·rw [if_neg e,if_neg (fun z=>e (h1.trans z))];exact ⟨h1,h2,h3⟩
theorem KT.put {H:Hp} {kvs:List (List Key × V)} {xs:List (List Key × Addr × Value)} (r:KT H kvs xs) (k:List Key) {b:Addr} {y:V} {u:Value} (hb:H b=some (.tup (k.map kV))) (ry:RelV y u) :
  KT H (bg kvs k y) (storedH xs k b u):=by
 have e:(kvs.any fun kv=>decide (kv.1=k))=(atKey xs k).isSome:=by
  rw [eG,(r.val k).isSome_eq,Option.isSome_map]
 unfold bg storedH
 rw [e]
 by_cases q:(atKey xs k).isSome=true
 ·rw [if_pos q,if_pos q];exact r.repl k ry
 ·rw [if_neg q,if_neg q];exact Paired.snoc r ⟨rfl,hb,ry⟩
theorem KT.keeps {H H':Hp} {kvs:List (List Key × V)} {xs:List (List Key × Addr × Value)} (r:KT H kvs xs) (ht:∀ b ys,H b=some (.tup ys)→H' b=some (.tup ys)):KT H' kvs xs:=
 Paired.mapP r fun _ _ z=>⟨z.1,ht _ _ z.2.1,z.2.2⟩
section
variable {P:Program} {w:World} {H:Hp} {h:Heap} {a:Addr}
theorem rd_of {u:HO} (ok:HOk P w H h) (e:Rd H a u):ObjOk P w H h a u:=e.ok ok
theorem gK {kvs:List (Key × V)} (ok:HOk P w H h) (e:Rd H a (.dK kvs)):kvs.length≤sizeLine∧(a == sysModules)=false∧∃ vs,KV kvs vs∧h.DictOf (aY P w) a vs:=
 show ObjOk P w H h a (.dK kvs) from rd_of ok e
theorem dk_of {kvs:List (Key × V)} (ok:HOk P w H h) (e:H a=some (.dK kvs)):kvs.length≤sizeLine∧(a == sysModules)=false∧∃ vs,KV kvs vs∧h.DictOf (aY P w) a vs:=gK ok (.inl e)
theorem key_of {ks:List Key} (ok:HOk P w H h) (e:H a=some (.tup (ks.map kV))):(tupleKind (aY P w)).is h ks a:=by
 obtain ⟨_,its,r,o,h1,h2,n,h3⟩:=(show ObjOk P w H h a (.tup (ks.map kV)) from ok a _ e)
 exact ⟨o,its.toArray,n,h1,h2,h3,by simpa using items_are r⟩
theorem dt_rd {kvs:List (List Key × V)} (ok:HOk P w H h) (e:Rd H a (.dT kvs)):kvs.length≤sizeLine∧(a == sysModules)=false∧
  ∃ xs,KT H kvs xs∧h.DictOfH (tupleKind (aY P w)) a xs:=by
 obtain ⟨z,y,xs,r,o,es,ep,h1,h2,h3,h4,h5⟩:=(show ObjOk P w H h a (.dT kvs) from rd_of ok e)
 refine ⟨z,y,xs,r,o,es,ep,h1,h2,h3,h4,fun x hx=>?_,h5⟩
 have all:∀ {l:List (List Key × V)} {m:List (List Key × Addr × Value)},KT H l m→∀ x∈m,(tupleKind (aY P w)).is h x.1 x.2.1:=by
  intro l m q
  induction q with
  | nil=>intro x hx;exact nomatch hx
  | @cons p q ps qs hq t ih=>
   intro x hx
   rcases ja.mp hx with e | hx
   ·subst e
    exact key_of ok (by rw [← hq.1];exact hq.2.1)
   ·exact ih x hx
 exact all r x hx
theorem dt_of {kvs:List (List Key × V)} (ok:HOk P w H h) (e:H a=some (.dT kvs)):kvs.length≤sizeLine∧(a == sysModules)=false∧
  ∃ xs,KT H kvs xs∧h.DictOfH (tupleKind (aY P w)) a xs:=dt_rd ok (.inl e)
end
noncomputable def DGet (H:Hp) (a:Addr) (y:V) (r:Option V):Prop:=
 (∃ kvs k,Rd H a (.dK kvs)∧y=kV k∧r=bc kvs k)∨∃ kvs k b,Rd H a (.dT kvs)∧y=.ref b∧H b=some (.tup (k.map kV))∧r=bc kvs k
noncomputable def DPut (H:Hp) (a:Addr) (y v:V) (H':Hp):Prop:=
 (∃ kvs k,H a=some (.dK kvs)∧y=kV k∧kvs.length<sizeLine∧H'=upd H a (.dK (bg kvs k v)))∨
 ∃ kvs k b,H a=some (.dT kvs)∧y=.ref b∧H b=some (.tup (k.map kV))∧kvs.length<sizeLine∧H'=upd H a (.dT (bg kvs k v))
theorem DGet.k {H:Hp} {a:Addr} {kvs:List (Key × V)} {k:Key} (e:H a=some (.dK kvs)):DGet H a (kV k) (bc kvs k):=.inl ⟨kvs,k,.inl e,rfl,rfl⟩
theorem DPut.k {H:Hp} {a:Addr} {kvs:List (Key × V)} {k:Key} {v:V} (e:H a=some (.dK kvs)) (hl:kvs.length<sizeLine):DPut H a (kV k) v (upd H a (.dK (bg kvs k v))):=.inl ⟨kvs,k,e,rfl,hl,rfl⟩
section
variable {X:Cx} {pins:List (Addr × Obj)} {σ:St} {H:Hp} {s:Shared} {a:Addr} {y v:V} {u r:Value} {o:Option V} {A:Around} {E:Value→Shared→Prop}
theorem Inv.big (I:Inv X pins σ H s):sysModules<s.heap.objs.size:=by
 have h:mainGlobals<s.heap.objs.size:=(I.mod.glob.keeps I.bk).lt
 exact Nat.lt_trans (by decide) h
theorem d_getItem {Q:Value→Shared→Prop} (hu:A.units+1<cLine) (I:Inv X pins σ H s) (g:DGet H a y (some v)) (ry:RelV y u) (h:∀ w' s',Inv X pins σ H s'→RelV v w'→Q w' s') :
  wpAny (model X.prog X.w) A (getItem (.ref a) u) Q E s:=by
 rcases g with ⟨kvs,k,e,ey,l⟩ | ⟨kvs,k,b,e,ey,eb,l⟩
 ·subst ey
  obtain ⟨z,hd,vs,rel,dd⟩:=gK I.hok e
  obtain ⟨w',hw,rw'⟩:=RelO.some_of (v:=v) (o:=valueAt vs k) (by rw [l];exact rel.val k)
  exact wpAny_getItem_of (kV_is ry) dd.mapOf hw (h w' _ (I.tok _) rw')
 ·subst ey
  cases (show u=Value.ref b from ry)
  obtain ⟨z,hd,xs,rel,dd⟩:=dt_rd I.hok e
  obtain ⟨w',hw,rw'⟩:=RelO.some_of (v:=v) (o:=(atKey xs k).map (·.2)) (by rw [l];exact rel.val k)
  obtain ⟨p,hp,hp2⟩:=Option.map_eq_some_iff.mp hw
  refine wpAny_getItem_heap (tupleKind_room_in1 hu) (key_of I.hok eb) dd hp ?_
  rw [hp2]
  exact h w' _ (I.tok _) rw'
theorem d_in {Q:Value→Shared→Prop} (hu:A.units+1<cLine) (I:Inv X pins σ H s) (g:DGet H a y o) (ry:RelV y u) (h:∀ s',Inv X pins σ H s'→Q (.bool o.isSome) s') :
  wpAny (model X.prog X.w) A (compareOp .In u (.ref a)) Q E s:=by
 rcases g with ⟨kvs,k,e,ey,l⟩ | ⟨kvs,k,b,e,ey,eb,l⟩
 ·subst ey
  obtain ⟨z,hd,vs,rel,dd⟩:=gK I.hok e
  refine wpAny_in_of (kV_is ry) hd dd.mapOf ?_
  rw [← (rel.val k).isSome_eq,← l]
  exact h _ (I.tok _)
 ·subst ey
  cases (show u=Value.ref b from ry)
  obtain ⟨z,hd,xs,rel,dd⟩:=dt_rd I.hok e
  refine wpAny_in_heap (tupleKind_room_in1 hu) (key_of I.hok eb) hd dd ?_
  have q:=(rel.val k).isSome_eq
  rw [Option.isSome_map] at q
  rw [← q,← l]
  exact h _ (I.tok _)
theorem d_notIn {Q:Value→Shared→Prop} (hu:A.units+1<cLine) (I:Inv X pins σ H s) (g:DGet H a y o) (ry:RelV y u) (h:∀ s',Inv X pins σ H s'→Q (.bool (!o.isSome)) s') :
  wpAny (model X.prog X.w) A (compareOp .NotIn u (.ref a)) Q E s:=by
 rcases g with ⟨kvs,k,e,ey,l⟩ | ⟨kvs,k,b,e,ey,eb,l⟩
 ·subst ey
  obtain ⟨z,hd,vs,rel,dd⟩:=gK I.hok e
  refine wpAny_notIn_of (kV_is ry) hd dd.mapOf ?_
  rw [← (rel.val k).isSome_eq,← l]
  exact h _ (I.tok _)
 ·subst ey
  cases (show u=Value.ref b from ry)
  obtain ⟨z,hd,xs,rel,dd⟩:=dt_rd I.hok e
  refine wpAny_notIn_heap (tupleKind_room_in1 hu) (key_of I.hok eb) hd dd ?_
  have q:=(rel.val k).isSome_eq
  rw [Option.isSome_map] at q
  rw [← q,← l]
  exact h _ (I.tok _)
theorem d_write {h':Heap} {t':Nat} {ob:HO} (I:Inv X pins σ H s) (mu:Mut (H a)) (hs:Heap.SameBut a s.heap h') (he:∃ q,h'.get? a=some q) (new:ObjOk X.prog X.w (upd H a ob) h' a ob) :
  Inv X pins σ (upd H a ob) { s with heap:=h',toks:=t' }:=
 I.write (x:=a) (e:=a) mu (.inl rfl) (fun b q hb z=>(hs.2 b hb).trans z) he new
theorem dk_new {P:Program} {w:World} {H':Hp} {h':Heap} {kvs:List (Key × V)} {vs:List (Key × Value)} (z:kvs.length≤sizeLine) (hd:(a == sysModules)=false) (rel:KV kvs vs) (dd:h'.DictOf (aY P w) a vs) :
  ObjOk P w H' h' a (.dK kvs):=⟨z,hd,vs,rel,dd⟩
theorem d_setItem {H':Hp} {Q:Unit→Shared→Prop} (hu:A.units+1<cLine) (I:Inv X pins σ H s) (g:DPut H a y v H') (ry:RelV y u) (rv:RelV v r) (h:∀ s',Inv X pins σ H' s'→Q () s') :
  wpAny (model X.prog X.w) A (setItem (.ref a) u r) Q E s:=by
 rcases g with ⟨kvs,k,e,ey,l,eH⟩ | ⟨kvs,k,b,e,ey,eb,l,eH⟩
 ·subst ey eH
  obtain ⟨z,hd,vs,rel,dd⟩:=dk_of I.hok e
  have hz:vs.length≤sizeLine:=by rw [← rel.length];exact z
  have hl:(bg kvs k v).length≤sizeLine:=by have:=fG kvs k v;omega
  refine wpAny_setItem_pairs (hsz:=hz) (kV_is ry) dd fun h' dd' hs=>h _ ?_
  have he:∃ q,h'.get? a=some q:=let ⟨q,_,_,hq,_⟩:=dd';⟨q,hq⟩
  exact d_write I (by rw [e];exact True.intro) hs he (dk_new hl hd (rel.put k rv) dd')
 ·subst ey eH
  cases (show u=Value.ref b from ry)
  obtain ⟨z,hd,xs,rel,dd⟩:=dt_of I.hok e
  have hz:xs.length≤sizeLine:=by rw [← Paired.length rel];exact z
  have hl:(bg kvs k v).length≤sizeLine:=by have:=fG kvs k v;omega
  refine wpAny_setItem_heap (hsz:=hz) (tupleKind_room_in1 hu) (key_of I.hok eb) dd fun h' dd' hs=>h _ ?_
  obtain ⟨q,es,ep,hq,h2,h3,h4,_,h5⟩:=dd'
  refine d_write I (by rw [e];exact True.intro) hs ⟨q,hq⟩ ⟨hl,hd,_,(rel.put k eb rv).keeps fun c ys ec=>?_,q,es,ep,hq,h2,h3,h4,h5⟩
  rw [aj (bh ec e (fun z=>nomatch z))]
  exact ec
end
section
variable {X:Cx} {pins:List (Addr × Obj)} {σ:St} {H:Hp} {s:Shared} {a:Addr} {kvs:List (Key × V)} {k:Key} {u:Value} {A:Around} {E:Value→Shared→Prop}
theorem d_pop {v:V} {more:List Value} {Q:Value→Shared→Prop} (I:Inv X pins σ H s) (e:H a=some (.dK kvs)) (ry:RelV (kV k) u) (l:bc kvs k=some v) (hm:more=[]∨∃ x,more=[x])
  (h:∀ w' s',Inv X pins σ (upd H a (.dK (dC kvs k))) s'→RelV v w'→Q w' s'):wpAny (model X.prog X.w) A (call (.builtin "dict.pop") (.ref a::u::more)) Q E s:=by
 obtain ⟨z,hd,vs,rel,dd⟩:=dk_of I.hok e
 obtain ⟨w',hw,rw'⟩:=RelO.some_of (v:=v) (o:=valueAt vs k) (by rw [← l];exact rel.val k)
 have hp:(keyPart u).isSome=true:=by
  cases k with
  | inl i=>obtain ⟨t,q⟩:=(show ∃ t,u=Value.int i t from ry);subst q;rfl
  | inr x=>obtain ⟨t,q⟩:=(show ∃ t,u=Value.str x t from ry);subst q;rfl
 have ha:argsOk "dict.pop" ⟨.ref a::u::more,[]⟩:=by
  rcases hm with q | ⟨x,q⟩
  ·subst q;exact PySem.F.args_dict_pop_2 _ _
  ·subst q;exact PySem.F.args_dict_pop_3 _ _ _
 refine call_meetsIn PySem.F.slot_dict_pop dd.typeIs PySem.F.entry_dict_pop ha (meets_dict_pop_there (aY X.prog X.w) a (kV_is ry) more hm hp)
  ⟨vs,w',dd,by rw [← rel.length];exact z,hw,fun h' dd' hs=>h w' _ ?_ rw'⟩
 have he:∃ q,h'.get? a=some q:=let ⟨q,_,_,hq,_⟩:=dd';⟨q,hq⟩
 exact d_write I (by rw [e];exact True.intro) hs he (dk_new (i3 (dropK_le kvs k) z) hd (rel.drop k) dd')
theorem d_popD {r:Value} {Q:Value→Shared→Prop} (I:Inv X pins σ H s) (e:H a=some (.dK kvs)) (ry:RelV (kV k) u) (l:bc kvs k=none) (h:∀ s',Inv X pins σ H s'→Q r s') :
  wpAny (model X.prog X.w) A (call (.builtin "dict.pop") [.ref a,u,r]) Q E s:=by
 obtain ⟨z,hd,vs,rel,dd⟩:=dk_of I.hok e
 have hn:valueAt vs k=none:=RelO.none_of (by rw [← l];exact rel.val k)
 have hp:(keyPart u).isSome=true:=by
  cases k with
  | inl i=>obtain ⟨t,q⟩:=(show ∃ t,u=Value.int i t from ry);subst q;rfl
  | inr x=>obtain ⟨t,q⟩:=(show ∃ t,u=Value.str x t from ry);subst q;rfl
 exact call_meetsIn PySem.F.slot_dict_pop dd.typeIs PySem.F.entry_dict_pop (PySem.F.args_dict_pop_3 _ _ _) (meets_dict_pop_default (aY X.prog X.w) a (kV_is ry) hd hp r) ⟨vs,dd,hn,h _ (I.tok _)⟩
end
noncomputable def NoSl (i:Expr):Prop:=∀ ov iv,subscripted i false ov iv=operate [ov,iv] (getItem ov iv)
theorem subD_of {prog:Program} {w:World} {A:Around} {E:Value→Shared→Prop} {s:Shared} {env:Env} {value slice:Expr} {pos:Pos} {T id:String} {Q:Value→Shared→Prop}
  (hl:typeLookup (.type T) "__getitem__"=pure (some (.builtin id))) (hs:NoSl slice)
  (h:wpAny (model prog w) A (eval value env) (fun o s₁=>wpAny (model prog w) A (eval slice env) (fun i s₂=>s₂.TypeIs o T∧wpAny (model prog w) A (getItem o i) Q E s₂) E s₁) E s) :
  wpAny (model prog w) A (eval (.Subscript value slice pos) env) Q E s:=by
 refine Subscript_ (jo h (fun o s₁ h₁=>jo h₁ (fun i s₂ h₂=>?_) fun _ _ x=>x) fun _ _ x=>x)
 obtain ⟨hT,h₂⟩:=h₂
 unfold subscriptTail
 refine iK ?_
 rw [getitemInPython_of_ne hT.not_modules]
 refine iK (wpAny_specialOf hT hl ?_)
 have fin:wpAny (model prog w) A (subscripted slice false o i) (fun r s₃=>wpAny (model prog w) A (letTemporaryGo value o r >>= fun _=>pure r) Q E s₃) E s₂:=by
  rw [hs o i]
  exact wpAny_operating (jo h₂ (fun r s₃ h₃=>iK (wpAny_letTemporaryGo (iQ h₃))) fun _ _ x=>x)
 first
  | exact iQ (iK fin)
  | exact iK (iQ (iK fin))
  | exact iK fin
theorem dict_typeIs {X:Cx} {pins:List (Addr × Obj)} {σ:St} {H:Hp} {s:Shared} {a:Addr} {y:V} {o:Option V} (I:Inv X pins σ H s) (g:DGet H a y o):s.TypeIs (.ref a) "dict":=by
 rcases g with ⟨kvs,k,e,_,_⟩ | ⟨kvs,k,b,e,_,_,_⟩
 ·obtain ⟨_,_,vs,_,dd⟩:=gK I.hok e
  exact dd.typeIs
 ·obtain ⟨_,_,xs,_,dd⟩:=dt_rd I.hok e
  exact dd.typeIs
noncomputable def tDGet (td ty:TE):TE:=fun σ H Q=>td σ H fun x H1=>ty σ H1 fun y H2=>∃ a v,x=.ref a∧DGet H2 a y (some v)∧Q v H2
noncomputable def tDIn (ty td:TE):TE:=fun σ H Q=>ty σ H fun y H1=>td σ H1 fun x H2=>∃ a o,x=.ref a∧DGet H2 a y o∧Q (.bl o.isSome) H2
noncomputable def tDNotIn (ty td:TE):TE:=fun σ H Q=>ty σ H fun y H1=>td σ H1 fun x H2=>∃ a o,x=.ref a∧DGet H2 a y o∧Q (.bl (!o.isSome)) H2
noncomputable def sDPut (td ty tv:TE):TS:=fun D σ H=>tv σ H fun v H1=>td σ H1 fun x H2=>ty σ H2 fun y H3=>∃ a H4,x=.ref a∧DPut H3 a y v H4∧D.nx σ H4
section
variable {X:Cx} {o i e value:Expr} {pos pos' tpos:Pos} {td ty tv:TE}
theorem aQ (hu:X.A.units+1<cLine) (ho:PE X o td) (hi:PE X i ty) (hs:NoSl i):PE X (.Subscript o i pos) (tDGet td ty):=by
 intro pins s σ H Q I h
 refine subD_of PySem.F.slot_dict_getitem.lookup hs (thn (ho pins s σ H _ I h) fun u s1 ⟨x,H1,I1,rx,q1⟩=>thn (hi pins s1 σ H1 _ I1 q1) fun iv s2 ⟨y,H2,I2,ry,a,v,ex,g,q2⟩=>?_)
 subst ex
 obtain rfl:u=Value.ref a:=rx
 exact ⟨dict_typeIs I2 g,d_getItem hu I2 g ry fun w' s3 I3 rw'=>⟨v,H2,I3,rw',q2⟩⟩
theorem pc_din (hu:X.A.units+1<cLine) (hi:PE X i ty) (ho:PE X o td):PC X .In i o (tDIn ty td):=by
 intro pins s σ H Q I h
 refine thn (hi pins s σ H _ I h) fun iv s1 ⟨y,H1,I1,ry,q1⟩=>thn (ho pins s1 σ H1 _ I1 q1) fun u s2 ⟨x,H2,I2,rx,a,ov,ex,g,q2⟩=>?_
 subst ex
 obtain rfl:u=Value.ref a:=rx
 exact d_in hu I2 g ry fun s3 I3=>⟨.bl ov.isSome,H2,I3,rfl,q2⟩
theorem fT (hu:X.A.units+1<cLine) (hi:PE X i ty) (ho:PE X o td):PC X .NotIn i o (tDNotIn ty td):=by
 intro pins s σ H Q I h
 refine thn (hi pins s σ H _ I h) fun iv s1 ⟨y,H1,I1,ry,q1⟩=>thn (ho pins s1 σ H1 _ I1 q1) fun u s2 ⟨x,H2,I2,rx,a,ov,ex,g,q2⟩=>?_
 subst ex
 obtain rfl:u=Value.ref a:=rx
 exact d_notIn hu I2 g ry fun s3 I3=>⟨.bl (!ov.isSome),H2,I3,rfl,q2⟩
theorem bv (hu:X.A.units+1<cLine) (ho:PE X o td) (hi:PE X i ty) (hv:PE X value tv) (hs:swapsWith value (some (.Subscript o i pos')) pos.line X.env=pure false) :
  PS X (.Assign [.Subscript o i pos'] value pos) (sDPut td ty tv):=by
 intro pins s σ H D I h
 refine wpAny_Assign_Subscript (thn (hv pins s σ H _ I h) fun r s1 ⟨v,H1,I1,rv,q1⟩=>thn (ho pins s1 σ H1 _ I1 q1) fun u s2 ⟨x,H2,I2,rx,q2⟩=>thn (hi pins s2 σ H2 _ I2 q2) fun iv s3 ⟨y,H3,I3,ry,a,H4,ex,g,q3⟩=>?_) hs
 subst ex
 obtain rfl:u=Value.ref a:=rx
 exact d_setItem hu I3 g ry rv fun s4 I4=>⟨σ,H4,I4,q3⟩
end
theorem dk_empty {P:Program} {w:World} {H:Hp} (h:Heap) (hb:sysModules<h.objs.size):ObjOk P w H (h.push { cls:=.type "dict",data:=.dict #[] }) h.objs.size (.dK []):=
 ⟨iY _,jL.mpr (Ne.symm (jm hb)),[],.nil,Heap.DictOf.new h⟩
noncomputable def tDNewK:TE:=fun _ H Q=>∀ p,H p=none→Q (.ref p) (upd H p (.dK []))
section
variable {X:Cx} {pos:Pos}
theorem dE:PE X (.Dict [] [] pos) tDNewK:=fun pins s σ H Q I h=>
 wpAny_Dict_empty ⟨.ref s.heap.objs.size,_,I.laid (a:=s.heap.objs.size) (o:=.dK []) (t':=s.toks) (fun _ _ q=>iN _ q) (iP _) (dk_empty s.heap I.big),rfl,h _ (I.hok.fresh (iP _))⟩
end
noncomputable def tPairs:List (TE × TE)→St→Hp→(List (V × V)→Hp→Prop)→Prop
 | [],_,H,Q=>Q [] H
 | (tk,tv)::r,σ,H,Q=>tk σ H fun x H1=>tv σ H1 fun y H2=>tPairs r σ H2 fun ps H3=>Q ((x,y)::ps) H3
noncomputable abbrev VV:List (V × V)→List (Value × Value)→Prop:=Paired fun p q=>RelV p.1 q.1∧RelV p.2 q.2
noncomputable def mergeK (kvs more:List (Key × V)):List (Key × V):=more.foldl (fun acc kv=>bg acc kv.1 kv.2) kvs
structure M1 (X:Cx) (o:Expr) (m:Str) (apos:Pos) (e:Expr) (cpos:Pos):Prop where
 base:attributeBase o m X.env (eval o X.env)=eval o X.env
 few:((backTo cpos (starEach [e] X.env)).all (fun x=>!x.1) && (backToKw cpos (keywordEach [] X.env)).all (fun x=>x.1.isSome)
  && decide (([e]:List Expr).length+([]:List Keyword).length+(if ([]:List Keyword).isEmpty then 0 else 1)<30))=true
 line:(apos.endLine == cpos.line)=true
 trees:backTo cpos (starEach [e] X.env)=[(false,eval e X.env)]
structure M2 (X:Cx) (o:Expr) (m:Str) (apos:Pos) (e f:Expr) (cpos:Pos):Prop where
 base:attributeBase o m X.env (eval o X.env)=eval o X.env
 few:((backTo cpos (starEach [e,f] X.env)).all (fun x=>!x.1) && (backToKw cpos (keywordEach [] X.env)).all (fun x=>x.1.isSome)
  && decide (([e,f]:List Expr).length+([]:List Keyword).length+(if ([]:List Keyword).isEmpty then 0 else 1)<30))=true
 line:(apos.endLine == cpos.line)=true
 trees:backTo cpos (starEach [e,f] X.env)=[(false,eval e X.env),(false,eval f X.env)]
noncomputable def IsD (H:Hp) (a:Addr):Prop:=(∃ kvs,Rd H a (.dK kvs))∨∃ kvs,Rd H a (.dT kvs)
theorem isD_at {X:Cx} {pins:List (Addr × Obj)} {σ:St} {H:Hp} {s:Shared} {a:Addr} (I:Inv X pins σ H s) (d:IsD H a) :
  s.TypeIs (.ref a) "dict"∧(∀ b,Value.ref a=.ref b→∃ ob,s.heap.get? b=some ob∧ob.dict=none)∧(a == sysModules)=false:=by
 rcases d with ⟨kvs,e⟩ | ⟨kvs,e⟩
 ·obtain ⟨_,hd,vs,_,dd⟩:=gK I.hok e
  refine ⟨dd.typeIs,fun b q=>?_,hd⟩
  cases q
  obtain ⟨ob,_,_,h1,h2,_⟩:=dd
  exact ⟨ob,h1,h2.2.1⟩
 ·obtain ⟨_,hd,xs,_,dd⟩:=dt_rd I.hok e
  refine ⟨dd.typeIs,fun b q=>?_,hd⟩
  cases q
  obtain ⟨ob,_,_,h1,h2,_⟩:=dd
  exact ⟨ob,h1,h2.2.1⟩
section
variable {X:Cx} {pins:List (Addr × Obj)} {σ:St} {H:Hp} {s:Shared} {a:Addr} {y d:V} {u r:Value} {o:Option V} {A:Around} {E:Value→Shared→Prop}
theorem d_get2 {Q:Value→Shared→Prop} (hu:A.units+1<cLine) (I:Inv X pins σ H s) (g:DGet H a y o) (ry:RelV y u) (rd:RelV d r) (h:∀ w' s',Inv X pins σ H s'→RelV (o.getD d) w'→Q w' s') :
  wpAny (model X.prog X.w) A (call (.builtin "dict.get") [.ref a,u,r]) Q E s:=by
 rcases g with ⟨kvs,k,e,ey,l⟩ | ⟨kvs,k,b,e,ey,eb,l⟩
 ·subst ey
  obtain ⟨z,hd,vs,rel,dd⟩:=gK I.hok e
  refine call_meetsIn PySem.F.slot_dict_get dd.typeIs PySem.F.entry_dict_get (PySem.F.args_dict_get_3 _ _ _) (meets_dict_get_default (aY X.prog X.w) a (kV_is ry) hd r) ⟨_,dd.mapOf,h _ _ (I.tok _) ?_⟩
  rw [l]
  exact (rel.val k).getD rd
 ·subst ey
  cases (show u=Value.ref b from ry)
  obtain ⟨z,hd,xs,rel,dd⟩:=dt_rd I.hok e
  refine call_meetsIn PySem.F.slot_dict_get dd.typeIs PySem.F.entry_dict_get (PySem.F.args_dict_get_3 _ _ _) (meetsH_dict_get_default (tupleKind (aY X.prog X.w)) a b hd r) ⟨tupleKind_room_in1 hu,k,xs,key_of I.hok eb,dd,h _ _ (I.tok _) ?_⟩
  rw [l]
  exact (rel.val k).getD rd
end
noncomputable def tDGet2 (td ty tx:TE):TE:=fun σ H Q=>td σ H fun x H1=>∃ a,x=.ref a∧IsD H1 a∧ty σ H1 fun y H2=>tx σ H2 fun z H3=>∃ o,DGet H3 a y o∧Q (o.getD z) H3
section
variable {X:Cx} {o e f:Expr} {apos cpos:Pos} {td ty tx:TE}
theorem cX (hu:X.A.units+1<cLine) (ho:PE X o td) (he:PE X e ty) (hf:PE X f tx) (m:M2 X o "get" apos e f cpos):PE X (.Call (.Attribute o "get" apos) [e,f] [] cpos) (tDGet2 td ty tx):=by
 intro pins s σ H Q I h
 refine wpAny_Call_method m.base m.few m.line PySem.F.plainAttrs_dict PySem.F.slot_dict_get PySem.F.type_dict_get (thn (ho pins s σ H _ I h) fun u s1 ⟨x,H1,I1,rx,a,ex,d,q1⟩=>?_)
 subst ex
 obtain rfl:u=Value.ref a:=rx
 obtain ⟨t1,t2,_⟩:=isD_at I1 d
 refine ⟨t1,t2,?_⟩
 rw [m.trees]
 refine Calls.callWith_builtin rfl (Calls.evalArgs_plain (Calls.spliced_cons (thn (he pins s1 σ H1 _ I1 q1) fun iv s2 ⟨y,H2,I2,ry,q2⟩=>
  Calls.spliced_cons (thn (hf pins s2 σ H2 _ I2 q2) fun fv s3 ⟨z,H3,I3,rz,ov,g,q3⟩=>Calls.spliced_nil ?_))))
 exact d_get2 hu I3 g ry rz fun w' s4 I4 rw'=>⟨_,H3,I4,rw',q3⟩
end
section
variable {X:Cx} {pins:List (Addr × Obj)} {σ:St} {H:Hp} {s:Shared} {a:Addr} {kvs:List (Key × V)} {A:Around} {E:Value→Shared→Prop}
theorem d_copyOf {Q:Value→Shared→Prop} (I:Inv X pins σ H s) (e:Rd H a (.dK kvs)) (h:∀ p s',H p=none→Inv X pins σ (upd H p (.dK kvs)) s'→Q (.ref p) s'):wpAny (model X.prog X.w) A (call (.type "dict") [.ref a]) Q E s:=by
 obtain ⟨z,hd,vs,rel,dd⟩:=gK I.hok e
 refine kt_call_dict hd dd (by rw [← rel.length];exact z) fun h' dd' hs=>?_
 refine h _ _ (I.hok.fresh (iP _)) (I.laid (a:=s.heap.objs.size) (o:=.dK kvs) (t':=s.toks) (fun b q hq=>?_) (iP _) (dk_new z (jL.mpr (Ne.symm (jm I.big))) rel dd'))
 exact (hs.2 b (jm (iT hq))).trans (iN _ hq)
end
section
variable {X:Cx} {pins:List (Addr × Obj)} {σ:St} {H:Hp} {s:Shared} {a:Addr} {y:V} {u:Value} {A:Around} {E:Value→Shared→Prop}
end
end L2
namespace L2
open PySem PySem.Spec PyProof.Rows
section
variable {X:Cx}
end
end L2
namespace L2
open PySem PySem.Spec PyProof.Rows
section
variable {κ:Type} [DecidableEq κ]
theorem valV_not {kvs:List (κ × V)} {k:κ} (h:bc kvs k=none):¬ k∈kvs.map (·.1):=by
 intro m
 obtain ⟨p,hp,e⟩:=iZ.mp m
 have q:(kvs.any fun kv=>decide (kv.1=k))=true:=List.any_eq_true.mpr ⟨p,hp,iW e⟩
 rw [eG,h] at q
 exact absurd q (by simp)
theorem valV_in {kvs:List (κ × V)} {k:κ} {v:V} (h:bc kvs k=some v):k∈kvs.map (·.1):=by
 have q:(kvs.any fun kv=>decide (kv.1=k))=true:=by
  rw [eG,h]
  all_goals rfl
 obtain ⟨p,hp,e⟩:=List.any_eq_true.mp q
 exact iZ.mpr ⟨p,hp,jG e⟩
theorem dropK_pos {p:κ × V} {r:List (κ × V)} {k:κ} (e:p.1=k):dC (p::r) k=dC r k:=by
 unfold dC
 rw [List.filter_cons,if_neg (by simp [e])]
theorem dropK_neg {p:κ × V} {r:List (κ × V)} {k:κ} (e:¬ p.1=k):dC (p::r) k=p::dC r k:=by
 unfold dC
 rw [List.filter_cons,if_pos (by simp [e])]
theorem dropK_no:∀ {kvs:List (κ × V)} {k:κ},¬ k∈kvs.map (·.1)→dC kvs k=kvs
 | [],_,_=>rfl
 | p::r,k,h=>by
  have h':¬ k∈r.map (·.1):=fun m=>by
   obtain ⟨q,hq,e⟩:=iZ.mp m
   exact h (iZ.mpr ⟨q,ja.mpr (Or.inr hq),e⟩)
  rw [dropK_neg fun e=>h (iZ.mpr ⟨p,ja.mpr (Or.inl rfl),e⟩),dropK_no h']
theorem dropK_mem {kvs:List (κ × V)} {k:κ} {p:κ × V} (h:p∈dC kvs k):p∈kvs:=(jS.mp h).1
end
end L2
namespace L2
open PySem PySem.Spec PyProof.Rows
section
variable {X:Cx}
noncomputable def PTs (X:Cx) (ifs:List Expr) (t:TT):Prop:=
 ∀ (pins:List (Addr × Obj)) (s:Shared) (σ:St) (H:Hp) (Q:Bool→Hp→Prop),Inv X pins σ H s→t σ H Q→
  wpAny (model X.prog X.w) X.A (forIn ifs true fun c r=>if r=true then do let ok ← isTrue c X.env (eval c X.env);pure (ForInStep.yield ok) else pure (ForInStep.yield r)) (TP X pins σ Q) X.xe s
noncomputable def tYes:TT:=fun _ H Q=>Q true H
theorem cY:PTs X [] tYes:=fun pins s σ H Q I h=>wpAny_tests_nil ⟨H,I,h⟩
theorem pts_one {c:Expr} {t:TT} (h:PT X c t):PTs X [c] t:=fun pins s σ H Q I q=>wpAny_tests_one (h pins s σ H Q I q)
noncomputable def ClSub (X:Cx):List (Str × Addr)→Prop
 | []=>True
 | p::r=>X.env.cells.lookup p.1=some p.2∧ClSub X r
theorem ClSub.at:∀ {cl:List (Str × Addr)},ClSub X cl→∀ y c,cl.lookup y=some c→X.env.cells.lookup y=some c
 | [],_,y,c,e=>by simp at e
 | (z,d)::r,h,y,c,e=>by
  by_cases q:y=z
  ·subst q
   simp at e
   subst e
   exact h.1
  ·rw [j5,jL.mpr q] at e
   exact ClSub.at h.2 y c e
theorem lookup_has {cl:List (Str × Addr)} {y:Str}:y∈cl.map (·.1)→∃ c,cl.lookup y=some c:=by
 induction cl with
 | nil=>intro h;simp at h
 | cons p r ih=>
  intro h
  by_cases q:y=p.1
  ·subst q
   exact ⟨p.2,by cases p;simp⟩
  ·obtain ⟨c,e⟩:=ih (by
    rcases ja.mp h with z | z
    ·exact absurd z q
    ·exact z)
   exact ⟨c,by rw [j5,jL.mpr q];exact e⟩
theorem g6 {scope:Scope} {env:Env} {z:Str} {k:NameKind} (h:(z,k)∈(relabel scope env).names) (hk:k=.cell∨k=.free):(z,NameKind.cell)∈scope.names∨(z,NameKind.free)∈scope.names:=by
 unfold relabel at h
 obtain ⟨⟨n,k'⟩,hm,e⟩:=iZ.mp h
 dsimp only at e
 split at e
 ·rename_i c
  cases e
  have:k'=.free:=by
   have:=(Bool.and_eq_true_iff.mp (Bool.and_eq_true_iff.mp c).1).1
   simpa using this
  subst this
  exact .inr hm
 ·cases e
  rcases hk with rfl | rfl
  ·exact .inl hm
  ·exact .inr hm
theorem Clos.many {scope:Scope} {cl:List (Str × Addr)} {ys:List Str} (h:closureFor scope X.env=pure cl) (hs:ClSub X cl) (hy:cl.map (·.1)=ys)
  (hr:∀ p∈scope.names,(p.2=.cell∨p.2=.free)→p.1∈ys):Clos X scope cl:=by
 refine ⟨h,fun y c e=>hs.at y c e,fun y hz=>lookup_has ?_⟩
 rw [hy]
 rcases hz with q | q
 ·rcases g6 (jM q) (.inl rfl) with m | m
  ·exact hr _ m (.inl rfl)
  ·exact hr _ m (.inr rfl)
 ·rcases g6 (jM q) (.inr rfl) with m | m
  ·exact hr _ m (.inl rfl)
  ·exact hr _ m (.inr rfl)
noncomputable def RdAll (X:Cx) (scope:Scope):List Str→List Nat→Prop
 | [],[]=>True
 | y::ys,j::js=>(X.N[j]?=some y∧X.env.scope.names.lookup y=some .cell∧(relabel scope X.env).names.lookup y=some .cell)∧RdAll X scope ys js
 | _,_=>False
theorem RdAll.len {scope:Scope}:∀ {ys:List Str} {js:List Nat},RdAll X scope ys js→js.length=ys.length
 | [],[],_=>rfl
 | y::ys,j::js,h=>by rw [jr,jr,RdAll.len h.2]
theorem RdAll.at {scope:Scope}:∀ {ys:List Str} {js:List Nat},RdAll X scope ys js→∀ (i:Nat) (y:Str) (j:Nat),ys[i]?=some y→js[i]?=some j→X.N[j]?=some y∧X.env.scope.names.lookup y=some .cell∧(relabel scope X.env).names.lookup y=some .cell
 | [],[],_,i,y,j,e,_=>by simp at e
 | y'::ys,j'::js,h,0,y,j,e1,e2=>by
  simp at e1 e2
  subst e1 e2
  exact h.1
 | y'::ys,j'::js,h,i+1,y,j,e1,e2=>RdAll.at h.2 i y j (by simpa using e1) (by simpa using e2)
theorem Reads.many {scope:Scope} {ys:List Str} {js:List Nat} (h:RdAll X scope ys js):Reads X scope ys (fun σ=>js.map fun j=>σ.getD j Option.none):=by
 refine fun σ=>⟨by rw [iM,h.len],fun i y v e1 e2=>?_⟩
 rw [i4] at e2
 cases q:js[i]? with
 | none=>rw [q] at e2;cases e2
 | some j=>
  rw [q] at e2
  obtain ⟨h1,h2,h3⟩:=h.at i y j e1 q
  refine ⟨j,h1,?_,h2,h3⟩
  have e3:σ.getD j Option.none=some v:=jh e2
  rw [jR] at e3
  cases z:σ[j]? with
  | none=>rw [z] at e3;cases e3
  | some o=>rw [z] at e3;exact jy some e3
noncomputable def tCompG (k:Nat) (wi:TI) (g:TG) (tc:TT) (te:TE) (sel:St→St):TE:=fun σ H Q=>wi σ H fun J H1=>∀ l,H1 l=none→∃ W:Nat→Nat→Hp→Prop,(∃ m,W 0 m (upd H1 l (.lst [])))∧∀ i m H,W i m H→
 (J.stop i H∧Q (.ref l) H)∨(J.go i H∧∀ x H',J.yld i H x H'→∀ zs:St,zs.length=k→g x (zs++sel σ) H' fun σ2 H2=>(∃ zs':St,zs'.length=k∧σ2=zs'++sel σ)∧tc σ2 H2 fun b H3=>if b=true then te σ2 H3 fun y H4=>∃ ys,H4 l=some (.lst ys)∧ys.length<sizeLine∧∃ m',m'<m∧W (i+1) m' (upd H4 l (.lst (ys++[y]))) else ∃ m',m'<m∧W (i+1) m' H3)
theorem gA {prog:Program} {w:World} {A:Around} {R:Result→Shared→Prop} {s:Shared} {elt target iter:Expr} {ifs:List Expr} {scope:Scope} {pos:Pos} {it acc:Value} {env:Env} (I:Nat→Shared→Prop)
  (turn:∀ n s,I n s→wpAny (model prog w) A (pyNext it) (fun r s₁=>match r with
   | none=>R (.ok .next) s₁
   | some v=>wpAny (model prog w) A (letOwnedTupleGo target it v) (fun _ s₁'=>wpAny (model prog w) A (assign target env v) (fun _ s₂=>
     wpAny (model prog w) A (forIn ifs true fun c r=>if r=true then do let ok ← isTrue c env (eval c env);pure (ForInStep.yield ok) else pure (ForInStep.yield r)) (fun ok s₃=>if ok=true then wpAny (model prog w) A (eval elt env) (fun x s₄=>
      wpAny (model prog w) A (call (.builtin "list.append") [acc,x]) (fun _ s₅=>∃ m,m<n∧I m s₅) (fun _ _=>False) s₄) (fun _ _=>False) s₃ else ∃ m,m<n∧I m s₃) (fun _ _=>False) s₂) (fun _ _=>False) s₁') (fun _ _=>False) s₁) (fun _ _=>False) s)
  (n:Nat) (h:I n s) :
  codeAny (model prog w) A (.compLoop (.ListComp elt [⟨target,iter,ifs,0⟩] scope pos) 0 it acc env) R s:=by
 refine codeAny_loop rfl I (fun n s hI=>?_) n h
 show wpAny _ _ ((compTurn (.ListComp elt [⟨target,iter,ifs,0⟩] scope pos) 0 it acc env).onRaise (fun x=>do noteFrame x env;theTreesLotGoes x)) _ _ s
 refine wpAny_noted ?_
 rw [compTurn_list]
 refine iK (ki (iK (jo (turn n s hI) (fun r s₁ h₁=>?_) fun _ _ h'=>h'.elim)))
 cases r with
 | none=>exact iQ h₁
 | some v=>
  refine iK (jo h₁ (fun _ s₁' h₁'=>?_) fun _ _ h'=>h'.elim)
  refine iK (jo h₁' (fun _ s₂ h₂=>iK (jo h₂ (fun ok s₃ h₃=>?_) fun _ _ h'=>h'.elim)) fun _ _ h'=>h'.elim)
  cases ok with
  | false=>exact iQ ⟨rfl,h₃⟩
  | true=>exact iK (iK (jo h₃ (fun x s₄ h₄=>iK (jo h₄ (fun _ s₅ h₅=>iQ (iQ ⟨rfl,h₅⟩)) fun _ _ h'=>h'.elim)) fun _ _ h'=>h'.elim))
theorem comp_blockG {elt iter tg:Expr} {ifs:List Expr} {xs:List Str} {pos:Pos} {scope:Scope} {cl:List (Str × Addr)} {rest:List Str} {sel:St→St} {g:TG} {tc:TT} {te:TE} {pins:List (Addr × Obj)} {σ:St} {H:Hp} {s:Shared} {Q:VK}
  {it:Addr} {fp:List Addr} {tn:Nat→Heap→Prop} {J:It} {RR:Value→Addr→Result→Shared→Prop} {E:Value→Shared→Prop}
  (hcalm:X.calm=true) (hkind:scope.kind=.function) (hcell:∀ z∈scope.names,z.2≠.cell) (hc:Clos X scope cl) (hr:Reads X scope rest sel)
  (hg:∀ (C:Addr) (s:Shared) (H:Hp),PG (cD X pins (xs++rest) scope cl C fp s H) tg g) (ht:∀ (C:Addr) (s:Shared) (H:Hp),PTs (cD X pins (xs++rest) scope cl C fp s H) ifs tc)
  (he:∀ (C:Addr) (s:Shared) (H:Hp),PE (cD X pins (xs++rest) scope cl C fp s H) elt te)
  (I:Inv X pins σ H s) (T:Turn X.prog X.w X.K tg J fp it tn) (t0:tn 0 s.heap) (hf:∀ b∈fp,FpOk X pins H b)
  (h:∀ l,H l=none→∃ W:Nat→Nat→Hp→Prop,(∃ m,W 0 m (upd H l (.lst [])))∧∀ i m H,W i m H→
   (J.stop i H∧Q (.ref l) H)∨(J.go i H∧∀ x H',J.yld i H x H'→∀ zs:St,zs.length=xs.length→g x (zs++sel σ) H' fun σ2 H2=>(∃ zs':St,zs'.length=xs.length∧σ2=zs'++sel σ)∧tc σ2 H2 fun b H3=>if b=true then te σ2 H3 fun y H4=>∃ ys,H4 l=some (.lst ys)∧ys.length<sizeLine∧∃ m',m'<m∧W (i+1) m' (upd H4 l (.lst (ys++[y]))) else ∃ m',m'<m∧W (i+1) m' H3))
  (hRR:∀ (D C:Addr) (H':Hp) (s':Shared),Inv X pins σ H' s'→FpOk X pins H' C→(∃ m,s'.heap.Ns C m)→Q (.ref D) H'→RR (.ref D) C (.ok .next) s') :
  wpAny (model X.prog X.w) X.A (newList []) (fun acc s₃=>wpAny (model X.prog X.w) X.A (newFunctionEnv scope X.env.globals cl [] X.env.qual none .none (some X.env)) (fun cenv s₄=>
   codeAny (model X.prog X.w) X.A (.compStart (.ListComp elt [⟨tg,iter,ifs,0⟩] scope pos) 0 (.ref it) acc { cenv with scope:=relabel scope X.env }) (RR acc cenv.locals) s₄) E s₃) E s:=by
 have hD:H s.heap.objs.size=none:=I.hok.fresh (iP _)
 obtain ⟨W,⟨m0,w0⟩,turn⟩:=h _ hD
 refine j6 ?_
 have I3:Inv X pins σ (upd H s.heap.objs.size (.lst [])) { s with heap:=s.heap.push { cls:=.type "list",dict:=none,data:=.seq ([]:List Value).toArray } }:=
  I.laid (t':=s.toks) (fun b u e=>iN _ e) (iP _) ⟨iY _,[],0,.nil,i9 _ rfl⟩
 generalize hs3:({ s with heap:=s.heap.push { cls:=.type "list",dict:=none,data:=.seq ([]:List Value).toArray } }:Shared)=s3 at I3 ⊢
 have old3:∀ b o,s.heap.get? b=some o→s3.heap.get? b=some o:=fun b o e=>by rw [← hs3];exact iN _ e
 refine wpAny_newFunctionEnv hcell (by intro y hy;simp at hy) (fun h1 hns1 hsb1=>?_) hkind
 have old4:∀ b o,s3.heap.get? b=some o→h1.get? b=some o:=fun b o e=>hsb1.extBut b o (jm (iT e)) (iN _ e)
 have fD:∀ b∈fp,b≠s.heap.objs.size:=fun b hb z=>by
  obtain ⟨o,e,_⟩:=T.obj 0 _ t0 b hb
  exact absurd (iT e) (by rw [z];exact jE _)
 have hf3:∀ b∈fp,FpOk X pins (upd H s.heap.objs.size (.lst [])) b:=fun b hb=>⟨by rw [aj (fD b hb)];exact (hf b hb).1,(hf b hb).2⟩
 have fC:∀ b∈fp,b≠s3.heap.objs.size:=fun b hb z=>by
  obtain ⟨o,e,_⟩:=T.obj 0 _ t0 b hb
  exact absurd (iT (old3 b o e)) (by rw [z];exact jE _)
 have cC:∀ y c,cl.lookup y=some c→c≠s3.heap.objs.size:=fun y c e z=>by
  obtain ⟨v,q⟩:=I3.cell y c (hc.sub y c e)
  exact absurd q.lt (by rw [z];exact jE _)
 have fstk:∀ b∈fp,b ∉ frs X.stack:=fun b hb z=>(ja.mp (I3.stkSub b z)).elim (hf b hb).2.1 (hf b hb).2.2.1
 have ok:(cD X pins (xs++rest) scope cl s3.heap.objs.size fp s3 (upd H s.heap.objs.size (.lst []))).Ok:=by
  refine ⟨I.ok.mod,hkind,I.ok.glob,I.ok.blt,iP _,fun y z c e1 e2=>I.ok.inj y z c (hc.sub y c e1) (hc.sub z c e2),fun y hy=>hc.has y hy,fun y c e=>(nomatch e),I.ok.hd,I.ok.frames,.inl rfl,fun b hb=>⟨fC b hb,fun y c e=>(hf b hb).2.2.2.2.1 y c (hc.sub y c e)⟩,
   I3.bs,i3 I.ok.bsz I3.sz,fun b o e hb=>?_,fstk,I3.stack,I3.stkFree⟩
  rcases (hf b hb).2.2.2.1 with z | z
  ·exact I.ok.noex b o e z
  ·exact absurd (jg (iT e) I.ok.bsz) (Nat.not_lt.mpr z)
 have I4:Inv (cD X pins (xs++rest) scope cl s3.heap.objs.size fp s3 (upd H s.heap.objs.size (.lst []))) [] (xs.map (fun _=>none)++sel σ) (upd H s.heap.objs.size (.lst [])) { s3 with heap:=h1,toks:=s3.toks+([]:List (Str × Value)).length }:=by
  refine ⟨ok,rfl,I3.bare,Un.kept old4,⟨_,hns1,fun i y v e1 e2 e3=>?_⟩,fun y c e=>?_,I3.hok.fresh (iP _),fun y c e=>I3.freeC y c (hc.sub y c e),fun p hp=>?_,I3.hok.kept old4,?_⟩
  ·have hge:xs.length≤i:=by
    apply Classical.byContradiction
    intro hlt
    rw [List.getElem?_append_left (by rw [iM];omega),i4] at e2
    cases q:xs[i]? with
    | none=>rw [q] at e2;cases e2
    | some z=>rw [q] at e2;cases e2
   have e1':rest[i-xs.length]?=some y:=by
    have e1:(xs++rest)[i]?=some y:=e1
    rw [jQ hge] at e1
    exact e1
   have e2':(sel σ)[i-xs.length]?=some (some v):=by
    rw [jQ (by rw [iM];exact hge),iM] at e2
    exact e2
   obtain ⟨j,q1,q2,q3,q4⟩:=(hr σ).2 _ y v e1' e2'
   obtain ⟨m,hn,hl⟩:=I3.loc
   obtain ⟨u,r,l⟩:=hl j y v q1 q2 (.inr (.inl q3))
   refine ⟨u,r,.inr ⟨.inl q4,?_⟩⟩
   obtain ⟨c,ec⟩:=hc.has y (.inl q4)
   refine ⟨c,ec,?_⟩
   rcases l with ⟨k,_⟩ | ⟨_,c',e',z⟩
   ·have k':X.env.scope.names.lookup y=some .local:=k
    rw [q3] at k';cases k'
   ·rw [hc.sub y c ec] at e'
    cases e'
    obtain ⟨o,ho,hd⟩:=z
    exact ⟨o,old4 c o ho,hd⟩
  ·obtain ⟨v,o,ho,hd⟩:=I3.cell y c (hc.sub y c e)
   exact ⟨v,o,old4 c o ho,hd⟩
  ·have hp':p∈X.pn++pins:=by simpa [cD] using hp
   obtain ⟨e,n,ne,nf,d⟩:=I3.pin p hp'
   exact ⟨old4 _ _ e,n,jm (iT e),fun z=>(ja.mp (I3.stkSub _ z)).elim ne nf,d⟩
  ·show (xs.map (fun _=>none)++sel σ).length=(xs++rest).length
   rw [jd,jd,iM,(hr σ).1]
 have stat:∀ {H':Hp},(∀ b∈fp,H' b=none)→∀ b∈fp,FpOk (cD X pins (xs++rest) scope cl s3.heap.objs.size fp s3 (upd H s.heap.objs.size (.lst []))) [] H' b:=fun hn b hb=>
  ⟨hn b hb,fC b hb,fstk b hb,.inl hb,fun y c e=>(hf b hb).2.2.2.2.1 y c (hc.sub y c e),fun p hp=>(hf b hb).2.2.2.2.2 p (by simpa [cD] using hp)⟩
 have t4:tn 0 h1:=T.keep _ _ _ t0 fun b hb o e=>old4 b o (old3 b o e)
 have loop:∀ s4:Shared,s4 = { s3 with heap:=h1,toks:=s3.toks+([]:List (Str × Value)).length }→
   codeAny (model X.prog X.w) X.A (.compLoop (.ListComp elt [⟨tg,iter,ifs,0⟩] scope pos) 0 (.ref it) (.ref s.heap.objs.size) (compEnvC scope cl s3.heap.objs.size X.env)) (RR (.ref s.heap.objs.size) s3.heap.objs.size) s4:=by
  rintro s4 rfl
  refine gA (fun n s'=>∃ i zs H',zs.length=xs.length∧Inv (cD X pins (xs++rest) scope cl s3.heap.objs.size fp s3 (upd H s.heap.objs.size (.lst []))) [] (zs++sel σ) H' s'∧tn i s'.heap∧(∀ b∈fp,H' b=none)∧W i n H') ?_ m0
   ⟨0,_,_,iM _,I4,t4,fun b hb=>(hf3 b hb).1,w0⟩
  rintro n s5 ⟨i,zs,H5,hzs,I5,t5,f5,w5⟩
  rcases turn i n H5 w5 with ⟨stop,qn⟩ | ⟨go,step⟩
  ·refine thn (T.done (cD X pins (xs++rest) scope cl s3.heap.objs.size fp s3 (upd H s.heap.objs.size (.lst []))) rfl rfl rfl hcalm i [] s5 _ H5 _ I5 (stat f5) t5 stop) fun r s6 ⟨er,I6⟩=>?_
   subst er
   have J6:Inv X pins σ H5 s6:=I3.call' (ch:=fp) I6.os I6.base I6.hok I6.bare fun b hb=>⟨(hf b hb).2.2.2.1,(hf b hb).2.1,(hf b hb).2.2.2.2.1,(hf b hb).2.2.2.2.2⟩
   exact hRR _ _ H5 s6 J6 (I3.fpOk (iP _) I6.free) (let ⟨m,hn,_⟩:=I6.loc;⟨m,hn⟩) qn
  ·refine thn (T.item (cD X pins (xs++rest) scope cl s3.heap.objs.size fp s3 (upd H s.heap.objs.size (.lst []))) rfl rfl rfl hcalm i [] s5 _ H5 _ I5 (stat f5) t5 go) fun r s6 ⟨u,er,h6⟩=>?_
   subst er
   refine thn h6 fun _ s7 ⟨y,H7,I7,r7,y7,t7,f7⟩=>?_
   have I7':=I7.pinned (stat f7) (T.obj _ _ t7)
   refine thn (hg _ _ _ _ s7 _ H7 y u _ I7' r7 (step y H7 y7 zs hzs)) fun _ s8 ⟨σ8,H8,I8,⟨zs',hz',e8⟩,q8⟩=>?_
   subst e8
   refine thn (ht _ _ _ _ s8 _ H8 _ I8 q8) fun b s9 ⟨H9,I9,q9⟩=>?_
   cases b with
   | false=>
    rw [if_neg i8] at q9 ⊢
    obtain ⟨m',hm,w9⟩:=q9
    refine ⟨m',hm,i+1,zs',_,hz',I9.unpinned,T.keep _ _ _ t7 fun b hb o e=>(I9.pin (b,o) (jk _ (jk _ (eC hb e)))).1,fun b hb=>?_,w9⟩
    obtain ⟨o,e,d⟩:=T.obj _ _ t7 b hb
    exact (I9.pin (b,o) (jk _ (jk _ (eC hb e)))).2.1
   | true=>
    rw [if_pos rfl] at q9 ⊢
    refine thn (he _ _ _ _ s9 _ H9 _ I9 q9) fun z s9 ⟨yv,H9,I9,r9,ys,hl,hz,m',hm,w9⟩=>?_
    refine thn (fV (X:=cD X pins (xs++rest) scope cl s3.heap.objs.size fp s3 (upd H s.heap.objs.size (.lst []))) _ s9 _ H9 (.ref s.heap.objs.size) [yv] (.ref s.heap.objs.size) [z]
     (fun v H'=>H'=upd H9 s.heap.objs.size (.lst (ys++[yv]))) I9 rfl (.cons r9 .nil) ⟨_,ys,yv,rfl,rfl,hl,hz,rfl⟩) fun _ s10 ⟨v10,H10,I10,_,e10⟩=>?_
    subst e10
    refine ⟨m',hm,i+1,zs',_,hz',I10.unpinned,T.keep _ _ _ t7 fun b hb o e=>(I10.pin (b,o) (jk _ (jk _ (eC hb e)))).1,fun b hb=>?_,w9⟩
    obtain ⟨o,e,d⟩:=T.obj _ _ t7 b hb
    exact (I10.pin (b,o) (jk _ (jk _ (eC hb e)))).2.1
 exact codeAny_compStart_list (loop _ rfl) (T.self _ 0 _ _ _ t4 (loop _ rfl))
theorem fS {elt iter tg:Expr} {ifs:List Expr} {xs:List Str} {pos:Pos} {scope:Scope} {cl:List (Str × Addr)} {rest:List Str} {sel:St→St} {g:TG} {tc:TT} {te:TE} {wi:TI}
  (hcalm:X.calm=true) (hi:PI X tg iter wi) (hg:∀ (pins:List (Addr × Obj)) (fp:List Addr) (C:Addr) (s:Shared) (H:Hp),PG (cD X pins (xs++rest) scope cl C fp s H) tg g) (ht:∀ (pins:List (Addr × Obj)) (fp:List Addr) (C:Addr) (s:Shared) (H:Hp),PTs (cD X pins (xs++rest) scope cl C fp s H) ifs tc)
  (he:∀ (pins:List (Addr × Obj)) (fp:List Addr) (C:Addr) (s:Shared) (H:Hp),PE (cD X pins (xs++rest) scope cl C fp s H) elt te)
  (hc:Clos X scope cl) (hr:Reads X scope rest sel) (hkind:scope.kind=.function:=by rfl) (hcell:∀ z∈scope.names,z.2≠.cell:=by decide +kernel) (hnames:∀ z∈scope.names,z.2=.local→scope.names.lookup z.1=some .local:=by decide +kernel)
  (hs:∀ x,foldedSetIterable iter X.env x=pure x:=by intro _;rfl) :
  PE X (.ListComp elt [⟨tg,iter,ifs,0⟩] scope pos) (tCompG xs.length wi g tc te sel):=by
 intro pins s σ H Q I h
 rw [eval_ListComp]
 refine wpAny_comprehension_free (use:=none) rfl hs hc.clos hkind hnames (thn (hi pins s σ H _ I h) fun v s1 h1=>thn h1 fun itv s2 h2=>?_)
 obtain ⟨it,fp,tn,J,H2,rfl,I2,T,t2,f2,q2⟩:=h2
 refine comp_blockG (RR:=fun acc C=>compPost (model X.prog X.w) X.A X.xe none (EP X pins σ Q) acc C) hcalm hkind hcell hc hr (hg pins fp) (ht pins fp) (he pins fp) I2 T t2 f2 q2 fun D C H' s' I' fC ⟨m,hn⟩ q=>?_
 exact ⟨m,hn,fun h' sb=>⟨.ref D,H',I'.turned (t':=s'.toks) (fun b o hb e=>(sb.2 b hb).trans e) fC.1 fC.2.1 fC.2.2.2.1 fC.2.2.2.2.1 fC.2.2.2.2.2,rfl,q⟩⟩
theorem dD {i:Nat} {y:Str} {py spos:Pos} {elt iter tg:Expr} {ifs:List Expr} {xs:List Str} {pos:Pos} {scope:Scope} {cl:List (Str × Addr)} {rest:List Str} {sel:St→St} {g:TG} {tc:TT} {te:TE} {wi:TI}
  (hNX:X.N.Nodup) (hi':X.N[i]?=some y) (hy:X.env.scope.names.lookup y=some .local)
  (hcalm:X.calm=true) (hi:PI X tg iter wi) (hg:∀ (pins:List (Addr × Obj)) (fp:List Addr) (C:Addr) (s:Shared) (H:Hp),PG (cD X pins (xs++rest) scope cl C fp s H) tg g) (ht:∀ (pins:List (Addr × Obj)) (fp:List Addr) (C:Addr) (s:Shared) (H:Hp),PTs (cD X pins (xs++rest) scope cl C fp s H) ifs tc)
  (he:∀ (pins:List (Addr × Obj)) (fp:List Addr) (C:Addr) (s:Shared) (H:Hp),PE (cD X pins (xs++rest) scope cl C fp s H) elt te)
  (hc:Clos X scope cl) (hr:Reads X scope rest sel) (hkind:scope.kind=.function:=by rfl) (hcell:∀ z∈scope.names,z.2≠.cell:=by decide +kernel) (hnames:∀ z∈scope.names,z.2=.local→scope.names.lookup z.1=some .local:=by decide +kernel)
  (hs:∀ x,foldedSetIterable iter X.env x=pure x:=by intro _;rfl)
  (hsw:swapsWith (.ListComp elt [⟨tg,iter,ifs,0⟩] scope pos) (some (.Name y py)) spos.line X.env=pure true:=by rfl) :
  PS X (.Assign [.Name y py] (.ListComp elt [⟨tg,iter,ifs,0⟩] scope pos) spos) (tAsg (tCompG xs.length wi g tc te sel) (gName i)):=by
 intro pins s σ H D I h
 rw [exec_Assign_Name_used _ _ _ _ hsw]
 refine iK (ki (iK ?_))
 show wpAny _ X.A (do let _ ← comprehension (.ListComp elt [⟨tg,iter,ifs,0⟩] scope pos) scope X.env _ (newList []) false (eval iter X.env) (some (assign (.Name y py) X.env))) _ _ s
 refine iK (jo (wpAny_comprehension_free (use:=some (assign (.Name y py) X.env)) (Q:=fun _ s'=>SP X pins D .next s') rfl hs hc.clos hkind hnames
  (thn (hi pins s σ H _ I h) fun v s1 h1=>thn h1 fun itv s2 h2=>?_)) (fun _ s' hq=>iQ (iQ hq)) fun _ _ e=>e)
 obtain ⟨it,fp,tn,J,H2,rfl,I2,T,t2,f2,q2⟩:=h2
 refine comp_blockG (Q:=fun x H1=>gName i x σ H1 D.nx) (RR:=fun acc C=>compPost (model X.prog X.w) X.A X.xe (some (assign (.Name y py) X.env)) (fun _ s'=>SP X pins D .next s') acc C) hcalm hkind hcell hc hr (hg pins fp) (ht pins fp) (he pins fp) I2 T t2 f2 q2 fun L C H' s' I' fC ⟨m,hn⟩ q=>?_
 show wpAny _ X.A (assign (.Name y py) X.env (.ref L)) _ _ _
 refine wpAny_assign_Name (store_ok2 I' hNX hi' (.inl hy) (v:=.ref L) rfl (fun s2 I2' ⟨a,sb,ha⟩=>?_) (.inr hy))
 have hCa:C≠a:=fun z=>by
  rcases ha with z' | z'
  ·exact fC.2.1 (z.trans z')
  ·exact fC.2.2.2.2.1 y a z' z.symm
 exact ⟨m,hn.sameBut sb hCa,fun h' sb'=>⟨_,H',I2'.turned (t':=s2.toks) (fun b o hb e=>(sb'.2 b hb).trans e) fC.1 fC.2.1 fC.2.2.2.1 fC.2.2.2.2.1 fC.2.2.2.2.2,q⟩⟩
end
end L2
namespace L2
open PySem PySem.Spec PyProof.Rows
section
variable {X:Cx} {pins:List (Addr × Obj)} {σ:St} {H:Hp} {s:Shared} {a:Addr} {o:Obj} {u:HO}
theorem Inv.freeze (I:Inv X pins σ H s) (ha:H a=some u) (mu:Mut (some u)) (ho:s.heap.get? a=some o):Inv X pins σ (upd H a (.frz o u)) s:=by
 have mu':Mut (H a):=by rw [ha];exact mu
 have nown:∀ c y,H c=some (.own y)→c≠a:=fun c y r z=>by subst z;rw [r] at mu';exact mu'
 have ntup:∀ c xs,H c=some (.tup xs)→c≠a:=fun c xs r z=>by subst z;rw [r] at mu';exact mu'
 refine I.un (t':=s.toks) (Un.write (x:=a) (e:=a) mu' (.inl rfl) (fun _ _ _ q=>q) ⟨o,ho⟩) (I.hok.write (x:=a) (e:=a) mu' (.inl rfl) (fun _ _ _ q=>q) ⟨o,ho⟩ ⟨ho,?_⟩)
 exact (I.hok a u ha).stay (fun _ _ _ q=>q) (fun c r=>by rw [aj (nown c a r)];exact r) fun c xs r=>by rw [aj (ntup c xs r)];exact r
theorem Inv.thaw (I:Inv X pins σ H s) (ha:H a=some (.frz o u)) (h0:∀ o' u',X.H₀ a≠some (.frz o' u')):Inv X pins σ (upd H a u) s:=by
 have nown:∀ c y,H c=some (.own y)→c≠a:=fun c y r z=>by subst z;rw [r] at ha;cases ha
 have ntup:∀ c xs,H c=some (.tup xs)→c≠a:=fun c xs r z=>by subst z;rw [r] at ha;cases ha
 have nn:∀ c,H c=none→c≠a:=fun c r z=>by subst z;rw [r] at ha;cases ha
 have up:∀ c,H c=none→upd H a u c=none:=fun c r=>by rw [aj (nn c r)];exact r
 refine ⟨I.ok,I.os,I.bare,⟨I.base.keep,I.base.slot,fun b ob e n hx=>up b (I.base.free b ob e n hx),I.base.there,fun b xs e=>?_,fun b ob z e=>?_,fun b ps e=>?_⟩,I.loc,I.cell,up _ I.free,fun x c e=>up _ (I.freeC x c e),fun p hp=>?_,fun b ob e=>?_,I.len⟩
 ·have q:=I.base.tups b xs e
  rw [aj (ntup b xs q)]
  exact q
 ·have q:=I.base.frzs b ob z e
  have nb:b≠a:=fun z'=>by subst z';exact h0 _ _ e
  rw [aj nb]
  exact q
 ·obtain ⟨m,q⟩:=I.base.tbls b ps e
  have nb:b≠a:=fun z'=>by subst z';rw [q] at ha;cases ha
  exact ⟨m,by rw [aj nb];exact q⟩
 ·obtain ⟨e,n,r⟩:=I.pin p hp
  exact ⟨e,up _ n,r⟩
 ·by_cases hb:b=a
  ·subst hb
   rw [ad] at e
   cases e
   obtain ⟨_,q⟩:=I.hok b _ ha
   exact q.stay (fun _ _ _ q=>q) (fun c r=>by rw [aj (nown c b r)];exact r) fun c xs r=>by rw [aj (ntup c xs r)];exact r
  ·rw [aj hb] at e
   exact (I.hok b ob e).stay (fun _ _ _ q=>q) (fun c r=>by rw [aj (nown c b r)];exact r) fun c xs r=>by rw [aj (ntup c xs r)];exact r
theorem Inv.nofrz (I:Inv X pins σ H s) (ha:H a=some u) (nu:∀ o' u',u≠.frz o' u'):∀ o' u',X.H₀ a≠some (.frz o' u'):=fun o' u' e=>by
 have q:=I.base.frzs a o' u' e
 rw [ha] at q
 exact nu _ _ (jh q)
noncomputable def tThaw (t:TE):TE:=fun σ H Q=>∃ a u,H a=some u∧(∀ o' u',u≠.frz o' u')∧t σ H fun v H'=>∃ o,H' a=some (.frz o u)∧Q v (upd H' a u)
theorem pe_thaw {e:Expr} {t:TE} (h:PE X e t):PE X e (tThaw t):=by
 intro pins s σ H Q I q
 obtain ⟨a,u,ha,nu,q⟩:=q
 exact thn (h pins s σ H _ I q) fun v s1 ⟨x,H1,I1,r1,o,e1,q1⟩=>⟨x,_,I1.thaw e1 (I.nofrz ha nu),r1,q1⟩
noncomputable def tThawS (t:TS):TS:=fun D σ H=>∃ a u,H a=some u∧(∀ o' u',u≠.frz o' u')∧t { D with nx:=fun σ' H'=>∃ o,H' a=some (.frz o u)∧D.nx σ' (upd H' a u),rt:=fun v H'=>∃ o,H' a=some (.frz o u)∧D.rt v (upd H' a u),ct:=fun σ' H'=>∃ o,H' a=some (.frz o u)∧D.ct σ' (upd H' a u),bk:=fun σ' H'=>∃ o,H' a=some (.frz o u)∧D.bk σ' (upd H' a u) } σ H
theorem eV {st:Stmt} {t:TS} (h:PS X st t):PS X st (tThawS t):=by
 intro pins s σ H D I q
 obtain ⟨a,u,ha,nu,q⟩:=q
 have hn:=I.nofrz ha nu
 refine thn (h pins s σ H _ I q) fun f s1 q1=>?_
 cases f with
 | next=>obtain ⟨σ1,H1,I1,o,e1,q2⟩:=q1;exact ⟨σ1,_,I1.thaw e1 hn,q2⟩
 | cont=>obtain ⟨σ1,H1,I1,o,e1,q2⟩:=q1;exact ⟨σ1,_,I1.thaw e1 hn,q2⟩
 | brk=>obtain ⟨σ1,H1,I1,o,e1,q2⟩:=q1;exact ⟨σ1,_,I1.thaw e1 hn,q2⟩
 | ret v=>obtain ⟨x,σ1,H1,I1,r1,o,e1,q2⟩:=q1;exact ⟨x,σ1,_,I1.thaw e1 hn,r1,q2⟩
noncomputable def Itd (a:Addr) (o:Obj) (kvs:List (Key × V)):It:=
 ⟨fun i H=>H a=some (.frz o (.dK kvs))∧i<kvs.length,fun i H x H'=>H'=H∧∃ kv,kvs[i]?=some kv∧x=kV kv.1,fun i H=>H a=some (.frz o (.dK kvs))∧kvs.length≤i⟩
theorem KV.get {κ:Type}:∀ {kvs:List (κ × V)} {vs:List (κ × Value)} {i:Nat} {kv:κ × V},KV kvs vs→kvs[i]?=some kv→∃ v,vs[i]?=some (kv.1,v)∧RelV kv.2 v
 | _,_,_,_,.nil,e=>by simp at e
 | _,_,0,kv,.cons (b:=b) r t,e=>by
  simp at e
  subst e
  exact ⟨b.2,by simp [r.1],r.2⟩
 | _,_,i+1,kv,.cons r t,e=>by
  obtain ⟨v,e',r'⟩:=KV.get (i:=i) t (by simpa using e)
  exact ⟨v,by simpa using e',r'⟩
theorem is_kV {P:Program} {w:World} {k:Key} {u:Value} (h:(aY P w).is k u=true):RelV (kV k) u:=by
 rcases bw (show keyIs k u=true from h) with ⟨i,t,rfl,rfl⟩ | ⟨x,t,rfl,rfl⟩
 ·exact ⟨t,rfl⟩
 ·exact ⟨t,rfl⟩
theorem turn_dict {P:Program} {w:World} {K:PySem.W.Frag} {tg:Expr} (a it:Addr) (o:Obj) (kvs:List (Key × V)) {es:Array DictEntry} {ep:Nat} (hd:o.data=.dict es ep):Turn P w K tg (Itd a o kvs) [it] it (fun i h=>h.IsKeyIter it a i kvs.length ep) where
 mem:=by simp
 obj:=fun i h st b hb=>by
  have e:b=it:=by simpa using hb
  subst e
  obtain ⟨o,e,c,d⟩:=st
  exact ⟨o,e,fun v z=>by rw [d] at z;cases z⟩
 keep:=fun i h h' st k=>st.at fun o e=>k it (by simp) o e
 item:=by
  intro X hP hw hK hc i pins s σ H E I hf st hg
  subst hP hw hK
  obtain ⟨ha,hi⟩:=hg
  obtain ⟨ho,hz,hs,vs,r,o',es',ep',e1,e2,e3,e4,e5,e6⟩:=I.hok a _ ha
  rw [ho] at e1;cases e1
  rw [hd] at e3;cases e3
  have hx:kvs[i]?=some kvs[i]:=iO hi
  obtain ⟨v,hv,rv⟩:=KV.get r hx
  obtain ⟨f0,f1,f2,f3,f4,f5⟩:=hf it (by simp)
  have st0:s.heap.IsKeyIter it a i vs.length ep:=by rw [← r.length];exact st
  refine wpAny_pyNext_dict_item st0 ⟨o,es,ho,e2,hd,e4,e5,e6⟩ hv fun key h' hk st' sb=>?_
  rw [← r.length] at st'
  have I1:Inv X pins σ H { s with heap:=h' }:=I.turned (t':=s.toks) (fun b o hb e=>(sb.2 b hb).trans e) f0 f1 f3 f4 f5
  obtain ⟨oi,e,c,d⟩:=id st'
  exact ⟨key,rfl,go_of (s:={ s with heap:=h' }) e c d (by decide) ⟨kV (kvs[i]).1,H,I1,is_kV hk,⟨rfl,_,hx,rfl⟩,st',fun b hb=>(hf b hb).1⟩⟩
 done:=by
  intro X hP hw hK hc i pins s σ H E I hf st hg
  subst hP hw hK
  obtain ⟨ha,hi⟩:=hg
  obtain ⟨ho,hz,hs,vs,r,o',es',ep',e1,e2,e3,e4,e5,e6⟩:=I.hok a _ ha
  rw [ho] at e1;cases e1
  rw [hd] at e3;cases e3
  obtain ⟨f0,f1,f2,f3,f4,f5⟩:=hf it (by simp)
  have st0:s.heap.IsKeyIter it a i vs.length ep:=by rw [← r.length];exact st
  exact wpAny_pyNext_dict_end (I.ok.hd hc) st0 ⟨o,es,ho,e2,hd,e4,e5,e6⟩ (List.getElem?_eq_none (by rw [← r.length];exact hi)) fun h' eb=>⟨rfl,I.turned (t':=s.toks) (fun b o hb e=>eb b o hb e) f0 f1 f3 f4 f5⟩
 self:=fun _ _ _ _ _ st h=>wpAny_pyIter_keyiter st h
noncomputable def iDic (tl:TE):TI:=fun σ H R=>tl σ H fun x H1=>∃ a kvs,x=.ref a∧H1 a=some (.dK kvs)∧∀ o,R (Itd a o kvs) (upd H1 a (.frz o (.dK kvs)))
theorem fE {tg l:Expr} {tl:TE} (hl:PE X l tl):PI X tg l (iDic tl):=by
 intro pins s σ H R I h
 refine thn (hl pins s σ H _ I h) fun v s1 ⟨x,H1,I1,r1,q1⟩=>?_
 obtain ⟨a,kvs,e,ha,q⟩:=q1
 subst e
 cases r1
 obtain ⟨hz,hs,vs,r,o,es,ep,e1,e2,e3,e4,e5,e6⟩:=dk_of I1.hok ha
 have I2:Inv X pins σ (upd H1 a (.frz o (.dK kvs))) s1:=I1.freeze ha True.intro e1
 refine wpAny_pyIter_dict hs ⟨o,es,e1,e2,e3,e4,e5,e6⟩ ?_
 refine ⟨s1.heap.objs.size,[s1.heap.objs.size],_,_,_,rfl,I2.kept (t':=s1.toks) fun b o e=>iN _ e,turn_dict a _ o kvs e3,⟨_,i9 _ rfl,rfl,by rw [r.length];rfl⟩,fun b hb=>?_,q o⟩
 have e:b=s1.heap.objs.size:=by simpa using hb
 subst e
 exact I2.fpOk (iP _) (I2.hok.fresh (iP _))
end
theorem fX {a:Addr} {o:Obj} {kvs:List (Key × V)} {g:TG} {tb:TS} {D:Ends} {σ:St} {H:Hp} (Pv:Nat→St→Hp→Prop) (h0:Pv 0 σ H) (hl:∀ i σ H,i≤kvs.length→Pv i σ H→H a=some (.frz o (.dK kvs)))
  (hs:∀ i kv σ H,kvs[i]?=some kv→Pv i σ H→g (kV kv.1) σ H fun σ2 H2=>tb { D with nx:=Pv (i+1),ct:=Pv (i+1),bk:=D.nx } σ2 H2) (hd:∀ σ H,Pv kvs.length σ H→D.nx σ H) :
  ∃ W:Nat→Nat→St→Hp→Prop,(∃ m,W 0 m σ H)∧∀ i m σ H,W i m σ H→
   ((Itd a o kvs).stop i H∧D.nx σ H)∨((Itd a o kvs).go i H∧∃ N:St→Hp→Prop,(∀ σ' H',N σ' H'→∃ m',m'<m∧W (i+1) m' σ' H')∧∀ x H',(Itd a o kvs).yld i H x H'→g x σ H' fun σ2 H2=>tb { D with nx:=N,ct:=N,bk:=D.nx } σ2 H2):=by
 refine ⟨fun i m σ H=>m=kvs.length-i∧i≤kvs.length∧Pv i σ H,⟨kvs.length,by simp,iY _,h0⟩,?_⟩
 rintro i m σ H ⟨rfl,hi,p⟩
 have q:=hl i σ H hi p
 by_cases hlt:i<kvs.length
 ·refine .inr ⟨⟨q,hlt⟩,Pv (i+1),fun σ' H' p'=>⟨kvs.length-(i+1),by omega,rfl,hlt,p'⟩,fun x H' y=>?_⟩
  obtain ⟨e,kv,hkv,ex⟩:=y
  subst e ex
  exact hs i kv σ _ hkv p
 ·have e:i=kvs.length:=by omega
  subst e
  exact .inl ⟨⟨q,iP _⟩,hd σ H p⟩
end L2
namespace L2
open PySem PySem.Spec PyProof.Rows
noncomputable def fB (n:Nat) (Pv:Nat→Hp→Prop) (i:Nat) (H:Hp):Prop:=∃ m',m'<n-i∧m'=n-(i+1)∧i+1≤n∧Pv (i+1) H
theorem dN {n i:Nat} {Pv:Nat→Hp→Prop} {H:Hp} (hi:i<n) (h:Pv (i+1) H):fB n Pv i H:=⟨n-(i+1),by omega,rfl,hi,h⟩
section
variable {l:Addr} {k:Nat} {g:TG} {tc:TT} {te:TE} {ρ:St} {R:Hp→Prop} {H₀:Hp}
theorem fZ {J:It} {n:Nat} (Pv:Nat→Hp→Prop) (h0:Pv 0 (upd H₀ l (.lst []))) (hgo:∀ i H,i<n→Pv i H→J.go i H) (hst:∀ H,Pv n H→J.stop n H)
  (hs:∀ i x H H',i<n→J.yld i H x H'→Pv i H→∀ zs:St,zs.length=k→g x (zs ++ ρ) H' fun σ2 H2=>(∃ zs':St,zs'.length=k∧σ2=zs' ++ ρ)∧tc σ2 H2 fun b H3=>if b=true then te σ2 H3 fun y H4=>∃ ys,H4 l=some (.lst ys)∧ys.length<sizeLine∧fB n Pv i (upd H4 l (.lst (ys++[y]))) else fB n Pv i H3)
  (hd:∀ H,Pv n H→R H) :
  ∃ W:Nat→Nat→Hp→Prop,(∃ m,W 0 m (upd H₀ l (.lst [])))∧∀ i m H,W i m H→
   (J.stop i H∧R H)∨(J.go i H∧∀ x H',J.yld i H x H'→∀ zs:St,zs.length=k→g x (zs ++ ρ) H' fun σ2 H2=>(∃ zs':St,zs'.length=k∧σ2=zs' ++ ρ)∧tc σ2 H2 fun b H3=>if b=true then te σ2 H3 fun y H4=>∃ ys,H4 l=some (.lst ys)∧ys.length<sizeLine∧∃ m',m'<m∧W (i+1) m' (upd H4 l (.lst (ys++[y]))) else ∃ m',m'<m∧W (i+1) m' H3):=by
 refine ⟨fun i m H=>m=n-i∧i≤n∧Pv i H,⟨n,by simp,iY _,h0⟩,?_⟩
 rintro i m H ⟨rfl,hi,p⟩
 by_cases hlt:i<n
 ·exact .inr ⟨hgo i H hlt p,fun x H' y=>hs i x H H' hlt y p⟩
 ·have e:i=n:=by omega
  subst e
  exact .inl ⟨hst H p,hd H p⟩
theorem cZ {K:PySem.W.Frag} {a:Addr} {xs:List V} (Pv:Nat→Hp→Prop) (h0:Pv 0 (upd H₀ l (.lst []))) (hl:∀ i H,Pv i H→SqL K H a xs)
  (hs:∀ i x H,xs[i]?=some x→Pv i H→∀ zs:St,zs.length=k→g x (zs ++ ρ) H fun σ2 H2=>(∃ zs':St,zs'.length=k∧σ2=zs' ++ ρ)∧tc σ2 H2 fun b H3=>if b=true then te σ2 H3 fun y H4=>∃ ys,H4 l=some (.lst ys)∧ys.length<sizeLine∧fB xs.length Pv i (upd H4 l (.lst (ys++[y]))) else fB xs.length Pv i H3)
  (hd:∀ H,Pv xs.length H→R H) :
  ∃ W:Nat→Nat→Hp→Prop,(∃ m,W 0 m (upd H₀ l (.lst [])))∧∀ i m H,W i m H→
   ((Itl K a).stop i H∧R H)∨((Itl K a).go i H∧∀ x H',(Itl K a).yld i H x H'→∀ zs:St,zs.length=k→g x (zs ++ ρ) H' fun σ2 H2=>(∃ zs':St,zs'.length=k∧σ2=zs' ++ ρ)∧tc σ2 H2 fun b H3=>if b=true then te σ2 H3 fun y H4=>∃ ys,H4 l=some (.lst ys)∧ys.length<sizeLine∧∃ m',m'<m∧W (i+1) m' (upd H4 l (.lst (ys++[y]))) else ∃ m',m'<m∧W (i+1) m' H3):=
 fZ (n:=xs.length) Pv h0 (fun i H hi p=>⟨xs,xs[i],hl i H p,iO hi⟩) (fun H p=>⟨xs,hl _ H p,iP _⟩) (fun i x H H' hi y p=>by
  obtain ⟨e,y⟩:=y
  subst e
  exact hs i x _ (y xs (hl i _ p)) p) hd
theorem compG_range {lo:Int} {n:Nat} (Pv:Nat→Hp→Prop) (h0:Pv 0 (upd H₀ l (.lst [])))
  (hs:∀ i H,i<n→Pv i H→∀ zs:St,zs.length=k→g (.int (lo+i)) (zs ++ ρ) H fun σ2 H2=>(∃ zs':St,zs'.length=k∧σ2=zs' ++ ρ)∧tc σ2 H2 fun b H3=>if b=true then te σ2 H3 fun y H4=>∃ ys,H4 l=some (.lst ys)∧ys.length<sizeLine∧fB n Pv i (upd H4 l (.lst (ys++[y]))) else fB n Pv i H3)
  (hd:∀ H,Pv n H→R H) :
  ∃ W:Nat→Nat→Hp→Prop,(∃ m,W 0 m (upd H₀ l (.lst [])))∧∀ i m H,W i m H→
   ((Itr lo n).stop i H∧R H)∨((Itr lo n).go i H∧∀ x H',(Itr lo n).yld i H x H'→∀ zs:St,zs.length=k→g x (zs ++ ρ) H' fun σ2 H2=>(∃ zs':St,zs'.length=k∧σ2=zs' ++ ρ)∧tc σ2 H2 fun b H3=>if b=true then te σ2 H3 fun y H4=>∃ ys,H4 l=some (.lst ys)∧ys.length<sizeLine∧∃ m',m'<m∧W (i+1) m' (upd H4 l (.lst (ys++[y]))) else ∃ m',m'<m∧W (i+1) m' H3):=
 fZ (n:=n) Pv h0 (fun i H hi p=>hi) (fun H p=>iP _) (fun i x H H' hi y p=>by
  obtain ⟨e,y⟩:=y
  subst e y
  exact hs i _ hi p) hd
theorem compG_dict {a:Addr} {o:Obj} {kvs:List (Key × V)} (Pv:Nat→Hp→Prop) (h0:Pv 0 (upd H₀ l (.lst []))) (hl:∀ i H,Pv i H→H a=some (.frz o (.dK kvs)))
  (hs:∀ i kv H,kvs[i]?=some kv→Pv i H→∀ zs:St,zs.length=k→g (kV kv.1) (zs ++ ρ) H fun σ2 H2=>(∃ zs':St,zs'.length=k∧σ2=zs' ++ ρ)∧tc σ2 H2 fun b H3=>if b=true then te σ2 H3 fun y H4=>∃ ys,H4 l=some (.lst ys)∧ys.length<sizeLine∧fB kvs.length Pv i (upd H4 l (.lst (ys++[y]))) else fB kvs.length Pv i H3)
  (hd:∀ H,Pv kvs.length H→R H) :
  ∃ W:Nat→Nat→Hp→Prop,(∃ m,W 0 m (upd H₀ l (.lst [])))∧∀ i m H,W i m H→
   ((Itd a o kvs).stop i H∧R H)∨((Itd a o kvs).go i H∧∀ x H',(Itd a o kvs).yld i H x H'→∀ zs:St,zs.length=k→g x (zs ++ ρ) H' fun σ2 H2=>(∃ zs':St,zs'.length=k∧σ2=zs' ++ ρ)∧tc σ2 H2 fun b H3=>if b=true then te σ2 H3 fun y H4=>∃ ys,H4 l=some (.lst ys)∧ys.length<sizeLine∧∃ m',m'<m∧W (i+1) m' (upd H4 l (.lst (ys++[y]))) else ∃ m',m'<m∧W (i+1) m' H3):=
 fZ (n:=kvs.length) Pv h0 (fun i H hi p=>⟨hl i H p,hi⟩) (fun H p=>⟨hl _ H p,iP _⟩) (fun i x H H' hi y p=>by
  obtain ⟨e,kv,hkv,ex⟩:=y
  subst e ex
  exact hs i kv _ hkv p) hd
end
theorem g1 {v:V} {ρ:St} {H:Hp} {Q:St→Hp→Prop} (h:Q (some v :: ρ) H):∀ zs:St,zs.length=1→gName 0 v (zs ++ ρ) H Q:=fun zs hz=>by
 match zs,hz with
 | [z],_=>exact h
theorem yes {σ:St} {H:Hp} {A B:Hp→Prop} (h:A H):tYes σ H (fun b H3=>if b=true then A H3 else B H3):=by
 show if true=true then A H else B H
 rw [if_pos rfl]
 exact h
end L2
namespace L2
open PySem PySem.Spec PyProof.Rows
section
variable {X:Cx}
noncomputable def Iti (a:Addr) (o:Obj) (kvs:List (Key × V)):It:=
 ⟨fun i H=>H a=some (.frz o (.dK kvs))∧i<kvs.length,fun i H x H'=>∃ kv t,kvs[i]?=some kv∧H t=none∧x=.ref t∧H'=upd H t (.tup [kV kv.1,kv.2]),fun i H=>H a=some (.frz o (.dK kvs))∧kvs.length≤i⟩
theorem gX:entryFor table "dict_itemiterator.__iter__"=some Builtin.«dict_keyiterator.__iter__»:=entryFor_alias (id':="dict_keyiterator.__iter__") (by kernel_rfl) rfl (by decide +kernel) (by kernel_rfl)
theorem Inv.trackI {pins:List (Addr × Obj)} {σ:St} {H:Hp} {s:Shared} {t:Addr} {o:HO} (I:Inv X pins σ H s) (h0:X.s₀.heap.objs.size≤t) (hn:H t=none) (hL:t≠X.env.locals) (hc:∀ x c,X.env.cells.lookup x=some c→c≠t) (hp:∀ p∈X.pn++pins,p.1≠t) (hok:HOk X.prog X.w (upd H t o) s.heap):Inv X pins σ (upd H t o) s:=by
 have up:∀ c,c≠t→H c=none→upd H t o c=none:=fun c n r=>by rw [aj n];exact r
 refine ⟨I.ok,I.os,I.bare,⟨I.base.keep,I.base.slot,fun b ob e n hx=>up b (jm (jg (iT e) h0)) (I.base.free b ob e n hx),I.base.there,fun b xs e=>?_,fun b ob z e=>?_,fun b ps e=>?_⟩,I.loc,I.cell,up _ hL.symm I.free,fun x c e=>up _ (hc x c e) (I.freeC x c e),fun p hp'=>?_,hok,I.len⟩
 ·have q:=I.base.tups b xs e
  rw [aj (aB q hn)]
  exact q
 ·have q:=I.base.frzs b ob z e
  rw [aj (aB q hn)]
  exact q
 ·obtain ⟨m,q⟩:=I.base.tbls b ps e
  exact ⟨m,by rw [aj (aB q hn)];exact q⟩
 ·obtain ⟨e,n,r⟩:=I.pin p hp'
  exact ⟨e,up _ (hp p hp') n,r⟩
theorem turn_items {P:Program} {w:World} {K:PySem.W.Frag} {elts:List Expr} {x1} {tpos:Pos} (a it:Addr) (o:Obj) (kvs:List (Key × V)) {es:Array DictEntry} {ep:Nat} (hd:o.data=.dict es ep) :
  Turn P w K (.Tuple elts x1 tpos) (Iti a o kvs) [it] it (fun i h=>∃ ok ov,IsItemIter h it a i kvs.length ep ok ov) where
 mem:=by simp
 obj:=fun i h st b hb=>by
  have e:b=it:=by simpa using hb
  subst e
  obtain ⟨ok,ov,e⟩:=st
  exact ⟨_,e,fun v z=>by
   have z':Data.fields _=Data.cell v:=z
   cases z'⟩
 keep:=fun i h h' st k=>let ⟨ok,ov,e⟩:=st;⟨ok,ov,k it (by simp) _ e⟩
 item:=by
  intro X hP hw hK hc i pins s σ H E I hf st hg
  subst hP hw hK
  obtain ⟨ha,hi⟩:=hg
  obtain ⟨ho,hz,hs,vs,r,o',es',ep',e1,e2,e3,e4,e5,e6⟩:=I.hok a _ ha
  rw [ho] at e1;cases e1
  rw [hd] at e3;cases e3
  have hx:kvs[i]?=some kvs[i]:=iO hi
  obtain ⟨v,hv,rv⟩:=KV.get r hx
  obtain ⟨f0,f1,f2,f3,f4,f5⟩:=hf it (by simp)
  obtain ⟨ok,ov,st⟩:=st
  have st0:IsItemIter s.heap it a i vs.length ep ok ov:=by rw [← r.length];exact st
  refine wpAny_pyNext_items_item st0 ⟨o,es,ho,e2,hd,e4,e5,e6⟩ hv fun key h' hk st' ht hz' kk=>?_
  rw [← r.length] at st'
  refine ⟨_,rfl,?_⟩
  refine wpAny_letOwnedTupleGo_items (s:={ s with heap:=h' }) st' fun h2 st2 sb=>?_
  have nt:s.heap.objs.size≠it:=kg (iT st0)
  have I1:Inv X pins σ H { s with heap:=h2,toks:=s.toks }:=I.turned (t':=s.toks) (fun b o hb e=>(sb.2 b hb).trans (kk b o hb e)) f0 f1 f3 f4 f5
  have hn:H s.heap.objs.size=none:=I.hok.fresh (iP _)
  have ht2:h2.get? s.heap.objs.size=some { cls:=.type "tuple",data:=.seq #[key,v] }:=(sb.2 _ nt).trans ht
  have hok:HOk X.prog X.w (upd H s.heap.objs.size (.tup [kV (kvs[i]).1,(kvs[i]).2])) h2:=fun b u e=>by
   by_cases hb:b=s.heap.objs.size
   ·subst hb
    rw [ad] at e
    cases e
    exact ⟨by show 2≤sizeLine;decide,[key,v],.cons (is_kV hk) (.cons rv .nil),_,ht2,rfl,_,rfl⟩
   ·rw [aj hb] at e
    exact (I1.hok b u e).stay (fun _ _ _ q=>q) (fun c q=>by rw [aj (aB q hn)];exact q) fun c xs q=>by rw [aj (aB q hn)];exact q
  have I2:=I1.trackI (t:=s.heap.objs.size) I.sz hn (kg I.lt) (fun x c e z=>by
   obtain ⟨v,q⟩:=I.cell x c e
   exact absurd q.lt (by rw [z];exact jE _)) (fun p hp z=>absurd (iT (I.pin p hp).1) (by rw [z];exact jE _)) hok
  refine ⟨.ref s.heap.objs.size,_,I2,rfl,⟨_,_,hx,hn,rfl,rfl⟩,⟨_,_,st2⟩,fun b hb=>?_⟩
  have e:b=it:=by simpa using hb
  subst e
  rw [aj nt.symm]
  exact f0
 done:=by
  intro X hP hw hK hc i pins s σ H E I hf st hg
  subst hP hw hK
  obtain ⟨ha,hi⟩:=hg
  obtain ⟨ho,hz,hs,vs,r,o',es',ep',e1,e2,e3,e4,e5,e6⟩:=I.hok a _ ha
  rw [ho] at e1;cases e1
  rw [hd] at e3;cases e3
  obtain ⟨f0,f1,f2,f3,f4,f5⟩:=hf it (by simp)
  obtain ⟨ok,ov,st⟩:=st
  have st0:IsItemIter s.heap it a i vs.length ep ok ov:=by rw [← r.length];exact st
  exact wpAny_pyNext_items_end (I.ok.hd hc) st0 ⟨o,es,ho,e2,hd,e4,e5,e6⟩ (List.getElem?_eq_none (by rw [← r.length];exact hi)) fun h' eb=>⟨rfl,I.turned (t':=s.toks) (fun b o hb e=>eb b o hb e) f0 f1 f3 f4 f5⟩
 self:=fun _ _ _ _ _ st h=>by
  obtain ⟨ok,ov,st⟩:=st
  have hT:Shared.TypeIs _ (.ref it) "dict_itemiterator":=⟨_,st,rfl⟩
  refine wpAny_pyIter_slot hT F.slot_dict_itemiterator_iter (wpAny_call_entry F.slot_dict_itemiterator_iter hT gX ?_ (F.args_dict_itemiterator_iter_1 _))
  show wpAny _ _ (ret (.ref it)) _ _ _
  exact iQ ⟨_,rfl,"dict_itemiterator",_,hT,F.slot_dict_itemiterator_next.lookup,h⟩
noncomputable def iItems (to:TE):TI:=fun σ H R=>to σ H fun x H1=>∃ a kvs,x=.ref a∧H1 a=some (.dK kvs)∧∀ o,R (Iti a o kvs) (upd H1 a (.frz o (.dK kvs)))
theorem pi_items {elts:List Expr} {x1} {tpos apos cpos:Pos} {o:Expr} {to:TE} (ho:PE X o to) (hbase:attributeBase o "items" X.env (eval o X.env)=eval o X.env:=by rfl) (hline:(apos.endLine == cpos.line)=true:=by rfl) :
  PI X (.Tuple elts x1 tpos) (.Call (.Attribute o "items" apos) [] [] cpos) (iItems to):=by
 intro pins s σ H R I h
 refine wpAny_Call_method0_late hbase hline (thn (ho pins s σ H _ I h) fun v s1 ⟨x,H1,I1,r1,a,kvs,e,ha,q⟩=>?_)
 subst e
 cases r1
 obtain ⟨hz,hs,vs,r,o,es,ep,e1,e2,e3,e4,e5,e6⟩:=dk_of I1.hok ha
 have hm:s1.heap.DictOf (aY X.prog X.w) a vs:=⟨o,es,ep,e1,e2,e3,e4,e5,e6⟩
 obtain ⟨h1,h2⟩:=tyV_is (T:="dict") I1 (x:=.ref a) rfl (.inr (.inr (.inl ⟨rfl,.inl ⟨kvs,ha⟩⟩)))
 refine ⟨"dict","dict.items",F.plainAttrs_dict,F.slot_dict_items,F.type_dict_items,h1,h2,?_⟩
 have I2:Inv X pins σ (upd H1 a (.frz o (.dK kvs))) s1:=I1.freeze ha True.intro e1
 refine method_meetsIn F.slot_dict_items F.entry_dict_items rfl (PySem.evalArgs_none ⟨rfl,hm.typeIs,F.args_dict_items_1 _,_,meets_dict_items (aY X.prog X.w) a hs,⟨vs,hm⟩,?_⟩)
 have I3:Inv X pins σ (upd H1 a (.frz o (.dK kvs))) { s1 with heap:=s1.heap.push { cls:=.type "dict_items",data:=.fields #[.ref a] } }:=I2.kept (t':=s1.toks) fun b o e=>iN _ e
 refine wpAny_pyIter_items (knd:=aY X.prog X.w) (d:=a) (kvs:=vs) (ep:=ep) ⟨_,i9 _ rfl,rfl,rfl⟩ ⟨o,es,iN _ e1,e2,e3,e4,e5,e6⟩ ?_
 refine ⟨_,[_],_,_,_,rfl,I3.kept (t':=s1.toks) fun b o e=>iN _ e,turn_items a _ o kvs e3,⟨.none,.none,?_⟩,fun b hb=>?_,q o⟩
 ·rw [r.length]
  exact i9 _ rfl
 ·have e:=jH.mp hb
  subst e
  exact I3.fpOk (iP _) (I3.hok.fresh (iP _))
end
theorem for_items {a:Addr} {o:Obj} {kvs:List (Key × V)} {g:TG} {tb:TS} {D:Ends} {σ:St} {H:Hp} (Pv:Nat→St→Hp→Prop) (h0:Pv 0 σ H) (hl:∀ i σ H,i≤kvs.length→Pv i σ H→H a=some (.frz o (.dK kvs)))
  (hs:∀ i kv t σ H,kvs[i]?=some kv→H t=none→Pv i σ H→g (.ref t) σ (upd H t (.tup [kV kv.1,kv.2])) fun σ2 H2=>tb { D with nx:=Pv (i+1),ct:=Pv (i+1),bk:=D.nx } σ2 H2) (hd:∀ σ H,Pv kvs.length σ H→D.nx σ H) :
  ∃ W:Nat→Nat→St→Hp→Prop,(∃ m,W 0 m σ H)∧∀ i m σ H,W i m σ H→
   ((Iti a o kvs).stop i H∧D.nx σ H)∨((Iti a o kvs).go i H∧∃ N:St→Hp→Prop,(∀ σ' H',N σ' H'→∃ m',m'<m∧W (i+1) m' σ' H')∧∀ x H',(Iti a o kvs).yld i H x H'→g x σ H' fun σ2 H2=>tb { D with nx:=N,ct:=N,bk:=D.nx } σ2 H2):=by
 refine ⟨fun i m σ H=>m=kvs.length-i∧i≤kvs.length∧Pv i σ H,⟨kvs.length,by simp,iY _,h0⟩,?_⟩
 rintro i m σ H ⟨rfl,hi,p⟩
 have q:=hl i σ H hi p
 by_cases hlt:i<kvs.length
 ·refine .inr ⟨⟨q,hlt⟩,Pv (i+1),fun σ' H' p'=>⟨kvs.length-(i+1),by omega,rfl,hlt,p'⟩,fun x H' y=>?_⟩
  obtain ⟨kv,t,hkv,ht,ex,eh⟩:=y
  subst ex eh
  exact hs i kv t σ _ hkv ht p
 ·have e:i=kvs.length:=by omega
  subst e
  exact .inl ⟨⟨q,iP _⟩,hd σ H p⟩
end L2
namespace L2
open PySem PySem.Spec PyProof.Rows
theorem vals_idx:∀ {xs:List V} {us:List Value},xs.length=us.length→(∀ (j:Nat) (x:V) (u:Value),xs[j]?=some x→us[j]?=some u→RelV x u)→Vals xs us
 | [],[],_,_=>.nil
 | [],_::_,h,_=>by cases h
 | _::_,[],h,_=>by cases h
 | x::xs,u::us,h,k=>.cons (k 0 x u rfl rfl) (vals_idx (Nat.succ.inj h) fun j y w a b=>k (j+1) y w (by simpa using a) (by simpa using b))
section
variable {X:Cx}
theorem fz (hh:X.A.handled=none):gx X (.type "list") (fun xs H Q=>∃ p kvs,xs=[.ref p]∧Rd H p (.dK kvs)∧∀ l,H l=none→Q (.ref l) (upd H l (.lst (kvs.map fun kv=>kV kv.1)))):=by
 intro pins s σ H xs us Q I r h
 obtain ⟨p,kvs,rfl,hp,q⟩:=h
 obtain ⟨u,rfl,rx⟩:=vals1 r
 cases rx
 obtain ⟨hz,hs,vs,kv,hD⟩:=gK I.hok hp
 obtain ⟨ep,hat⟩:=hD.dictAt
 have el:=kv.length
 refine PySem.W.kdl_call (PySem.W.kdl_dict (knd:=aY X.prog X.w) (kvs:=vs) (ep:=ep) hs) hh hat (by rw [← el];exact hz) fun h' tk acc c hk hD' hacc=>?_
 obtain ⟨e1,e2⟩:=hacc
 refine ⟨.ref s.heap.objs.size,_,I.laid (t':=tk) hk (iP _) (show ObjOk X.prog X.w _ h' _ (.lst (kvs.map fun kv=>kV kv.1)) from ⟨by rw [iM];exact hz,acc.toList,c,vals_idx (by rw [iM,el,← e1];simp) fun j x w a b=>?_,by simpa using hD'⟩),rfl,q _ (I.hok.fresh (iP _))⟩
 rw [i4] at a
 cases e:kvs[j]? with
 | none=>rw [e] at a;cases a
 | some z=>
  rw [e] at a
  cases a
  obtain ⟨v,hv,_⟩:=KV.get kv e
  obtain ⟨k,y,hk,hi⟩:=e2 j w (by simpa using b)
  rw [hv] at hk
  cases hk
  exact is_kV hi
noncomputable def ViewO (v d:Addr):HO:=.ext fun h=>h.IsValuesView v d
noncomputable def rValues:V→List V→Hp→VK→Prop:=fun x vs H Q=>∃ a kvs,x=.ref a∧vs=[]∧Rd H a (.dK kvs)∧∀ v,H v=none→Q (.ref v) (upd H v (ViewO v a))
theorem mt_values:MtM X "dict.values" rValues:=by
 intro pins s σ H x vs v us Q I rx rv h
 obtain ⟨a,kvs,rfl,rfl,ha,q⟩:=h
 cases rx
 cases rv
 obtain ⟨hz,hs,ws,kv,hD⟩:=gK I.hok ha
 refine call_meetsIn PySem.F.slot_dict_values hD.typeIs PySem.F.entry_dict_values (PySem.F.args_dict_values_1 _) (meets_dict_values (aY X.prog X.w) a hs) ⟨⟨ws,hD⟩,?_⟩
 have e:(s.heap.push { cls:=.type "dict_values",data:=.fields #[.ref a] }).get? s.heap.objs.size=some { cls:=.type "dict_values",data:=.fields #[.ref a] }:=i9 _ rfl
 refine ⟨.ref s.heap.objs.size,_,I.laid (t':=s.toks) (fun b o e=>iN _ e) (iP _) (show ObjOk X.prog X.w _ _ _ (ViewO _ a) from ⟨⟨_,e,rfl,rfl⟩,⟨_,e⟩,fun h1 h2 z k=>?_⟩),rfl,q _ (I.hok.fresh (iP _))⟩
 obtain ⟨o,ho,c⟩:=z
 exact ⟨o,k _ ho,c⟩
theorem call_list_vals (hh:X.A.handled=none):gx X (.type "list") (fun xs H Q=>∃ v a kvs,xs=[.ref v]∧H v=some (ViewO v a)∧Rd H a (.dK kvs)∧∀ l,H l=none→Q (.ref l) (upd H l (.lst (kvs.map (·.2))))):=by
 intro pins s σ H xs us Q I r h
 obtain ⟨v,p,kvs,rfl,hv,hp,q⟩:=h
 obtain ⟨u,rfl,rx⟩:=vals1 r
 cases rx
 obtain ⟨hz,hs,vs,kv,hD⟩:=gK I.hok hp
 obtain ⟨ep,hat⟩:=hD.dictAt
 obtain ⟨hview,_⟩:=(show ObjOk X.prog X.w H s.heap v (ViewO v p) from I.hok v _ hv)
 have el:=kv.length
 refine PySem.W.kdl_call (PySem.W.kdl_values (knd:=aY X.prog X.w) (kvs:=vs) (ep:=ep)) hh ⟨hview,hat⟩ (by rw [← el];exact hz) fun h' tk acc c hk hD' hacc=>?_
 obtain ⟨e1,e2⟩:=hacc
 refine ⟨.ref s.heap.objs.size,_,I.laid (t':=tk) hk (iP _) (show ObjOk X.prog X.w _ h' _ (.lst (kvs.map (·.2))) from ⟨by rw [iM];exact hz,acc.toList,c,vals_idx (by rw [iM,el,← e1];simp) fun j x w a b=>?_,by simpa using hD'⟩),rfl,q _ (I.hok.fresh (iP _))⟩
 rw [i4] at a
 cases e:kvs[j]? with
 | none=>rw [e] at a;cases a
 | some z=>
  rw [e] at a
  cases a
  obtain ⟨y,hy,ry⟩:=KV.get kv e
  obtain ⟨k,hk⟩:=e2 j w (by simpa using b)
  rw [hy] at hk
  cases hk
  exact ry
end
end L2
namespace L2
open PySem PySem.Spec PyProof.Rows
section
variable {X:Cx}
theorem bo:gx X (.type "dict") (fun xs H Q=>∃ p kvs,xs=[.ref p]∧Rd H p (.dK kvs)∧∀ l,H l=none→Q (.ref l) (upd H l (.dK kvs))):=by
 intro pins s σ H xs us Q I r h
 obtain ⟨p,kvs,rfl,hp,q⟩:=h
 obtain ⟨u,rfl,rx⟩:=vals1 r
 cases rx
 exact d_copyOf I hp fun l s' nl I'=>⟨.ref l,_,I',rfl,q l nl⟩
end
section
variable {l:Addr} {k:Nat} {g:TG} {tc:TT} {te:TE} {ρ:St} {R:Hp→Prop} {H₀:Hp}
theorem compG_items {a:Addr} {o:Obj} {kvs:List (Key × V)} (Pv:Nat→Hp→Prop) (h0:Pv 0 (upd H₀ l (.lst []))) (hl:∀ i H,Pv i H→H a=some (.frz o (.dK kvs)))
  (hs:∀ i kv t H,kvs[i]?=some kv→H t=none→Pv i H→∀ zs:St,zs.length=k→g (.ref t) (zs ++ ρ) (upd H t (.tup [kV kv.1,kv.2])) fun σ2 H2=>(∃ zs':St,zs'.length=k∧σ2=zs' ++ ρ)∧tc σ2 H2 fun b H3=>if b=true then te σ2 H3 fun y H4=>∃ ys,H4 l=some (.lst ys)∧ys.length<sizeLine∧fB kvs.length Pv i (upd H4 l (.lst (ys++[y]))) else fB kvs.length Pv i H3)
  (hd:∀ H,Pv kvs.length H→R H) :
  ∃ W:Nat→Nat→Hp→Prop,(∃ m,W 0 m (upd H₀ l (.lst [])))∧∀ i m H,W i m H→
   ((Iti a o kvs).stop i H∧R H)∨((Iti a o kvs).go i H∧∀ x H',(Iti a o kvs).yld i H x H'→∀ zs:St,zs.length=k→g x (zs ++ ρ) H' fun σ2 H2=>(∃ zs':St,zs'.length=k∧σ2=zs' ++ ρ)∧tc σ2 H2 fun b H3=>if b=true then te σ2 H3 fun y H4=>∃ ys,H4 l=some (.lst ys)∧ys.length<sizeLine∧∃ m',m'<m∧W (i+1) m' (upd H4 l (.lst (ys++[y]))) else ∃ m',m'<m∧W (i+1) m' H3):=
 fZ (n:=kvs.length) Pv h0 (fun i H hi p=>⟨hl i H p,hi⟩) (fun H p=>⟨hl _ H p,iP _⟩) (fun i x H H' hi y p=>by
  obtain ⟨kv,t,hkv,ht,ex,eh⟩:=y
  subst ex eh
  exact hs i kv t _ hkv ht p) hd
end
section
variable {X:Cx} {CX:CXT} {j:Nat} {E:XK} {m:Str} {pos apos:Pos} {e o:Expr} {es:List Expr} {ta:TE} {t:TA}
theorem pe_mtDK {pl:Sem Bool} {P:Program} {w:World} {K:PySem.W.Frag} {mg:Str→Option Value} {base:Heap} (hP:X.prog=P) (hw:X.w=w) (hK:X.K=K) (hmg:X.mg=mg) (hb:X.base=base) (he:PE X o ta) (hr:Room j X.A) (hx:c7 CX X E) (ha:PA X (e::es) t)
  (hst:starEach (e::es) X.env=(false,eval e X.env)::starEach es X.env:=by rfl) (hpl:(backTo pos (starEach es X.env)).any (·.1)=false:=by rfl)
  (ht:eval (.Call (.Attribute o m apos) (e::es) [] pos) X.env=(do
   let ov ← eval o X.env
   standAt apos.atName
   let (f,first) ← holding [ov] (getMethod ov m pl)
   callWith pos f first (backTo pos (starEach (e::es) X.env)) (backToKw pos (keywordEach [] X.env))):=by rfl):PE X (.Call (.Attribute o m apos) (e::es) [] pos) (tMethD P w K mg base CX m j E ta t):=by
 subst hP hw hK hmg hb
 exact hU he hr hx ha hst hpl ht
theorem pg_tupK {K:PySem.W.Frag} {es:List Expr} {k:Nat} {t:TGs} {n:Nat} (hK:X.K=K) (hc:X.calm=true) (h:PGs X es t)
  (hn:(assignEach es X.env).length=n:=by rfl) (hst:(assignEach es X.env).findIdx? (·.1)=none:=by rfl):PG X (.Tuple es k pos) (gTup K n t):=by
 subst hK
 exact eO hc h hn hst
end
section
variable {X:Cx}
end
end L2
namespace L2
open PySem PySem.Spec PyProof.Rows
section
variable {X:Cx}
theorem Inv.turnedL {pins:List (Addr × Obj)} {σ:St} {H:Hp} {s:Shared} {h':Heap} {t':Nat} {its:List Addr} (I:Inv X pins σ H s) (k:∀ b o,b ∉ its→s.heap.get? b=some o→h'.get? b=some o) (hf:∀ b∈its,FpOk X pins H b):Inv X pins σ H { s with heap:=h',toks:=t' }:=by
 have nit:∀ b u,H b=some u→b ∉ its:=fun b u e z=>by rw [(hf b z).1] at e;cases e
 have hL:X.env.locals ∉ its:=fun z=>(hf _ z).2.1 rfl
 refine I.step (g':=s.gens) (d':=s.drawn) (ch:=its) (fun b hb=>?_) (fun b o _ _ hc e _=>k b o hc e) (fun b o _ _ hc e _=>⟨o.slots,k b o hc e⟩) (fun _ _ _ _ n=>n)
  (fun b o hc e=>⟨o,k b o hc e⟩) (fun _ _ e=>e) (fun _ _ _ e=>e) (fun b ps e=>⟨#[],by rw [e];simp⟩) (fun m hm=>?_) (fun b u e=>?_) I.bare
 ·obtain ⟨_,h1,_,h3,h4,h5⟩:=hf b hb
  exact ⟨h3,h1,h4,h5⟩
 ·obtain ⟨o,es,ep,ho,r⟩:=hm
  exact ⟨o,es,ep,k _ o hL ho,r⟩
 ·refine (I.hok b u e).stay (fun c v hc q=>k c v ?_ q) (fun _ q=>q) fun _ _ q=>q
  rcases hc with z | z
  ·rw [z];exact nit b u e
  ·exact nit c _ z
noncomputable def Itz (K:PySem.W.Frag) (a b:Addr) (xs ys:List V):It:=
 ⟨fun i H=>SqL K H a xs∧SqL K H b ys∧i<xs.length∧i<ys.length,fun i H v H'=>∃ x y t,xs[i]?=some x∧ys[i]?=some y∧H t=none∧v=.ref t∧H'=upd H t (.tup [x,y]),fun i H=>SqL K H a xs∧SqL K H b ys∧(xs.length≤i∨ys.length≤i)⟩
theorem ig:∀ {xs:List V} {us:List Value},Vals xs us→∀ {i:Nat} {x:V},xs[i]?=some x→∃ u,us[i]?=some u∧RelV x u
 | _,_,.nil,i,x,e=>by simp at e
 | _,_,.cons r t,0,x,e=>by
  simp at e
  subst e
  exact ⟨_,rfl,r⟩
 | _,_,.cons r t,i+1,x,e=>by
  obtain ⟨u,h1,h2⟩:=ig t (i:=i) (x:=x) (by simpa using e)
  exact ⟨u,by simpa using h1,h2⟩
end
section
variable {l:Addr} {k:Nat} {g:TG} {tc:TT} {te:TE} {ρ:St} {R:Hp→Prop} {H₀:Hp}
end
end L2
namespace L2
open PySem PySem.Spec PyProof.Rows
theorem eqV_str (x y:Str):eqV (.str x) (.str y)=decide (x=y):=by
 unfold eqV
 by_cases h:x=y
 ·subst h;simp
 ·simp [h]
theorem fo (ts:List Str):(ts.map V.str).all eT=true:=by
 rw [ke]
 intro v hv
 obtain ⟨t,_,rfl⟩:=iZ.mp hv
 rfl
section
variable {X:Cx}
end
section
variable {prog:Program} {w:World} {A:Around}
variable {E:Value→Shared→Prop} {s:Shared}
end
section
variable {X:Cx}
noncomputable def rNeL (K:PySem.W.Frag):R2:=fun x y H Q=>∃ p q xs ys,x=.ref p∧y=.ref q∧SqL K H p xs∧SqL K H q ys∧xs.all eT=true∧ys.all eT=true∧Q (.bl (!eqVs xs ys)) H
theorem op_neL (hu:X.A.units<cLine):OpR X (compareOp .NotEq) (rNeL X.K):=by
 intro pins s σ H x y v u Q I rx ry h
 obtain ⟨p,q,xs,ys,rfl,rfl,hp,hq,fx,fy,k⟩:=h
 cases rx
 cases ry
 obtain ⟨us,r,pl,_⟩:=I.list hp
 obtain ⟨ws,r',pl',_⟩:=I.list hq
 have e1:=r.length
 have e2:=r'.length
 by_cases hl:xs.length=ys.length
 ·refine SeqAt.RcNeAt.lists (e:=iI xs ys) pl.isList pl'.isList (by simp;omega) hu (fun j h1 h2=>?_) X.prog X.w X.xe _ ⟨.bl _,H,I,rfl,?_⟩
  ·have j1:j<us.length:=by simpa using h1
   have j2:j<ws.length:=by simpa using h2
   have a1:xs[j]?=some (xs[j]'(by omega)):=iO _
   have a2:ys[j]?=some (ys[j]'(by omega)):=iO _
   have:iI xs ys j=eqV (xs[j]'(by omega)) (ys[j]'(by omega)):=by unfold iI;rw [a1,a2]
   rw [this,List.getElem_toArray,List.getElem_toArray]
   exact eqAt_V (ii r a1 (iO j1)) (ii r' a2 (iO j2)) (ke.mp fx _ (List.getElem_mem _)) (ke.mp fy _ (List.getElem_mem _))
  ·rw [jj,← e1,eqVs_all hl]
   exact k
 ·refine SeqAt.RcNeAt.lists_lengths pl.isList pl'.isList (by simp;omega) hu X.prog X.w X.xe _ ⟨.bl _,H,I,rfl,?_⟩
  rw [eqVs_len hl] at k
  exact k
theorem eqVs_strs:∀ ts:List Str,eqVs (ts.map V.str) (ts.map V.str)=true
 | []=>rfl
 | t::ts=>by
  show (eqV (.str t) (.str t) && eqVs (ts.map V.str) (ts.map V.str))=true
  rw [eqVs_strs ts,eqV_str,iW rfl]
  rfl
end
end L2
namespace L2
open PySem PySem.Spec PyProof.Rows
section
variable {X:Cx}
theorem tup_all {xs ys:List V} {us ws:List Value} (e1:xs.length=us.length) (e2:ys.length=ws.length):((List.range (min us.toArray.size ws.toArray.size)).all (iI xs ys) && us.toArray.size == ws.toArray.size)=eqVs xs ys:=by
 rw [jj,jj,← e1,← e2]
 by_cases hl:xs.length=ys.length
 ·rw [← hl,Nat.min_self,eqVs_all hl]
  simp
 ·rw [eqVs_len hl]
  simp [hl]
theorem tup_eqs {pins:List (Addr × Obj)} {σ:St} {H:Hp} {s:Shared} {xs ys:List V} {us ws:List Value} (I:Inv X pins σ H s) (r:Vals xs us) (r':Vals ys ws) (fx:xs.all eT=true) (fy:ys.all eT=true) {A:Around}:∀ j (h1:j<us.toArray.size) (h2:j<ws.toArray.size),SeqAt.EqAt A s us.toArray[j] ws.toArray[j] (iI xs ys j):=fun j h1 h2=>by
 have e1:=r.length
 have e2:=r'.length
 have j1:j<us.length:=by simpa using h1
 have j2:j<ws.length:=by simpa using h2
 have a1:xs[j]?=some (xs[j]'(by omega)):=iO _
 have a2:ys[j]?=some (ys[j]'(by omega)):=iO _
 have:iI xs ys j=eqV (xs[j]'(by omega)) (ys[j]'(by omega)):=by unfold iI;rw [a1,a2]
 rw [this,List.getElem_toArray,List.getElem_toArray]
 exact eqAt_V (ii r a1 (iO j1)) (ii r' a2 (iO j2)) (ke.mp fx _ (List.getElem_mem _)) (ke.mp fy _ (List.getElem_mem _))
noncomputable def rNeT (K:PySem.W.Frag):R2:=fun x y H Q=>∃ p q xs ys,x=.ref p∧y=.ref q∧SqT K H p xs∧SqT K H q ys∧xs.all eT=true∧ys.all eT=true∧Q (.bl (!eqVs xs ys)) H
theorem op_neT (hu:X.A.units<cLine):OpR X (compareOp .NotEq) (rNeT X.K):=by
 intro pins s σ H x y v u Q I rx ry h
 obtain ⟨p,q,xs,ys,rfl,rfl,hp,hq,fx,fy,k⟩:=h
 cases rx
 cases ry
 obtain ⟨us,r,pl,_⟩:=I.tuple hp
 obtain ⟨ws,r',pl',_⟩:=I.tuple hq
 refine SeqAt.RcNeAt.tuples (e:=iI xs ys) pl pl' hu (tup_eqs I r r' fx fy) X.prog X.w X.xe _ ⟨.bl _,H,I,rfl,?_⟩
 rw [tup_all r.length r'.length]
 exact k
end
end L2
namespace L2
open PySem PySem.Spec PyProof.Rows
section
variable {X:Cx}
end
end L2
namespace L2
open PySem PySem.Spec PyProof.Rows
noncomputable def Its (z:Str):It:=⟨fun i _=>i<z.cps.size,fun i H v H'=>H'=H∧∃ c,z.cps[i]?=some c∧v=.str ⟨#[c]⟩,fun i _=>z.cps.size≤i⟩
section
variable {X:Cx}
theorem call_allK {K:PySem.W.Frag} (hK:X.K=K) (hh:X.A.handled=none):gx X (.builtin "all") (fun xs H Q=>∃ p bs,xs=[.ref p]∧SqL K H p ((bs:List Bool).map V.bl)∧Q (.bl (bs.all id)) H):=by
 subst hK
 intro pins s σ H xs us Q I r h
 obtain ⟨p,bs,rfl,hp,q⟩:=h
 obtain ⟨u,rfl,rx⟩:=vals1 r
 cases rx
 obtain ⟨its,rv,pl,hz⟩:=I.list hp
 have hl:=rv.length
 rw [iM] at hl
 have lt:p<s.heap.objs.size:=by obtain ⟨o,n,e,_⟩:=pl;exact iT e
 refine call_all_walk (wpAny_pyIter_list pl.isList ?_)
 refine ⟨s.heap.objs.size,_,_,_,_,_,fun i=>bs.getD i true,rfl,Walks.list (A:=X.A.in1) hh s.heap.objs.size p (jm lt) its.toArray,⟨⟨_,i9 _ rfl,rfl,rfl⟩,pl.isList.push _⟩,fun i v s' Q' E' hP hQ=>?_,fun h' tk hk=>?_⟩
 ·have hP:its.toArray[i]?=some v:=hP
  have hi:its[i]?=some v:=by simpa using hP
  have hb:bs[i]?=some (bs[i]'(by have:=(iL.mp hi).1;omega)):=iO _
  have ev:=ii rv (x:=.bl _) (by rw [i4,hb];rfl) hi
  have ev:v=Value.bool _:=ev
  rw [ev]
  refine wpAny_truthy_bool ?_
  have e:bs.getD i true=bs[i]'(by have:=(iL.mp hi).1;omega):=by rw [jR,hb];rfl
  rw [← e]
  exact hQ
 ·have e:(List.range its.toArray.size).all (fun i=>bs.getD i true)=bs.all id:=by
   rw [jj,← hl]
   rw [Bool.eq_iff_iff,ke,ke]
   constructor
   ·intro h b hb
    obtain ⟨i,hi⟩:=jN.mp hb
    have:=h i (List.mem_range.mpr (iL.mp hi).1)
    rw [jR,hi] at this
    exact this
   ·intro h i hi
    rw [jR,iO (List.mem_range.mp hi)]
    exact h _ (List.getElem_mem _)
  rw [e]
  exact ⟨.bl _,H,I.kept (t':=tk) (fun b o hb=>hk b o (fun hm=>by
   have e:b=s.heap.objs.size:=by simpa using hm
   exact absurd (iT hb) (by rw [e];exact jE _)) (iN _ hb)),rfl,q⟩
end
section
variable {l:Addr} {k:Nat} {g:TG} {tc:TT} {te:TE} {ρ:St} {R:Hp→Prop} {H₀:Hp}
end
end L2
namespace L2
open PySem PySem.Spec PyProof.Rows
section
variable {X:Cx}
noncomputable def Ite (K:PySem.W.Frag) (a:Addr) (xs:List V):It:=
 ⟨fun i H=>SqL K H a xs∧i<xs.length,fun i H v H'=>∃ x t,xs[i]?=some x∧H t=none∧v=.ref t∧H'=upd H t (.tup [.int i,x]),fun i H=>SqL K H a xs∧xs.length≤i⟩
theorem turn_enum {P:Program} {w:World} {K:PySem.W.Frag} {elts:List Expr} {x1} {tpos:Pos} {e it a:Addr} (ne:e≠it) (xs:List V) :
  Turn P w K (.Tuple elts x1 tpos) (Ite K a xs) [e,it] e (fun i h=>(∃ old,IsEnum h e it i old)∧h.IsListIter it a i) where
 mem:=by simp
 obj:=fun i h st c hc=>by
  obtain ⟨⟨old,h1⟩,⟨o4,e4,_,d4⟩⟩:=st
  simp only [ja,jc,or_false] at hc
  rcases hc with rfl | rfl
  ·exact ⟨_,h1,fun v z=>by have z':Data.fields _=Data.cell v:=z;cases z'⟩
  ·exact ⟨_,e4,fun v z=>by rw [d4] at z;cases z⟩
 keep:=fun i h h' st k=>by
  obtain ⟨⟨old,h1⟩,⟨o4,e4,r4⟩⟩:=st
  exact ⟨⟨old,k e (by simp) _ h1⟩,⟨o4,k it (by simp) _ e4,r4⟩⟩
 item:=by
  intro X hP hw hK hc i pins s σ H E I hf st hg
  subst hP hw hK
  obtain ⟨ha,hx⟩:=hg
  obtain ⟨⟨old,h1⟩,h4⟩:=st
  obtain ⟨us,ru,pu,_⟩:=I.list ha
  have ex:xs[i]?=some xs[i]:=iO hx
  obtain ⟨u,eu,rux⟩:=ig ru ex
  refine wpAny_pyNext_enum_item h1 h4 pu.isList (by simpa using eu) ne fun h' a1 a2 a3 a4 a5=>?_
  refine ⟨_,rfl,?_⟩
  refine wpAny_letOwnedTupleGo_enum (s:={ s with heap:=h',toks:=s.toks+1 }) a1 fun h2' z2 sb=>?_
  have nt:s.heap.objs.size≠e:=kg (iT h1)
  have I1:Inv X pins σ H { s with heap:=h2',toks:=s.toks+1 }:=I.turnedL (its:=[e,it]) (t':=s.toks+1) (fun c o hc q=>by
   simp only [ja,jc,or_false,not_or] at hc
   exact (sb.2 c hc.1).trans (a5 c o hc.1 hc.2 q)) hf
  have hn:H s.heap.objs.size=none:=I.hok.fresh (iP _)
  have ht2:h2'.get? s.heap.objs.size=some { cls:=.type "tuple",data:=.seq #[.int i s.toks,u] }:=(sb.2 _ nt).trans a3
  have hok:HOk X.prog X.w (upd H s.heap.objs.size (.tup [.int i,xs[i]])) h2':=fun c o q=>by
   by_cases hb:c=s.heap.objs.size
   ·subst hb
    rw [ad] at q
    cases q
    exact ⟨by show 2≤sizeLine;decide,[.int i s.toks,u],.cons ⟨_,rfl⟩ (.cons rux .nil),_,ht2,rfl,_,rfl⟩
   ·rw [aj hb] at q
    exact (I1.hok c o q).stay (fun _ _ _ q=>q) (fun c q=>by rw [aj (aB q hn)];exact q) fun c xs q=>by rw [aj (aB q hn)];exact q
  have I2:=I1.trackI (t:=s.heap.objs.size) I.sz hn (kg I.lt) (fun x c e z=>by
   obtain ⟨v,q⟩:=I.cell x c e
   exact absurd q.lt (by rw [z];exact jE _)) (fun p hp z=>absurd (iT (I.pin p hp).1) (by rw [z];exact jE _)) hok
  refine ⟨.ref s.heap.objs.size,_,I2,rfl,⟨_,_,ex,hn,rfl,rfl⟩,⟨⟨_,z2⟩,?_⟩,fun c hc=>?_⟩
  ·obtain ⟨o,q,r⟩:=a2
   exact ⟨o,(sb.2 _ ne.symm).trans q,r⟩
  ·have:c≠s.heap.objs.size:=by
    obtain ⟨o4,e4,_⟩:=h4
    simp only [ja,jc,or_false] at hc
    rcases hc with rfl | rfl
    ·exact jm (iT h1)
    ·exact jm (iT e4)
   rw [aj this]
   exact (hf c hc).1
 done:=by
  intro X hP hw hK hc i pins s σ H E I hf st hg
  subst hP hw hK
  obtain ⟨ha,hend⟩:=hg
  obtain ⟨⟨old,h1⟩,h4⟩:=st
  obtain ⟨us,ru,pu,_⟩:=I.list ha
  have lu:=ru.length
  refine wpAny_pyNext_enum_end (I.ok.hd hc) h1 h4 pu.isList (by simp;omega) fun h' a7=>⟨rfl,I.turnedL (its:=[e,it]) (t':=s.toks) (fun c o hc q=>by
   simp only [ja,jc,or_false,not_or] at hc
   exact a7 c o hc.2 q) hf⟩
 self:=fun _ _ _ _ _ st h=>by
  obtain ⟨⟨old,h1⟩,_⟩:=st
  exact wpAny_pyIter_enum h1 h
noncomputable def iEnum (K:PySem.W.Frag) (ta:TA):TI:=fun σ H R=>ta σ H fun vs H1=>∃ a xs,vs=[.ref a]∧SqL K H1 a xs∧R (Ite K a xs) H1
theorem pi_enum {elts:List Expr} {x1} {tpos:Pos} {a:Expr} {ta:TA} {p pos:Pos} (hg:Gl X "enumerate") (hm:X.mg "enumerate"=none) (ha:PA X [a] ta) (hs:starEach [a] X.env=[(false,eval a X.env)]:=by rfl):PI X (.Tuple elts x1 tpos) (.Call (.Name "enumerate" p) [a] [] pos) (iEnum X.K ta):=by
 intro pins s σ H R I h
 refine Call_ (ld_blt I hg hm boot_enumerate (PyProof.Rows.callWith_type1 (thn (ha pos pins s σ H _ I h) fun us s1 ⟨vs,H1,I1,r1,q1⟩=>?_) hs rfl))
 obtain ⟨l1,xs,e,h1,q⟩:=q1
 subst e
 cases r1 with
 | cons r rr=>
  cases rr
  cases r
  obtain ⟨us,ru,pu,_⟩:=I1.list h1
  refine call_enumerate_list pu.isList fun h' z1 z2 z3 z7=>?_
  have I2:Inv X pins σ H1 { s1 with heap:=h' }:=I1.kept (t':=s1.toks) z7
  refine wpAny_pyIter_enum z1 ⟨_,[s1.heap.objs.size+1,s1.heap.objs.size],_,_,_,rfl,I2,turn_enum (Nat.succ_ne_self _) xs,⟨⟨_,z1⟩,z2⟩,fun c hc=>?_,q⟩
  have hb:s1.heap.objs.size≤c:=by
   simp only [ja,jc,or_false] at hc
   rcases hc with rfl | rfl
   ·exact Nat.le_add_right _ _
   ·exact iP _
  exact I1.fpOk hb (I1.hok.fresh hb)
theorem for_enum {K:PySem.W.Frag} {a:Addr} {xs:List V} {g:TG} {tb:TS} {D:Ends} {σ:St} {H:Hp} (Pv:Nat→St→Hp→Prop) (h0:Pv 0 σ H) (hl:∀ i σ H,Pv i σ H→SqL K H a xs)
  (hs:∀ i x t σ H,xs[i]?=some x→H t=none→Pv i σ H→g (.ref t) σ (upd H t (.tup [.int i,x])) fun σ2 H2=>tb { D with nx:=Pv (i+1),ct:=Pv (i+1),bk:=D.nx } σ2 H2) (hd:∀ σ H,Pv xs.length σ H→D.nx σ H) :
  ∃ W:Nat→Nat→St→Hp→Prop,(∃ m,W 0 m σ H)∧∀ i m σ H,W i m σ H→
   ((Ite K a xs).stop i H∧D.nx σ H)∨((Ite K a xs).go i H∧∃ N:St→Hp→Prop,(∀ σ' H',N σ' H'→∃ m',m'<m∧W (i+1) m' σ' H')∧∀ x H',(Ite K a xs).yld i H x H'→g x σ H' fun σ2 H2=>tb { D with nx:=N,ct:=N,bk:=D.nx } σ2 H2):=by
 refine ⟨fun i m σ H=>m=xs.length-i∧i≤xs.length∧Pv i σ H,⟨xs.length,by simp,iY _,h0⟩,?_⟩
 rintro i m σ H ⟨rfl,hi,p⟩
 have q1:=hl i σ H p
 by_cases hlt:i<xs.length
 ·refine .inr ⟨⟨q1,hlt⟩,Pv (i+1),fun σ' H' p'=>⟨xs.length-(i+1),by omega,rfl,hlt,p'⟩,fun v H' y=>?_⟩
  obtain ⟨x,t,hx,ht,ev,eh⟩:=y
  subst ev eh
  exact hs i x t σ _ hx ht p
 ·have e:i=xs.length:=by omega
  subst e
  exact .inl ⟨⟨q1,iP _⟩,hd σ H p⟩
end
end L2
namespace L2
open PySem PySem.Spec PyProof.Rows
structure RoomH (k:Nat) (A:Around):Prop where
 dp:A.depth+3*k+5<recursionLimit
 un:A.units+16*k+200<cLine
structure FnOkH (P:Program) (w:World) (K:PySem.W.Frag) (mg:Str→Option Value) (base:Heap) (CX:CXT) (k:Nat) (f:Addr) (fd:FuncData) (ps:List Str) (sp:Sp):Prop where
 len:∀ vs H Q E,sp vs H Q E→vs.length=ps.length
 run:∀ (A:Around) (outer:List Env) (s:Shared) (H:Hp) (args:Args) (us:List Value) (vs:List V) (Q:VK) (E:XK),RoomH k A→Env0 P w K mg base A outer s H→BindsTo s fd args (ps.zip us)→Vals vs us→sp vs H Q E→
  codeAny (model P w) A (.call (.ref f) args) (CR CX outer P w H s Q E) s
section
variable {P:Program} {w:World} {K:PySem.W.Frag} {mg:Str→Option Value} {base:Heap}
end
section
variable {X:Cx} {CX:CXT} {k j:Nat} {f:Addr} {fd:FuncData} {ps:List Str} {sp:Sp} {dvs:List V} {ds:List Value} {E:XK} {x:Str} {p pos:Pos} {e:Expr} {es:List Expr} {t:TA}
end
end L2
namespace L2
open PySem PySem.Spec PyProof.Rows
section
variable {X:Cx}
theorem pe_xfldK {K:PySem.W.Frag} {e:Expr} {f:Str} {pos:Pos} {ta:TE} (hK:X.K=K) (he:PE X e ta) (hb:attributeBase e f X.env (eval e X.env)=eval e X.env):PE X (.Attribute e f pos) (tXf K ta f):=by
 subst hK
 exact pe_xfld he hb
end
end L2
namespace L2
open PySem PySem.Spec PyProof.Rows
section
variable {X:Cx}
variable {j:Nat} {m:Str} {pos apos:Pos} {e o:Expr} {es:List Expr} {ta:TE} {t:TA}
end
end L2
namespace L2
open PySem PySem.Spec PyProof.Rows
section
variable {X:Cx}
inductive EqD (K:PySem.W.Frag) (H:Hp):Nat→V→V→Prop
 | flat {n:Nat} {v:V} (h:eT v=true):EqD K H n v v
 | lst {n:Nat} {p q:Addr} {xs ys:List V} (hp:SqL K H p xs) (hq:SqL K H q ys) (hl:xs.length=ys.length) (h:∀ (j:Nat) (x y:V),xs[j]?=some x→ys[j]?=some y→EqD K H n x y):EqD K H (n+1) (.ref p) (.ref q)
 | tup {n:Nat} {p q:Addr} {xs ys:List V} (hp:SqT K H p xs) (hq:SqT K H q ys) (hl:xs.length=ys.length) (h:∀ (j:Nat) (x y:V),xs[j]?=some x→ys[j]?=some y→EqD K H n x y):EqD K H (n+1) (.ref p) (.ref q)
end
end L2
namespace L2
open PySem PySem.Spec PyProof.Rows
section
variable {X:Cx}
noncomputable def rDPop:V→List V→Hp→VK→Prop:=fun x vs H Q=>∃ a kvs k dv,x=.ref a∧vs=[kV k,dv]∧H a=some (.dK kvs)∧(∀ v,bc kvs k=some v→Q v (upd H a (.dK (dC kvs k))))∧(bc kvs k=none→Q dv H)
theorem mt_dpop:MtM X "dict.pop" rDPop:=by
 intro pins s σ H x vs v us Q I rx rv h
 obtain ⟨a,kvs,k,dv,rfl,rfl,ha,q1,q2⟩:=h
 cases rx
 cases rv with
 | cons r1 rr=>
  cases rr with
  | cons r2 r3=>
   cases r3
   cases e:bc kvs k with
   | none=>exact d_popD I ha r1 e fun s' I'=>⟨dv,_,I',r2,q2 e⟩
   | some v=>exact d_pop I ha r1 e (.inr ⟨_,rfl⟩) fun w' s' I' rw'=>⟨v,_,I',rw',q1 v e⟩
theorem call_isXDK {K:PySem.W.Frag} {c:Value} (hK:X.K=K):gx X (.builtin "isinstance") (rIsXD K c):=by
 subst hK
 exact call_isXD
end
end L2
namespace L2
open PySem PySem.Spec PyProof.Rows
theorem nb {x y:Nat} (h:x<y∨y<x):@Ne Addr x y:=fun e=>by have e:x=y:=e;omega
section
variable {prog:Program} {w:World} {A:Around} {E:Value→Shared→Prop} {s:Shared}
theorem tp_item {it t:Addr} {i:Nat} {us:Array Value} {x:Value} {Q:Value→Shared→Prop} (ji:s.heap.IsTupleIter it t i) (jt:s.heap.IsTuple t us) (jx:us[i]?=some x)
  (jq:∀ h',h'.IsTupleIter it t (i+1)→Heap.SameBut it s.heap h'→Q x { s with heap:=h' }):wpAny (model prog w) A (Builtin.SmallTypes.nextOf (.ref it)) Q E s:=by
 obtain ⟨oi,gi,ci,di⟩:=id ji
 obtain ⟨ot,gt,_,nt,dt⟩:=jt
 have ty:=ji.typeIs
 unfold Builtin.SmallTypes.nextOf
 refine iK (wpAny_callSpecial?_slot (name:=Str.ofString "__next__") ty F.slot_tuple_iterator_next (wpAny_call_entry F.slot_tuple_iterator_next ty F.entry_tuple_iterator_next ?_ (F.args_tuple_iterator_next_1 _)))
 refine iK (m:=field (.ref it) 0) (jB gi di (x:=.ref t) rfl ?_)
 show wpAny _ _ (ite ((Value.ref t == Value.none)=true) _ _) _ _ s
 rw [if_neg (fun z:(Value.ref t == Value.none)=true=>i8 z)]
 refine iK (m:=field (.ref it) 1) (jB gi di (x:=.int i 0) rfl (iK (m:=seqItems? (.ref t)) (wpAny_seqItems gt dt ?_)))
 simp only [Int.toNat_natCast,jx]
 refine iK (wpAny_setField gi di (by simp) (iQ ⟨x,rfl,iQ (jq _ ⟨_,Heap.get?_update_self _ gi (Obj.isFreed_of_fields (Obj.data_mapFields di _)),(Obj.cls_mapFields ..).trans ci,?_⟩ (Heap.SameBut.update ..))⟩))
 rw [Obj.data_mapFields di]
 simp [rawInt]
theorem tp_end {it t:Addr} {i:Nat} {us:Array Value} {Q:Value→Shared→Prop} (hh:A.handled=none) (ji:s.heap.IsTupleIter it t i) (jt:s.heap.IsTuple t us) (jx:us[i]?=none)
  (je:∀ h' e,Heap.ExtBut it s.heap h'→(∃ o,h'.get? e=some o∧o.cls=.type "StopIteration")→E (.ref e) { s with heap:=h' }):wpAny (model prog w) A (Builtin.SmallTypes.nextOf (.ref it)) Q E s:=by
 obtain ⟨oi,gi,ci,di⟩:=id ji
 obtain ⟨ot,gt,_,nt,dt⟩:=jt
 have ty:=ji.typeIs
 unfold Builtin.SmallTypes.nextOf
 refine iK (wpAny_callSpecial?_slot (name:=Str.ofString "__next__") ty F.slot_tuple_iterator_next (wpAny_call_entry F.slot_tuple_iterator_next ty F.entry_tuple_iterator_next ?_ (F.args_tuple_iterator_next_1 _)))
 refine iK (m:=field (.ref it) 0) (jB gi di (x:=.ref t) rfl ?_)
 show wpAny _ _ (ite ((Value.ref t == Value.none)=true) _ _) _ _ s
 rw [if_neg (fun z:(Value.ref t == Value.none)=true=>i8 z)]
 refine iK (m:=field (.ref it) 1) (jB gi di (x:=.int i 0) rfl (iK (m:=seqItems? (.ref t)) (wpAny_seqItems gt dt ?_)))
 simp only [Int.toNat_natCast,jx]
 refine iK (wpAny_rule (iK (wpAny_setField gi di (by simp) (iK (m:=newExc (.type "StopIteration") []) ?_))))
 simp only [newExc,newTuple]
 refine iK (j6 (iK (m:=firstArgMember _ _) (wpAny_of_eq (a:=Value.none) (by first | rfl | (simp only [firstArgMember];rfl)) (j6 ?_ (by size_fits)))) (by size_fits))
 simp only [raiseNew]
 refine iK (wpAny_handled ?_)
 first | rw [show A.in1.handled=none from hh] | rw [hh]
 refine iK (iQ (wpAny_throw ?_))
 exact je _ _ (((Heap.SameBut.update ..).extBut.push _).push _) ⟨_,i9 _ rfl,rfl⟩
theorem IsTI.but {h h':Heap} {b it t:Addr} {i:Nat} (z:h.IsTupleIter it t i) (k:Heap.ExtBut b h h') (ne:it≠b):h'.IsTupleIter it t i:=by
 obtain ⟨o,e,r⟩:=z
 exact ⟨o,k _ _ ne e,r⟩
theorem IsT.but {h h':Heap} {b t:Addr} {us:Array Value} (z:h.IsTuple t us) (k:Heap.ExtBut b h h') (ne:t≠b):h'.IsTuple t us:=by
 obtain ⟨o,e,r⟩:=z
 exact ⟨o,k _ _ ne e,r⟩
theorem zt_item {n l1 l2 k:Nat} {xs ys:Array Value} {x y a b:Value} {Q:Value→Shared→Prop} (m1:l1<n) (m2:l2<n)
  (e0:IsZip s.heap (n+4) (n+2) (n+3) .none) (e1:IsPair s.heap (n+2) (.ref n) (.ref (n+1))) (e2:IsPair s.heap (n+3) a b)
  (i1:s.heap.IsTupleIter n l1 k) (i2:s.heap.IsTupleIter (n+1) l2 k) (L1:s.heap.IsTuple l1 xs) (L2:s.heap.IsTuple l2 ys) (hx:xs[k]?=some x) (hy:ys[k]?=some y)
  (hQ:∀ h',IsZip h' (n+4) (n+2) (n+3) (rawInt s.heap.objs.size)→IsPair h' (n+3) x y→h'.IsTupleIter n l1 (k+1)→h'.IsTupleIter (n+1) l2 (k+1)→IsPair h' s.heap.objs.size x y→
   (∀ c o,c≠n+4→c≠n+3→c≠n→c≠n+1→s.heap.get? c=some o→h'.get? c=some o)→Q (.ref s.heap.objs.size) { s with heap:=h' }) :
  wpAny (model prog w) A (Builtin.«zip.__next__» ⟨[.ref (n+4)],[]⟩) (fun fin s'=>∃ v,fin=.done (.ret v)∧Q v s') E s:=by
 show wpAny _ _ (field (.ref (n+4)) 2 >>= _) _ _ _
 refine iK (jB e0 rfl (x:=.bool false) rfl ?_)
 show wpAny _ _ (field (.ref (n+4)) 3 >>= _) _ _ _
 refine iK (jB e0 rfl (x:=.ref (n+2)) rfl (iK (wpAny_seqItems e1 rfl ?_)))
 show wpAny _ _ (Builtin.SmallTypes.ownedTupleIsFree (.ref (n+4)) >>= _) _ _ _
 refine iK ?_;unfold Builtin.SmallTypes.ownedTupleIsFree
 refine iK (jB e0 rfl (x:=.none) rfl (iQ ?_))
 simp only [if_true]
 refine iK (wpAny_rule (iK (jB e0 rfl (x:=.ref (n+3)) rfl ?_)))
 refine iK (wpAny_setField_rec e0 (by simp) fun h₁ z₁ s₁=>iK ?_)
 replace z₁:IsZip h₁ (n+4) (n+2) (n+3) .ellipsis:=z₁
 simp only [List.zipIdx_cons,List.zipIdx_nil,List.forIn_cons,List.forIn_nil];skip
 refine iK (iK (wpAny_onRaise ?_))
 show wpAny _ _ (Builtin.SmallTypes.nextOf (.ref n) >>= _) _ _ _
 refine iK (tp_item (IsTI.but i1 s₁.extBut (nb (by omega))) (IsT.but L1 s₁.extBut (nb (by omega))) hx fun h₂ j1 s₂=>iQ ?_)
 have t₂:IsPair h₂ (n+3) a b:=s₂.extBut _ _ (nb (by omega)) (s₁.extBut _ _ (nb (by omega)) e2)
 refine iK (wpAny_seqItems t₂ rfl (iK (wpAny_updateSeq_pair t₂ fun h₃ t₃ s₃=>iK (wpAny_letGo (iQ ?_)))))
 replace t₃:IsPair h₃ (n+3) x b:=t₃
 refine iK (iK (wpAny_onRaise ?_))
 show wpAny _ _ (Builtin.SmallTypes.nextOf (.ref (n+1)) >>= _) _ _ _
 refine iK (tp_item (IsTI.but (IsTI.but (IsTI.but i2 s₁.extBut (nb (by omega))) s₂.extBut (nb (by omega))) s₃.extBut (nb (by omega))) (IsT.but (IsT.but (IsT.but L2 s₁.extBut (nb (by omega))) s₂.extBut (nb (by omega))) s₃.extBut (nb (by omega))) hy fun h₄ j2 s₄=>iQ ?_)
 have t₄:IsPair h₄ (n+3) x b:=s₄.extBut _ _ (nb (by omega)) t₃
 refine iK (wpAny_seqItems t₄ rfl (iK (wpAny_updateSeq_pair t₄ fun h₅ t₅ s₅=>iK (wpAny_letGo (iQ (iQ ?_))))))
 replace t₅:IsPair h₅ (n+3) x y:=t₅
 refine iK (wpAny_seqItems t₅ rfl (iK (wpAny_newTuple ?_)))
 have sz:h₅.objs.size=s.heap.objs.size:=by rw [s₅.1,s₄.1,s₃.1,s₂.1,s₁.1]
 have z₅:IsZip h₅ (n+4) (n+2) (n+3) .ellipsis:=s₅.extBut _ _ (nb (by omega)) (s₄.extBut _ _ (nb (by omega)) (s₃.extBut _ _ (nb (by omega)) (s₂.extBut _ _ (nb (by omega)) z₁)))
 have kp:∀ c o,c≠n+4→c≠n+3→c≠n→c≠n+1→s.heap.get? c=some o→h₅.get? c=some o:=fun c o c1 c2 c3 c4 e=>
  s₅.extBut _ _ c2 (s₄.extBut _ _ c4 (s₃.extBut _ _ c2 (s₂.extBut _ _ c3 (s₁.extBut _ _ c1 e))))
 have g1:h₅.IsTupleIter n l1 (k+1):=IsTI.but (IsTI.but (IsTI.but j1 s₃.extBut (nb (by omega))) s₄.extBut (nb (by omega))) s₅.extBut (nb (by omega))
 have g2:h₅.IsTupleIter (n+1) l2 (k+1):=IsTI.but j2 s₅.extBut (nb (by omega))
 have lt:n+4<h₅.objs.size:=iT z₅
 show wpAny _ _ (Builtin.SmallTypes.ownedTupleHandOut (.ref (n+4)) (.ref h₅.objs.size) >>= _) _ _ _
 refine iK ?_;unfold Builtin.SmallTypes.ownedTupleHandOut
 have z₆:IsZip (h₅.push { cls:=.type "tuple",data:=.seq #[x,y] }) (n+4) (n+2) (n+3) .ellipsis:=iN _ z₅
 refine iK (wpAny_setField_rec z₆ (by simp) fun h₉ z₉ s₉=>?_)
 replace z₉:IsZip h₉ (n+4) (n+2) (n+3) (rawInt h₅.objs.size):=z₉
 refine wpAny_setField_rec z₉ (by simp) fun h₀ z₀ s₀=>?_
 replace z₀:IsZip h₀ (n+4) (n+2) (n+3) (rawInt h₅.objs.size):=z₀
 have up:∀ c o,c≠n+4→h₅.get? c=some o→h₀.get? c=some o:=fun c o c1 e=>s₀.extBut _ _ c1 (s₉.extBut _ _ c1 (iN _ e))
 have tt:IsPair h₀ h₅.objs.size x y:=s₀.extBut _ _ (kg lt) (s₉.extBut _ _ (kg lt) (i9 _ rfl))
 rw [sz] at z₀ tt
 refine iQ ⟨_,rfl,?_⟩
 show Q (.ref h₅.objs.size) _
 rw [sz]
 exact hQ h₀ z₀ (up _ _ (nb (by omega)) t₅) (let ⟨o,e,r⟩:=g1;⟨o,up _ o (nb (by omega)) e,r⟩) (let ⟨o,e,r⟩:=g2;⟨o,up _ o (nb (by omega)) e,r⟩) tt fun c o c1 c2 c3 c4 e=>up c o c1 (kp c o c1 c2 c3 c4 e)
theorem zt_end {n l1 l2 k:Nat} {xs ys:Array Value} {a b:Value} {Q:Fin→Shared→Prop} (hh:A.handled=none) (m1:l1<n) (m2:l2<n)
  (e0:IsZip s.heap (n+4) (n+2) (n+3) .none) (e1:IsPair s.heap (n+2) (.ref n) (.ref (n+1))) (e2:IsPair s.heap (n+3) a b)
  (i1:s.heap.IsTupleIter n l1 k) (i2:s.heap.IsTupleIter (n+1) l2 k) (L1:s.heap.IsTuple l1 xs) (L2:s.heap.IsTuple l2 ys) (hend:xs[k]?=none∨ys[k]?=none)
  (hE:∀ h' e,(∀ c o,c≠n+4→c≠n+3→c≠n→c≠n+1→s.heap.get? c=some o→h'.get? c=some o)→(∃ o,h'.get? e=some o∧o.cls=.type "StopIteration")→E (.ref e) { s with heap:=h' }) :
  wpAny (model prog w) A (Builtin.«zip.__next__» ⟨[.ref (n+4)],[]⟩) Q E s:=by
 show wpAny _ _ (field (.ref (n+4)) 2 >>= _) _ _ _
 refine iK (jB e0 rfl (x:=.bool false) rfl ?_)
 show wpAny _ _ (field (.ref (n+4)) 3 >>= _) _ _ _
 refine iK (jB e0 rfl (x:=.ref (n+2)) rfl (iK (wpAny_seqItems e1 rfl ?_)))
 show wpAny _ _ (Builtin.SmallTypes.ownedTupleIsFree (.ref (n+4)) >>= _) _ _ _
 refine iK ?_;unfold Builtin.SmallTypes.ownedTupleIsFree
 refine iK (jB e0 rfl (x:=.none) rfl (iQ ?_))
 simp only [if_true]
 refine iK (wpAny_rule (iK (jB e0 rfl (x:=.ref (n+3)) rfl ?_)))
 refine iK (wpAny_setField_rec e0 (by simp) fun h₁ z₁ s₁=>iK ?_)
 replace z₁:IsZip h₁ (n+4) (n+2) (n+3) .ellipsis:=z₁
 simp only [List.zipIdx_cons,List.zipIdx_nil,List.forIn_cons,List.forIn_nil];skip
 refine iK (iK (wpAny_onRaise ?_))
 show wpAny _ _ (Builtin.SmallTypes.nextOf (.ref n) >>= _) _ _ _
 cases hx:xs[k]? with
 | none=>
  refine iK (tp_end hh (IsTI.but i1 s₁.extBut (nb (by omega))) (IsT.but L1 s₁.extBut (nb (by omega))) hx fun h₂ e s₂ ⟨oe,hoe,hce⟩=>?_)
  have z₂:IsZip h₂ (n+4) (n+2) (n+3) .ellipsis:=s₂ _ _ (nb (by omega)) z₁
  have ne:e≠n+4:=fun x=>by subst x;rw [z₂] at hoe;cases hoe;simp at hce
  exact wpAny_setField_rec z₂ (by simp) fun h₃ _ s₃=>hE h₃ e (fun c o c1 _ c3 _ x=>s₃.extBut _ _ c1 (s₂ _ _ c3 (s₁.extBut _ _ c1 x))) ⟨oe,s₃.extBut _ _ ne hoe,hce⟩
 | some x=>
  have hy:ys[k]?=none:=by rcases hend with h | h;rw [hx] at h;cases h;exact h
  refine iK (tp_item (IsTI.but i1 s₁.extBut (nb (by omega))) (IsT.but L1 s₁.extBut (nb (by omega))) hx fun h₂ j1 s₂=>iQ ?_)
  have t₂:IsPair h₂ (n+3) a b:=s₂.extBut _ _ (nb (by omega)) (s₁.extBut _ _ (nb (by omega)) e2)
  refine iK (wpAny_seqItems t₂ rfl (iK (wpAny_updateSeq_pair t₂ fun h₃ t₃ s₃=>iK (wpAny_letGo (iQ ?_)))))
  replace t₃:IsPair h₃ (n+3) x b:=t₃
  refine iK (iK (wpAny_onRaise ?_))
  show wpAny _ _ (Builtin.SmallTypes.nextOf (.ref (n+1)) >>= _) _ _ _
  refine iK (tp_end hh (IsTI.but (IsTI.but (IsTI.but i2 s₁.extBut (nb (by omega))) s₂.extBut (nb (by omega))) s₃.extBut (nb (by omega))) (IsT.but (IsT.but (IsT.but L2 s₁.extBut (nb (by omega))) s₂.extBut (nb (by omega))) s₃.extBut (nb (by omega))) hy fun h₄ e s₄ ⟨oe,hoe,hce⟩=>?_)
  have z₄:IsZip h₄ (n+4) (n+2) (n+3) .ellipsis:=s₄ _ _ (nb (by omega)) (s₃.extBut _ _ (nb (by omega)) (s₂.extBut _ _ (nb (by omega)) z₁))
  have ne:e≠n+4:=fun x=>by subst x;rw [z₄] at hoe;cases hoe;simp at hce
  exact wpAny_setField_rec z₄ (by simp) fun h₅ _ s₅=>hE h₅ e (fun c o c1 c2 c3 c4 x=>s₅.extBut _ _ c1 (s₄ _ _ c4 (s₃.extBut _ _ c2 (s₂.extBut _ _ c3 (s₁.extBut _ _ c1 x))))) ⟨oe,s₅.extBut _ _ ne hoe,hce⟩
end
noncomputable abbrev zth1 (h:Heap) (l1:Addr):Heap:=h.push { cls:=.type "tuple_iterator",data:=.fields #[.ref l1,.int 0 0] }
noncomputable abbrev zth2 (h:Heap) (l1 l2:Addr):Heap:=zth1 (zth1 h l1) l2
noncomputable abbrev zth3 (h:Heap) (l1 l2:Addr):Heap:=(zth2 h l1 l2).push { cls:=.type "tuple",data:=.seq #[.ref h.objs.size,.ref (zth1 h l1).objs.size] }
noncomputable abbrev zth4 (h:Heap) (l1 l2:Addr):Heap:=(zth3 h l1 l2).push { cls:=.type "tuple",data:=.seq #[.none,.none] }
noncomputable abbrev zth5 (h:Heap) (l1 l2:Addr):Heap:=(zth4 h l1 l2).push { cls:=.type "zip",data:=.fields #[.none,.bool false,.bool false,.ref (zth2 h l1 l2).objs.size,.ref (zth3 h l1 l2).objs.size] }
theorem zt_new (l1 l2:Addr) (xs ys:Array Value) :
  Meets (Builtin.«zip.__new__» ⟨[.type "zip",.ref l1,.ref l2],[]⟩) (fun _ R s=>s.heap.IsTuple l1 xs∧s.heap.IsTuple l2 ys∧
   R (.ok (.ret (.ref (zth4 s.heap l1 l2).objs.size))) { s with heap:=zth5 s.heap l1 l2 }):=
 .of_wp fun prog w A R s h=>by
  obtain ⟨hp,g,d,tk,os⟩:=s
  obtain ⟨m1,m2,h⟩:=h
  have hsub:=sub_zip
  have M1:Heap.IsTuple (Shared.heap ⟨hp,g,d,tk,os⟩) l1 xs:=m1
  have M2:Heap.IsTuple (Shared.heap ⟨zth1 hp l1,g,d,tk,os⟩) l2 ys:=let ⟨o,e,r⟩:=m2;⟨o,iN _ e,r⟩
  wp_walk using wpAny_pyIter_tuple M1,wpAny_pyIter_tuple M2
  exact ⟨_,rfl,h⟩
theorem zt_call {prog:Program} {w:World} {A:Around} {E:Value→Shared→Prop} {s:Shared} {l1 l2 n:Nat} {xs ys:Array Value} {Q:Value→Shared→Prop} (hn:n=s.heap.objs.size) (hl1:s.heap.IsTuple l1 xs) (hl2:s.heap.IsTuple l2 ys)
  (h:∀ h',IsZip h' (n+4) (n+2) (n+3) .none→IsPair h' (n+2) (.ref n) (.ref (n+1))→IsPair h' (n+3) .none .none→h'.IsTupleIter n l1 0→h'.IsTupleIter (n+1) l2 0→
   (∀ c o,s.heap.get? c=some o→h'.get? c=some o)→Q (.ref (n+4)) { s with heap:=h' }) :
  wpAny (model prog w) A (call (.type "zip") [.ref l1,.ref l2]) Q E s:=by
 refine callType_new F.called_zip (by decide) (F.typeCall_zip_2 _ _) (F.newCall_zip_2 _ _) (fun obj=>F.args_object_init_3 obj _ _) F.entry_zip_new (zt_new l1 l2 xs ys) ⟨hl1,hl2,?_⟩
 have q1:(zth1 s.heap l1).objs.size=n+1:=by rw [hn];exact Heap.size_push ..
 have q2:(zth2 s.heap l1 l2).objs.size=n+2:=by rw [Heap.size_push,q1]
 have q3:(zth3 s.heap l1 l2).objs.size=n+3:=by rw [Heap.size_push,q2]
 have q4:(zth4 s.heap l1 l2).objs.size=n+4:=by rw [Heap.size_push,q3]
 have pu:∀ {h:Heap} {o o':Obj} {c},h.get? c=some o→(h.push o').get? c=some o:=fun e=>iN _ e
 have g5:(zth5 s.heap l1 l2).get? (zth4 s.heap l1 l2).objs.size=some _:=i9 _ rfl
 have g4:(zth5 s.heap l1 l2).get? (zth3 s.heap l1 l2).objs.size=some _:=pu (i9 _ rfl)
 have g3:(zth5 s.heap l1 l2).get? (zth2 s.heap l1 l2).objs.size=some _:=pu (pu (i9 _ rfl))
 have g2:(zth5 s.heap l1 l2).get? (zth1 s.heap l1).objs.size=some _:=pu (pu (pu (i9 _ rfl)))
 have g1:(zth5 s.heap l1 l2).get? s.heap.objs.size=some _:=pu (pu (pu (pu (i9 _ rfl))))
 show _∧_
 rw [q2,q3,q4] at g5
 rw [q3] at g4
 rw [q1,q2,← hn] at g3
 rw [q1] at g2
 rw [← hn] at g1
 rw [q4]
 exact ⟨⟨_,g5,rfl⟩,h _ g5 g3 g4 ⟨_,g1,rfl,rfl⟩ ⟨_,g2,rfl,rfl⟩ fun c o x=>pu (pu (pu (pu (pu x))))⟩
section
variable {X:Cx}
noncomputable def Itzt (K:PySem.W.Frag) (a b:Addr) (xs ys:List V):It:=
 ⟨fun i H=>SqT K H a xs∧SqT K H b ys∧i<xs.length∧i<ys.length,fun i H v H'=>∃ x y t,xs[i]?=some x∧ys[i]?=some y∧H t=none∧v=.ref t∧H'=upd H t (.tup [x,y]),fun i H=>SqT K H a xs∧SqT K H b ys∧(xs.length≤i∨ys.length≤i)⟩
theorem turn_zt {P:Program} {w:World} {K:PySem.W.Frag} {elts:List Expr} {x1} {tpos:Pos} {n a b:Nat} (m1:a<n) (m2:b<n) (xs ys:List V) :
  Turn P w K (.Tuple elts x1 tpos) (Itzt K a b xs ys) [n+4,n+2,n+3,n,n+1] (n+4) (fun i h=>∃ p q,IsZip h (n+4) (n+2) (n+3) .none∧IsPair h (n+2) (.ref n) (.ref (n+1))∧IsPair h (n+3) p q∧h.IsTupleIter n a i∧h.IsTupleIter (n+1) b i) where
 mem:=by simp
 obj:=fun i h st d hd=>by
  obtain ⟨p,q,h1,h2,h3,⟨o4,e4,_,d4⟩,⟨o5,e5,_,d5⟩⟩:=st
  simp only [ja,jc,or_false] at hd
  rcases hd with rfl | rfl | rfl | rfl | rfl
  ·exact ⟨_,h1,fun v z=>by have z':Data.fields _=Data.cell v:=z;cases z'⟩
  ·exact ⟨_,h2,fun v z=>by have z':Data.seq _=Data.cell v:=z;cases z'⟩
  ·exact ⟨_,h3,fun v z=>by have z':Data.seq _=Data.cell v:=z;cases z'⟩
  ·exact ⟨_,e4,fun v z=>by rw [d4] at z;cases z⟩
  ·exact ⟨_,e5,fun v z=>by rw [d5] at z;cases z⟩
 keep:=fun i h h' st k=>by
  obtain ⟨p,q,h1,h2,h3,⟨o4,e4,r4⟩,⟨o5,e5,r5⟩⟩:=st
  exact ⟨p,q,k _ (by simp) _ h1,k _ (by simp) _ h2,k _ (by simp) _ h3,⟨o4,k _ (by simp) _ e4,r4⟩,⟨o5,k _ (by simp) _ e5,r5⟩⟩
 item:=by
  intro X hP hw hK hc i pins s σ H E I hf st hg
  subst hP hw hK
  obtain ⟨ha,hb,hx,hy⟩:=hg
  obtain ⟨p,q,h1,h2,h3,h4,h5⟩:=st
  obtain ⟨us,ru,pu,_⟩:=I.tuple ha
  obtain ⟨ws,rw',pw,_⟩:=I.tuple hb
  have ex:xs[i]?=some xs[i]:=iO hx
  have ey:ys[i]?=some ys[i]:=iO hy
  obtain ⟨u,eu,rux⟩:=ig ru ex
  obtain ⟨v,ev,rvy⟩:=ig rw' ey
  have hT:s.TypeIs (.ref (n+4)) "zip":=⟨_,h1,rfl⟩
  unfold pyNext
  refine iK (wpAny_attempt (wpAny_callSpecial?_slot (name:=Str.ofString "__next__") hT F.slot_zip_next (wpAny_call_entry F.slot_zip_next hT F.entry_zip_next (zt_item m1 m2 h1 h2 h3 h4 h5 (show s.heap.IsTuple a us.toArray from pu) (show s.heap.IsTuple b ws.toArray from pw) (by simpa using eu) (by simpa using ev) fun h' a1 a2 a3 a4 a6 a7=>iQ ?_) (F.args_zip_next_1 _))))
  refine ⟨_,rfl,?_⟩
  refine wpAny_letOwnedTupleGo_zip (s:={ s with heap:=h' }) a1 fun h2' z2 sb=>?_
  have nt:s.heap.objs.size≠n+4:=kg (iT h1)
  have I1:Inv X pins σ H { s with heap:=h2',toks:=s.toks }:=I.turnedL (its:=[n+4,n+2,n+3,n,n+1]) (t':=s.toks) (fun c o hc e=>by
   simp only [ja,jc,or_false,not_or] at hc
   exact (sb.2 c hc.1).trans (a7 c o hc.1 hc.2.2.1 hc.2.2.2.1 hc.2.2.2.2 e)) hf
  have hn:H s.heap.objs.size=none:=I.hok.fresh (iP _)
  have ht2:h2'.get? s.heap.objs.size=some { cls:=.type "tuple",data:=.seq #[u,v] }:=(sb.2 _ nt).trans a6
  have hok:HOk X.prog X.w (upd H s.heap.objs.size (.tup [xs[i],ys[i]])) h2':=fun c o e=>by
   by_cases hb:c=s.heap.objs.size
   ·subst hb
    rw [ad] at e
    cases e
    exact ⟨by show 2≤sizeLine;decide,[u,v],.cons rux (.cons rvy .nil),_,ht2,rfl,_,rfl⟩
   ·rw [aj hb] at e
    exact (I1.hok c o e).stay (fun _ _ _ q=>q) (fun c q=>by rw [aj (aB q hn)];exact q) fun c xs q=>by rw [aj (aB q hn)];exact q
  have I2:=I1.trackI (t:=s.heap.objs.size) I.sz hn (kg I.lt) (fun x c e z=>by
   obtain ⟨v,q⟩:=I.cell x c e
   exact absurd q.lt (by rw [z];exact jE _)) (fun p hp z=>absurd (iT (I.pin p hp).1) (by rw [z];exact jE _)) hok
  have si:=fun {d l k} (z:h'.IsTupleIter d l k) (nz:d≠n+4)=>show h2'.IsTupleIter d l k by
   obtain ⟨o,e,r⟩:=z
   exact ⟨o,(sb.2 _ nz).trans e,r⟩
  refine ⟨.ref s.heap.objs.size,_,I2,rfl,⟨_,_,_,ex,ey,hn,rfl,rfl⟩,⟨u,v,z2,(sb.2 _ (nb (by omega))).trans (a7 _ _ (nb (by omega)) (nb (by omega)) (nb (by omega)) (nb (by omega)) h2),(sb.2 _ (nb (by omega))).trans a2,si a3 (nb (by omega)),si a4 (nb (by omega))⟩,fun c hc=>?_⟩
  have:c≠s.heap.objs.size:=by
   have lt:(n+4:Nat)<s.heap.objs.size:=iT h1
   simp only [ja,jc,or_false] at hc
   rcases hc with rfl | rfl | rfl | rfl | rfl <;> exact nb (by omega)
  rw [aj this]
  exact (hf c hc).1
 done:=by
  intro X hP hw hK hc i pins s σ H E I hf st hg
  subst hP hw hK
  obtain ⟨ha,hb,hend⟩:=hg
  obtain ⟨p,q,h1,h2,h3,h4,h5⟩:=st
  obtain ⟨us,ru,pu,_⟩:=I.tuple ha
  obtain ⟨ws,rw',pw,_⟩:=I.tuple hb
  have lu:=ru.length
  have lw:=rw'.length
  have hT:s.TypeIs (.ref (n+4)) "zip":=⟨_,h1,rfl⟩
  unfold pyNext
  refine iK (wpAny_attempt (wpAny_callSpecial?_slot (name:=Str.ofString "__next__") hT F.slot_zip_next (wpAny_call_entry F.slot_zip_next hT F.entry_zip_next (zt_end (I.ok.hd hc) m1 m2 h1 h2 h3 h4 h5 (show s.heap.IsTuple a us.toArray from pu) (show s.heap.IsTuple b ws.toArray from pw) (hend.imp (fun h=>by simp;omega) (fun h=>by simp;omega)) fun h' e hk ⟨o,ho,hc⟩=>?_) (F.args_zip_next_1 _))))
  exact iK (wpAny_isInstance (T:="StopIteration") (b:=true) ⟨o,ho,hc⟩ isSubtype_stop (iQ ⟨rfl,I.turnedL (its:=[n+4,n+2,n+3,n,n+1]) (t':=s.toks) (fun c o hc e=>by
   simp only [ja,jc,or_false,not_or] at hc
   exact hk c o hc.1 hc.2.2.1 hc.2.2.2.1 hc.2.2.2.2 e) hf⟩))
 self:=fun _ _ _ _ _ st h=>by
  obtain ⟨p,q,h1,_⟩:=st
  exact wpAny_pyIter_zip h1 h
noncomputable def iZipT (K:PySem.W.Frag) (ta:TA):TI:=fun σ H R=>ta σ H fun vs H1=>∃ a b xs ys,vs=[.ref a,.ref b]∧SqT K H1 a xs∧SqT K H1 b ys∧R (Itzt K a b xs ys) H1
theorem pi_zipT {elts:List Expr} {x1} {tpos:Pos} {a b:Expr} {ta:TA} {p pos:Pos} (hg:Gl X "zip") (hm:X.mg "zip"=none) (ha:PA X [a,b] ta) (hs:starEach [a,b] X.env=[(false,eval a X.env),(false,eval b X.env)]:=by rfl) (hs2:starEach [b] X.env=[(false,eval b X.env)]:=by rfl) :
  PI X (.Tuple elts x1 tpos) (.Call (.Name "zip" p) [a,b] [] pos) (iZipT X.K ta):=by
 intro pins s σ H R I h
 refine Call_ (ld_blt I hg hm boot_zip (PyProof.Rows.callWith_type1 (thn (ha pos pins s σ H _ I h) fun us s1 ⟨vs,H1,I1,r1,q1⟩=>?_) (by rw [hs,hs2]) (by rw [hs2];rfl)))
 obtain ⟨l1,l2,xs,ys,e,h1,h2,q⟩:=q1
 subst e
 cases r1 with
 | cons r rr=>
  cases rr with
  | cons r' rr=>
   cases rr
   cases r
   cases r'
   obtain ⟨us,ru,pu,_⟩:=I1.tuple h1
   obtain ⟨ws,rw',pw,_⟩:=I1.tuple h2
   have t1:l1<s1.heap.objs.size:=by obtain ⟨o,e,_⟩:=pu;exact iT e
   have t2:l2<s1.heap.objs.size:=by obtain ⟨o,e,_⟩:=pw;exact iT e
   refine zt_call rfl (show s1.heap.IsTuple l1 us.toArray from pu) (show s1.heap.IsTuple l2 ws.toArray from pw) fun h' z1 z2 z3 z4 z5 z7=>?_
   have I2:Inv X pins σ H1 { s1 with heap:=h' }:=I1.kept (t':=s1.toks) z7
   refine wpAny_pyIter_zip z1 ⟨_,_,_,_,_,rfl,I2,turn_zt t1 t2 xs ys,⟨.none,.none,z1,z2,z3,z4,z5⟩,fun c hc=>?_,q⟩
   have hb:s1.heap.objs.size≤c:=by
    simp only [ja,jc,or_false] at hc
    rcases hc with rfl | rfl | rfl | rfl | rfl <;> first | exact Nat.le_add_right _ _ | exact iP _
   exact I1.fpOk hb (I1.hok.fresh hb)
end
section
variable {l:Addr} {k:Nat} {g:TG} {tc:TT} {te:TE} {ρ:St} {R:Hp→Prop} {H₀:Hp}
theorem compG_zipT {K:PySem.W.Frag} {a b:Addr} {xs ys:List V} (Pv:Nat→Hp→Prop) (h0:Pv 0 (upd H₀ l (.lst []))) (hl:∀ i H,Pv i H→SqT K H a xs∧SqT K H b ys)
  (hs:∀ i x y t H,xs[i]?=some x→ys[i]?=some y→H t=none→Pv i H→∀ zs:St,zs.length=k→g (.ref t) (zs ++ ρ) (upd H t (.tup [x,y])) fun σ2 H2=>(∃ zs':St,zs'.length=k∧σ2=zs' ++ ρ)∧tc σ2 H2 fun b H3=>if b=true then te σ2 H3 fun y H4=>∃ ys',H4 l=some (.lst ys')∧ys'.length<sizeLine∧fB (min xs.length ys.length) Pv i (upd H4 l (.lst (ys'++[y]))) else fB (min xs.length ys.length) Pv i H3)
  (hd:∀ H,Pv (min xs.length ys.length) H→R H) :
  ∃ W:Nat→Nat→Hp→Prop,(∃ m,W 0 m (upd H₀ l (.lst [])))∧∀ i m H,W i m H→
   ((Itzt K a b xs ys).stop i H∧R H)∨((Itzt K a b xs ys).go i H∧∀ x H',(Itzt K a b xs ys).yld i H x H'→∀ zs:St,zs.length=k→g x (zs ++ ρ) H' fun σ2 H2=>(∃ zs':St,zs'.length=k∧σ2=zs' ++ ρ)∧tc σ2 H2 fun b H3=>if b=true then te σ2 H3 fun y H4=>∃ ys,H4 l=some (.lst ys)∧ys.length<sizeLine∧∃ m',m'<m∧W (i+1) m' (upd H4 l (.lst (ys++[y]))) else ∃ m',m'<m∧W (i+1) m' H3):=
 fZ (n:=min xs.length ys.length) Pv h0 (fun i H hi p=>⟨(hl i H p).1,(hl i H p).2,by omega,by omega⟩) (fun H p=>⟨(hl _ H p).1,(hl _ H p).2,by omega⟩) (fun i x H H' hi y p=>by
  obtain ⟨x',y',t,hx,hy,ht,ev,eh⟩:=y
  subst ev eh
  exact hs i x' y' t _ hx hy ht p) hd
end
end L2
namespace G
noncomputable def gcd (a b:Int):Int:=(Int.gcd a b:Int)
theorem gcd_nonneg (a b:Int):0≤gcd a b:=Int.natCast_nonneg _
theorem gcd_zero (a:Int) (h:0≤a):gcd a 0=a:=by
 unfold gcd;rw [Int.gcd_zero_right];omega
theorem gcd_abs (a b:Int):gcd (if a<0 then -a else a) (if b<0 then -b else b)=gcd a b:=by
 unfold gcd;congr 1
 split <;> split <;> simp [Int.neg_gcd,Int.gcd_neg]
theorem gcd_step (a b:Int) (hb:0<b):gcd b (a % b)=gcd a b:=by
 unfold gcd;congr 1
 rw [Int.gcd_comm b]
 have e:a=a % b+(a / b)*b:=by have:=Int.emod_add_mul_ediv a b;rw [jI] at this;omega
 have h:=Int.gcd_add_mul_right_left b (a % b) (a / b)
 rw [← e] at h
 exact h.symm
theorem fY (a b:Nat):(a:Int).fdiv (b:Int)=((a / b:Nat):Int):=by
 rw [Int.fdiv_eq_ediv_of_nonneg _ (Int.natCast_nonneg _)];rfl
theorem fJ (x:Rat):(0:Int)<(x.den:Int):=by have:=x.den_nz;omega
theorem gcd_den (x:Rat):gcd x.num x.den=1:=by
 have h:=x.reduced
 have e:Int.gcd x.num x.den=1:=h
 unfold gcd;rw [e];rfl
theorem init_spec (a b:Int) (hb:b≠0):a.fdiv (if b<0 then -(gcd a b) else gcd a b)=(Rat.divInt a b).num∧b.fdiv (if b<0 then -(gcd a b) else gcd a b)=((Rat.divInt a b).den:Int):=by
 have gp:0<Int.gcd a b:=Int.gcd_pos_of_ne_zero_right a hb
 obtain ⟨k,hk⟩:=kf a b
 obtain ⟨m,hm⟩:=Int.gcd_dvd_right a b
 have gz:(Int.gcd a b:Int)≠0:=by omega
 rw [Rat.num_divInt,Rat.den_divInt,if_neg hb,Int.gcd_comm b a]
 unfold gcd
 generalize hgg:Int.gcd a b=g at *
 have e1:∀ z:Int,(g*z).fdiv g=z:=fun z=>by rw [jI,Int.mul_fdiv_cancel _ gz]
 have e2:∀ z:Int,(g*z).fdiv (-(g:Int)) = -z:=fun z=>by
  have:(g:Int)*z=(-z)*(-(g:Int)):=by rw [Int.neg_mul_neg,jI]
  rw [this,Int.mul_fdiv_cancel _ (by omega)]
 by_cases hs:b<0
 ·rw [if_pos hs,Int.sign_eq_neg_one_of_neg hs]
  constructor
  ·conv=>lhs;rw [hk,e2]
   have:-1*a = -k*g:=by rw [hk,jI (g:Int) k,Int.neg_mul,Int.neg_mul,Int.one_mul]
   rw [this,Int.mul_ediv_cancel _ gz]
  ·conv=>lhs;rw [hm,e2]
   have mneg:m<0:=by
    rcases Int.lt_trichotomy m 0 with h | h | h
    ·exact h
    ·rw [h] at hm;omega
    ·have:=Int.mul_pos (show (0:Int)<g by omega) h;omega
   have:b.natAbs=m.natAbs*g:=by rw [hm,jD,Int.natAbs_natCast,Nat.mul_comm]
   rw [this,Nat.mul_div_cancel _ gp];omega
 ·rw [if_neg hs,Int.sign_eq_one_of_pos (by omega)]
  constructor
  ·conv=>lhs;rw [hk,e1]
   have:1*a=k*g:=by rw [hk,jI (g:Int) k,Int.one_mul]
   rw [this,Int.mul_ediv_cancel _ gz]
  ·conv=>lhs;rw [hm,e1]
   have mpos:0<m:=by
    rcases Int.lt_trichotomy m 0 with h | h | h
    ·have:=Int.mul_neg_of_pos_of_neg (show (0:Int)<g by omega) h;omega
    ·rw [h] at hm;omega
    ·exact h
   have:b.natAbs=m.natAbs*g:=by rw [hm,jD,Int.natAbs_natCast,Nat.mul_comm]
   rw [this,Nat.mul_div_cancel _ gp];omega
theorem ic {a:Int} {g:Nat} (h:(g:Int)∣a):a.fdiv (g:Int)=a.tdiv g:=by
 rw [Int.fdiv_eq_ediv_of_nonneg _ (Int.natCast_nonneg _),Int.tdiv_eq_ediv_of_dvd h]
theorem add_spec (x y:Rat) :
  let g:=gcd x.den y.den
  let own:=(x.den:Int).fdiv g
  let top:=x.num*((y.den:Int).fdiv g)+y.num*own
  let left:=gcd top g
  top.fdiv left=(x+y).num∧own*((y.den:Int).fdiv left)=((x+y).den:Int):=by
 have hx:=x.den_nz
 have hy:=y.den_nz
 have eg:gcd x.den y.den=((x.den.gcd y.den:Nat):Int):=by unfold gcd;rw [Int.gcd_natCast_natCast]
 have gpos:0<x.den.gcd y.den:=Nat.gcd_pos_of_pos_left _ (by omega)
 intro g own top left
 have hown:own=((x.den / x.den.gcd y.den:Nat):Int):=by show (x.den:Int).fdiv (gcd x.den y.den)=_;rw [eg,fY]
 have htop:top=x.num*((y.den / x.den.gcd y.den:Nat):Int)+y.num*((x.den / x.den.gcd y.den:Nat):Int):=by
  show x.num*((y.den:Int).fdiv (gcd x.den y.den))+y.num*own=_
  rw [hown,eg,fY]
 have hleft:left=((top.natAbs.gcd (x.den.gcd y.den):Nat):Int):=by
  show ((Int.gcd top (gcd x.den y.den):Nat):Int)=_
  rw [eg];rfl
 have e1:x+y=Rat.add x y:=rfl
 rw [e1];delta Rat.add;dsimp only
 rw [hleft,hown]
 split
 ·rename_i h1
  rw [htop]
  simp only [h1,Nat.div_one,Nat.gcd_one_right,fY]
  simp
 ·rename_i h1
  rw [Rat.maybeNormalize_eq]
  dsimp only
  simp only [Int.divExact_eq_tdiv]
  rw [← htop]
  have d1:((top.natAbs.gcd (x.den.gcd y.den):Nat):Int)∣top:=Int.ofNat_dvd_left.2 (Nat.gcd_dvd_left _ _)
  have d2:(top.natAbs.gcd (x.den.gcd y.den):Nat)∣y.den:=Nat.dvd_trans (Nat.gcd_dvd_right _ _) (Nat.gcd_dvd_right _ _)
  refine ⟨?_,?_⟩
  ·rw [ic d1]
  ·rw [fY,← Int.natCast_mul,Nat.mul_div_assoc _ d2]
theorem mul_spec (x y:Rat) :
  let first:=gcd x.num y.den
  let second:=gcd y.num x.den
  x.num.fdiv first*y.num.fdiv second=(x*y).num∧(x.den:Int).fdiv second*(y.den:Int).fdiv first=((x*y).den:Int):=by
 intro first second
 have e1:x*y=Rat.mul x y:=rfl
 rw [e1];delta Rat.mul;dsimp only
 have h1:first=((x.num.natAbs.gcd y.den:Nat):Int):=rfl
 have h2:second=((y.num.natAbs.gcd x.den:Nat):Int):=rfl
 rw [h1,h2]
 simp only [Int.divExact_eq_tdiv,Nat.divExact_eq_div]
 rw [ic (Int.ofNat_dvd_left.2 (Nat.gcd_dvd_left _ _)),ic (Int.ofNat_dvd_left.2 (Nat.gcd_dvd_left _ _)),fY,fY]
 exact ⟨rfl,by rw [Int.natCast_mul]⟩
end G
namespace G
noncomputable def Bd (n:Nat) (x:Rat):Prop:=x.num.natAbs≤2 ^ n∧x.den≤2 ^ n
theorem pow_le {m n:Nat} (h:m≤n):2 ^ m≤2 ^ n:=Nat.pow_le_pow_right (by decide) h
theorem Bd.mono {m n:Nat} {x:Rat} (b:Bd m x) (h:m≤n):Bd n x:=⟨i3 b.1 (pow_le h),i3 b.2 (pow_le h)⟩
theorem fu (a:Int) (d:Nat):(a / (d:Int)).natAbs≤a.natAbs:=by
 rcases Nat.eq_zero_or_pos d with h | h
 ·subst h;simp
 ·have hd:(0:Int)<d:=by omega
  rcases Int.le_total 0 a with ha | ha
  ·have h1:=Int.ediv_nonneg ha (Int.le_of_lt hd)
   have h2:=Int.ediv_le_self (d:Int) ha
   omega
  ·have h1:a / (d:Int)≤0:=Int.ediv_nonpos_of_nonpos_of_neg ha hd
   have h2:a≤a / (d:Int):=by
    rw [Int.le_ediv_iff_mul_le hd]
    have h3:0≤(-a)*((d:Int)-1):=Int.mul_nonneg (by omega) (by omega)
    rw [Int.neg_mul,Int.mul_sub,Int.mul_one] at h3
    omega
   omega
theorem Bd.divInt {n:Nat} {a b:Int} (ha:a.natAbs≤2 ^ n) (hb:b.natAbs≤2 ^ n):Bd n (Rat.divInt a b):=by
 constructor
 ·rw [Rat.num_divInt]
  refine i3 (fu _ _) ?_
  rw [jD]
  have:b.sign.natAbs≤1:=by
   rcases Int.lt_trichotomy b 0 with h | h | h
   ·rw [Int.sign_eq_neg_one_of_neg h];decide
   ·rw [h];decide
   ·rw [Int.sign_eq_one_of_pos h];decide
  calc b.sign.natAbs*a.natAbs≤1*a.natAbs:=Nat.mul_le_mul_right _ this
   _≤2 ^ n:=by omega
 ·rw [Rat.den_divInt]
  split
  ·exact Nat.one_le_two_pow
  ·exact i3 (Nat.div_le_self _ _) hb
theorem cI {a b m n:Nat} (ha:a≤2 ^ m) (hb:b≤2 ^ n):a*b≤2 ^ (m+n):=by
 rw [Nat.pow_add];exact Nat.mul_le_mul ha hb
theorem Bd.add {m n:Nat} {x y:Rat} (hx:Bd m x) (hy:Bd n y):Bd (m+n+1) (x+y):=by
 constructor
 ·rw [Rat.num_add]
  refine i3 (fu _ _) ?_
  have h1:=cI hx.1 hy.2
  have h2:=cI hx.2 hy.1
  have e1:(x.num*(y.den:Int)).natAbs=x.num.natAbs*y.den:=by rw [jD,Int.natAbs_natCast]
  have e2:(y.num*(x.den:Int)).natAbs=x.den*y.num.natAbs:=by rw [jD,Int.natAbs_natCast,Nat.mul_comm]
  have:=Int.natAbs_add_le (x.num*(y.den:Int)) (y.num*(x.den:Int))
  rw [e1,e2] at this
  rw [Nat.pow_succ];omega
 ·rw [Rat.den_add]
  refine i3 (Nat.div_le_self _ _) (i3 (cI hx.2 hy.2) (pow_le (by omega)))
theorem Bd.neg {m:Nat} {x:Rat} (hx:Bd m x):Bd m (-x):=⟨by rw [Rat.neg_num,Int.natAbs_neg];exact hx.1,hx.2⟩
theorem Bd.sub {m n:Nat} {x y:Rat} (hx:Bd m x) (hy:Bd n y):Bd (m+n+1) (x-y):=by
 rw [Rat.sub_eq_add_neg];exact hx.add hy.neg
theorem Bd.mul {m n:Nat} {x y:Rat} (hx:Bd m x) (hy:Bd n y):Bd (m+n) (x*y):=by
 constructor
 ·rw [Rat.num_mul]
  refine i3 (fu _ _) ?_
  rw [jD]
  exact cI hx.1 hy.1
 ·rw [Rat.den_mul]
  exact i3 (Nat.div_le_self _ _) (cI hx.2 hy.2)
theorem Bd.zero:Bd 0 0:=⟨by decide,by decide⟩
end G
namespace G
theorem divInt_nn (n:Int) {d:Int} (h:0<d):0≤Rat.divInt n d↔0≤n:=Rat.divInt_nonneg_iff_of_pos_right h
theorem lt_div {a b c d:Int} (hb:0<b) (hd:0<d):Rat.divInt a b<Rat.divInt c d↔a*d<c*b:=by
 rw [← Rat.not_le,Rat.le_iff_sub_nonneg,Rat.divInt_sub_divInt _ _ (by omega) (by omega),divInt_nn _ (Int.mul_pos hb hd)]
 omega
theorem same_iff (x y:Rat):(x.num=y.num∧(x.den:Int)=(y.den:Int))↔x=y:=by
 constructor
 ·rintro ⟨h1,h2⟩
  exact Rat.ext h1 (by omega)
 ·rintro rfl
  exact ⟨rfl,rfl⟩
end G
namespace G
open PySem
theorem str_ext {x y:Str} (h:x.cps.toList=y.cps.toList):x=y:=by
 cases x;cases y
 exact jy Str.mk (Array.toList_inj.mp h)
theorem cps_app (x y:Str):(x++y).cps.toList=x.cps.toList++y.cps.toList:=by
 show (x.cps++y.cps).toList=_
 exact Array.toList_append
theorem app_left {x y z:Str} (h:x++y=x++z):y=z:=by
 have:=jy (fun u:Str=>u.cps.toList) h
 simp only [cps_app] at this
 exact str_ext (List.append_cancel_left this)
theorem app_right {x y z:Str} (h:x++y=z++y):x=z:=by
 have:=jy (fun u:Str=>u.cps.toList) h
 simp only [cps_app] at this
 exact str_ext (List.append_cancel_right this)
theorem rep_cps (c n:Nat):((List.replicate n #[c]).foldl (· ++ ·) (#[]:Array Nat)).toList=List.replicate n c:=by
 have:∀ (n:Nat) (a:Array Nat),((List.replicate n #[c]).foldl (· ++ ·) a).toList=a.toList++List.replicate n c:=by
  intro n
  induction n with
  | zero=>intro a;simp
  | succ n ih=>
   intro a
   rw [List.replicate_succ,List.foldl_cons,ih]
   simp [List.replicate_succ]
 simpa using this n #[]
theorem mul_cps (c:Nat) (n:Int):(Txt.mul ⟨#[c]⟩ n).cps.toList=List.replicate n.toNat c:=by
 unfold Txt.mul
 by_cases h1:n<1
 ·rw [if_pos h1,show n.toNat=0 by omega]
  rfl
 ·rw [if_neg h1]
  by_cases h2:n=1
  ·subst h2
   rfl
  ·rw [if_neg (by simp [h2,Str.length])]
   exact rep_cps c n.toNat
theorem len_cps (x:Str):x.length=x.cps.toList.length:=by show x.cps.size=_;rw [Array.length_toList]
noncomputable def sgs:Str:="abcdefghijklmnopqrstuvwxyz0123456789."
noncomputable def sgAt (i:Int):Nat:=sgs.cps.toList.getD i.toNat 0
noncomputable def turnK (k c:Int):Int:=(k*(1+c / 5 % 36)+c / 180) % 37
theorem sgs_list:sgs.cps.toList=[97,98,99,100,101,102,103,104,105,106,107,108,109,110,111,112,113,114,115,116,117,118,119,120,121,122,48,49,50,51,52,53,54,55,56,57,46]:=by decide +kernel
theorem sgAt_some {i:Int} (h0:0≤i) (h1:i<37):L2.atI sgs.cps.toList i=some (sgAt i):=by
 obtain ⟨n,rfl⟩:=ju h0
 have hn:n<37:=by omega
 refine L2.atI_nat ?_
 unfold sgAt
 rw [sgs_list,jR,Int.toNat_natCast]
 rw [iO (by simpa using hn)]
 rfl
theorem sgAt_inj:∀ i<37,∀ j<37,sgs.cps.toList.getD i 0=sgs.cps.toList.getD j 0→i=j:=by
 rw [sgs_list]
 decide +kernel
end G
namespace G
noncomputable def Cop (a b:Int):Prop:=∀ d:Int,d∣a→d∣b→d∣1
theorem Cop.one {a b:Int} (h:gcd a b=1):Cop a b:=fun d h1 h2=>by
 have:=Int.dvd_coe_gcd h1 h2
 rw [show ((Int.gcd a b:Nat):Int)=1 from h] at this
 exact this
theorem Cop.gcd {a b:Int} (h:Cop a b):Int.gcd a b=1:=by
 have h1:=Int.eq_one_of_dvd_one (Int.natCast_nonneg _) (h _ (kf a b) (Int.gcd_dvd_right a b))
 omega
theorem Cop.gauss {d m n:Int} (h:Cop d m) (hd:d∣m*n):d∣n:=by
 have e:=h.gcd
 rw [← Int.natAbs_dvd_natAbs] at hd ⊢
 rw [jD] at hd
 exact Nat.Coprime.dvd_of_dvd_mul_left e hd
theorem Cop.quot {B b c u v:Int} (hc:c=G.gcd B b) (c0:c≠0) (hB:B=c*u) (hb:b=c*v):Cop u v:=fun d h1 h2=>by
 have k:c*d∣c:=by
  have:=Int.dvd_coe_gcd (a:=B) (b:=b) (c:=c*d) (by rw [hB];exact Int.mul_dvd_mul_left c h1) (by rw [hb];exact Int.mul_dvd_mul_left c h2)
  rw [show ((Int.gcd B b:Nat):Int)=c from hc.symm] at this
  exact this
 obtain ⟨z,hz⟩:=k
 refine ⟨z,?_⟩
 have:c*(d*z)=c*1:=by rw [← Int.mul_assoc,← hz,Int.mul_one]
 exact (Int.eq_of_mul_eq_mul_left c0 this).symm
theorem den_ne' (x:Rat):(x.den:Int)≠0:=by have:=x.den_nz;omega
structure TInv (x:Rat) (T B s:Int):Prop where
 pB:0<B
 ps:0<s
 r:∃ r,B=s*r∧Cop T r
 v:Rat.divInt T B=x
theorem TInv.zero:TInv 0 0 1 1:=⟨by decide,by decide,⟨1,by decide,fun d _ h=>h⟩,by rw [Rat.zero_divInt]⟩
theorem fdiv_mul {c k:Int} (h:c≠0):(c*k).fdiv c=k:=by rw [jI,Int.mul_fdiv_cancel _ h]
theorem TInv.step {x y:Rat} {T B s:Int} (I:TInv x T B s) :
  TInv (x+y) (T*(y.den:Int).fdiv (gcd B y.den)+y.num*B.fdiv (gcd B y.den)) (B*(y.den:Int).fdiv (gcd B y.den)) (s*(gcd B y.den).fdiv (gcd s (gcd B y.den))):=by
 obtain ⟨pB,ps,⟨r,hr,cr⟩,hv⟩:=I
 have yp:=fJ y
 have cp:0<gcd B y.den:=by
  have:=Int.gcd_pos_of_ne_zero_left (y.den:Int) (show B≠0 by omega)
  unfold gcd;omega
 generalize hc':gcd B y.den=c at cp ⊢
 have hc:=hc'.symm
 have dB:c∣B:=by rw [hc];exact kf _ _
 have db:c∣(y.den:Int):=by rw [hc];exact Int.gcd_dvd_right _ _
 obtain ⟨u,hu⟩:=dB
 obtain ⟨v,hv'⟩:=db
 have c0:c≠0:=by omega
 have cuv:Cop u v:=Cop.quot hc c0 hu hv'
 have ey:(y.den:Int).fdiv c=v:=by rw [hv',fdiv_mul c0]
 have eB:B.fdiv c=u:=by rw [hu,fdiv_mul c0]
 have up:0<u:=Int.pos_of_mul_pos_left (by rw [jI,← hu];exact pB) cp
 have vp:0<v:=Int.pos_of_mul_pos_left (by rw [jI,← hv'];exact yp) cp
 rw [ey,eB]
 have gp:0<gcd s c:=by
  have:=Int.gcd_pos_of_ne_zero_left c (show s≠0 by omega)
  unfold gcd;omega
 generalize hg':gcd s c=g at gp ⊢
 have hg:=hg'.symm
 have d1:g∣s:=by rw [hg];exact kf _ _
 have d2:g∣c:=by rw [hg];exact Int.gcd_dvd_right _ _
 obtain ⟨s1,hs1⟩:=d1
 obtain ⟨c1,hc1⟩:=d2
 have g0:g≠0:=by omega
 have cs:Cop s1 c1:=Cop.quot hg g0 hs1 hc1
 have ec:c.fdiv g=c1:=by rw [hc1,fdiv_mul g0]
 rw [ec]
 have c1p:0<c1:=Int.pos_of_mul_pos_left (by rw [jI,← hc1];exact cp) gp
 have s1p:0<s1:=Int.pos_of_mul_pos_left (by rw [jI,← hs1];exact ps) gp
 have e1:c1*u=s1*r:=by
  apply Int.eq_of_mul_eq_mul_left g0
  rw [← Int.mul_assoc,← Int.mul_assoc,← hc1,← hs1,← hu,hr]
 have k1:c1∣r:=Cop.gauss (d:=c1) (m:=s1) (fun d a b=>cs d b a) ⟨u,e1.symm⟩
 obtain ⟨r1,hr1⟩:=k1
 have e2:u=s1*r1:=by
  apply Int.eq_of_mul_eq_mul_left (show c1≠0 by omega)
  rw [e1,hr1,← Int.mul_assoc,← Int.mul_assoc,jI s1 c1]
 refine ⟨Int.mul_pos pB vp,Int.mul_pos ps c1p,⟨r1*v,?_,?_⟩,?_⟩
 ·rw [hr,hr1]
  simp only [Int.mul_assoc]
 ·intro d h1 h2
  have cdv:Cop d v:=fun e he hev=>by
   have z1:e∣y.num*u:=by
    have:=Int.dvd_sub (Int.dvd_trans he h1) (Int.dvd_trans hev (Int.dvd_mul_left T v))
    rw [Int.add_comm,Int.add_sub_cancel] at this
    exact this
   rw [jI] at z1
   have z2:e∣y.num:=Cop.gauss (fun f h3 h4=>cuv f h4 (Int.dvd_trans h3 hev)) z1
   exact Cop.one (gcd_den y) e z2 (by rw [hv'];exact Int.dvd_trans hev (Int.dvd_mul_left c v))
  have z3:d∣r1:=Cop.gauss cdv (by rw [jI];exact h2)
  have z4:d∣u:=by rw [e2];exact Int.dvd_trans z3 (Int.dvd_mul_left s1 r1)
  have z5:d∣v*T:=by
   have:=Int.dvd_sub h1 (Int.dvd_trans z4 (Int.dvd_mul_left y.num u))
   rw [Int.add_sub_cancel,jI] at this
   exact this
  exact cr d (Cop.gauss cdv z5) (by rw [hr1];exact Int.dvd_trans z3 (Int.dvd_mul_left c1 r1))
 ·rw [← hv]
  conv=>rhs;rw [← Rat.num_divInt_den y]
  rw [Rat.divInt_add_divInt _ _ (show B≠0 by omega) (den_ne' y),jA (show B*v≠0 by have:=Int.mul_pos pB vp;omega) (jY (by omega) (den_ne' y)),hv',hu]
  grind
theorem TInv.fin {x:Rat} {T B s:Int} (I:TInv x T B s):T.fdiv (gcd T s)=x.num∧B.fdiv (gcd T s)=(x.den:Int):=by
 obtain ⟨pB,ps,⟨r,hr,cr⟩,hv⟩:=I
 have e:gcd T s=gcd T B:=by
  refine Int.dvd_antisymm (gcd_nonneg _ _) (gcd_nonneg _ _) (Int.dvd_coe_gcd (kf _ _) (Int.dvd_trans (Int.gcd_dvd_right _ _) ⟨r,hr⟩)) (Int.dvd_coe_gcd (kf _ _) ?_)
  refine Cop.gauss (m:=r) (fun d h1 h2=>cr d (Int.dvd_trans h1 (kf _ _)) h2) ?_
  rw [jI,← hr]
  exact Int.gcd_dvd_right _ _
 obtain ⟨i1,i2⟩:=init_spec T B (by omega)
 rw [if_neg (by omega),hv] at i1 i2
 rw [e]
 exact ⟨i1,i2⟩
end G
namespace G
open PySem L2
theorem sum_snoc (xs:List Rat) (a:Rat):(xs++[a]).sum=xs.sum+a:=by
 induction xs with
 | nil=>simp;grind
 | cons x xs ih=>rw [List.cons_append,kj,kj,ih];grind
noncomputable def eM (ks:List Str) (n:Str):List Str:=if n∈ks then ks else ks++[n]
theorem mem_addK {ks:List Str} {n m:Str}:m∈eM ks n↔m∈ks∨m=n:=by
 unfold eM
 split
 ·exact ⟨.inl,fun h=>h.elim id fun e=>by rw [e];assumption⟩
 ·simp
theorem hV {ks:List Str} {n:Str} (h:ks.Nodup):(eM ks n).Nodup:=by
 unfold eM
 split
 ·exact h
 ·rename_i hn
  exact List.nodup_append.mpr ⟨h,by simp,fun x hx y hy e=>hn (by rw [jH.mp hy] at e;rw [← e];exact hx)⟩
noncomputable def upf {α:Type} (f:Str→α) (n:Str) (y:α):Str→α:=fun m=>if m=n then y else f m
theorem bt {α:Type} {f:Str→α} {n:Str} {y:α}:upf f n y n=y:=if_pos rfl
theorem bW {α:Type} {f:Str→α} {n m:Str} {y:α} (h:m≠n):upf f n y m=f m:=if_neg h
structure Tab {α:Type} (R:Hp→V→α→Prop) (H:Hp) (kvs:List (Key × V)) (ks:List Str) (f:Str→α):Prop where
 keys:kvs.map (·.1)=ks.map (fun n=>(Sum.inr n:Key))
 vals:∀ n∈ks,∃ v,bc kvs (Sum.inr n:Key)=some v∧R H v (f n)
section
variable {α:Type} {R:Hp→V→α→Prop} {H H':Hp} {kvs:List (Key × V)} {ks:List Str} {f:Str→α} {n:Str} {v:V} {y:α}
theorem Tab.mono (t:Tab R H kvs ks f) (h:∀ v x,R H v x→R H' v x):Tab R H' kvs ks f:=⟨t.keys,fun n hn=>let ⟨v,e,r⟩:=t.vals n hn;⟨v,e,h _ _ r⟩⟩
theorem Tab.congr {g:Str→α} (t:Tab R H kvs ks f) (h:∀ n∈ks,f n=g n):Tab R H kvs ks g:=⟨t.keys,fun n hn=>let ⟨v,e,r⟩:=t.vals n hn;⟨v,e,by rw [← h n hn];exact r⟩⟩
theorem Tab.nil:Tab R H [] [] f:=⟨rfl,fun n h=>absurd h jc⟩
theorem inr_in {n:Str} {ks:List Str}:(Sum.inr n:Key)∈ks.map (fun n=>(Sum.inr n:Key))↔n∈ks:=by
 constructor
 ·intro h
  obtain ⟨y,hy,e⟩:=iZ.mp h
  rw [← Sum.inr.inj e]
  exact hy
 ·exact fun h=>iZ.mpr ⟨n,h,rfl⟩
theorem Tab.none (t:Tab R H kvs ks f) (h:¬ n∈ks):bc kvs (Sum.inr n:Key)=none:=by
 cases e:bc kvs (Sum.inr n:Key) with
 | none=>rfl
 | some v=>
  have:=valV_in e
  rw [t.keys] at this
  exact absurd (inr_in.mp this) h
theorem Tab.len (t:Tab R H kvs ks f):kvs.length=ks.length:=by have:=jy List.length t.keys;rwa [iM,iM] at this
theorem Tab.put (t:Tab R H kvs ks f) (r:R H v y):Tab R H (bg kvs (Sum.inr n:Key) v) (eM ks n) (upf f n y):=by
 refine ⟨?_,fun m hm=>?_⟩
 ·by_cases hn:n∈ks
  ·obtain ⟨u,e,_⟩:=t.vals n hn
   unfold bg eM
   rw [eG,e,if_pos (show (some u).isSome=true from rfl),if_pos hn,← t.keys,jz]
   refine List.map_congr_left fun kv _=>?_
   show (if kv.1=_ then _ else _:Key × V).1=kv.1
   split <;> rfl
  ·rw [putK_new _ (t.none hn)]
   unfold eM
   rw [if_neg hn,i5,i5,t.keys]
   rfl
 ·rw [valV_put]
  by_cases e:m=n
  ·subst e
   rw [if_pos rfl,bt]
   exact ⟨v,rfl,r⟩
  ·rw [if_neg fun z=>e (Sum.inr.inj z),bW e]
   exact t.vals m ((mem_addK.mp hm).resolve_right e)
theorem val_idx {κ:Type} [DecidableEq κ]:∀ {kvs:List (κ × V)} {i:Nat} {kv:κ × V},(kvs.map (·.1)).Nodup→kvs[i]?=some kv→bc kvs kv.1=some kv.2
 | [],_,_,_,e=>by simp at e
 | p::r,0,kv,_,e=>by
  simp at e
  subst e
  exact bD rfl
 | p::r,i+1,kv,nd,e=>by
  have e:r[i]?=some kv:=by simpa using e
  obtain ⟨h1,h2⟩:=List.nodup_cons.mp (show (p.1::r.map (·.1)).Nodup from nd)
  rw [br fun z=>h1 (by rw [z];exact iZ.mpr ⟨kv,iR e,rfl⟩)]
  exact val_idx h2 e
theorem Tab.at_ {i:Nat} {kv:Key × V} (t:Tab R H kvs ks f) (nd:ks.Nodup) (e:kvs[i]?=some kv):∃ n,ks[i]?=some n∧kv.1=Sum.inr n∧bc kvs (Sum.inr n:Key)=some kv.2∧R H kv.2 (f n):=by
 have hi:i<ks.length:=by rw [← t.len];exact (iL.mp e).1
 have e1:kv.1=Sum.inr ks[i]:=by
  have g:=jy (fun l=>l[i]?) t.keys
  simp only [i4,e,iO hi,jT] at g
  exact jh g
 have nd2:(kvs.map (·.1)).Nodup:=by
  rw [t.keys]
  exact nd.map _ (fun u v h e=>h (Sum.inr.inj e))
 have ev:=val_idx nd2 e
 rw [e1] at ev
 obtain ⟨v,e2,r⟩:=t.vals _ (List.getElem_mem hi)
 rw [ev] at e2
 cases e2
 exact ⟨ks[i],iO hi,e1,ev,r⟩
end
theorem fM {ks:List Str} {i:Nat} {n:Str} (nd:ks.Nodup) (e:ks[i]?=some n):ks.take (i+1)=ks.take i++[n]∧¬ n∈ks.take i:=by
 have hi:=(iL.mp e).1
 refine ⟨by rw [iU,e];rfl,fun m=>?_⟩
 obtain ⟨j,hj⟩:=jN.mp m
 have hj2:j<i:=by
  have:=(iL.mp hj).1
  rw [i6] at this
  omega
 rw [List.getElem?_take,if_pos hj2] at hj
 have:=(List.getElem?_inj (by omega) nd).mp (hj.trans e.symm)
 omega
theorem f9 {ks:List Str} {n:Str} (h:¬ n∈ks):eM ks n=ks++[n]:=if_neg h
noncomputable def KeepD (H H':Hp):Prop:=∀ b ob,H b=some ob→(∀ kvs,ob≠.dK kvs)→(∀ o u,ob≠.frz o u)→H' b=some ob
theorem KeepD.of {H H':Hp} (s:Same H H'):KeepD H H':=fun b ob e _ _=>s b ob e
theorem KeepD.trans {H H' H'':Hp} (s:KeepD H H') (t:KeepD H' H''):KeepD H H'':=fun b ob e h1 h2=>t b ob (s b ob e h1 h2) h1 h2
theorem KeepD.put {H:Hp} {d:Addr} {kvs:List (Key × V)} {o:HO} (hd:H d=some (.dK kvs)):KeepD H (upd H d o):=fun b ob e h1 _=>by
 have:b≠d:=fun z=>by rw [z,hd] at e;exact h1 kvs (jh e).symm
 rw [aj this]
 exact e
theorem KeepD.frz {H:Hp} {d:Addr} {ob:Obj} {u o:HO} (hd:H d=some (.frz ob u)):KeepD H (upd H d o):=fun b ob' e _ h2=>by
 have:b≠d:=fun z=>by rw [z,hd] at e;exact h2 _ _ (jh e).symm
 rw [aj this]
 exact e
inductive BdS:List Rat→Nat→Prop
 | nil:BdS [] 0
 | snoc {xs:List Rat} {N m:Nat} {x:Rat}:BdS xs N→Bd m x→BdS (xs++[x]) (N+(m+1))
theorem BdS.fn {xs:List Rat} {N:Nat} (h:BdS xs N):∃ S:Nat→Nat,S 0=0∧(∀ i,i≤xs.length→S i≤N)∧∀ i y,xs[i]?=some y→∃ m,Bd m y∧S i+(m+1)≤S (i+1):=by
 induction h with
 | nil=>exact ⟨fun _=>0,rfl,fun _ _=>iY _,fun i y e=>by simp at e⟩
 | @snoc xs N m x _ b ih=>
  obtain ⟨S,h0,h1,h2⟩:=ih
  refine ⟨fun j=>if j≤xs.length then S j else N+(m+1),by simp [h0],fun i hi=>?_,fun i y e=>?_⟩
  ·show (if i≤xs.length then S i else N+(m+1))≤_
   split
   ·rename_i h
    have:=h1 i h
    omega
   ·exact iP _
  ·show ∃ m',Bd m' y∧(if i≤xs.length then S i else N+(m+1))+(m'+1)≤(if i+1≤xs.length then S (i+1) else N+(m+1))
   have hi:=(iL.mp e).1
   rw [jd,jr,List.length_nil] at hi
   by_cases hl:i<xs.length
   ·rw [List.getElem?_append_left hl] at e
    obtain ⟨m',b',q⟩:=h2 i y e
    exact ⟨m',b',by rw [if_pos (by omega),if_pos (by omega)];exact q⟩
   ·have ei:i=xs.length:=by omega
    subst ei
    rw [jQ (iP _),Nat.sub_self] at e
    have:x=y:=by simpa using e
    subst this
    refine ⟨m,b,?_⟩
    rw [if_pos (iP _),if_neg (by omega)]
    have:=h1 _ (iP _)
    omega
end G
namespace G
open PySem L2
noncomputable def Sm (i:Int):Prop:=i.natAbs<2 ^ 9000
noncomputable def SmR (x:Rat):Prop:=Sm x.num∧Sm (x.den:Int)
theorem Sm.le {a b:Int} (h:Sm b) (l:a.natAbs≤b.natAbs):Sm a:=jf l h
theorem fH (a:Int) {b:Int} (hb:0<b) (ha:0≤a):(a.fdiv b).natAbs≤a.natAbs:=by
 rw [Int.fdiv_eq_ediv_of_nonneg a (Int.le_of_lt hb)]
 have h1:=Int.ediv_nonneg ha (Int.le_of_lt hb)
 have h2:=Int.ediv_le_self b ha
 omega
theorem fdiv_le' (a:Int) {b:Int} (hb:0<b) (hd:b∣a):(a.fdiv b).natAbs≤a.natAbs:=by
 obtain ⟨k,rfl⟩:=hd
 have e:(b*k).fdiv b=k:=by rw [jI,Int.mul_fdiv_cancel _ (by omega)]
 rw [e,jD]
 exact Nat.le_mul_of_pos_left _ (by omega)
theorem dA (a:Int) {b:Int} (h:b≠0):0<gcd a b:=by
 have:=Int.gcd_pos_of_ne_zero_right a h
 unfold gcd;omega
theorem gcd_le_r (a:Int) {b:Int} (h:b≠0):(gcd a b).natAbs≤b.natAbs:=by
 have:=Int.gcd_le_natAbs_right a h
 unfold gcd;omega
theorem gcd_dvd_l (a b:Int):gcd a b∣a:=kf a b
theorem Sm.gcd_r (a:Int) {b:Int} (h:b≠0) (s:Sm b):Sm (gcd a b):=s.le (gcd_le_r a h)
theorem den_ne (x:Rat):(x.den:Int)≠0:=by have:=x.den_nz;omega
theorem tb:¬ (("top":Str) = "bottom"):=by decide +kernel
noncomputable def ff (t b:Int):List (Str × V):=[("top",.int t),("bottom",.int b)]
theorem ff_T (t b:Int):(ff t b).lookup ("top":Str)=some (.int t):=rfl
theorem ff_B (t b:Int):(ff t b).lookup ("bottom":Str)=some (.int b):=by
 have h:(("bottom":Str) == "top")=false:=by decide +kernel
 show List.lookup ("bottom":Str) [(("top":Str),V.int t),("bottom",V.int b)]=_
 rw [j5,h]
 rfl
theorem ff_no (t b:Int) {m:Str} (h1:(m == "top")=false) (h2:(m == "bottom")=false):(ff t b).lookup m=none:=by
 show List.lookup m [(("top":Str),V.int t),("bottom",V.int b)]=_
 rw [j5,h1,j5,h2]
 rfl
theorem ff_new (t b:Int):bY "bottom" (.int b) (bY "top" (.int t) [])=ff t b:=by
 show (if ("top":Str) = "bottom" then _ else (("top":Str),V.int t)::[(("bottom":Str),V.int b)])=ff t b
 rw [if_neg tb]
 rfl
theorem ff_put (a c t b:Int):bY "bottom" (.int b) (bY "top" (.int t) (ff a c))=ff t b:=by
 show bY "bottom" (.int b) (if ("top":Str) = "top" then (("top":Str),V.int t)::[(("bottom":Str),V.int c)] else _)=ff t b
 rw [if_pos rfl]
 show (if ("top":Str) = "bottom" then _ else (("top":Str),V.int t)::(if ("bottom":Str) = "bottom" then (("bottom":Str),V.int b)::[] else _))=ff t b
 rw [if_neg tb,if_pos rfl]
 rfl
noncomputable def FrAt (C:Addr) (H:Hp) (p:Addr) (x:Rat):Prop:=∃ dx,H p=some (.ins C dx (ff x.num x.den))
theorem FrAt.mono {C:Addr} {H H':Hp} {p:Addr} {x:Rat} (h:FrAt C H p x) (s:Same H H'):FrAt C H' p x:=by
 obtain ⟨dx,e⟩:=h
 exact ⟨dx,s _ _ e⟩
theorem FrAt.up {C:Addr} {H H':Hp} {p:Addr} {x:Rat} (s:Same H H') (h:FrAt C H p x):FrAt C H' p x:=h.mono s
structure FrC (K:PySem.W.Frag) (C:Addr):Prop where
 cl:Cls K C
 nT:NoAttr K C "top"
 nB:NoAttr K C "bottom"
 c1:PySem.W.findIn K (.ref C) "__class__"=some (some (.builtin "object.__class__"))
 c2:PySem.W.specialIn K (.builtin "object.__class__") "__get__"=some (some (.builtin "getset_descriptor.__get__"))
 c3:PySem.W.takesIn K (.builtin "object.__class__")=some true
 c4:PySem.W.mroIn K C (.type "object")=some true
theorem FrAt.ty {K:PySem.W.Frag} {C:Addr} {H:Hp} {p:Addr} {x:Rat} (F:FrC K C) (h:FrAt C H p x):TyOf K H (.ref p) (.ref C):=by
 obtain ⟨_,e⟩:=h
 exact TyOf.ins e F.cl F.c1 F.c2 F.c3 F.c4
noncomputable def tTop (C:Addr) (ta:TE):TE:=fun σ H Q=>ta σ H fun v H1=>∃ p x,v=.ref p∧FrAt C H1 p x∧Q (.int x.num) H1
noncomputable def tBot (C:Addr) (ta:TE):TE:=fun σ H Q=>ta σ H fun v H1=>∃ p x,v=.ref p∧FrAt C H1 p x∧Q (.int x.den) H1
section
variable {X:Cx} {C:Addr} {e o:Expr} {ta:TE} {pos:Pos}
theorem cV (F:FrC X.K C) (he:PE X e ta) (hb:attributeBase e "top" X.env (eval e X.env)=eval e X.env:=by rfl):PE X (.Attribute e "top" pos) (tTop C ta):=by
 intro pins s σ H Q I h
 refine attr_of hb (thn (he pins s σ H _ I h) fun u s1 ⟨v,H1,I1,r,p,x,e,⟨dx,hp⟩,q⟩=>?_)
 subst e
 obtain rfl:u=Value.ref p:=r
 exact ib I1 hp F.cl F.nT (ff_T _ _) fun u' s' I' r'=>⟨_,H1,I',r',q⟩
theorem cf (F:FrC X.K C) (he:PE X e ta) (hb:attributeBase e "bottom" X.env (eval e X.env)=eval e X.env:=by rfl):PE X (.Attribute e "bottom" pos) (tBot C ta):=by
 intro pins s σ H Q I h
 refine attr_of hb (thn (he pins s σ H _ I h) fun u s1 ⟨v,H1,I1,r,p,x,e,⟨dx,hp⟩,q⟩=>?_)
 subst e
 obtain rfl:u=Value.ref p:=r
 exact ib I1 hp F.cl F.nB (ff_B _ _) fun u' s' I' r'=>⟨_,H1,I',r',q⟩
noncomputable def tFrM (C:Addr) (sp:Sp) (E:XK) (ta:TE) (t:TA):TE:=fun σ H Q=>ta σ H fun v H1=>∃ p x,v=.ref p∧FrAt C H1 p x∧t σ H1 fun vs H2=>sp (v::vs) H2 Q E
variable {CX:CXT} {k j:Nat} {ps:List Str} {sp:Sp} {E:XK} {m:Str} {p apos:Pos} {es:List Expr} {t:TA}
theorem cW {pl:Sem Bool} (F:FrC X.K C) (he:PE X o ta) (M:MtB X.prog X.w X.K X.mg X.base CX C m k ps sp) (hr:Room j X.A) (hx:c7 CX X E) (ha:PA X (e::es) t) (hj:k≤j:=by decide) (h1:(m == "top")=false:=by decide +kernel) (h2:(m == "bottom")=false:=by decide +kernel)
  (hst:starEach (e::es) X.env=(false,eval e X.env)::starEach es X.env:=by rfl) (hpl:(backTo pos (starEach es X.env)).any (·.1)=false:=by rfl)
  (ht:eval (.Call (.Attribute o m apos) (e::es) [] pos) X.env=(do
   let ov ← eval o X.env
   standAt apos.atName
   let (f,first) ← holding [ov] (getMethod ov m pl)
   callWith pos f first (backTo pos (starEach (e::es) X.env)) (backToKw pos (keywordEach [] X.env))):=by rfl):PE X (.Call (.Attribute o m apos) (e::es) [] pos) (tFrM C sp E ta t):=by
 obtain ⟨f,fd,hm,b,d⟩:=M
 intro pins s σ H Q I h
 refine j9 (pl:=pl) (thn (he pins s σ H _ I h) fun u s1 ⟨v,H1,I1,rx,a,x,ex,⟨dx,ea⟩,q⟩=>?_) ht
 subst ex
 obtain rfl:u=Value.ref a:=rx
 refine gr I1 ea F.cl hm (ff_no _ _ h1 h2) ?_
 refine kc (first:=[.ref a]) (h₀:=X.base) I.ok.mod.kin hm.kp (thn (ha pos pins s1 σ H1 _ I1 q) fun us s2 ⟨vs,H2,I2,r,q2⟩=>⟨I2.kIn,?_⟩) hst hpl
 exact run_fn (us:=.ref a::us) (vs:=.ref a::vs) (dvs:=[]) d (hr.mono hj) b .nil hx I2 (.cons rfl r) (by simpa using q2)
theorem eX {pl:Sem Bool} (F:FrC X.K C) (he:PE X o ta) (M:MtB X.prog X.w X.K X.mg X.base CX C m k ps sp) (hr:Room j X.A) (hx:c7 CX X E) (hj:k≤j:=by decide) (h1:(m == "top")=false:=by decide +kernel) (h2:(m == "bottom")=false:=by decide +kernel)
  (ht:eval (.Call (.Attribute o m apos) [] [] pos) X.env=(do
   let ov ← eval o X.env
   standAt apos.atName
   let (f,first) ← holding [ov] (getMethod ov m pl)
   callWith pos f first (backTo pos (starEach [] X.env)) (backToKw pos (keywordEach [] X.env))):=by rfl):PE X (.Call (.Attribute o m apos) [] [] pos) (tFrM C sp E ta tNil):=by
 obtain ⟨f,fd,hm,b,d⟩:=M
 intro pins s σ H Q I h
 refine j9 (pl:=pl) (thn (he pins s σ H _ I h) fun u s1 ⟨v,H1,I1,rx,a,x,ex,⟨dx,ea⟩,q⟩=>?_) ht
 subst ex
 obtain rfl:u=Value.ref a:=rx
 refine gr I1 ea F.cl hm (ff_no _ _ h1 h2) ?_
 exact PySem.W.callWith_K0 (first:=[.ref a]) I1.kIn hm.kp (run_fn (us:=[.ref a]) (vs:=[.ref a]) (dvs:=[]) d (hr.mono hj) b .nil hx I1 (.cons rfl .nil) q)
noncomputable def spDiv:Sp:=fun vs H Q _=>∃ a b:Int,vs=[.int a,.int b]∧Q (.int (gcd a b)) H
noncomputable def spInit (C:Addr):Sp:=fun vs H Q _=>∃ (p dx:Addr) (a b:Int),vs=[.ref p,.int a,.int b]∧H p=some (.ins C dx [])∧b≠0∧Sm b∧∀ H',H'=upd H p (.ins C dx (ff (Rat.divInt a b).num (Rat.divInt a b).den))→Q .non H'
noncomputable def NewFr (C:Addr) (H:Hp) (Q:VK) (x:Rat):Prop:=∀ (r:Addr) (H':Hp),H r=none→Same H H'→FrAt C H' r x→Q (.ref r) H'
noncomputable def spLow (C:Addr):Sp:=fun vs H Q _=>∃ t b:Int,vs=[.int t,.int b]∧∀ (r dx:Addr) (H':Hp),H r=none→Same H H'→H' r=some (.ins C dx (ff t b))→Q (.ref r) H'
noncomputable def spR2 (C:Addr) (f:Rat→Rat→Rat) (pre:Rat→Rat→Prop):Sp:=fun vs H Q _=>∃ (p q:Addr) (x y:Rat),vs=[.ref p,.ref q]∧FrAt C H p x∧FrAt C H q y∧SmR x∧SmR y∧pre x y∧NewFr C H Q (f x y)
theorem mk_fr {H:Hp} {a b:Int} {Q:VK} {E:XK} {x dx:Addr} (nx:H x=none) (nd:H dx=none) (hb:b≠0) (hs:Sm b) (k:∀ H':Hp,Same H H'→FrAt C H' x (Rat.divInt a b)→Q .non H') :
  spInit C [.ref x,.int a,.int b] (upd (upd H dx (.own x)) x (.ins C dx [])) Q E:=by
 refine ⟨x,dx,a,b,rfl,ad,hb,hs,fun H' e=>?_⟩
 subst e
 refine k _ (fun c o e=>?_) ⟨dx,ad⟩
 rw [aj (aB e nx),aj (aB e nx),aj (aB e nd)]
 exact e
noncomputable def tMkFr (C:Addr) (dvs:List V) (t:TA):TE:=fun σ H Q=>t σ H fun vs H1=>∃ a b:Int,vs++dvs=[.int a,.int b]∧b≠0∧Sm b∧NewFr C H1 Q (Rat.divInt a b)
theorem bT {dvs:List V} {x:Str} (F:MkB X.prog X.w X.K X.mg X.base CX C k ["self","top","bottom"] dvs (spInit C)) (hr:Room j X.A) (hm:X.mg x=some (.ref C)) (hx:c7 CX X E) (ha:PA X (e::es) t) (hj:k+1≤j:=by decide) (hg:Gl X x:=by rfl) (hdb:(x == ("__debug__":Str))=false:=by decide)
  (he:starEach (e::es) X.env=(false,eval e X.env)::starEach es X.env:=by rfl) (hpl:(backTo pos (starEach es X.env)).any (·.1)=false:=by rfl):PE X (.Call (.Name x p) (e::es) [] pos) (tMkFr C dvs t):=by
 obtain ⟨f,fd,ds,M,b,c,d⟩:=F
 intro pins s σ H Q I h
 refine wpAny_Call_Name_kw (e7 I hg hm ?_ hdb)
 refine kc (h₀:=X.base) I.ok.mod.kin M.kp (thn (ha pos pins s σ H _ I h) fun us s1 ⟨vs,H1,I1,r,a',b',ev,hb,hs,q⟩=>⟨I1.kIn,?_⟩) he hpl
 refine run_make M d (hr.mono hj) b c hx I1 r fun y dx n1 n2 _=>?_
 rw [ev]
 exact mk_fr n1 n2 hb hs fun H' s' f'=>⟨rfl,q y H' n1 s' f'⟩
end
end G
namespace G
open PySem L2
noncomputable def aK (i:Nat):Stmt:=PySem.Challenge.pw_gainstream_k54_the_mosts_paper_looked_at.main.body.getD i (.Pass ⟨0,0,0,0⟩)
noncomputable abbrev fe:Stmt:=aK 11
noncomputable abbrev bp:Stmt:=aK 13
noncomputable abbrev gP:Stmt:=aK 14
noncomputable abbrev fQ:Stmt:=aK 16
noncomputable abbrev s_without_noughts:Stmt:=aK 17
noncomputable abbrev aW:Stmt:=aK 18
noncomputable abbrev bf:Stmt:=aK 19
noncomputable abbrev s_sums:Stmt:=aK 20
noncomputable abbrev b5:Stmt:=aK 21
noncomputable abbrev cu:Stmt:=aK 22
noncomputable abbrev fO:Stmt:=aK 23
noncomputable abbrev s_together:Stmt:=aK 24
noncomputable abbrev s_ways_of:Stmt:=aK 26
noncomputable abbrev s_places_of:Stmt:=aK 27
noncomputable abbrev s_gain_of:Stmt:=aK 28
noncomputable abbrev s_all_unlike:Stmt:=aK 29
noncomputable abbrev s_is_path:Stmt:=aK 30
noncomputable abbrev s_is_ring:Stmt:=aK 31
noncomputable abbrev s_sent:Stmt:=aK 32
noncomputable abbrev s_is_walk:Stmt:=aK 34
noncomputable abbrev s_growth:Stmt:=aK 35
noncomputable abbrev s_is_ring_with:Stmt:=aK 36
noncomputable abbrev s_is_round:Stmt:=aK 37
noncomputable abbrev s_parts_meet:Stmt:=aK 38
noncomputable abbrev s_is_road:Stmt:=aK 39
noncomputable abbrev s_is_strand:Stmt:=aK 40
noncomputable abbrev s_head_plan:Stmt:=aK 41
noncomputable abbrev s_tail_plan:Stmt:=aK 42
noncomputable abbrev s_road_plan:Stmt:=aK 43
noncomputable abbrev cq:Stmt:=aK 44
noncomputable abbrev fg:Stmt:=aK 46
noncomputable abbrev dZ:Stmt:=aK 47
noncomputable abbrev fP:Stmt:=aK 48
noncomputable abbrev bN:Stmt:=aK 49
noncomputable abbrev fN:Stmt:=aK 50
noncomputable abbrev cL:Stmt:=aK 51
noncomputable abbrev s_goes_unbounded:Stmt:=aK 52
noncomputable abbrev cK:Stmt:=aK 53
noncomputable abbrev bx:Stmt:=aK 54
noncomputable abbrev cJ:Stmt:=aK 55
noncomputable abbrev bJ:Stmt:=aK 64
noncomputable abbrev dn:Stmt:=aK 65
noncomputable abbrev b4:Stmt:=aK 66
noncomputable abbrev cz:Stmt:=aK 69
noncomputable abbrev dQ:Stmt:=aK 70
noncomputable abbrev dW:Stmt:=aK 71
noncomputable abbrev c8:Stmt:=aK 72
noncomputable abbrev dS:Stmt:=aK 73
noncomputable abbrev dU:Stmt:=aK 74
noncomputable abbrev cN:Stmt:=aK 75
noncomputable abbrev bK:Stmt:=aK 76
noncomputable abbrev dX:Stmt:=aK 77
noncomputable abbrev cy:Stmt:=aK 78
noncomputable abbrev dY:Stmt:=aK 79
noncomputable abbrev fb:Stmt:=aK 80
noncomputable abbrev dl:Stmt:=aK 81
noncomputable abbrev dO:Stmt:=aK 82
noncomputable abbrev dk:Stmt:=aK 83
noncomputable abbrev dg:Stmt:=aK 85
noncomputable abbrev cP:Stmt:=aK 86
noncomputable abbrev cv:Stmt:=aK 87
noncomputable abbrev cS:Stmt:=aK 88
noncomputable abbrev df:Stmt:=aK 89
noncomputable abbrev bM:Stmt:=aK 90
noncomputable abbrev dm:Stmt:=aK 91
noncomputable abbrev dP:Stmt:=aK 92
noncomputable abbrev dR:Stmt:=aK 93
noncomputable abbrev bL:Stmt:=aK 95
noncomputable abbrev c9:Stmt:=aK 96
noncomputable abbrev dj:Stmt:=aK 97
noncomputable abbrev cO:Stmt:=aK 98
noncomputable abbrev cQ:Stmt:=aK 99
noncomputable abbrev cM:Stmt:=aK 100
noncomputable abbrev bz:Stmt:=aK 101
noncomputable abbrev cx:Stmt:=aK 102
noncomputable abbrev gZ:Stmt:=aK 103
noncomputable abbrev bR:Stmt:=aZ (aK 12) 0
noncomputable abbrev bQ:Stmt:=aZ (aK 12) 1
noncomputable abbrev bC:Stmt:=aZ (aK 12) 2
noncomputable abbrev bB:Stmt:=aZ (aK 12) 3
noncomputable abbrev s_Fraction_over:Stmt:=aZ (aK 12) 4
noncomputable abbrev bA:Stmt:=aZ (aK 12) 5
noncomputable abbrev bP:Stmt:=aZ (aK 12) 6
noncomputable abbrev bO:Stmt:=aZ (aK 12) 7
noncomputable abbrev cG:Stmt:=aZ (aK 57) 0
noncomputable abbrev s_Way_may_stay:Stmt:=aZ (aK 57) 1
noncomputable abbrev d6:Stmt:=aZ (aK 57) 2
noncomputable abbrev cA:Stmt:=aZ (aK 57) 3
noncomputable abbrev bG:Stmt:=aZ (aK 58) 0
noncomputable abbrev b7:Stmt:=aZ (aK 58) 1
noncomputable abbrev bF:Stmt:=aZ (aK 59) 0
noncomputable abbrev bj:Stmt:=aZ (aK 59) 1
noncomputable abbrev s_Store_init:Stmt:=aZ (aK 60) 0
noncomputable abbrev s_Store_may_stay:Stmt:=aZ (aK 60) 1
noncomputable abbrev d8:Stmt:=aZ (aK 67) 0
noncomputable abbrev du:Stmt:=aZ (aK 67) 1
noncomputable abbrev d7:Stmt:=aZ (aK 67) 2
noncomputable abbrev fj:Stmt:=aZ (aK 67) 3
noncomputable abbrev b6:Stmt:=aZ (aK 67) 4
noncomputable abbrev bE:Stmt:=aZ (aK 9) 0
structure Ad where
 Fraction:Addr
 Way:Addr
 Growing:Addr
 Leaking:Addr
 Store:Addr
 Net:Addr
 GainError:Addr
 NoNumber:Addr
 TooMany:Addr
 NoStrand:Addr
 NoWay:Addr
 Broken:Addr
 Twice:Addr
 NoPlace:Addr
structure TX (K:PySem.W.Frag) (mg:Str→Option Value) (a:Ad):Prop where
 d_divisor:FDe K mg "divisor" fe ["one","other"]
 d_in_lowest_terms:FDe K mg "in_lowest_terms" bp ["top","bottom"]
 d_total:FDe K mg "total" gP ["some"]
 d_amount:FDe K mg "amount" fQ ["plan","name"]
 d_refuse_other_names:FDe K mg "refuse_other_names" aW ["net","plan"]
 d_sums_of_own_ways:FDe K mg "sums_of_own_ways" bf ["net","plan"]
 d_sums:FDe K mg "sums" s_sums ["net","plan"]
 d_bound_passed:FDe K mg "bound_passed" b5 ["way","part"]
 d_other_names:FDe K mg "other_names" cu ["net","plan"]
 d_faults:FDe K mg "faults" fO ["net","plan"]
 d_strand_plan:FDe K mg "strand_plan" cq ["net","strand"]
 d_are_fit:FDe K mg "are_fit" fg ["numbers","names"]
 d_is_paper:FDe K mg "is_paper" dZ ["net","prices","bounds"]
 d_earned:FDe K mg "earned" fP ["way","prices","bounds"]
 d_earns_nothing:FDe K mg "earns_nothing" bN ["net","prices","bounds"]
 d_weight:FDe K mg "weight" fN ["net","prices","bounds"]
 d_shows_lack:FDe K mg "shows_lack" cL ["net","weights","bounds"]
 d_shows_more:FDe K mg "shows_more" cK ["net","plan","strand"]
 d_shows_greatest:FDe K mg "shows_greatest" bx ["net","place","answer"]
 d_shows_most:FDe K mg "shows_most" cJ ["net","place","answer"]
 d_wants_by_name:FDe K mg "wants_by_name" bJ ["places"]
 d_check_way:FDe K mg "check_way" dn ["way","ahead","wants"]
 d_ways_by_name:FDe K mg "ways_by_name" b4 ["ways","wants"]
 d_law_cell_at:FDe K mg "_law_cell_at" cz ["_law_script","_law_k"]
 d_law_plus:FDe K mg "_law_plus" dQ ["_law_one","_law_other"]
 d_law_less:FDe K mg "_law_less" dW ["_law_one","_law_other"]
 d_law_times:FDe K mg "_law_times" c8 ["_law_one","_law_other"]
 d_law_over:FDe K mg "_law_over" dS ["_law_one","_law_other"]
 d_law_name:FDe K mg "_law_name" dU ["_law_at","_law_cell"]
 d_law_number:FDe K mg "_law_number" cN ["_law_cell"]
 d_law_not_under:FDe K mg "_law_not_under" bK ["_law_cell"]
 d_law_high:FDe K mg "_law_high" dX ["_law_cell"]
 d_law_gain_by:FDe K mg "_law_gain_by" cy ["_law_cell"]
 d_law_ends:FDe K mg "_law_ends" dY ["_law_cell","_law_places"]
 d_law_way:FDe K mg "_law_way" fb ["_law_way_here"]
 d_law_built:FDe K mg "_law_built" dl ["_law_told"]
 d_law_sums:FDe K mg "_law_sums" dO ["_law_told","_law_plan"]
 d_law_meets:FDe K mg "_law_meets" dk ["_law_told","_law_plan"]
 d_law_named:FDe K mg "_law_named" dg ["_law_told","_law_prices","_law_highs"]
 d_law_earned:FDe K mg "_law_earned" cP ["_law_way_here","_law_prices","_law_highs"]
 d_law_weighed:FDe K mg "_law_weighed" cv ["_law_told","_law_prices","_law_highs"]
 d_law_amount:FDe K mg "_law_amount" cS ["_law_told","_law_place","_law_answer"]
 d_law_price:FDe K mg "_law_price" df ["_law_cell"]
 d_law_asked_way:FDe K mg "_law_asked_way" bM ["_law_script","_law_at","_law_places","_law_prices","_law_name_here"]
 d_law_asked:FDe K mg "_law_asked" dm ["_law_script","_law_size_here","_law_many"]
 d_law_size:FDe K mg "_law_size" dP ["_law_script"]
 d_law_pair:FDe K mg "_law_pair" dR ["_law_number_here"]
 d_law_fractions:FDe K mg "_law_fractions" bL ["_law_pairs_here"]
 d_law_stays:FDe K mg "_law_stays" c9 ["_law_handed","_law_pairs_here"]
 d_law_moved:FDe K mg "_law_moved" dj ["_law_pairs_here","_law_name_here","_law_much"]
 d_law_halved:FDe K mg "_law_halved" cO ["_law_told","_law_asked_here","_law_plan"]
 d_law_dearer:FDe K mg "_law_dearer" cQ ["_law_highs","_law_more"]
 d_law_spoilt:FDe K mg "_law_spoilt" cM ["_law_script","_law_told","_law_asked_here","_law_answer"]
 d_law_told_right:FDe K mg "_law_told_right" bz ["_law_net","_law_told","_law_place","_law_answer"]
 d_law_refused:FDe K mg "_law_refused" cx ["_law_net","_law_strange","_law_answer"]
 d_law:FDe K mg "law" gZ ["_law_script"]
 cl_Fraction:Cls K a.Fraction
 mg_Fraction:mg "Fraction"=some (.ref a.Fraction)
 na_Fraction_top:NoAttr K a.Fraction "top"
 na_Fraction_bottom:NoAttr K a.Fraction "bottom"
 i_Fraction:IDe K a.Fraction "Fraction.__init__" bR ["self","top","bottom"] [[],[V.int 1]]
 m_Fraction_plus:MDe K a.Fraction "plus" "Fraction.plus" bQ ["self","other"]
 m_Fraction_minus:MDe K a.Fraction "minus" "Fraction.minus" bC ["self","other"]
 m_Fraction_times:MDe K a.Fraction "times" "Fraction.times" bB ["self","other"]
 m_Fraction_under:MDe K a.Fraction "under" "Fraction.under" bA ["self","other"]
 m_Fraction_same:MDe K a.Fraction "same" "Fraction.same" bP ["self","other"]
 m_Fraction_sign:MDe K a.Fraction "sign" "Fraction.sign" bO ["self"]
 c1_Fraction:PySem.W.findIn K (.ref a.Fraction) "__class__"=some (some (.builtin "object.__class__"))
 c4_Fraction:PySem.W.mroIn K a.Fraction (.type "object")=some true
 cl_Way:Cls K a.Way
 mg_Way:mg "Way"=some (.ref a.Way)
 na_Way_name:NoAttr K a.Way "name"
 na_Way_start:NoAttr K a.Way "start"
 na_Way_goal:NoAttr K a.Way "goal"
 na_Way_high:NoAttr K a.Way "high"
 na_Way_cost:NoAttr K a.Way "cost"
 i_Way:IDe K a.Way "Way.__init__" cG ["self","name","start","goal","high","cost"] [[],[V.non,V.non]]
 c_Way:CDe K a.Way "Way.__init__" cG ["self","name","start","goal","high","cost"]
 m_Way_gain:MDe K a.Way "gain" "Way.gain" d6 ["self"]
 m_Way_out:MDe K a.Way "out" "Way.out" cA ["self","amount"]
 c1_Way:PySem.W.findIn K (.ref a.Way) "__class__"=some (some (.builtin "object.__class__"))
 c4_Way:PySem.W.mroIn K a.Way (.type "object")=some true
 cl_Growing:Cls K a.Growing
 mg_Growing:mg "Growing"=some (.ref a.Growing)
 na_Growing_rate:NoAttr K a.Growing "rate"
 na_Growing_name:NoAttr K a.Growing "name"
 na_Growing_start:NoAttr K a.Growing "start"
 na_Growing_goal:NoAttr K a.Growing "goal"
 na_Growing_high:NoAttr K a.Growing "high"
 na_Growing_cost:NoAttr K a.Growing "cost"
 i_Growing:IDe K a.Growing "Growing.__init__" bG ["self","name","start","goal","rate","high","cost"] [[],[V.non,V.non]]
 m_Growing_gain:MDe K a.Growing "gain" "Growing.gain" b7 ["self"]
 m_Growing_out:MDe K a.Growing "out" "Way.out" cA ["self","amount"]
 c1_Growing:PySem.W.findIn K (.ref a.Growing) "__class__"=some (some (.builtin "object.__class__"))
 c4_Growing:PySem.W.mroIn K a.Growing (.type "object")=some true
 cl_Leaking:Cls K a.Leaking
 mg_Leaking:mg "Leaking"=some (.ref a.Leaking)
 na_Leaking_loss:NoAttr K a.Leaking "loss"
 na_Leaking_name:NoAttr K a.Leaking "name"
 na_Leaking_start:NoAttr K a.Leaking "start"
 na_Leaking_goal:NoAttr K a.Leaking "goal"
 na_Leaking_high:NoAttr K a.Leaking "high"
 na_Leaking_cost:NoAttr K a.Leaking "cost"
 i_Leaking:IDe K a.Leaking "Leaking.__init__" bF ["self","name","start","goal","loss","high","cost"] [[],[V.non,V.non]]
 m_Leaking_gain:MDe K a.Leaking "gain" "Leaking.gain" bj ["self"]
 m_Leaking_out:MDe K a.Leaking "out" "Way.out" cA ["self","amount"]
 c1_Leaking:PySem.W.findIn K (.ref a.Leaking) "__class__"=some (some (.builtin "object.__class__"))
 c4_Leaking:PySem.W.mroIn K a.Leaking (.type "object")=some true
 cl_Store:Cls K a.Store
 mg_Store:mg "Store"=some (.ref a.Store)
 na_Store_loss:NoAttr K a.Store "loss"
 na_Store_name:NoAttr K a.Store "name"
 na_Store_start:NoAttr K a.Store "start"
 na_Store_goal:NoAttr K a.Store "goal"
 na_Store_high:NoAttr K a.Store "high"
 na_Store_cost:NoAttr K a.Store "cost"
 m_Store_gain:MDe K a.Store "gain" "Leaking.gain" bj ["self"]
 m_Store_out:MDe K a.Store "out" "Way.out" cA ["self","amount"]
 c1_Store:PySem.W.findIn K (.ref a.Store) "__class__"=some (some (.builtin "object.__class__"))
 c4_Store:PySem.W.mroIn K a.Store (.type "object")=some true
 cl_Net:Cls K a.Net
 mg_Net:mg "Net"=some (.ref a.Net)
 na_Net_wants:NoAttr K a.Net "wants"
 na_Net_ways:NoAttr K a.Net "ways"
 i_Net:IDe K a.Net "Net.__init__" d8 ["self","places","ways"] [[]]
 m_Net_names:MDe K a.Net "names" "Net.names" du ["self"]
 m_Net_want:MDe K a.Net "want" "Net.want" d7 ["self","place"]
 m_Net_way:MDe K a.Net "way" "Net.way" fj ["self","name"]
 m_Net_all_ways:MDe K a.Net "all_ways" "Net.all_ways" b6 ["self"]
 no_Net_times:PySem.W.findIn K (.ref a.Net) "times"=some none
 no_Net_out:PySem.W.findIn K (.ref a.Net) "out"=some none
 c2:PySem.W.specialIn K (.builtin "object.__class__") "__get__"=some (some (.builtin "getset_descriptor.__get__"))
 c3:PySem.W.takesIn K (.builtin "object.__class__")=some true
 mg_GainError:mg "GainError"=some (.ref a.GainError)
 mg_NoWay:mg "NoWay"=some (.ref a.NoWay)
 mg_NoPlace:mg "NoPlace"=some (.ref a.NoPlace)
 xi_NoPlace:XiDe K a.NoPlace "NoPlace.__init__" bE ["self","place"]
 xs_NoPlace:ExI K a.NoPlace
 na_NoPlace_place:NoAttr K a.NoPlace "place"
 hd_NoPlace:PySem.W.hasDictIn K a.NoPlace=true
 br_NoPlace:ClsRd K a.GainError
 bf_NoPlace:PySem.W.findCls K (.ref a.GainError) (.type "type") "__init__"=some (.val (.builtin "ValueError.__init__"))
 ca1_NoPlace:PySem.W.instIn K (.ref a.NoPlace) (.type "tuple")=some false
 ca2_NoPlace:∃ cd,PySem.W.clsIn K a.NoPlace=some cd
 ca3_NoPlace:PySem.W.subIn K (.ref a.NoPlace) (.type "BaseException")=some true
 su_NoPlace_NoPlace:PySem.W.subIn K (.ref a.NoPlace) (.ref a.NoPlace)=some true
 k_Fraction_Fraction:PySem.W.kitOne K (.ref a.Fraction) (.ref a.Fraction)=some true
 k_Way_Store:PySem.W.kitOne K (.ref a.Way) (.ref a.Store)=some false
 k_Growing_Store:PySem.W.kitOne K (.ref a.Growing) (.ref a.Store)=some false
 k_Leaking_Store:PySem.W.kitOne K (.ref a.Leaking) (.ref a.Store)=some false
 k_int_bool:PySem.W.kitOne K (.type "int") (.type "bool")=some false
 k_bool_bool:PySem.W.kitOne K (.type "bool") (.type "bool")=some true
 k_int_int:PySem.W.kitOne K (.type "int") (.type "int")=some true
 xga_NoPlace:PySem.W.findIn K (.ref a.NoPlace) "__getattribute__"=some (some (.builtin "BaseException.__getattribute__"))
 xgh_NoPlace:PySem.W.findIn K (.ref a.NoPlace) "__getattr__"=some none
 xbe_NoPlace:PySem.W.mroIn K a.NoPlace (.type "BaseException")=some true
 xca_NoPlace:PySem.W.findIn K (.ref a.NoPlace) "__class__"=some (some (.builtin "object.__class__"))
 xob_NoPlace:PySem.W.mroIn K a.NoPlace (.type "object")=some true
 xcl_NoPlace:∃ cd,PySem.W.clsIn K a.NoPlace=some cd
 k_NoPlace_GainError:PySem.W.kitOne K (.ref a.NoPlace) (.ref a.GainError)=some true
 k_NoPlace_NoWay:PySem.W.kitOne K (.ref a.NoPlace) (.ref a.NoWay)=some false
 gi_MOST_PLACES:∃ tk,mg "MOST_PLACES"=some (.int 12 tk)
 gi_MOST_WAYS:∃ tk,mg "MOST_WAYS"=some (.int 24 tk)
 z_abs:mg "abs"=none
 z_all:mg "all"=none
 z_bool:mg "bool"=none
 z_dict:mg "dict"=none
 z_enumerate:mg "enumerate"=none
 z_int:mg "int"=none
 z_isinstance:mg "isinstance"=none
 z_len:mg "len"=none
 z_list:mg "list"=none
 z_range:mg "range"=none
 z_zip:mg "zip"=none
open PySem L2 in
local macro_rules | `(tactic| walk_at "sc") => `(tactic| exact ⟨rfl, rfl, rfl, by decide +kernel, rfl, by decide +kernel, by decide +kernel⟩)
section
variable {P:Program} {w:World} {K:PySem.W.Frag} {mg:Str→Option Value} {base:Heap} {a:Ad}
theorem TX.exa_NoPlace (T:TX K mg a):ExA K a.NoPlace:=⟨T.xga_NoPlace,T.xgh_NoPlace,T.xbe_NoPlace,T.xca_NoPlace,T.c2,T.c3,T.xob_NoPlace,T.xcl_NoPlace⟩
theorem sc_divisor:FnScope ["one","other","rest"] ["one","other"] (af fe):=by walk_at "sc"
theorem sc_in_lowest_terms:FnScope ["top","bottom","made"] ["top","bottom"] (af bp):=by walk_at "sc"
theorem sc_total:FnScope ["some","top","bottom","shared","number","common","own","left"] ["some"] (af gP):=by walk_at "sc"
theorem sc_amount:FnScope ["plan","name"] ["plan","name"] (af fQ):=by walk_at "sc"
theorem sc_refuse_other_names:FnScope ["net","plan","name"] ["net","plan"] (af aW):=by walk_at "sc"
theorem sc_sums_of_own_ways:FnScope ["net","plan","result","place","way","part"] ["net","plan"] (af bf):=by walk_at "sc"
theorem sc_sums:FnScope ["net","plan"] ["net","plan"] (af s_sums):=by walk_at "sc"
theorem sc_bound_passed:FnScope ["way","part"] ["way","part"] (af b5):=by walk_at "sc"
theorem sc_other_names:FnScope ["net","plan","own","way"] ["net","plan"] (af cu):=by walk_at "sc"
theorem sc_faults:FnScope ["net","plan","found","way","come","place"] ["net","plan"] (af fO):=by walk_at "sc"
theorem sc_strand_plan:FnScope ["net","strand","head","path","tail"] ["net","strand"] (af cq):=by walk_at "sc"
theorem sc_are_fit:FnScope ["numbers","names","name","number"] ["numbers","names"] (af fg):=by walk_at "sc"
theorem sc_is_paper:FnScope ["net","prices","bounds","highs"] ["net","prices","bounds"] (af dZ):=by walk_at "sc"
theorem sc_earned:FnScope ["way","prices","bounds","less"] ["way","prices","bounds"] (af fP):=by walk_at "sc"
theorem sc_earns_nothing:FnScope ["net","prices","bounds","way"] ["net","prices","bounds"] (af bN):=by walk_at "sc"
theorem sc_weight:FnScope ["net","prices","bounds","wanted","bounded"] ["net","prices","bounds"] (af fN):=by walk_at "sc"
theorem sc_shows_lack:FnScope ["net","weights","bounds"] ["net","weights","bounds"] (af cL):=by walk_at "sc"
theorem sc_shows_more:FnScope ["net","plan","strand"] ["net","plan","strand"] (af cK):=by walk_at "sc"
theorem sc_shows_greatest:FnScope ["net","place","answer","plan","prices","bounds","counted"] ["net","place","answer"] (af bx):=by walk_at "sc"
theorem gY:FnScope ["net","place","answer"] ["net","place","answer"] (af cJ):=by walk_at "sc"
theorem sc_wants_by_name:FnScope ["places","wants","name","want"] ["places"] (af bJ):=by walk_at "sc"
theorem sc_check_way:FnScope ["way","ahead","wants","place"] ["way","ahead","wants"] (af dn):=by walk_at "sc"
theorem sc_ways_by_name:FnScope ["ways","wants","ahead","way"] ["ways","wants"] (af b4):=by walk_at "sc"
theorem sc_law_cell_at:FnScope ["_law_script","_law_k"] ["_law_script","_law_k"] (af cz):=by walk_at "sc"
theorem sc_law_plus:FnScope ["_law_one","_law_other"] ["_law_one","_law_other"] (af dQ):=by walk_at "sc"
theorem sc_law_less:FnScope ["_law_one","_law_other"] ["_law_one","_law_other"] (af dW):=by walk_at "sc"
theorem sc_law_times:FnScope ["_law_one","_law_other"] ["_law_one","_law_other"] (af c8):=by walk_at "sc"
theorem sc_law_over:FnScope ["_law_one","_law_other"] ["_law_one","_law_other"] (af dS):=by walk_at "sc"
theorem sc_law_name:FnScope ["_law_at","_law_cell","_law_signs","_law_ahead","_law_sign"] ["_law_at","_law_cell"] (af dU):=by walk_at "sc"
theorem sc_law_number:FnScope ["_law_cell"] ["_law_cell"] (af cN):=by walk_at "sc"
theorem sc_law_not_under:FnScope ["_law_cell"] ["_law_cell"] (af bK):=by walk_at "sc"
theorem sc_law_high:FnScope ["_law_cell"] ["_law_cell"] (af dX):=by walk_at "sc"
theorem sc_law_gain_by:FnScope ["_law_cell"] ["_law_cell"] (af cy):=by walk_at "sc"
theorem sc_law_ends:FnScope ["_law_cell","_law_places","_law_size_here","_law_start","_law_goal"] ["_law_cell","_law_places"] (af dY):=by walk_at "sc"
theorem sc_law_way:FnScope ["_law_way_here","_law_name_here","_law_start","_law_goal","_law_kind","_law_gain","_law_high_here","_law_cost","_law_bound","_law_spent"] ["_law_way_here"] (af fb):=by walk_at "sc"
theorem sc_law_built:FnScope ["_law_told","_law_places"] ["_law_told"] (af dl):=by walk_at "sc"
theorem sc_law_sums:FnScope ["_law_told","_law_plan","_law_at_places","_law_place","_law_way_here","_law_put"] ["_law_told","_law_plan"] (af dO):=by walk_at "sc"
theorem sc_law_meets:FnScope ["_law_told","_law_plan","_law_names","_law_name_here","_law_way_here","_law_put","_law_at_places","_law_place"] ["_law_told","_law_plan"] (af dk):=by walk_at "sc"
theorem sc_law_named:FnScope ["_law_told","_law_prices","_law_highs","_law_places","_law_bound","_law_name_here"] ["_law_told","_law_prices","_law_highs"] (af dg):=by walk_at "sc"
theorem sc_law_earned:FnScope ["_law_way_here","_law_prices","_law_highs","_law_rest"] ["_law_way_here","_law_prices","_law_highs"] (af cP):=by walk_at "sc"
theorem sc_law_weighed:FnScope ["_law_told","_law_prices","_law_highs","_law_whole","_law_place","_law_way_here"] ["_law_told","_law_prices","_law_highs"] (af cv):=by walk_at "sc"
theorem sc_law_amount:FnScope ["_law_told","_law_place","_law_answer","_law_much","_law_plan","_law_prices","_law_highs","_law_raised","_law_way_here"] ["_law_told","_law_place","_law_answer"] (af cS):=by walk_at "sc"
theorem sc_law_price:FnScope ["_law_cell"] ["_law_cell"] (af df):=by walk_at "sc"
theorem sc_law_asked_way:FnScope ["_law_script","_law_at","_law_places","_law_prices","_law_name_here","_law_start","_law_goal","_law_kind","_law_gain","_law_over_here","_law_cost","_law_much","_law_high_here"] ["_law_script","_law_at","_law_places","_law_prices","_law_name_here"] (af bM):=by walk_at "sc"
theorem sc_law_asked:FnScope ["_law_script","_law_size_here","_law_many","_law_places","_law_asked_here","_law_prices","_law_k","_law_place","_law_raised","_law_ways","_law_plan","_law_highs","_law_name_here","_law_way_here","_law_put","_law_over_here","_law_at_places","_law_wanted","_law_want"] ["_law_script","_law_size_here","_law_many"] (af dm):=by walk_at "sc"
theorem sc_law_size:FnScope ["_law_script","_law_size_here","_law_many"] ["_law_script"] (af dP):=by walk_at "sc"
theorem sc_law_pair:FnScope ["_law_number_here","_law_part"] ["_law_number_here"] (af dR):=by walk_at "sc"
theorem sc_law_fractions:FnScope ["_law_pairs_here","_law_handed","_law_name_here"] ["_law_pairs_here"] (af bL):=by walk_at "sc"
theorem sc_law_stays:FnScope ["_law_handed","_law_pairs_here"] ["_law_handed","_law_pairs_here"] (af c9):=by walk_at "sc"
theorem sc_law_moved:FnScope ["_law_pairs_here","_law_name_here","_law_much","_law_new"] ["_law_pairs_here","_law_name_here","_law_much"] (af dj):=by walk_at "sc"
theorem sc_law_halved:FnScope ["_law_told","_law_asked_here","_law_plan","_law_new","_law_way_here"] ["_law_told","_law_asked_here","_law_plan"] (af cO):=by walk_at "sc"
theorem sc_law_dearer:FnScope ["_law_highs","_law_more","_law_new","_law_name_here"] ["_law_highs","_law_more"] (af cQ):=by walk_at "sc"
theorem sc_law_spoilt:FnScope ["_law_script","_law_told","_law_asked_here","_law_answer","_law_much","_law_plan","_law_prices","_law_highs","_law_deed","_law_more","_law_place","_law_way_here"] ["_law_script","_law_told","_law_asked_here","_law_answer"] (af cM):=by walk_at "sc"
theorem sc_law_told_right:FnScope ["_law_net","_law_told","_law_place","_law_answer","_law_much","_law_plan","_law_prices","_law_highs","_law_found"] ["_law_net","_law_told","_law_place","_law_answer"] (af bz):=by walk_at "sc"
theorem sc_law_refused:FnScope ["_law_net","_law_strange","_law_answer","_law_much","_law_plan","_law_prices","_law_highs","_law_found","error"] ["_law_net","_law_strange","_law_answer"] (af cx):=by walk_at "sc"
theorem sc_law:FnScope ["_law_script","_law_size_here","_law_many","_law_told","_law_asked_here","_law_answer","_law_net","_law_strange","_law_spoilt_here","_law_other"] ["_law_script"] (af gZ):=by walk_at "sc"
theorem sc_Fraction_init:FnScope ["self","top","bottom","common"] ["self","top","bottom"] (af bR):=by walk_at "sc"
theorem sc_Fraction_plus:FnScope ["self","other","common","own","top","left"] ["self","other"] (af bQ):=by walk_at "sc"
theorem iq:FnScope ["self","other"] ["self","other"] (af bC):=by walk_at "sc"
theorem sc_Fraction_times:FnScope ["self","other","first","second","top"] ["self","other"] (af bB):=by walk_at "sc"
theorem im:FnScope ["self","other"] ["self","other"] (af bA):=by walk_at "sc"
theorem sc_Fraction_same:FnScope ["self","other"] ["self","other"] (af bP):=by walk_at "sc"
theorem sc_Fraction_sign:FnScope ["self"] ["self"] (af bO):=by walk_at "sc"
theorem sc_Way_init:FnScope ["self","name","start","goal","high","cost"] ["self","name","start","goal","high","cost"] (af cG):=by walk_at "sc"
theorem sc_Way_gain:FnScope ["self"] ["self"] (af d6):=by walk_at "sc"
theorem gd:FnScope ["self","amount"] ["self","amount"] (af cA):=by walk_at "sc"
theorem sc_Growing_init:FnScope ["self","name","start","goal","rate","high","cost"] ["self","name","start","goal","rate","high","cost"] (af bG):=by walk_at "sc"
theorem sc_Growing_gain:FnScope ["self"] ["self"] (af b7):=by walk_at "sc"
theorem sc_Leaking_init:FnScope ["self","name","start","goal","loss","high","cost"] ["self","name","start","goal","loss","high","cost"] (af bF):=by walk_at "sc"
theorem gv:FnScope ["self"] ["self"] (af bj):=by walk_at "sc"
theorem sc_Net_init:FnScope ["self","places","ways"] ["self","places","ways"] (af d8):=by walk_at "sc"
theorem sc_Net_names:FnScope ["self"] ["self"] (af du):=by walk_at "sc"
theorem sc_Net_want:FnScope ["self","place"] ["self","place"] (af d7):=by walk_at "sc"
theorem sc_Net_way:FnScope ["self","name"] ["self","name"] (af fj):=by walk_at "sc"
theorem sc_Net_all_ways:FnScope ["self"] ["self"] (af b6):=by walk_at "sc"
theorem sc_NoPlace_init:FnScope ["self","place"] ["self","place"] (af bE):=by walk_at "sc"
end
end G
open PySem L2 in
local macro_rules | `(tactic| walk_at "kit") => `(tactic| first | exact G.TX.k_Fraction_Fraction (by assumption) | exact G.TX.k_Way_Store (by assumption) | exact G.TX.k_Growing_Store (by assumption) | exact G.TX.k_Leaking_Store (by assumption) | exact G.TX.k_int_bool (by assumption) | exact G.TX.k_bool_bool (by assumption) | exact G.TX.k_int_int (by assumption) | exact G.TX.k_NoPlace_GainError (by assumption) | exact G.TX.k_NoPlace_NoWay (by assumption))
open PySem L2 in
local macro_rules | `(tactic| walk_at "sm") => `(tactic| first | assumption | (refine And.left (?_ : G.SmR _); assumption) | (refine And.right (?_ : G.SmR _); assumption))
open PySem L2 in
local macro_rules | `(tactic| walk_at "fa") => `(tactic| first | rfl | assumption | exact True.intro | exact (fun _ h => h) | ((with_reducible show L2.TyOf _ _ _ _); first | exact TyOf.int _ | exact TyOf.str _ | exact TyOf.bl _ | exact TyOf.non | exact G.FrAt.ty (G.TX.fr (by assumption)) (by walk_at "fa")) | ((with_reducible show PySem.W.kitOne _ _ _ = _); walk_at "kit") | ((with_reducible show G.FrAt _ _ _ _); apply G.FrAt.up; assumption; walk_at "fa") | ((with_reducible show L2.SqL _ _ _ _); apply Same.seq; assumption; walk_at "fa") | (show (0 : Int) < _; decide) | (refine (And.intro ?_ ?_ : CDiv _ _) <;> decide) | (refine (And.intro ?_ (And.intro ?_ ?_) : CPow _ _) <;> decide) | exact (PySem.IntMulOk.of_right (by decide)) | exact (PySem.IntMulOk.of_left (by decide)) | (refine (And.intro ?_ ?_ : CMulB _ _) <;> walk_at "sm"))
open PySem L2 in
local macro_rules | `(tactic| walk_at "rd") => `(tactic| repeat (first | refine L2.ItVar.mk _ (by walk_at "fa") ?_ | refine L2.ItB.mk _ (by walk_at "fa") ?_ | refine L2.ItTest.mk _ (by walk_at "fa") ?_ | refine L2.IrU.mk _ (by walk_at "fa") ?_ | refine L2.IrI0.mk _ _ (by walk_at "fa") (by walk_at "fa") ?_ | refine L2.ItFld.mk _ _ _ _ _ (by walk_at "fa") (by walk_at "fa") (by walk_at "fa") (by walk_at "fa") (by walk_at "fa") ?_ | apply @Exists.intro V | apply @Exists.intro Int | apply @Exists.intro Addr | apply @Exists.intro Rat | apply @Exists.intro Bool | apply @Exists.intro Value | apply @Exists.intro (List V) | apply @Exists.intro (List (Str × V)) | apply @Exists.intro Str | apply @Exists.intro (List Int) | refine And.intro (by walk_at "fa") ?_ | refine L2.iteT ?_ | refine L2.iteF ?_))
namespace G
open PySem L2
section
variable {P:Program} {w:World} {K:PySem.W.Frag} {mg:Str→Option Value} {base:Heap} {a:Ad}
theorem TX.fr (T:TX K mg a):FrC K a.Fraction:=⟨T.cl_Fraction,T.na_Fraction_top,T.na_Fraction_bottom,T.c1_Fraction,T.c2,T.c3,T.c4_Fraction⟩
theorem gcd_turn {a b n m:Int} (h:gcd n m=gcd a b) (hm:0≤m) (p:m≠0):0≤n % m∧n % m<m∧gcd m (n % m)=gcd a b:=
 ⟨Int.emod_nonneg n p,Int.emod_lt_of_pos n (by omega),by rw [gcd_step n m (by omega),h]⟩
theorem cH (T:TX K mg a):FnB P w K mg base CX0 "divisor" 1 ["one","other"] spDiv:=by
 refine T.d_divisor.ok sc_divisor (fun vs H Q E h=>?_) (fun f cdv A outer s H vs Q E hr h=>?_)
 ·obtain ⟨a,b,rfl,_⟩:=h
  rfl
 ·obtain ⟨a,b,rfl,k⟩:=h
  refine ⟨_,(ag (ar (i:=0) sc_divisor.nd rfl (Or.inl rfl) (aU call_abs (by rfl) T.z_abs PyProof.Rows.boot_abs (aa (pv 0) ae)))
   (ag (ar (i:=1) sc_divisor.nd rfl (Or.inl rfl) (aU call_abs (by rfl) T.z_abs PyProof.Rows.boot_abs (aa (pv 1) ae)))
   (ag (ps_while i7 (aw op_ne (pv 1) ac (az _)) (ag (ar (i:=2) sc_divisor.nd rfl (Or.inl rfl) (am aI (pv 0) (pv 1)))
   (ag (ar (i:=0) sc_divisor.nd rfl (Or.inl rfl) (pv 1))
   (ah (ar (i:=1) sc_divisor.nd rfl (Or.inl rfl) (pv 2))))))
   (ah (aq (pv 0)))))),?_⟩
  try dsimp only [aM,Cx.nox,Cx.wish]
  refine ⟨_,rfl,_,rfl,_,rfl,_,rfl,?_⟩
  refine while_by (fun σ H'=>∃ (n m:Int) (r:Option V),σ=[some (.int n),some (.int m),r]∧H'=H∧0≤n∧0≤m∧gcd n m=gcd a b) (fun σ _=>match σ with | [_,some (.int m),_]=>m.toNat | _=>0) ?_ ?_ ?_
  ·refine ⟨_,_,_,rfl,rfl,?_,?_,gcd_abs a b⟩ <;> split <;> omega
  ·rintro σ H' ⟨n,m,r,rfl,rfl,hn,hm,hg⟩
   refine ⟨_,rfl,rfl,_,rfl,?_⟩
   by_cases z:m=0
   ·subst z
    refine iteNS rfl ?_
    refine ⟨_,rfl,?_⟩
    rw [gcd_zero n hn] at hg
    rw [hg]
    exact k
   ·refine gW (by rw [neV z];rfl) ?_
    obtain ⟨g1,g2,g3⟩:=gcd_turn hg hm z
    refine ⟨_,rfl,_,rfl,_,_,rfl,rfl,(by show (0:Int)<m;omega),_,rfl,_,rfl,⟨_,_,_,rfl,rfl,hm,g1,g3⟩,?_⟩
    show (n % m).toNat<m.toNat
    omega
  ·rintro σ H' Q1 Q2 hq ⟨v,e,s1,c,ec,q⟩
   exact ⟨v,e,s1,c,ec,hq _ _ q⟩
theorem ok_init (T:TX K mg a):∀ dvs∈[[],[V.int 1]],MkB P w K mg base CX0 a.Fraction 2 ["self","top","bottom"] dvs (spInit a.Fraction):=by
 refine T.i_Fraction.ok sc_Fraction_init (fun vs H Q E h=>?_) (fun f cdv A outer s H vs Q E hr h=>?_)
 ·obtain ⟨p,dx,n,b,rfl,_⟩:=h
  rfl
 ·obtain ⟨p,dx,n,b,rfl,hp,hb,sb,k⟩:=h
  refine ⟨_,(ag (aG (aw ba (pv 2) ac (az _)) (ah cm) ay)
   (ag (ar (i:=3) sc_Fraction_init.nd rfl (Or.inl rfl) (av (cH T) hr ak (aa (pv 1) (aa (pv 2) ae))))
   (ag (aG (aw ft (pv 2) ac (az _)) (ah (ar (i:=3) sc_Fraction_init.nd rfl (Or.inl rfl) (pe_un un_neg (pv 3)))) ay)
   (ag (d9 (pv 0) (am bu (pv 1) (pv 3)) rfl)
   (ah (d9 (pv 0) (am bu (pv 2) (pv 3)) rfl)))))),?_⟩
  try dsimp only [aM,Cx.nox,Cx.wish]
  refine ⟨_,rfl,rfl,_,rfl,?_⟩
  refine eQ (neV hb) ?_
  refine ⟨_,rfl,_,rfl,n,b,rfl,?_⟩
  refine ⟨_,rfl,_,_,rfl,rfl,_,rfl,?_⟩
  obtain ⟨i1,i2⟩:=init_spec n b hb
  have gp:=dA n hb
  have gs:=Sm.gcd_r n hb sb
  have fin:∀ c:Int,c≠0→Sm c→n.fdiv c=(Rat.divInt n b).num→b.fdiv c=((Rat.divInt n b).den:Int)→
    tSeq (sFld K (tVar 0) (tOp (rI CDivB fun i j=>.int (i.fdiv j)) (tVar 1) (tVar 3)) "top") (sFld K (tVar 0) (tOp (rI CDivB fun i j=>.int (i.fdiv j)) (tVar 2) (tVar 3)) "bottom") { nx:=fun _ H'=>Q .non H',rt:=Q } [some (.ref p),some (.int n),some (.int b),some (.int c)] H:=by
   intro c hc hs e1 e2
   refine ⟨_,rfl,_,rfl,_,_,rfl,rfl,⟨hc,hs⟩,_,rfl,p,a.Fraction,dx,_,rfl,hp,T.cl_Fraction,T.na_Fraction_top,(by show 0<1000;decide),?_⟩
   refine ⟨_,rfl,_,rfl,_,_,rfl,rfl,⟨hc,hs⟩,_,rfl,p,a.Fraction,dx,_,rfl,ad,T.cl_Fraction,T.na_Fraction_bottom,(by show 1<1000;decide),?_⟩
   refine k _ ?_
   rw [upd_upd]
   dsimp only
   rw [e1,e2,ff_new]
  refine ifB (fun hn=>?_) (fun hn=>?_)
  ·rw [if_pos hn] at i1 i2
   refine ⟨_,rfl,_,rfl,?_⟩
   exact fin _ (by omega) (gs.le (by omega)) i1 i2
  ·rw [if_neg hn] at i1 i2
   exact fin _ (by omega) gs i1 i2
theorem sm1:Sm 1:=Nat.one_lt_two_pow (by decide)
theorem mk2 (T:TX K mg a):MkB P w K mg base CX0 a.Fraction 2 ["self","top","bottom"] [] (spInit a.Fraction):=ok_init T _ (by simp)
theorem mk1 (T:TX K mg a):MkB P w K mg base CX0 a.Fraction 2 ["self","top","bottom"] [.int 1] (spInit a.Fraction):=ok_init T _ (by simp)
theorem cj (T:TX K mg a):FnB P w K mg base CX0 "in_lowest_terms" 4 ["top","bottom"] (spLow a.Fraction):=by
 refine T.d_in_lowest_terms.ok sc_in_lowest_terms (fun vs H Q E h=>?_) (fun f cdv A outer s H vs Q E hr h=>?_)
 ·obtain ⟨t,b,rfl,_⟩:=h
  rfl
 ·obtain ⟨t,b,rfl,k⟩:=h
  refine ⟨_,(ag (ar (i:=2) sc_in_lowest_terms.nd rfl (Or.inl rfl) (bT (mk1 T) hr T.mg_Fraction ak (aa ac ae)))
   (ag (d9 (pv 2) (pv 0) rfl)
   (ag (d9 (pv 2) (pv 1) rfl)
   (ah (aq (pv 2)))))),?_⟩
  try dsimp only [aM,Cx.nox,Cx.wish]
  refine ⟨0,1,rfl,by decide,sm1,fun x H1 nx s1 ⟨dx,hx⟩=>?_⟩
  refine ⟨_,rfl,_,rfl,x,a.Fraction,dx,_,rfl,hx,T.cl_Fraction,T.na_Fraction_top,(by show 2<1000;decide),?_⟩
  refine ⟨_,rfl,_,rfl,x,a.Fraction,dx,_,rfl,ad,T.cl_Fraction,T.na_Fraction_bottom,(by show 2<1000;decide),?_⟩
  refine ⟨_,rfl,?_⟩
  refine k x dx _ nx (fun c o e=>?_) ?_
  ·rw [aj (aB e nx),aj (aB e nx)]
   exact s1 _ _ e
  ·rw [ad,ff_put]
noncomputable abbrev always:Rat→Rat→Prop:=fun _ _=>True
theorem iC (T:TX K mg a):MtB P w K mg base CX0 a.Fraction "plus" 5 ["self","other"] (spR2 a.Fraction (fun x y=>x+y) always):=by
 refine T.m_Fraction_plus.ok sc_Fraction_plus (fun vs H Q E h=>?_) (fun f cdv A outer s H vs Q E hr h=>?_)
 ·obtain ⟨p,q,x,y,rfl,_⟩:=h
  rfl
 ·obtain ⟨p,q,x,y,rfl,hp,hq,sx,sy,_,k⟩:=h
  refine ⟨_,(ag (ar (i:=2) sc_Fraction_plus.nd rfl (Or.inl rfl) (av (cH T) hr ak (aa (cf T.fr (pv 0)) (aa (cf T.fr (pv 1)) ae))))
   (ag (ar (i:=3) sc_Fraction_plus.nd rfl (Or.inl rfl) (am bu (cf T.fr (pv 0)) (pv 2)))
   (ag (ar (i:=4) sc_Fraction_plus.nd rfl (Or.inl rfl) (am aS (am aT (cV T.fr (pv 0)) (am bu (cf T.fr (pv 1)) (pv 2))) (am aT (cV T.fr (pv 1)) (pv 3))))
   (ag (ar (i:=5) sc_Fraction_plus.nd rfl (Or.inl rfl) (av (cH T) hr ak (aa (pv 4) (aa (pv 2) ae))))
   (ah (aq (av (cj T) hr ak (aa (am bu (pv 4) (pv 5)) (aa (am aT (pv 3) (am bu (cf T.fr (pv 1)) (pv 5))) ae))))))))),?_⟩
  try dsimp only [aM,Cx.nox,Cx.wish]
  have hx:=den_ne x
  have hy:=den_ne y
  have xp:=fJ x
  have yp:=fJ y
  have gp:=dA (x.den:Int) hy
  have gs:=Sm.gcd_r (x.den:Int) hy sy.2
  have gn:gcd x.den y.den≠0:=by omega
  have so:Sm ((x.den:Int).fdiv (gcd x.den y.den)):=sx.2.le (fH _ gp (by omega))
  have so2:Sm ((y.den:Int).fdiv (gcd x.den y.den)):=sy.2.le (fH _ gp (by omega))
  refine ⟨_,rfl,p,x,rfl,hp,_,rfl,q,y,rfl,hq,_,_,rfl,?_⟩
  refine ⟨_,rfl,p,x,rfl,hp,_,rfl,_,_,rfl,rfl,⟨by omega,gs⟩,?_⟩
  refine ⟨_,rfl,p,x,rfl,hp,_,rfl,q,y,rfl,hq,_,rfl,_,_,rfl,rfl,⟨by omega,gs⟩,_,_,rfl,rfl,⟨sx.1,so2⟩,_,rfl,q,y,rfl,hq,_,rfl,_,_,rfl,rfl,⟨sy.1,so⟩,_,_,rfl,rfl,?_⟩
  refine ⟨_,rfl,_,rfl,_,_,rfl,?_⟩
  generalize htop:x.num*(y.den:Int).fdiv (gcd x.den y.den)+y.num*(x.den:Int).fdiv (gcd x.den y.den)=top
  have lp:=dA top gn
  have ls:=Sm.gcd_r top gn gs
  refine ⟨_,rfl,_,rfl,_,_,rfl,rfl,⟨by omega,ls⟩,_,rfl,_,rfl,q,y,rfl,hq,_,rfl,_,_,rfl,rfl,⟨by omega,ls⟩,_,_,rfl,rfl,⟨so,sy.2.le (fH _ lp (by omega))⟩,_,_,rfl,?_⟩
  intro r dx H' nr s1 h1
  obtain ⟨e1,e2⟩:=add_spec x y
  try dsimp only at e1 e2
  rw [htop] at e1 e2
  refine k r H' nr s1 ⟨dx,?_⟩
  show H' r=some (.ins a.Fraction dx (ff (x+y).num (x+y).den))
  try rw [htop] at h1
  rw [h1,← e1,← e2]
theorem iD (T:TX K mg a):MtB P w K mg base CX0 a.Fraction "minus" 6 ["self","other"] (spR2 a.Fraction (fun x y=>x-y) always):=by
 refine T.m_Fraction_minus.ok iq (fun vs H Q E h=>?_) (fun f cdv A outer s H vs Q E hr h=>?_)
 ·obtain ⟨p,q,x,y,rfl,_⟩:=h
  rfl
 ·obtain ⟨p,q,x,y,rfl,hp,hq,sx,sy,_,k⟩:=h
  refine ⟨_,(ah (aq (cW T.fr (pv 0) (iC T) hr ak (aa (av (cj T) hr ak (aa (pe_un un_neg (cV T.fr (pv 1))) (aa (cf T.fr (pv 1)) ae))) ae)))),?_⟩
  try dsimp only [aM,Cx.nox,Cx.wish]
  refine ⟨_,rfl,p,x,rfl,hp,_,rfl,q,y,rfl,hq,_,rfl,_,rfl,q,y,rfl,hq,_,_,rfl,fun r dx H1 nr s1 h1=>?_⟩
  have f1:FrAt a.Fraction H1 r (-y):=⟨dx,h1⟩
  refine ⟨p,r,x,-y,rfl,hp.mono s1,f1,sx,⟨by show Sm (-y.num);exact sy.1.le (by omega),sy.2⟩,trivial,fun r' H2 nr' s2 f2=>?_⟩
  refine k r' H2 (s1.free nr') (s1.trans s2) ?_
  show FrAt a.Fraction H2 r' (x-y)
  rw [Rat.sub_eq_add_neg]
  exact f2
theorem ok_times (T:TX K mg a):MtB P w K mg base CX0 a.Fraction "times" 5 ["self","other"] (spR2 a.Fraction (fun x y=>x*y) always):=by
 refine T.m_Fraction_times.ok sc_Fraction_times (fun vs H Q E h=>?_) (fun f cdv A outer s H vs Q E hr h=>?_)
 ·obtain ⟨p,q,x,y,rfl,_⟩:=h
  rfl
 ·obtain ⟨p,q,x,y,rfl,hp,hq,sx,sy,_,k⟩:=h
  refine ⟨_,(ag (ar (i:=2) sc_Fraction_times.nd rfl (Or.inl rfl) (av (cH T) hr ak (aa (cV T.fr (pv 0)) (aa (cf T.fr (pv 1)) ae))))
   (ag (ar (i:=3) sc_Fraction_times.nd rfl (Or.inl rfl) (av (cH T) hr ak (aa (cV T.fr (pv 1)) (aa (cf T.fr (pv 0)) ae))))
   (ag (ar (i:=4) sc_Fraction_times.nd rfl (Or.inl rfl) (am aT (am bu (cV T.fr (pv 0)) (pv 2)) (am bu (cV T.fr (pv 1)) (pv 3))))
   (ah (aq (av (cj T) hr ak (aa (pv 4) (aa (am aT (am bu (cf T.fr (pv 0)) (pv 3)) (am bu (cf T.fr (pv 1)) (pv 2))) ae)))))))),?_⟩
  try dsimp only [aM,Cx.nox,Cx.wish]
  have hx:=den_ne x
  have hy:=den_ne y
  have xp:=fJ x
  have yp:=fJ y
  have p1:=dA x.num hy
  have p2:=dA y.num hx
  have s1:=Sm.gcd_r x.num hy sy.2
  have s2:=Sm.gcd_r y.num hx sx.2
  have t1:Sm (x.num.fdiv (gcd x.num y.den)):=sx.1.le (fdiv_le' _ p1 (gcd_dvd_l _ _))
  have t2:Sm (y.num.fdiv (gcd y.num x.den)):=sy.1.le (fdiv_le' _ p2 (gcd_dvd_l _ _))
  have t3:Sm ((x.den:Int).fdiv (gcd y.num x.den)):=sx.2.le (fH _ p2 (by omega))
  have t4:Sm ((y.den:Int).fdiv (gcd x.num y.den)):=sy.2.le (fH _ p1 (by omega))
  refine ⟨_,rfl,p,x,rfl,hp,_,rfl,q,y,rfl,hq,_,_,rfl,?_⟩
  refine ⟨_,rfl,q,y,rfl,hq,_,rfl,p,x,rfl,hp,_,_,rfl,?_⟩
  refine ⟨_,rfl,p,x,rfl,hp,_,rfl,_,_,rfl,rfl,⟨by omega,s1⟩,_,rfl,q,y,rfl,hq,_,rfl,_,_,rfl,rfl,⟨by omega,s2⟩,_,_,rfl,rfl,⟨t1,t2⟩,?_⟩
  refine ⟨_,rfl,_,rfl,p,x,rfl,hp,_,rfl,_,_,rfl,rfl,⟨by omega,s2⟩,_,rfl,q,y,rfl,hq,_,rfl,_,_,rfl,rfl,⟨by omega,s1⟩,_,_,rfl,rfl,⟨t3,t4⟩,_,_,rfl,?_⟩
  intro r dx H' nr s1 h1
  obtain ⟨e1,e2⟩:=mul_spec x y
  refine k r H' nr s1 ⟨dx,?_⟩
  show H' r=some (.ins a.Fraction dx (ff (x*y).num (x*y).den))
  rw [h1,← e1,← e2]
noncomputable def spB2 (C:Addr) (f:Rat→Rat→Bool):Sp:=fun vs H Q _=>∃ (p q:Addr) (x y:Rat),vs=[.ref p,.ref q]∧FrAt C H p x∧FrAt C H q y∧SmR x∧SmR y∧Q (.bl (f x y)) H
theorem ok_under (T:TX K mg a):MtB P w K mg base CX0 a.Fraction "under" 1 ["self","other"] (spB2 a.Fraction fun x y=>decide (x<y)):=by
 refine T.m_Fraction_under.ok im (fun vs H Q E h=>?_) (fun f cdv A outer s H vs Q E hr h=>?_)
 ·obtain ⟨p,q,x,y,rfl,_⟩:=h
  rfl
 ·obtain ⟨p,q,x,y,rfl,hp,hq,sx,sy,k⟩:=h
  refine ⟨_,(ah (aq (fF ft (am aT (cV T.fr (pv 0)) (cf T.fr (pv 1))) (am aT (cV T.fr (pv 1)) (cf T.fr (pv 0))) (az _)))),?_⟩
  try dsimp only [aM,Cx.nox,Cx.wish]
  walk_at "rd"
  show Q (.bl (decide (x.num * ↑y.den<y.num * ↑x.den))) H
  rw [decide_eq_decide.mpr (Rat.lt_iff x y).symm]
  exact k
theorem ok_same (T:TX K mg a):MtB P w K mg base CX0 a.Fraction "same" 1 ["self","other"] (spB2 a.Fraction fun x y=>decide (x=y)):=by
 refine T.m_Fraction_same.ok sc_Fraction_same (fun vs H Q E h=>?_) (fun f cdv A outer s H vs Q E hr h=>?_)
 ·obtain ⟨p,q,x,y,rfl,_⟩:=h
  rfl
 ·obtain ⟨p,q,x,y,rfl,hp,hq,sx,sy,k⟩:=h
  refine ⟨_,(ah (aq (pe_and (fF ba (cV T.fr (pv 0)) (cV T.fr (pv 1)) (az _)) (pe_one (fF ba (cf T.fr (pv 0)) (cf T.fr (pv 1)) (az _)))))),?_⟩
  try dsimp only [aM,Cx.nox,Cx.wish]
  walk_at "rd"
  have hi:=same_iff x y
  refine ifV (fun h1=>?_) (fun h1=>?_)
  ·walk_at "rd"
   show Q (.bl (decide (V.int x.den=V.int y.den))) H
   by_cases h2:(x.den:Int)=y.den
   ·rw [h2,iW rfl]
    rw [show ((fun x y=>decide (x=y)) x y:Bool)=true from iW (hi.mp ⟨h1,h2⟩)] at k
    exact k
   ·rw [neV h2]
    rw [show ((fun x y=>decide (x=y)) x y:Bool)=false from iX fun z=>h2 (hi.mpr z).2] at k
    exact k
  ·show Q (.bl false) H
   rw [show ((fun x y=>decide (x=y)) x y:Bool)=false from iX fun z=>h1 (hi.mpr z).1] at k
   exact k
noncomputable def sgn (x:Rat):Int:=if 0<x.num then 1 else if x.num<0 then -1 else 0
theorem eZ (T:TX K mg a):MtB P w K mg base CX0 a.Fraction "sign" 1 ["self"] (fun vs H Q _=>∃ (p:Addr) (x:Rat),vs=[.ref p]∧FrAt a.Fraction H p x∧Q (.int (sgn x)) H):=by
 refine T.m_Fraction_sign.ok sc_Fraction_sign (fun vs H Q E h=>?_) (fun f cdv A outer s H vs Q E hr h=>?_)
 ·obtain ⟨p,x,rfl,_⟩:=h
  rfl
 ·obtain ⟨p,x,rfl,hp,k⟩:=h
  refine ⟨_,(ag (aG (aw gw (cV T.fr (pv 0)) ac (az _)) (ah (aq ac)) ay)
   (ag (aG (aw ft (cV T.fr (pv 0)) ac (az _)) (ah (aq (pe_un un_neg ac))) ay)
   (ah (aq ac)))),?_⟩
  try dsimp only [aM,Cx.nox,Cx.wish]
  walk_at "rd"
  refine ifB (fun h1=>?_) (fun h1=>?_)
  ·rw [show sgn x=1 from if_pos h1] at k
   exact k
  ·walk_at "rd"
   refine ifB (fun h2=>?_) (fun h2=>?_)
   ·rw [show sgn x = -1 from (if_neg h1).trans (if_pos h2)] at k
    walk_at "rd"
    exact k
   ·rw [show sgn x=0 from (if_neg h1).trans (if_neg h2)] at k
    exact k
inductive IspNoPlace (a:Ad) (vs:List V) (H:Hp) (Q:VK):Prop
 | mk (e:Addr) (n:Str) (h1:vs=[.ref e,.str n]) (h2:H e=some (XI e a.NoPlace none)) (h3:n.length≤1000) (h4:∀ dx,H dx=none→Q .non (upd (upd H e (XI e a.NoPlace (some dx))) dx (.xd [("place",.str n)]))):IspNoPlace a vs H Q
noncomputable def spNoPlace (a:Ad):Sp:=fun vs H Q _=>IspNoPlace a vs H Q
theorem b_NoPlace (T:TX K mg a):ie P w K mg base "NoPlace.__init__" bE ["self","place"] 0 (spNoPlace a):=by
 intro f cdv A outer s₀ H vs Q E hr h
 obtain ⟨e,n,rfl,he,hn,k⟩:=h
 refine ⟨_,(ag (cE (pe_binit T.br_NoPlace T.bf_NoPlace T.mg_GainError (aa (pv 0) (aa (pe_j2 ek (pe_fv (pv 1))) ae))))
   (ah (ps_xfld (pv 0) (pv 1) rfl))),?_⟩
 try dsimp only [aM,Cx.nox,Cx.wish]
 obtain ⟨fi,hfi⟩:=T.xi_NoPlace.fi
 refine ⟨_,rfl,_,rfl,by rw [jF];decide,_,rfl,_,rfl,by rw [jF];omega,_,rfl,?_,e,a.NoPlace,none,_,fi,rfl,he,hfi,?_,?_⟩
 ·rw [show ("no such place: ":Str).length=15 from by decide +kernel,jF]
  omega
 ·rw [jF]
  show 1≤_
  omega
 ·exact ⟨_,rfl,_,rfl,e,a.NoPlace,rfl,he,T.xs_NoPlace,T.na_NoPlace_place,k⟩
theorem xi_NoPlace (T:TX K mg a):XiB P w K mg base a.NoPlace 1 ["self","place"] (spNoPlace a):=
 T.xi_NoPlace.ok sc_NoPlace_init (fun vs H Q E h=>by obtain ⟨_,_,rfl,_⟩:=h;rfl) (b_NoPlace T)
noncomputable def NoPlaceE (a:Ad) (H:Hp) (n:Str) (E:XK):Prop:=∀ H' dx,Same H H'→H' dx=some (.xd [("place",.str n)])→E (.ref a.NoPlace) (some dx) H'
theorem raise_np {H:Hp} {n:Str} {E:XK} (hn:n.length≤1000) (k:NoPlaceE a H n E):([V.str n]:List V).length≤sizeLine∧
  ∀ e,H e=none→spNoPlace a ((.ref e::[.str n])++[]) (upd H e (XI e a.NoPlace none)) (fun v H2=>v=.non∧∃ d,H2 e=some (XI e a.NoPlace d)∧E (.ref a.NoPlace) d (del H2 e)) E0:=by
 refine ⟨by rw [jF];show 1≤_;omega,fun e he=>⟨e,n,rfl,ad,hn,fun dx hd=>⟨rfl,some dx,?_,?_⟩⟩⟩
 ·have ne:dx≠e:=fun z=>by rw [z,ad] at hd;cases hd
  rw [aj (Ne.symm ne),ad]
 ·have ne:dx≠e:=fun z=>by rw [z,ad] at hd;cases hd
  have hd':H dx=none:=by rw [aj ne] at hd;exact hd
  refine k _ dx (fun b o eb=>?_) ?_
  ·have n1:=aB eb he
   have n2:=aB eb hd'
   unfold del
   rw [if_neg n1,aj n2,aj n1,aj n1]
   exact eb
  ·unfold del
   rw [if_neg ne,ad]
structure WayC (K:PySem.W.Frag) (C:Addr):Prop where
 cl:Cls K C
 n1:NoAttr K C "name"
 n2:NoAttr K C "start"
 n3:NoAttr K C "goal"
 n4:NoAttr K C "high"
 n5:NoAttr K C "cost"
theorem TX.wW (T:TX K mg a):WayC K a.Way:=⟨T.cl_Way,T.na_Way_name,T.na_Way_start,T.na_Way_goal,T.na_Way_high,T.na_Way_cost⟩
theorem TX.wG (T:TX K mg a):WayC K a.Growing:=⟨T.cl_Growing,T.na_Growing_name,T.na_Growing_start,T.na_Growing_goal,T.na_Growing_high,T.na_Growing_cost⟩
theorem TX.wL (T:TX K mg a):WayC K a.Leaking:=⟨T.cl_Leaking,T.na_Leaking_name,T.na_Leaking_start,T.na_Leaking_goal,T.na_Leaking_high,T.na_Leaking_cost⟩
theorem TX.wS (T:TX K mg a):WayC K a.Store:=⟨T.cl_Store,T.na_Store_name,T.na_Store_start,T.na_Store_goal,T.na_Store_high,T.na_Store_cost⟩
structure W5 (fs:List (Str × V)) (n s g:Str) (vh vc:V):Prop where
 nm:fs.lookup ("name":Str)=some (.str n)
 st:fs.lookup ("start":Str)=some (.str s)
 go:fs.lookup ("goal":Str)=some (.str g)
 hi:fs.lookup ("high":Str)=some vh
 co:fs.lookup ("cost":Str)=some vc
 ga:fs.lookup ("gain":Str)=none
 ou:fs.lookup ("out":Str)=none
 len:fs.length≤10
theorem W5.new {n s g:Str} {vh vc:V}:W5 (bY "cost" vc (bY "high" vh (bY "goal" (.str g) (bY "start" (.str s) (bY "name" (.str n) []))))) n s g vh vc:=by
 refine ⟨?_,?_,?_,?_,?_,?_,?_,?_⟩
 iterate 7
  simp only [dz]
  (repeat rw [if_neg (by decide +kernel)])
  try rw [if_pos rfl]
  try rfl
 ·have h1:=bV "cost" vc (bY "high" vh (bY "goal" (.str g) (bY "start" (.str s) (bY "name" (.str n) []))))
  have h2:=bV "high" vh (bY "goal" (.str g) (bY "start" (.str s) (bY "name" (.str n) [])))
  have h3:=bV "goal" (.str g) (bY "start" (.str s) (bY "name" (.str n) []))
  have h4:=bV "start" (.str s) (bY "name" (.str n) [])
  have h5:=bV "name" (.str n) []
  simp only [List.length_nil] at h5
  omega
theorem W5.put {fs:List (Str × V)} {n s g:Str} {vh vc v:V} {f:Str} (h:W5 fs n s g vh vc) (hf:f∈(["rate","loss"]:List Str)) (hl:fs.length≤5):W5 (bY f v fs) n s g vh vc:=by
 have e:∀ x∈(["name","start","goal","high","cost","gain","out"]:List Str),x≠f:=by
  intro x hx z
  subst z
  revert hx hf
  simp only [ja,jc,or_false]
  rintro (rfl | rfl | rfl | rfl | rfl | rfl | rfl) (h | h) <;> exact absurd h (by decide +kernel)
 have l:=bV f v fs
 refine ⟨?_,?_,?_,?_,?_,?_,?_,by omega⟩ <;> rw [dz,if_neg (e _ (by simp))]
 ·exact h.nm
 ·exact h.st
 ·exact h.go
 ·exact h.hi
 ·exact h.co
 ·exact h.ga
 ·exact h.ou
theorem bq {f:Str} {v:V} {fs:List (Str × V)} {m:Nat} (h:fs.length≤m):(bY f v fs).length≤m+1:=i3 (bV f v fs) (Nat.succ_le_succ h)
theorem sgn_nn {x:Rat} (h:0≤x.num):¬ sgn x<0:=by
 unfold sgn
 repeat' split
 all_goals omega
theorem sgn_p {x:Rat} (h:0<x.num):¬ sgn x≤0:=by
 unfold sgn
 rw [if_pos h]
 decide
noncomputable def HiOk (C:Addr) (H:Hp) (v:V):Prop:=v=.non∨∃ (q:Addr) (x:Rat),v=.ref q∧FrAt C H q x∧0≤x.num
theorem HiOk.mono {C:Addr} {H H':Hp} {v:V} (h:HiOk C H v) (s:Same H H'):HiOk C H' v:=h.imp id fun ⟨q,x,e,f,z⟩=>⟨q,x,e,f.mono s,z⟩
noncomputable def CoIs (C:Addr) (H:Hp) (p:Addr) (vc vc':V):Prop:=(vc≠.non∧vc'=vc)∨(vc=.non∧∃ q,vc'=.ref q∧q≠p∧FrAt C H q (Rat.divInt 0 1))
theorem CoIs.upd {C p:Addr} {H:Hp} {vc vc':V} {o:HO} (h:CoIs C H p vc vc'):CoIs C (upd H p o) p vc vc':=h.imp id fun ⟨e,q,e2,ne,dq,f⟩=>⟨e,q,e2,ne,dq,by rw [aj ne];exact f⟩
inductive IspWayN (K:PySem.W.Frag) (a:Ad) (vs:List V) (H:Hp) (Q:VK):Prop
 | mk (p C dx:Addr) (n s g:Str) (vh vc:V) (h1:vs=[.ref p,.str n,.str s,.str g,vh,vc]) (h2:H p=some (.ins C dx [])) (h3:WayC K C) (h4:s≠g) (h5:HiOk a.Fraction H vh) (h6:∀ H' fs vc',W5 fs n s g vh vc'→fs.length≤5→CoIs a.Fraction H' p vc vc'→(∀ b o,H b=some o→b≠p→H' b=some o)→H' p=some (.ins C dx fs)→Q .non H'):IspWayN K a vs H Q
noncomputable def spWayN (K:PySem.W.Frag) (a:Ad):Sp:=fun vs H Q _=>IspWayN K a vs H Q
theorem b_Way (T:TX K mg a):ie P w K mg base "Way.__init__" cG ["self","name","start","goal","high","cost"] 3 (spWayN K a):=by
 intro f cdv A outer s₀ H vs Q E hr h
 obtain ⟨p,C,dx,n,s,g,vh,vc,rfl,hp,c,sg,hh,k⟩:=h
 refine ⟨_,(aP (aG (PW.pt (gD (aw ba (pv 2) (pv 3) (az _)) (gf (eN (cU (eD (CX:=CX0) (pv 0) hr ak)))))) (ah cm) ay)
   (aP (aG (PW.pt (gD (aw dF (pv 4) b8 (az _)) (gf (aw ft (eX T.fr (pv 4) (eZ T) hr ak) ac (az _))))) (ah cm) ay)
   (ag (d9 (pv 0) (pv 1) rfl)
   (ag (d9 (pv 0) (pv 2) rfl)
   (ag (d9 (pv 0) (pv 3) rfl)
   (ag (d9 (pv 0) (pv 4) rfl)
   (ah (d9 (pv 0) (pe_ifExp (aw op_isN (pv 5) b8 (az _)) (bT (mk1 T) hr T.mg_Fraction ak (aa ac ae)) (pv 5)) rfl)))))))),?_⟩
 try dsimp only [aM,Cx.nox,Cx.wish]
 refine ⟨fun σ' H'=>σ'=[some (.ref p),some (.str n),some (.str s),some (.str g),some vh,some vc]∧H'=H,?_,?_⟩
 ·walk_at "rd"
  refine eQ (iX fun z=>sg (V.str.inj z)) ?_
  walk_at "rd"
  first | exact ⟨rfl,rfl⟩ | exact rfl
 rintro σ' H' ⟨rfl,rfl⟩
 refine ⟨fun σ' H''=>σ'=[some (.ref p),some (.str n),some (.str s),some (.str g),some vh,some vc]∧H''=H',?_,?_⟩
 ·rcases hh with rfl | ⟨q,x,rfl,fq,hx⟩
  ·walk_at "rd"
   first | exact ⟨rfl,rfl⟩ | exact rfl
  ·walk_at "rd"
   refine eQ (iX (sgn_nn hx)) ?_
   first | exact ⟨rfl,rfl⟩ | exact rfl
 rintro σ' H'' ⟨rfl,rfl⟩
 refine ⟨_,rfl,_,rfl,p,C,dx,[],rfl,hp,c.cl,c.n1,by decide,?_⟩
 refine ⟨_,rfl,_,rfl,p,C,dx,_,rfl,ad,c.cl,c.n2,jf (bq (iP 0)) (by decide),?_⟩
 refine ⟨_,rfl,_,rfl,p,C,dx,_,rfl,ad,c.cl,c.n3,jf (bq (bq (iP 0))) (by decide),?_⟩
 refine ⟨_,rfl,_,rfl,p,C,dx,_,rfl,ad,c.cl,c.n4,jf (bq (bq (bq (iP 0)))) (by decide),?_⟩
 simp only [upd_upd]
 walk_at "rd"
 by_cases hc:vc=.non
 ·refine gW (iW hc) ?_
  walk_at "rd"
  refine ⟨by decide,sm1,fun q H1 nq s1 f1=>?_⟩
  refine ⟨_,rfl,p,C,dx,_,rfl,s1 _ _ ad,c.cl,c.n5,jf (bq (bq (bq (bq (iP 0))))) (by decide),?_⟩
  have nqp:q≠p:=fun z=>by rw [z,ad] at nq;cases nq
  obtain ⟨dq,f1⟩:=f1
  refine k _ _ (.ref q) W5.new (bq (bq (bq (bq (bq (iP 0)))))) (.inr ⟨hc,q,rfl,nqp,dq,by rw [aj nqp];exact f1⟩) (fun b o e nb=>?_) ad
  rw [aj nb]
  refine s1 _ _ ?_
  rw [aj nb]
  exact e
 ·refine eQ (iX hc) ?_
  refine ⟨_,rfl,_,rfl,p,C,dx,_,rfl,ad,c.cl,c.n5,jf (bq (bq (bq (bq (iP 0))))) (by decide),?_⟩
  rw [upd_upd]
  refine k _ _ vc W5.new (bq (bq (bq (bq (bq (iP 0)))))) (.inl ⟨hc,rfl⟩) (fun b o e nb=>?_) ad
  rw [aj nb]
  exact e
theorem len_WayN:∀ vs H Q E,spWayN K a vs H Q E→vs.length=(["self","name","start","goal","high","cost"]:List Str).length:=fun vs H Q E h=>by
 obtain ⟨_,_,_,_,_,_,_,_,rfl,_⟩:=h
 rfl
theorem mk_WayN (T:TX K mg a):∀ dvs∈[[],[V.non,V.non]],MkB P w K mg base CX0 a.Way 4 ["self","name","start","goal","high","cost"] dvs (spWayN K a):=T.i_Way.ok sc_Way_init len_WayN (b_Way T)
theorem mk_Way (T:TX K mg a):MkB P w K mg base CX0 a.Way 4 ["self","name","start","goal","high","cost"] [] (spWayN K a):=mk_WayN T _ (by simp)
theorem cf_Way (T:TX K mg a):CfB P w K mg base CX0 a.Way "__init__" 4 ["self","name","start","goal","high","cost"] (spWayN K a):=T.c_Way.ok sc_Way_init len_WayN (b_Way T)
inductive IspPartN (K:PySem.W.Frag) (a:Ad) (f:Str) (ok:Rat→Prop) (vs:List V) (H:Hp) (Q:VK):Prop
 | mk (p C dx:Addr) (n s g:Str) (vh vc:V) (q:Addr) (x:Rat) (h1:vs=[.ref p,.str n,.str s,.str g,.ref q,vh,vc]) (h2:H p=some (.ins C dx [])) (h3:WayC K C) (h4:NoAttr K C f) (h5:s≠g) (h6:FrAt a.Fraction H q x) (h7:ok x) (h8:HiOk a.Fraction H vh) (h9:∀ H' fs vc',W5 fs n s g vh vc'→fs.lookup f=some (.ref q)→CoIs a.Fraction H' p vc vc'→(∀ b o,H b=some o→b≠p→H' b=some o)→H' p=some (.ins C dx fs)→Q .non H'):IspPartN K a f ok vs H Q
noncomputable def eU (K:PySem.W.Frag) (a:Ad) (f:Str) (ok:Rat→Prop):Sp:=fun vs H Q _=>IspPartN K a f ok vs H Q
theorem len_PartN {f:Str} {ok:Rat→Prop} {z:Str}:∀ vs H Q E,eU K a f ok vs H Q E→vs.length=(["self","name","start","goal",z,"high","cost"]:List Str).length:=fun vs H Q E h=>by
 obtain ⟨_,_,_,_,_,_,_,_,_,_,rfl,_⟩:=h
 rfl
noncomputable abbrev growOk:Rat→Prop:=fun x=>0<x.num
noncomputable abbrev leakOk:Rat→Prop:=fun x=>0≤x.num∧x<1∧SmR x
theorem b_Growing (T:TX K mg a):ie P w K mg base "Growing.__init__" bG ["self","name","start","goal","rate","high","cost"] 4 (eU K a "rate" growOk):=by
 intro f cdv A outer s₀ H vs Q E hr h
 obtain ⟨p,C,dx,n,s,g,vh,vc,q,x,rfl,hp,c,nf,sg,fq,hx,hh,k⟩:=h
 refine ⟨_,(ag (aG (aw op_le (eX T.fr (pv 4) (eZ T) hr ak) ac (az _)) (ah cm) ay)
   (ag (cE (pe_cf (cf_Way T) hr T.mg_Way ak (aa (pv 0) (aa (pv 1) (aa (pv 2) (aa (pv 3) (aa (pv 5) (aa (pv 6) ae))))))))
   (ah (d9 (pv 0) (pv 4) rfl)))),?_⟩
 try dsimp only [aM,Cx.nox,Cx.wish]
 walk_at "rd"
 refine eQ (iX (sgn_p hx)) ?_
 refine ⟨_,rfl,_,rfl,_,rfl,_,rfl,_,rfl,_,rfl,p,C,dx,n,s,g,vh,vc,rfl,hp,c,sg,hh,fun H2 fs vc' h5 hl co hs ho=>?_⟩
 refine ⟨_,rfl,_,rfl,p,C,dx,fs,rfl,ho,c.cl,nf,jf hl (by decide),?_⟩
 refine k _ _ vc' (h5.put (by simp) hl) ?_ co.upd (fun b o e ne=>?_) ad
 ·rw [dz,if_pos rfl]
 ·rw [aj ne]
  exact hs b o e ne
theorem mk_GrowingN (T:TX K mg a):∀ dvs∈[[],[V.non,V.non]],MkB P w K mg base CX0 a.Growing 5 ["self","name","start","goal","rate","high","cost"] dvs (eU K a "rate" growOk):=T.i_Growing.ok sc_Growing_init len_PartN (b_Growing T)
theorem ia (T:TX K mg a):MkB P w K mg base CX0 a.Growing 5 ["self","name","start","goal","rate","high","cost"] [] (eU K a "rate" growOk):=mk_GrowingN T _ (by simp)
theorem b_Leaking (T:TX K mg a):ie P w K mg base "Leaking.__init__" bF ["self","name","start","goal","loss","high","cost"] 4 (eU K a "loss" leakOk):=by
 intro f cdv A outer s₀ H vs Q E hr h
 obtain ⟨p,C,dx,n,s,g,vh,vc,q,x,rfl,hp,c,nf,sg,fq,⟨hx,hx1,sx⟩,hh,k⟩:=h
 refine ⟨_,(aP (aG (PW.pt (g7 (aw ft (eX T.fr (pv 4) (eZ T) hr ak) ac (az _)) (fL (eN (cU (cW T.fr (pv 4) (ok_under T) hr ak (aa (bT (mk1 T) hr T.mg_Fraction ak (aa ac ae)) ae))))))) (ah cm) ay)
   (ag (cE (pe_cf (cf_Way T) hr T.mg_Way ak (aa (pv 0) (aa (pv 1) (aa (pv 2) (aa (pv 3) (aa (pv 5) (aa (pv 6) ae))))))))
   (ah (d9 (pv 0) (pv 4) rfl)))),?_⟩
 try dsimp only [aM,Cx.nox,Cx.wish]
 refine ⟨fun σ' H'=>σ'=[some (.ref p),some (.str n),some (.str s),some (.str g),some (.ref q),some vh,some vc]∧Same H H',?_,?_⟩
 ·walk_at "rd"
  refine eQ (iX (sgn_nn hx)) ?_
  walk_at "rd"
  refine ⟨by decide,sm1,fun r H1 nr s1 f1=>?_⟩
  have e1:Rat.divInt 1 1=1:=rfl
  rw [e1] at f1
  have s2:SmR (1:Rat):=⟨sm1,sm1⟩
  walk_at "rd"
  refine eQ (by dsimp only;rw [iW hx1];rfl) ?_
  exact ⟨rfl,s1⟩
 rintro σ' H' ⟨rfl,ss⟩
 refine ⟨_,rfl,_,rfl,_,rfl,_,rfl,_,rfl,_,rfl,p,C,dx,n,s,g,vh,vc,rfl,ss _ _ hp,c,sg,hh.mono ss,fun H2 fs vc' h5 hl co hs ho=>?_⟩
 refine ⟨_,rfl,_,rfl,p,C,dx,fs,rfl,ho,c.cl,nf,jf hl (by decide),?_⟩
 refine k _ _ vc' (h5.put (by simp) hl) ?_ co.upd (fun b o e ne=>?_) ad
 ·rw [dz,if_pos rfl]
 ·rw [aj ne]
  exact hs b o (ss _ _ e) ne
theorem mk_LeakingN (T:TX K mg a):∀ dvs∈[[],[V.non,V.non]],MkB P w K mg base CX0 a.Leaking 5 ["self","name","start","goal","loss","high","cost"] dvs (eU K a "loss" leakOk):=T.i_Leaking.ok sc_Leaking_init len_PartN (b_Leaking T)
theorem hZ (T:TX K mg a):MkB P w K mg base CX0 a.Leaking 5 ["self","name","start","goal","loss","high","cost"] [] (eU K a "loss" leakOk):=mk_LeakingN T _ (by simp)
inductive Kd where
 | way
 | gro
 | lea
 | sto
noncomputable def Kd.n:Kd→Int
 | .way=>0
 | .gro=>1
 | .lea=>2
 | .sto=>3
noncomputable def Kd.C (a:Ad):Kd→Addr
 | .way=>a.Way
 | .gro=>a.Growing
 | .lea=>a.Leaking
 | .sto=>a.Store
noncomputable def Kd.f:Kd→Str
 | .gro=>"rate"
 | _=>"loss"
noncomputable def Kd.ok:Kd→Rat→Prop
 | .way=>fun _=>True
 | .gro=>growOk
 | _=>leakOk
noncomputable def dH:Kd→Rat→Rat
 | .way=>fun _=>1
 | .gro=>fun x=>x
 | _=>fun x=>1-x
structure WayAt (a:Ad) (H:Hp) (p:Addr) (kd:Kd) (n s g:Str) (vh vc:V) (q:Addr) (x:Rat):Prop where
 ob:∃ dx fs,H p=some (.ins (kd.C a) dx fs)∧W5 fs n s g vh vc∧(kd≠.way→fs.lookup kd.f=some (.ref q))
 fq:kd≠.way→FrAt a.Fraction H q x
noncomputable def Stays (a:Ad) (H H':Hp):Prop:=∀ b C dx fs,(C=a.Fraction∨∃ kd:Kd,C=kd.C a)→H b=some (.ins C dx fs)→H' b=some (.ins C dx fs)
theorem Stays.of {a:Ad} {H H':Hp} (s:Same H H'):Stays a H H':=fun b C dx fs _ e=>s _ _ e
theorem Stays.fr {a:Ad} {H H':Hp} {q:Addr} {x:Rat} (k:Stays a H H') (h:FrAt a.Fraction H q x):FrAt a.Fraction H' q x:=by
 obtain ⟨dq,f⟩:=h
 exact ⟨dq,k _ _ _ _ (.inl rfl) f⟩
theorem WayAt.keep {a:Ad} {H H':Hp} {p:Addr} {kd:Kd} {n s g:Str} {vh vc:V} {q:Addr} {x:Rat} (h:WayAt a H p kd n s g vh vc q x) (k:Stays a H H'):WayAt a H' p kd n s g vh vc q x:=
 ⟨let ⟨dx,fs,e,r⟩:=h.ob;⟨dx,fs,k _ _ _ _ (.inr ⟨kd,rfl⟩) e,r⟩,fun z=>k.fr (h.fq z)⟩
theorem WayAt.mono {a:Ad} {H H':Hp} {p:Addr} {kd:Kd} {n s g:Str} {vh vc:V} {q:Addr} {x:Rat} (h:WayAt a H p kd n s g vh vc q x) (ss:Same H H'):WayAt a H' p kd n s g vh vc q x:=h.keep (.of ss)
theorem Stays.put {a:Ad} {H:Hp} {d:Addr} {o o':HO} (hd:H d=some o) (ho:∀ C dx fs,o≠.ins C dx fs):Stays a H (upd H d o'):=fun b C dx fs _ e=>by rw [aj (bh e hd (ho C dx fs).symm)];exact e
theorem dL (T:TX K mg a) (kd:Kd):WayC K (kd.C a):=by
 cases kd
 ·exact T.wW
 ·exact T.wG
 ·exact T.wL
 ·exact T.wS
noncomputable def NewWay (a:Ad) (H:Hp) (Q:VK) (kd:Kd) (n s g:Str) (vh vc:V) (x:Rat):Prop:=∀ p H' vc' q,H p=none→Same H H'→WayAt a H' p kd n s g vh vc' q x→CoIs a.Fraction H' p vc vc'→Q (.ref p) H'
theorem iu {H H':Hp} {x dx C:Addr} (h1:H x=none) (h2:H dx=none) (h:∀ b o,(upd (upd H dx (.own x)) x (.ins C dx [])) b=some o→b≠x→H' b=some o):Same H H':=by
 intro b o e
 have n1:=aB e h1
 refine h b o ?_ n1
 rw [aj n1,aj (aB e h2)]
 exact e
theorem ir {H:Hp} {x dx C:Addr} (h1:H x=none) (h2:H dx=none):Same H (upd (upd H dx (.own x)) x (.ins C dx [])):=by
 intro b o e
 rw [aj (aB e h1),aj (aB e h2)]
 exact e
theorem mkW {H:Hp} {Q:VK} {n s g:Str} {vh vc:V} {x:Rat} (T:TX K mg a) (sg:s≠g) (hh:HiOk a.Fraction H vh) (k:NewWay a H Q .way n s g vh vc x) (p dx:Addr) (h1:H p=none) (h2:H dx=none) (_:dx≠p) :
  spWayN K a [.ref p,.str n,.str s,.str g,vh,vc] (upd (upd H dx (.own p)) p (.ins a.Way dx [])) (fun v H2=>v=.non∧Q (.ref p) H2) E0:=by
 have ss:=ir (C:=a.Way) h1 h2
 refine ⟨p,_,dx,n,s,g,vh,vc,rfl,ad,T.wW,sg,hh.mono ss,fun H' fs vc' h5 hl co hs ho=>⟨rfl,?_⟩⟩
 have s2:=iu h1 h2 hs
 exact k p _ vc' p h1 s2 ⟨⟨dx,fs,ho,h5,fun z=>absurd rfl z⟩,fun z=>absurd rfl z⟩ co
theorem mkG {H:Hp} {Q:VK} {n s g:Str} {vh vc:V} {q:Addr} {x:Rat} (T:TX K mg a) (sg:s≠g) (fq:FrAt a.Fraction H q x) (hx:growOk x) (hh:HiOk a.Fraction H vh) (k:NewWay a H Q .gro n s g vh vc x) (p dx:Addr) (h1:H p=none) (h2:H dx=none) (_:dx≠p) :
  eU K a "rate" growOk [.ref p,.str n,.str s,.str g,.ref q,vh,vc] (upd (upd H dx (.own p)) p (.ins a.Growing dx [])) (fun v H2=>v=.non∧Q (.ref p) H2) E0:=by
 have ss:=ir (C:=a.Growing) h1 h2
 refine ⟨p,_,dx,n,s,g,vh,vc,q,x,rfl,ad,T.wG,T.na_Growing_rate,sg,fq.mono ss,hx,hh.mono ss,fun H' fs vc' h5 hl co hs ho=>⟨rfl,?_⟩⟩
 have s2:=iu h1 h2 hs
 exact k p _ vc' q h1 s2 ⟨⟨dx,fs,ho,h5,fun _=>hl⟩,fun _=>fq.mono s2⟩ co
theorem mkL {H:Hp} {Q:VK} {n s g:Str} {vh vc:V} {q:Addr} {x:Rat} (T:TX K mg a) (sg:s≠g) (fq:FrAt a.Fraction H q x) (hx:leakOk x) (hh:HiOk a.Fraction H vh) (k:NewWay a H Q .lea n s g vh vc x) (p dx:Addr) (h1:H p=none) (h2:H dx=none) (_:dx≠p) :
  eU K a "loss" leakOk [.ref p,.str n,.str s,.str g,.ref q,vh,vc] (upd (upd H dx (.own p)) p (.ins a.Leaking dx [])) (fun v H2=>v=.non∧Q (.ref p) H2) E0:=by
 have ss:=ir (C:=a.Leaking) h1 h2
 refine ⟨p,_,dx,n,s,g,vh,vc,q,x,rfl,ad,T.wL,T.na_Leaking_loss,sg,fq.mono ss,hx,hh.mono ss,fun H' fs vc' h5 hl co hs ho=>⟨rfl,?_⟩⟩
 have s2:=iu h1 h2 hs
 exact k p _ vc' q h1 s2 ⟨⟨dx,fs,ho,h5,fun _=>hl⟩,fun _=>fq.mono s2⟩ co
inductive IspGain (a:Ad) (kd:Kd) (vs:List V) (H:Hp) (Q:VK):Prop
 | mk (p:Addr) (n s g:Str) (vh vc:V) (q:Addr) (x:Rat) (h1:vs=[.ref p]) (h2:WayAt a H p kd n s g vh vc q x) (h3:SmR x) (h4:∀ r H',Same H H'→FrAt a.Fraction H' r (dH kd x)→Q (.ref r) H'):IspGain a kd vs H Q
noncomputable def gC (a:Ad) (kd:Kd):Sp:=fun vs H Q _=>IspGain a kd vs H Q
theorem iG {kd:Kd}:∀ vs H Q E,gC a kd vs H Q E→vs.length=(["self"]:List Str).length:=fun vs H Q E h=>by
 obtain ⟨_,_,_,_,_,_,_,_,rfl,_⟩:=h
 rfl
theorem gain_Way (T:TX K mg a):MtB P w K mg base CX0 a.Way "gain" 7 ["self"] (gC a .way):=by
 refine T.m_Way_gain.ok sc_Way_gain iG (fun f cdv A outer s₀ H vs Q E hr h=>?_)
 obtain ⟨p,n,s,g,vh,vc,q,x,rfl,W,sx,k⟩:=h
 refine ⟨_,(ah (aq (bT (mk1 T) hr T.mg_Fraction ak (aa ac ae)))),?_⟩
 try dsimp only [aM,Cx.nox,Cx.wish]
 walk_at "rd"
 exact ⟨by decide,sm1,fun r H1 _ s1 f1=>k r H1 s1 f1⟩
theorem gain_Growing (T:TX K mg a):MtB P w K mg base CX0 a.Growing "gain" 7 ["self"] (gC a .gro):=by
 refine T.m_Growing_gain.ok sc_Growing_gain iG (fun f cdv A outer s₀ H vs Q E hr h=>?_)
 obtain ⟨p,n,s,g,vh,vc,q,x,rfl,W,sx,k⟩:=h
 refine ⟨_,(ah (aq (a8 (pv 0) rfl))),?_⟩
 try dsimp only [aM,Cx.nox,Cx.wish]
 obtain ⟨dx,fs,ho,h5,hl⟩:=W.ob
 exact ⟨_,rfl,p,_,dx,fs,_,rfl,ho,T.wG.cl,T.na_Growing_rate,hl (by nofun),k q H (Same.refl _) (W.fq (by nofun))⟩
theorem b_gainL (T:TX K mg a) (kd:Kd) (C:Addr) (hC:kd.C a=C) (hk:kd≠.way) (hf:kd.f = "loss") (hg:∀ x,dH kd x=1-x) (cl:Cls K C) (nl:NoAttr K C "loss"):ie P w K mg base "Leaking.gain" bj ["self"] 6 (gC a kd):=by
 intro f cdv A outer s₀ H vs Q E hr h
 obtain ⟨p,n,s,g,vh,vc,q,x,rfl,W,sx,k⟩:=h
 refine ⟨_,(ah (aq (cW T.fr (bT (mk1 T) hr T.mg_Fraction ak (aa ac ae)) (iD T) hr ak (aa (a8 (pv 0) rfl) ae)))),?_⟩
 try dsimp only [aM,Cx.nox,Cx.wish]
 obtain ⟨dx,fs,ho,h5,hl⟩:=W.ob
 have hl:=hl hk
 rw [hf] at hl
 rw [hC] at ho
 walk_at "rd"
 refine ⟨by decide,sm1,fun r H1 nr s1 f1=>?_⟩
 have e1:Rat.divInt 1 1=1:=rfl
 rw [e1] at f1
 have s2:SmR (1:Rat):=⟨sm1,sm1⟩
 have ho1:=s1 _ _ ho
 have fq1:=(W.fq hk).mono s1
 walk_at "rd"
 intro r2 H2 nr2 s22 f2
 refine k r2 H2 (s1.trans s22) ?_
 rw [hg]
 exact f2
theorem gain_Leaking (T:TX K mg a):MtB P w K mg base CX0 a.Leaking "gain" 7 ["self"] (gC a .lea):=T.m_Leaking_gain.ok gv iG (b_gainL T .lea _ rfl (by nofun) rfl (fun _=>rfl) T.wL.cl T.na_Leaking_loss)
theorem gain_Store (T:TX K mg a):MtB P w K mg base CX0 a.Store "gain" 7 ["self"] (gC a .sto):=T.m_Store_gain.ok gv iG (b_gainL T .sto _ rfl (by nofun) rfl (fun _=>rfl) T.wS.cl T.na_Store_loss)
theorem gain_any (T:TX K mg a) (kd:Kd):MtB P w K mg base CX0 (kd.C a) "gain" 7 ["self"] (gC a kd):=by
 cases kd
 ·exact gain_Way T
 ·exact gain_Growing T
 ·exact gain_Leaking T
 ·exact gain_Store T
inductive IspOut (a:Ad) (kd:Kd) (vs:List V) (H:Hp) (Q:VK):Prop
 | mk (p r:Addr) (n s g:Str) (vh vc:V) (q:Addr) (x y:Rat) (h1:vs=[.ref p,.ref r]) (h2:WayAt a H p kd n s g vh vc q x) (h3:FrAt a.Fraction H r y) (h4:SmR x) (h5:SmR y) (h6:SmR (dH kd x)) (h7:∀ r' H',Same H H'→FrAt a.Fraction H' r' (y*dH kd x)→Q (.ref r') H'):IspOut a kd vs H Q
noncomputable def spOut (a:Ad) (kd:Kd):Sp:=fun vs H Q _=>IspOut a kd vs H Q
theorem len_Out {kd:Kd}:∀ vs H Q E,spOut a kd vs H Q E→vs.length=(["self","amount"]:List Str).length:=fun vs H Q E h=>by
 obtain ⟨_,_,_,_,_,_,_,_,_,_,rfl,_⟩:=h
 rfl
theorem b_out (T:TX K mg a) (kd:Kd):ie P w K mg base "Way.out" cA ["self","amount"] 7 (spOut a kd):=by
 intro f cdv A outer s₀ H vs Q E hr h
 obtain ⟨p,r,n,s,g,vh,vc,q,x,y,rfl,W,fr,sx,sy,sg,k⟩:=h
 refine ⟨_,(ah (aq (cW T.fr (pv 1) (ok_times T) hr ak (aa (eD (CX:=CX0) (pv 0) hr ak) ae)))),?_⟩
 try dsimp only [aM,Cx.nox,Cx.wish]
 obtain ⟨dx,fs,ho,h5,hl⟩:=W.ob
 refine ⟨_,rfl,r,y,rfl,fr,_,rfl,p,kd.C a,dx,fs,7,["self"],gC a kd,rfl,ho,h5.ga,(dL T kd).cl,by decide,gain_any T kd,p,n,s,g,vh,vc,q,x,rfl,W,sx,fun r1 H1 s1 f1=>?_⟩
 exact ⟨r,r1,y,_,rfl,fr.mono s1,f1,sy,sg,trivial,fun r2 H2 _ s2 f2=>k r2 H2 (s1.trans s2) f2⟩
theorem out_any (T:TX K mg a) (kd:Kd):MtB P w K mg base CX0 (kd.C a) "out" 8 ["self","amount"] (spOut a kd):=by
 cases kd
 ·exact T.m_Way_out.ok gd len_Out (b_out T _)
 ·exact T.m_Growing_out.ok gd len_Out (b_out T _)
 ·exact T.m_Leaking_out.ok gd len_Out (b_out T _)
 ·exact T.m_Store_out.ok gd len_Out (b_out T _)
structure WD where
 nm:Str
 st:Str
 go:Str
 kd:Kd
 x:Rat
 hi:Option Rat
 co:Rat
noncomputable def HiT (a:Ad) (H:Hp) (v:V):Option Rat→Prop
 | none=>v=.non
 | some x=>∃ q,v=.ref q∧FrAt a.Fraction H q x
theorem HiT.mono {H H':Hp} {v:V} {o:Option Rat} (h:HiT a H v o) (s:Same H H'):HiT a H' v o:=by
 cases o with
 | none=>exact h
 | some x=>exact let ⟨q,e,f⟩:=h;⟨q,e,f.mono s⟩
theorem HiT.keep {H H':Hp} {v:V} {o:Option Rat} (h:HiT a H v o) (s:Stays a H H'):HiT a H' v o:=by
 cases o with
 | none=>exact h
 | some x=>exact let ⟨q,e,f⟩:=h;⟨q,e,s.fr f⟩
noncomputable def WayIs (a:Ad) (H:Hp) (v:V) (d:WD):Prop:=∃ p vh vc q,v=.ref p∧WayAt a H p d.kd d.nm d.st d.go vh vc q d.x∧d.kd≠.sto∧(∃ qc,vc=.ref qc∧FrAt a.Fraction H qc d.co)∧HiT a H vh d.hi
theorem WayIs.mono {H H':Hp} {v:V} {d:WD} (h:WayIs a H v d) (s:Same H H'):WayIs a H' v d:=by
 obtain ⟨p,vh,vc,q,e,W,k,⟨qc,ec,fc⟩,hh⟩:=h
 exact ⟨p,vh,vc,q,e,W.mono s,k,⟨qc,ec,fc.mono s⟩,hh.mono s⟩
noncomputable def RowAt {α:Type} (R:Hp→V→α→Prop) (H:Hp) (ts:List V) (xs:List α):Prop:=ts.length=xs.length∧∀ (i:Nat) (t:V) (x:α),ts[i]?=some t→xs[i]?=some x→R H t x
theorem RowAt.mono {α:Type} {R:Hp→V→α→Prop} {H H':Hp} {ts:List V} {xs:List α} (hR:∀ v x,R H v x→R H' v x) (h:RowAt R H ts xs):RowAt R H' ts xs:=⟨h.1,fun i t x h1 h2=>hR t x (h.2 i t x h1 h2)⟩
theorem RowAt.nil {α:Type} {R:Hp→V→α→Prop} {H:Hp}:RowAt R H [] []:=⟨rfl,fun i t x h=>by simp at h⟩
theorem RowAt.snoc {α:Type} {R:Hp→V→α→Prop} {H:Hp} {ts:List V} {xs:List α} {t:V} {x:α} (d:RowAt R H ts xs) (hf:R H t x):RowAt R H (ts++[t]) (xs++[x]):=by
 refine ⟨by rw [jd,jd,d.1];rfl,fun i u z h1 h2=>?_⟩
 by_cases hi:i<ts.length
 ·rw [List.getElem?_append_left hi] at h1
  rw [List.getElem?_append_left (by rw [← d.1];exact hi)] at h2
  exact d.2 i u z h1 h2
 ·rw [jQ (by omega)] at h1
  rw [jQ (by rw [← d.1];omega),← d.1] at h2
  have hz:i-ts.length=0:=by
   have:=(iL.mp h1).1
   simp at this
   omega
  rw [hz] at h1 h2
  simp at h1 h2
  subst h1 h2
  exact hf
theorem RowAt.get {α:Type} {R:Hp→V→α→Prop} {H:Hp} {ts:List V} {xs:List α} {i:Nat} {t:V} (d:RowAt R H ts xs) (h:ts[i]?=some t):∃ x,xs[i]?=some x∧R H t x:=by
 have hi:i<xs.length:=by rw [← d.1];exact (iL.mp h).1
 exact ⟨xs[i],iO hi,d.2 i t _ h (iO hi)⟩
theorem RowAt.get' {α:Type} {R:Hp→V→α→Prop} {H:Hp} {ts:List V} {xs:List α} {i:Nat} {x:α} (d:RowAt R H ts xs) (h:xs[i]?=some x):∃ t,ts[i]?=some t∧R H t x:=by
 have hi:i<ts.length:=by rw [d.1];exact (iL.mp h).1
 exact ⟨ts[i],iO hi,d.2 i _ x (iO hi) h⟩
noncomputable def PlIs (a:Ad) (H:Hp) (v:V) (p:Str × Rat):Prop:=∃ t q,v=.ref t∧H t=some (.tup [.str p.1,.ref q])∧FrAt a.Fraction H q p.2
theorem PlIs.mono {H H':Hp} {v:V} {p:Str × Rat} (h:PlIs a H v p) (s:Same H H'):PlIs a H' v p:=by
 obtain ⟨t,q,e,h1,h2⟩:=h
 exact ⟨t,q,e,s _ _ h1,h2.mono s⟩
theorem ai {H:Hp} {d:Addr} {o:HO} (h:H d=none):Same H (upd H d o):=fun b u e=>by rw [aj (aB e h)];exact e
theorem aH {H H':Hp} {d:Addr} {o:HO} (h:H d=none) (s:Same H H'):Same H (upd H' d o):=fun b u e=>by rw [aj (aB e h)];exact s _ _ e
theorem gB {κ:Type} [DecidableEq κ] {kvs:List (κ × V)} {k:κ} (h:¬ k∈kvs.map (·.1)):bc kvs k=none:=by
 cases e:bc kvs k with
 | none=>rfl
 | some v=>exact absurd (valV_in e) h
theorem val_some {κ:Type} [DecidableEq κ] {kvs:List (κ × V)} {k:κ} (h:k∈kvs.map (·.1)):∃ v,bc kvs k=some v:=by
 cases e:bc kvs k with
 | none=>exact absurd h (valV_not e)
 | some v=>exact ⟨v,rfl⟩
noncomputable def WantsAt (a:Ad) (H:Hp) (d:Addr) (ps:List (Str × Rat)):Prop:=∃ kvs,H d=some (.dK kvs)∧kvs.map (·.1)=ps.map (fun p=>Sum.inr p.1)∧RowAt (fun H v x=>∃ q,v=.ref q∧FrAt a.Fraction H q x) H (kvs.map (·.2)) (ps.map (·.2))
theorem WantsAt.mono {H H':Hp} {d:Addr} {ps:List (Str × Rat)} (h:WantsAt a H d ps) (s:Same H H'):WantsAt a H' d ps:=
 let ⟨kvs,h1,h2,h3⟩:=h;⟨kvs,s _ _ h1,h2,h3.mono fun v x ⟨q,e,f⟩=>⟨q,e,f.mono s⟩⟩
inductive IspWants (K:PySem.W.Frag) (a:Ad) (vs:List V) (H:Hp) (Q:VK):Prop
 | mk (l:Addr) (ts:List V) (ps:List (Str × Rat)) (h1:vs=[.ref l]) (h2:SqL K H l ts) (h3:RowAt (PlIs a) H ts ps) (h4:(ps.map (·.1)).Nodup) (h5:ps.length≤1000) (h6:∀ d H',H d=none→Same H H'→WantsAt a H' d ps→Q (.ref d) H'):IspWants K a vs H Q
noncomputable def spWants (K:PySem.W.Frag) (a:Ad):Sp:=fun vs H Q _=>IspWants K a vs H Q
theorem ok_wants_by_name (T:TX K mg a):FnB P w K mg base CX0 "wants_by_name" 1 ["places"] (spWants K a):=by
 refine T.d_wants_by_name.ok sc_wants_by_name (fun vs H Q E h=>?_) (fun f cdv A outer s H vs Q E hr h=>?_)
 ·obtain ⟨_,_,_,rfl,_⟩:=h
  rfl
 ·obtain ⟨l,ts,ps,rfl,hS,hp,nd,hlen,k⟩:=h
  refine ⟨_,(ag (ar (i:=1) sc_wants_by_name.nd rfl (Or.inl rfl) dE)
   (ag (a9 i7 rfl (aX (pv 0)) (eO rfl (aD (ax (i:=2) sc_wants_by_name.nd rfl (Or.inl rfl)) (aD (ax (i:=3) sc_wants_by_name.nd rfl (Or.inl rfl)) bZ))) (ag (aG (gE (pc_din (aJ hr) (pv 2) (pv 1))) (ah cm) ay)
   (ah (bv (aJ hr) (pv 1) (pv 2) (pv 3) rfl))))
   (ah (aq (pv 1))))),?_⟩
  try dsimp only [aM,Cx.nox,Cx.wish]
  intro d nd0
  have s0:Same H (upd H d (.dK [])):=ai nd0
  refine ⟨_,rfl,l,rfl,⟨_,s0.seq hS⟩,bn (K:=K) (a:=l) (xs:=ts) (fun i σ H2=>i≤ps.length∧∃ z2 z3,σ=[some (.ref l),some (.ref d),z2,z3]∧Same H H2∧WantsAt a H2 d (ps.take i)) ⟨iY _,_,_,rfl,s0,[],ad,rfl,RowAt.nil⟩ (fun i σ H2 _ ⟨_,_,_,_,s2,_⟩=>s2.seq hS) ?_ ?_⟩
  ·rintro i t σ H2 ht ⟨hi,z2,z3,rfl,s2,kvs,hd,hk,hv⟩
   obtain ⟨p,ep,t',q,rfl,h1,h2⟩:=hp.get ht
   have hi':i<ps.length:=(iL.mp ep).1
   have nk:¬ (Sum.inr p.1:Key)∈kvs.map (·.1):=by
    rw [hk]
    intro m
    obtain ⟨p',hp',e⟩:=iZ.mp m
    have e:p'.1=p.1:=Sum.inr.inj e
    obtain ⟨j,hj⟩:=jN.mp hp'
    have hj2:j<i:=by
     have:=(iL.mp hj).1
     rw [i6] at this
     omega
    rw [List.getElem?_take,if_pos hj2] at hj
    have g1:(ps.map (·.1))[j]?=some p.1:=by rw [i4,hj,jT,e]
    have g2:(ps.map (·.1))[i]?=some p.1:=by rw [i4,ep,jT]
    have:=(List.getElem?_inj (by rw [iM];omega) nd).mp (g1.trans g2.symm)
    omega
   refine ⟨t',[.str p.1,.ref q],rfl,SqT.of (s2 _ _ h1),rfl,.str p.1,[.ref q],rfl,⟨.ref q,[],rfl,⟨rfl,?_⟩⟩⟩
   refine ⟨_,rfl,_,rfl,d,_,rfl,DGet.k (k:=Sum.inr p.1) hd,_,rfl,?_⟩
   rw [gB nk]
   refine iteF ?_
   have hl:kvs.length=i:=by
    have:=jy List.length hk
    rw [iM,iM,i6] at this
    omega
   refine ⟨_,rfl,_,rfl,_,rfl,d,_,rfl,DPut.k (k:=Sum.inr p.1) hd (aE (by omega)),?_⟩
   rw [putK_new _ (gB nk)]
   have s3:=aH (o:=.dK (kvs++[(Sum.inr p.1,.ref q)])) nd0 s2
   refine ⟨hi',_,_,rfl,s3,kvs++[(Sum.inr p.1,.ref q)],ad,?_,?_⟩
   ·rw [i5,hk,iU,ep,iV,i5]
    rfl
   ·rw [i5,iU,ep,iV,i5]
    refine RowAt.snoc (hv.mono fun v x ⟨q',e,dq,f⟩=>⟨q',e,dq,?_⟩) ⟨q,rfl,h2.mono s3⟩
    rw [aj (bh f hd (by intro z;cases z))]
    exact f
  ·rintro σ H2 ⟨_,z2,z3,rfl,s2,hw⟩
   rw [hp.1,iS] at hw
   exact ⟨_,rfl,k d H2 nd0 s2 hw⟩
inductive IspCheck (a:Ad) (vs:List V) (H:Hp) (Q:VK):Prop
 | mk (v:V) (d:WD) (da dw:Addr) (ka kw:List (Key × V)) (h1:vs=[v,.ref da,.ref dw]) (h2:WayIs a H v d) (h3:H da=some (.dK ka)) (h4:H dw=some (.dK kw)) (h5:¬ (Sum.inr d.nm:Key)∈ka.map (·.1)) (h6:(Sum.inr d.st:Key)∈kw.map (·.1)) (h7:(Sum.inr d.go:Key)∈kw.map (·.1)) (h8:∀ H',Same H H'→Q .non H'):IspCheck a vs H Q
noncomputable def spCheck (a:Ad):Sp:=fun vs H Q _=>IspCheck a vs H Q
theorem noStore (T:TX K mg a) {kd:Kd} (h:kd≠.sto):PySem.W.kitOne K (.ref (kd.C a)) (.ref a.Store)=some false:=by
 cases kd
 ·exact T.k_Way_Store
 ·exact T.k_Growing_Store
 ·exact T.k_Leaking_Store
 ·exact absurd rfl h
theorem tyWay (T:TX K mg a) {H:Hp} {p dx:Addr} {fs:List (Str × V)} {kd:Kd} (h:H p=some (.ins (kd.C a) dx fs)):TyOf K H (.ref p) (.ref (kd.C a)):=by
 have c:=(dL T kd).cl
 cases kd
 ·exact TyOf.ins h c T.c1_Way T.c2 T.c3 T.c4_Way
 ·exact TyOf.ins h c T.c1_Growing T.c2 T.c3 T.c4_Growing
 ·exact TyOf.ins h c T.c1_Leaking T.c2 T.c3 T.c4_Leaking
 ·exact TyOf.ins h c T.c1_Store T.c2 T.c3 T.c4_Store
theorem ok_check_way (T:TX K mg a):FnB P w K mg base CX0 "check_way" 1 ["way","ahead","wants"] (spCheck a):=by
 refine T.d_check_way.ok sc_check_way (fun vs H Q E h=>?_) (fun f cdv A outer s H vs Q E hr h=>?_)
 ·obtain ⟨_,_,_,_,_,_,rfl,_⟩:=h
  rfl
 ·obtain ⟨v,d,da,dw,ka,kw,rfl,⟨p,vh,vc,q,rfl,W,hk⟩,ha,hw,n1,n2,n3,k⟩:=h
  refine ⟨_,(ag (aG (cU (aU (gL (c:=.ref a.Store)) (by rfl) T.z_isinstance jw (aa (pv 0) (aa (iz (v:=.ref a.Store) (by rfl) T.mg_Store rfl) ae)))) (ah cm) ay)
   (ag (aG (gE (pc_din (aJ hr) (a8 (pv 0) rfl) (pv 1))) (ah cm) ay)
   (ah (a9 i7 rfl (pi_tup (aF (aa (a8 (pv 0) rfl) (aa (a8 (pv 0) rfl) ae)))) (ax (i:=3) sc_check_way.nd rfl (Or.inl rfl)) (ah (aG (gE (fT (aJ hr) (pv 3) (pv 2))) (ah cm) ay)))))),?_⟩
  try dsimp only [aM,Cx.nox,Cx.wish]
  obtain ⟨dx,fs,ho,h5,_⟩:=W.ob
  have c:=dL T d.kd
  refine ⟨_,rfl,_,_,_,_,rfl,(fun u h=>h),tyWay T ho,noStore T hk.1,_,rfl,iteF ?_⟩
  refine ⟨_,rfl,p,_,dx,fs,_,rfl,ho,c.cl,c.n1,h5.nm,_,rfl,da,_,rfl,DGet.k (k:=Sum.inr d.nm) ha,_,rfl,?_⟩
  rw [gB n1]
  refine iteF ?_
  refine ⟨_,rfl,p,_,dx,fs,_,rfl,ho,c.cl,c.n2,h5.st,_,rfl,p,_,dx,fs,_,rfl,ho,c.cl,c.n3,h5.go,by show 2≤sizeLine;decide,fun t nt=>?_⟩
  have s1:=ai (o:=.tup [.str d.st,.str d.go]) nt
  refine ⟨t,rfl,⟨_,SqT.of ad⟩,for_tup (K:=K) (a:=t) (xs:=[.str d.st,.str d.go]) (fun i σ H2=>∃ z,σ=[some (.ref p),some (.ref da),some (.ref dw),z]∧H2=upd H t (.tup [.str d.st,.str d.go])) ⟨_,rfl,rfl⟩ (fun i σ H2 _ ⟨_,_,e⟩=>by rw [e];exact SqT.of ad) ?_ ?_⟩
  ·rintro i x σ H2 hx ⟨z,rfl,rfl⟩
   have hx:∃ y,x=.str y∧(Sum.inr y:Key)∈kw.map (·.1):=by
    match i,hx with
    | 0,hx=>exact ⟨d.st,(jh hx).symm,n2⟩
    | 1,hx=>exact ⟨d.go,(jh hx).symm,n3⟩
    | i+2,hx=>simp at hx
   obtain ⟨y,rfl,hy⟩:=hx
   obtain ⟨u,hu⟩:=val_some hy
   refine ⟨_,rfl,_,rfl,dw,_,rfl,DGet.k (k:=Sum.inr y) (s1 _ _ hw),_,rfl,?_⟩
   rw [hu]
   exact iteF ⟨_,rfl,rfl⟩
  ·rintro σ H2 ⟨z,rfl,rfl⟩
   exact k _ s1
noncomputable def WaysAt (a:Ad) (H:Hp) (d:Addr) (ds:List WD):Prop:=∃ kvs,H d=some (.dK kvs)∧kvs.map (·.1)=ds.map (fun x=>Sum.inr x.nm)∧RowAt (WayIs a) H (kvs.map (·.2)) ds
theorem WaysAt.mono {H H':Hp} {d:Addr} {ds:List WD} (h:WaysAt a H d ds) (s:Same H H'):WaysAt a H' d ds:=
 let ⟨kvs,h1,h2,h3⟩:=h;⟨kvs,s _ _ h1,h2,h3.mono fun v x z=>z.mono s⟩
inductive IspWaysBy (K:PySem.W.Frag) (a:Ad) (vs:List V) (H:Hp) (Q:VK):Prop
 | mk (l dw:Addr) (ts:List V) (ds:List WD) (ps:List (Str × Rat)) (h1:vs=[.ref l,.ref dw]) (h2:SqL K H l ts) (h3:RowAt (WayIs a) H ts ds) (h4:WantsAt a H dw ps) (h5:(ds.map (·.nm)).Nodup) (h6:ds.length≤1000) (h7:(∀ d∈ds,d.st∈ps.map (·.1)∧d.go∈ps.map (·.1))) (h8:∀ d H',H d=none→Same H H'→WaysAt a H' d ds→Q (.ref d) H'):IspWaysBy K a vs H Q
noncomputable def spWaysBy (K:PySem.W.Frag) (a:Ad):Sp:=fun vs H Q _=>IspWaysBy K a vs H Q
theorem WayIs.keep {H H':Hp} {v:V} {x:WD} (h:WayIs a H v x) (k:Stays a H H'):WayIs a H' v x:=by
 obtain ⟨p,vh,vc,q,e,W,hk,⟨qc,ec,fc⟩,hh⟩:=h
 exact ⟨p,vh,vc,q,e,W.keep k,hk,⟨qc,ec,k.fr fc⟩,hh.keep k⟩
theorem WayIs.put {H:Hp} {v:V} {x:WD} {d:Addr} {kvs:List (Key × V)} {o:HO} (h:WayIs a H v x) (hd:H d=some (.dK kvs)):WayIs a (upd H d o) v x:=h.keep (.put hd (by intro _ _ _ z;cases z))
theorem nodup_take {α β:Type} {xs:List α} {f:α→β} {i:Nat} {x:α} (nd:(xs.map f).Nodup) (e:xs[i]?=some x):¬ f x∈(xs.take i).map f:=by
 intro m
 obtain ⟨y,hy,ef⟩:=iZ.mp m
 obtain ⟨j,hj⟩:=jN.mp hy
 have hi:=(iL.mp e).1
 have hj2:j<i:=by
  have:=(iL.mp hj).1
  rw [i6] at this
  omega
 rw [List.getElem?_take,if_pos hj2] at hj
 have g1:(xs.map f)[j]?=some (f x):=by rw [i4,hj,jT,ef]
 have g2:(xs.map f)[i]?=some (f x):=by rw [i4,e,jT]
 have:=(List.getElem?_inj (by rw [iM];omega) nd).mp (g1.trans g2.symm)
 omega
theorem inr_mem {n:Str} {ns:List Str}:(Sum.inr n:Key)∈ns.map (fun x=>(Sum.inr x:Key))↔n∈ns:=by
 constructor
 ·intro h
  obtain ⟨y,hy,e⟩:=iZ.mp h
  rw [← Sum.inr.inj e]
  exact hy
 ·exact fun h=>iZ.mpr ⟨n,h,rfl⟩
theorem ok_ways_by_name (T:TX K mg a):FnB P w K mg base CX0 "ways_by_name" 2 ["ways","wants"] (spWaysBy K a):=by
 refine T.d_ways_by_name.ok sc_ways_by_name (fun vs H Q E h=>?_) (fun f cdv A outer s H vs Q E hr h=>?_)
 ·obtain ⟨_,_,_,_,_,rfl,_⟩:=h
  rfl
 ·obtain ⟨l,dw,ts,ds,ps,rfl,hS,hp,hw,nd,hlen,hin,k⟩:=h
  refine ⟨_,(ag (ar (i:=2) sc_ways_by_name.nd rfl (Or.inl rfl) dE)
   (ag (a9 i7 rfl (aX (pv 0)) (ax (i:=3) sc_ways_by_name.nd rfl (Or.inl rfl)) (ag (cE (av (ok_check_way T) hr ak (aa (pv 3) (aa (pv 2) (aa (pv 1) ae)))))
   (ah (bv (aJ hr) (pv 2) (a8 (pv 3) rfl) (pv 3) rfl))))
   (ah (aq (pv 2))))),?_⟩
  try dsimp only [aM,Cx.nox,Cx.wish]
  intro d nd0
  have s0:Same H (upd H d (.dK [])):=ai nd0
  refine ⟨_,rfl,l,rfl,⟨_,s0.seq hS⟩,bn (K:=K) (a:=l) (xs:=ts) (fun i σ H2=>i≤ds.length∧∃ z3,σ=[some (.ref l),some (.ref dw),some (.ref d),z3]∧Same H H2∧WaysAt a H2 d (ds.take i)) ⟨iY _,_,rfl,s0,[],ad,rfl,RowAt.nil⟩ (fun i σ H2 _ ⟨_,_,_,s2,_⟩=>s2.seq hS) ?_ ?_⟩
  ·rintro i t σ H2 ht ⟨hi,z3,rfl,s2,kvs,hd,hk,hv⟩
   obtain ⟨x,ex,hx⟩:=hp.get ht
   have hi':i<ds.length:=(iL.mp ex).1
   have nk:¬ (Sum.inr x.nm:Key)∈kvs.map (·.1):=by
    rw [hk]
    have:=nodup_take (f:=fun z:WD=>(Sum.inr z.nm:Key)) (by
     rw [show (fun z:WD=>(Sum.inr z.nm:Key))=(fun n=>(Sum.inr n:Key)) ∘ (fun z:WD=>z.nm) from rfl,← jz]
     exact nd.map _ (fun u v h e=>h (Sum.inr.inj e))) ex
    exact this
   obtain ⟨kw,hkw,ekw,_⟩:=hw.mono s2
   obtain ⟨i1,i2⟩:=hin x (iR ex)
   have ekw':kw.map (·.1)=(ps.map (·.1)).map (fun n=>(Sum.inr n:Key)):=by rw [ekw,jz];rfl
   refine ⟨_,rfl,_,rfl,_,rfl,t,x,d,dw,kvs,kw,rfl,hx.mono s2,hd,hkw,nk,by rw [ekw'];exact inr_mem.mpr i1,by rw [ekw'];exact inr_mem.mpr i2,fun H3 s3=>?_⟩
   have hd3:=s3 _ _ hd
   have hx3:=hx.mono (s2.trans s3)
   obtain ⟨p,vh,vc,q,rfl,W,hkd⟩:=id hx3
   obtain ⟨dx,fs,ho,h5,_⟩:=W.ob
   have c:=dL T x.kd
   have hl:kvs.length=i:=by
    have:=jy List.length hk
    rw [iM,iM,i6] at this
    omega
   refine ⟨_,rfl,_,rfl,_,rfl,p,_,dx,fs,_,rfl,ho,c.cl,c.n1,h5.nm,d,_,rfl,DPut.k (k:=Sum.inr x.nm) hd3 (aE (by omega)),?_⟩
   rw [putK_new _ (gB nk)]
   have s4:=aH (o:=.dK (kvs++[(Sum.inr x.nm,.ref p)])) nd0 (s2.trans s3)
   refine ⟨hi',_,rfl,s4,kvs++[(Sum.inr x.nm,.ref p)],ad,?_,?_⟩
   ·rw [i5,hk,iU,ex,iV,i5]
    rfl
   ·rw [i5,iU,ex,iV]
    exact RowAt.snoc (hv.mono fun v y z=>(z.mono s3).put hd3) (hx3.put hd3)
  ·rintro σ H2 ⟨_,z3,rfl,s2,hw2⟩
   rw [hp.1,iS] at hw2
   exact ⟨_,rfl,k d H2 nd0 s2 hw2⟩
noncomputable def fsN (dw dy:Addr):List (Str × V):=[("wants",.ref dw),("ways",.ref dy)]
theorem fsN_new (dw dy:Addr):bY "ways" (.ref dy) (bY "wants" (.ref dw) [])=fsN dw dy:=by
 show (if ("wants":Str) = "ways" then _ else (("wants":Str),V.ref dw)::[(("ways":Str),V.ref dy)])=fsN dw dy
 rw [if_neg (by decide +kernel)]
 rfl
theorem fsN_w (dw dy:Addr):(fsN dw dy).lookup ("wants":Str)=some (.ref dw):=rfl
theorem fsN_y (dw dy:Addr):(fsN dw dy).lookup ("ways":Str)=some (.ref dy):=by
 show List.lookup ("ways":Str) [(("wants":Str),V.ref dw),("ways",V.ref dy)]=_
 rw [j5,show (("ways":Str) == "wants")=false by decide +kernel]
 rfl
theorem dI (dw dy:Addr) {m:Str} (h1:(m == "wants")=false) (h2:(m == "ways")=false):(fsN dw dy).lookup m=none:=by
 show List.lookup m [(("wants":Str),V.ref dw),("ways",V.ref dy)]=_
 rw [j5,h1,j5,h2]
 rfl
noncomputable def NetAt (a:Ad) (H:Hp) (p:Addr) (ps:List (Str × Rat)) (ds:List WD):Prop:=∃ dx dw dy,H p=some (.ins a.Net dx (fsN dw dy))∧WantsAt a H dw ps∧WaysAt a H dy ds
theorem NetAt.mono {H H':Hp} {p:Addr} {ps:List (Str × Rat)} {ds:List WD} (h:NetAt a H p ps ds) (s:Same H H'):NetAt a H' p ps ds:=by
 obtain ⟨dx,dw,dy,e,h1,h2⟩:=h
 exact ⟨dx,dw,dy,s _ _ e,h1.mono s,h2.mono s⟩
structure NetOk (ps:List (Str × Rat)) (ds:List WD):Prop where
 np:(ps.map (·.1)).Nodup
 lp:ps.length≤12
 nd:(ds.map (·.nm)).Nodup
 ld:ds.length≤24
 io:∀ d∈ds,d.st∈ps.map (·.1)∧d.go∈ps.map (·.1)
inductive IspNetI (K:PySem.W.Frag) (a:Ad) (vs:List V) (H:Hp) (Q:VK):Prop
 | mk (p dx lp lw:Addr) (tp tw:List V) (ps:List (Str × Rat)) (ds:List WD) (h1:vs=[.ref p,.ref lp,.ref lw]) (h2:H p=some (.ins a.Net dx [])) (h3:SqL K H lp tp) (h4:RowAt (PlIs a) H tp ps) (h5:SqL K H lw tw) (h6:RowAt (WayIs a) H tw ds) (h7:NetOk ps ds) (h8:∀ H',(∀ b o,H b=some o→b≠p→H' b=some o)→NetAt a H' p ps ds→Q .non H'):IspNetI K a vs H Q
noncomputable def spNetI (K:PySem.W.Frag) (a:Ad):Sp:=fun vs H Q _=>IspNetI K a vs H Q
theorem WantsAt.ins {H:Hp} {d p C dx:Addr} {fs gs:List (Str × V)} {ps:List (Str × Rat)} (h:WantsAt a H d ps) (hp:H p=some (.ins C dx fs)) (hC:C≠a.Fraction):WantsAt a (upd H p (.ins C dx gs)) d ps:=by
 obtain ⟨kvs,h1,h2,h3⟩:=h
 refine ⟨kvs,by rw [aj (bh h1 hp (by intro z;cases z))];exact h1,h2,h3.mono fun v x ⟨q,e,dq,f⟩=>⟨q,e,dq,?_⟩⟩
 rw [aj (bh f hp (by intro z;cases z;exact hC rfl))]
 exact f
theorem Stays.ins {H:Hp} {p C dx:Addr} {fs gs:List (Str × V)} (hp:H p=some (.ins C dx fs)) (hC:C≠a.Fraction∧∀ kd:Kd,C≠kd.C a):Stays a H (upd H p (.ins C dx gs)):=fun b C' dx' fs' h e=>by
 rw [aj (bh e hp fun z=>?_)]
 ·exact e
 ·have ec:=(HO.ins.inj z).1
  rcases h with rfl | ⟨kd,rfl⟩
  ·exact hC.1 ec.symm
  ·exact hC.2 kd ec.symm
theorem WaysAt.ins {H:Hp} {d p C dx:Addr} {fs gs:List (Str × V)} {ds:List WD} (h:WaysAt a H d ds) (hp:H p=some (.ins C dx fs)) (hC:C≠a.Fraction∧∀ kd:Kd,C≠kd.C a):WaysAt a (upd H p (.ins C dx gs)) d ds:=by
 obtain ⟨kvs,h1,h2,h3⟩:=h
 exact ⟨kvs,by rw [aj (bh h1 hp (by intro z;cases z))];exact h1,h2,h3.mono fun v x z=>z.keep (.ins hp hC)⟩
theorem netC (T:TX K mg a):a.Net≠a.Fraction∧∀ kd:Kd,a.Net≠kd.C a:=by
 have w1:a.Net≠a.Fraction:=fun e=>by
  have h:=T.na_Fraction_top
  have h2:=T.m_Fraction_times
  rw [← e] at h2
  obtain ⟨f,fd,_,⟨m,_,_⟩,_⟩:=h2
  cases T.no_Net_times.symm.trans m
 refine ⟨w1,fun kd e=>?_⟩
 have:=T.no_Net_out
 cases kd
 ·obtain ⟨f,fd,_,⟨m,_,_⟩,_⟩:=T.m_Way_out
  rw [show a.Way=a.Net from e.symm] at m
  cases this.symm.trans m
 ·obtain ⟨f,fd,_,⟨m,_,_⟩,_⟩:=T.m_Growing_out
  rw [show a.Growing=a.Net from e.symm] at m
  cases this.symm.trans m
 ·obtain ⟨f,fd,_,⟨m,_,_⟩,_⟩:=T.m_Leaking_out
  rw [show a.Leaking=a.Net from e.symm] at m
  cases this.symm.trans m
 ·obtain ⟨f,fd,_,⟨m,_,_⟩,_⟩:=T.m_Store_out
  rw [show a.Store=a.Net from e.symm] at m
  cases this.symm.trans m
theorem mk_Net (T:TX K mg a):MkB P w K mg base CX0 a.Net 4 ["self","places","ways"] [] (spNetI K a):=by
 refine T.i_Net.ok sc_Net_init (fun vs H Q E h=>?_) (fun f cdv A outer s H vs Q E hr h=>?_) _ (by simp)
 ·obtain ⟨_,_,_,_,_,_,_,_,rfl,_⟩:=h
  rfl
 ·obtain ⟨p,dx,lp,lw,tp,tw,ps,ds,rfl,hp,hS,hP,hL,hW,ok,k⟩:=h
  refine ⟨_,(ag (aG (PW.pt (g7 (aw gw (aU cB (by rfl) T.z_len j7 (aa (pv 1) ae)) (pe_gi T.gi_MOST_PLACES) (az _)) (fL (aw gw (aU cB (by rfl) T.z_len j7 (aa (pv 2) ae)) (pe_gi T.gi_MOST_WAYS) (az _))))) (ah cm) ay)
   (ag (d9 (pv 0) (av (ok_wants_by_name T) hr ak (aa (pv 1) ae)) rfl)
   (ah (d9 (pv 0) (av (ok_ways_by_name T) hr ak (aa (pv 2) (aa (a8 (pv 0) rfl) ae))) rfl)))),?_⟩
  try dsimp only [aM,Cx.nox,Cx.wish]
  have e1:(tp.length:Int)≤12:=by have:=ok.lp;rw [← hP.1] at this;omega
  have e2:(tw.length:Int)≤24:=by have:=ok.ld;rw [← hW.1] at this;omega
  refine ⟨_,rfl,lp,tp,rfl,.inl hS,_,_,rfl,rfl,_,rfl,eQ (iX (by omega)) ?_⟩
  refine ⟨_,rfl,lw,tw,rfl,.inl hL,_,_,rfl,rfl,_,rfl,eQ (iX (by omega)) ?_⟩
  refine ⟨_,rfl,lp,tp,ps,rfl,hS,hP,ok.np,i3 ok.lp (by decide),fun dw H1 n1 s1 hw1=>?_⟩
  have hp1:=s1 _ _ hp
  refine ⟨_,rfl,p,a.Net,dx,[],rfl,hp1,T.cl_Net,T.na_Net_wants,by decide,?_⟩
  have hC:=netC T
  generalize hH2:upd H1 p (.ins a.Net dx (bY "wants" (.ref dw) []))=H2
  have hp2:H2 p=some (.ins a.Net dx (bY "wants" (.ref dw) [])):=by rw [← hH2];exact ad
  have hw2:WantsAt a H2 dw ps:=by rw [← hH2];exact hw1.ins hp1 hC.1
  have k2:∀ b o,H b=some o→b≠p→H2 b=some o:=fun b o e ne=>by rw [← hH2,aj ne];exact s1 _ _ e
  have hL2:SqL K H2 lw tw:=by
   rcases hL with (h | ⟨o,h⟩) | h
   ·exact .inl (.inl (k2 _ _ h (bh h hp (by intro z;cases z))))
   ·exact .inl (.inr ⟨o,k2 _ _ h (bh h hp (by intro z;cases z))⟩)
   ·exact .inr h
  have hW2:RowAt (WayIs a) H2 tw ds:=hW.mono fun v x z=>z.keep fun b C' dx' fs' h e=>k2 _ _ e (bh e hp fun y=>by
   have ec:=(HO.ins.inj y).1
   rcases h with rfl | ⟨kd,rfl⟩
   ·exact hC.1 ec.symm
   ·exact hC.2 kd ec.symm)
  refine ⟨_,rfl,_,rfl,p,_,dx,_,_,rfl,hp2,T.cl_Net,T.na_Net_wants,rfl,lw,dw,tw,ds,ps,rfl,hL2,hW2,hw2,ok.nd,i3 ok.ld (by decide),ok.io,fun dy H3 n3 s3 hy3=>?_⟩
  have hp3:=s3 _ _ hp2
  refine ⟨_,rfl,p,a.Net,dx,_,rfl,hp3,T.cl_Net,T.na_Net_ways,jf (bq (iP 0)) (by decide),?_⟩
  rw [fsN_new]
  refine k _ (fun b o e ne=>?_) ⟨dx,dw,dy,ad,(hw2.mono s3).ins hp3 hC.1,hy3.ins hp3 hC⟩
  rw [aj ne]
  exact s3 _ _ (k2 _ _ e ne)
theorem WaysAt.get {H:Hp} {dy:Addr} {ds:List WD} {d:WD} (h:WaysAt a H dy ds) (nd:(ds.map (·.nm)).Nodup) (hd:d∈ds):∃ kvs v,H dy=some (.dK kvs)∧bc kvs (Sum.inr d.nm)=some v∧WayIs a H v d:=by
 obtain ⟨kvs,h1,h2,h3⟩:=h
 obtain ⟨i,hi⟩:=jN.mp hd
 obtain ⟨t,ht,hw⟩:=h3.get' hi
 have hil:=(iL.mp hi).1
 rw [i4] at ht
 cases e:kvs[i]? with
 | none=>rw [e] at ht;cases ht
 | some kv=>
  rw [e] at ht
  have e2:kv.2=t:=jh ht
  have e1:kv.1=Sum.inr d.nm:=by
   have g1:(kvs.map (·.1))[i]?=some kv.1:=by rw [i4,e];rfl
   rw [h2,i4,hi] at g1
   exact (jh g1).symm
  refine ⟨kvs,t,h1,?_,hw⟩
  obtain ⟨v,hv⟩:=val_some (kvs:=kvs) (k:=(Sum.inr d.nm:Key)) (iZ.mpr ⟨kv,iR e,e1⟩)
  rw [hv]
  unfold bc at hv
  cases f:kvs.find? (fun kv=>decide (kv.1=(Sum.inr d.nm:Key))) with
  | none=>rw [f] at hv;cases hv
  | some kv'=>
   rw [f] at hv
   have hp:=List.find?_some f
   have m:=List.mem_of_find?_eq_some f
   obtain ⟨j,hj⟩:=jN.mp m
   have ej:kv'.1=Sum.inr d.nm:=jG hp
   have nd2:(kvs.map (·.1)).Nodup:=by
    rw [h2,show (fun z:WD=>(Sum.inr z.nm:Key))=(fun n=>(Sum.inr n:Key)) ∘ (fun z:WD=>z.nm) from rfl,← jz]
    exact nd.map _ (fun u v h e=>h (Sum.inr.inj e))
   have g1:(kvs.map (·.1))[j]?=some (Sum.inr d.nm):=by rw [i4,hj,jT,ej]
   have g2:(kvs.map (·.1))[i]?=some (Sum.inr d.nm):=by rw [i4,e,jT,e1]
   have ij:=(List.getElem?_inj (by rw [iM];exact (iL.mp hj).1) nd2).mp (g1.trans g2.symm)
   subst ij
   rw [hj] at e
   cases e
   rw [← e2]
   exact hv.symm
inductive IspNetWay (a:Ad) (vs:List V) (H:Hp) (Q:VK):Prop
 | mk (p:Addr) (ps:List (Str × Rat)) (ds:List WD) (d:WD) (h1:vs=[.ref p,.str d.nm]) (h2:NetAt a H p ps ds) (h3:(ds.map (·.nm)).Nodup) (h4:d∈ds) (h5:∀ v,WayIs a H v d→Q v H):IspNetWay a vs H Q
noncomputable def spNetWay (a:Ad):Sp:=fun vs H Q _=>IspNetWay a vs H Q
theorem ok_Net_way (T:TX K mg a):MtB P w K mg base CX0 a.Net "way" 1 ["self","name"] (spNetWay a):=by
 refine T.m_Net_way.ok sc_Net_way (fun vs H Q E h=>?_) (fun f cdv A outer s H vs Q E hr h=>?_)
 ·obtain ⟨_,_,_,_,rfl,_⟩:=h
  rfl
 ·obtain ⟨p,ps,ds,d,rfl,⟨dx,dw,dy,hp,hw,hy⟩,nd,hd,k⟩:=h
  refine ⟨_,(ag (aG (gE (fT (aJ hr) (pv 1) (a8 (pv 0) rfl))) (ah cm) ay)
   (ah (aq (aQ (aJ hr) (a8 (pv 0) rfl) (pv 1) (fun _ _=>rfl))))),?_⟩
  try dsimp only [aM,Cx.nox,Cx.wish]
  obtain ⟨kvs,v,h1,h2,h3⟩:=hy.get nd hd
  refine ⟨_,rfl,_,rfl,p,_,dx,_,_,rfl,hp,T.cl_Net,T.na_Net_ways,fsN_y _ _,dy,_,rfl,DGet.k (k:=Sum.inr d.nm) h1,_,rfl,?_⟩
  rw [h2]
  refine iteF ?_
  refine ⟨_,rfl,p,_,dx,_,_,rfl,hp,T.cl_Net,T.na_Net_ways,fsN_y _ _,_,rfl,dy,v,rfl,?_,k v h3⟩
  rw [← h2]
  exact DGet.k (k:=Sum.inr d.nm) h1
theorem Sm.of_le {a:Int} {n:Nat} (h:a.natAbs≤2 ^ n) (hn:n<9000):Sm a:=jf h (Nat.pow_lt_pow_right (by decide) hn)
theorem Bd.smr {n:Nat} {x:Rat} (b:Bd n x) (hn:n<9000):SmR x:=⟨jf b.1 (Nat.pow_lt_pow_right (by decide) hn),by show Sm _;unfold Sm;rw [Int.natAbs_natCast];exact jf b.2 (Nat.pow_lt_pow_right (by decide) hn)⟩
theorem tot_bd {s m:Nat} {T B o c u:Int} (hT:T.natAbs≤2 ^ s) (hB:B.natAbs≤2 ^ s) (ho:o.natAbs≤2 ^ m) (hc:c.natAbs≤2 ^ m) (hu:u.natAbs≤B.natAbs) :
  (T*o+c*u).natAbs≤2 ^ (s+(m+1))∧(B*o).natAbs≤2 ^ (s+(m+1)):=by
 have h4:2 ^ (s+(m+1))=2 ^ (s+m)*2:=by rw [← Nat.add_assoc,Nat.pow_succ]
 constructor
 ·have h1:(T*o).natAbs≤2 ^ (s+m):=by rw [jD];exact cI hT ho
  have h2:(c*u).natAbs≤2 ^ (m+s):=by rw [jD];exact cI hc (i3 hu hB)
  rw [Nat.add_comm m s] at h2
  have h5:=Int.natAbs_add_le (T*o) (c*u)
  omega
 ·have h1:(B*o).natAbs≤2 ^ (s+m):=by rw [jD];exact cI hB ho
  omega
theorem TInv.le {x:Rat} {T B s:Int} (I:TInv x T B s):s.natAbs≤B.natAbs:=by
 obtain ⟨pB,ps,⟨r,hr,_⟩,_⟩:=I
 have:=Int.le_of_dvd pB ⟨r,hr⟩
 omega
noncomputable def FrIs (a:Ad) (H:Hp) (v:V) (x:Rat):Prop:=∃ q,v=.ref q∧FrAt a.Fraction H q x
theorem FrIs.mono {H H':Hp} {v:V} {x:Rat} (h:FrIs a H v x) (s:Same H H'):FrIs a H' v x:=by
 obtain ⟨q,e,f⟩:=h
 exact ⟨q,e,f.mono s⟩
theorem FrIs.keep {H H':Hp} {v:V} {x:Rat} (h:FrIs a H v x) (s:KeepD H H'):FrIs a H' v x:=let ⟨q,e,d,f⟩:=h;⟨q,e,d,s _ _ f (by intro _ z;cases z) (by intro _ _ z;cases z)⟩
inductive IspTotal (K:PySem.W.Frag) (a:Ad) (vs:List V) (H:Hp) (Q:VK):Prop
 | mk (l:Addr) (ts:List V) (xs:List Rat) (N:Nat) (h1:vs=[.ref l]) (h2:SqL K H l ts) (h3:RowAt (FrIs a) H ts xs) (h4:BdS xs N) (h5:N<9000) (h6:∀ (r:Addr) (H':Hp),H r=none→Same H H'→FrAt a.Fraction H' r xs.sum→Q (.ref r) H'):IspTotal K a vs H Q
noncomputable def spTotal (K:PySem.W.Frag) (a:Ad):Sp:=fun vs H Q _=>IspTotal K a vs H Q
theorem ok_total (T:TX K mg a):FnB P w K mg base CX0 "total" 5 ["some"] (spTotal K a):=by
 refine T.d_total.ok sc_total (fun vs H Q E h=>?_) (fun f cdv A outer s H vs Q E hr h=>?_)
 ·obtain ⟨_,_,_,_,rfl,_⟩:=h
  rfl
 ·obtain ⟨l,ts,xs,N,rfl,hS,fs,bd,hN,k⟩:=h
  obtain ⟨S,S0,S1,S2⟩:=bd.fn
  refine ⟨_,(ag (ar (i:=1) sc_total.nd rfl (Or.inl rfl) ac)
   (ag (ar (i:=2) sc_total.nd rfl (Or.inl rfl) ac)
   (ag (ar (i:=3) sc_total.nd rfl (Or.inl rfl) ac)
   (ag (a9 i7 rfl (aX (pv 0)) (ax (i:=4) sc_total.nd rfl (Or.inl rfl)) (ag (ar (i:=5) sc_total.nd rfl (Or.inl rfl) (av (cH T) hr ak (aa (pv 2) (aa (cf T.fr (pv 4)) ae))))
   (ag (ar (i:=6) sc_total.nd rfl (Or.inl rfl) (am bu (cf T.fr (pv 4)) (pv 5)))
   (ag (ar (i:=1) sc_total.nd rfl (Or.inl rfl) (am aS (am aT (pv 1) (pv 6)) (am aT (cV T.fr (pv 4)) (am bu (pv 2) (pv 5)))))
   (ag (ar (i:=2) sc_total.nd rfl (Or.inl rfl) (am aT (pv 2) (pv 6)))
   (ah (ar (i:=3) sc_total.nd rfl (Or.inl rfl) (am aT (pv 3) (am bu (pv 5) (av (cH T) hr ak (aa (pv 3) (aa (pv 5) ae))))))))))))
   (ag (ar (i:=7) sc_total.nd rfl (Or.inl rfl) (av (cH T) hr ak (aa (pv 1) (aa (pv 3) ae))))
   (ah (aq (av (cj T) hr ak (aa (am bu (pv 1) (pv 7)) (aa (am bu (pv 2) (pv 7)) ae)))))))))),?_⟩
  try dsimp only [aM,Cx.nox,Cx.wish]
  refine ⟨_,rfl,l,rfl,⟨_,hS⟩,bn (K:=K) (a:=l) (xs:=ts) (fun i σ H2=>i≤xs.length∧∃ (t b s:Int) (z4 z5 z6 z7:Option V),σ=[some (.ref l),some (.int t),some (.int b),some (.int s),z4,z5,z6,z7]∧H2=H∧TInv (xs.take i).sum t b s∧t.natAbs≤2 ^ (S i)∧b.natAbs≤2 ^ (S i))
   ⟨iY _,0,1,1,_,_,_,_,rfl,rfl,TInv.zero,iY _,by rw [S0];decide⟩ (fun i σ H2 _ ⟨_,_,_,_,_,_,_,_,_,e,_⟩=>by rw [e];exact hS) ?_ ?_⟩
  ·rintro i u σ H2 hu ⟨_,t,b,s,z4,z5,z6,z7,rfl,rfl,I,ht,hb⟩
   have hi:i<xs.length:=by rw [← fs.1];exact (iL.mp hu).1
   have ex:xs[i]?=some xs[i]:=iO hi
   obtain ⟨n,by',bs⟩:=S2 i _ ex
   generalize xs[i]=y at ex by'
   obtain ⟨p,rfl,fp⟩:=fs.2 i u _ hu ex
   have si:=S1 i (by omega)
   have si1:=S1 (i+1) (by omega)
   have hn':n<9000:=by omega
   have yd:((y.den:Int)).natAbs≤2 ^ n:=by rw [Int.natAbs_natCast];exact by'.2
   have sy:Sm (y.den:Int):=Sm.of_le yd hn'
   have cp:=dA b (den_ne y)
   have cs:=Sm.gcd_r b (den_ne y) sy
   have st:Sm t:=Sm.of_le ht (by omega)
   have sb:Sm b:=Sm.of_le hb (by omega)
   have yp:=fJ y
   have lo:((y.den:Int).fdiv (gcd b y.den)).natAbs≤(y.den:Int).natAbs:=fH _ cp (by omega)
   have lu:(b.fdiv (gcd b y.den)).natAbs≤b.natAbs:=fH _ cp (Int.le_of_lt I.pB)
   have ss:Sm s:=sb.le I.le
   have gp:=dA s (b:=gcd b y.den) (by omega)
   have gs:=Sm.gcd_r s (b:=gcd b y.den) (by omega) cs
   have lc:((gcd b y.den).fdiv (gcd s (gcd b y.den))).natAbs≤(gcd b y.den).natAbs:=fH _ gp (by omega)
   have tb:=tot_bd ht hb (i3 lo yd) by'.1 lu
   refine ⟨_,rfl,_,rfl,p,y,rfl,fp,_,_,rfl,?_⟩
   refine ⟨_,rfl,p,y,rfl,fp,_,rfl,_,_,rfl,rfl,⟨by omega,cs⟩,?_⟩
   refine ⟨_,rfl,_,rfl,_,_,rfl,rfl,⟨st,sy.le lo⟩,_,rfl,p,y,rfl,fp,_,rfl,_,rfl,_,_,rfl,rfl,⟨by omega,cs⟩,_,_,rfl,rfl,⟨Sm.of_le by'.1 hn',sb.le lu⟩,_,_,rfl,rfl,?_⟩
   refine ⟨_,rfl,_,rfl,_,_,rfl,rfl,⟨sb,sy.le lo⟩,?_⟩
   refine ⟨_,rfl,_,rfl,_,rfl,_,rfl,_,_,rfl,_,_,rfl,rfl,⟨by omega,gs⟩,_,_,rfl,rfl,⟨ss,cs.le lc⟩,?_⟩
   refine ⟨hi,_,_,_,_,_,_,_,rfl,rfl,?_,i3 tb.1 (pow_le bs),i3 tb.2 (pow_le bs)⟩
   rw [iU,ex,iV,sum_snoc]
   exact I.step
  ·rintro σ H2 ⟨_,t,b,s,z4,z5,z6,z7,rfl,rfl,I,ht,hb⟩
   rw [fs.1] at I ht hb
   rw [iS] at I
   have sl:=S1 _ (iP _)
   have sb:Sm b:=Sm.of_le hb (by omega)
   have s0:s≠0:=by have:=I.ps;omega
   have gp:=dA t s0
   have gs:=Sm.gcd_r t s0 (sb.le I.le)
   obtain ⟨e1,e2⟩:=I.fin
   refine ⟨_,rfl,_,rfl,_,_,rfl,?_⟩
   refine ⟨_,rfl,_,rfl,_,_,rfl,rfl,⟨by omega,gs⟩,_,rfl,_,rfl,_,_,rfl,rfl,⟨by omega,gs⟩,_,_,rfl,fun r dx H' nr s1 h1=>k r H' nr s1 ⟨dx,?_⟩⟩
   rw [h1,e1,e2]
noncomputable def NetOff (a:Ad) (H:Hp) (p d:Addr) (ps:List (Str × Rat)) (ds:List WD):Prop:=∃ H0,NetAt a H0 p ps ds∧Same H0 H∧H0 d=none
theorem NetOff.mono {H H':Hp} {p d:Addr} {ps:List (Str × Rat)} {ds:List WD} (h:NetOff a H p d ps ds) (s:Same H H'):NetOff a H' p d ps ds:=by
 obtain ⟨H0,n,s0,e⟩:=h
 exact ⟨H0,n,s0.trans s,e⟩
theorem NetOff.at_ {H:Hp} {p d:Addr} {ps:List (Str × Rat)} {ds:List WD} (h:NetOff a H p d ps ds):NetAt a H p ps ds:=by
 obtain ⟨_,n,s0,_⟩:=h
 exact n.mono s0
theorem NetOff.but {H H':Hp} {p d:Addr} {ps:List (Str × Rat)} {ds:List WD} (h:NetOff a H p d ps ds) (k:∀ b ob,H b=some ob→b≠d→H' b=some ob):NetOff a H' p d ps ds:=by
 obtain ⟨H0,n,s0,e⟩:=h
 exact ⟨H0,n,fun b ob x=>k b ob (s0 b ob x) (aB x e),e⟩
inductive IspNNames (a:Ad) (vs:List V) (H:Hp) (Q:VK):Prop
 | mk (p:Addr) (ps:List (Str × Rat)) (ds:List WD) (h1:vs=[.ref p]) (h2:NetAt a H p ps ds) (h3:∀ l,H l=none→Q (.ref l) (upd H l (.lst (ps.map fun x=>V.str x.1)))):IspNNames a vs H Q
noncomputable def ik (a:Ad):Sp:=fun vs H Q _=>IspNNames a vs H Q
theorem gm (T:TX K mg a):MtB P w K mg base CX0 a.Net "names" 1 ["self"] (ik a):=by
 refine T.m_Net_names.ok sc_Net_names (fun vs H Q E h=>?_) (fun f cdv A outer s H vs Q E hr h=>?_)
 ·obtain ⟨_,_,_,rfl,_⟩:=h
  rfl
 ·obtain ⟨p,ps,ds,rfl,⟨dx,dw,dy,hp,⟨kvs,h1,h2,h3⟩,hy⟩,k⟩:=h
  refine ⟨_,(ah (aq (bS (fz hr.hd) (by rfl) T.z_list PyProof.Rows.boot_list (aa (a8 (pv 0) rfl) ae)))),?_⟩
  try dsimp only [aM,Cx.nox,Cx.wish]
  refine ⟨_,rfl,p,_,dx,_,_,rfl,hp,T.cl_Net,T.na_Net_wants,fsN_w _ _,dw,kvs,rfl,.inl h1,fun l nl=>?_⟩
  have e:(kvs.map fun kv=>kV kv.1)=ps.map fun x=>V.str x.1:=by
   have:=jy (List.map kV) h2
   rw [jz,jz] at this
   exact this
  rw [e]
  exact k l nl
inductive IspNAll (a:Ad) (vs:List V) (H:Hp) (Q:VK):Prop
 | mk (p:Addr) (ps:List (Str × Rat)) (ds:List WD) (h1:vs=[.ref p]) (h2:NetAt a H p ps ds) (h3:∀ l H' ts,H l=none→Same H H'→H' l=some (.lst ts)→RowAt (WayIs a) H' ts ds→Q (.ref l) H'):IspNAll a vs H Q
noncomputable def spNAll (a:Ad):Sp:=fun vs H Q _=>IspNAll a vs H Q
theorem cn (T:TX K mg a):MtB P w K mg base CX0 a.Net "all_ways" 1 ["self"] (spNAll a):=by
 refine T.m_Net_all_ways.ok sc_Net_all_ways (fun vs H Q E h=>?_) (fun f cdv A outer s H vs Q E hr h=>?_)
 ·obtain ⟨_,_,_,rfl,_⟩:=h
  rfl
 ·obtain ⟨p,ps,ds,rfl,⟨dx,dw,dy,hp,hw,⟨kvs,h1,h2,h3⟩⟩,k⟩:=h
  refine ⟨_,(ah (aq (bS (call_list_vals hr.hd) (by rfl) T.z_list PyProof.Rows.boot_list (aa (pe_bm0 PySem.F.plainAttrs_dict PySem.F.slot_dict_values PySem.F.type_dict_values mt_values (a8 (pv 0) rfl)) ae)))),?_⟩
  try dsimp only [aM,Cx.nox,Cx.wish]
  refine ⟨_,rfl,p,_,dx,_,_,rfl,hp,T.cl_Net,T.na_Net_ways,fsN_y _ _,(.inr (.inr (.inl ⟨rfl,.inl ⟨kvs,h1⟩⟩))),dy,kvs,rfl,rfl,.inl h1,fun v nv=>?_⟩
  have s1:=ai (o:=ViewO v dy) nv
  refine ⟨v,dy,kvs,rfl,ad,.inl (s1 _ _ h1),fun l nl=>?_⟩
  have s2:=s1.trans (ai (o:=.lst (kvs.map (·.2))) nl)
  exact k l _ _ (s1.free nl) s2 ad (h3.mono fun v x z=>z.mono s2)
noncomputable def bI (ks:List Str) (f:Str→Rat) (n:Str):Rat:=if n∈ks then f n else 0
inductive IspAmount (a:Ad) (vs:List V) (H:Hp) (Q:VK):Prop
 | mk (d:Addr) (kvs:List (Key × V)) (ks:List Str) (f:Str→Rat) (n:Str) (h1:vs=[.ref d,.str n]) (h2:Rd H d (.dK kvs)) (h3:Tab (FrIs a) H kvs ks f) (h4:∀ q H',Same H H'→FrAt a.Fraction H' q (bI ks f n)→Q (.ref q) H'):IspAmount a vs H Q
noncomputable def spAmount (a:Ad):Sp:=fun vs H Q _=>IspAmount a vs H Q
theorem fk (T:TX K mg a):FnB P w K mg base CX0 "amount" 5 ["plan","name"] (spAmount a):=by
 refine T.d_amount.ok sc_amount (fun vs H Q E h=>?_) (fun f cdv A outer s H vs Q E hr h=>?_)
 ·obtain ⟨_,_,_,_,_,rfl,_⟩:=h
  rfl
 ·obtain ⟨d,kvs,ks,f,n,rfl,hd,tb,k⟩:=h
  refine ⟨_,(ah (aq (cX (aJ hr) (pv 0) (pv 1) (bT (mk1 T) hr T.mg_Fraction ak (aa ac ae)) ⟨rfl,rfl,rfl,rfl⟩))),?_⟩
  try dsimp only [aM,Cx.nox,Cx.wish]
  refine ⟨_,rfl,d,rfl,.inl ⟨kvs,hd⟩,_,rfl,0,1,rfl,by decide,sm1,fun z H1 nz s1 f1=>?_⟩
  have hd1:Rd H1 d (.dK kvs):=hd.imp (fun h=>s1 _ _ h) fun ⟨o,h⟩=>⟨o,s1 _ _ h⟩
  refine ⟨bc kvs (Sum.inr n),.inl ⟨kvs,Sum.inr n,hd1,rfl,rfl⟩,?_⟩
  unfold bI at k
  by_cases hn:n∈ks
  ·obtain ⟨v,ev,q,rfl,fq⟩:=tb.vals n hn
   rw [ev]
   rw [if_pos hn] at k
   exact k q H1 s1 (fq.mono s1)
  ·rw [tb.none hn]
   rw [if_neg hn] at k
   rw [Rat.zero_divInt] at f1
   exact k z H1 s1 f1
noncomputable def sumStep (A:Str→Rat) (F:Str→Rat) (d:WD):Str→Rat:=upf (upf F d.st (F d.st-A d.nm)) d.go (F d.go+A d.nm*dH d.kd d.x)
noncomputable def eI (A:Str→Rat) (ds:List WD):Str→Rat:=ds.foldl (sumStep A) (fun _=>0)
theorem sumF_snoc (A:Str→Rat) (ds:List WD) (d:WD):eI A (ds++[d])=sumStep A (eI A ds) d:=by unfold eI;rw [List.foldl_append];rfl
structure SumOk (A:Str→Rat) (ps:List (Str × Rat)) (ds:List WD):Prop where
 np:(ps.map (·.1)).Nodup
 lp:ps.length≤900
 io:∀ d∈ds,d.st∈ps.map (·.1)∧d.go∈ps.map (·.1)
 ne:∀ d∈ds,d.st≠d.go
 sx:∀ d∈ds,SmR d.x∧SmR (dH d.kd d.x)
 sa:∀ d∈ds,SmR (A d.nm)∧SmR (A d.nm*dH d.kd d.x)
 sf:∀ i s,SmR (eI A (ds.take i) s)
inductive IspSumsOwn (a:Ad) (vs:List V) (H:Hp) (Q:VK):Prop
 | mk (p d:Addr) (ps:List (Str × Rat)) (ds:List WD) (kvs:List (Key × V)) (ks:List Str) (f:Str→Rat) (h1:vs=[.ref p,.ref d]) (h2:NetAt a H p ps ds) (h3:H d=some (.dK kvs)) (h4:Tab (FrIs a) H kvs ks f) (h5:SumOk (bI ks f) ps ds) (h6:∀ r H' kvr,H r=none→Same H H'→H' r=some (.dK kvr)→Tab (FrIs a) H' kvr (ps.map (·.1)) (eI (bI ks f) ds)→Q (.ref r) H'):IspSumsOwn a vs H Q
noncomputable def spSumsOwn (a:Ad):Sp:=fun vs H Q _=>IspSumsOwn a vs H Q
theorem eR (T:TX K mg a):FnB P w K mg base CX0 "sums_of_own_ways" 9 ["net","plan"] (spSumsOwn a):=by
 refine T.d_sums_of_own_ways.ok sc_sums_of_own_ways (fun vs H Q E h=>?_) (fun f cdv A outer s H vs Q E hr h=>?_)
 ·obtain ⟨_,_,_,_,_,_,_,rfl,_⟩:=h
  rfl
 ·obtain ⟨p,d,ps,ds,kvs,ks,f,rfl,hn,hd,tb,ok,k⟩:=h
  refine ⟨_,(ag (ar (i:=2) sc_sums_of_own_ways.nd rfl (Or.inl rfl) dE)
   (aP (a9 i7 rfl (aX (eD (CX:=CX0) (pv 0) hr ak)) (ax (i:=3) sc_sums_of_own_ways.nd rfl (Or.inl rfl)) (ah (bv (aJ hr) (pv 2) (pv 3) (bT (mk1 T) hr T.mg_Fraction ak (aa ac ae)) rfl)))
   (ag (a9 i7 rfl (aX (eD (CX:=CX0) (pv 0) hr ak)) (ax (i:=4) sc_sums_of_own_ways.nd rfl (Or.inl rfl)) (ag (ar (i:=5) sc_sums_of_own_ways.nd rfl (Or.inl rfl) (av (fk T) hr ak (aa (pv 1) (aa (a8 (pv 4) rfl) ae))))
   (ag (bv (aJ hr) (pv 2) (a8 (pv 4) rfl) (cW T.fr (aQ (aJ hr) (pv 2) (a8 (pv 4) rfl) (fun _ _=>rfl)) (iD T) hr ak (aa (pv 5) ae)) rfl)
   (ah (bv (aJ hr) (pv 2) (a8 (pv 4) rfl) (cW T.fr (aQ (aJ hr) (pv 2) (a8 (pv 4) rfl) (fun _ _=>rfl)) (iC T) hr ak (aa (hU (CX:=CX0) (pv 4) hr ak (aa (pv 5) ae)) ae)) rfl)))))
   (ah (aq (pv 2)))))),?_⟩
  try dsimp only [aM,Cx.nox,Cx.wish]
  intro r nr
  have s0:Same H (upd H r (.dK [])):=ai nr
  have hr0:upd H r (.dK []) r=some (.dK []):=ad
  generalize upd H r (.dK [])=H0 at s0 hr0 ⊢
  refine ⟨fun σ' H'=>∃ z3 z4 z5 kvr,σ'=[some (.ref p),some (.ref d),some (.ref r),z3,z4,z5]∧Same H H'∧H' r=some (.dK kvr)∧Tab (FrIs a) H' kvr (ps.map (·.1)) (fun _=>0),?_,?_⟩
  ·obtain ⟨dx,dw,dy,hp,hw,hy⟩:=hn.mono s0
   refine ⟨_,rfl,p,a.Net,dx,_,1,["self"],ik a,rfl,hp,dI _ _ (by decide +kernel) (by decide +kernel),T.cl_Net,by decide,gm T,p,ps,ds,rfl,⟨dx,dw,dy,hp,hw,hy⟩,fun l nl=>?_⟩
   have s1:=ai (o:=.lst (ps.map fun x=>V.str x.1)) nl
   have hl:upd H0 l (.lst (ps.map fun x=>V.str x.1)) l=some (.lst (ps.map fun x=>V.str x.1)):=ad
   generalize upd H0 l (.lst (ps.map fun x=>V.str x.1))=H1 at s1 hl ⊢
   have lr:l≠r:=fun z=>by rw [z,hr0] at nl;cases nl
   refine ⟨l,rfl,⟨_,SqL.of hl⟩,bn (K:=K) (a:=l) (xs:=ps.map fun x=>V.str x.1) (fun i σ H2=>i≤ps.length∧∃ z3 z4 z5 kvr,σ=[some (.ref p),some (.ref d),some (.ref r),z3,z4,z5]∧Same H H2∧H2 l=some (.lst (ps.map fun x=>V.str x.1))∧H2 r=some (.dK kvr)∧Tab (FrIs a) H2 kvr ((ps.map (·.1)).take i) (fun _=>0))
    ⟨iY _,_,_,_,[],rfl,s0.trans s1,hl,s1 _ _ hr0,Tab.nil⟩ (fun i σ H2 _ ⟨_,_,_,_,_,_,_,h,_⟩=>SqL.of h) ?_ ?_⟩
   ·rintro i t σ H2 ht ⟨hi,z3,z4,z5,kvr,rfl,s2,hl2,hr2,tr⟩
    rw [i4] at ht
    cases ex:ps[i]? with
    | none=>rw [ex] at ht;cases ht
    | some x=>
     rw [ex] at ht
     cases ht
     have hi':=(iL.mp ex).1
     have en:(ps.map (·.1))[i]?=some x.1:=by rw [i4,ex];rfl
     obtain ⟨tk,nk⟩:=fM ok.np en
     refine ⟨0,1,rfl,by decide,sm1,fun z H3 nz s3 f3=>?_⟩
     rw [Rat.zero_divInt] at f3
     have lk:kvr.length≤900:=by
      rw [tr.len,i6,iM]
      have:=ok.lp
      omega
     refine ⟨_,rfl,_,rfl,r,_,rfl,DPut.k (k:=Sum.inr x.1) (s3 _ _ hr2) (aE (by omega)),?_⟩
     have kp:KeepD H3 (upd H3 r (.dK (bg kvr (Sum.inr x.1) (.ref z)))):=KeepD.put (s3 _ _ hr2)
     refine ⟨hi',_,_,_,_,rfl,aH nr (s2.trans s3),by rw [aj lr];exact s3 _ _ hl2,ad,?_⟩
     rw [tk,← f9 nk]
     refine (Tab.put (n:=x.1) (tr.mono fun v x z=>(z.mono s3).keep kp) (y:=0) (FrIs.keep ⟨z,rfl,f3⟩ kp)).congr fun m _=>?_
     unfold upf
     split <;> rfl
   ·rintro σ H2 ⟨_,z3,z4,z5,kvr,rfl,s2,hl2,hr2,tr⟩
    rw [iM] at tr
    rw [show ps.length=(ps.map (·.1)).length by rw [iM],iS] at tr
    exact ⟨_,_,_,kvr,rfl,s2,hr2,tr⟩
  rintro σ' H1 ⟨z3,z4,z5,kvr,rfl,s1,hr1,tr⟩
  obtain ⟨dx,dw,dy,hp,hw,hy⟩:=hn.mono s1
  refine ⟨_,rfl,p,a.Net,dx,_,1,["self"],spNAll a,rfl,hp,dI _ _ (by decide +kernel) (by decide +kernel),T.cl_Net,by decide,cn T,p,ps,ds,rfl,⟨dx,dw,dy,hp,hw,hy⟩,fun l H2 ts nl s2 hl2 hv=>?_⟩
  refine ⟨l,rfl,⟨_,SqL.of hl2⟩,bn (K:=K) (a:=l) (xs:=ts) (fun i σ H3=>i≤ds.length∧∃ z3 z4 z5 kvr,σ=[some (.ref p),some (.ref d),some (.ref r),z3,z4,z5]∧Same H H3∧KeepD H2 H3∧H3 r=some (.dK kvr)∧Tab (FrIs a) H3 kvr (ps.map (·.1)) (eI (bI ks f) (ds.take i)))
   ⟨iY _,_,_,_,kvr,rfl,s1.trans s2,.of (Same.refl _),s2 _ _ hr1,tr.mono fun v x z=>z.mono s2⟩ (fun i σ H3 _ ⟨_,_,_,_,_,_,_,kp,_⟩=>SqL.of (kp _ _ hl2 (by intro _ z;cases z) (by intro _ _ z;cases z))) ?_ ?_⟩
  ·rintro i t σ H3 ht ⟨hi,z3,z4,z5,kvr,rfl,s3,kp,hr3,tr3⟩
   obtain ⟨y,ey,wy⟩:=hv.get ht
   have hi':=(iL.mp ey).1
   have my:=iR ey
   have wy3:WayIs a H3 t y:=wy.keep fun b C dx fs _ e=>kp _ _ e (by intro _ z;cases z) (by intro _ _ z;cases z)
   obtain ⟨p1,vh,vc,q1,rfl,W,hk⟩:=wy3
   obtain ⟨dx1,fs1,ho,h5,_⟩:=id W.ob
   have c:=dL T y.kd
   obtain ⟨i1,i2⟩:=ok.io y my
   obtain ⟨a1,a2⟩:=ok.sa y my
   obtain ⟨x1,x2⟩:=ok.sx y my
   have hne:=ok.ne y my
   have lk:kvr.length≤900:=by
    rw [tr3.len,iM]
    exact ok.lp
   refine ⟨_,rfl,_,rfl,p1,_,dx1,fs1,_,rfl,ho,c.cl,c.n1,h5.nm,d,kvs,ks,f,y.nm,rfl,.inl (s3 _ _ hd),tb.mono (fun v x z=>z.mono s3),fun q H4 s4 f4=>?_⟩
   have ho4:=s4 _ _ ho
   obtain ⟨v1,ev1,r1,rfl,fr1⟩:=(tr3.mono fun v x z=>z.mono s4).vals _ i1
   refine ⟨_,rfl,_,rfl,p1,_,dx1,fs1,_,rfl,ho4,c.cl,c.n2,h5.st,r,_,rfl,.inl ⟨kvr,Sum.inr y.st,.inl (s4 _ _ hr3),rfl,ev1.symm⟩,r1,_,rfl,fr1,_,rfl,r1,q,_,_,rfl,fr1,f4,ok.sf i _,a1,True.intro,fun r2 H5 nr2 s5 f5=>?_⟩
   have s45:=s4.trans s5
   refine ⟨_,rfl,_,rfl,p1,_,dx1,fs1,_,rfl,s45 _ _ ho,c.cl,c.n2,h5.st,r,_,rfl,DPut.k (k:=Sum.inr y.st) (s45 _ _ hr3) (aE (by omega)),?_⟩
   have kp5:KeepD H5 (upd H5 r (.dK (bg kvr (Sum.inr y.st) (.ref r2)))):=KeepD.put (s45 _ _ hr3)
   have tr6:=Tab.put (n:=y.st) (tr3.mono fun v x z=>(z.mono s45).keep kp5) (FrIs.keep ⟨r2,rfl,f5⟩ kp5)
   have s6:=aH (o:=.dK (bg kvr (Sum.inr y.st) (.ref r2))) nr (s3.trans s45)
   have hr6:upd H5 r (.dK (bg kvr (Sum.inr y.st) (.ref r2))) r=some (.dK (bg kvr (Sum.inr y.st) (.ref r2))):=ad
   have lk6:(bg kvr (Sum.inr y.st:Key) (.ref r2)).length≤901:=i3 (fG _ _ _) (by omega)
   generalize bg kvr (Sum.inr y.st) (.ref r2)=kv6 at kp5 tr6 s6 hr6 lk6 ⊢
   generalize upd H5 r (.dK kv6)=H6 at kp5 tr6 s6 hr6 ⊢
   rw [show eM (ps.map (·.1)) y.st=ps.map (·.1) from if_pos i1] at tr6
   have kp36:KeepD H3 H6:=(KeepD.of s45).trans kp5
   have W6:=W.keep fun b C dx fs _ e=>kp36 _ _ e (by intro _ z;cases z) (by intro _ _ z;cases z)
   obtain ⟨dx6,fs6,ho6,h56,_⟩:=id W6.ob
   obtain ⟨q6,e6,f6⟩:=FrIs.keep ⟨q,rfl,f4⟩ ((KeepD.of s5).trans kp5)
   cases e6
   obtain ⟨v7,ev7,r7,rfl,fr7⟩:=tr6.vals _ i2
   rw [bW (Ne.symm hne)] at fr7
   refine ⟨_,rfl,_,rfl,p1,_,dx6,fs6,_,rfl,ho6,c.cl,c.n3,h56.go,r,_,rfl,.inl ⟨_,Sum.inr y.go,.inl hr6,rfl,ev7.symm⟩,r7,_,rfl,fr7,_,rfl,p1,_,dx6,fs6,8,["self","amount"],spOut a y.kd,rfl,ho6,h56.ou,c.cl,by decide,out_any T y.kd,_,rfl,p1,q,y.nm,y.st,y.go,vh,vc,q1,y.x,_,rfl,W6,f6,x1,a1,x2,fun r8 H7 s7 f7=>?_⟩
   refine ⟨r7,r8,_,_,rfl,fr7.mono s7,f7,ok.sf i _,a2,True.intro,fun r9 H8 nr9 s8 f8=>?_⟩
   have s78:=s7.trans s8
   refine ⟨_,rfl,_,rfl,p1,_,dx6,fs6,_,rfl,s78 _ _ ho6,c.cl,c.n3,h56.go,r,_,rfl,DPut.k (k:=Sum.inr y.go) (s78 _ _ hr6) (aE (by omega)),?_⟩
   have kp8:KeepD H8 (upd H8 r (.dK (bg kv6 (Sum.inr y.go) (.ref r9)))):=KeepD.put (s78 _ _ hr6)
   have tr9:=Tab.put (n:=y.go) (tr6.mono fun v x z=>(z.mono s78).keep kp8) (FrIs.keep ⟨r9,rfl,f8⟩ kp8)
   rw [show eM (ps.map (·.1)) y.go=ps.map (·.1) from if_pos i2] at tr9
   refine ⟨hi',_,_,_,_,rfl,aH nr (s6.trans s78),((kp.trans kp36).trans (.of s78)).trans kp8,ad,?_⟩
   rw [iU,ey,iV,sumF_snoc]
   exact tr9
  ·rintro σ H3 ⟨_,z3,z4,z5,kvr,rfl,s3,kp,hr3,tr3⟩
   rw [hv.1,iS] at tr3
   exact ⟨_,rfl,k r H3 kvr nr s3 hr3 tr3⟩
inductive IspRefO (a:Ad) (vs:List V) (H:Hp) (Q:VK):Prop
 | mk (p d:Addr) (ps:List (Str × Rat)) (ds:List WD) (kvs:List (Key × V)) (ks:List Str) (f:Str→Rat) (h1:vs=[.ref p,.ref d]) (h2:NetOff a H p d ps ds) (h3:(ds.map (·.nm)).Nodup) (h4:H d=some (.dK kvs)) (h5:Tab (FrIs a) H kvs ks f) (h6:ks.Nodup) (h7:(∀ n∈ks,n∈ds.map (·.nm))) (h8:∀ H',Same H H'→Q .non H'):IspRefO a vs H Q
noncomputable def spRefO (a:Ad):Sp:=fun vs H Q _=>IspRefO a vs H Q
theorem gy (T:TX K mg a):FnB P w K mg base CX0 "refuse_other_names" 2 ["net","plan"] (spRefO a):=by
 refine T.d_refuse_other_names.ok sc_refuse_other_names (fun vs H Q E h=>?_) (fun f cdv A outer s H vs Q E hr h=>?_)
 ·obtain ⟨_,_,_,_,_,_,_,rfl,_⟩:=h
  rfl
 ·obtain ⟨p,d,ps,ds,kvs,ks,f,rfl,hn,nd,hd,tb,ndk,sub,k⟩:=h
  refine ⟨_,(ah (eV (a9 i7 rfl (fE (pv 1)) (ax (i:=2) sc_refuse_other_names.nd rfl (Or.inl rfl)) (ah (cE (hU (CX:=CX0) (pv 0) hr ak (aa (pv 2) ae))))))),?_⟩
  try dsimp only [aM,Cx.nox,Cx.wish]
  refine ⟨d,.dK kvs,hd,(by intro o z e;cases e),_,rfl,d,kvs,rfl,hd,fun o=>?_⟩
  refine fX (a:=d) (o:=o) (kvs:=kvs) (fun i σ H2=>∃ z,σ=[some (.ref p),some (.ref d),z]∧H2 d=some (.frz o (.dK kvs))∧∀ b ob,H b=some ob→b≠d→H2 b=some ob)
   ⟨_,rfl,ad,fun b ob e ne=>by rw [aj ne];exact e⟩ (fun i σ H2 _ ⟨_,_,h,_⟩=>h) ?_ ?_
  ·rintro i kv σ H2 hkv ⟨z,rfl,hf,k2⟩
   obtain ⟨n,en,e1,ev,_⟩:=tb.at_ ndk hkv
   have ekv:kV kv.1=.str n:=by rw [e1];rfl
   rw [ekv]
   obtain ⟨y,my,rfl⟩:=iZ.mp (sub n (iR en))
   obtain ⟨dx,dw,dy,hp,hw,hy⟩:=(hn.but k2).at_
   refine ⟨_,rfl,p,a.Net,dx,_,1,["self","name"],spNetWay a,rfl,hp,dI _ _ (by decide +kernel) (by decide +kernel),T.cl_Net,by decide,ok_Net_way T,_,rfl,p,ps,ds,y,rfl,⟨dx,dw,dy,hp,hw,hy⟩,nd,my,fun v _=>?_⟩
   exact ⟨_,rfl,hf,k2⟩
  ·rintro σ H2 ⟨z,rfl,hf,k2⟩
   refine ⟨o,hf,k _ fun b ob e=>?_⟩
   by_cases hb:b=d
   ·subst hb
    rw [ad,← hd,e]
   ·rw [aj hb]
    exact k2 _ _ e hb
inductive IspSums (a:Ad) (vs:List V) (H:Hp) (Q:VK):Prop
 | mk (p d:Addr) (ps:List (Str × Rat)) (ds:List WD) (kvs:List (Key × V)) (ks:List Str) (f:Str→Rat) (h1:vs=[.ref p,.ref d]) (h2:NetOff a H p d ps ds) (h3:(ds.map (·.nm)).Nodup) (h4:H d=some (.dK kvs)) (h5:Tab (FrIs a) H kvs ks f) (h6:ks.Nodup) (h7:(∀ n∈ks,n∈ds.map (·.nm))) (h8:SumOk (bI ks f) ps ds) (h9:∀ r H' kvr,H r=none→Same H H'→H' r=some (.dK kvr)→Tab (FrIs a) H' kvr (ps.map (·.1)) (eI (bI ks f) ds)→Q (.ref r) H'):IspSums a vs H Q
noncomputable def spSums (a:Ad):Sp:=fun vs H Q _=>IspSums a vs H Q
theorem ok_sums (T:TX K mg a):FnB P w K mg base CX0 "sums" 10 ["net","plan"] (spSums a):=by
 refine T.d_sums.ok sc_sums (fun vs H Q E h=>?_) (fun f cdv A outer s H vs Q E hr h=>?_)
 ·obtain ⟨_,_,_,_,_,_,_,rfl,_⟩:=h
  rfl
 ·obtain ⟨p,d,ps,ds,kvs,ks,f,rfl,hn,nd,hd,tb,ndk,sub,ok,k⟩:=h
  refine ⟨_,(ag (cE (av (gy T) hr ak (aa (pv 0) (aa (pv 1) ae))))
   (ah (aq (av (eR T) hr ak (aa (pv 0) (aa (pv 1) ae)))))),?_⟩
  try dsimp only [aM,Cx.nox,Cx.wish]
  refine ⟨_,rfl,_,rfl,p,d,ps,ds,kvs,ks,f,rfl,hn,nd,hd,tb,ndk,sub,fun H1 s1=>?_⟩
  exact ⟨_,rfl,_,rfl,p,d,ps,ds,kvs,ks,f,rfl,(hn.mono s1).at_,s1 _ _ hd,tb.mono (fun v x z=>z.mono s1),ok,fun r H2 kvr nr s2 hr2 tr=>k r H2 kvr (s1.free nr) (s1.trans s2) hr2 tr⟩
theorem kv_at {κ:Type} [DecidableEq κ]:∀ {kvs:List (κ × V)} {i:Nat} {kv:κ × V},(kvs.map (·.1)).Nodup→kvs[i]?=some kv→bc kvs kv.1=some kv.2
 | [],_,_,_,e=>by simp at e
 | p::r,0,kv,_,e=>by
  simp at e
  subst e
  exact bD rfl
 | p::r,i+1,kv,nd,e=>by
  have e:r[i]?=some kv:=by simpa using e
  obtain ⟨h1,h2⟩:=List.nodup_cons.mp (show (p.1::r.map (·.1)).Nodup from nd)
  rw [br fun z=>h1 (by rw [z];exact iZ.mpr ⟨kv,iR e,rfl⟩)]
  exact kv_at h2 e
theorem WantsAt.at_ {H:Hp} {dw:Addr} {ps:List (Str × Rat)} {i:Nat} {p:Str × Rat} (h:WantsAt a H dw ps) (nd:(ps.map (·.1)).Nodup) (hi:ps[i]?=some p):∃ kvs q,H dw=some (.dK kvs)∧bc kvs (Sum.inr p.1)=some (.ref q)∧FrAt a.Fraction H q p.2:=by
 obtain ⟨kvs,h1,h2,h3⟩:=h
 obtain ⟨t,ht,q,rfl,fq⟩:=h3.get' (i:=i) (x:=p.2) (by rw [i4,hi];rfl)
 rw [i4] at ht
 cases e:kvs[i]? with
 | none=>rw [e] at ht;cases ht
 | some kv=>
  rw [e] at ht
  have e2:kv.2=.ref q:=jh ht
  have e1:kv.1=Sum.inr p.1:=by
   have g1:(kvs.map (·.1))[i]?=some kv.1:=by rw [i4,e];rfl
   rw [h2,i4,hi] at g1
   exact (jh g1).symm
  have nd2:(kvs.map (·.1)).Nodup:=by
   rw [h2,show (fun z:Str × Rat=>(Sum.inr z.1:Key))=(fun n=>(Sum.inr n:Key)) ∘ (fun z:Str × Rat=>z.1) from rfl,← jz]
   exact nd.map _ (fun u v h e=>h (Sum.inr.inj e))
  refine ⟨kvs,q,h1,?_,fq⟩
  rw [← e1,← e2]
  exact kv_at nd2 e
inductive IspNWant (a:Ad) (vs:List V) (H:Hp) (Q:VK):Prop
 | mk (p:Addr) (ps:List (Str × Rat)) (ds:List WD) (i:Nat) (n:Str) (x:Rat) (h1:vs=[.ref p,.str n]) (h2:NetAt a H p ps ds) (h3:(ps.map (·.1)).Nodup) (h4:ps[i]?=some (n,x)) (h5:∀ q,FrAt a.Fraction H q x→Q (.ref q) H):IspNWant a vs H Q
noncomputable def spNWant (a:Ad):Sp:=fun vs H Q _=>IspNWant a vs H Q
theorem gI (T:TX K mg a):MtB P w K mg base CX0 a.Net "want" 1 ["self","place"] (spNWant a):=by
 refine T.m_Net_want.ok sc_Net_want (fun vs H Q E h=>?_) (fun f cdv A outer s H vs Q E hr h=>?_)
 ·obtain ⟨_,_,_,_,_,_,rfl,_⟩:=h
  rfl
 ·obtain ⟨p,ps,ds,i,n,x,rfl,⟨dx,dw,dy,hp,hw,hy⟩,nd,hi,k⟩:=h
  refine ⟨_,(ag (aG (gE (fT (aJ hr) (pv 1) (a8 (pv 0) rfl))) (ah cm) ay)
   (ah (aq (aQ (aJ hr) (a8 (pv 0) rfl) (pv 1) (fun _ _=>rfl))))),?_⟩
  try dsimp only [aM,Cx.nox,Cx.wish]
  obtain ⟨kvs,q,h1,h2,h3⟩:=hw.at_ nd hi
  refine ⟨_,rfl,_,rfl,p,_,dx,_,_,rfl,hp,T.cl_Net,T.na_Net_wants,fsN_w _ _,dw,_,rfl,DGet.k (k:=Sum.inr n) h1,_,rfl,?_⟩
  rw [h2]
  refine iteF ?_
  refine ⟨_,rfl,p,_,dx,_,_,rfl,hp,T.cl_Net,T.na_Net_wants,fsN_w _ _,_,rfl,dw,.ref q,rfl,?_,k q h3⟩
  rw [← h2]
  exact DGet.k (k:=Sum.inr n) h1
inductive IspNWantX (a:Ad) (vs:List V) (H:Hp) (E:XK):Prop
 | mk (p:Addr) (ps:List (Str × Rat)) (ds:List WD) (n:Str) (h1:vs=[.ref p,.str n]) (h2:NetAt a H p ps ds) (h3:¬ n∈ps.map (·.1)) (h4:n.length≤1000) (h5:NoPlaceE a H n E):IspNWantX a vs H E
noncomputable def spNWantX (a:Ad):Sp:=fun vs H _ E=>IspNWantX a vs H E
theorem ok_Net_wantX (T:TX K mg a):MtB P w K mg base (CX1 P w) a.Net "want" 3 ["self","place"] (spNWantX a):=by
 refine T.m_Net_want.okX sc_Net_want (fun vs H Q E h=>?_) (fun f cdv A outer s H vs Q E hr h=>?_)
 ·obtain ⟨_,_,_,_,rfl,_⟩:=h
  rfl
 ·obtain ⟨p,ps,ds,n,rfl,⟨dx,dw,dy,hp,⟨kvs,h1,h2,h3⟩,hy⟩,hn,ln,kb⟩:=h
  refine ⟨_,(ag (aG (gE (fT (aJ hr) (pv 1) (a8 (pv 0) rfl))) (ah (ps_raiseI xout1 rfl hr (by rfl) T.mg_NoPlace (xi_NoPlace T) (aa (pv 1) ae))) ay)
   (ah (aq (aQ (aJ hr) (a8 (pv 0) rfl) (pv 1) (fun _ _=>rfl))))),?_⟩
  try dsimp only [aM,Cx.nox,Cx.wish]
  refine ⟨_,rfl,_,rfl,p,_,dx,_,_,rfl,hp,T.cl_Net,T.na_Net_wants,fsN_w _ _,dw,_,rfl,DGet.k (k:=Sum.inr n) h1,_,rfl,?_⟩
  rw [gB (by
   rw [h2,show (fun z:Str × Rat=>(Sum.inr z.1:Key))=(fun n=>(Sum.inr n:Key)) ∘ (fun z:Str × Rat=>z.1) from rfl,← jz]
   exact fun z=>hn (inr_in.mp z))]
  refine iteT ?_
  refine ⟨_,rfl,?_⟩
  exact raise_np ln kb
noncomputable def iA (hi:Option Rat) (x:Rat):Bool:=decide (x<0) || (match hi with | none=>false | some h=>decide (h<x))
noncomputable def bndB (hi:Option Rat) (x:Rat):Rat:=if x<0 then 0 else hi.getD 0
theorem sgn_lt (x:Rat):sgn x<0↔x<0:=by
 unfold sgn
 have h:x<0↔x.num<0:=by rw [← Rat.not_le,← Rat.num_nonneg];omega
 rw [h]
 split
 ·constructor <;> intro <;> omega
 ·split
  ·constructor <;> intro <;> omega
  ·constructor <;> intro <;> omega
noncomputable def FtIs (H:Hp) (v:V) (e:Str × Str):Prop:=∃ t,v=.ref t∧H t=some (.tup [.str e.1,.str e.2])
theorem FtIs.mono {H H':Hp} {v:V} {e:Str × Str} (h:FtIs H v e) (s:Same H H'):FtIs H' v e:=by
 obtain ⟨t,x,y⟩:=h
 exact ⟨t,x,s _ _ y⟩
theorem FtIs.lst {H:Hp} {l:Addr} {xs:List V} {o:HO} (hl:H l=some (.lst xs)) {v:V} {e:Str × Str} (h:FtIs H v e):FtIs (upd H l o) v e:=let ⟨t,x,y⟩:=h;⟨t,x,by rw [aj (bh y hl (by intro z;cases z))];exact y⟩
inductive IspBP (a:Ad) (vs:List V) (H:Hp) (Q:VK):Prop
 | mk (v:V) (q:Addr) (d:WD) (x:Rat) (h1:vs=[v,.ref q]) (h2:WayIs a H v d) (h3:FrAt a.Fraction H q x) (h4:SmR x) (h5:(∀ h,d.hi=some h→SmR h)) (h6:(iA d.hi x=true→∀ r H',Same H H'→FrAt a.Fraction H' r (bndB d.hi x)→Q (.ref r) H')) (h7:(iA d.hi x=false→Q .non H)):IspBP a vs H Q
noncomputable def spBP (a:Ad):Sp:=fun vs H Q _=>IspBP a vs H Q
theorem ok_bound_passed (T:TX K mg a):FnB P w K mg base CX0 "bound_passed" 4 ["way","part"] (spBP a):=by
 refine T.d_bound_passed.ok sc_bound_passed (fun vs H Q E h=>?_) (fun f cdv A outer s H vs Q E hr h=>?_)
 ·obtain ⟨_,_,_,_,rfl,_⟩:=h
  rfl
 ·obtain ⟨v,q,d,x,rfl,hw,hq,sx,sh,k1,k2⟩:=h
  refine ⟨_,(ag (aG (aw ft (eX T.fr (pv 1) (eZ T) hr ak) ac (az _)) (ah (aq (bT (mk1 T) hr T.mg_Fraction ak (aa ac ae)))) ay)
   (ag (aG (PW.pt (gD (aw dF (a8 (pv 0) rfl) b8 (az _)) (gf (cU (cW T.fr (a8 (pv 0) rfl) (ok_under T) hr ak (aa (pv 1) ae)))))) (ah (aq (a8 (pv 0) rfl))) ay)
   (ah (aq b8)))),?_⟩
  try dsimp only [aM,Cx.nox,Cx.wish]
  obtain ⟨p,vh,vc,qx,rfl,W,hk,_,hh⟩:=hw
  obtain ⟨dx,fs,ho,h5,_⟩:=id W.ob
  have c:=dL T d.kd
  refine ⟨_,rfl,q,x,rfl,hq,q,x,rfl,hq,_,_,rfl,rfl,_,rfl,ifB (fun h1=>?_) (fun h1=>?_)⟩
  ·have hx:=(sgn_lt x).mp h1
   refine ⟨0,1,rfl,by decide,sm1,fun r H' nr s' fr=>?_⟩
   rw [Rat.zero_divInt] at fr
   refine k1 (by unfold iA;rw [iW hx];rfl) r H' s' ?_
   unfold bndB
   rw [if_pos hx]
   exact fr
  ·have hx:¬ x<0:=fun z=>h1 ((sgn_lt x).mpr z)
   have o1:iA d.hi x=(match d.hi with | none=>false | some h=>decide (h<x)):=by unfold iA;rw [iX hx];rfl
   have o2:bndB d.hi x=d.hi.getD 0:=by unfold bndB;rw [if_neg hx]
   rw [o1] at k1 k2
   rw [o2] at k1
   cases e:d.hi with
   | none=>
    rw [e] at hh k2
    obtain rfl:vh=.non:=hh
    refine ⟨_,rfl,p,_,dx,fs,_,rfl,ho,c.cl,c.n4,h5.hi,rfl,_,rfl,iteF ?_⟩
    exact k2 rfl
   | some h=>
    rw [e] at hh k1 k2
    obtain ⟨qh,rfl,fh⟩:=hh
    refine ⟨_,rfl,p,_,dx,fs,_,rfl,ho,c.cl,c.n4,h5.hi,rfl,_,rfl,iteT ?_⟩
    refine ⟨_,rfl,p,_,dx,fs,_,rfl,ho,c.cl,c.n4,h5.hi,qh,_,rfl,fh,_,rfl,qh,q,_,_,rfl,fh,hq,sh h e,sx,_,rfl,?_⟩
    by_cases hlt:h<x
    ·refine gW (iW hlt) ?_
     exact ⟨_,rfl,p,_,dx,fs,_,rfl,ho,c.cl,c.n4,h5.hi,k1 (iW hlt) qh H (Same.refl _) fh⟩
    ·refine eQ (iX hlt) ?_
     exact k2 (iX hlt)
noncomputable def bX (ds:List WD) (ks:List Str):List Str:=ks.filter (fun n=>decide (¬ n∈ds.map (·.nm)))
noncomputable def OwnIs (_:Hp) (v:V) (_:Unit):Prop:=v=.bl true
inductive IspONames (a:Ad) (vs:List V) (H:Hp) (Q:VK):Prop
 | mk (p d:Addr) (ps:List (Str × Rat)) (ds:List WD) (kvs:List (Key × V)) (ks:List Str) (f:Str→Rat) (h1:vs=[.ref p,.ref d]) (h2:NetOff a H p d ps ds) (h3:(ds.map (·.nm)).Nodup) (h4:ds.length≤100) (h5:H d=some (.dK kvs)) (h6:Tab (FrIs a) H kvs ks f) (h7:ks.Nodup) (h8:ks.length≤100) (h9:∀ l H',H l=none→Same H H'→H' l=some (.lst ((bX ds ks).map V.str))→Q (.ref l) H'):IspONames a vs H Q
noncomputable def spONames (a:Ad):Sp:=fun vs H Q _=>IspONames a vs H Q
theorem ok_other_names (T:TX K mg a):FnB P w K mg base CX0 "other_names" 2 ["net","plan"] (spONames a):=by
 refine T.d_other_names.ok sc_other_names (fun vs H Q E h=>?_) (fun f cdv A outer s H vs Q E hr h=>?_)
 ·obtain ⟨_,_,_,_,_,_,_,rfl,_⟩:=h
  rfl
 ·obtain ⟨p,d,ps,ds,kvs,ks,f,rfl,hn,nd,ld,hd,tb,ndk,lk,k⟩:=h
  refine ⟨_,(ag (ar (i:=2) sc_other_names.nd rfl (Or.inr rfl) dE)
   (aP (a9 i7 rfl (aX (eD (CX:=CX0) (pv 0) hr ak)) (ax (i:=3) sc_other_names.nd rfl (Or.inl rfl)) (ah (bv (aJ hr) (pv 2) (a8 (pv 3) rfl) b9 rfl)))
   (ah (aq (pe_thaw (fS (xs:=["name"]) (rest:=["own"]) rfl (fE (pv 1))
   (fun pins fp C' s' H'=>(ax (i:=0) (show (["name","own"]:List Str).Nodup by decide +kernel) rfl (Or.inl rfl))) (fun pins fp C' s' H'=>(pts_one (gE (fT (aJ hr) (pv 0) (pv 1)))))
   (fun pins fp C' s' H'=>(pv 0))
   (Clos.many (ys:=["own"]) rfl ⟨rfl,True.intro⟩ rfl (by decide +kernel)) (Reads.many (ys:=["own"]) (js:=[2]) ⟨⟨rfl,rfl,rfl⟩,True.intro⟩))))))),?_⟩
  try dsimp only [aM,Cx.nox,Cx.wish]
  intro r nr
  have s0:Same H (upd H r (.dK [])):=ai nr
  have hr0:upd H r (.dK []) r=some (.dK []):=ad
  generalize upd H r (.dK [])=H0 at s0 hr0 ⊢
  refine ⟨fun σ' H'=>∃ z3 kvr,σ'=[some (.ref p),some (.ref d),some (.ref r),z3]∧Same H H'∧H' r=some (.dK kvr)∧Tab OwnIs H' kvr (ds.map (·.nm)) (fun _=>()),?_,?_⟩
  ·obtain ⟨dx,dw,dy,hp,hw,hy⟩:=(hn.mono s0).at_
   refine ⟨_,rfl,p,a.Net,dx,_,1,["self"],spNAll a,rfl,hp,dI _ _ (by decide +kernel) (by decide +kernel),T.cl_Net,by decide,cn T,p,ps,ds,rfl,⟨dx,dw,dy,hp,hw,hy⟩,fun l H1 ts nl s1 hl hv=>?_⟩
   refine ⟨l,rfl,⟨_,SqL.of hl⟩,bn (K:=K) (a:=l) (xs:=ts) (fun i σ H2=>i≤ds.length∧∃ z3 kvr,σ=[some (.ref p),some (.ref d),some (.ref r),z3]∧Same H H2∧KeepD H1 H2∧H2 r=some (.dK kvr)∧Tab OwnIs H2 kvr ((ds.map (·.nm)).take i) (fun _=>()))
    ⟨iY _,_,[],rfl,s0.trans s1,.of (Same.refl _),s1 _ _ hr0,Tab.nil⟩ (fun i σ H2 _ ⟨_,_,_,_,_,kp,_⟩=>SqL.of (kp _ _ hl (by intro _ z;cases z) (by intro _ _ z;cases z))) ?_ ?_⟩
   ·rintro i t σ H2 ht ⟨_,z3,kvr,rfl,s2,kp,hr2,tr⟩
    obtain ⟨y,ey,wy⟩:=hv.get ht
    have hi:=(iL.mp ey).1
    have en:(ds.map (·.nm))[i]?=some y.nm:=by rw [i4,ey];rfl
    obtain ⟨tk,nk⟩:=fM nd en
    have wy2:WayIs a H2 t y:=wy.keep fun b C dx fs _ e=>kp _ _ e (by intro _ z;cases z) (by intro _ _ z;cases z)
    obtain ⟨p1,vh,vc,q1,rfl,W,hk⟩:=wy2
    obtain ⟨dx1,fs1,ho,h5,_⟩:=id W.ob
    have c:=dL T y.kd
    have lkr:kvr.length≤100:=by rw [tr.len,i6,iM];omega
    refine ⟨_,rfl,_,rfl,p1,_,dx1,fs1,_,rfl,ho,c.cl,c.n1,h5.nm,r,_,rfl,DPut.k (k:=Sum.inr y.nm) hr2 (aE (by omega)),?_⟩
    refine ⟨hi,_,_,rfl,aH nr s2,kp.trans (KeepD.put hr2),ad,?_⟩
    rw [tk,← f9 nk]
    exact (Tab.put (n:=y.nm) (y:=()) (v:=.bl true) (tr.mono (H':=upd H2 r (.dK (bg kvr (Sum.inr y.nm) (.bl true)))) fun v x z=>z) rfl).congr fun m _=>rfl
   ·rintro σ H2 ⟨_,z3,kvr,rfl,s2,kp,hr2,tr⟩
    rw [hv.1,show ds.length=(ds.map (·.nm)).length by rw [iM],iS] at tr
    exact ⟨_,kvr,rfl,s2,hr2,tr⟩
  rintro σ' H1 ⟨z3,kvr,rfl,s1,hr1,tr⟩
  have hd1:=s1 _ _ hd
  have tb1:=tb.mono fun v x z=>FrIs.mono z s1
  refine ⟨d,.dK kvs,hd1,(by intro o z e;cases e),_,rfl,d,kvs,rfl,hd1,fun o l nl=>?_⟩
  have ndl:d≠l:=fun z=>by rw [z,ad] at nl;cases nl
  have nl':H1 l=none:=by rw [aj ndl.symm] at nl;exact nl
  have ndr:r≠d:=fun z=>by rw [z,hd] at nr;cases nr
  refine compG_dict (a:=d) (o:=o) (kvs:=kvs) (fun i H2=>i≤ks.length∧H2 d=some (.frz o (.dK kvs))∧(∀ b ob,H1 b=some ob→b≠d→H2 b=some ob)∧H2 l=some (.lst ((bX ds (ks.take i)).map V.str)))
   ⟨iY _,by rw [aj ndl,ad],(fun b ob e ne=>by rw [aj (aB e nl'),aj ne];exact e),ad⟩ (fun i H2 ⟨_,h,_⟩=>h) ?_ ?_
  ·rintro i kv H2 hkv ⟨_,hf,k2,hl2⟩
   obtain ⟨n,en,e1,ev,_⟩:=tb1.at_ ndk hkv
   have hi:i<ks.length:=(iL.mp en).1
   have ekv:kV kv.1=.str n:=by rw [e1];rfl
   rw [ekv]
   have hr2:=k2 _ _ hr1 ndr
   have tk:bX ds (ks.take (i+1))=bX ds (ks.take i)++[n].filter (fun n=>decide (¬ n∈ds.map (·.nm))):=by
    unfold bX
    rw [iU,en,iV,List.filter_append]
   have ll:(bX ds (ks.take i)).length≤100:=by
    unfold bX
    exact i3 (jC _ _) (by rw [i6];omega)
   refine g1 ⟨⟨[_],rfl,rfl⟩,?_⟩
   refine ⟨_,rfl,_,rfl,r,_,rfl,DGet.k (k:=Sum.inr n) hr2,_,rfl,?_⟩
   by_cases hin:n∈ds.map (·.nm)
   ·obtain ⟨v,ev',_⟩:=tr.vals n hin
    rw [ev']
    refine iteF ?_
    refine dN (by rw [tb1.len];exact hi) ⟨hi,hf,k2,?_⟩
    rw [tk,jO (by simpa using hin),List.filter_nil,j8]
    exact hl2
   ·rw [tr.none hin]
    refine iteT ?_
    refine ⟨_,rfl,_,hl2,aE (by rw [iM];omega),dN (by rw [tb1.len];exact hi) ⟨hi,by rw [aj ndl];exact hf,(fun b ob e ne=>by rw [aj (aB e nl')];exact k2 _ _ e ne),?_⟩⟩
    rw [ad,tk,i5,jP (by simpa using hin)]
    rfl
  ·rintro H2 ⟨_,hf,k2,hl2⟩
   rw [tb1.len,iS] at hl2
   refine ⟨o,hf,?_⟩
   have s2:Same H1 (upd H2 d (.dK kvs)):=fun b ob e=>by
    by_cases hb:b=d
    ·subst hb
     rw [ad,← hd1,e]
    ·rw [aj hb]
     exact k2 _ _ e hb
   exact k l _ (s1.free nl') (s1.trans s2) (by rw [aj ndl.symm];exact hl2)
noncomputable def dM (A:Str→Rat) (ds:List WD):List (Str × Str):=(ds.filter fun y=>iA y.hi (A y.nm)).map fun y=>("bound",y.nm)
noncomputable def eW (F:Str→Rat) (ps:List (Str × Rat)):List (Str × Str):=(ps.filter fun z=>decide (F z.1<z.2)).map fun z=>("place",z.1)
noncomputable def dJ (ks:List Str) (A:Str→Rat) (ps:List (Str × Rat)) (ds:List WD):List (Str × Str):=(bX ds ks).map (fun n=>(("way":Str),n))++dM A ds++eW (eI A ds) ps
theorem iJ (A:Str→Rat) (ds:List WD) (y:WD):dM A (ds++[y])=dM A ds++(if iA y.hi (A y.nm)=true then [(("bound":Str),y.nm)] else []):=by
 unfold dM
 rw [List.filter_append,i5]
 congr 1
 split
 ·rename_i h
  rw [jP (by simpa using h)]
  rfl
 ·rename_i h
  rw [jO (by simpa using h)]
  rfl
theorem ix (F:Str→Rat) (ps:List (Str × Rat)) (z:Str × Rat):eW F (ps++[z])=eW F ps++(if F z.1<z.2 then [(("place":Str),z.1)] else []):=by
 unfold eW
 rw [List.filter_append,i5]
 congr 1
 split
 ·rename_i h
  rw [jP (by simpa using h)]
  rfl
 ·rename_i h
  rw [jO (by simpa using h)]
  rfl
theorem gM (A:Str→Rat) (ds:List WD):(dM A ds).length≤ds.length:=by
 unfold dM
 rw [iM]
 exact jC _ _
theorem placesF_len (F:Str→Rat) (ps:List (Str × Rat)):(eW F ps).length≤ps.length:=by
 unfold eW
 rw [iM]
 exact jC _ _
structure FltOk (a:Ad) (H:Hp) (p d:Addr) (ps:List (Str × Rat)) (ds:List WD) (kvs:List (Key × V)) (ks:List Str) (f:Str→Rat):Prop where
 net:NetOff a H p d ps ds
 nd:(ds.map (·.nm)).Nodup
 ld:ds.length≤100
 hd:H d=some (.dK kvs)
 tb:Tab (FrIs a) H kvs ks f
 nk:ks.Nodup
 lk:ks.length≤100
 lp:ps.length≤100
 so:SumOk (bI ks f) ps ds
 hi:∀ y∈ds,∀ h,y.hi=some h→SmR h
 wa:∀ z∈ps,SmR z.2
theorem FltOk.mono {H H':Hp} {p d:Addr} {ps:List (Str × Rat)} {ds:List WD} {kvs:List (Key × V)} {ks:List Str} {f:Str→Rat} (h:FltOk a H p d ps ds kvs ks f) (s:Same H H'):FltOk a H' p d ps ds kvs ks f:=
 ⟨h.net.mono s,h.nd,h.ld,s _ _ h.hd,h.tb.mono fun v x z=>FrIs.mono z s,h.nk,h.lk,h.lp,h.so,h.hi,h.wa⟩
inductive IspFaults (a:Ad) (vs:List V) (H:Hp) (Q:VK):Prop
 | mk (p d:Addr) (ps:List (Str × Rat)) (ds:List WD) (kvs:List (Key × V)) (ks:List Str) (f:Str→Rat) (h1:vs=[.ref p,.ref d]) (h2:FltOk a H p d ps ds kvs ks f) (h3:∀ l H' ts,H l=none→Same H H'→H' l=some (.lst ts)→RowAt FtIs H' ts (dJ ks (bI ks f) ps ds)→Q (.ref l) H'):IspFaults a vs H Q
noncomputable def spFaults (a:Ad):Sp:=fun vs H Q _=>IspFaults a vs H Q
theorem ok_faults (T:TX K mg a):FnB P w K mg base CX0 "faults" 10 ["net","plan"] (spFaults a):=by
 refine T.d_faults.ok sc_faults (fun vs H Q E h=>?_) (fun f cdv A outer s H vs Q E hr h=>?_)
 ·obtain ⟨_,_,_,_,_,_,_,rfl,_⟩:=h
  rfl
 ·obtain ⟨p,d,ps,ds,kvs,ks,f,rfl,ok,k⟩:=h
  generalize eA:bI ks f=A at k
  have so:=ok.so
  rw [eA] at so
  have ld:=ok.ld
  have lk:=ok.lk
  have lp:=ok.lp
  refine ⟨_,(aP (dD (i:=2) (xs:=["name"]) (rest:=[]) sc_faults.nd rfl rfl rfl (aX (av (ok_other_names T) hr ak (aa (pv 0) (aa (pv 1) ae))))
   (fun pins fp C' s' H'=>(ax (i:=0) (show (["name"]:List Str).Nodup by decide +kernel) rfl (Or.inl rfl))) (fun pins fp C' s' H'=>cY)
   (fun pins fp C' s' H'=>(aF (aa ek (aa (pv 0) ae))))
   (Clos.none (by decide +kernel) (by decide +kernel)) (Reads.many (ys:=[]) (js:=[]) True.intro))
   (aP (a9 i7 rfl (aX (eD (CX:=CX0) (pv 0) hr ak)) (ax (i:=3) sc_faults.nd rfl (Or.inl rfl)) (ah (aG (aw dF (av (ok_bound_passed T) hr ak (aa (pv 3) (aa (av (fk T) hr ak (aa (pv 1) (aa (a8 (pv 3) rfl) ae))) ae))) b8 (az _)) (ah (cE (pe_bm PySem.F.plainAttrs_list PySem.F.slot_list_append PySem.F.type_list_append fV (pv 2) (aa (aF (aa ek (aa (a8 (pv 3) rfl) ae))) ae)))) ay)))
   (ag (ar (i:=4) sc_faults.nd rfl (Or.inl rfl) (av (eR T) hr ak (aa (pv 0) (aa (pv 1) ae))))
   (ag (a9 i7 rfl (aX (eD (CX:=CX0) (pv 0) hr ak)) (ax (i:=5) sc_faults.nd rfl (Or.inl rfl)) (ah (aG (cU (cW T.fr (aQ (aJ hr) (pv 4) (pv 5) (fun _ _=>rfl)) (ok_under T) hr ak (aa (hU (CX:=CX0) (pv 0) hr ak (aa (pv 5) ae)) ae))) (ah (cE (pe_bm PySem.F.plainAttrs_list PySem.F.slot_list_append PySem.F.type_list_append fV (pv 2) (aa (aF (aa ek (aa (pv 5) ae))) ae)))) ay)))
   (ah (aq (pv 2))))))),?_⟩
  try dsimp only [aM,Cx.nox,Cx.wish]
  have lo:(bX ds ks).length≤100:=by
   unfold bX
   exact i3 (jC _ _) lk
  refine ⟨fun σ' H'=>∃ l ts,σ'=[some (.ref p),some (.ref d),some (.ref l),none,none,none]∧H l=none∧Same H H'∧H' l=some (.lst ts)∧RowAt FtIs H' ts ((bX ds ks).map (fun n=>(("way":Str),n))),?_,?_⟩
  ·refine ⟨_,rfl,_,rfl,p,d,ps,ds,kvs,ks,f,rfl,ok.net,ok.nd,ld,ok.hd,ok.tb,ok.nk,lk,fun lo1 H1 nlo s1 hlo=>?_⟩
   refine ⟨lo1,rfl,⟨_,SqL.of hlo⟩,fun l nl=>?_⟩
   refine cZ (K:=K) (a:=lo1) (xs:=(bX ds ks).map V.str) (fun i H2=>i≤(bX ds ks).length∧Same H1 H2∧∃ ts,H2 l=some (.lst ts)∧RowAt FtIs H2 ts (((bX ds ks).take i).map (fun n=>(("way":Str),n)))) ⟨iY _,ai nl,[],ad,RowAt.nil⟩ (fun i H2 ⟨_,s2,_⟩=>SqL.of (s2 _ _ hlo)) ?_ ?_
   ·rintro i x H2 hx ⟨_,s2,ts,h2,hv⟩
    rw [i4] at hx
    cases ex:(bX ds ks)[i]? with
    | none=>rw [ex] at hx;cases hx
    | some n=>
     rw [ex] at hx
     cases hx
     have hi:=(iL.mp ex).1
     refine g1 ⟨⟨[_],rfl,rfl⟩,yes ?_⟩
     refine ⟨_,rfl,by show 2≤sizeLine;decide,fun t nt=>?_⟩
     have s3:=ai (o:=.tup [.str "way",.str n]) nt
     have ht:upd H2 t (.tup [.str "way",.str n]) t=some (.tup [.str "way",.str n]):=ad
     generalize upd H2 t (.tup [.str "way",.str n])=H3 at s3 ht ⊢
     have h3:=s3 _ _ h2
     have lts:ts.length=i:=by rw [hv.1,iM,i6];omega
     refine ⟨_,h3,aE (by omega),dN (by rw [iM];exact hi) ⟨hi,aH nl (s2.trans s3),_,ad,?_⟩⟩
     rw [iU,ex,iV,i5]
     exact RowAt.snoc (hv.mono fun v x z=>(z.mono s3).lst h3) (FtIs.lst h3 ⟨t,rfl,ht⟩)
   ·rintro H2 ⟨_,s2,ts,h2,hv⟩
    rw [iM,iS] at hv
    exact ⟨l,ts,rfl,s1.free nl,s1.trans s2,h2,hv⟩
  rintro σ' H1 ⟨l,ts1,rfl,nl,s1,hl1,hv1⟩
  have lt1:ts1.length≤100:=by rw [hv1.1,iM];exact lo
  refine ⟨fun σ' H'=>∃ ts z3,σ'=[some (.ref p),some (.ref d),some (.ref l),z3,none,none]∧Same H H'∧H' l=some (.lst ts)∧RowAt FtIs H' ts ((bX ds ks).map (fun n=>(("way":Str),n))++dM A ds),?_,?_⟩
  ·obtain ⟨dx,dw,dy,hp,hw,hy⟩:=(ok.net.mono s1).at_
   refine ⟨_,rfl,p,a.Net,dx,_,1,["self"],spNAll a,rfl,hp,dI _ _ (by decide +kernel) (by decide +kernel),T.cl_Net,by decide,cn T,p,ps,ds,rfl,⟨dx,dw,dy,hp,hw,hy⟩,fun lw H2 tw nlw s2 hlw hw2=>?_⟩
   have s12:=s1.trans s2
   refine ⟨lw,rfl,⟨_,SqL.of hlw⟩,bn (K:=K) (a:=lw) (xs:=tw) (fun i σ H3=>i≤ds.length∧∃ ts z3,σ=[some (.ref p),some (.ref d),some (.ref l),z3,none,none]∧Same H H3∧(∀ b u,H2 b=some u→b≠l→H3 b=some u)∧H3 l=some (.lst ts)∧RowAt FtIs H3 ts ((bX ds ks).map (fun n=>(("way":Str),n))++dM A (ds.take i)))
    ⟨iY _,ts1,_,rfl,s12,(fun _ _ e _=>e),s2 _ _ hl1,by rw [List.take_zero,show dM A []=[] from rfl,j8];exact hv1.mono fun v x z=>z.mono s2⟩ (fun i σ H3 _ ⟨_,_,_,_,_,kb,_⟩=>SqL.of (kb _ _ hlw (fun z=>by rw [z,hl1] at nlw;cases nlw))) ?_ ?_⟩
   ·rintro i t σ H3 ht ⟨_,ts,z3,rfl,s3,kb,hl3,hv3⟩
    obtain ⟨y,ey,wy⟩:=hw2.get ht
    have hi:=(iL.mp ey).1
    have my:=iR ey
    have wy3:WayIs a H3 t y:=wy.keep fun b C dx fs _ e=>kb _ _ e (fun z=>by rw [z,s2 _ _ hl1] at e;cases e)
    have wyo:=id wy3
    obtain ⟨p1,vh,vc,q1,rfl,W,hk⟩:=wy3
    obtain ⟨dx1,fs1,ho,h5,_⟩:=id W.ob
    have c:=dL T y.kd
    have tk:ds.take (i+1)=ds.take i++[y]:=by rw [iU,ey];rfl
    have lts:ts.length≤200:=by
     have:=gM A (ds.take i)
     rw [i6] at this
     rw [hv3.1,jd,iM]
     omega
    refine ⟨_,rfl,_,rfl,_,rfl,p1,_,dx1,fs1,_,rfl,ho,c.cl,c.n1,h5.nm,d,kvs,ks,f,y.nm,rfl,.inl (s3 _ _ ok.hd),ok.tb.mono (fun v x z=>FrIs.mono z s3),fun q H4 s4 f4=>?_⟩
    rw [eA] at f4
    refine ⟨_,q,y,A y.nm,rfl,wyo.mono s4,f4,(so.sa y my).1,ok.hi y my,fun hov r H5 s5 fr=>?_,fun hov=>?_⟩
    ·refine ⟨rfl,_,rfl,iteT ?_⟩
     have s45:=s4.trans s5
     have hl5:=s45 _ _ hl3
     refine ⟨_,rfl,.inl ⟨rfl,_,SqL.of hl5⟩,_,rfl,p1,_,dx1,fs1,_,rfl,s45 _ _ ho,c.cl,c.n1,h5.nm,by show 2≤sizeLine;decide,fun u nu=>?_⟩
     have s6:=ai (o:=.tup [.str "bound",.str y.nm]) nu
     have hu:upd H5 u (.tup [.str "bound",.str y.nm]) u=some (.tup [.str "bound",.str y.nm]):=ad
     generalize upd H5 u (.tup [.str "bound",.str y.nm])=H6 at s6 hu ⊢
     have s36:=s45.trans s6
     have hl6:=s36 _ _ hl3
     refine ⟨l,_,_,rfl,rfl,hl6,aE (by omega),?_⟩
     refine ⟨hi,_,_,rfl,aH nl (s3.trans s36),(fun b w e ne=>by rw [aj ne];exact s36 _ _ (kb _ _ e ne)),ad,?_⟩
     rw [tk,iJ,if_pos hov,← List.append_assoc]
     exact RowAt.snoc (hv3.mono fun v x z=>(z.mono s36).lst hl6) (FtIs.lst hl6 ⟨u,rfl,hu⟩)
    ·refine ⟨rfl,_,rfl,iteF ?_⟩
     refine ⟨hi,ts,_,rfl,s3.trans s4,(fun b w e ne=>s4 _ _ (kb _ _ e ne)),s4 _ _ hl3,?_⟩
     rw [tk,iJ,if_neg (by rw [hov];decide),j8]
     exact hv3.mono fun v x z=>z.mono s4
   ·rintro σ H3 ⟨_,ts,z3,rfl,s3,kb,hl3,hv3⟩
    rw [hw2.1,iS] at hv3
    exact ⟨ts,_,rfl,s3,hl3,hv3⟩
  rintro σ' H2 ⟨ts2,z3,rfl,s2,hl2,hv2⟩
  have lt2:ts2.length≤200:=by
   have:=gM A ds
   rw [hv2.1,jd,iM]
   omega
  refine ⟨_,rfl,_,rfl,p,d,ps,ds,kvs,ks,f,rfl,(ok.net.mono s2).at_,s2 _ _ ok.hd,ok.tb.mono (fun v x z=>FrIs.mono z s2),ok.so,fun r H3 kvr nr s3 hr3 tr=>?_⟩
  rw [eA] at tr
  have s23:=s2.trans s3
  have hl3:=s3 _ _ hl2
  obtain ⟨dx,dw,dy,hp,hw,hy⟩:=(ok.net.mono s23).at_
  refine ⟨_,rfl,p,a.Net,dx,_,1,["self"],ik a,rfl,hp,dI _ _ (by decide +kernel) (by decide +kernel),T.cl_Net,by decide,gm T,p,ps,ds,rfl,⟨dx,dw,dy,hp,hw,hy⟩,fun ln nln=>?_⟩
  have s4:=ai (o:=.lst (ps.map fun x=>V.str x.1)) nln
  have hln:upd H3 ln (.lst (ps.map fun x=>V.str x.1)) ln=some (.lst (ps.map fun x=>V.str x.1)):=ad
  generalize upd H3 ln (.lst (ps.map fun x=>V.str x.1))=H4 at s4 hln ⊢
  have lnl:ln≠l:=fun z=>by rw [z,hl3] at nln;cases nln
  have rl:r≠l:=fun z=>by rw [z,hl2] at nr;cases nr
  have hl4:=s4 _ _ hl3
  have hr4:=s4 _ _ hr3
  have tr4:=tr.mono fun v x z=>FrIs.mono z s4
  refine ⟨ln,rfl,⟨_,SqL.of hln⟩,bn (K:=K) (a:=ln) (xs:=ps.map fun x=>V.str x.1) (fun i σ H5=>i≤ps.length∧∃ ts z5,σ=[some (.ref p),some (.ref d),some (.ref l),z3,some (.ref r),z5]∧Same H H5∧(∀ b u,H4 b=some u→b≠l→H5 b=some u)∧H5 l=some (.lst ts)∧RowAt FtIs H5 ts ((bX ds ks).map (fun n=>(("way":Str),n))++dM A ds++eW (eI A ds) (ps.take i)))
   ⟨iY _,ts2,_,rfl,s23.trans s4,(fun _ _ e _=>e),hl4,by rw [List.take_zero,show eW (eI A ds) []=[] from rfl,j8];exact hv2.mono fun v x z=>(z.mono s3).mono s4⟩ (fun i σ H5 _ ⟨_,_,_,_,_,kb,_⟩=>SqL.of (kb _ _ hln lnl)) ?_ ?_⟩
  ·rintro i t σ H5 ht ⟨_,ts,z5,rfl,s5,kb,hl5,hv5⟩
   rw [i4] at ht
   cases ex:ps[i]? with
   | none=>rw [ex] at ht;cases ht
   | some x=>
    rw [ex] at ht
    cases ht
    have hi:=(iL.mp ex).1
    have mx:=iR ex
    have tk:ps.take (i+1)=ps.take i++[x]:=by rw [iU,ex];rfl
    have lts:ts.length≤300:=by
     have:=gM A ds
     have:=placesF_len (eI A ds) (ps.take i)
     rw [i6] at this
     rw [hv5.1,jd,jd,iM]
     omega
    obtain ⟨v,ev,x',rfl,fx⟩:=tr4.vals x.1 (iZ.mpr ⟨x,mx,rfl⟩)
    have hr5:=kb _ _ hr4 rl
    have fx5:FrAt a.Fraction H5 x' (eI A ds x.1):=by
     obtain ⟨dq,g⟩:=fx
     exact ⟨dq,kb _ _ g (fun z=>by rw [z,hl4] at g;cases g)⟩
    obtain ⟨dx5,dw5,dy5,hp5,hw5,hy5⟩:=(ok.net.mono s5).at_
    have sf:SmR (eI A ds x.1):=by
     have:=so.sf ds.length x.1
     rwa [iS] at this
    refine ⟨_,rfl,_,rfl,r,.ref x',rfl,.inl ⟨kvr,Sum.inr x.1,.inl hr5,rfl,ev.symm⟩,x',_,rfl,fx5,_,rfl,p,a.Net,dx5,_,1,["self","place"],spNWant a,rfl,hp5,dI _ _ (by decide +kernel) (by decide +kernel),T.cl_Net,by decide,gI T,_,rfl,p,ps,ds,i,x.1,x.2,rfl,⟨dx5,dw5,dy5,hp5,hw5,hy5⟩,so.np,ex,fun q fq=>?_⟩
    refine ⟨x',q,_,_,rfl,fx5,fq,sf,ok.wa x mx,_,rfl,?_⟩
    by_cases hlt:eI A ds x.1<x.2
    ·refine gW (iW hlt) ?_
     refine ⟨_,rfl,.inl ⟨rfl,_,SqL.of hl5⟩,_,rfl,by show 2≤sizeLine;decide,fun u nu=>?_⟩
     have s6:=ai (o:=.tup [.str "place",.str x.1]) nu
     have hu:upd H5 u (.tup [.str "place",.str x.1]) u=some (.tup [.str "place",.str x.1]):=ad
     generalize upd H5 u (.tup [.str "place",.str x.1])=H6 at s6 hu ⊢
     have hl6:=s6 _ _ hl5
     refine ⟨l,_,_,rfl,rfl,hl6,aE (by omega),?_⟩
     refine ⟨hi,_,_,rfl,aH nl (s5.trans s6),(fun b w e ne=>by rw [aj ne];exact s6 _ _ (kb _ _ e ne)),ad,?_⟩
     rw [tk,ix,if_pos hlt,← List.append_assoc]
     exact RowAt.snoc (hv5.mono fun v x z=>(z.mono s6).lst hl6) (FtIs.lst hl6 ⟨u,rfl,hu⟩)
    ·refine eQ (iX hlt) ?_
     refine ⟨hi,ts,_,rfl,s5,kb,hl5,?_⟩
     rw [tk,ix,if_neg hlt,j8]
     exact hv5
  ·rintro σ H5 ⟨_,ts,z5,rfl,s5,kb,hl5,hv5⟩
   rw [iM,iS] at hv5
   exact ⟨_,rfl,k l H5 ts nl s5 hl5 hv5⟩
theorem e9 (x:Str):∀ ts:List Str,inV (.str x) (ts.map V.str)=decide (x∈ts)
 | []=>rfl
 | t::ts=>by
  have ih:=e9 x ts
  unfold inV at ih ⊢
  rw [jv,List.any_cons,ih,eqV_str,Bool.eq_iff_iff]
  rw [Bool.or_eq_true,decide_eq_true_iff,decide_eq_true_iff,decide_eq_true_iff,ja]
  exact ⟨fun h=>h.imp Eq.symm id,fun h=>h.imp Eq.symm id⟩
theorem sgnL {x:Rat}:sgn x<0↔x.num<0:=by
 unfold sgn
 split
 ·omega
 ·split <;> omega
theorem sgn_gt {x:Rat}:sgn x > 0↔0<x.num:=by
 unfold sgn
 split
 ·omega
 ·split <;> omega
theorem b3 {H H2:Hp} {d:Addr} {o:HO} (hd:H d=some o) (k2:∀ b ob,H b=some ob→b≠d→H2 b=some ob):Same H (upd H2 d o):=fun b ob e=>by
 by_cases hb:b=d
 ·subst hb
  rw [ad,← hd,e]
 ·rw [aj hb]
  exact k2 _ _ e hb
noncomputable def gu (ks:List Str) (f:Str→Rat) (xs:List Str):Bool:=ks.all fun n=>decide (n∈xs) && decide (0≤(f n).num)
theorem fitB_snoc (ks:List Str) (n:Str) (f:Str→Rat) (xs:List Str):gu (ks++[n]) f xs=(gu ks f xs && (decide (n∈xs) && decide (0≤(f n).num))):=by
 unfold gu
 rw [List.all_append]
 simp
theorem gU {ks:List Str} {n:Str} {f:Str→Rat} {xs:List Str} (hn:n∈ks) (h:¬ (n∈xs∧0≤(f n).num)):gu ks f xs=false:=by
 unfold gu
 rw [List.all_eq_false]
 refine ⟨n,hn,fun z=>h ?_⟩
 rw [j4] at z
 exact ⟨jG z.1,jG z.2⟩
inductive IspFit (a:Ad) (vs:List V) (H:Hp) (Q:VK):Prop
 | mk (d l:Addr) (kvs:List (Key × V)) (ks xs:List Str) (f:Str→Rat) (h1:vs=[.ref d,.ref l]) (h2:H d=some (.dK kvs)) (h3:Tab (FrIs a) H kvs ks f) (h4:ks.Nodup) (h5:H l=some (.lst (xs.map V.str))) (h6:∀ H',Same H H'→Q (.bl (gu ks f xs)) H'):IspFit a vs H Q
noncomputable def spFit (K:PySem.W.Frag) (a:Ad):Sp:=fun vs H Q _=>IspFit a vs H Q
theorem ok_are_fit (T:TX K mg a):FnB P w K mg base CX0 "are_fit" 2 ["numbers","names"] (spFit K a):=by
 refine T.d_are_fit.ok sc_are_fit (fun vs H Q E h=>?_) (fun f cdv A outer s H vs Q E hr h=>?_)
 ·obtain ⟨_,_,_,_,_,_,rfl,_⟩:=h
  rfl
 ·obtain ⟨d,l,kvs,ks,xs,f,rfl,hd,tb,nd,hl,k⟩:=h
  refine ⟨_,(ag (eV (a9 i7 rfl (pi_items (pv 0)) (eO rfl (aD (ax (i:=2) sc_are_fit.nd rfl (Or.inl rfl)) (aD (ax (i:=3) sc_are_fit.nd rfl (Or.inl rfl)) bZ))) (ah (aG (PW.pt (g7 (aw eY (pv 2) (pv 1) (by with_unfolding_all rfl)) (fL (aw ft (eX T.fr (pv 3) (eZ T) hr ak) ac (az _))))) (ah (aq b9)) ay))))
   (ah (aq b9))),?_⟩
  try dsimp only [aM,Cx.nox,Cx.wish]
  refine ⟨d,.dK kvs,hd,(by intro o z e;cases e),_,rfl,d,kvs,rfl,hd,fun o=>?_⟩
  refine for_items (a:=d) (o:=o) (kvs:=kvs) (fun i σ H2=>i≤ks.length∧∃ z2 z3,σ=[some (.ref d),some (.ref l),z2,z3]∧H2 d=some (.frz o (.dK kvs))∧(∀ b ob,H b=some ob→b≠d→H2 b=some ob)∧gu (ks.take i) f xs=true)
   ⟨iY _,none,none,rfl,ad,(fun b ob e ne=>by rw [aj ne];exact e),rfl⟩ (fun i σ H2 _ ⟨_,_,_,_,h,_⟩=>h) ?_ ?_
  ·rintro i kv t σ H2 hkv nt ⟨_,z2,z3,rfl,hf,k2,ih⟩
   obtain ⟨n,en,e1,ev,q,eq,fq⟩:=tb.at_ nd hkv
   have hi:i<ks.length:=(iL.mp en).1
   have mn:=iR en
   have ekv:kV kv.1=.str n:=by rw [e1];rfl
   rw [ekv,eq]
   have s3:=ai (o:=.tup [.str n,.ref q]) nt
   have ht:upd H2 t (.tup [.str n,.ref q]) t=some (.tup [.str n,.ref q]):=ad
   generalize upd H2 t (.tup [.str n,.ref q])=H3 at s3 ht ⊢
   have k3:∀ b ob,H b=some ob→b≠d→H3 b=some ob:=fun b ob e ne=>s3 _ _ (k2 b ob e ne)
   have hf3:=s3 _ _ hf
   have fq3:FrAt a.Fraction H3 q (f n):=by
    obtain ⟨dq,g⟩:=fq
    exact ⟨dq,k3 _ _ g (bh g hd (by intro z;cases z))⟩
   have hl3:=k3 _ _ hl (bh hl hd (by intro z;cases z))
   have back:=fun (e:gu ks f xs=false)=>(show ∃ o,H3 d=some (.frz o (.dK kvs))∧Q (.bl false) (upd H3 d (.dK kvs)) from ⟨o,hf3,by rw [← e];exact k _ (b3 hd k3)⟩)
   refine ⟨t,_,rfl,SqT.of ht,rfl,_,_,rfl,⟨_,_,rfl,⟨rfl,?_⟩⟩⟩
   refine ⟨_,rfl,_,rfl,l,_,rfl,.inl (SqL.of hl3),rfl,fo _,_,rfl,?_⟩
   by_cases m:n∈xs
   ·refine eQ (show (!inV _ _)=false by rw [e9,iW m];rfl) ?_
    refine ⟨_,rfl,q,_,rfl,fq3,q,_,rfl,fq3,_,_,rfl,rfl,_,rfl,ifB (fun lt=>?_) (fun ge=>?_)⟩
    ·have lt:=sgnL.mp lt
     exact back (gU mn fun z=>by omega)
    ·have ge:0≤(f n).num:=by
      have:¬ (f n).num<0:=fun z=>ge (sgnL.mpr z)
      omega
     refine ⟨hi,_,_,rfl,hf3,k3,?_⟩
     rw [iU,en,iV,fitB_snoc,ih,iW m,iW ge]
     rfl
   ·refine gW (show (!inV _ _)=true by rw [e9,iX m];rfl) ?_
    exact back (gU mn fun z=>m z.1)
  ·rintro σ H2 ⟨_,z2,z3,rfl,hf,k2,ih⟩
   rw [tb.len,iS] at ih
   refine ⟨o,hf,?_⟩
   rw [← ih]
   exact k _ (b3 hd k2)
noncomputable abbrev Rw:=List Str × (Str→Rat)
noncomputable def DA (a:Ad) (H:Hp) (d:Addr) (r:Rw):Prop:=∃ kvs,H d=some (.dK kvs)∧Tab (FrIs a) H kvs r.1 r.2∧r.1.Nodup
theorem DA.mono {H H':Hp} {d:Addr} {r:Rw} (h:DA a H d r) (s:Same H H'):DA a H' d r:=by
 obtain ⟨kvs,e,t,n⟩:=h
 exact ⟨kvs,s _ _ e,t.mono fun _ _ z=>z.mono s,n⟩
noncomputable def hiN (ds:List WD):List Str:=(ds.filter fun d=>d.hi.isSome).map (·.nm)
theorem hiN_snoc (ds:List WD) (d:WD):hiN (ds++[d])=hiN ds++if d.hi.isSome then [d.nm] else []:=by
 unfold hiN
 rw [List.filter_append,i5]
 cases e:d.hi.isSome with
 | true=>rw [jP (by rw [e])];rfl
 | false=>rw [jO (by rw [e];decide)];rfl
noncomputable def gk (ps:List (Str × Rat)) (ds:List WD) (rp rb:Rw):Bool:=gu rp.1 rp.2 (ps.map (·.1)) && gu rb.1 rb.2 (hiN ds)
inductive IspPaper (a:Ad) (vs:List V) (H:Hp) (Q:VK):Prop
 | mk (p dp db:Addr) (ps:List (Str × Rat)) (ds:List WD) (rp rb:Rw) (h1:vs=[.ref p,.ref dp,.ref db]) (h2:NetAt a H p ps ds) (h3:ds.length≤100) (h4:DA a H dp rp) (h5:DA a H db rb) (h6:∀ H',Same H H'→Q (.bl (gk ps ds rp rb)) H'):IspPaper a vs H Q
noncomputable def spPaper (a:Ad):Sp:=fun vs H Q _=>IspPaper a vs H Q
theorem ok_is_paper (T:TX K mg a):FnB P w K mg base CX0 "is_paper" 3 ["net","prices","bounds"] (spPaper a):=by
 refine T.d_is_paper.ok sc_is_paper (fun vs H Q E h=>?_) (fun f cdv A outer s H vs Q E hr h=>?_)
 ·obtain ⟨_,_,_,_,_,_,_,rfl,_⟩:=h
  rfl
 ·obtain ⟨p,dp,db,ps,ds,rp,rb,rfl,hn,l100,hP,hB,k⟩:=h
  refine ⟨_,(ag (dD (i:=3) (xs:=["way"]) (rest:=[]) sc_is_paper.nd rfl rfl rfl (aX (eD (CX:=CX0) (pv 0) hr ak))
   (fun pins fp C' s' H'=>(ax (i:=0) (show (["way"]:List Str).Nodup by decide +kernel) rfl (Or.inl rfl))) (fun pins fp C' s' H'=>(pts_one (aw dF (pe_fldK (K:=K) rfl (pv 0) rfl) b8 (az _))))
   (fun pins fp C' s' H'=>(pe_fldK (K:=K) rfl (pv 0) rfl))
   (Clos.none (by decide +kernel) (by decide +kernel)) (Reads.many (ys:=[]) (js:=[]) True.intro))
   (ah (aq (pe_and (av (ok_are_fit T) hr ak (aa (pv 1) (aa (eD (CX:=CX0) (pv 0) hr ak) ae))) (pe_one (av (ok_are_fit T) hr ak (aa (pv 2) (aa (pv 3) ae)))))))),?_⟩
  try dsimp only [aM,Cx.nox,Cx.wish]
  obtain ⟨dx,dw,dy,hp,hw,hy⟩:=id hn
  have noa:=dI dw dy (m:="all_ways") (by decide +kernel) (by decide +kernel)
  have non:=dI dw dy (m:="names") (by decide +kernel) (by decide +kernel)
  refine ⟨_,rfl,p,a.Net,dx,_,1,["self"],spNAll a,rfl,hp,noa,T.cl_Net,by decide,cn T,p,ps,ds,rfl,hn,fun lw H1 tw nlw s1 hlw hvw=>?_⟩
  refine ⟨lw,rfl,⟨_,SqL.of hlw⟩,fun q nq=>?_⟩
  refine cZ (K:=K) (a:=lw) (xs:=tw) (fun i H2=>i≤ds.length∧Same H1 H2∧H2 q=some (.lst ((hiN (ds.take i)).map V.str))) ⟨iY _,ai nq,ad⟩ (fun i H2 ⟨_,s2,_⟩=>SqL.of (s2 _ _ hlw)) ?_ ?_
  ·rintro i x H2 hx ⟨_,s2,h2⟩
   obtain ⟨d,ed,hd⟩:=hvw.get hx
   have hi:i<ds.length:=(iL.mp ed).1
   have hd2:=hd.mono s2
   obtain ⟨p1,vh,vc,qx,rfl,W,hk,hc,hh⟩:=id hd2
   obtain ⟨dx1,fs,ho,h5,_⟩:=id W.ob
   have c:=dL T d.kd
   have tk:hiN (ds.take (i+1))=hiN (ds.take i)++if d.hi.isSome then [d.nm] else []:=by rw [iU,ed,iV,hiN_snoc]
   have lus:((hiN (ds.take i)).map V.str).length≤100:=by
    rw [iM]
    unfold hiN
    rw [iM]
    refine i3 (jC _ _) ?_
    rw [i6]
    omega
   refine g1 ⟨⟨[_],rfl,rfl⟩,?_⟩
   refine ⟨_,rfl,p1,_,dx1,fs,_,rfl,ho,c.cl,c.n4,h5.hi,?_⟩
   cases e:d.hi with
   | none=>
    rw [e] at hh
    obtain rfl:vh=.non:=hh
    refine ⟨rfl,_,rfl,iteF ?_⟩
    refine dN (by rw [hvw.1];exact hi) ⟨hi,s2,?_⟩
    rw [tk,e]
    exact h2.trans (by rw [show (if (none:Option Rat).isSome=true then [d.nm] else [])=[] from rfl,j8])
   | some x=>
    rw [e] at hh
    obtain ⟨qh,rfl,fh⟩:=hh
    refine ⟨rfl,_,rfl,iteT ?_⟩
    refine ⟨_,rfl,p1,_,dx1,fs,_,rfl,ho,c.cl,c.n1,h5.nm,_,h2,aE (by omega),dN (by rw [hvw.1];exact hi) ⟨hi,aH nq s2,?_⟩⟩
    rw [ad,tk,e,i5]
    rfl
  rintro H2 ⟨_,s2,h2⟩
  rw [hvw.1,iS] at h2
  have s12:=s1.trans s2
  obtain ⟨kvp,hP2,tP2,nP⟩:=hP.mono s12
  refine ⟨_,rfl,_,rfl,p,a.Net,dx,_,1,["self"],ik a,rfl,s12 _ _ hp,non,T.cl_Net,by decide,gm T,p,ps,ds,rfl,hn.mono s12,fun l nl=>?_⟩
  have s3:=ai (o:=.lst (ps.map fun x=>V.str x.1)) nl
  have hl:upd H2 l (.lst (ps.map fun x=>V.str x.1)) l=some (.lst ((ps.map (·.1)).map V.str)):=by rw [ad,jz];rfl
  generalize upd H2 l (.lst (ps.map fun x=>V.str x.1))=H3 at s3 hl ⊢
  refine ⟨dp,l,kvp,rp.1,_,rp.2,rfl,s3 _ _ hP2,tP2.mono (fun _ _ z=>z.mono s3),nP,hl,fun H4 s4=>?_⟩
  unfold gk at k
  refine ⟨_,rfl,?_⟩
  cases e:gu rp.1 rp.2 (ps.map (·.1)) with
  | false=>
   rw [e] at k
   exact iteF (k _ (s12.trans (s3.trans s4)))
  | true=>
   rw [e] at k
   obtain ⟨kvb,hB4,tB4,nB⟩:=hB.mono (s12.trans (s3.trans s4))
   refine iteT ⟨_,rfl,_,rfl,db,q,kvb,rb.1,_,rb.2,rfl,hB4,tB4,nB,(s3.trans s4) _ _ h2,fun H5 s5=>k _ (s12.trans (s3.trans (s4.trans s5)))⟩
noncomputable def Rw.A (r:Rw):Str→Rat:=bI r.1 r.2
noncomputable def earnQ (d:WD) (rp rb:Rw):Rat:=rp.A d.go*dH d.kd d.x-(rp.A d.st+rb.A d.nm)
structure EOk (d:WD) (rp rb:Rw):Prop where
 x:SmR d.x
 g:SmR (dH d.kd d.x)
 go:SmR (rp.A d.go)
 st:SmR (rp.A d.st)
 nm:SmR (rb.A d.nm)
 le:SmR (rp.A d.st+rb.A d.nm)
 ou:SmR (rp.A d.go*dH d.kd d.x)
inductive IspEarn (a:Ad) (vs:List V) (H:Hp) (Q:VK):Prop
 | mk (v:V) (dp db:Addr) (d:WD) (rp rb:Rw) (h1:vs=[v,.ref dp,.ref db]) (h2:WayIs a H v d) (h3:DA a H dp rp) (h4:DA a H db rb) (h5:EOk d rp rb) (h6:∀ r H',Same H H'→FrAt a.Fraction H' r (earnQ d rp rb)→Q (.ref r) H'):IspEarn a vs H Q
noncomputable def spEarn (a:Ad):Sp:=fun vs H Q _=>IspEarn a vs H Q
theorem ok_earned (T:TX K mg a):FnB P w K mg base CX0 "earned" 9 ["way","prices","bounds"] (spEarn a):=by
 refine T.d_earned.ok sc_earned (fun vs H Q E h=>?_) (fun f cdv A outer s H vs Q E hr h=>?_)
 ·obtain ⟨_,_,_,_,_,_,rfl,_⟩:=h
  rfl
 ·obtain ⟨v,dp,db,d,rp,rb,rfl,hd,hP,hB,ok,k⟩:=h
  refine ⟨_,(ag (ar (i:=3) sc_earned.nd rfl (Or.inl rfl) (cW T.fr (av (fk T) hr ak (aa (pv 1) (aa (a8 (pv 0) rfl) ae))) (iC T) hr ak (aa (av (fk T) hr ak (aa (pv 2) (aa (a8 (pv 0) rfl) ae))) ae)))
   (ah (aq (cW T.fr (hU (CX:=CX0) (pv 0) hr ak (aa (av (fk T) hr ak (aa (pv 1) (aa (a8 (pv 0) rfl) ae))) ae)) (iD T) hr ak (aa (pv 3) ae))))),?_⟩
  try dsimp only [aM,Cx.nox,Cx.wish]
  obtain ⟨p1,vh,vc,q1,rfl,W,hk,_⟩:=id hd
  obtain ⟨dx1,fs1,ho,h5,_⟩:=id W.ob
  have c:=dL T d.kd
  obtain ⟨kvp,hP0,tP0,_⟩:=id hP
  refine ⟨_,rfl,_,rfl,p1,_,dx1,fs1,_,rfl,ho,c.cl,c.n2,h5.st,dp,kvp,rp.1,rp.2,d.st,rfl,.inl hP0,tP0,fun q2 H1 s1 f1=>?_⟩
  obtain ⟨kvb,hB1,tB1,_⟩:=hB.mono s1
  refine ⟨q2,_,rfl,f1,_,rfl,_,rfl,p1,_,dx1,fs1,_,rfl,s1 _ _ ho,c.cl,c.n1,h5.nm,db,kvb,rb.1,rb.2,d.nm,rfl,.inl hB1,tB1,fun q3 H2 s2 f2=>?_⟩
  refine ⟨q2,q3,_,_,rfl,f1.mono s2,f2,ok.st,ok.nm,True.intro,fun q4 H3 nq4 s3 f3=>?_⟩
  have s13:=s1.trans (s2.trans s3)
  have W3:=W.mono s13
  have ho3:=s13 _ _ ho
  refine ⟨_,rfl,p1,_,dx1,fs1,8,["self","amount"],spOut a d.kd,rfl,ho3,h5.ou,c.cl,by decide,out_any T d.kd,_,rfl,_,rfl,p1,_,dx1,fs1,_,rfl,ho3,c.cl,c.n3,h5.go,dp,kvp,rp.1,rp.2,d.go,rfl,.inl (s13 _ _ hP0),tP0.mono (fun _ _ z=>z.mono s13),fun q5 H4 s4 f4=>?_⟩
  refine ⟨p1,q5,d.nm,d.st,d.go,vh,vc,q1,d.x,_,rfl,W3.mono s4,f4,ok.x,ok.go,ok.g,fun r8 H5 s5 f5=>?_⟩
  refine ⟨r8,_,rfl,f5,_,rfl,r8,q4,_,_,rfl,f5,f3.mono (s4.trans s5),ok.ou,ok.le,True.intro,fun r9 H6 nr9 s6 f6=>?_⟩
  exact k r9 H6 (s13.trans (s4.trans (s5.trans s6))) f6
noncomputable def nonB (ds:List WD) (rp rb:Rw):Bool:=ds.all fun d=>decide (¬ 0<(earnQ d rp rb).num)
inductive IspNon (a:Ad) (vs:List V) (H:Hp) (Q:VK):Prop
 | mk (p dp db:Addr) (ps:List (Str × Rat)) (ds:List WD) (rp rb:Rw) (h1:vs=[.ref p,.ref dp,.ref db]) (h2:NetAt a H p ps ds) (h3:DA a H dp rp) (h4:DA a H db rb) (h5:(∀ d∈ds,EOk d rp rb)) (h6:∀ H',Same H H'→Q (.bl (nonB ds rp rb)) H'):IspNon a vs H Q
noncomputable def spNon (a:Ad):Sp:=fun vs H Q _=>IspNon a vs H Q
theorem ok_earns_nothing (T:TX K mg a):FnB P w K mg base CX0 "earns_nothing" 10 ["net","prices","bounds"] (spNon a):=by
 refine T.d_earns_nothing.ok sc_earns_nothing (fun vs H Q E h=>?_) (fun f cdv A outer s H vs Q E hr h=>?_)
 ·obtain ⟨_,_,_,_,_,_,_,rfl,_⟩:=h
  rfl
 ·obtain ⟨p,dp,db,ps,ds,rp,rb,rfl,hn,hP,hB,ok,k⟩:=h
  refine ⟨_,(ag (a9 i7 rfl (aX (eD (CX:=CX0) (pv 0) hr ak)) (ax (i:=3) sc_earns_nothing.nd rfl (Or.inl rfl)) (ah (aG (aw gw (eX T.fr (av (ok_earned T) hr ak (aa (pv 3) (aa (pv 1) (aa (pv 2) ae)))) (eZ T) hr ak) ac (az _)) (ah (aq b9)) ay)))
   (ah (aq b9))),?_⟩
  try dsimp only [aM,Cx.nox,Cx.wish]
  obtain ⟨dx,dw,dy,hp,hw,hy⟩:=id hn
  have noa:=dI dw dy (m:="all_ways") (by decide +kernel) (by decide +kernel)
  refine ⟨_,rfl,p,a.Net,dx,_,1,["self"],spNAll a,rfl,hp,noa,T.cl_Net,by decide,cn T,p,ps,ds,rfl,hn,fun lw H1 tw nlw s1 hlw hvw=>?_⟩
  refine ⟨lw,rfl,⟨_,SqL.of hlw⟩,bn (K:=K) (a:=lw) (xs:=tw) (fun i σ H2=>i≤ds.length∧∃ z3,σ=[some (.ref p),some (.ref dp),some (.ref db),z3]∧Same H1 H2∧nonB (ds.take i) rp rb=true) ⟨iY _,none,rfl,Same.refl _,rfl⟩ (fun i σ H2 _ ⟨_,_,_,s2,_⟩=>SqL.of (s2 _ _ hlw)) ?_ ?_⟩
  ·rintro i v σ H2 hv ⟨_,z3,rfl,s2,ih⟩
   obtain ⟨d,ed,hd⟩:=hvw.get hv
   have hi:i<ds.length:=(iL.mp ed).1
   have md:=iR ed
   have s12:=s1.trans s2
   refine ⟨_,rfl,_,rfl,_,rfl,v,dp,db,d,rp,rb,rfl,hd.mono s2,hP.mono s12,hB.mono s12,ok d md,fun r H3 s3 f3=>?_⟩
   refine ⟨r,_,rfl,f3,r,_,rfl,f3,_,_,rfl,rfl,_,rfl,ifB (fun gt=>?_) (fun le=>?_)⟩
   ·have gt:=sgn_gt.mp gt
    have e:nonB ds rp rb=false:=by
     unfold nonB
     rw [List.all_eq_false]
     exact ⟨d,md,fun z=>jG z gt⟩
    rw [e] at k
    exact k _ (s12.trans s3)
   ·have le:¬ 0<(earnQ d rp rb).num:=fun z=>le (sgn_gt.mpr z)
    refine ⟨hi,_,rfl,s2.trans s3,?_⟩
    unfold nonB at ih ⊢
    rw [iU,ed,iV,List.all_append,ih]
    simp
    omega
  ·rintro σ H2 ⟨_,z3,rfl,s2,ih⟩
   rw [hvw.1,iS] at ih
   rw [ih] at k
   exact k _ (s1.trans s2)
structure WgOk (ps:List (Str × Rat)) (ds:List WD) (rp rb:Rw) (wa hq:Str→Rat):Prop where
 np:(ps.map (·.1)).Nodup
 nd:(ds.map (·.nm)).Nodup
 lp:rp.1.length≤900
 lb:rb.1.length≤900
 ew:∀ z∈ps,z.2=wa z.1
 eh:∀ d∈ds,∀ h,d.hi=some h→h=hq d.nm
 s1:∀ n∈rp.1,SmR (wa n)∧SmR (rp.2 n)
 s2:∀ n∈rb.1,SmR (hq n)∧SmR (rb.2 n)
 b1:∃ M,BdS (rp.1.map fun n=>wa n*rp.2 n) M∧M<9000
 b2:∃ M,BdS (rb.1.map fun n=>hq n*rb.2 n) M∧M<9000
 t1:SmR (rp.1.map fun n=>wa n*rp.2 n).sum
 t2:SmR (rb.1.map fun n=>hq n*rb.2 n).sum
noncomputable def fK (rp rb:Rw) (wa hq:Str→Rat):Rat:=(rp.1.map fun n=>wa n*rp.2 n).sum-(rb.1.map fun n=>hq n*rb.2 n).sum
inductive IspWeight (a:Ad) (vs:List V) (H:Hp) (Q:VK):Prop
 | mk (p dp db:Addr) (ps:List (Str × Rat)) (ds:List WD) (rp rb:Rw) (wa hq:Str→Rat) (h1:vs=[.ref p,.ref dp,.ref db]) (h2:NetOff a H p dp ps ds) (h3:NetOff a H p db ps ds) (h4:DA a H dp rp) (h5:DA a H db rb) (h6:dp≠db) (h7:WgOk ps ds rp rb wa hq) (h8:(∀ n∈rp.1,n∈ps.map (·.1))) (h9:(∀ n∈rb.1,n∈hiN ds)) (h10:∀ r H',Same H H'→FrAt a.Fraction H' r (fK rp rb wa hq)→Q (.ref r) H'):IspWeight a vs H Q
noncomputable def spWeight (a:Ad):Sp:=fun vs H Q _=>IspWeight a vs H Q
theorem ok_weight (T:TX K mg a):FnB P w K mg base CX0 "weight" 8 ["net","prices","bounds"] (spWeight a):=by
 refine T.d_weight.ok sc_weight (fun vs H Q E h=>?_) (fun f cdv A outer s H vs Q E hr h=>?_)
 ·obtain ⟨_,_,_,_,_,_,_,_,_,rfl,_⟩:=h
  rfl
 ·obtain ⟨p,d,db,ps,ds,rp,rb,wa,hq,rfl,hn,hnb,hP,hB,nne,ok,sub1,sub2,k⟩:=h
  refine ⟨_,(aP (eV (dD (i:=3) (xs:=["place","price"]) (rest:=["net"]) sc_weight.nd rfl rfl rfl (pi_items (pv 1))
   (fun pins fp C' s' H'=>by exact (pg_tupK (K:=K) (n:=2) rfl rfl (aD (ax (i:=0) (show (["place","price","net"]:List Str).Nodup by decide +kernel) rfl (Or.inl rfl)) (aD (ax (i:=1) (show (["place","price","net"]:List Str).Nodup by decide +kernel) rfl (Or.inl rfl)) bZ)))) (fun pins fp C' s' H'=>by exact cY)
   (fun pins fp C' s' H'=>by exact (cW T.fr (pe_mtDK (CX:=CX0) (P:=P) (w:=w) (K:=K) (mg:=mg) (base:=base) rfl rfl rfl rfl rfl (pv 2) hr ak (aa (pv 0) ae)) (ok_times T) hr ak (aa (pv 1) ae)))
   (Clos.many (ys:=["net"]) rfl ⟨rfl,True.intro⟩ rfl (by decide +kernel)) (Reads.many (ys:=["net"]) (js:=[0]) ⟨⟨rfl,rfl,rfl⟩,True.intro⟩)))
   (aP (eV (dD (i:=4) (xs:=["name","price"]) (rest:=["net"]) sc_weight.nd rfl rfl rfl (pi_items (pv 2))
   (fun pins fp C' s' H'=>by exact (pg_tupK (K:=K) (n:=2) rfl rfl (aD (ax (i:=0) (show (["name","price","net"]:List Str).Nodup by decide +kernel) rfl (Or.inl rfl)) (aD (ax (i:=1) (show (["name","price","net"]:List Str).Nodup by decide +kernel) rfl (Or.inl rfl)) bZ)))) (fun pins fp C' s' H'=>by exact cY)
   (fun pins fp C' s' H'=>by exact (cW T.fr (pe_fldK (K:=K) rfl (pe_mtDK (CX:=CX0) (P:=P) (w:=w) (K:=K) (mg:=mg) (base:=base) rfl rfl rfl rfl rfl (pv 2) hr ak (aa (pv 0) ae)) rfl) (ok_times T) hr ak (aa (pv 1) ae)))
   (Clos.many (ys:=["net"]) rfl ⟨rfl,True.intro⟩ rfl (by decide +kernel)) (Reads.many (ys:=["net"]) (js:=[0]) ⟨⟨rfl,rfl,rfl⟩,True.intro⟩)))
   (ah (aq (cW T.fr (av (ok_total T) hr ak (aa (pv 3) ae)) (iD T) hr ak (aa (av (ok_total T) hr ak (aa (pv 4) ae)) ae)))))),?_⟩
  try dsimp only [aM,Cx.nox,Cx.wish]
  have lp:=ok.lp
  have lb:=ok.lb
  refine ⟨fun σ' H'=>∃ l ts,σ'=[some (.ref p),some (.ref d),some (.ref db),some (.ref l),none]∧Same H H'∧H' l=some (.lst ts)∧RowAt (FrIs a) H' ts (rp.1.map fun n=>wa n*rp.2 n),?_,?_⟩
  ·obtain ⟨kvs,hd,tb,ndk⟩:=id hP
   refine ⟨d,.dK kvs,hd,(by intro o z e;cases e),_,rfl,d,kvs,rfl,hd,fun o l nl=>?_⟩
   have ndl:d≠l:=fun z=>by rw [z,ad] at nl;cases nl
   have nl':H l=none:=by rw [aj ndl.symm] at nl;exact nl
   refine compG_items (a:=d) (o:=o) (kvs:=kvs) (fun i H2=>i≤rp.1.length∧H2 d=some (.frz o (.dK kvs))∧(∀ b ob,H b=some ob→b≠d→H2 b=some ob)∧∃ ts,H2 l=some (.lst ts)∧RowAt (FrIs a) H2 ts ((rp.1.take i).map fun n=>wa n*rp.2 n))
    ⟨iY _,by rw [aj ndl,ad],(fun b ob e ne=>by rw [aj (aB e nl'),aj ne];exact e),[],ad,RowAt.nil⟩ (fun i H2 ⟨_,h,_⟩=>h) ?_ ?_
   ·rintro i kv t H2 hkv nt ⟨_,hf,k2,ts,hl2,hv⟩ zs hz
    obtain ⟨n,en,e1,ev,q,eq,fq⟩:=tb.at_ ndk hkv
    have hi:i<rp.1.length:=(iL.mp en).1
    have mn:=iR en
    have ekv:kV kv.1=.str n:=by rw [e1];rfl
    rw [ekv,eq]
    have s3:=ai (o:=.tup [.str n,.ref q]) nt
    have ht:upd H2 t (.tup [.str n,.ref q]) t=some (.tup [.str n,.ref q]):=ad
    generalize upd H2 t (.tup [.str n,.ref q])=H3 at s3 ht ⊢
    match zs,hz with
    | [z1,z2],_=>
     have hn3:=(hn.but k2).mono s3
     obtain ⟨y,my,ey⟩:=iZ.mp (sub1 n mn)
     obtain ⟨j,hj⟩:=jN.mp my
     have hj:ps[j]?=some (n,wa n):=by rw [hj,← ey,← ok.ew y my]
     obtain ⟨dx,dw,dy,hp,hw,hy⟩:=hn3.at_
     obtain ⟨sm1,sm2⟩:=ok.s1 n mn
     have fq3:FrAt a.Fraction H3 q (rp.2 n):=by
      obtain ⟨dq,g⟩:=fq
      exact ⟨dq,s3 _ _ (k2 _ _ g (bh g hd (by intro z;cases z)))⟩
     refine ⟨t,[.str n,.ref q],rfl,SqT.of ht,rfl,.str n,[.ref q],rfl,⟨.ref q,[],rfl,⟨rfl,⟨[_,_],rfl,rfl⟩,yes ?_⟩⟩⟩
     refine ⟨_,rfl,p,a.Net,dx,_,1,["self","place"],spNWant a,rfl,hp,dI _ _ (by decide +kernel) (by decide +kernel),T.cl_Net,by decide,gI T,_,rfl,p,ps,ds,j,n,wa n,rfl,⟨dx,dw,dy,hp,hw,hy⟩,ok.np,hj,fun qw fw=>?_⟩
     refine ⟨qw,_,rfl,fw,_,rfl,qw,q,_,_,rfl,fw,fq3,sm1,sm2,True.intro,fun r H4 nr s4 f4=>?_⟩
     have s34:=s3.trans s4
     have hl4:=s34 _ _ hl2
     have lts:ts.length=i:=by rw [hv.1,iM,i6];omega
     refine ⟨_,hl4,aE (by omega),dN (by rw [tb.len];exact hi) ⟨hi,by rw [aj ndl];exact s34 _ _ hf,(fun b ob e ne=>by rw [aj (aB e nl')];exact s34 _ _ (k2 _ _ e ne)),_,ad,?_⟩⟩
     rw [iU,en,iV,i5]
     have ko:∀ v x,FrIs a H4 v x→FrIs a (upd H4 l (.lst (ts++[.ref r]))) v x:=fun v x ⟨q,e,dq,g⟩=>⟨q,e,dq,by rw [aj (bh g hl4 (by intro z;cases z))];exact g⟩
     exact RowAt.snoc (hv.mono fun v x z=>ko v x (z.mono s34)) (ko _ _ ⟨r,rfl,f4⟩)
   ·rintro H2 ⟨_,hf,k2,ts,hl2,hv⟩
    rw [tb.len,iS] at hv
    exact ⟨o,hf,l,ts,rfl,b3 hd k2,by rw [aj ndl.symm];exact hl2,hv.mono fun v x z=>z.keep (.frz hf)⟩
  rintro σ' H1 ⟨l1,ts1,rfl,s1,hl1,hv1⟩
  refine ⟨fun σ' H'=>∃ l ts,σ'=[some (.ref p),some (.ref d),some (.ref db),some (.ref l1),some (.ref l)]∧Same H1 H'∧H' l=some (.lst ts)∧RowAt (FrIs a) H' ts (rb.1.map fun n=>hq n*rb.2 n),?_,?_⟩
  ·have hn1:=hnb.mono s1
   obtain ⟨kvs,hd,tb,ndk⟩:=hB.mono s1
   refine ⟨db,.dK kvs,hd,(by intro o z e;cases e),_,rfl,db,kvs,rfl,hd,fun o l nl=>?_⟩
   have ndl:db≠l:=fun z=>by rw [z,ad] at nl;cases nl
   have nl':H1 l=none:=by rw [aj ndl.symm] at nl;exact nl
   refine compG_items (a:=db) (o:=o) (kvs:=kvs) (fun i H2=>i≤rb.1.length∧H2 db=some (.frz o (.dK kvs))∧(∀ b ob,H1 b=some ob→b≠db→H2 b=some ob)∧∃ ts,H2 l=some (.lst ts)∧RowAt (FrIs a) H2 ts ((rb.1.take i).map fun n=>hq n*rb.2 n))
    ⟨iY _,by rw [aj ndl,ad],(fun b ob e ne=>by rw [aj (aB e nl'),aj ne];exact e),[],ad,RowAt.nil⟩ (fun i H2 ⟨_,h,_⟩=>h) ?_ ?_
   ·rintro i kv t H2 hkv nt ⟨_,hf,k2,ts,hl2,hv⟩ zs hz
    obtain ⟨n,en,e1,ev,q,eq,fq⟩:=tb.at_ ndk hkv
    have hi:i<rb.1.length:=(iL.mp en).1
    have mn:=iR en
    have ekv:kV kv.1=.str n:=by rw [e1];rfl
    rw [ekv,eq]
    have s3:=ai (o:=.tup [.str n,.ref q]) nt
    have ht:upd H2 t (.tup [.str n,.ref q]) t=some (.tup [.str n,.ref q]):=ad
    generalize upd H2 t (.tup [.str n,.ref q])=H3 at s3 ht ⊢
    match zs,hz with
    | [z1,z2],_=>
     have hn3:=(hn1.but k2).mono s3
     obtain ⟨y,my,ey⟩:=iZ.mp (sub2 n mn)
     obtain ⟨my,hy1⟩:=jS.mp my
     obtain ⟨h,eh⟩:=Option.isSome_iff_exists.mp hy1
     obtain ⟨dx,dw,dy,hp,hw,hy⟩:=hn3.at_
     obtain ⟨sm1,sm2⟩:=ok.s2 n mn
     have fq3:FrAt a.Fraction H3 q (rb.2 n):=by
      obtain ⟨dq,g⟩:=fq
      exact ⟨dq,s3 _ _ (k2 _ _ g (bh g hd (by intro z;cases z)))⟩
     refine ⟨t,[.str n,.ref q],rfl,SqT.of ht,rfl,.str n,[.ref q],rfl,⟨.ref q,[],rfl,⟨rfl,⟨[_,_],rfl,rfl⟩,yes ?_⟩⟩⟩
     refine ⟨_,rfl,p,a.Net,dx,_,1,["self","name"],spNetWay a,rfl,hp,dI _ _ (by decide +kernel) (by decide +kernel),T.cl_Net,by decide,ok_Net_way T,_,rfl,p,ps,ds,y,by rw [ey];rfl,⟨dx,dw,dy,hp,hw,hy⟩,ok.nd,my,fun v hx=>?_⟩
     obtain ⟨p',vh,vc,q',rfl,W,hk,_,hh⟩:=hx
     obtain ⟨dx',fs',ho',h5',_⟩:=W.ob
     have c':=dL T y.kd
     rw [eh] at hh
     obtain ⟨qc,rfl,fc⟩:=hh
     rw [ok.eh y my h eh,ey] at fc
     refine ⟨p',_,dx',fs',_,rfl,ho',c'.cl,c'.n4,h5'.hi,qc,_,rfl,fc,_,rfl,qc,q,_,_,rfl,fc,fq3,sm1,sm2,True.intro,fun r H4 nr s4 f4=>?_⟩
     have s34:=s3.trans s4
     have hl4:=s34 _ _ hl2
     have lts:ts.length=i:=by rw [hv.1,iM,i6];omega
     refine ⟨_,hl4,aE (by omega),dN (by rw [tb.len];exact hi) ⟨hi,by rw [aj ndl];exact s34 _ _ hf,(fun b ob e ne=>by rw [aj (aB e nl')];exact s34 _ _ (k2 _ _ e ne)),_,ad,?_⟩⟩
     rw [iU,en,iV,i5]
     have ko:∀ v x,FrIs a H4 v x→FrIs a (upd H4 l (.lst (ts++[.ref r]))) v x:=fun v x ⟨q,e,dq,g⟩=>⟨q,e,dq,by rw [aj (bh g hl4 (by intro z;cases z))];exact g⟩
     exact RowAt.snoc (hv.mono fun v x z=>ko v x (z.mono s34)) (ko _ _ ⟨r,rfl,f4⟩)
   ·rintro H2 ⟨_,hf,k2,ts,hl2,hv⟩
    rw [tb.len,iS] at hv
    exact ⟨o,hf,l,ts,rfl,b3 hd k2,by rw [aj ndl.symm];exact hl2,hv.mono fun v x z=>z.keep (.frz hf)⟩
  rintro σ' H2 ⟨l2,ts2,rfl,s2,hl2,hv2⟩
  obtain ⟨M1,bb1,mm1⟩:=ok.b1
  obtain ⟨M2,bb2,mm2⟩:=ok.b2
  refine ⟨_,rfl,l1,ts1,_,M1,rfl,SqL.of (s2 _ _ hl1),hv1.mono (fun _ _ z=>z.mono s2),bb1,mm1,fun r1 H3 nr1 s3 f3=>?_⟩
  refine ⟨r1,_,rfl,f3,_,rfl,l2,ts2,_,M2,rfl,SqL.of (s3 _ _ hl2),hv2.mono (fun _ _ z=>z.mono s3),bb2,mm2,fun r2 H4 nr2 s4 f4=>?_⟩
  refine ⟨r1,r2,_,_,rfl,f3.mono s4,f4,ok.t1,ok.t2,True.intro,fun r H5 nr s5 f5=>?_⟩
  exact k r H5 (s1.trans (s2.trans (s3.trans (s4.trans s5)))) f5
theorem others_in {ds:List WD} {ks:List Str} (h:bX ds ks=[]):∀ n∈ks,n∈ds.map (·.nm):=fun n hn=>by
 unfold bX at h
 refine Classical.byContradiction fun z=>?_
 have:n∈ks.filter (fun n=>decide (¬ n∈ds.map (·.nm))):=jS.mpr ⟨hn,iW z⟩
 rw [h] at this
 cases this
theorem fitB_in {ks:List Str} {f:Str→Rat} {xs:List Str} (h:gu ks f xs=true):∀ n∈ks,n∈xs:=fun n hn=>by
 unfold gu at h
 have:=ke.mp h n hn
 rw [j4] at this
 exact jG this.1
theorem sgn_z {x:Rat}:sgn x=0↔x=0:=by
 unfold sgn
 rw [← Rat.num_eq_zero]
 split
 ·rename_i h
  omega
 ·split
  ·omega
  ·omega
noncomputable def upR (r:Rw) (n:Str):Rw:=(eM r.1 n,upf r.2 n (r.A n+1))
structure GrIn (a:Ad) (H:Hp) (p d dp db m:Addr) (pl:Str) (ps:List (Str × Rat)) (ds:List WD) (kvs:List (Key × V)) (r rp rb:Rw) (wa hq:Str→Rat) (q:Rat):Prop where
 fl:FltOk a H p d ps ds kvs r.1 r.2
 n1:NetOff a H p dp ps ds
 n2:NetOff a H p db ps ds
 hp:DA a H dp rp
 hb:DA a H db rb
 ne:dp≠db
 ok:WgOk ps ds rp rb wa hq
 eo:∀ d∈ds,EOk d (upR rp pl) rb
 ml:pl∈ps.map (·.1)
 sp:SmR (rp.A pl)
 hm:FrAt a.Fraction H m q
 sq:SmR q
 sf:SmR (eI (bI r.1 r.2) ds pl)
 sw:SmR (fK rp rb wa hq)
theorem GrIn.mono {H H':Hp} {p d dp db m:Addr} {pl:Str} {ps:List (Str × Rat)} {ds:List WD} {kvs:List (Key × V)} {r rp rb:Rw} {wa hq:Str→Rat} {q:Rat} (h:GrIn a H p d dp db m pl ps ds kvs r rp rb wa hq q) (s:Same H H'):GrIn a H' p d dp db m pl ps ds kvs r rp rb wa hq q:=⟨h.fl.mono s,h.n1.mono s,h.n2.mono s,h.hp.mono s,h.hb.mono s,h.ne,h.ok,h.eo,h.ml,h.sp,h.hm.mono s,h.sq,h.sf,h.sw⟩
noncomputable def mostB (ps:List (Str × Rat)) (ds:List WD) (r rp rb:Rw) (wa hq:Str→Rat) (pl:Str) (q:Rat):Bool:=(dJ r.1 (bI r.1 r.2) ps ds).isEmpty && (gk ps ds rp rb && (nonB ds (upR rp pl) rb && (decide (eI (bI r.1 r.2) ds pl=q) && decide (fK rp rb wa hq+q=0))))
inductive IspGr (a:Ad) (vs:List V) (H:Hp) (Q:VK):Prop
 | mk (p t d dp db m:Addr) (pl:Str) (ps:List (Str × Rat)) (ds:List WD) (kvs:List (Key × V)) (r rp rb:Rw) (wa hq:Str→Rat) (q:Rat) (h1:vs=[.ref p,.str pl,.ref t]) (h2:H t=some (.tup [.str "most",.ref m,.ref d,.ref dp,.ref db])) (h3:GrIn a H p d dp db m pl ps ds kvs r rp rb wa hq q) (h4:∀ H',Same H H'→Q (.bl (mostB ps ds r rp rb wa hq pl q)) H'):IspGr a vs H Q
noncomputable def spGr (a:Ad):Sp:=fun vs H Q _=>IspGr a vs H Q
theorem iB (T:TX K mg a):FnB P w K mg base CX0 "shows_greatest" 11 ["net","place","answer"] (spGr a):=by
 refine T.d_shows_greatest.ok sc_shows_greatest (fun vs H Q E h=>?_) (fun f cdv A outer s H vs Q E hr h=>?_)
 ·obtain ⟨_,_,_,_,_,_,_,_,_,_,_,_,_,_,_,_,rfl,_⟩:=h
  rfl
 ·obtain ⟨p,t,d,dp,db,m,pl,ps,ds,kvs,r,rp,rb,wa,hq,q,rfl,ht,S,k⟩:=h
  refine ⟨_,(ag (ar (i:=3) sc_shows_greatest.nd rfl (Or.inl rfl) (ap al (pv 2) ac (fun _ _=>rfl)))
   (ag (ar (i:=4) sc_shows_greatest.nd rfl (Or.inl rfl) (ap al (pv 2) ac (fun _ _=>rfl)))
   (ag (ar (i:=5) sc_shows_greatest.nd rfl (Or.inl rfl) (ap al (pv 2) ac (fun _ _=>rfl)))
   (ag (aG (PW.pt (g7 (aw (op_neN hr.units0) (av (ok_faults T) hr ak (aa (pv 0) (aa (pv 3) ae))) (pe_lst ae) (az _)) (fL (eN (cU (av (ok_is_paper T) hr ak (aa (pv 0) (aa (pv 4) (aa (pv 5) ae))))))))) (ah (aq b9)) ay)
   (ag (ar (i:=6) sc_shows_greatest.nd rfl (Or.inl rfl) (bS bo (by rfl) T.z_dict jJ (aa (pv 4) ae)))
   (ag (bv (aJ hr) (pv 6) (pv 1) (cW T.fr (av (fk T) hr ak (aa (pv 4) (aa (pv 1) ae))) (iC T) hr ak (aa (bT (mk1 T) hr T.mg_Fraction ak (aa ac ae)) ae)) rfl)
   (ag (aG (eN (cU (av (ok_earns_nothing T) hr ak (aa (pv 0) (aa (pv 6) (aa (pv 5) ae)))))) (ah (aq b9)) ay)
   (ag (aG (eN (cU (cW T.fr (aQ (aJ hr) (av (ok_sums T) hr ak (aa (pv 0) (aa (pv 3) ae))) (pv 1) (fun _ _=>rfl)) (ok_same T) hr ak (aa (ap al (pv 2) ac (fun _ _=>rfl)) ae)))) (ah (aq b9)) ay)
   (ah (aq (fF ba (eX T.fr (cW T.fr (av (ok_weight T) hr ak (aa (pv 0) (aa (pv 4) (aa (pv 5) ae)))) (iC T) hr ak (aa (ap al (pv 2) ac (fun _ _=>rfl)) ae)) (eZ T) hr ak) ac (az _)))))))))))),?_⟩
  try dsimp only [aM,Cx.nox,Cx.wish]
  unfold mostB at k
  have sq:=SqT.of (K:=K) ht
  refine ⟨_,rfl,t,_,_,_,rfl,rfl,sq,rfl,?_⟩
  refine ⟨_,rfl,t,_,_,_,rfl,rfl,sq,rfl,?_⟩
  refine ⟨_,rfl,t,_,_,_,rfl,rfl,sq,rfl,?_⟩
  refine ⟨_,rfl,_,rfl,p,d,ps,ds,kvs,r.1,r.2,rfl,S.fl,fun l H1 ts nl s1 hl hv=>?_⟩
  refine ⟨by show 0≤sizeLine;decide,fun x nx=>?_⟩
  have sx:=ai (o:=.lst []) nx
  have hx:upd H1 x (.lst []) x=_:=ad
  generalize upd H1 x (.lst [])=H2 at sx hx ⊢
  have s2:=s1.trans sx
  refine ⟨l,x,_,rfl,rfl,SqL.of (sx _ _ hl),SqL.of hx,?_⟩
  have eE:ts.isEmpty=(dJ r.1 (bI r.1 r.2) ps ds).isEmpty:=by
   have:=hv.1
   cases ts <;> cases e:dJ r.1 (bI r.1 r.2) ps ds <;> rw [e] at this <;> first | rfl | cases this
  rw [eE]
  have S2:=S.mono s2
  cases e0:(dJ r.1 (bI r.1 r.2) ps ds).isEmpty with
  | false=>
   rw [e0] at k
   exact ⟨_,rfl,iteT (k _ s2)⟩
  | true=>
   rw [e0,jX] at k
   refine ⟨_,rfl,iteF ?_⟩
   have sub:∀ n∈r.1,n∈ds.map (·.nm):=others_in (by
    have:=List.isEmpty_iff.mp e0
    unfold dJ at this
    rw [List.append_eq_nil_iff,List.append_eq_nil_iff,List.map_eq_nil_iff] at this
    exact this.1.1)
   refine ⟨_,rfl,_,rfl,_,rfl,p,dp,db,ps,ds,rp,rb,rfl,S2.n1.at_,S.fl.ld,S2.hp,S2.hb,fun H3 s3=>?_⟩
   have S3:=S2.mono s3
   have s23:=s2.trans s3
   cases e1:gk ps ds rp rb with
   | false=>
    rw [e1] at k
    exact ⟨_,rfl,iteT (k _ s23)⟩
   | true=>
    rw [e1,jX] at k
    refine ⟨_,rfl,iteF ?_⟩
    obtain ⟨kvp,hkp,tbp,nkp⟩:=id S3.hp
    refine ⟨_,rfl,dp,kvp,rfl,.inl hkp,fun dc ndc=>?_⟩
    have s4':=ai (o:=.dK kvp) ndc
    have h4:upd H3 dc (.dK kvp) dc=some (.dK kvp):=ad
    generalize upd H3 dc (.dK kvp)=H4 at s4' h4 ⊢
    have s4:=s23.trans s4'
    refine ⟨_,rfl,_,rfl,dp,kvp,rp.1,rp.2,pl,rfl,.inl (s4' _ _ hkp),tbp.mono (fun v x z=>FrIs.mono z s4'),fun w1 H5 s5 f5=>?_⟩
    refine ⟨w1,_,rfl,f5,1,1,rfl,by decide,sm1,fun z H6 nz s6 f6=>?_⟩
    rw [show Rat.divInt 1 1=1 from rfl] at f6
    refine ⟨w1,z,_,_,rfl,f5.mono s6,f6,S.sp,⟨show Sm 1 from sm1,show Sm 1 from sm1⟩,True.intro,fun w2 H7 nw2 s7 f7=>?_⟩
    have s57:=s5.trans (s6.trans s7)
    have h7:=s57 _ _ h4
    have s47:=s4'.trans s57
    have lk:kvp.length≤900:=by rw [tbp.len];exact S.ok.lp
    refine ⟨_,rfl,_,rfl,dc,_,rfl,DPut.k (k:=Sum.inr pl) h7 (aE (by omega)),?_⟩
    have ko:KeepD H7 (upd H7 dc (.dK (bg kvp (Sum.inr pl) (.ref w2)))):=KeepD.put h7
    have s8:Same H3 (upd H7 dc (.dK (bg kvp (Sum.inr pl) (.ref w2)))):=aH ndc s47
    have hC:DA a (upd H7 dc (.dK (bg kvp (Sum.inr pl) (.ref w2)))) dc (upR rp pl):=⟨_,ad,Tab.put (n:=pl) (tbp.mono fun v x y=>FrIs.keep (FrIs.mono y s47) ko) (FrIs.keep ⟨w2,rfl,f7⟩ ko),hV nkp⟩
    generalize upd H7 dc (.dK (bg kvp (Sum.inr pl) (.ref w2)))=H8 at s8 hC ⊢
    have S8:=S3.mono s8
    have s28:=s23.trans s8
    refine ⟨_,rfl,_,rfl,_,rfl,p,dc,db,ps,ds,upR rp pl,rb,rfl,S8.n1.at_,hC,S8.hb,S.eo,fun H9 s9=>?_⟩
    have S9:=S8.mono s9
    have s29:=s28.trans s9
    cases e2:nonB ds (upR rp pl) rb with
    | false=>
     rw [e2] at k
     exact ⟨_,rfl,iteT (k _ s29)⟩
    | true=>
     rw [e2,jX] at k
     refine ⟨_,rfl,iteF ?_⟩
     refine ⟨_,rfl,_,rfl,p,d,ps,ds,kvs,r.1,r.2,rfl,S9.fl.net,S.fl.nd,S9.fl.hd,S9.fl.tb,S.fl.nk,sub,S.fl.so,fun rs H10 kvr nrs s10 hrs tbr=>?_⟩
     have S10:=S9.mono s10
     obtain ⟨v9,ev9,q9,rfl,fq9⟩:=tbr.vals pl S.ml
     have s210:=s29.trans s10
     refine ⟨_,rfl,rs,.ref q9,rfl,.inl ⟨kvr,Sum.inr pl,.inl hrs,rfl,ev9.symm⟩,q9,_,rfl,fq9,_,rfl,t,_,_,_,rfl,rfl,SqT.of (s210 _ _ ht),rfl,?_⟩
     refine ⟨q9,m,_,_,rfl,fq9,S10.hm,S.sf,S.sq,?_⟩
     cases e3:decide (eI (bI r.1 r.2) ds pl=q) with
     | false=>
      rw [e3] at k
      exact ⟨_,rfl,gW (by show (!decide (eI (bI r.1 r.2) ds pl=q))=true;rw [e3];rfl) (k _ s210)⟩
     | true=>
      rw [e3,jX] at k
      refine ⟨_,rfl,eQ (by show (!decide (eI (bI r.1 r.2) ds pl=q))=false;rw [e3];rfl) ?_⟩
      unfold gk at e1
      rw [j4] at e1
      refine ⟨_,rfl,_,rfl,_,rfl,p,dp,db,ps,ds,rp,rb,wa,hq,rfl,S10.n1,S10.n2,S10.hp,S10.hb,S.ne,S.ok,fitB_in e1.1,fitB_in e1.2,fun w5 H11 s11 f11=>?_⟩
      have s211:=s210.trans s11
      refine ⟨w5,_,rfl,f11,_,rfl,t,_,_,_,rfl,rfl,SqT.of (s211 _ _ ht),rfl,?_⟩
      refine ⟨w5,m,_,_,rfl,f11,S10.hm.mono s11,S.sw,S.sq,True.intro,fun w6 H12 nw6 s12 f12=>?_⟩
      refine ⟨w6,_,rfl,f12,w6,_,rfl,f12,rfl,?_⟩
      have e:decide (V.int (sgn (fK rp rb wa hq+q))=V.int 0)=decide (fK rp rb wa hq+q=0):=decide_eq_decide.mpr ⟨fun z=>sgn_z.mp (V.int.inj z),fun z=>by rw [sgn_z.mpr z]⟩
      have k':=k H12 (s211.trans s12)
      rw [← e] at k'
      exact k'
noncomputable def spNo:Sp:=fun _ _ _ _=>False
theorem hG (T:TX K mg a):FnB P w K mg base CX0 "shows_lack" 1 ["net","weights","bounds"] spNo:=T.d_shows_lack.ok sc_shows_lack (fun vs H Q E h=>False.elim h) (fun f cdv A outer s H vs Q E hr h=>False.elim h)
theorem g9 (T:TX K mg a):FnB P w K mg base CX0 "shows_more" 1 ["net","plan","strand"] spNo:=T.d_shows_more.ok sc_shows_more (fun vs H Q E h=>False.elim h) (fun f cdv A outer s H vs Q E hr h=>False.elim h)
theorem no_sums (T:TX K mg a):FnB P w K mg base CX0 "sums" 1 ["net","plan"] spNo:=T.d_sums.ok sc_sums (fun vs H Q E h=>False.elim h) (fun f cdv A outer s H vs Q E hr h=>False.elim h)
theorem iE (T:TX K mg a):FnB P w K mg base CX0 "shows_greatest" 1 ["net","place","answer"] spNo:=T.d_shows_greatest.ok sc_shows_greatest (fun vs H Q E h=>False.elim h) (fun f cdv A outer s H vs Q E hr h=>False.elim h)
theorem gJ (T:TX K mg a):FnB P w K mg base CX0 "strand_plan" 1 ["net","strand"] spNo:=T.d_strand_plan.ok sc_strand_plan (fun vs H Q E h=>False.elim h) (fun f cdv A outer s H vs Q E hr h=>False.elim h)
theorem ok_shows_most (T:TX K mg a):FnB P w K mg base CX0 "shows_most" 12 ["net","place","answer"] (spGr a):=by
 refine T.d_shows_most.ok gY (fun vs H Q E h=>?_) (fun f cdv A outer s H vs Q E hr h=>?_)
 ·obtain ⟨_,_,_,_,_,_,_,_,_,_,_,_,_,_,_,_,rfl,_⟩:=h
  rfl
 ·obtain ⟨p,t,d,dp,db,m,pl,ps,ds,kvs,r,rp,rb,wa,hq,q,rfl,ht,S,k⟩:=h
  refine ⟨_,(ag (cE (hU (CX:=CX0) (pv 0) hr ak (aa (pv 1) ae)))
   (ag (aG (aw ba (ap al (pv 2) ac (fun _ _=>rfl)) ek (az _)) (ah (aq (av (iB T) hr ak (aa (pv 0) (aa (pv 1) (aa (pv 2) ae)))))) ay)
   (ag (aG (aw ba (ap al (pv 2) ac (fun _ _=>rfl)) ek (az _)) (ah (aq (av (hG T) hr ak (aa (pv 0) (aa (ap al (pv 2) ac (fun _ _=>rfl)) (aa (ap al (pv 2) ac (fun _ _=>rfl)) ae)))))) ay)
   (ag (aG (eN (cU (av (g9 T) hr ak (aa (pv 0) (aa (ap al (pv 2) ac (fun _ _=>rfl)) (aa (ap al (pv 2) ac (fun _ _=>rfl)) ae)))))) (ah (aq b9)) ay)
   (ah (aq (fF gw (eX T.fr (ap eF (av (no_sums T) hr ak (aa (pv 0) (aa (av (gJ T) hr ak (aa (pv 0) (aa (ap al (pv 2) ac (fun _ _=>rfl)) ae))) ae))) (pv 1) (fun _ _=>rfl)) (eZ T) hr ak) ac (az _)))))))),?_⟩
  try dsimp only [aM,Cx.nox,Cx.wish]
  have sq:=SqT.of (K:=K) ht
  obtain ⟨dx,dw,dy,hp,hw,hy⟩:=S.n1.at_
  obtain ⟨y,my,ey⟩:=iZ.mp S.ml
  obtain ⟨j,hj⟩:=jN.mp my
  refine ⟨_,rfl,p,a.Net,dx,_,1,["self","place"],spNWant a,rfl,hp,dI _ _ (by decide +kernel) (by decide +kernel),T.cl_Net,by decide,gI T,_,rfl,p,ps,ds,j,pl,y.2,rfl,⟨dx,dw,dy,hp,hw,hy⟩,S.ok.np,by rw [hj,← ey],fun qw fw=>?_⟩
  refine ⟨_,rfl,t,_,_,_,rfl,rfl,sq,rfl,rfl,_,rfl,gW (by decide +kernel) ?_⟩
  exact ⟨_,rfl,_,rfl,_,rfl,p,t,d,dp,db,m,pl,ps,ds,kvs,r,rp,rb,wa,hq,q,rfl,ht,S,k⟩
inductive IspShowsMX (a:Ad) (vs:List V) (H:Hp) (E:XK):Prop
 | mk (p t:Addr) (pl:Str) (ps:List (Str × Rat)) (ds:List WD) (h1:vs=[.ref p,.str pl,.ref t]) (h2:NetAt a H p ps ds) (h3:¬ pl∈ps.map (·.1)) (h4:pl.length≤1000) (h5:NoPlaceE a H pl E):IspShowsMX a vs H E
noncomputable def spShowsMX (a:Ad):Sp:=fun vs H _ E=>IspShowsMX a vs H E
theorem ok_shows_mostX (T:TX K mg a):FnB P w K mg base (CX1 P w) "shows_most" 12 ["net","place","answer"] (spShowsMX a):=by
 refine T.d_shows_most.okX gY (fun vs H Q E h=>?_) (fun f cdv A outer s H vs Q E hr h=>?_)
 ·obtain ⟨_,_,_,_,_,rfl,_⟩:=h
  rfl
 ·obtain ⟨p,t,pl,ps,ds,rfl,hn,npl,ln,k⟩:=h
  refine ⟨_,(ag (cE (hU (CX:=CX1 P w) (pv 0) hr pass1 (aa (pv 1) ae)))
   (ag (aG (aw ba (ap al (pv 2) ac (fun _ _=>rfl)) ek (az _)) (ah (aq (av (iE T) hr ak (aa (pv 0) (aa (pv 1) (aa (pv 2) ae)))))) ay)
   (ag (aG (aw ba (ap al (pv 2) ac (fun _ _=>rfl)) ek (az _)) (ah (aq (av (hG T) hr ak (aa (pv 0) (aa (ap al (pv 2) ac (fun _ _=>rfl)) (aa (ap al (pv 2) ac (fun _ _=>rfl)) ae)))))) ay)
   (ag (aG (eN (cU (av (g9 T) hr ak (aa (pv 0) (aa (ap al (pv 2) ac (fun _ _=>rfl)) (aa (ap al (pv 2) ac (fun _ _=>rfl)) ae)))))) (ah (aq b9)) ay)
   (ah (aq (fF gw (eX T.fr (ap eF (av (no_sums T) hr ak (aa (pv 0) (aa (av (gJ T) hr ak (aa (pv 0) (aa (ap al (pv 2) ac (fun _ _=>rfl)) ae))) ae))) (pv 1) (fun _ _=>rfl)) (eZ T) hr ak) ac (az _)))))))),?_⟩
  try dsimp only [aM,Cx.nox,Cx.wish]
  obtain ⟨dx,dw,dy,hp,hw,hy⟩:=id hn
  exact ⟨_,rfl,p,a.Net,dx,_,3,["self","place"],spNWantX a,rfl,hp,dI _ _ (by decide +kernel) (by decide +kernel),T.cl_Net,by decide,ok_Net_wantX T,_,rfl,p,ps,ds,pl,rfl,hn,npl,ln,k⟩
theorem aN (x:Int) {m:Int} (h:0<m):0≤x % m∧x % m<m:=⟨Int.emod_nonneg x (by omega),Int.emod_lt_of_pos x h⟩
noncomputable def DueIs (H:Hp) (v:V) (c:Int × Int):Prop:=∃ t,v=.ref t∧H t=some (.tup [.int c.1,.int c.2])
theorem DueIs.mono {H H':Hp} {v:V} {c:Int × Int} (h:DueIs H v c) (s:Same H H'):DueIs H' v c:=by
 obtain ⟨t,e,f⟩:=h
 exact ⟨t,e,s _ _ f⟩
noncomputable def OptIs (H:Hp) (v:V):Option (Int × Int)→Prop
 | none=>v=.non
 | some c=>DueIs H v c
theorem OptIs.mono {H H':Hp} {v:V} {o:Option (Int × Int)} (h:OptIs H v o) (s:Same H H'):OptIs H' v o:=by
 cases o with
 | none=>exact h
 | some c=>exact DueIs.mono h s
structure KeepO (H H':Hp):Prop where
 tup:∀ b xs,H b=some (.tup xs)→H' b=some (.tup xs)
 ins:∀ b C dx fs,H b=some (.ins C dx fs)→H' b=some (.ins C dx fs)
theorem KeepO.of {H H':Hp} (s:Same H H'):KeepO H H':=⟨fun b _ e=>s b _ e,fun b _ _ _ e=>s b _ e⟩
theorem KeepO.lst {H:Hp} {l:Addr} {xs:List V} {o:HO} (h:H l=some (.lst xs)):KeepO H (upd H l o):=⟨fun b ys e=>by rw [aj (bh e h (by intro z;cases z))];exact e,fun b C dx fs e=>by rw [aj (bh e h (by intro z;cases z))];exact e⟩
theorem KeepO.dct {H:Hp} {l:Addr} {xs:List (Key × V)} {o:HO} (h:H l=some (.dK xs)):KeepO H (upd H l o):=⟨fun b ys e=>by rw [aj (bh e h (by intro z;cases z))];exact e,fun b C dx fs e=>by rw [aj (bh e h (by intro z;cases z))];exact e⟩
theorem DueIs.ko {H H':Hp} {v:V} {c:Int × Int} (h:DueIs H v c) (s:KeepO H H'):DueIs H' v c:=by
 obtain ⟨t,e,f⟩:=h
 exact ⟨t,e,s.tup _ _ f⟩
theorem OptIs.ko {H H':Hp} {v:V} {o:Option (Int × Int)} (h:OptIs H v o) (s:KeepO H H'):OptIs H' v o:=by
 cases o with
 | none=>exact h
 | some c=>exact DueIs.ko h s
theorem FrIs.ko {H H':Hp} {v:V} {x:Rat} (h:FrIs a H v x) (s:KeepO H H'):FrIs a H' v x:=by
 obtain ⟨q,e,d,f⟩:=h
 exact ⟨q,e,d,s.ins _ _ _ _ f⟩
theorem PlIs.ko {H H':Hp} {v:V} {p:Str × Rat} (h:PlIs a H v p) (s:KeepO H H'):PlIs a H' v p:=by
 obtain ⟨t,q,e,h1,d,f⟩:=h
 exact ⟨t,q,e,s.tup _ _ h1,d,s.ins _ _ _ _ f⟩
theorem WayIs.ko {H H':Hp} {v:V} {x:WD} (h:WayIs a H v x) (s:KeepO H H'):WayIs a H' v x:=h.keep fun b C dx fs _ e=>s.ins b C dx fs e
noncomputable def aL (ns:List Int) (k:Nat):Int:=if k<ns.length then ns.getD k 0 else if ns.length=0 then 0 else (ns.getD (k % ns.length) 0 % 1000003*48271+(k:Int)*k*7919) % 1000003
noncomputable def cb (k c:Int):Str:=Txt.mul ⟨#[sgAt (c % 37)]⟩ (c / 37 % 4*(1+c / 5 % 9 / 8*12))++⟨#[sgAt ((k*5+c / 148) % 37)]⟩++Txt.mul ⟨#[sgAt (c / 11 % 37)]⟩ (c / 7 % 3)
theorem nameA_inj {i j c:Int} (i0:0≤i) (i1:i<37) (j0:0≤j) (j1:j<37) (h:cb i c=cb j c):i=j:=by
 unfold cb at h
 have:=app_left (app_right h)
 injection this with e
 have e2:sgAt ((i*5+c / 148) % 37)=sgAt ((j*5+c / 148) % 37):=by simpa using e
 obtain ⟨a1,a2⟩:=aN (i*5+c / 148) (show (0:Int)<37 by decide)
 obtain ⟨b1,b2⟩:=aN (j*5+c / 148) (show (0:Int)<37 by decide)
 have:=sgAt_inj _ (by omega) _ (by omega) e2
 omega
noncomputable def bH (c:Int) (n:Nat):List Str:=(List.range n).map fun i:Nat=>cb (i:Int) c
theorem gR {c:Int} {n:Nat} (h:n≤37):(bH c n).Nodup:=by
 unfold bH
 rw [List.nodup_iff_pairwise_ne,List.pairwise_map]
 refine (List.nodup_range (n:=n)).imp_of_mem ?_
 intro i j hi hj ne e
 have hi:=List.mem_range.mp hi
 have hj:=List.mem_range.mp hj
 have:=nameA_inj (by omega) (by omega) (by omega) (by omega) e
 omega
theorem namesA_len (c:Int) (n:Nat):(bH c n).length=n:=by unfold bH;simp
theorem eL (c:Int) (n:Nat):bH c (n+1)=bH c n++[cb (n:Int) c]:=by unfold bH;rw [List.range_succ,i5];rfl
structure N50 (c:Int × Int):Prop where
 t:c.1.natAbs≤1000000
 b:1≤c.2
 b':c.2≤997
theorem N50.sm {c:Int × Int} (h:N50 c):Sm c.1∧Sm c.2:=by
 have:=h.t
 have:=h.b
 have:=h.b'
 exact ⟨Sm.of_le (n:=20) (by omega) (by decide),Sm.of_le (n:=20) (by omega) (by decide)⟩
noncomputable def vC (c:Int × Int):Rat:=Rat.divInt c.1 c.2
structure Nb (k:Nat) (c:Int × Int):Prop where
 t:c.1.natAbs≤2 ^ k
 b:1≤c.2
 b':c.2.natAbs≤2 ^ k
theorem Nb.sm {k:Nat} {c:Int × Int} (h:Nb k c) (hk:k<9000:=by decide):Sm c.1∧Sm c.2:=⟨Sm.of_le h.t hk,Sm.of_le h.b' hk⟩
theorem Nb.bd {k:Nat} {c:Int × Int} (h:Nb k c):Bd k (vC c):=Bd.divInt h.t h.b'
theorem Nb.mono {j k:Nat} {c:Int × Int} (h:Nb j c) (l:j≤k):Nb k c:=⟨i3 h.t (Nat.pow_le_pow_right (by decide) l),h.b,i3 h.b' (Nat.pow_le_pow_right (by decide) l)⟩
theorem N50.nb {c:Int × Int} (h:N50 c):Nb 20 c:=by
 have:=h.t
 have:=h.b
 have:=h.b'
 exact ⟨by omega,by omega,by omega⟩
noncomputable abbrev Ent:=Str × (Int × Int)
noncomputable def EntIs (H:Hp) (v:V) (e:Ent):Prop:=∃ t vp,v=.ref t∧H t=some (.tup [.str e.1,vp])∧DueIs H vp e.2
theorem EntIs.mono {H H':Hp} {v:V} {e:Ent} (h:EntIs H v e) (s:Same H H'):EntIs H' v e:=by
 obtain ⟨t,vp,x,y,z⟩:=h
 exact ⟨t,vp,x,s _ _ y,z.mono s⟩
theorem EntIs.ko {H H':Hp} {v:V} {e:Ent} (h:EntIs H v e) (s:KeepO H H'):EntIs H' v e:=by
 obtain ⟨t,vp,x,y,z⟩:=h
 exact ⟨t,vp,x,s.tup _ _ y,z.ko s⟩
structure W7 where
 nm:Str
 st:Str
 go:Str
 kd:Int
 gain:Int × Int
 hi:Option (Int × Int)
 co:Int × Int
noncomputable def W7Is (H:Hp) (v:V) (r:W7):Prop:=∃ p vg vh vc,v=.ref p∧H p=some (.tup [.str r.nm,.str r.st,.str r.go,.int r.kd,vg,vh,vc])∧DueIs H vg r.gain∧OptIs H vh r.hi∧DueIs H vc r.co
theorem W7Is.mono {H H':Hp} {v:V} {r:W7} (h:W7Is H v r) (s:Same H H'):W7Is H' v r:=by
 obtain ⟨p,vg,vh,vc,e,f,h1,h3,h4⟩:=h
 exact ⟨p,vg,vh,vc,e,s _ _ f,h1.mono s,h3.mono s,h4.mono s⟩
theorem W7Is.ko {H H':Hp} {v:V} {r:W7} (h:W7Is H v r) (s:KeepO H H'):W7Is H' v r:=by
 obtain ⟨p,vg,vh,vc,e,f,h1,h3,h4⟩:=h
 exact ⟨p,vg,vh,vc,e,s.tup _ _ f,h1.ko s,h3.ko s,h4.ko s⟩
structure W7Ok (sp:List Str) (r:W7):Prop where
 st:r.st∈sp
 go:r.go∈sp
 ne:r.st≠r.go
 k0:r.kd=0→r.gain=(1,1)
 k2:r.kd=2→r.gain.1≤r.gain.2
 g1:1≤r.gain.1∧r.gain.1≤4096
 g2:1≤r.gain.2∧r.gain.2≤4096
 hi:∀ c,r.hi=some c→0≤c.1∧N50 c
 co:Nb 60 r.co
inductive IspCellA (K:PySem.W.Frag) (vs:List V) (H:Hp) (Q:VK):Prop
 | mk (l:Addr) (ns:List Int) (k:Nat) (h1:vs=[.ref l,.int (k:Int)]) (h2:SqL K H l (ns.map V.int)) (h3:k≤1000) (h4:Q (.int (aL ns k)) H):IspCellA K vs H Q
noncomputable def spCellA (K:PySem.W.Frag):Sp:=fun vs H Q _=>IspCellA K vs H Q
theorem aA (T:TX K mg a):FnB P w K mg base CX0 "_law_cell_at" 1 ["_law_script","_law_k"] (spCellA K):=by
 refine T.d_law_cell_at.ok sc_law_cell_at (fun vs H Q E h=>?_) (fun f cdv A outer s H vs Q E hr h=>?_)
 ·obtain ⟨l,ns,i,rfl,_⟩:=h
  rfl
 ·obtain ⟨l,ns,i,rfl,hS,i1000,k⟩:=h
  refine ⟨_,(ag (aG (aw ft (pv 1) (aU cB (by rfl) T.z_len j7 (aa (pv 0) ae)) (az _)) (ah (aq (ap eF (pv 0) (pv 1) (fun _ _=>rfl)))) ay)
   (ag (aG (aw ba (aU cB (by rfl) T.z_len j7 (aa (pv 0) ae)) ac (az _)) (ah (aq ac)) ay)
   (ah (aq (am aI (am aS (am aT (am aI (ap eF (pv 0) (am aI (pv 1) (aU cB (by rfl) T.z_len j7 (aa (pv 0) ae))) (fun _ _=>rfl)) ac) ac) (am aT (am aT (pv 1) (pv 1)) ac)) ac))))),?_⟩
  try dsimp only [aM,Cx.nox,Cx.wish]
  have at_:∀ j:Nat,j<ns.length→atI (ns.map V.int) (j:Int)=some (.int (ns.getD j 0)):=fun j hj=>atI_nat (by rw [i4,jR,iO hj];rfl)
  refine ⟨_,rfl,_,rfl,_,_,rfl,.inl hS,_,_,rfl,rfl,_,rfl,?_⟩
  rw [iM]
  unfold aL at k
  refine ite2 (fun hlt=>?_) (fun hge=>?_)
  ·have hlt':(i:Int)<(ns.length:Int):=jG hlt
   have hl:i<ns.length:=by omega
   rw [if_pos hl] at k
   exact ⟨_,rfl,_,rfl,_,_,_,_,rfl,rfl,hS,at_ i hl,k⟩
  ·have hge':¬ (i:Int)<(ns.length:Int):=fun z=>hge (iW z)
   rw [if_neg (show ¬ i<ns.length by omega)] at k
   refine ⟨_,rfl,_,_,rfl,.inl hS,rfl,_,rfl,?_⟩
   rw [iM]
   refine ifV (fun h0=>?_) (fun h0=>?_)
   ·rw [if_pos (show ns.length=0 by omega)] at k
    exact k
   ·have hpos:0<ns.length:=by omega
    rw [if_neg (show ¬ ns.length=0 by omega)] at k
    have em:(i:Int) % ((ns.map V.int).length:Int)=((i % ns.length:Nat):Int):=by rw [iM];exact (Int.natCast_emod _ _).symm
    refine ⟨_,rfl,_,rfl,_,rfl,_,_,rfl,.inl hS,_,_,rfl,rfl,by rw [iM];omega,l,_,_,_,rfl,rfl,hS,by rw [em];exact at_ _ (Nat.mod_lt _ hpos),?_⟩
    have b1:=Int.emod_nonneg (ns.getD (i % ns.length) 0) (show (1000003:Int)≠0 by decide)
    have b2:=Int.emod_lt_of_pos (ns.getD (i % ns.length) 0) (show (0:Int)<1000003 by decide)
    refine ⟨_,_,rfl,rfl,by show (0:Int)<1000003;decide,_,_,rfl,rfl,?m1,_,rfl,_,rfl,_,_,rfl,rfl,?m2,_,_,rfl,rfl,?m3,_,_,rfl,rfl,_,_,rfl,rfl,by show (0:Int)<1000003;decide,k⟩
    case m1=>exact ⟨Sm.of_le (n:=20) (by omega) (by decide),Sm.of_le (n:=20) (by decide) (by decide)⟩
    case m2=>exact ⟨Sm.of_le (n:=20) (by omega) (by decide),Sm.of_le (n:=20) (by omega) (by decide)⟩
    case m3=>exact ⟨Sm.of_le (n:=20) (by rw [jD];exact i3 (Nat.mul_le_mul (show (i:Int).natAbs≤1000 by omega) (show (i:Int).natAbs≤1000 by omega)) (by decide)) (by decide),Sm.of_le (n:=20) (by decide) (by decide)⟩
inductive IspNameA (vs:List V) (H:Hp) (Q:VK):Prop
 | mk (k c:Int) (h1:vs=[.int k,.int c]) (h2:0≤k) (h3:k<37) (h4:Q (.str (cb k c)) H):IspNameA vs H Q
noncomputable def spNameA:Sp:=fun vs H Q _=>IspNameA vs H Q
theorem one_len {c:Nat}:(⟨#[c]⟩:Str).length=1:=rfl
theorem eK (T:TX K mg a):FnB P w K mg base CX0 "_law_name" 1 ["_law_at","_law_cell"] spNameA:=by
 refine T.d_law_name.ok sc_law_name (fun vs H Q E h=>?_) (fun f cdv A outer s H vs Q E hr h=>?_)
 ·obtain ⟨k,c,rfl,_⟩:=h
  rfl
 ·obtain ⟨i,c,rfl,h0,h1,k⟩:=h
  refine ⟨_,(ag (ar (i:=2) sc_law_name.nd rfl (Or.inl rfl) ek)
   (ag (ar (i:=3) sc_law_name.nd rfl (Or.inl rfl) (am op_rep_str (ap ix_str (pv 2) (am aI (pv 1) ac) (fun _ _=>rfl)) (am aT (am aI (am aO (pv 1) ac) ac) (am aS ac (am aT (am aO (am aI (am aO (pv 1) ac) ac) ac) ac)))))
   (ag (ar (i:=4) sc_law_name.nd rfl (Or.inl rfl) (ap ix_str (pv 2) (am aI (am aS (am aT (pv 0) ac) (am aO (pv 1) ac)) ac) (fun _ _=>rfl)))
   (ah (aq (am op_add_str (am op_add_str (pv 3) (pv 4)) (am op_rep_str (ap ix_str (pv 2) (am aI (am aO (pv 1) ac) ac) (fun _ _=>rfl)) (am aI (am aO (pv 1) ac) ac)))))))),?_⟩
  try dsimp only [aM,Cx.nox,Cx.wish]
  obtain ⟨p1,p2⟩:=aN c (show (0:Int)<37 by decide)
  obtain ⟨q1,q2⟩:=aN (c / 37) (show (0:Int)<4 by decide)
  obtain ⟨r1,r2⟩:=aN (c / 5) (show (0:Int)<9 by decide)
  obtain ⟨t1,t2⟩:=aN (i*5+c / 148) (show (0:Int)<37 by decide)
  obtain ⟨u1,u2⟩:=aN (c / 11) (show (0:Int)<37 by decide)
  obtain ⟨v1,v2⟩:=aN (c / 7) (show (0:Int)<3 by decide)
  unfold cb at k
  have d1:0≤c / 5 % 9 / 8∧c / 5 % 9 / 8≤1:=by omega
  have e1:0≤c / 37 % 4*(1+c / 5 % 9 / 8*12)∧c / 37 % 4*(1+c / 5 % 9 / 8*12)≤39:=by
   have g1:0≤1+c / 5 % 9 / 8*12:=by omega
   have g2:1+c / 5 % 9 / 8*12≤13:=by omega
   refine ⟨Int.mul_nonneg q1 g1,Int.le_trans (Int.mul_le_mul (show c / 37 % 4≤3 by omega) g2 g1 (by decide)) (by decide)⟩
  have l1:(Txt.mul (⟨#[sgAt (c % 37)]⟩:Str) (c / 37 % 4*(1+c / 5 % 9 / 8*12))).length≤39:=by rw [len_cps,mul_cps,jV];omega
  have l2:(Txt.mul (⟨#[sgAt (c / 11 % 37)]⟩:Str) (c / 7 % 3)).length≤3:=by rw [len_cps,mul_cps,jV];omega
  walk_at "rd"
  refine ⟨by rw [jF];decide,sgAt_some p1 p2,?_⟩
  walk_at "rd"
  refine ⟨⟨Sm.of_le (n:=20) (by omega) (by decide),Sm.of_le (n:=20) (by decide) (by decide)⟩,?_⟩
  walk_at "rd"
  refine ⟨⟨Sm.of_le (n:=20) (by omega) (by decide),Sm.of_le (n:=20) (by omega) (by decide)⟩,?_⟩
  walk_at "rd"
  refine ⟨show (c / 37 % 4*(1+c / 5 % 9 / 8*12)).natAbs<1000 by omega,?_⟩
  walk_at "rd"
  refine ⟨⟨Sm.of_le (n:=20) (by omega) (by decide),Sm.of_le (n:=20) (by decide) (by decide)⟩,?_⟩
  walk_at "rd"
  refine ⟨by rw [jF];decide,sgAt_some t1 t2,?_⟩
  walk_at "rd"
  refine ⟨by rw [jF,one_len];omega,?_⟩
  walk_at "rd"
  refine ⟨by rw [jF];decide,sgAt_some u1 u2,?_⟩
  walk_at "rd"
  refine ⟨by omega,?_⟩
  walk_at "rd"
  refine ⟨by rw [jF,PySem.strLen_append,one_len];omega,?_⟩
  exact k
inductive IspNum (vs:List V) (H:Hp) (Q:VK):Prop
 | mk (c:Int) (h1:vs=[.int c]) (h2:∀ (z:Int × Int) p,H p=none→N50 z→Q (.ref p) (upd H p (.tup [.int z.1,.int z.2]))):IspNum vs H Q
noncomputable def spNum:Sp:=fun vs H Q _=>IspNum vs H Q
theorem g8 (T:TX K mg a):FnB P w K mg base CX0 "_law_number" 1 ["_law_cell"] spNum:=by
 refine T.d_law_number.ok sc_law_number (fun vs H Q E h=>?_) (fun f cdv A outer s H vs Q E hr h=>?_)
 ·obtain ⟨c,rfl,_⟩:=h
  rfl
 ·obtain ⟨c,rfl,k⟩:=h
  refine ⟨_,(ag (aG (aw ba (am aI (am aO (pv 0) ac) ac) ac (az _)) (ah (aq (aF (aa ac (aa ac ae))))) ay)
   (ag (aG (aw ba (am aI (am aO (pv 0) ac) ac) ac (az _)) (ah (aq (aF (aa (am op_sub (am aI (am aO (pv 0) ac) ac) ac) (aa ac ae))))) ay)
   (ah (aq (aF (aa (am op_sub (am aI (pv 0) ac) ac) (aa (am aS ac (am aI (am aO (pv 0) ac) ac)) ae))))))),?_⟩
  try dsimp only [aM,Cx.nox,Cx.wish]
  walk_at "rd"
  refine ifV (fun h1=>⟨by show 2≤sizeLine;decide,fun p np=>k (0,1) p np ⟨by decide,by decide,by decide⟩⟩) (fun h1=>?_)
  walk_at "rd"
  refine ifV (fun h2=>?_) (fun h2=>?_)
  ·walk_at "rd"
   obtain ⟨e0,e1⟩:=aN (c / 750) (show (0:Int)<2000001 by decide)
   exact ⟨by show 2≤sizeLine;decide,fun p np=>k (c / 750 % 2000001-1000000,1) p np ⟨by dsimp only;omega,by dsimp only;decide,by dsimp only;decide⟩⟩
  ·walk_at "rd"
   obtain ⟨e0,e1⟩:=aN c (show (0:Int)<25 by decide)
   obtain ⟨f0,f1⟩:=aN (c / 25) (show (0:Int)<6 by decide)
   exact ⟨by show 2≤sizeLine;decide,fun p np=>k (c % 25-9,1+c / 25 % 6) p np ⟨by dsimp only;omega,by dsimp only;omega,by dsimp only;omega⟩⟩
inductive IspNotU (vs:List V) (H:Hp) (Q:VK):Prop
 | mk (c:Int) (h1:vs=[.int c]) (h2:∀ (z:Int × Int) p,H p=none→0≤z.1→N50 z→Q (.ref p) (upd H p (.tup [.int z.1,.int z.2]))):IspNotU vs H Q
noncomputable def spNotU:Sp:=fun vs H Q _=>IspNotU vs H Q
theorem ez (T:TX K mg a):FnB P w K mg base CX0 "_law_not_under" 1 ["_law_cell"] spNotU:=by
 refine T.d_law_not_under.ok sc_law_not_under (fun vs H Q E h=>?_) (fun f cdv A outer s H vs Q E hr h=>?_)
 ·obtain ⟨c,rfl,_⟩:=h
  rfl
 ·obtain ⟨c,rfl,k⟩:=h
  refine ⟨_,(ag (aG (aw ba (am aI (am aO (pv 0) ac) ac) ac (az _)) (ah (aq (aF (aa (am aI (am aO (pv 0) ac) ac) (aa ac ae))))) ay)
   (ah (aq (aF (aa (am aI (pv 0) ac) (aa (am aS ac (am aI (am aO (pv 0) ac) ac)) ae)))))),?_⟩
  try dsimp only [aM,Cx.nox,Cx.wish]
  walk_at "rd"
  refine ifV (fun h1=>?_) (fun h1=>?_)
  ·walk_at "rd"
   obtain ⟨e0,e1⟩:=aN (c / 360) (show (0:Int)<1000001 by decide)
   exact ⟨by show 2≤sizeLine;decide,fun p np=>k (c / 360 % 1000001,1) p np e0 ⟨by dsimp only;omega,by dsimp only;decide,by dsimp only;decide⟩⟩
  ·walk_at "rd"
   obtain ⟨e0,e1⟩:=aN c (show (0:Int)<15 by decide)
   obtain ⟨f0,f1⟩:=aN (c / 15) (show (0:Int)<4 by decide)
   exact ⟨by show 2≤sizeLine;decide,fun p np=>k (c % 15,1+c / 15 % 4) p np e0 ⟨by dsimp only;omega,by dsimp only;omega,by dsimp only;omega⟩⟩
inductive IspHigh50 (vs:List V) (H:Hp) (Q:VK):Prop
 | mk (c:Int) (h1:vs=[.int c]) (h2:∀ (v:V) (o:Option (Int × Int)) H',Same H H'→OptIs H' v o→(∀ z,o=some z→0≤z.1∧N50 z)→Q v H'):IspHigh50 vs H Q
noncomputable def spHigh50:Sp:=fun vs H Q _=>IspHigh50 vs H Q
theorem ok_law_high (T:TX K mg a):FnB P w K mg base CX0 "_law_high" 2 ["_law_cell"] spHigh50:=by
 refine T.d_law_high.ok sc_law_high (fun vs H Q E h=>?_) (fun f cdv A outer s H vs Q E hr h=>?_)
 ·obtain ⟨c,rfl,_⟩:=h
  rfl
 ·obtain ⟨c,rfl,k⟩:=h
  refine ⟨_,(ag (aG (aw ba (am aI (pv 0) ac) ac (az _)) (ah (aq b8)) ay)
   (ah (aq (av (ez T) hr ak (aa (am aO (pv 0) ac) ae))))),?_⟩
  try dsimp only [aM,Cx.nox,Cx.wish]
  walk_at "rd"
  refine ifV (fun h1=>k .non none H (Same.refl _) rfl (fun z hz=>by cases hz)) (fun h1=>?_)
  refine ⟨_,rfl,_,_,rfl,rfl,⟨by decide,by decide⟩,_,rfl,fun z p np z0 nz=>k (.ref p) (some z) _ (ai np) ⟨p,rfl,ad⟩ (fun y hy=>by cases hy;exact ⟨z0,nz⟩)⟩
inductive IspGainBy (vs:List V) (H:Hp) (Q:VK):Prop
 | mk (c:Int) (h1:vs=[.int c]) (h2:∀ (g:Int × Int) p,H p=none→(c % 4=0→g=(1,1))→(c % 4=2→g.1≤g.2)→1≤g.1∧g.1≤997→1≤g.2∧g.2≤997→Q (.ref p) (upd H p (.tup [.int g.1,.int g.2]))):IspGainBy vs H Q
noncomputable def spGainBy:Sp:=fun vs H Q _=>IspGainBy vs H Q
theorem ok_law_gain_by (T:TX K mg a):FnB P w K mg base CX0 "_law_gain_by" 1 ["_law_cell"] spGainBy:=by
 refine T.d_law_gain_by.ok sc_law_gain_by (fun vs H Q E h=>?_) (fun f cdv A outer s H vs Q E hr h=>?_)
 ·obtain ⟨c,rfl,_⟩:=h
  rfl
 ·obtain ⟨c,rfl,k⟩:=h
  refine ⟨_,(ag (aG (aw ba (am aI (pv 0) ac) ac (az _)) (ah (aq (aF (aa ac (aa ac ae))))) ay)
   (ag (aG (aw ba (am aI (pv 0) ac) ac (az _)) (ah (aq (aF (aa (am aS ac (am aI (am aO (pv 0) ac) ac)) (aa (am aS (am aS ac (am aI (am aO (pv 0) ac) ac)) (am aI (am aO (pv 0) ac) ac)) ae))))) ay)
   (ag (aG (aw ba (am aI (pv 0) ac) ac (az _)) (ah (aq (aF (aa (am aS ac (am aI (am aO (pv 0) ac) ac)) (aa (am aS ac (am aI (am aO (pv 0) ac) ac)) ae))))) ay)
   (ah (aq (aF (aa (am aS ac (am aI (am aO (pv 0) ac) ac)) (aa (am aS ac (am aI (am aO (pv 0) ac) ac)) ae)))))))),?_⟩
  try dsimp only [aM,Cx.nox,Cx.wish]
  walk_at "rd"
  refine ifV (fun h1=>⟨by show 2≤sizeLine;decide,fun p np=>k (1,1) p np (fun _=>rfl) (fun z=>by omega) ⟨by decide,by decide⟩ ⟨by decide,by decide⟩⟩) (fun h1=>?_)
  walk_at "rd"
  refine ifV (fun h2=>?_) (fun h2=>?_)
  ·walk_at "rd"
   obtain ⟨e0,e1⟩:=aN (c / 4) (show (0:Int)<5 by decide)
   obtain ⟨f0,f1⟩:=aN (c / 20) (show (0:Int)<5 by decide)
   exact ⟨by show 2≤sizeLine;decide,fun p np=>k (1+c / 4 % 5,1+c / 4 % 5+c / 20 % 5) p np (fun z=>by omega) (fun z=>by dsimp only;omega) (by dsimp only;omega) (by dsimp only;omega)⟩
  walk_at "rd"
  refine ifV (fun h3=>?_) (fun h3=>?_)
  ·walk_at "rd"
   obtain ⟨e0,e1⟩:=aN (c / 4) (show (0:Int)<997 by decide)
   obtain ⟨f0,f1⟩:=aN (c / 3988) (show (0:Int)<997 by decide)
   exact ⟨by show 2≤sizeLine;decide,fun p np=>k (1+c / 4 % 997,1+c / 3988 % 997) p np (fun z=>by omega) (fun z=>by omega) (by dsimp only;omega) (by dsimp only;omega)⟩
  ·walk_at "rd"
   obtain ⟨e0,e1⟩:=aN (c / 4) (show (0:Int)<6 by decide)
   obtain ⟨f0,f1⟩:=aN (c / 24) (show (0:Int)<6 by decide)
   exact ⟨by show 2≤sizeLine;decide,fun p np=>k (1+c / 4 % 6,1+c / 24 % 6) p np (fun z=>by omega) (fun z=>by omega) (by dsimp only;omega) (by dsimp only;omega)⟩
inductive IspEnds (K:PySem.W.Frag) (vs:List V) (H:Hp) (Q:VK):Prop
 | mk (c:Int) (l:Addr) (ts:List V) (es:List Ent) (h1:vs=[.int c,.ref l]) (h2:SqL K H l ts) (h3:RowAt EntIs H ts es) (h4:(es.map (·.1)).Nodup) (h5:2≤es.length) (h6:es.length≤100) (h7:∀ (st go:Str) p,H p=none→st∈es.map (·.1)→go∈es.map (·.1)→st≠go→Q (.ref p) (upd H p (.tup [.str st,.str go]))):IspEnds K vs H Q
noncomputable def spEnds (K:PySem.W.Frag):Sp:=fun vs H Q _=>IspEnds K vs H Q
theorem ok_law_ends (T:TX K mg a):FnB P w K mg base CX0 "_law_ends" 1 ["_law_cell","_law_places"] (spEnds K):=by
 refine T.d_law_ends.ok sc_law_ends (fun vs H Q E h=>?_) (fun f cdv A outer s H vs Q E hr h=>?_)
 ·obtain ⟨c,l,ts,es,rfl,_⟩:=h
  rfl
 ·obtain ⟨c,l,ts,es,rfl,hl,hes,nd,l2,l100,k⟩:=h
  refine ⟨_,(ag (ar (i:=2) sc_law_ends.nd rfl (Or.inl rfl) (aU cB (by rfl) T.z_len j7 (aa (pv 1) ae)))
   (ag (ar (i:=3) sc_law_ends.nd rfl (Or.inl rfl) (am aI (pv 0) (pv 2)))
   (ag (ar (i:=4) sc_law_ends.nd rfl (Or.inl rfl) (am aI (am aS (am aS (pv 3) ac) (am aI (am bu (pv 0) (pv 2)) (am op_sub (pv 2) ac))) (pv 2)))
   (ah (aq (aF (aa (ap al (ap eF (pv 1) (pv 3) (fun _ _=>rfl)) ac (fun _ _=>rfl)) (aa (ap al (ap eF (pv 1) (pv 4) (fun _ _=>rfl)) ac (fun _ _=>rfl)) ae)))))))),?_⟩
  try dsimp only [aM,Cx.nox,Cx.wish]
  have lt:ts.length=es.length:=hes.1
  have np:(0:Int)<(ts.length:Int):=by omega
  have np1:(0:Int)<(ts.length:Int)-1:=by omega
  obtain ⟨a0,a1⟩:=aN c np
  obtain ⟨b0,b1⟩:=aN (c.fdiv (ts.length:Int)) np1
  obtain ⟨g0,g1'⟩:=aN (c % (ts.length:Int)+1+c.fdiv (ts.length:Int) % ((ts.length:Int)-1)) np
  obtain ⟨i,hi⟩:=ju a0
  obtain ⟨j,hj⟩:=ju g0
  have il:i<es.length:=by omega
  have jl:j<es.length:=by omega
  have ij:i≠j:=by
   intro z
   have h1:(c % (ts.length:Int)+1+c.fdiv (ts.length:Int) % ((ts.length:Int)-1)) % (ts.length:Int)=c % (ts.length:Int):=by omega
   generalize c.fdiv (ts.length:Int) % ((ts.length:Int)-1)=u at *
   generalize c % (ts.length:Int)=v at *
   have h2:(v+1+u) % (ts.length:Int)=v:=h1
   by_cases h3:v+1+u<ts.length
   ·rw [Int.emod_eq_of_lt (by omega) h3] at h2
    omega
   ·rw [show v+1+u=(v+1+u-(ts.length:Int))+(ts.length:Int) by omega,Int.add_emod_right,Int.emod_eq_of_lt (by omega) (by omega)] at h2
    omega
  obtain ⟨x,ex⟩:∃ x,es[i]?=some x:=⟨_,iO il⟩
  obtain ⟨y,ey⟩:∃ y,es[j]?=some y:=⟨_,iO jl⟩
  obtain ⟨tx,etx,t1,v1,rfl,ht1,_⟩:=hes.get' ex
  obtain ⟨ty,ety,t2,v2,rfl,ht2,_⟩:=hes.get' ey
  have ne:x.1≠y.1:=fun e=>ij ((List.getElem?_inj (by rw [iM];exact il) nd).mp (by rw [i4,i4,ex,ey];exact jy some e))
  refine ⟨_,rfl,l,_,rfl,.inl hl,_,rfl,_,rfl,_,_,rfl,rfl,np,?_⟩
  refine ⟨_,rfl,_,_,rfl,rfl,_,rfl,_,rfl,_,_,rfl,rfl,?d1,_,rfl,_,_,rfl,rfl,_,_,rfl,rfl,np1,_,_,rfl,rfl,_,rfl,_,_,rfl,rfl,np,?_⟩
  case d1=>exact ⟨by omega,Sm.of_le (n:=20) (by omega) (by decide)⟩
  refine ⟨_,rfl,_,rfl,l,_,_,_,rfl,rfl,hl,by rw [hi];exact atI_nat etx,t1,_,_,_,rfl,rfl,SqT.of ht1,rfl,_,rfl,_,rfl,l,_,_,_,rfl,rfl,hl,by rw [hj];exact atI_nat ety,t2,_,_,_,rfl,rfl,SqT.of ht2,rfl,by show 2≤sizeLine;decide,fun p np=>?_⟩
  exact k x.1 y.1 p np (iZ.mpr ⟨x,iR ex,rfl⟩) (iZ.mpr ⟨y,iR ey,rfl⟩) ne
theorem divInt_self' {b:Int} (h:b≠0):Rat.divInt b b=1:=by
 rw [show (1:Rat)=Rat.divInt 1 1 from rfl,jA h (by decide)]
 omega
theorem lt_one {n d:Int} (hd:0<d) (h:n<d):Rat.divInt n d<1:=by
 rw [show (1:Rat)=Rat.divInt 1 1 from rfl,lt_div hd (by decide)]
 omega
theorem nn_num {n d:Int} (hd:0<d) (h:0≤n):0≤(Rat.divInt n d).num:=Rat.num_nonneg.mpr ((divInt_nn n hd).mpr h)
theorem pos_num {n d:Int} (hd:0<d) (h:0<n):0<(Rat.divInt n d).num:=by
 have h1:=nn_num hd (Int.le_of_lt h)
 have h2:(Rat.divInt n d).num≠0:=fun e=>by
  have h3:=Rat.num_divInt_den (Rat.divInt n d)
  rw [e,Rat.zero_divInt] at h3
  have:=(jA (show (1:Int)≠0 by decide) (show d≠0 by omega)).mp (show Rat.divInt 0 1=Rat.divInt n d from by rw [← h3,Rat.zero_divInt])
  omega
 omega
noncomputable def W7.d (r:W7):WD:=if r.kd=0 then ⟨r.nm,r.st,r.go,.way,0,r.hi.map vC,vC r.co⟩ else if r.kd=2 then ⟨r.nm,r.st,r.go,.lea,Rat.divInt (r.gain.2-r.gain.1) r.gain.2,r.hi.map vC,vC r.co⟩ else ⟨r.nm,r.st,r.go,.gro,Rat.divInt r.gain.1 r.gain.2,r.hi.map vC,vC r.co⟩
theorem W7.d_nm (r:W7):r.d.nm=r.nm:=by unfold W7.d;split <;> (try split) <;> rfl
theorem W7.d_st (r:W7):r.d.st=r.st:=by unfold W7.d;split <;> (try split) <;> rfl
theorem W7.d_go (r:W7):r.d.go=r.go:=by unfold W7.d;split <;> (try split) <;> rfl
theorem W7.d_hi (r:W7):r.d.hi=r.hi.map vC:=by unfold W7.d;split <;> (try split) <;> rfl
theorem W7.d_co (r:W7):r.d.co=vC r.co:=by unfold W7.d;split <;> (try split) <;> rfl
theorem W7.d_gain {r:W7} {sp:List Str} (h:W7Ok sp r):dH r.d.kd r.d.x=vC r.gain:=by
 have g2:=h.g2
 have hb:r.gain.2≠0:=by omega
 unfold W7.d
 split
 ·rename_i e
  rw [h.k0 e]
  rfl
 ·split
  ·show 1-Rat.divInt (r.gain.2-r.gain.1) r.gain.2=Rat.divInt _ _
   rw [show (1:Rat)=Rat.divInt r.gain.2 r.gain.2 from (divInt_self' hb).symm,Rat.divInt_sub_divInt _ _ hb hb,jA (jY hb hb) hb]
   grind
  ·rfl
theorem W7.d_sm {r:W7} {sp:List Str} (h:W7Ok sp r):SmR r.d.x∧SmR (dH r.d.kd r.d.x)∧SmR r.d.co:=by
 obtain ⟨a1,a2⟩:=h.g1
 obtain ⟨b1,b2⟩:=h.g2
 refine ⟨?_,?_,?_⟩
 ·unfold W7.d
  split
  ·exact ⟨Nat.two_pow_pos _,sm1⟩
  ·split
   ·exact (Bd.divInt (n:=12) (by omega) (by omega)).smr (by decide)
   ·exact (Bd.divInt (n:=12) (by omega) (by omega)).smr (by decide)
 ·rw [W7.d_gain h]
  exact (Bd.divInt (n:=12) (by omega) (by omega)).smr (by decide)
 ·rw [W7.d_co]
  exact h.co.bd.smr (by decide)
inductive IspWay50 (a:Ad) (vs:List V) (H:Hp) (Q:VK):Prop
 | mk (v:V) (r:W7) (sp:List Str) (h1:vs=[v]) (h2:W7Is H v r) (h3:W7Ok sp r) (h4:∀ p H',H p=none→Same H H'→WayIs a H' (.ref p) r.d→Q (.ref p) H'):IspWay50 a vs H Q
noncomputable def spWay50 (a:Ad):Sp:=fun vs H Q _=>IspWay50 a vs H Q
theorem ok_law_way (T:TX K mg a):FnB P w K mg base CX0 "_law_way" 7 ["_law_way_here"] (spWay50 a):=by
 refine T.d_law_way.ok sc_law_way (fun vs H Q E h=>?_) (fun f cdv A outer s H vs Q E hr h=>?_)
 ·obtain ⟨_,_,_,rfl,_⟩:=h
  rfl
 ·obtain ⟨v,r,sp,rfl,⟨p,vg,vh,vc,rfl,hp,⟨pg,rfl,hg⟩,hhi,⟨pc,rfl,hc⟩⟩,ok,k⟩:=h
  refine ⟨_,(ag (gj (pv 0) (eO rfl (aD (ax (i:=1) sc_law_way.nd rfl (Or.inl rfl)) (aD (ax (i:=2) sc_law_way.nd rfl (Or.inl rfl)) (aD (ax (i:=3) sc_law_way.nd rfl (Or.inl rfl)) (aD (ax (i:=4) sc_law_way.nd rfl (Or.inl rfl)) (aD (ax (i:=5) sc_law_way.nd rfl (Or.inl rfl)) (aD (ax (i:=6) sc_law_way.nd rfl (Or.inl rfl)) (aD (ax (i:=7) sc_law_way.nd rfl (Or.inl rfl)) bZ)))))))))
   (ag (ar (i:=8) sc_law_way.nd rfl (Or.inl rfl) b8)
   (aP (aG (aw dF (pv 6) b8 (az _)) (ah (ar (i:=8) sc_law_way.nd rfl (Or.inl rfl) (bT (mk2 T) hr T.mg_Fraction ak (aa (ap al (pv 6) ac (fun _ _=>rfl)) (aa (ap al (pv 6) ac (fun _ _=>rfl)) ae))))) ay)
   (ag (ar (i:=9) sc_law_way.nd rfl (Or.inl rfl) (bT (mk2 T) hr T.mg_Fraction ak (aa (ap al (pv 7) ac (fun _ _=>rfl)) (aa (ap al (pv 7) ac (fun _ _=>rfl)) ae))))
   (ag (aG (aw ba (pv 4) ac (az _)) (ah (aq (pe_mk (mk_Way T) hr T.mg_Way ak (aa (pv 1) (aa (pv 2) (aa (pv 3) (aa (pv 8) (aa (pv 9) ae)))))))) ay)
   (ag (aG (aw ba (pv 4) ac (az _)) (ah (aq (pe_mk (hZ T) hr T.mg_Leaking ak (aa (pv 1) (aa (pv 2) (aa (pv 3) (aa (bT (mk2 T) hr T.mg_Fraction ak (aa (am op_sub (ap al (pv 5) ac (fun _ _=>rfl)) (ap al (pv 5) ac (fun _ _=>rfl))) (aa (ap al (pv 5) ac (fun _ _=>rfl)) ae))) (aa (pv 8) (aa (pv 9) ae))))))))) ay)
   (ah (aq (pe_mk (ia T) hr T.mg_Growing ak (aa (pv 1) (aa (pv 2) (aa (pv 3) (aa (bT (mk2 T) hr T.mg_Fraction ak (aa (ap al (pv 5) ac (fun _ _=>rfl)) (aa (ap al (pv 5) ac (fun _ _=>rfl)) ae))) (aa (pv 8) (aa (pv 9) ae))))))))))))))),?_⟩
  try dsimp only [aM,Cx.nox,Cx.wish]
  refine ⟨_,rfl,p,_,rfl,SqT.of hp,rfl,_,_,rfl,_,_,rfl,_,_,rfl,_,_,rfl,_,_,rfl,_,_,rfl,_,_,rfl,rfl,?_⟩
  refine ⟨fun σ' H'=>∃ (vb:V) (z9:Option V),σ'=[some (.ref p),some (.str r.nm),some (.str r.st),some (.str r.go),some (.int r.kd),some (.ref pg),some vh,some (.ref pc),some vb,z9]∧Same H H'∧HiOk a.Fraction H' vb∧HiT a H' vb (r.hi.map vC),?_,?_⟩
  ·cases ho:r.hi with
   | none=>
    rw [ho] at hhi
    obtain rfl:vh=.non:=hhi
    refine ⟨_,rfl,rfl,_,rfl,iteF ?_⟩
    exact ⟨V.non,_,rfl,Same.refl _,.inl rfl,rfl⟩
   | some c=>
    rw [ho] at hhi
    obtain ⟨ph,rfl,hph⟩:=hhi
    obtain ⟨h0,h1⟩:=ok.hi c ho
    have:=h1.b
    refine ⟨_,rfl,rfl,_,rfl,iteT ?_⟩
    refine ⟨_,rfl,ph,_,_,_,rfl,rfl,SqT.of hph,rfl,_,rfl,ph,_,_,_,rfl,rfl,SqT.of hph,rfl,_,_,rfl,by omega,h1.sm.2,fun q H1 nq s1 f1=>?_⟩
    exact ⟨.ref q,_,rfl,s1,.inr ⟨q,_,rfl,f1,nn_num (by omega) h0⟩,⟨q,rfl,f1⟩⟩
  rintro σ' H1 ⟨vb,z9,rfl,s1,hb,hT⟩
  obtain ⟨_,co1,_⟩:=id ok.co
  obtain ⟨ga1,ga2⟩:=ok.g1
  obtain ⟨gb1,gb2⟩:=ok.g2
  have hc1:=s1 _ _ hc
  refine ⟨_,rfl,pc,_,_,_,rfl,rfl,SqT.of hc1,rfl,_,rfl,pc,_,_,_,rfl,rfl,SqT.of hc1,rfl,_,_,rfl,by omega,ok.co.sm.2,fun qc H2 nqc s2 f2=>?_⟩
  have s12:=s1.trans s2
  have hg2:=s12 _ _ hg
  have hb2:=hb.mono s2
  have cof:∀ (H':Hp) (p:Addr) {vc':V},CoIs a.Fraction H' p (.ref qc) vc'→Same H2 H'→∃ z,vc'=.ref z∧FrAt a.Fraction H' z (vC r.co):=fun H' p vc' co ss=>by
   rcases co with ⟨_,e⟩ | ⟨e,_⟩
   ·exact ⟨qc,e,f2.mono ss⟩
   ·cases e
  refine ⟨_,rfl,rfl,_,rfl,ifV (fun h0=>?_) (fun h0=>?_)⟩
  ·refine ⟨_,rfl,_,rfl,_,rfl,_,rfl,_,rfl,?_⟩
   refine mkW (x:=0) T ok.ne hb2 fun q H' vc' q' nq ss W co=>k q H' (s12.free nq) (s12.trans ss) (by unfold W7.d;rw [if_pos h0];exact ⟨q,_,_,q',rfl,W,by nofun,cof _ _ co (ss),hT.mono (s2.trans (ss))⟩)
  refine ⟨_,rfl,rfl,_,rfl,ifV (fun h1=>?_) (fun h1=>?_)⟩
  ·have gl:=ok.k2 h1
   refine ⟨_,rfl,_,rfl,_,rfl,_,rfl,pg,_,_,_,rfl,rfl,SqT.of hg2,rfl,_,rfl,pg,_,_,_,rfl,rfl,SqT.of hg2,rfl,_,_,rfl,rfl,_,rfl,pg,_,_,_,rfl,rfl,SqT.of hg2,rfl,_,_,rfl,by omega,Sm.of_le (n:=12) (by omega) (by decide),fun q3 H3 nq3 s3 f3=>⟨_,rfl,_,rfl,?_⟩⟩
   refine mkL T ok.ne f3 ⟨nn_num (by omega) (by omega),lt_one (by omega) (by omega),(Bd.divInt (n:=12) (by omega) (by omega)).smr (by decide)⟩ (hb2.mono s3) fun q H' vc' q' nq ss W co=>k q H' (s12.free (s3.free nq)) (s12.trans (s3.trans ss)) (by unfold W7.d;rw [if_neg h0,if_pos h1];exact ⟨q,_,_,q',rfl,W,by nofun,cof _ _ co (s3.trans ss),hT.mono (s2.trans (s3.trans ss))⟩)
  ·refine ⟨_,rfl,_,rfl,_,rfl,_,rfl,pg,_,_,_,rfl,rfl,SqT.of hg2,rfl,_,rfl,pg,_,_,_,rfl,rfl,SqT.of hg2,rfl,_,_,rfl,by omega,Sm.of_le (n:=12) (by omega) (by decide),fun q3 H3 nq3 s3 f3=>⟨_,rfl,_,rfl,?_⟩⟩
   refine mkG T ok.ne f3 (pos_num (by omega) (by omega)) (hb2.mono s3) fun q H' vc' q' nq ss W co=>k q H' (s12.free (s3.free nq)) (s12.trans (s3.trans ss)) (by unfold W7.d;rw [if_neg h0,if_neg h1];exact ⟨q,_,_,q',rfl,W,by nofun,cof _ _ co (s3.trans ss),hT.mono (s2.trans (s3.trans ss))⟩)
structure Told (H:Hp) (t lp lw:Addr) (tp tw:List V) (es:List Ent) (rs:List W7):Prop where
 ht:H t=some (.tup [.ref lp,.ref lw])
 hp:H lp=some (.lst tp)
 hw:H lw=some (.lst tw)
 rp:RowAt EntIs H tp es
 rw:RowAt W7Is H tw rs
theorem Told.mono {H H':Hp} {t lp lw:Addr} {tp tw:List V} {es:List Ent} {rs:List W7} (h:Told H t lp lw tp tw es rs) (s:Same H H'):Told H' t lp lw tp tw es rs:=⟨s _ _ h.ht,s _ _ h.hp,s _ _ h.hw,h.rp.mono fun _ _ z=>z.mono s,h.rw.mono fun _ _ z=>z.mono s⟩
structure TOk (es:List Ent) (rs:List W7):Prop where
 l12:es.length≤12
 l24:rs.length≤24
 nd:(es.map (·.1)).Nodup
 nw:(rs.map (·.nm)).Nodup
 eok:∀ e∈es,Nb 600 e.2
 rok:∀ r∈rs,W7Ok (es.map (·.1)) r
noncomputable def psT (es:List Ent):List (Str × Rat):=es.map fun e=>(e.1,vC e.2)
noncomputable def dsT (rs:List W7):List WD:=rs.map W7.d
theorem iw (es:List Ent):(psT es).map (·.1)=es.map (·.1):=by unfold psT;rw [jz];rfl
theorem dsT_n (rs:List W7):(dsT rs).map (·.nm)=rs.map (·.nm):=by unfold dsT;rw [jz];exact List.map_congr_left fun r _=>W7.d_nm r
theorem TOk.net {es:List Ent} {rs:List W7} (h:TOk es rs):NetOk (psT es) (dsT rs):=by
 refine ⟨by rw [iw];exact h.nd,by unfold psT;rw [iM];exact h.l12,by rw [dsT_n];exact h.nw,by unfold dsT;rw [iM];exact h.l24,fun d hd=>?_⟩
 obtain ⟨r,hr,rfl⟩:=iZ.mp hd
 rw [iw,W7.d_st,W7.d_go]
 exact ⟨(h.rok r hr).st,(h.rok r hr).go⟩
inductive IspBuilt (a:Ad) (vs:List V) (H:Hp) (Q:VK):Prop
 | mk (t lp lw:Addr) (tp tw:List V) (es:List Ent) (rs:List W7) (h1:vs=[.ref t]) (h2:Told H t lp lw tp tw es rs) (h3:TOk es rs) (h4:∀ p H',H p=none→Same H H'→NetAt a H' p (psT es) (dsT rs)→Q (.ref p) H'):IspBuilt a vs H Q
noncomputable def spBuilt (a:Ad):Sp:=fun vs H Q _=>IspBuilt a vs H Q
theorem ok_law_built (T:TX K mg a):FnB P w K mg base CX0 "_law_built" 9 ["_law_told"] (spBuilt a):=by
 refine T.d_law_built.ok sc_law_built (fun vs H Q E h=>?_) (fun f cdv A outer s H vs Q E hr h=>?_)
 ·obtain ⟨_,_,_,_,_,_,_,rfl,_⟩:=h
  rfl
 ·obtain ⟨t,lp,lw,tp,tw,es,rs,rfl,td,ok,k⟩:=h
  refine ⟨_,(aP (dD (i:=1) (xs:=["_law_place"]) (rest:=[]) sc_law_built.nd rfl rfl rfl (aX (ap al (pv 0) ac (fun _ _=>rfl)))
   (fun pins fp C' s' H'=>(ax (i:=0) (show (["_law_place"]:List Str).Nodup by decide +kernel) rfl (Or.inl rfl))) (fun pins fp C' s' H'=>cY)
   (fun pins fp C' s' H'=>(aF (aa (ap (r:=rIxT K) al (pv 0) ac (fun _ _=>rfl)) (aa (bT (mk2 T) hr T.mg_Fraction ak (aa (ap (r:=rIxT K) al (ap (r:=rIxT K) al (pv 0) ac (fun _ _=>rfl)) ac (fun _ _=>rfl)) (aa (ap (r:=rIxT K) al (ap (r:=rIxT K) al (pv 0) ac (fun _ _=>rfl)) ac (fun _ _=>rfl)) ae))) ae))))
   (Clos.none (by decide +kernel) (by decide +kernel)) (Reads.many (ys:=[]) (js:=[]) True.intro))
   (ah (aq (pe_mk (mk_Net T) hr T.mg_Net ak (aa (pv 1) (aa (fS (xs:=["_law_way_here"]) (rest:=[]) rfl (aX (ap al (pv 0) ac (fun _ _=>rfl)))
   (fun pins fp C' s' H'=>(ax (i:=0) (show (["_law_way_here"]:List Str).Nodup by decide +kernel) rfl (Or.inl rfl))) (fun pins fp C' s' H'=>cY)
   (fun pins fp C' s' H'=>(av (ok_law_way T) hr ak (aa (pv 0) ae)))
   (Clos.none (by decide +kernel) (by decide +kernel)) (Reads.many (ys:=[]) (js:=[]) True.intro)) ae)))))),?_⟩
  try dsimp only [aM,Cx.nox,Cx.wish]
  have l12:=ok.l12
  have l24:=ok.l24
  refine ⟨fun σ' H'=>∃ l1 t1,σ'=[some (.ref t),some (.ref l1)]∧Same H H'∧H' l1=some (.lst t1)∧RowAt (PlIs a) H' t1 (psT es),?_,?_⟩
  ·refine ⟨_,rfl,t,_,_,_,rfl,rfl,SqT.of td.ht,rfl,lp,rfl,⟨_,SqL.of td.hp⟩,fun l1 nl1=>?_⟩
   refine cZ (K:=K) (a:=lp) (xs:=tp) (fun i H2=>i≤es.length∧Same H H2∧∃ t1,H2 l1=some (.lst t1)∧RowAt (PlIs a) H2 t1 (psT (es.take i))) ⟨iY _,ai nl1,[],ad,RowAt.nil⟩ (fun i H2 ⟨_,s2,_⟩=>SqL.of (s2 _ _ td.hp)) ?_ ?_
   ·rintro i x H2 hx ⟨_,s2,t1,h2,hv⟩
    obtain ⟨e,ee,u,vp,rfl,hu,pu,rfl,hpu⟩:=td.rp.get hx
    have hi:i<es.length:=(iL.mp ee).1
    have lt1:t1.length≤12:=by rw [hv.1];unfold psT;rw [iM,i6];omega
    have ne:=ok.eok e (iR ee)
    have:=ne.b
    have squ:=SqT.of (K:=K) (s2 _ _ hu)
    have sqp:=SqT.of (K:=K) (s2 _ _ hpu)
    refine g1 ⟨⟨[_],rfl,rfl⟩,yes ?_⟩
    refine ⟨_,rfl,u,_,_,_,rfl,rfl,squ,rfl,_,rfl,u,_,_,_,rfl,rfl,squ,rfl,pu,_,_,_,rfl,rfl,sqp,rfl,_,rfl,u,_,_,_,rfl,rfl,squ,rfl,pu,_,_,_,rfl,rfl,sqp,rfl,e.2.1,e.2.2,rfl,by omega,ne.sm.2,fun q H3 nq s3 f3=>?_⟩
    refine ⟨by show 2≤sizeLine;decide,fun t3 nt3=>?_⟩
    have s4:=ai (o:=.tup [.str e.1,.ref q]) nt3
    have ht3:upd H3 t3 (.tup [.str e.1,.ref q]) t3=some (.tup [.str e.1,.ref q]):=ad
    generalize upd H3 t3 (.tup [.str e.1,.ref q])=H4 at s4 ht3 ⊢
    have s24:=s3.trans s4
    have h4:=s24 _ _ h2
    refine ⟨_,h4,aE (by omega),dN (by rw [td.rp.1];exact hi) ⟨hi,aH nl1 (s2.trans s24),_,ad,?_⟩⟩
    unfold psT
    rw [iU,ee,iV,i5]
    exact RowAt.snoc (hv.mono fun v x z=>(z.mono s24).ko (.lst h4)) (PlIs.ko ⟨t3,q,rfl,ht3,f3.mono s4⟩ (.lst h4))
   ·rintro H2 ⟨_,s2,t1,h2,hv⟩
    rw [td.rp.1,iS] at hv
    exact ⟨l1,t1,rfl,s2,h2,hv⟩
  rintro σ' H1 ⟨l1,t1,rfl,s1,h1,hv1⟩
  have td1:=td.mono s1
  refine ⟨_,rfl,_,rfl,t,_,_,_,rfl,rfl,SqT.of td1.ht,rfl,lw,rfl,⟨_,SqL.of td1.hw⟩,fun l2 nl2=>?_⟩
  refine cZ (K:=K) (a:=lw) (xs:=tw) (fun i H2=>i≤rs.length∧Same H1 H2∧∃ t2,H2 l2=some (.lst t2)∧RowAt (WayIs a) H2 t2 (dsT (rs.take i))) ⟨iY _,ai nl2,[],ad,RowAt.nil⟩ (fun i H2 ⟨_,s2,_⟩=>SqL.of (s2 _ _ td1.hw)) ?_ ?_
  ·rintro i x H2 hx ⟨_,s2,t2,h2,hv⟩
   obtain ⟨r,er,hr7⟩:=td1.rw.get hx
   have hi:i<rs.length:=(iL.mp er).1
   have lt2:t2.length≤24:=by rw [hv.1];unfold dsT;rw [iM,i6];omega
   refine g1 ⟨⟨[_],rfl,rfl⟩,yes ?_⟩
   refine ⟨_,rfl,x,r,_,rfl,hr7.mono s2,ok.rok r (iR er),fun p H3 np s3 W=>?_⟩
   have h3:=s3 _ _ h2
   refine ⟨_,h3,aE (by omega),dN (by rw [td1.rw.1];exact hi) ⟨hi,aH nl2 (s2.trans s3),_,ad,?_⟩⟩
   unfold dsT
   rw [iU,er,iV,i5]
   exact RowAt.snoc (hv.mono fun v x z=>(z.mono s3).ko (.lst h3)) (W.ko (.lst h3))
  ·rintro H2 ⟨_,s2,t2,h2,hv⟩
   rw [td1.rw.1,iS] at hv
   intro p dx n1 n2 n3
   have ss:=ir (C:=a.Net) n1 n2
   exact ⟨p,dx,l1,l2,t1,t2,_,_,rfl,ad,ss.seq (SqL.of (s2 _ _ h1)),hv1.mono (fun v x z=>(z.mono s2).mono ss),ss.seq (SqL.of h2),hv.mono (fun v x z=>z.mono ss),ok.net,fun H' hs hn=>⟨rfl,k p H' (s1.free (s2.free n1)) (s1.trans (s2.trans (iu n1 n2 hs))) hn⟩⟩
inductive IspLess (vs:List V) (H:Hp) (Q:VK):Prop
 | mk (p q:Addr) (c d:Int × Int) (h1:vs=[.ref p,.ref q]) (h2:H p=some (.tup [.int c.1,.int c.2])) (h3:H q=some (.tup [.int d.1,.int d.2])) (h4:Sm c.1) (h5:Sm c.2) (h6:Sm d.1) (h7:Sm d.2) (h8:∀ t,H t=none→Q (.ref t) (upd H t (.tup [.int (c.1*d.2-d.1*c.2),.int (c.2*d.2)]))):IspLess vs H Q
noncomputable def spLess:Sp:=fun vs H Q _=>IspLess vs H Q
theorem ok_law_less (T:TX K mg a):FnB P w K mg base CX0 "_law_less" 1 ["_law_one","_law_other"] spLess:=by
 refine T.d_law_less.ok sc_law_less (fun vs H Q E h=>?_) (fun f cdv A outer s H vs Q E hr h=>?_)
 ·obtain ⟨_,_,_,_,rfl,_⟩:=h
  rfl
 ·obtain ⟨p,q,c,d,rfl,hp,hq,c1,c2,d1,d2,k⟩:=h
  refine ⟨_,(ah (aq (aF (aa (am op_sub (am aT (ap al (pv 0) ac (fun _ _=>rfl)) (ap al (pv 1) ac (fun _ _=>rfl))) (am aT (ap al (pv 1) ac (fun _ _=>rfl)) (ap al (pv 0) ac (fun _ _=>rfl)))) (aa (am aT (ap al (pv 0) ac (fun _ _=>rfl)) (ap al (pv 1) ac (fun _ _=>rfl))) ae))))),?_⟩
  try dsimp only [aM,Cx.nox,Cx.wish]
  have sp:=SqT.of (K:=K) hp
  have sq:=SqT.of (K:=K) hq
  exact ⟨_,rfl,p,_,_,_,rfl,rfl,sp,rfl,_,rfl,q,_,_,_,rfl,rfl,sq,rfl,_,_,rfl,rfl,⟨c1,d2⟩,_,rfl,q,_,_,_,rfl,rfl,sq,rfl,_,rfl,p,_,_,_,rfl,rfl,sp,rfl,_,_,rfl,rfl,⟨d1,c2⟩,_,_,rfl,rfl,_,rfl,p,_,_,_,rfl,rfl,sp,rfl,_,rfl,q,_,_,_,rfl,rfl,sq,rfl,_,_,rfl,rfl,⟨c2,d2⟩,by show 2≤sizeLine;decide,k⟩
inductive IspPair50 (C:Addr) (vs:List V) (H:Hp) (Q:VK):Prop
 | mk (p:Addr) (x:Rat) (h1:vs=[.ref p]) (h2:FrAt C H p x) (h3:∀ t H',Same H H'→H' t=some (.tup [.int x.num,.int x.den])→Q (.ref t) H'):IspPair50 C vs H Q
noncomputable def spPair50 (C:Addr):Sp:=fun vs H Q _=>IspPair50 C vs H Q
theorem ok_law_pair (T:TX K mg a):FnB P w K mg base CX0 "_law_pair" 2 ["_law_number_here"] (spPair50 a.Fraction):=by
 refine T.d_law_pair.ok sc_law_pair (fun vs H Q E h=>?_) (fun f cdv A outer s H vs Q E hr h=>?_)
 ·obtain ⟨p,x,rfl,_⟩:=h
  rfl
 ·obtain ⟨p,x,rfl,hp,k⟩:=h
  refine ⟨_,(ag (aG (eN (cU (aU (gL (c:=.ref a.Fraction)) (by rfl) T.z_isinstance jw (aa (pv 0) (aa (iz (v:=.ref a.Fraction) (by rfl) T.mg_Fraction rfl) ae))))) (ah (aq b8)) ay)
   (ag (a9 i7 rfl (pi_tup (aF (aa (cV T.fr (pv 0)) (aa (cf T.fr (pv 0)) ae)))) (ax (i:=1) sc_law_pair.nd rfl (Or.inl rfl)) (ah (aG (PW.pt (g7 (eN (cU (aU (gL (c:=.type "int")) (by rfl) T.z_isinstance jw (aa (pv 1) (aa (pe_bltn (v:=.ty "int") (by rfl) T.z_int PyProof.Rows.boot_int rfl) ae))))) (fL (cU (aU (gL (c:=.type "bool")) (by rfl) T.z_isinstance jw (aa (pv 1) (aa (pe_bltn (v:=.ty "bool") (by rfl) T.z_bool PyProof.Rows.boot_bool rfl) ae))))))) (ah (aq b8)) ay)))
   (ag (aG (aw ft (cf T.fr (pv 0)) ac (az _)) (ah (aq b8)) ay)
   (ah (aq (aF (aa (cV T.fr (pv 0)) (aa (cf T.fr (pv 0)) ae)))))))),?_⟩
  try dsimp only [aM,Cx.nox,Cx.wish]
  refine ⟨_,rfl,_,_,_,_,rfl,(fun u h=>h),hp.ty T.fr,T.k_Fraction_Fraction,_,rfl,iteF ?_⟩
  refine ⟨_,rfl,p,x,rfl,hp,_,rfl,p,x,rfl,hp,by show 2≤sizeLine;decide,fun t nt=>?_⟩
  have s1:=ai (o:=.tup [.int x.num,.int x.den]) nt
  have ht:upd H t (.tup [.int x.num,.int x.den]) t=some (.tup [.int x.num,.int x.den]):=ad
  generalize upd H t (.tup [.int x.num,.int x.den])=H1 at s1 ht ⊢
  have hp1:=hp.mono s1
  refine ⟨t,rfl,⟨_,SqT.of ht⟩,for_tup (K:=K) (a:=t) (xs:=[.int x.num,.int x.den]) (fun i σ H2=>∃ z,σ=[some (.ref p),z]∧H2=H1) ⟨_,rfl,rfl⟩ (fun i σ H2 _ ⟨_,_,e⟩=>by rw [e];exact SqT.of ht) ?_ ?_⟩
  ·rintro i y σ H2 hy ⟨z,rfl,rfl⟩
   have hy:∃ u,y=.int u:=by
    match i,hy with
    | 0,hy=>exact ⟨x.num,(jh hy).symm⟩
    | 1,hy=>exact ⟨(x.den:Int),(jh hy).symm⟩
    | i+2,hy=>simp at hy
   obtain ⟨u,rfl⟩:=hy
   refine ⟨_,rfl,_,_,_,_,rfl,(fun u h=>h),TyOf.int u,T.k_int_int,_,rfl,iteF ?_⟩
   exact ⟨_,rfl,_,_,_,_,rfl,(fun u h=>h),TyOf.int u,T.k_int_bool,_,rfl,iteF ⟨_,rfl,rfl⟩⟩
  ·rintro σ H2 ⟨z,rfl,rfl⟩
   have xp:=fJ x
   refine ⟨_,rfl,p,x,rfl,hp1,_,_,rfl,rfl,_,rfl,eQ (iX (show ¬ (x.den:Int)<1 by omega)) ?_⟩
   refine ⟨_,rfl,p,x,rfl,hp1,_,rfl,p,x,rfl,hp1,by show 2≤sizeLine;decide,fun t2 nt2=>?_⟩
   exact k t2 _ (s1.trans (ai nt2)) ad
noncomputable abbrev WRow:=List Str × (Str→Rat)
noncomputable def DctIs (a:Ad) (H:Hp) (v:V) (r:WRow):Prop:=∃ d kvs,v=.ref d∧H d=some (.dK kvs)∧Tab (FrIs a) H kvs r.1 r.2∧r.1.Nodup
noncomputable abbrev aR:=List Str × (Str→Int × Int)
noncomputable def DcpIs (H:Hp) (v:V) (r:aR):Prop:=∃ d kvs,v=.ref d∧H d=some (.dK kvs)∧Tab DueIs H kvs r.1 r.2∧r.1.Nodup
theorem DcpIs.mono {H H':Hp} {v:V} {r:aR} (h:DcpIs H v r) (s:Same H H'):DcpIs H' v r:=by
 obtain ⟨d,kvs,e,f,t,n⟩:=h
 exact ⟨d,kvs,e,s _ _ f,t.mono fun _ _ z=>DueIs.mono z s,n⟩
theorem KeepO.thaw {H:Hp} {l:Addr} {o:Obj} {x o':HO} (h:H l=some (.frz o x)):KeepO H (upd H l o'):=⟨fun b ys e=>by rw [aj (bh e h (by intro z;cases z))];exact e,fun b C dx fs e=>by rw [aj (bh e h (by intro z;cases z))];exact e⟩
noncomputable def vR (r:aR):WRow:=(r.1,fun n=>vC (r.2 n))
inductive IspFractions (a:Ad) (vs:List V) (H:Hp) (Q:VK):Prop
 | mk (v:V) (r:aR) (h1:vs=[v]) (h2:DcpIs H v r) (h3:(∀ n∈r.1,Nb 600 (r.2 n))) (h4:r.1.length≤12) (h5:∀ d' H',H d'=none→Same H H'→DctIs a H' (.ref d') (vR r)→Q (.ref d') H'):IspFractions a vs H Q
noncomputable def spFractions (a:Ad):Sp:=fun vs H Q _=>IspFractions a vs H Q
theorem fU (T:TX K mg a):FnB P w K mg base CX0 "_law_fractions" 7 ["_law_pairs_here"] (spFractions a):=by
 refine T.d_law_fractions.ok sc_law_fractions (fun vs H Q E h=>?_) (fun f cdv A outer s H vs Q E hr h=>?_)
 ·obtain ⟨_,_,rfl,_⟩:=h
  rfl
 ·obtain ⟨v,r,rfl,⟨d,kvs,rfl,hd,tb,nk⟩,nok,l12,k⟩:=h
  refine ⟨_,(ag (ar (i:=1) sc_law_fractions.nd rfl (Or.inl rfl) dE)
   (ag (eV (a9 i7 rfl (fE (pv 0)) (ax (i:=2) sc_law_fractions.nd rfl (Or.inl rfl)) (ah (bv (aJ hr) (pv 1) (pv 2) (bT (mk2 T) hr T.mg_Fraction ak (aa (ap al (aQ (aJ hr) (pv 0) (pv 2) (fun _ _=>rfl)) ac (fun _ _=>rfl)) (aa (ap al (aQ (aJ hr) (pv 0) (pv 2) (fun _ _=>rfl)) ac (fun _ _=>rfl)) ae))) rfl))))
   (ah (aq (pv 1))))),?_⟩
  try dsimp only [aM,Cx.nox,Cx.wish]
  intro d' nd'
  have s1:=ai (o:=.dK []) nd'
  have hd':upd H d' (.dK []) d'=some (.dK []):=ad
  generalize upd H d' (.dK [])=H1 at s1 hd' ⊢
  have ndd:d'≠d:=fun z=>by rw [z,hd] at nd';cases nd'
  have hd1:=s1 _ _ hd
  refine ⟨d,.dK kvs,hd1,(by intro o z e;cases e),_,rfl,d,kvs,rfl,hd1,fun o=>?_⟩
  refine fX (a:=d) (o:=o) (kvs:=kvs) (fun j σ H3=>j≤r.1.length∧∃ z2 kv',σ=[some (.ref d),some (.ref d'),z2]∧H3 d=some (.frz o (.dK kvs))∧(∀ b ob,H b=some ob→b≠d→H3 b=some ob)∧H3 d'=some (.dK kv')∧Tab (FrIs a) H3 kv' (r.1.take j) (vR r).2)
   ⟨iY _,_,[],rfl,ad,(fun b ob e ne=>by rw [aj ne];exact s1 _ _ e),by rw [aj ndd];exact hd',Tab.nil⟩ (fun j σ H3 _ ⟨_,_,_,_,h,_⟩=>h) ?_ ?_
  ·rintro j kv σ H3 hkv ⟨_,z2,kv',rfl,hf,k3,hd3,tb3⟩
   obtain ⟨n,en,e1,ev,t,et,ht⟩:=tb.at_ nk hkv
   have hj:j<r.1.length:=(iL.mp en).1
   have ekv:kV kv.1=.str n:=by rw [e1];rfl
   rw [ekv]
   have ht3:=k3 _ _ ht (bh ht hd (by intro z;cases z))
   have ne:=nok n (iR en)
   have:=ne.b
   obtain ⟨tk,nkk⟩:=fM nk en
   have lk:kv'.length≤900:=by rw [tb3.len,i6];omega
   have rd:DGet H3 d (kV (Sum.inr n)) (some (.ref t)):=.inl ⟨kvs,Sum.inr n,.inr ⟨o,hf⟩,rfl,by rw [ev,et]⟩
   refine ⟨_,rfl,_,rfl,d,.ref t,rfl,rd,t,_,_,_,rfl,rfl,SqT.of ht3,rfl,_,rfl,_,rfl,d,.ref t,rfl,rd,t,_,_,_,rfl,rfl,SqT.of ht3,rfl,(r.2 n).1,(r.2 n).2,rfl,by omega,ne.sm.2,fun q H4 nq s4 f4=>?_⟩
   have hd4:=s4 _ _ hd3
   refine ⟨_,rfl,_,rfl,d',_,rfl,DPut.k (k:=Sum.inr n) hd4 (aE (by omega)),?_⟩
   have ko:KeepO H4 (upd H4 d' (.dK (bg kv' (Sum.inr n) (.ref q)))):=.dct hd4
   refine ⟨hj,_,_,rfl,by rw [aj ndd.symm];exact s4 _ _ hf,fun b ob e nb=>by rw [aj (fun z=>by rw [z,nd'] at e;cases e)];exact s4 _ _ (k3 _ _ e nb),ad,?_⟩
   rw [tk,← f9 nkk]
   exact (Tab.put (n:=n) (y:=vC (r.2 n)) (tb3.mono fun v x z=>(FrIs.mono z s4).ko ko) (FrIs.ko ⟨q,rfl,f4⟩ ko)).congr fun m hm=>by
    by_cases em:m=n
    ·subst em
     rw [bt]
     rfl
    ·rw [bW em]
  ·rintro σ H3 ⟨_,z2,kv',rfl,hf,k3,hd3,tb3⟩
   rw [tb.len,iS] at tb3
   have ko:KeepO H3 (upd H3 d (.dK kvs)):=KeepO.thaw hf
   refine ⟨o,hf,_,rfl,k d' _ nd' (fun b ob e=>?_) ⟨d',kv',rfl,by rw [aj ndd];exact hd3,tb3.mono fun v x z=>FrIs.ko z ko,nk⟩⟩
   by_cases hb:b=d
   ·subst hb
    rw [ad,← hd,e]
   ·rw [aj hb]
    exact k3 _ _ e hb
theorem vC_cross {c:Int × Int} (h:c.2≠0):(vC c).num*c.2-c.1*((vC c).den:Int)=0:=by
 have h1:=Rat.num_divInt_den (vC c)
 have h2:Rat.divInt (vC c).num (vC c).den=Rat.divInt c.1 c.2:=h1
 have h3:((vC c).den:Int)≠0:=by have:=fJ (vC c);omega
 have:=(jA h3 h).mp h2
 omega
theorem all_true (n:Nat):(List.replicate n true).all id=true:=by
 induction n with
 | zero=>rfl
 | succ n ih=>rw [List.replicate_succ,List.all_cons,ih];rfl
inductive IspStays63 (a:Ad) (vs:List V) (H:Hp) (Q:VK):Prop
 | mk (v u:V) (r:aR) (h1:vs=[v,u]) (h2:DctIs a H v (vR r)) (h3:DcpIs H u r) (h4:(∀ n∈r.1,Nb 600 (r.2 n))) (h5:r.1.length≤12) (h6:∀ H',Same H H'→Q (.bl true) H'):IspStays63 a vs H Q
noncomputable def spStays63 (a:Ad):Sp:=fun vs H Q _=>IspStays63 a vs H Q
theorem ok_law_stays (T:TX K mg a):FnB P w K mg base CX0 "_law_stays" 3 ["_law_handed","_law_pairs_here"] (spStays63 a):=by
 refine T.d_law_stays.ok sc_law_stays (fun vs H Q E h=>?_) (fun f cdv A outer s H vs Q E hr h=>?_)
 ·obtain ⟨_,_,_,rfl,_⟩:=h
  rfl
 ·obtain ⟨v,u,r,rfl,⟨d',kv',rfl,hd',tb',_⟩,⟨d,kvs,rfl,hd,tb,nk⟩,nok,l12,k⟩:=h
  refine ⟨_,(ag (aG (aw (op_neL hr.units0) (bS (fz hr.hd) (by rfl) T.z_list PyProof.Rows.boot_list (aa (pv 0) ae)) (bS (fz hr.hd) (by rfl) T.z_list PyProof.Rows.boot_list (aa (pv 1) ae)) (az _)) (ah (aq b9)) ay)
   (ah (aq (aU (call_allK (K:=K) rfl hr.hd) (by rfl) T.z_all PyProof.Rows.boot_all (aa (pe_thaw (fS (xs:=["_law_name_here"]) (rest:=["_law_handed","_law_pairs_here"]) rfl (fE (pv 1))
   (fun pins fp C' s' H'=>(ax (i:=0) (show (["_law_name_here","_law_handed","_law_pairs_here"]:List Str).Nodup by decide +kernel) rfl (Or.inl rfl))) (fun pins fp C' s' H'=>cY)
   (fun pins fp C' s' H'=>(fF ba (ap (r:=rIxT K) al (av (ok_law_less T) hr ak (aa (av (ok_law_pair T) hr ak (aa (aQ (aJ hr) (pv 1) (pv 0) (fun _ _=>rfl)) ae)) (aa (aQ (aJ hr) (pv 2) (pv 0) (fun _ _=>rfl)) ae))) ac (fun _ _=>rfl)) ac (az _)))
   (Clos.many (ys:=["_law_pairs_here","_law_handed"]) rfl ⟨rfl,rfl,True.intro⟩ rfl (by decide +kernel)) (Reads.many (ys:=["_law_handed","_law_pairs_here"]) (js:=[0,1]) ⟨⟨rfl,rfl,rfl⟩,⟨rfl,rfl,rfl⟩,True.intro⟩))) ae))))),?_⟩
  try dsimp only [aM,Cx.nox,Cx.wish]
  have e1:(kvs.map fun kv=>kV kv.1)=r.1.map V.str:=by
   have:=jy (List.map kV) tb.keys
   rw [jz,jz] at this
   exact this
  have e2:(kv'.map fun kv=>kV kv.1)=r.1.map V.str:=by
   have:=jy (List.map kV) tb'.keys
   rw [jz,jz] at this
   exact this
  refine ⟨_,rfl,d',kv',rfl,.inl hd',fun p np=>?_⟩
  rw [e2]
  have s1:=ai (o:=.lst (r.1.map V.str)) np
  have hp:upd H p (.lst (r.1.map V.str)) p=some (.lst (r.1.map V.str)):=ad
  generalize upd H p (.lst (r.1.map V.str))=H1 at s1 hp ⊢
  refine ⟨_,rfl,d,kvs,rfl,.inl (s1 _ _ hd),fun q nq=>?_⟩
  rw [e1]
  have s2:=s1.trans (ai (o:=.lst (r.1.map V.str)) nq)
  have hq:upd H1 q (.lst (r.1.map V.str)) q=some (.lst (r.1.map V.str)):=ad
  have hp2:=ai (o:=.lst (r.1.map V.str)) nq _ _ hp
  generalize upd H1 q (.lst (r.1.map V.str))=H2 at s2 hq hp2 ⊢
  refine ⟨p,q,_,_,rfl,rfl,SqL.of hp2,SqL.of hq,fo _,fo _,_,rfl,eQ (by rw [eqVs_strs];rfl) ?_⟩
  have hd2:=s2 _ _ hd
  refine ⟨d,.dK kvs,hd2,(by intro o z e;cases e),_,rfl,d,kvs,rfl,hd2,fun o l nl=>?_⟩
  have ndl:d≠l:=fun z=>by rw [z,ad] at nl;cases nl
  have nl':H2 l=none:=by rw [aj ndl.symm] at nl;exact nl
  refine compG_dict (a:=d) (o:=o) (kvs:=kvs) (fun i H3=>i≤r.1.length∧H3 d=some (.frz o (.dK kvs))∧(∀ b ob,H2 b=some ob→b≠d→H3 b=some ob)∧H3 l=some (.lst ((List.replicate i true).map V.bl)))
   ⟨iY _,by rw [aj ndl,ad],(fun b ob e ne=>by rw [aj (aB e nl'),aj ne];exact e),ad⟩ (fun i H3 ⟨_,h,_⟩=>h) ?_ ?_
  ·rintro i kv H3 hkv ⟨_,hf,k3,hl3⟩
   obtain ⟨n,en,e1,ev,t,et,ht⟩:=tb.at_ nk hkv
   have hn:=iR en
   have hi:i<r.1.length:=(iL.mp en).1
   have ekv:kV kv.1=.str n:=by rw [e1];rfl
   rw [ekv]
   obtain ⟨v,evp,x,rfl,fx⟩:=tb'.vals n hn
   have up:∀ b ob,H b=some ob→b≠d→H3 b=some ob:=fun b ob e ne=>k3 _ _ (s2 _ _ e) ne
   have ne:=nok n hn
   have ht3:=up _ _ ht (bh ht hd (by intro z;cases z))
   by_cases edd:d'=d
   ·subst edd
    rw [hd] at hd'
    cases hd'
    rw [evp,et] at ev
    cases ev
    obtain ⟨dx,fx⟩:=fx
    rw [ht] at fx
    cases fx
   have hd3:=up _ _ hd' edd
   have fx3:FrAt a.Fraction H3 x (vC (r.2 n)):=by
    obtain ⟨dx,fx⟩:=fx
    exact ⟨dx,up _ _ fx (bh fx hd (by intro z;cases z))⟩
   have sm:=ne.bd.smr (show 600<9000 by decide)
   refine g1 ⟨⟨[_],rfl,rfl⟩,yes ?_⟩
   refine ⟨_,rfl,_,rfl,d',.ref x,rfl,.inl ⟨kv',Sum.inr n,.inl hd3,rfl,evp.symm⟩,x,vC (r.2 n),rfl,fx3,fun t1 H4 s4 ht1=>?_⟩
   refine ⟨_,rfl,_,rfl,d,.ref t,rfl,.inl ⟨kvs,Sum.inr n,.inr ⟨o,s4 _ _ hf⟩,rfl,by rw [ev,et]⟩,t1,t,((vC (r.2 n)).num,((vC (r.2 n)).den:Int)),r.2 n,rfl,ht1,s4 _ _ ht3,?a1,?a2,?a3,?a4,fun u nu=>?_⟩
   case a1=>exact sm.1
   case a2=>exact sm.2
   case a3=>exact ne.sm.1
   case a4=>exact ne.sm.2
   refine ⟨u,_,_,_,rfl,rfl,SqT.of ad,rfl,rfl,?_⟩
   have e0:(decide (V.int ((vC (r.2 n)).num*(r.2 n).2-(r.2 n).1*((vC (r.2 n)).den:Int))=V.int 0))=true:=by rw [vC_cross (by have:=ne.b;omega),iW rfl]
   have s5:=s4.trans (ai (o:=.tup [.int ((vC (r.2 n)).num*(r.2 n).2-(r.2 n).1*((vC (r.2 n)).den:Int)),.int (((vC (r.2 n)).den:Int)*(r.2 n).2)]) nu)
   have hl5:=s5 _ _ hl3
   refine ⟨_,hl5,aE (by rw [iM,jV];omega),dN (by rw [tb.len];exact hi) ⟨hi,by rw [aj ndl];exact s5 _ _ hf,fun b ob e nb=>by rw [aj (aB e nl')];exact s5 _ _ (k3 _ _ e nb),?_⟩⟩
   rw [ad,List.replicate_succ',i5]
   exact jy (fun b=>some (HO.lst (_++[V.bl b]))) e0
  ·rintro H3 ⟨_,hf,k3,hl3⟩
   have s3:Same H2 (upd H3 d (.dK kvs)):=fun b ob e=>by
    by_cases hb:b=d
    ·subst hb
     rw [ad,← hd2,e]
    ·rw [aj hb]
     exact k3 _ _ e hb
   refine ⟨o,hf,l,_,rfl,SqL.of (by rw [aj ndl.symm];exact hl3),?_⟩
   rw [all_true]
   exact k _ (s2.trans s3)
noncomputable def plP (c d:Int × Int):Int × Int:=(c.1*d.2+d.1*c.2,c.2*d.2)
noncomputable def lsP (c d:Int × Int):Int × Int:=(c.1*d.2-d.1*c.2,c.2*d.2)
noncomputable def tmP (c d:Int × Int):Int × Int:=(c.1*d.1,c.2*d.2)
noncomputable def ovP (c d:Int × Int):Int × Int:=(c.1*d.2,c.2*d.1)
noncomputable def sp2P (g:Int × Int→Int × Int→Int × Int):Sp:=fun vs H Q _=>∃ (p q:Addr) (c d:Int × Int),vs=[.ref p,.ref q]∧H p=some (.tup [.int c.1,.int c.2])∧H q=some (.tup [.int d.1,.int d.2])∧(Sm c.1∧Sm c.2)∧(Sm d.1∧Sm d.2)∧∀ t,H t=none→Q (.ref t) (upd H t (.tup [.int (g c d).1,.int (g c d).2]))
theorem cc (T:TX K mg a):FnB P w K mg base CX0 "_law_plus" 1 ["_law_one","_law_other"] (sp2P plP):=by
 refine T.d_law_plus.ok sc_law_plus (fun vs H Q E h=>?_) (fun f cdv A outer s H vs Q E hr h=>?_)
 ·obtain ⟨_,_,_,_,rfl,_⟩:=h
  rfl
 ·obtain ⟨p,q,c,d,rfl,hp,hq,⟨c1,c2⟩,⟨d1,d2⟩,k⟩:=h
  refine ⟨_,(ah (aq (aF (aa (am aS (am aT (ap al (pv 0) ac (fun _ _=>rfl)) (ap al (pv 1) ac (fun _ _=>rfl))) (am aT (ap al (pv 1) ac (fun _ _=>rfl)) (ap al (pv 0) ac (fun _ _=>rfl)))) (aa (am aT (ap al (pv 0) ac (fun _ _=>rfl)) (ap al (pv 1) ac (fun _ _=>rfl))) ae))))),?_⟩
  try dsimp only [aM,Cx.nox,Cx.wish]
  have P1:=SqT.of (K:=K) hp
  have Q1:=SqT.of (K:=K) hq
  exact ⟨_,rfl,p,_,_,_,rfl,rfl,P1,rfl,_,rfl,q,_,_,_,rfl,rfl,Q1,rfl,_,_,rfl,rfl,⟨c1,d2⟩,_,rfl,q,_,_,_,rfl,rfl,Q1,rfl,_,rfl,p,_,_,_,rfl,rfl,P1,rfl,_,_,rfl,rfl,⟨d1,c2⟩,_,_,rfl,rfl,_,rfl,p,_,_,_,rfl,rfl,P1,rfl,_,rfl,q,_,_,_,rfl,rfl,Q1,rfl,_,_,rfl,rfl,⟨c2,d2⟩,by show 2≤sizeLine;decide,fun r nr=>k r nr⟩
theorem iF (T:TX K mg a):FnB P w K mg base CX0 "_law_less" 1 ["_law_one","_law_other"] (sp2P lsP):=by
 refine (ok_law_less T).imp fun vs H Q E h=>?_
 obtain ⟨p,q,c,d,rfl,hp,hq,⟨c1,c2⟩,⟨d1,d2⟩,k⟩:=h
 exact ⟨p,q,c,d,rfl,hp,hq,c1,c2,d1,d2,k⟩
theorem cT (T:TX K mg a):FnB P w K mg base CX0 "_law_times" 1 ["_law_one","_law_other"] (sp2P tmP):=by
 refine T.d_law_times.ok sc_law_times (fun vs H Q E h=>?_) (fun f cdv A outer s H vs Q E hr h=>?_)
 ·obtain ⟨_,_,_,_,rfl,_⟩:=h
  rfl
 ·obtain ⟨p,q,c,d,rfl,hp,hq,⟨c1,c2⟩,⟨d1,d2⟩,k⟩:=h
  refine ⟨_,(ah (aq (aF (aa (am aT (ap al (pv 0) ac (fun _ _=>rfl)) (ap al (pv 1) ac (fun _ _=>rfl))) (aa (am aT (ap al (pv 0) ac (fun _ _=>rfl)) (ap al (pv 1) ac (fun _ _=>rfl))) ae))))),?_⟩
  try dsimp only [aM,Cx.nox,Cx.wish]
  have P1:=SqT.of (K:=K) hp
  have Q1:=SqT.of (K:=K) hq
  exact ⟨_,rfl,p,_,_,_,rfl,rfl,P1,rfl,_,rfl,q,_,_,_,rfl,rfl,Q1,rfl,_,_,rfl,rfl,⟨c1,d1⟩,_,rfl,p,_,_,_,rfl,rfl,P1,rfl,_,rfl,q,_,_,_,rfl,rfl,Q1,rfl,_,_,rfl,rfl,⟨c2,d2⟩,by show 2≤sizeLine;decide,fun r nr=>k r nr⟩
theorem ok_law_over (T:TX K mg a):FnB P w K mg base CX0 "_law_over" 1 ["_law_one","_law_other"] (sp2P ovP):=by
 refine T.d_law_over.ok sc_law_over (fun vs H Q E h=>?_) (fun f cdv A outer s H vs Q E hr h=>?_)
 ·obtain ⟨_,_,_,_,rfl,_⟩:=h
  rfl
 ·obtain ⟨p,q,c,d,rfl,hp,hq,⟨c1,c2⟩,⟨d1,d2⟩,k⟩:=h
  refine ⟨_,(ah (aq (aF (aa (am aT (ap al (pv 0) ac (fun _ _=>rfl)) (ap al (pv 1) ac (fun _ _=>rfl))) (aa (am aT (ap al (pv 0) ac (fun _ _=>rfl)) (ap al (pv 1) ac (fun _ _=>rfl))) ae))))),?_⟩
  try dsimp only [aM,Cx.nox,Cx.wish]
  have P1:=SqT.of (K:=K) hp
  have Q1:=SqT.of (K:=K) hq
  exact ⟨_,rfl,p,_,_,_,rfl,rfl,P1,rfl,_,rfl,q,_,_,_,rfl,rfl,Q1,rfl,_,_,rfl,rfl,⟨c1,d2⟩,_,rfl,p,_,_,_,rfl,rfl,P1,rfl,_,rfl,q,_,_,_,rfl,rfl,Q1,rfl,_,_,rfl,rfl,⟨c2,d1⟩,by show 2≤sizeLine;decide,fun r nr=>k r nr⟩
theorem vC_sg {c:Int × Int} (h:1≤c.2):((vC c).num<0↔c.1<0)∧(0<(vC c).num↔0<c.1):=by
 unfold vC
 have e:0≤(Rat.divInt c.1 c.2).num↔0≤c.1:=by rw [Rat.num_nonneg];exact Rat.divInt_nonneg_iff_of_pos_right (by omega)
 have z:(Rat.divInt c.1 c.2).num=0↔c.1=0:=by rw [Rat.num_eq_zero,show (0:Rat)=Rat.divInt 0 1 by decide +kernel,jA (by omega) (by decide)];omega
 constructor <;> omega
noncomputable def hiT (rs:List W7):List Str:=(rs.filter fun r=>r.hi.isSome).map (·.nm)
theorem hiT_snoc (rs:List W7) (r:W7):hiT (rs++[r])=hiT rs++if r.hi.isSome then [r.nm] else []:=by
 unfold hiT
 rw [List.filter_append,i5]
 cases e:r.hi.isSome with
 | true=>rw [jP (by rw [e])];rfl
 | false=>rw [jO (by rw [e];decide)];rfl
theorem hiN_T (rs:List W7):hiN (dsT rs)=hiT rs:=by
 unfold hiN hiT dsT
 rw [List.filter_map,jz]
 rw [show ((fun d:WD=>d.hi.isSome) ∘ W7.d)=(fun r:W7=>r.hi.isSome) from funext fun r=>by show r.d.hi.isSome=_;rw [W7.d_hi,Option.isSome_map]]
 exact List.map_congr_left fun r _=>W7.d_nm r
inductive IspNamed (vs:List V) (H:Hp) (Q:VK):Prop
 | mk (t lp lw dp db:Addr) (tp tw:List V) (es:List Ent) (rs:List W7) (rp rb:aR) (h1:vs=[.ref t,.ref dp,.ref db]) (h2:Told H t lp lw tp tw es rs) (h3:es.length≤12) (h4:rs.length≤24) (h5:DcpIs H (.ref dp) rp) (h6:DcpIs H (.ref db) rb) (h7:(∀ n∈rp.1,1≤(rp.2 n).2)) (h8:(∀ n∈rb.1,1≤(rb.2 n).2)) (h9:∀ H',Same H H'→Q (.bl (gk (psT es) (dsT rs) (vR rp) (vR rb))) H'):IspNamed vs H Q
noncomputable def spNamed:Sp:=fun vs H Q _=>IspNamed vs H Q
theorem ok_law_named (T:TX K mg a):FnB P w K mg base CX0 "_law_named" 1 ["_law_told","_law_prices","_law_highs"] spNamed:=by
 refine T.d_law_named.ok sc_law_named (fun vs H Q E h=>?_) (fun f cdv A outer s H vs Q E hr h=>?_)
 ·obtain ⟨_,_,_,_,_,_,_,_,_,_,_,rfl,_⟩:=h
  rfl
 ·obtain ⟨t,lp,lw,dp,db,tp,tw,es,rs,rp,rb,rfl,td,l12,l24,hP,hB,gp,gb,k⟩:=h
  refine ⟨_,(aP (dD (i:=3) (xs:=["_law_place"]) (rest:=[]) sc_law_named.nd rfl rfl rfl (aX (ap al (pv 0) ac (fun _ _=>rfl)))
   (fun pins fp C' s' H'=>(ax (i:=0) (show (["_law_place"]:List Str).Nodup by decide +kernel) rfl (Or.inl rfl))) (fun pins fp C' s' H'=>cY)
   (fun pins fp C' s' H'=>(ap (r:=rIxT K) al (pv 0) ac (fun _ _=>rfl)))
   (Clos.none (by decide +kernel) (by decide +kernel)) (Reads.many (ys:=[]) (js:=[]) True.intro))
   (aP (dD (i:=4) (xs:=["_law_way_here"]) (rest:=[]) sc_law_named.nd rfl rfl rfl (aX (ap al (pv 0) ac (fun _ _=>rfl)))
   (fun pins fp C' s' H'=>(ax (i:=0) (show (["_law_way_here"]:List Str).Nodup by decide +kernel) rfl (Or.inl rfl))) (fun pins fp C' s' H'=>(pts_one (aw dF (ap (r:=rIxT K) al (pv 0) ac (fun _ _=>rfl)) b8 (az _))))
   (fun pins fp C' s' H'=>(ap (r:=rIxT K) al (pv 0) ac (fun _ _=>rfl)))
   (Clos.none (by decide +kernel) (by decide +kernel)) (Reads.many (ys:=[]) (js:=[]) True.intro))
   (aP (eV (a9 i7 rfl (fE (pv 1)) (ax (i:=5) sc_law_named.nd rfl (Or.inl rfl)) (ah (aG (PW.pt (g7 (aw eY (pv 5) (pv 3) (by with_unfolding_all rfl)) (fL (aw ft (ap al (aQ (aJ hr) (pv 1) (pv 5) (fun _ _=>rfl)) ac (fun _ _=>rfl)) ac (az _))))) (ah (aq b9)) ay))))
   (ag (eV (a9 i7 rfl (fE (pv 2)) (ax (i:=5) sc_law_named.nd rfl (Or.inl rfl)) (ah (aG (PW.pt (g7 (aw eY (pv 5) (pv 4) (by with_unfolding_all rfl)) (fL (aw ft (ap al (aQ (aJ hr) (pv 2) (pv 5) (fun _ _=>rfl)) ac (fun _ _=>rfl)) ac (az _))))) (ah (aq b9)) ay))))
   (ah (aq b9)))))),?_⟩
  try dsimp only [aM,Cx.nox,Cx.wish]
  refine ⟨fun σ' H'=>∃ l1,σ'=[some (.ref t),some (.ref dp),some (.ref db),some (.ref l1),none,none]∧Same H H'∧H' l1=some (.lst ((es.map (·.1)).map V.str)),?_,?_⟩
  ·refine ⟨_,rfl,t,_,_,_,rfl,rfl,SqT.of td.ht,rfl,lp,rfl,⟨_,SqL.of td.hp⟩,fun l1 nl1=>?_⟩
   refine cZ (K:=K) (a:=lp) (xs:=tp) (fun i H2=>i≤es.length∧Same H H2∧H2 l1=some (.lst (((es.take i).map (·.1)).map V.str))) ⟨iY _,ai nl1,ad⟩ (fun i H2 ⟨_,s2,_⟩=>SqL.of (s2 _ _ td.hp)) ?_ ?_
   ·rintro i x H2 hx ⟨_,s2,h2⟩
    obtain ⟨e,ee,u,vp,rfl,hu,_⟩:=td.rp.get hx
    have hi:i<es.length:=(iL.mp ee).1
    refine g1 ⟨⟨[_],rfl,rfl⟩,yes ?_⟩
    refine ⟨_,rfl,u,_,_,_,rfl,rfl,SqT.of (s2 _ _ hu),rfl,_,h2,aE (by rw [iM,iM,i6];omega),dN (by rw [td.rp.1];exact hi) ⟨hi,aH nl1 s2,?_⟩⟩
    rw [ad,iU,ee,iV,i5,i5]
    rfl
   ·rintro H2 ⟨_,s2,h2⟩
    rw [td.rp.1,iS] at h2
    exact ⟨l1,rfl,s2,h2⟩
  rintro σ' H1 ⟨l1,rfl,s1,h1⟩
  have td1:=td.mono s1
  refine ⟨fun σ' H'=>∃ l2,σ'=[some (.ref t),some (.ref dp),some (.ref db),some (.ref l1),some (.ref l2),none]∧Same H1 H'∧H' l2=some (.lst ((hiT rs).map V.str)),?_,?_⟩
  ·refine ⟨_,rfl,t,_,_,_,rfl,rfl,SqT.of td1.ht,rfl,lw,rfl,⟨_,SqL.of td1.hw⟩,fun l2 nl2=>?_⟩
   refine cZ (K:=K) (a:=lw) (xs:=tw) (fun i H2=>i≤rs.length∧Same H1 H2∧H2 l2=some (.lst ((hiT (rs.take i)).map V.str))) ⟨iY _,ai nl2,ad⟩ (fun i H2 ⟨_,s2,_⟩=>SqL.of (s2 _ _ td1.hw)) ?_ ?_
   ·rintro i x H2 hx ⟨_,s2,h2⟩
    obtain ⟨r,er,u,vg,vh,vc,rfl,hu,_,hh,_⟩:=td1.rw.get hx
    have hi:i<rs.length:=(iL.mp er).1
    have tk:hiT (rs.take (i+1))=hiT (rs.take i)++if r.hi.isSome then [r.nm] else []:=by rw [iU,er,iV,hiT_snoc]
    have lus:((hiT (rs.take i)).map V.str).length≤24:=by
     rw [iM]
     unfold hiT
     rw [iM]
     refine i3 (jC _ _) ?_
     rw [i6]
     omega
    have squ:=SqT.of (K:=K) (s2 _ _ hu)
    refine g1 ⟨⟨[_],rfl,rfl⟩,?_⟩
    refine ⟨_,rfl,u,_,_,_,rfl,rfl,squ,rfl,?_⟩
    cases e:r.hi with
    | none=>
     rw [e] at hh
     obtain rfl:vh=.non:=hh
     refine ⟨rfl,_,rfl,iteF ?_⟩
     refine dN (by rw [td1.rw.1];exact hi) ⟨hi,s2,?_⟩
     rw [tk,e]
     exact h2.trans (by rw [show (if (none:Option (Int × Int)).isSome=true then [r.nm] else [])=[] from rfl,j8])
    | some x=>
     rw [e] at hh
     obtain ⟨qh,rfl,fh⟩:=hh
     refine ⟨rfl,_,rfl,iteT ?_⟩
     refine ⟨_,rfl,u,_,_,_,rfl,rfl,squ,rfl,_,h2,aE (by omega),dN (by rw [td1.rw.1];exact hi) ⟨hi,aH nl2 s2,?_⟩⟩
     rw [ad,tk,e,i5]
     rfl
   ·rintro H2 ⟨_,s2,h2⟩
    rw [td1.rw.1,iS] at h2
    exact ⟨l2,rfl,s2,h2⟩
  rintro σ' H2 ⟨l2,rfl,s2,h2⟩
  have s12:=s1.trans s2
  unfold gk at k
  rw [hiN_T,iw] at k
  have h1':=s2 _ _ h1
  refine ⟨fun σ' H'=>∃ z5,σ'=[some (.ref t),some (.ref dp),some (.ref db),some (.ref l1),some (.ref l2),z5]∧Same H2 H'∧gu (vR rp).1 (vR rp).2 (es.map (·.1))=true,?_,?_⟩
  ·obtain ⟨d,kvs,ed,hd,tb,nd⟩:=hP.mono s12
   cases ed
   refine ⟨dp,.dK kvs,hd,(by intro o z e;cases e),_,rfl,dp,kvs,rfl,hd,fun o=>?_⟩
   refine fX (a:=dp) (o:=o) (kvs:=kvs) (fun i σ H3=>i≤rp.1.length∧∃ z5,σ=[some (.ref t),some (.ref dp),some (.ref db),some (.ref l1),some (.ref l2),z5]∧H3 dp=some (.frz o (.dK kvs))∧(∀ b ob,H2 b=some ob→b≠dp→H3 b=some ob)∧gu (rp.1.take i) (vR rp).2 (es.map (·.1))=true)
    ⟨iY _,none,rfl,ad,(fun b ob e ne=>by rw [aj ne];exact e),rfl⟩ (fun i σ H3 _ ⟨_,_,_,h,_⟩=>h) ?_ ?_
   ·rintro i kv σ H3 hkv ⟨_,z5,rfl,hf,k3,ih⟩
    obtain ⟨n,en,e1,ev,q,eq,hq⟩:=tb.at_ nd hkv
    have hi:i<rp.1.length:=(iL.mp en).1
    have mn:=iR en
    have ekv:kV kv.1=.str n:=by rw [e1];rfl
    rw [ekv]
    have hl3:=k3 _ _ h1' (bh h1' hd (by intro z;cases z))
    have hq3:=k3 _ _ hq (bh hq hd (by intro z;cases z))
    have back:=fun (e:gu (vR rp).1 (vR rp).2 (es.map (·.1))=false)=>(show ∃ o,H3 dp=some (.frz o (.dK kvs))∧Q (.bl false) (upd H3 dp (.dK kvs)) from ⟨o,hf,by rw [e] at k;exact k _ (s12.trans (b3 hd k3))⟩)
    refine ⟨_,rfl,_,rfl,l1,_,rfl,.inl (SqL.of hl3),rfl,fo _,_,rfl,?_⟩
    by_cases m:n∈es.map (·.1)
    ·refine eQ (show (!inV _ _)=false by rw [e9,iW m];rfl) ?_
     refine ⟨_,rfl,_,rfl,dp,.ref q,rfl,.inl ⟨kvs,Sum.inr n,.inr ⟨o,hf⟩,rfl,by rw [ev,eq]⟩,q,_,_,_,rfl,rfl,SqT.of hq3,rfl,_,_,rfl,rfl,_,rfl,ifB (fun lt=>?_) (fun ge=>?_)⟩
     ·have lt:(rp.2 n).1<0:=lt
      exact back (gU (ks:=rp.1) mn fun z=>by
       have:=(vC_sg (gp n mn)).1.mpr lt
       have z2:0≤(vC (rp.2 n)).num:=z.2
       omega)
     ·have ge:¬ (rp.2 n).1<0:=ge
      have ge:0≤((vR rp).2 n).num:=by
       have:¬ (vC (rp.2 n)).num<0:=fun z=>ge ((vC_sg (gp n mn)).1.mp z)
       show 0≤(vC (rp.2 n)).num
       omega
      refine ⟨hi,_,rfl,hf,k3,?_⟩
      rw [iU,en,iV,fitB_snoc,ih,iW m,iW ge]
      rfl
    ·refine gW (show (!inV _ _)=true by rw [e9,iX m];rfl) ?_
     exact back (gU (ks:=rp.1) mn fun z=>m z.1)
   ·rintro σ H3 ⟨_,z5,rfl,hf,k3,ih⟩
    rw [tb.len,iS] at ih
    exact ⟨o,hf,_,rfl,b3 hd k3,ih⟩
  rintro σ' H3 ⟨z5,rfl,s3,e1⟩
  rw [e1,jX] at k
  have s13:=s12.trans s3
  have h2':=s3 _ _ h2
  obtain ⟨d,kvs,ed,hd,tb,nd⟩:=hB.mono s13
  cases ed
  refine ⟨db,.dK kvs,hd,(by intro o z e;cases e),_,rfl,db,kvs,rfl,hd,fun o=>?_⟩
  refine fX (a:=db) (o:=o) (kvs:=kvs) (fun i σ H4=>i≤rb.1.length∧∃ z5,σ=[some (.ref t),some (.ref dp),some (.ref db),some (.ref l1),some (.ref l2),z5]∧H4 db=some (.frz o (.dK kvs))∧(∀ b ob,H3 b=some ob→b≠db→H4 b=some ob)∧gu (rb.1.take i) (vR rb).2 (hiT rs)=true)
   ⟨iY _,_,rfl,ad,(fun b ob e ne=>by rw [aj ne];exact e),rfl⟩ (fun i σ H4 _ ⟨_,_,_,h,_⟩=>h) ?_ ?_
  ·rintro i kv σ H4 hkv ⟨_,z5,rfl,hf,k4,ih⟩
   obtain ⟨n,en,e1,ev,q,eq,hq⟩:=tb.at_ nd hkv
   have hi:i<rb.1.length:=(iL.mp en).1
   have mn:=iR en
   have ekv:kV kv.1=.str n:=by rw [e1];rfl
   rw [ekv]
   have hl3:=k4 _ _ h2' (bh h2' hd (by intro z;cases z))
   have hq3:=k4 _ _ hq (bh hq hd (by intro z;cases z))
   have back:=fun (e:gu (vR rb).1 (vR rb).2 (hiT rs)=false)=>(show ∃ o,H4 db=some (.frz o (.dK kvs))∧Q (.bl false) (upd H4 db (.dK kvs)) from ⟨o,hf,by rw [e] at k;exact k _ (s13.trans (b3 hd k4))⟩)
   refine ⟨_,rfl,_,rfl,l2,_,rfl,.inl (SqL.of hl3),rfl,fo _,_,rfl,?_⟩
   by_cases m:n∈hiT rs
   ·refine eQ (show (!inV _ _)=false by rw [e9,iW m];rfl) ?_
    refine ⟨_,rfl,_,rfl,db,.ref q,rfl,.inl ⟨kvs,Sum.inr n,.inr ⟨o,hf⟩,rfl,by rw [ev,eq]⟩,q,_,_,_,rfl,rfl,SqT.of hq3,rfl,_,_,rfl,rfl,_,rfl,ifB (fun lt=>?_) (fun ge=>?_)⟩
    ·have lt:(rb.2 n).1<0:=lt
     exact back (gU (ks:=rb.1) mn fun z=>by
      have:=(vC_sg (gb n mn)).1.mpr lt
      have z2:0≤(vC (rb.2 n)).num:=z.2
      omega)
    ·have ge:¬ (rb.2 n).1<0:=ge
     have ge:0≤((vR rb).2 n).num:=by
      have:¬ (vC (rb.2 n)).num<0:=fun z=>ge ((vC_sg (gb n mn)).1.mp z)
      show 0≤(vC (rb.2 n)).num
      omega
     refine ⟨hi,_,rfl,hf,k4,?_⟩
     rw [iU,en,iV,fitB_snoc,ih,iW m,iW ge]
     rfl
   ·refine gW (show (!inV _ _)=true by rw [e9,iX m];rfl) ?_
    exact back (gU (ks:=rb.1) mn fun z=>m z.1)
  ·rintro σ H4 ⟨_,z5,rfl,hf,k4,ih⟩
   rw [tb.len,iS] at ih
   refine ⟨o,hf,?_⟩
   rw [show gu (vR rb).1 (vR rb).2 (hiT rs)=true from ih] at k
   exact k _ (s13.trans (b3 hd k4))
noncomputable def amP (r:aR) (n:Str):Int × Int:=if n∈r.1 then r.2 n else (0,1)
theorem get2 {H H1:Hp} {kvs:List (Key × V)} {r:aR} {n:Str} {z:Addr} (tb:Tab DueIs H kvs r.1 r.2) (s:Same H H1) (hz:H1 z=some (.tup [.int 0,.int 1])):∃ e,(bc kvs (Sum.inr n:Key)).getD (.ref z)=.ref e∧H1 e=some (.tup [.int (amP r n).1,.int (amP r n).2]):=by
 unfold amP
 by_cases hn:n∈r.1
 ·obtain ⟨v,ev,q,rfl,hq⟩:=tb.vals n hn
  rw [ev,if_pos hn]
  exact ⟨q,rfl,s _ _ hq⟩
 ·rw [tb.none hn,if_neg hn]
  exact ⟨z,rfl,hz⟩
theorem mulA {x y:Int} {j k:Nat} (h1:x.natAbs≤2 ^ j) (h2:y.natAbs≤2 ^ k):(x*y).natAbs≤2 ^ (j+k):=by rw [jD,Nat.pow_add];exact Nat.mul_le_mul h1 h2
theorem bU {x y:Int} (h1:1≤x) (h2:1≤y):1≤x*y:=by
 have:=Int.mul_pos (show 0<x by omega) (show 0<y by omega)
 omega
theorem Nb.tm {j k:Nat} {c d:Int × Int} (h:Nb j c) (g:Nb k d):Nb (j+k) (tmP c d):=⟨mulA h.t g.t,bU h.b g.b,mulA h.b' g.b'⟩
theorem Nb.ls {j k:Nat} {c d:Int × Int} (h:Nb j c) (g:Nb k d):Nb (j+k+1) (lsP c d):=by
 refine ⟨?_,bU h.b g.b,i3 (mulA h.b' g.b') (Nat.pow_le_pow_right (by decide) (by omega))⟩
 have a1:=mulA h.t g.b'
 have a2:=mulA g.t h.b'
 rw [Nat.add_comm k j] at a2
 show (c.1*d.2-d.1*c.2).natAbs≤_
 rw [Nat.pow_succ]
 omega
theorem Nb.pl {j k:Nat} {c d:Int × Int} (h:Nb j c) (g:Nb k d):Nb (j+k+1) (plP c d):=by
 refine ⟨?_,bU h.b g.b,i3 (mulA h.b' g.b') (Nat.pow_le_pow_right (by decide) (by omega))⟩
 have a1:=mulA h.t g.b'
 have a2:=mulA g.t h.b'
 rw [Nat.add_comm k j] at a2
 show (c.1*d.2+d.1*c.2).natAbs≤_
 rw [Nat.pow_succ]
 omega
theorem Nb.ne {k:Nat} {c:Int × Int} (h:Nb k c):c.2≠0:=by have:=h.b;omega
theorem nb01:Nb 0 (0,1):=⟨by decide,by decide,by decide⟩
theorem vC_tm (c d:Int × Int):vC (tmP c d)=vC c*vC d:=(Rat.divInt_mul_divInt _ _).symm
theorem vC_pl {c d:Int × Int} (h:c.2≠0) (g:d.2≠0):vC (plP c d)=vC c+vC d:=(Rat.divInt_add_divInt _ _ h g).symm
theorem vC_ls {c d:Int × Int} (h:c.2≠0) (g:d.2≠0):vC (lsP c d)=vC c-vC d:=(Rat.divInt_sub_divInt _ _ h g).symm
noncomputable def earnP (r:W7) (rp rb:aR):Int × Int:=if r.hi.isSome=true then lsP (lsP (tmP r.gain (amP rp r.go)) (amP rp r.st)) (amP rb r.nm) else lsP (tmP r.gain (amP rp r.go)) (amP rp r.st)
inductive IspEarnL (vs:List V) (H:Hp) (Q:VK):Prop
 | mk (v:V) (dp db:Addr) (r:W7) (rp rb:aR) (h1:vs=[v,.ref dp,.ref db]) (h2:W7Is H v r) (h3:DcpIs H (.ref dp) rp) (h4:DcpIs H (.ref db) rb) (h5:Nb 12 r.gain) (h6:(∀ n,Nb 80 (amP rp n))) (h7:(∀ n,Nb 130 (amP rb n))) (h8:∀ p H',Same H H'→H' p=some (.tup [.int (earnP r rp rb).1,.int (earnP r rp rb).2])→Q (.ref p) H'):IspEarnL vs H Q
noncomputable def spEarnL:Sp:=fun vs H Q _=>IspEarnL vs H Q
theorem ok_law_earned (T:TX K mg a):FnB P w K mg base CX0 "_law_earned" 2 ["_law_way_here","_law_prices","_law_highs"] spEarnL:=by
 refine T.d_law_earned.ok sc_law_earned (fun vs H Q E h=>?_) (fun f cdv A outer s H vs Q E hr h=>?_)
 ·obtain ⟨_,_,_,_,_,_,rfl,_⟩:=h
  rfl
 ·obtain ⟨v,dp,db,r,rp,rb,rfl,⟨u,vg,vh,vc,rfl,hu,⟨qg,rfl,hg⟩,hh,_⟩,hP,hB,ng,np,nb,k⟩:=h
  refine ⟨_,(ag (ar (i:=3) sc_law_earned.nd rfl (Or.inl rfl) (av (cT T) hr ak (aa (ap al (pv 0) ac (fun _ _=>rfl)) (aa (cX (aJ hr) (pv 1) (ap al (pv 0) ac (fun _ _=>rfl)) (aF (aa ac (aa ac ae))) ⟨rfl,rfl,rfl,rfl⟩) ae))))
   (ag (ar (i:=3) sc_law_earned.nd rfl (Or.inl rfl) (av (iF T) hr ak (aa (pv 3) (aa (cX (aJ hr) (pv 1) (ap al (pv 0) ac (fun _ _=>rfl)) (aF (aa ac (aa ac ae))) ⟨rfl,rfl,rfl,rfl⟩) ae))))
   (aP (aG (aw dF (ap al (pv 0) ac (fun _ _=>rfl)) b8 (az _)) (ah (ar (i:=3) sc_law_earned.nd rfl (Or.inl rfl) (av (iF T) hr ak (aa (pv 3) (aa (cX (aJ hr) (pv 2) (ap al (pv 0) ac (fun _ _=>rfl)) (aF (aa ac (aa ac ae))) ⟨rfl,rfl,rfl,rfl⟩) ae))))) ay)
   (ah (aq (pv 3)))))),?_⟩
  try dsimp only [aM,Cx.nox,Cx.wish]
  obtain ⟨d,kvp,ed,hdp,tp,_⟩:=id hP
  cases ed
  obtain ⟨d,kvb,ed,hdb,tb,_⟩:=id hB
  cases ed
  have squ:=SqT.of (K:=K) hu
  refine ⟨_,rfl,u,_,_,_,rfl,rfl,squ,rfl,_,rfl,dp,rfl,.inl ⟨kvp,.inl hdp⟩,_,rfl,u,_,_,_,rfl,rfl,squ,rfl,by show 2≤sizeLine;decide,fun z1 nz1=>?_⟩
  have s1:=ai (o:=.tup [.int 0,.int 1]) nz1
  have h1:upd H z1 (.tup [.int 0,.int 1]) z1=_:=ad
  generalize upd H z1 (.tup [.int 0,.int 1])=H1 at s1 h1 ⊢
  refine ⟨bc kvp (Sum.inr r.go),.inl ⟨kvp,Sum.inr r.go,.inl (s1 _ _ hdp),rfl,rfl⟩,?_⟩
  obtain ⟨e1,ee1,he1⟩:=get2 (n:=r.go) tp s1 h1
  rw [ee1]
  refine ⟨qg,e1,r.gain,amP rp r.go,rfl,s1 _ _ hg,he1,ng.sm,(np _).sm,fun t1 nt1=>?_⟩
  have n1:=ng.tm (np r.go)
  unfold earnP at k
  generalize tmP r.gain (amP rp r.go)=g1 at n1 k
  have s2:=s1.trans (ai (o:=.tup [.int g1.1,.int g1.2]) nt1)
  have h2:upd H1 t1 (.tup [.int g1.1,.int g1.2]) t1=some (.tup [.int g1.1,.int g1.2]):=ad
  generalize upd H1 t1 (.tup [.int g1.1,.int g1.2])=H2 at s2 h2 ⊢
  refine ⟨_,rfl,_,rfl,dp,rfl,.inl ⟨kvp,.inl (s2 _ _ hdp)⟩,_,rfl,u,_,_,_,rfl,rfl,SqT.of (s2 _ _ hu),rfl,by show 2≤sizeLine;decide,fun z2 nz2=>?_⟩
  have s3:=ai (o:=.tup [.int 0,.int 1]) nz2
  have h3:upd H2 z2 (.tup [.int 0,.int 1]) z2=_:=ad
  generalize upd H2 z2 (.tup [.int 0,.int 1])=H3 at s3 h3 ⊢
  have s23:=s2.trans s3
  refine ⟨bc kvp (Sum.inr r.st),.inl ⟨kvp,Sum.inr r.st,.inl (s23 _ _ hdp),rfl,rfl⟩,?_⟩
  obtain ⟨e2,ee2,he2⟩:=get2 (n:=r.st) tp s23 h3
  rw [ee2]
  refine ⟨t1,e2,g1,amP rp r.st,rfl,s3 _ _ h2,he2,n1.sm,(np _).sm,fun t2 nt2=>?_⟩
  have n2:=n1.ls (np r.st)
  generalize lsP g1 (amP rp r.st)=g2 at n2 k
  have s4:=s23.trans (ai (o:=.tup [.int g2.1,.int g2.2]) nt2)
  have h4:upd H3 t2 (.tup [.int g2.1,.int g2.2]) t2=some (.tup [.int g2.1,.int g2.2]):=ad
  generalize upd H3 t2 (.tup [.int g2.1,.int g2.2])=H4 at s4 h4 ⊢
  refine ⟨fun σ' H'=>∃ p,σ'=[some (.ref u),some (.ref dp),some (.ref db),some (.ref p)]∧Same H H'∧H' p=some (.tup [.int (if r.hi.isSome=true then lsP g2 (amP rb r.nm) else g2).1,.int (if r.hi.isSome=true then lsP g2 (amP rb r.nm) else g2).2]),?_,?_⟩
  ·refine ⟨_,rfl,u,_,_,_,rfl,rfl,SqT.of (s4 _ _ hu),rfl,?_⟩
   cases e:r.hi with
   | none=>
    rw [e] at hh
    obtain rfl:vh=.non:=hh
    exact ⟨rfl,_,rfl,iteF ⟨t2,rfl,s4,h4⟩⟩
   | some x=>
    rw [e] at hh
    obtain ⟨qh,rfl,fh⟩:=hh
    refine ⟨rfl,_,rfl,iteT ?_⟩
    refine ⟨_,rfl,_,rfl,db,rfl,.inl ⟨kvb,.inl (s4 _ _ hdb)⟩,_,rfl,u,_,_,_,rfl,rfl,SqT.of (s4 _ _ hu),rfl,by show 2≤sizeLine;decide,fun z3 nz3=>?_⟩
    have s5:=ai (o:=.tup [.int 0,.int 1]) nz3
    have h5:upd H4 z3 (.tup [.int 0,.int 1]) z3=_:=ad
    generalize upd H4 z3 (.tup [.int 0,.int 1])=H5 at s5 h5 ⊢
    have s45:=s4.trans s5
    refine ⟨bc kvb (Sum.inr r.nm),.inl ⟨kvb,Sum.inr r.nm,.inl (s45 _ _ hdb),rfl,rfl⟩,?_⟩
    obtain ⟨e3,ee3,he3⟩:=get2 (n:=r.nm) tb s45 h5
    rw [ee3]
    refine ⟨t2,e3,g2,amP rb r.nm,rfl,s5 _ _ h4,he3,n2.sm,(nb _).sm,fun t3 nt3=>?_⟩
    exact ⟨t3,rfl,s45.trans (ai nt3),ad⟩
  rintro σ' H5 ⟨p,rfl,s5,h5⟩
  exact ⟨_,rfl,k p H5 s5 h5⟩
noncomputable def wgE (rp:aR) (w:Int × Int) (e:Ent):Int × Int:=plP w (tmP e.2 (amP rp e.1))
noncomputable def wgR (rb:aR) (w:Int × Int) (r:W7):Int × Int:=match r.hi with | none=>w | some h=>lsP w (tmP h (amP rb r.nm))
noncomputable def ce (es:List Ent) (rs:List W7) (rp rb:aR):Int × Int:=rs.foldl (wgR rb) (es.foldl (wgE rp) (0,1))
structure Wg52 (es:List Ent) (rs:List W7) (rp rb:aR):Prop where
 l5:es.length≤5
 l6:rs.length≤6
 e:∀ e∈es,Nb 600 e.2
 h:∀ r∈rs,∀ h,r.hi=some h→Nb 20 h
 np:∀ n,Nb 80 (amP rp n)
 nb:∀ n,Nb 130 (amP rb n)
theorem wgE_nb {es:List Ent} {rp:aR} (h:∀ e∈es,Nb 600 e.2) (np:∀ n,Nb 80 (amP rp n)):∀ i,i≤es.length→Nb (i*681) ((es.take i).foldl (wgE rp) (0,1))
 | 0,_=>by
  rw [List.take_zero,Nat.zero_mul]
  exact nb01
 | i+1,hi=>by
  have ih:=wgE_nb h np i (by omega)
  have ee:=iO (l:=es) (i:=i) (by omega)
  have me:=iR ee
  rw [iU,ee,iV,List.foldl_append]
  generalize es[i]'_=e at me
  have:=ih.pl ((h e me).tm (np e.1))
  exact this.mono (by omega)
theorem wgR_nb {rs:List W7} {rb:aR} {w:Int × Int} {k:Nat} (hw:Nb k w) (h:∀ r∈rs,∀ h,r.hi=some h→Nb 20 h) (nb:∀ n,Nb 130 (amP rb n)):∀ i,i≤rs.length→Nb (k+i*151) ((rs.take i).foldl (wgR rb) w)
 | 0,_=>by
  rw [List.take_zero,Nat.zero_mul]
  exact hw
 | i+1,hi=>by
  have ih:=wgR_nb hw h nb i (by omega)
  have ee:=iO (l:=rs) (i:=i) (by omega)
  have me:=iR ee
  rw [iU,ee,iV,List.foldl_append]
  generalize rs[i]'_=r at me
  show Nb _ (wgR rb _ r)
  unfold wgR
  cases e:r.hi with
  | none=>exact ih.mono (by omega)
  | some x=>exact (ih.ls ((h r me x e).tm (nb r.nm))).mono (by omega)
inductive IspWeighL (vs:List V) (H:Hp) (Q:VK):Prop
 | mk (t lp lw dp db:Addr) (tp tw:List V) (es:List Ent) (rs:List W7) (rp rb:aR) (h1:vs=[.ref t,.ref dp,.ref db]) (h2:Told H t lp lw tp tw es rs) (h3:DcpIs H (.ref dp) rp) (h4:DcpIs H (.ref db) rb) (h5:Wg52 es rs rp rb) (h6:∀ p H',Same H H'→H' p=some (.tup [.int (ce es rs rp rb).1,.int (ce es rs rp rb).2])→Q (.ref p) H'):IspWeighL vs H Q
noncomputable def spWeighL:Sp:=fun vs H Q _=>IspWeighL vs H Q
theorem ok_law_weighed (T:TX K mg a):FnB P w K mg base CX0 "_law_weighed" 2 ["_law_told","_law_prices","_law_highs"] spWeighL:=by
 refine T.d_law_weighed.ok sc_law_weighed (fun vs H Q E h=>?_) (fun f cdv A outer s H vs Q E hr h=>?_)
 ·obtain ⟨_,_,_,_,_,_,_,_,_,_,_,rfl,_⟩:=h
  rfl
 ·obtain ⟨t,lp,lw,dp,db,tp,tw,es,rs,rp,rb,rfl,td,hP,hB,ok,k⟩:=h
  refine ⟨_,(ag (ar (i:=3) sc_law_weighed.nd rfl (Or.inl rfl) (aF (aa ac (aa ac ae))))
   (ag (a9 i7 rfl (aX (ap al (pv 0) ac (fun _ _=>rfl))) (ax (i:=4) sc_law_weighed.nd rfl (Or.inl rfl)) (ah (ar (i:=3) sc_law_weighed.nd rfl (Or.inl rfl) (av (cc T) hr ak (aa (pv 3) (aa (av (cT T) hr ak (aa (ap al (pv 4) ac (fun _ _=>rfl)) (aa (cX (aJ hr) (pv 1) (ap al (pv 4) ac (fun _ _=>rfl)) (aF (aa ac (aa ac ae))) ⟨rfl,rfl,rfl,rfl⟩) ae))) ae))))))
   (ag (a9 i7 rfl (aX (ap al (pv 0) ac (fun _ _=>rfl))) (ax (i:=5) sc_law_weighed.nd rfl (Or.inl rfl)) (ah (aG (aw dF (ap al (pv 5) ac (fun _ _=>rfl)) b8 (az _)) (ah (ar (i:=3) sc_law_weighed.nd rfl (Or.inl rfl) (av (iF T) hr ak (aa (pv 3) (aa (av (cT T) hr ak (aa (ap al (pv 5) ac (fun _ _=>rfl)) (aa (cX (aJ hr) (pv 2) (ap al (pv 5) ac (fun _ _=>rfl)) (aF (aa ac (aa ac ae))) ⟨rfl,rfl,rfl,rfl⟩) ae))) ae))))) ay)))
   (ah (aq (pv 3)))))),?_⟩
  try dsimp only [aM,Cx.nox,Cx.wish]
  obtain ⟨d,kvp,ed,hdp,tbp,_⟩:=id hP
  cases ed
  obtain ⟨d,kvb,ed,hdb,tbb,_⟩:=id hB
  cases ed
  have l5:=ok.l5
  have l6:=ok.l6
  refine ⟨by show 2≤sizeLine;decide,fun g0 ng0=>?_⟩
  have s0:=ai (o:=.tup [.int 0,.int 1]) ng0
  have h0:upd H g0 (.tup [.int 0,.int 1]) g0=_:=ad
  generalize upd H g0 (.tup [.int 0,.int 1])=H0 at s0 h0 ⊢
  refine ⟨_,rfl,t,_,_,_,rfl,rfl,SqT.of (s0 _ _ td.ht),rfl,lp,rfl,⟨_,SqL.of (s0 _ _ td.hp)⟩,bn (K:=K) (a:=lp) (xs:=tp) (fun i σ H2=>i≤es.length∧∃ g z4,σ=[some (.ref t),some (.ref dp),some (.ref db),some (.ref g),z4,none]∧Same H H2∧H2 g=some (.tup [.int ((es.take i).foldl (wgE rp) (0,1)).1,.int ((es.take i).foldl (wgE rp) (0,1)).2])) ⟨iY _,g0,none,rfl,s0,h0⟩ (fun i σ H2 _ ⟨_,_,_,_,s2,_⟩=>SqL.of (s2 _ _ td.hp)) ?_ ?_⟩
  ·rintro i v σ H2 hv ⟨_,g,z4,rfl,s2,hg⟩
   obtain ⟨e,ee,u,vp,rfl,hu,pu,rfl,hpu⟩:=td.rp.get hv
   have hi:i<es.length:=(iL.mp ee).1
   have me:=iR ee
   have ni:=wgE_nb ok.e ok.np i (by omega)
   have squ:=SqT.of (K:=K) (s2 _ _ hu)
   refine ⟨_,rfl,_,rfl,u,_,_,_,rfl,rfl,squ,rfl,_,rfl,dp,rfl,.inl ⟨kvp,.inl (s2 _ _ hdp)⟩,_,rfl,u,_,_,_,rfl,rfl,squ,rfl,by show 2≤sizeLine;decide,fun z1 nz1=>?_⟩
   have s3:=s2.trans (ai (o:=.tup [.int 0,.int 1]) nz1)
   have hg3:=ai (o:=.tup [.int 0,.int 1]) nz1 _ _ hg
   have h3:upd H2 z1 (.tup [.int 0,.int 1]) z1=_:=ad
   generalize upd H2 z1 (.tup [.int 0,.int 1])=H3 at s3 hg3 h3 ⊢
   refine ⟨bc kvp (Sum.inr e.1),.inl ⟨kvp,Sum.inr e.1,.inl (s3 _ _ hdp),rfl,rfl⟩,?_⟩
   obtain ⟨e1,ee1,he1⟩:=get2 (n:=e.1) tbp s3 h3
   rw [ee1]
   have nt:=(ok.e e me).tm (ok.np e.1)
   refine ⟨pu,e1,e.2,amP rp e.1,rfl,s3 _ _ hpu,he1,(ok.e e me).sm,(ok.np _).sm,fun t1 nt1=>?_⟩
   have s4:=s3.trans (ai (o:=.tup [.int (tmP e.2 (amP rp e.1)).1,.int (tmP e.2 (amP rp e.1)).2]) nt1)
   have hg4:=ai (o:=.tup [.int (tmP e.2 (amP rp e.1)).1,.int (tmP e.2 (amP rp e.1)).2]) nt1 _ _ hg3
   have h4:upd H3 t1 (.tup [.int (tmP e.2 (amP rp e.1)).1,.int (tmP e.2 (amP rp e.1)).2]) t1=_:=ad
   generalize upd H3 t1 (.tup [.int (tmP e.2 (amP rp e.1)).1,.int (tmP e.2 (amP rp e.1)).2])=H4 at s4 hg4 h4 ⊢
   refine ⟨g,t1,_,tmP e.2 (amP rp e.1),rfl,hg4,h4,ni.sm (by omega),nt.sm,fun t2 nt2=>?_⟩
   refine ⟨hi,t2,_,rfl,s4.trans (ai nt2),?_⟩
   rw [ad,iU,ee,iV,List.foldl_append]
   rfl
  rintro σ H2 ⟨_,g,z4,rfl,s2,hg⟩
  rw [td.rp.1,iS] at hg
  have n1:=wgE_nb ok.e ok.np es.length (iP _)
  rw [iS] at n1
  unfold ce at k
  generalize es.foldl (wgE rp) (0,1)=w0 at hg n1 k
  refine ⟨_,rfl,t,_,_,_,rfl,rfl,SqT.of (s2 _ _ td.ht),rfl,lw,rfl,⟨_,SqL.of (s2 _ _ td.hw)⟩,bn (K:=K) (a:=lw) (xs:=tw) (fun i σ H3=>i≤rs.length∧∃ g z4 z5,σ=[some (.ref t),some (.ref dp),some (.ref db),some (.ref g),z4,z5]∧Same H H3∧H3 g=some (.tup [.int ((rs.take i).foldl (wgR rb) w0).1,.int ((rs.take i).foldl (wgR rb) w0).2])) ⟨iY _,g,_,_,rfl,s2,hg⟩ (fun i σ H3 _ ⟨_,_,_,_,_,s3,_⟩=>SqL.of (s3 _ _ td.hw)) ?_ ?_⟩
  ·rintro i v σ H3 hv ⟨_,g,z4,z5,rfl,s3,hg⟩
   obtain ⟨r,er,u,vg,vh,vc,rfl,hu,_,hh,_⟩:=td.rw.get hv
   have hi:i<rs.length:=(iL.mp er).1
   have mr:=iR er
   have ni:=wgR_nb n1 ok.h ok.nb i (by omega)
   have squ:=SqT.of (K:=K) (s3 _ _ hu)
   have nx:(rs.take (i+1)).foldl (wgR rb) w0=wgR rb ((rs.take i).foldl (wgR rb) w0) r:=by rw [iU,er,iV,List.foldl_append];rfl
   refine ⟨_,rfl,u,_,_,_,rfl,rfl,squ,rfl,?_⟩
   cases e:r.hi with
   | none=>
    rw [e] at hh
    obtain rfl:vh=.non:=hh
    refine ⟨rfl,_,rfl,iteF ⟨hi,g,_,_,rfl,s3,?_⟩⟩
    rw [nx]
    unfold wgR
    rw [e]
    exact hg
   | some x=>
    rw [e] at hh
    obtain ⟨qh,rfl,fh⟩:=hh
    refine ⟨rfl,_,rfl,iteT ?_⟩
    refine ⟨_,rfl,_,rfl,u,_,_,_,rfl,rfl,squ,rfl,_,rfl,db,rfl,.inl ⟨kvb,.inl (s3 _ _ hdb)⟩,_,rfl,u,_,_,_,rfl,rfl,squ,rfl,by show 2≤sizeLine;decide,fun z1 nz1=>?_⟩
    have s4:=s3.trans (ai (o:=.tup [.int 0,.int 1]) nz1)
    have hg4:=ai (o:=.tup [.int 0,.int 1]) nz1 _ _ hg
    have h4:upd H3 z1 (.tup [.int 0,.int 1]) z1=_:=ad
    generalize upd H3 z1 (.tup [.int 0,.int 1])=H4 at s4 hg4 h4 ⊢
    refine ⟨bc kvb (Sum.inr r.nm),.inl ⟨kvb,Sum.inr r.nm,.inl (s4 _ _ hdb),rfl,rfl⟩,?_⟩
    obtain ⟨e1,ee1,he1⟩:=get2 (n:=r.nm) tbb s4 h4
    rw [ee1]
    have nh:=ok.h r mr x e
    have nt:=nh.tm (ok.nb r.nm)
    refine ⟨qh,e1,x,amP rb r.nm,rfl,s4 _ _ fh,he1,nh.sm,(ok.nb _).sm,fun t1 nt1=>?_⟩
    have s5:=s4.trans (ai (o:=.tup [.int (tmP x (amP rb r.nm)).1,.int (tmP x (amP rb r.nm)).2]) nt1)
    have hg5:=ai (o:=.tup [.int (tmP x (amP rb r.nm)).1,.int (tmP x (amP rb r.nm)).2]) nt1 _ _ hg4
    have h5:upd H4 t1 (.tup [.int (tmP x (amP rb r.nm)).1,.int (tmP x (amP rb r.nm)).2]) t1=_:=ad
    generalize upd H4 t1 (.tup [.int (tmP x (amP rb r.nm)).1,.int (tmP x (amP rb r.nm)).2])=H5 at s5 hg5 h5 ⊢
    refine ⟨g,t1,_,tmP x (amP rb r.nm),rfl,hg5,h5,ni.sm (by omega),nt.sm,fun t2 nt2=>?_⟩
    refine ⟨hi,t2,_,_,rfl,s5.trans (ai nt2),?_⟩
    rw [ad,nx]
    show _=some (HO.tup [V.int (wgR rb _ r).1,V.int (wgR rb _ r).2])
    unfold wgR
    rw [e]
  ·rintro σ H3 ⟨_,g,z4,z5,rfl,s3,hg⟩
   rw [td.rw.1,iS] at hg
   exact ⟨_,rfl,k g H3 s3 hg⟩
theorem perm_sum {xs ys:List Rat} (h:xs.Perm ys):xs.sum=ys.sum:=by
 induction h with
 | nil=>rfl
 | cons x _ ih=>rw [kj,kj,ih]
 | swap x y l=>simp only [kj];grind
 | trans _ _ h1 h2=>exact h1.trans h2
theorem sum_keys {ys ks:List Str} (nd:ys.Nodup) (nk:ks.Nodup) (sub:∀ n∈ks,n∈ys) (A G:Str→Rat):(ys.map fun y=>A y*(if y∈ks then G y else 0)).sum=(ks.map fun n=>A n*G n).sum:=by
 have s1:∀ zs:List Str,(zs.map fun y=>A y*(if y∈ks then G y else 0)).sum=((zs.filter fun y=>decide (y∈ks)).map fun n=>A n*G n).sum:=by
  intro zs
  induction zs with
  | nil=>rfl
  | cons z zs ih=>
   rw [jv,kj,ih]
   by_cases hz:z∈ks
   ·rw [jP (by exact iW hz),jv,kj,if_pos hz]
   ·rw [jO (by rw [decide_eq_true_iff];exact hz),if_neg hz,Rat.mul_zero,Rat.zero_add]
 rw [s1]
 refine perm_sum (List.Perm.map _ ((List.perm_ext_iff_of_nodup (List.Pairwise.filter _ nd) nk).mpr fun n=>?_))
 rw [jS,decide_eq_true_iff]
 exact ⟨fun z=>z.2,fun z=>⟨sub n z,z⟩⟩
theorem iH {α:Type} {f:α→Str}:∀ {xs:List α} {x:α},(xs.map f).Nodup→x∈xs→xs.find? (fun y=>decide (f y=f x))=some x
 | [],_,_,h=>by cases h
 | y::ys,x,nd,h=>by
  rw [jv,List.nodup_cons] at nd
  rw [List.find?_cons]
  by_cases e:f y=f x
  ·rw [iW e]
   rcases ja.mp h with z | z
   ·rw [z]
   ·exact absurd (by rw [e];exact iZ.mpr ⟨x,z,rfl⟩) nd.1
  ·rw [iX e]
   rcases ja.mp h with z | z
   ·exact absurd (by rw [z]) e
   ·exact iH nd.2 z
noncomputable def waF (es:List Ent) (n:Str):Rat:=((es.find? fun e=>decide (e.1=n)).map fun e=>vC e.2).getD 0
noncomputable def hqF (rs:List W7) (n:Str):Rat:=((rs.find? fun r=>decide (r.nm=n)).bind fun r=>r.hi.map vC).getD 0
theorem waF_at {es:List Ent} (nd:(es.map (·.1)).Nodup) {e:Ent} (h:e∈es):waF es e.1=vC e.2:=by unfold waF;rw [iH (f:=fun e:Ent=>e.1) nd h];rfl
theorem hqF_at {rs:List W7} (nd:(rs.map (·.nm)).Nodup) {r:W7} (h:r∈rs):hqF rs r.nm=(r.hi.map vC).getD 0:=by unfold hqF;rw [iH (f:=fun r:W7=>r.nm) nd h];rfl
theorem vC01:vC (0,1)=0:=by unfold vC;rw [Rat.zero_divInt]
theorem vR_A (r:aR) (n:Str):Rw.A (vR r) n=vC (amP r n):=by
 unfold Rw.A bI amP vR
 by_cases h:n∈r.1
 ·rw [if_pos h,if_pos h]
 ·rw [if_neg h,if_neg h,vC01]
theorem vC_am (r:aR) (n:Str):vC (amP r n)=if n∈r.1 then vC (r.2 n) else 0:=by
 unfold amP
 by_cases h:n∈r.1
 ·rw [if_pos h,if_pos h]
 ·rw [if_neg h,if_neg h,vC01]
theorem wgE_val {rp:aR} (np:∀ n,(amP rp n).2≠0):∀ {es:List Ent} {w:Int × Int},(∀ e∈es,e.2.2≠0)→w.2≠0→(es.foldl (wgE rp) w).2≠0∧vC (es.foldl (wgE rp) w)=vC w+(es.map fun e=>vC e.2*vC (amP rp e.1)).sum
 | [],w,_,hw=>⟨hw,by show vC w=vC w+0;rw [Rat.add_zero]⟩
 | e::es,w,h,hw=>by
  have h1:(tmP e.2 (amP rp e.1)).2≠0:=jY (h e (by simp)) (np _)
  have h2:(wgE rp w e).2≠0:=jY hw h1
  have:=wgE_val np (es:=es) (w:=wgE rp w e) (fun x hx=>h x (jn _ hx)) h2
  refine ⟨this.1,?_⟩
  rw [List.foldl_cons,this.2,jv,kj]
  unfold wgE
  rw [vC_pl hw h1,vC_tm,Rat.add_assoc]
noncomputable def hiV (rb:aR) (r:W7):Rat:=(r.hi.map vC).getD 0*vC (amP rb r.nm)
theorem wgR_val {rb:aR} (nb:∀ n,(amP rb n).2≠0):∀ {rs:List W7} {w:Int × Int},(∀ r∈rs,∀ h,r.hi=some h→h.2≠0)→w.2≠0→(rs.foldl (wgR rb) w).2≠0∧vC (rs.foldl (wgR rb) w)=vC w-(rs.map (hiV rb)).sum
 | [],w,_,hw=>⟨hw,by show vC w=vC w-0;grind⟩
 | r::rs,w,h,hw=>by
  have h2:(wgR rb w r).2≠0∧vC (wgR rb w r)=vC w-hiV rb r:=by
   unfold wgR hiV
   cases e:r.hi with
   | none=>exact ⟨hw,by show vC w=vC w-0*_;rw [Rat.zero_mul];grind⟩
   | some x=>
    have h1:(tmP x (amP rb r.nm)).2≠0:=jY (h r (by simp) x e) (nb _)
    exact ⟨jY hw h1,by show vC (lsP _ _)=_;rw [vC_ls hw h1,vC_tm];rfl⟩
  have:=wgR_val nb (rs:=rs) (w:=wgR rb w r) (fun x hx=>h x (jn _ hx)) h2.1
  refine ⟨this.1,?_⟩
  rw [List.foldl_cons,this.2,jv,kj,h2.2]
  grind
theorem weigh_eq {es:List Ent} {rs:List W7} {rp rb:aR} (ok:TOk es rs) (W:Wg52 es rs rp rb) (n1:rp.1.Nodup) (n2:rb.1.Nodup) (s1:∀ n∈rp.1,n∈es.map (·.1)) (s2:∀ n∈rb.1,n∈hiT rs):(ce es rs rp rb).2≠0∧vC (ce es rs rp rb)=fK (vR rp) (vR rb) (waF es) (hqF rs):=by
 obtain ⟨a1,a2⟩:=wgE_val (rp:=rp) (fun n=>(W.np n).ne) (es:=es) (w:=(0,1)) (fun e he=>(W.e e he).ne) (by decide)
 obtain ⟨b1,b2⟩:=wgR_val (rb:=rb) (fun n=>(W.nb n).ne) (rs:=rs) (fun r hr h e=>(W.h r hr h e).ne) a1
 refine ⟨b1,?_⟩
 unfold ce fK
 rw [b2,a2,vC01,Rat.zero_add]
 have e1:(es.map fun e=>vC e.2*vC (amP rp e.1))=(es.map (·.1)).map fun y=>waF es y*(if y∈rp.1 then vC (rp.2 y) else 0):=by
  rw [jz]
  refine List.map_congr_left fun e he=>?_
  show _=waF es e.1*_
  rw [waF_at ok.nd he,vC_am]
 have e2:rs.map (hiV rb)=(rs.map (·.nm)).map fun y=>hqF rs y*(if y∈rb.1 then vC (rb.2 y) else 0):=by
  rw [jz]
  refine List.map_congr_left fun r hr=>?_
  show hiV rb r=hqF rs r.nm*_
  unfold hiV
  rw [hqF_at ok.nw hr,vC_am]
 rw [e1,e2,sum_keys ok.nd n1 s1,sum_keys ok.nw n2 fun n hn=>by
  obtain ⟨r,hr,e⟩:=iZ.mp (s2 n hn)
  exact iZ.mpr ⟨r,(jS.mp hr).1,e⟩]
 rfl
theorem earn_eq {es:List Ent} {rs:List W7} {rp rb:aR} (ok:TOk es rs) (W:Wg52 es rs rp rb) (s2:∀ n∈rb.1,n∈hiT rs) {r:W7} (hr:r∈rs):1≤(earnP r rp rb).2∧vC (earnP r rp rb)=earnQ r.d (vR rp) (vR rb):=by
 have o:=ok.rok r hr
 obtain ⟨g1,g2⟩:=o.g2
 have gn:r.gain.2≠0:=by omega
 have t1:1≤(tmP r.gain (amP rp r.go)).2:=bU g1 (W.np _).b
 have t2:1≤(lsP (tmP r.gain (amP rp r.go)) (amP rp r.st)).2:=bU t1 (W.np _).b
 unfold earnQ earnP
 rw [W7.d_go,W7.d_st,W7.d_nm,W7.d_gain o,vR_A,vR_A,vR_A]
 have e2:vC (lsP (tmP r.gain (amP rp r.go)) (amP rp r.st))=vC r.gain*vC (amP rp r.go)-vC (amP rp r.st):=by rw [vC_ls (by omega) (W.np _).ne,vC_tm]
 cases e:r.hi with
 | none=>
  have z:amP rb r.nm=(0,1):=by
   unfold amP
   rw [if_neg]
   intro hn
   obtain ⟨r',hr',en⟩:=iZ.mp (s2 _ hn)
   obtain ⟨m1,m2⟩:=jS.mp hr'
   have f1:=iH (f:=fun r:W7=>r.nm) ok.nw hr
   have f2:=iH (f:=fun r:W7=>r.nm) ok.nw m1
   have en':r'.nm=r.nm:=en
   rw [en',f1] at f2
   cases f2
   rw [e] at m2
   cases m2
  refine ⟨by rw [if_neg (by decide)];exact t2,?_⟩
  rw [if_neg (by decide),e2,z,vC01,Rat.add_zero,Rat.mul_comm]
 | some x=>
  refine ⟨by rw [if_pos (by rfl)];exact bU t2 (W.nb _).b,?_⟩
  rw [if_pos (by rfl),vC_ls (by omega) (W.nb _).ne,e2]
  grind
noncomputable def mvR (r:aR) (nm:Str) (c:Int × Int):aR:=(eM r.1 nm,upf r.2 nm (plP (amP r nm) c))
inductive IspMoved (vs:List V) (H:Hp) (Q:VK):Prop
 | mk (d pm:Addr) (nm:Str) (r:aR) (c:Int × Int) (h1:vs=[.ref d,.str nm,.ref pm]) (h2:DcpIs H (.ref d) r) (h3:r.1.length≤12) (h4:(∀ x,Nb 130 (amP r x))) (h5:H pm=some (.tup [.int c.1,.int c.2])) (h6:Nb 20 c) (h7:∀ d' H',H d'=none→Same H H'→DcpIs H' (.ref d') (mvR r nm c)→Q (.ref d') H'):IspMoved vs H Q
noncomputable def spMoved:Sp:=fun vs H Q _=>IspMoved vs H Q
theorem dG (T:TX K mg a):FnB P w K mg base CX0 "_law_moved" 2 ["_law_pairs_here","_law_name_here","_law_much"] spMoved:=by
 refine T.d_law_moved.ok sc_law_moved (fun vs H Q E h=>?_) (fun f cdv A outer s H vs Q E hr h=>?_)
 ·obtain ⟨_,_,_,_,_,rfl,_⟩:=h
  rfl
 ·obtain ⟨d,pm,nm,r,c,rfl,hD,l12,nr,hpm,nc,k⟩:=h
  refine ⟨_,(ag (ar (i:=3) sc_law_moved.nd rfl (Or.inl rfl) (bS bo (by rfl) T.z_dict jJ (aa (pv 0) ae)))
   (ag (bv (aJ hr) (pv 3) (pv 1) (av (cc T) hr ak (aa (cX (aJ hr) (pv 3) (pv 1) (aF (aa ac (aa ac ae))) ⟨rfl,rfl,rfl,rfl⟩) (aa (pv 2) ae))) rfl)
   (ah (aq (pv 3))))),?_⟩
  try dsimp only [aM,Cx.nox,Cx.wish]
  obtain ⟨d',kvs,ed,hd,tb,ndk⟩:=id hD
  cases ed
  refine ⟨_,rfl,d,kvs,rfl,.inl hd,fun d1 nd1=>?_⟩
  have s1:=ai (o:=.dK kvs) nd1
  have h1:upd H d1 (.dK kvs) d1=some (.dK kvs):=ad
  generalize upd H d1 (.dK kvs)=H1 at s1 h1 ⊢
  refine ⟨_,rfl,d1,rfl,.inl ⟨kvs,.inl h1⟩,_,rfl,by show 2≤sizeLine;decide,fun z nz=>?_⟩
  have s2':=ai (o:=.tup [.int 0,.int 1]) nz
  have s2:=s1.trans s2'
  have h2:=s2' _ _ h1
  have hz:upd H1 z (.tup [.int 0,.int 1]) z=_:=ad
  generalize upd H1 z (.tup [.int 0,.int 1])=H2 at s2 h2 hz ⊢
  refine ⟨bc kvs (Sum.inr nm),.inl ⟨kvs,Sum.inr nm,.inl h2,rfl,rfl⟩,?_⟩
  obtain ⟨e1,ee1,he1⟩:=get2 (n:=nm) tb s2 hz
  rw [ee1]
  refine ⟨_,rfl,e1,pm,amP r nm,c,rfl,he1,s2 _ _ hpm,(nr nm).sm,nc.sm,fun t nt=>?_⟩
  unfold mvR at k
  generalize plP (amP r nm) c=c2 at k
  have s3':=ai (o:=.tup [.int c2.1,.int c2.2]) nt
  have s3:=s2.trans s3'
  have h3:=s3' _ _ h2
  have ht:upd H2 t (.tup [.int c2.1,.int c2.2]) t=some (.tup [.int c2.1,.int c2.2]):=ad
  generalize upd H2 t (.tup [.int c2.1,.int c2.2])=H3 at s3 h3 ht ⊢
  have lk:kvs.length≤900:=by rw [tb.len];omega
  refine ⟨_,rfl,_,rfl,d1,_,rfl,DPut.k (k:=Sum.inr nm) h3 (aE (by omega)),?_⟩
  have ko:KeepO H3 (upd H3 d1 (.dK (bg kvs (Sum.inr nm) (.ref t)))):=.dct h3
  exact ⟨_,rfl,k d1 _ nd1 (aH nd1 s3) ⟨d1,_,rfl,ad,Tab.put (n:=nm) (tb.mono fun v x z=>(DueIs.mono z s3).ko ko) (DueIs.ko (c:=c2) ⟨t,rfl,ht⟩ ko),hV ndk⟩⟩
noncomputable def sumPs (rq:aR) (F:Str→Int × Int) (r:W7):Str→Int × Int:=upf (upf F r.st (lsP (F r.st) (amP rq r.nm))) r.go (plP (upf F r.st (lsP (F r.st) (amP rq r.nm)) r.go) (tmP (amP rq r.nm) r.gain))
noncomputable def bi (rs:List W7) (rq:aR):Str→Int × Int:=rs.foldl (sumPs rq) fun _=>(0,1)
theorem sumP_snoc (rs:List W7) (r:W7) (rq:aR):bi (rs++[r]) rq=sumPs rq (bi rs rq) r:=by unfold bi;rw [List.foldl_append];rfl
theorem sumPs_nb {rq:aR} {F:Str→Int × Int} {r:W7} {kb k:Nat} (hF:∀ s,Nb k (F s)) (hq:∀ n,Nb kb (amP rq n)) (hg:Nb 12 r.gain) (ne:r.st≠r.go) (s:Str):Nb (k+(kb+13)) (sumPs rq F r s):=by
 unfold sumPs
 by_cases h1:s=r.go
 ·subst h1
  rw [bt,bW ne.symm]
  exact ((hF _).pl ((hq _).tm hg)).mono (by omega)
 ·rw [bW h1]
  by_cases h2:s=r.st
  ·subst h2
   rw [bt]
   exact ((hF _).ls (hq _)).mono (by omega)
  ·rw [bW h2]
   exact (hF s).mono (by omega)
structure Sm51 (es:List Ent) (rs:List W7) (rq:aR) (kb:Nat):Prop where
 nd:(es.map (·.1)).Nodup
 l5:es.length≤5
 l6:rs.length≤6
 ro:∀ r∈rs,W7Ok (es.map (·.1)) r
 nq:∀ n,Nb kb (amP rq n)
 kb:kb≤100
theorem W7Ok.gn {sp:List Str} {r:W7} (o:W7Ok sp r):Nb 12 r.gain:=by
 obtain ⟨g1,g2⟩:=o.g1
 obtain ⟨g3,g4⟩:=o.g2
 exact ⟨by omega,by omega,by omega⟩
theorem gc {es:List Ent} {rs:List W7} {rq:aR} {kb:Nat} (h:Sm51 es rs rq kb):∀ i,i≤rs.length→∀ s,Nb (i*(kb+13)) (bi (rs.take i) rq s)
 | 0,_,s=>by
  rw [List.take_zero,Nat.zero_mul]
  exact nb01
 | i+1,hi,s=>by
  have ih:=gc h i (by omega)
  have ee:=iO (l:=rs) (i:=i) (by omega)
  have me:=iR ee
  rw [iU,ee,iV,sumP_snoc]
  generalize rs[i]'_=r at me
  have o:=h.ro r me
  exact (sumPs_nb ih h.nq o.gn o.ne s).mono (by rw [Nat.add_mul,Nat.one_mul];omega)
inductive IspSums51 (vs:List V) (H:Hp) (Q:VK):Prop
 | mk (t lp lw d:Addr) (tp tw:List V) (es:List Ent) (rs:List W7) (rq:aR) (kb:Nat) (h1:vs=[.ref t,.ref d]) (h2:Told H t lp lw tp tw es rs) (h3:DcpIs H (.ref d) rq) (h4:Sm51 es rs rq kb) (h5:∀ d' H',H d'=none→Same H H'→DcpIs H' (.ref d') (es.map (·.1),bi rs rq)→Q (.ref d') H'):IspSums51 vs H Q
noncomputable def spSums51:Sp:=fun vs H Q _=>IspSums51 vs H Q
theorem gH (T:TX K mg a):FnB P w K mg base CX0 "_law_sums" 2 ["_law_told","_law_plan"] spSums51:=by
 refine T.d_law_sums.ok sc_law_sums (fun vs H Q E h=>?_) (fun f cdv A outer s H vs Q E hr h=>?_)
 ·obtain ⟨_,_,_,_,_,_,_,_,_,_,rfl,_⟩:=h
  rfl
 ·obtain ⟨t,lp,lw,d,tp,tw,es,rs,rq,kb,rfl,td,hD,ok,k⟩:=h
  refine ⟨_,(ag (ar (i:=2) sc_law_sums.nd rfl (Or.inl rfl) dE)
   (ag (a9 i7 rfl (aX (ap al (pv 0) ac (fun _ _=>rfl))) (ax (i:=3) sc_law_sums.nd rfl (Or.inl rfl)) (ah (bv (aJ hr) (pv 2) (ap al (pv 3) ac (fun _ _=>rfl)) (aF (aa ac (aa ac ae))) rfl)))
   (ag (a9 i7 rfl (aX (ap al (pv 0) ac (fun _ _=>rfl))) (ax (i:=4) sc_law_sums.nd rfl (Or.inl rfl)) (ag (ar (i:=5) sc_law_sums.nd rfl (Or.inl rfl) (cX (aJ hr) (pv 1) (ap al (pv 4) ac (fun _ _=>rfl)) (aF (aa ac (aa ac ae))) ⟨rfl,rfl,rfl,rfl⟩))
   (ag (bv (aJ hr) (pv 2) (ap al (pv 4) ac (fun _ _=>rfl)) (av (iF T) hr ak (aa (aQ (aJ hr) (pv 2) (ap al (pv 4) ac (fun _ _=>rfl)) (fun _ _=>rfl)) (aa (pv 5) ae))) rfl)
   (ah (bv (aJ hr) (pv 2) (ap al (pv 4) ac (fun _ _=>rfl)) (av (cc T) hr ak (aa (aQ (aJ hr) (pv 2) (ap al (pv 4) ac (fun _ _=>rfl)) (fun _ _=>rfl)) (aa (av (cT T) hr ak (aa (pv 5) (aa (ap al (pv 4) ac (fun _ _=>rfl)) ae))) ae))) rfl)))))
   (ah (aq (pv 2)))))),?_⟩
  try dsimp only [aM,Cx.nox,Cx.wish]
  obtain ⟨d0,kvq,ed,hdq,tbq,_⟩:=id hD
  cases ed
  have l5:=ok.l5
  have l6:=ok.l6
  intro dd ndd
  have s1:=ai (o:=.dK []) ndd
  have hd1:upd H dd (.dK []) dd=some (.dK []):=ad
  generalize upd H dd (.dK [])=H1 at s1 hd1 ⊢
  refine ⟨_,rfl,t,_,_,_,rfl,rfl,SqT.of (s1 _ _ td.ht),rfl,lp,rfl,⟨_,SqL.of (s1 _ _ td.hp)⟩,bn (K:=K) (a:=lp) (xs:=tp) (fun i σ H2=>i≤es.length∧∃ kvs z3,σ=[some (.ref t),some (.ref d),some (.ref dd),z3,none,none]∧Same H H2∧H2 dd=some (.dK kvs)∧Tab DueIs H2 kvs ((es.map (·.1)).take i) (bi [] rq)) ⟨iY _,[],none,rfl,s1,hd1,Tab.nil⟩ (fun i σ H2 _ ⟨_,_,_,_,s2,_⟩=>SqL.of (s2 _ _ td.hp)) ?_ ?_⟩
  ·rintro i v σ H2 hv ⟨_,kvs,z3,rfl,s2,hd2,tb⟩
   obtain ⟨e,ee,u,vp,rfl,hu,_⟩:=td.rp.get hv
   have hi:i<es.length:=(iL.mp ee).1
   have en:(es.map (·.1))[i]?=some e.1:=by rw [i4,ee];rfl
   obtain ⟨tk,nk⟩:=fM ok.nd en
   refine ⟨by show 2≤sizeLine;decide,fun z nz=>?_⟩
   have s3':=ai (o:=.tup [.int 0,.int 1]) nz
   have s3:=s2.trans s3'
   have hd3:=s3' _ _ hd2
   have hz:upd H2 z (.tup [.int 0,.int 1]) z=some (.tup [.int 0,.int 1]):=ad
   have tb3:=tb.mono fun v x y=>DueIs.mono y s3'
   generalize upd H2 z (.tup [.int 0,.int 1])=H3 at s3 hd3 hz tb3 ⊢
   have lk:kvs.length≤900:=by rw [tb.len,i6,iM];omega
   refine ⟨_,rfl,_,rfl,u,_,_,_,rfl,rfl,SqT.of (s3 _ _ hu),rfl,dd,_,rfl,DPut.k (k:=Sum.inr e.1) hd3 (aE (by omega)),?_⟩
   have ko:KeepO H3 (upd H3 dd (.dK (bg kvs (Sum.inr e.1) (.ref z)))):=.dct hd3
   refine ⟨hi,_,_,rfl,aH ndd s3,ad,?_⟩
   rw [tk,← f9 nk]
   refine (Tab.put (n:=e.1) (tb3.mono fun v x y=>DueIs.ko y ko) (DueIs.ko (c:=(0,1)) ⟨z,rfl,hz⟩ ko)).congr fun m _=>?_
   unfold upf
   split <;> rfl
  rintro σ H2 ⟨_,kvs,z3,rfl,s2,hd2,tb⟩
  rw [td.rp.1,show es.length=(es.map (·.1)).length by rw [iM],iS] at tb
  clear s1 hd1
  refine ⟨_,rfl,t,_,_,_,rfl,rfl,SqT.of (s2 _ _ td.ht),rfl,lw,rfl,⟨_,SqL.of (s2 _ _ td.hw)⟩,bn (K:=K) (a:=lw) (xs:=tw) (fun i σ H3=>i≤rs.length∧∃ kvs z3 z4 z5,σ=[some (.ref t),some (.ref d),some (.ref dd),z3,z4,z5]∧Same H H3∧H3 dd=some (.dK kvs)∧Tab DueIs H3 kvs (es.map (·.1)) (bi (rs.take i) rq)) ⟨iY _,kvs,_,_,_,rfl,s2,hd2,tb⟩ (fun i σ H3 _ ⟨_,_,_,_,_,_,s3,_⟩=>SqL.of (s3 _ _ td.hw)) ?_ ?_⟩
  ·rintro i v σ H3 hv ⟨_,kvs,z3,z4,z5,rfl,s3,hd3,tb⟩
   obtain ⟨r,er,u,vg,vh,vc,rfl,hu,⟨pg,rfl,hpg⟩,_⟩:=td.rw.get hv
   have hi:i<rs.length:=(iL.mp er).1
   have o:=ok.ro r (iR er)
   have ni:=gc ok i (by omega)
   have hkb:i*(kb+13)<9000:=jf (Nat.mul_le_mul (show i≤6 by omega) (show kb+13≤113 by have:=ok.kb;omega)) (by decide)
   have kb9:kb<9000:=by have:=ok.kb;omega
   have squ:=SqT.of (K:=K) (s3 _ _ hu)
   refine ⟨_,rfl,d,rfl,.inl ⟨kvq,.inl (s3 _ _ hdq)⟩,_,rfl,u,_,_,_,rfl,rfl,squ,rfl,by show 2≤sizeLine;decide,fun z nz=>?_⟩
   have s4':=ai (o:=.tup [.int 0,.int 1]) nz
   have s4:=s3.trans s4'
   have hd4:=s4' _ _ hd3
   have hz:upd H3 z (.tup [.int 0,.int 1]) z=_:=ad
   have tb4:=tb.mono fun v x y=>DueIs.mono y s4'
   generalize upd H3 z (.tup [.int 0,.int 1])=H4 at s4 hd4 hz tb4 ⊢
   refine ⟨bc kvq (Sum.inr r.nm),.inl ⟨kvq,Sum.inr r.nm,.inl (s4 _ _ hdq),rfl,rfl⟩,?_⟩
   obtain ⟨e1,ee1,he1⟩:=get2 (n:=r.nm) tbq s4 hz
   rw [ee1]
   have nput:=ok.nq r.nm
   generalize hput:amP rq r.nm=put at he1 nput
   obtain ⟨v1,ev1,q1,rfl,hq1⟩:=tb4.vals r.st o.st
   refine ⟨_,rfl,_,rfl,u,_,_,_,rfl,rfl,SqT.of (s4 _ _ hu),rfl,dd,.ref q1,rfl,.inl ⟨kvs,Sum.inr r.st,.inl hd4,rfl,ev1.symm⟩,_,rfl,q1,e1,_,put,rfl,hq1,he1,(ni r.st).sm hkb,nput.sm kb9,fun t1 nt1=>?_⟩
   have s5':=ai (o:=.tup [.int (lsP (bi (rs.take i) rq r.st) put).1,.int (lsP (bi (rs.take i) rq r.st) put).2]) nt1
   have s5:=s4.trans s5'
   have hd5:=s5' _ _ hd4
   have he5:=s5' _ _ he1
   have ht1:upd H4 t1 (.tup [.int (lsP (bi (rs.take i) rq r.st) put).1,.int (lsP (bi (rs.take i) rq r.st) put).2]) t1=_:=ad
   have tb5:=tb4.mono fun v x y=>DueIs.mono y s5'
   generalize upd H4 t1 (.tup [.int (lsP (bi (rs.take i) rq r.st) put).1,.int (lsP (bi (rs.take i) rq r.st) put).2])=H5 at s5 hd5 he5 ht1 tb5 ⊢
   have lk:kvs.length≤900:=by rw [tb.len,iM];omega
   refine ⟨_,rfl,_,rfl,u,_,_,_,rfl,rfl,SqT.of (s5 _ _ hu),rfl,dd,_,rfl,DPut.k (k:=Sum.inr r.st) hd5 (aE (by omega)),?_⟩
   have ko:KeepO H5 (upd H5 dd (.dK (bg kvs (Sum.inr r.st) (.ref t1)))):=.dct hd5
   have tb6:=Tab.put (n:=r.st) (tb5.mono fun v x y=>DueIs.ko y ko) (DueIs.ko (c:=lsP (bi (rs.take i) rq r.st) put) ⟨t1,rfl,ht1⟩ ko)
   rw [show eM (es.map (·.1)) r.st=es.map (·.1) from if_pos o.st] at tb6
   have s6:=aH (o:=.dK (bg kvs (Sum.inr r.st) (.ref t1))) ndd s5
   have hd6:upd H5 dd (.dK (bg kvs (Sum.inr r.st) (.ref t1))) dd=_:=ad
   have he6:=ko.tup _ _ he5
   have lk6:(bg kvs (Sum.inr r.st:Key) (.ref t1)).length≤901:=i3 (fG _ _ _) (by omega)
   generalize bg kvs (Sum.inr r.st) (.ref t1)=kv6 at ko tb6 s6 hd6 he6 lk6 ⊢
   generalize upd H5 dd (.dK kv6)=H6 at ko tb6 s6 hd6 he6 ⊢
   obtain ⟨v2,ev2,q2,rfl,hq2⟩:=tb6.vals r.go o.go
   rw [bW o.ne.symm] at hq2
   have squ6:=SqT.of (K:=K) (s6 _ _ hu)
   refine ⟨_,rfl,_,rfl,u,_,_,_,rfl,rfl,squ6,rfl,dd,.ref q2,rfl,.inl ⟨kv6,Sum.inr r.go,.inl hd6,rfl,ev2.symm⟩,_,rfl,_,rfl,u,_,_,_,rfl,rfl,squ6,rfl,e1,pg,put,r.gain,rfl,he6,s6 _ _ hpg,nput.sm kb9,o.gn.sm,fun t2 nt2=>?_⟩
   have s7':=ai (o:=.tup [.int (tmP put r.gain).1,.int (tmP put r.gain).2]) nt2
   have s7:=s6.trans s7'
   have hd7:=s7' _ _ hd6
   have hq7:=s7' _ _ hq2
   have ht2:upd H6 t2 (.tup [.int (tmP put r.gain).1,.int (tmP put r.gain).2]) t2=_:=ad
   have tb7:=tb6.mono fun v x y=>DueIs.mono y s7'
   generalize upd H6 t2 (.tup [.int (tmP put r.gain).1,.int (tmP put r.gain).2])=H7 at s7 hd7 hq7 ht2 tb7 ⊢
   have ntm:=nput.tm o.gn
   refine ⟨q2,t2,_,tmP put r.gain,rfl,hq7,ht2,(ni r.go).sm hkb,ntm.sm (by have:=ok.kb;omega),fun t3 nt3=>?_⟩
   have s8':=ai (o:=.tup [.int (plP (bi (rs.take i) rq r.go) (tmP put r.gain)).1,.int (plP (bi (rs.take i) rq r.go) (tmP put r.gain)).2]) nt3
   have s8:=s7.trans s8'
   have hd8:=s8' _ _ hd7
   have ht3:upd H7 t3 (.tup [.int (plP (bi (rs.take i) rq r.go) (tmP put r.gain)).1,.int (plP (bi (rs.take i) rq r.go) (tmP put r.gain)).2]) t3=_:=ad
   have tb8:=tb7.mono fun v x y=>DueIs.mono y s8'
   generalize upd H7 t3 (.tup [.int (plP (bi (rs.take i) rq r.go) (tmP put r.gain)).1,.int (plP (bi (rs.take i) rq r.go) (tmP put r.gain)).2])=H8 at s8 hd8 ht3 tb8 ⊢
   refine ⟨_,rfl,_,rfl,u,_,_,_,rfl,rfl,SqT.of (s8 _ _ hu),rfl,dd,_,rfl,DPut.k (k:=Sum.inr r.go) hd8 (aE (by omega)),?_⟩
   have ko8:KeepO H8 (upd H8 dd (.dK (bg kv6 (Sum.inr r.go) (.ref t3)))):=.dct hd8
   have tb9:=Tab.put (n:=r.go) (tb8.mono fun v x y=>DueIs.ko y ko8) (DueIs.ko (c:=plP (bi (rs.take i) rq r.go) (tmP put r.gain)) ⟨t3,rfl,ht3⟩ ko8)
   rw [show eM (es.map (·.1)) r.go=es.map (·.1) from if_pos o.go] at tb9
   refine ⟨hi,_,_,_,_,rfl,aH ndd s8,ad,?_⟩
   rw [iU,er,iV,sumP_snoc]
   unfold sumPs
   rw [hput,bW o.ne.symm]
   exact tb9
  ·rintro σ H3 ⟨_,kvs,z3,z4,z5,rfl,s3,hd3,tb⟩
   rw [td.rw.1,iS] at tb
   exact ⟨_,rfl,k dd H3 ndd s3 ⟨dd,kvs,rfl,hd3,tb,ok.nd⟩⟩
theorem rat_neg {x:Rat}:x<0↔x.num<0:=by
 rw [← Rat.not_le,← Rat.num_nonneg]
 omega
theorem sub_neg' {x y:Rat}:x<y↔x-y<0:=by
 rw [← Rat.not_le,← Rat.not_le,Rat.le_iff_sub_nonneg]
theorem ls_lt {c d:Int × Int} (hc:1≤c.2) (hd:1≤d.2):(lsP c d).1<0↔vC c<vC d:=by
 rw [sub_neg',rat_neg,← vC_ls (by omega) (by omega)]
 exact (vC_sg (bU hc hd)).1.symm
theorem sumP_val {rq:aR} (hq:∀ n,(amP rq n).2≠0) (rs:List W7):(∀ r∈rs,r.st≠r.go∧r.gain.2≠0∧dH r.d.kd r.d.x=vC r.gain)→∀ s,(bi rs rq s).2≠0∧vC (bi rs rq s)=eI (Rw.A (vR rq)) (dsT rs) s:=by
 have main:∀ (n:Nat) (rs:List W7),rs.length=n→(∀ r∈rs,r.st≠r.go∧r.gain.2≠0∧dH r.d.kd r.d.x=vC r.gain)→∀ s,(bi rs rq s).2≠0∧vC (bi rs rq s)=eI (Rw.A (vR rq)) (dsT rs) s:=by
  intro n
  induction n with
  | zero=>
   intro rs hl _ s
   rw [List.length_eq_zero_iff.mp hl]
   exact ⟨by show (1:Int)≠0;decide,vC01⟩
  | succ n ih=>
   intro rs hl h s
   have ne:rs≠[]:=fun z=>by rw [z] at hl;cases hl
   obtain ⟨us,r,rfl⟩:∃ us r,rs=us++[r]:=⟨rs.dropLast,rs.getLast ne,(List.dropLast_concat_getLast ne).symm⟩
   have I:=ih us (by rw [jd] at hl;simpa using hl) (fun x hx=>h x (List.mem_append_left _ hx))
   obtain ⟨h1,h2,h3⟩:=h r (by simp)
   rw [sumP_snoc,show dsT (us++[r])=dsT us++[r.d] by unfold dsT;rw [i5];rfl,sumF_snoc]
   unfold sumPs sumStep
   rw [W7.d_st,W7.d_go,W7.d_nm,h3,vR_A,bW h1.symm]
   have tm0:(tmP (amP rq r.nm) r.gain).2≠0:=jY (hq _) h2
   by_cases e1:s=r.go
   ·subst e1
    rw [bt,bt]
    exact ⟨jY (I _).1 tm0,by rw [vC_pl (I _).1 tm0,(I _).2,vC_tm]⟩
   ·rw [bW e1,bW e1]
    by_cases e2:s=r.st
    ·subst e2
     rw [bt,bt]
     exact ⟨jY (I _).1 (hq _),by rw [vC_ls (I _).1 (hq _),(I _).2]⟩
    ·rw [bW e2,bW e2]
     exact I s
 exact main rs.length rs rfl
noncomputable def gF (r:W7) (put:Int × Int):Bool:=decide (put.1<0) || (match r.hi with | none=>false | some h=>decide ((lsP h put).1<0))
noncomputable def meetP (es:List Ent) (rs:List W7) (rq:aR):Bool:=(rq.1.all fun n=>decide (n∈rs.map (·.nm))) && ((rs.all fun r=>!gF r (amP rq r.nm)) && (es.all fun e=>decide (¬ (lsP (bi rs rq e.1) e.2).1<0)))
theorem all_nil {α:Type} {p:α→Bool} {xs:List α}:(xs.filter fun x=>!p x).isEmpty=xs.all p:=by
 induction xs with
 | nil=>rfl
 | cons x xs ih=>
  rw [List.all_cons]
  cases e:p x with
  | true=>rw [jO (by rw [e];decide),ih,jX]
  | false=>rw [jP (by rw [e];decide)];rfl
theorem ie_app {α:Type} (xs ys:List α):(xs++ys).isEmpty=(xs.isEmpty && ys.isEmpty):=by
 cases xs <;> rfl
theorem ie_map {α β:Type} (f:α→β) (xs:List α):(xs.map f).isEmpty=xs.isEmpty:=by
 cases xs <;> rfl
theorem meet_eq {es:List Ent} {rs:List W7} {rq:aR} {kb:Nat} (ok:TOk es rs) (S:Sm51 es rs rq kb):(dJ rq.1 (bI rq.1 (vR rq).2) (psT es) (dsT rs)).isEmpty=meetP es rs rq:=by
 have sv:=sumP_val (rq:=rq) (fun n=>(S.nq n).ne) rs (fun r hr=>⟨(S.ro r hr).ne,(S.ro r hr).gn.ne,W7.d_gain (S.ro r hr)⟩)
 have nn:=gc S rs.length (iP _)
 rw [iS] at nn
 unfold dJ meetP
 rw [ie_app,ie_app,Bool.and_assoc]
 congr 1
 ·rw [ie_map]
  unfold bX
  rw [dsT_n]
  have:=all_nil (p:=fun n=>decide (n∈rs.map (·.nm))) (xs:=rq.1)
  rw [← this]
  congr 2
  funext n
  exact decide_not
 congr 1
 ·unfold dM dsT
  rw [ie_map,List.filter_map,ie_map,← all_nil]
  congr 1
  refine List.filter_congr fun r hr=>?_
  show iA r.d.hi (bI rq.1 (vR rq).2 r.d.nm) = !(!gF r (amP rq r.nm))
  rw [Bool.not_not,W7.d_hi,W7.d_nm,show bI rq.1 (vR rq).2 r.nm=vC (amP rq r.nm) from vR_A rq r.nm]
  unfold iA gF
  have nb:=S.nq r.nm
  congr 1
  ·exact decide_eq_decide.mpr (by rw [rat_neg];exact (vC_sg nb.b).1)
  ·cases e:r.hi with
   | none=>rfl
   | some h=>exact decide_eq_decide.mpr (ls_lt (((S.ro r hr).hi h e).2.nb).b nb.b).symm
 ·unfold eW psT
  rw [ie_map,List.filter_map,ie_map,← all_nil]
  congr 1
  refine List.filter_congr fun e he=>?_
  show decide (eI (bI rq.1 (vR rq).2) (dsT rs) e.1<vC e.2) = !(decide (¬ (lsP (bi rs rq e.1) e.2).1<0))
  rw [decide_not,Bool.not_not]
  refine decide_eq_decide.mpr ?_
  rw [ls_lt (nn e.1).b (ok.eok e he).b,(sv e.1).2]
  rfl
inductive IspMeets51 (vs:List V) (H:Hp) (Q:VK):Prop
 | mk (t lp lw d:Addr) (tp tw:List V) (es:List Ent) (rs:List W7) (rq:aR) (kb:Nat) (h1:vs=[.ref t,.ref d]) (h2:Told H t lp lw tp tw es rs) (h3:TOk es rs) (h4:DcpIs H (.ref d) rq) (h5:Sm51 es rs rq kb) (h6:∀ H',Same H H'→Q (.bl (meetP es rs rq)) H'):IspMeets51 vs H Q
noncomputable def spMeets51:Sp:=fun vs H Q _=>IspMeets51 vs H Q
theorem ok_law_meets (T:TX K mg a):FnB P w K mg base CX0 "_law_meets" 3 ["_law_told","_law_plan"] spMeets51:=by
 refine T.d_law_meets.ok sc_law_meets (fun vs H Q E h=>?_) (fun f cdv A outer s H vs Q E hr h=>?_)
 ·obtain ⟨_,_,_,_,_,_,_,_,_,_,rfl,_⟩:=h
  rfl
 ·obtain ⟨t,lp,lw,d,tp,tw,es,rs,rq,kb,rfl,td,tok,hD,ok,k⟩:=h
  refine ⟨_,(aP (dD (i:=2) (xs:=["_law_way_here"]) (rest:=[]) sc_law_meets.nd rfl rfl rfl (aX (ap al (pv 0) ac (fun _ _=>rfl)))
   (fun pins fp C' s' H'=>(ax (i:=0) (show (["_law_way_here"]:List Str).Nodup by decide +kernel) rfl (Or.inl rfl))) (fun pins fp C' s' H'=>cY)
   (fun pins fp C' s' H'=>(ap (r:=rIxT K) al (pv 0) ac (fun _ _=>rfl)))
   (Clos.none (by decide +kernel) (by decide +kernel)) (Reads.many (ys:=[]) (js:=[]) True.intro))
   (aP (eV (a9 i7 rfl (fE (pv 1)) (ax (i:=3) sc_law_meets.nd rfl (Or.inl rfl)) (ah (aG (aw eY (pv 3) (pv 2) (by with_unfolding_all rfl)) (ah (aq b9)) ay))))
   (aP (a9 i7 rfl (aX (ap al (pv 0) ac (fun _ _=>rfl))) (ax (i:=4) sc_law_meets.nd rfl (Or.inl rfl)) (ag (ar (i:=5) sc_law_meets.nd rfl (Or.inl rfl) (cX (aJ hr) (pv 1) (ap al (pv 4) ac (fun _ _=>rfl)) (aF (aa ac (aa ac ae))) ⟨rfl,rfl,rfl,rfl⟩))
   (ah (aG (PW.pt (g7 (aw ft (ap al (pv 5) ac (fun _ _=>rfl)) ac (az _)) (fL (PW.pt (gD (aw dF (ap al (pv 4) ac (fun _ _=>rfl)) b8 (az _)) (gf (aw ft (ap al (av (iF T) hr ak (aa (ap al (pv 4) ac (fun _ _=>rfl)) (aa (pv 5) ae))) ac (fun _ _=>rfl)) ac (az _)))))))) (ah (aq b9)) ay))))
   (ag (ar (i:=6) sc_law_meets.nd rfl (Or.inl rfl) (av (gH T) hr ak (aa (pv 0) (aa (pv 1) ae))))
   (ag (a9 i7 rfl (aX (ap al (pv 0) ac (fun _ _=>rfl))) (ax (i:=7) sc_law_meets.nd rfl (Or.inl rfl)) (ah (aG (aw ft (ap al (av (iF T) hr ak (aa (aQ (aJ hr) (pv 6) (ap al (pv 7) ac (fun _ _=>rfl)) (fun _ _=>rfl)) (aa (ap al (pv 7) ac (fun _ _=>rfl)) ae))) ac (fun _ _=>rfl)) ac (az _)) (ah (aq b9)) ay)))
   (ah (aq b9))))))),?_⟩
  try dsimp only [aM,Cx.nox,Cx.wish]
  have l5:=ok.l5
  have l6:=ok.l6
  unfold meetP at k
  refine ⟨fun σ' H'=>∃ l1,σ'=[some (.ref t),some (.ref d),some (.ref l1),none,none,none,none,none]∧Same H H'∧H' l1=some (.lst ((rs.map (·.nm)).map V.str)),?_,?_⟩
  ·refine ⟨_,rfl,t,_,_,_,rfl,rfl,SqT.of td.ht,rfl,lw,rfl,⟨_,SqL.of td.hw⟩,fun l1 nl1=>?_⟩
   refine cZ (K:=K) (a:=lw) (xs:=tw) (fun i H2=>i≤rs.length∧Same H H2∧H2 l1=some (.lst (((rs.take i).map (·.nm)).map V.str))) ⟨iY _,ai nl1,ad⟩ (fun i H2 ⟨_,s2,_⟩=>SqL.of (s2 _ _ td.hw)) ?_ ?_
   ·rintro i x H2 hx ⟨_,s2,h2⟩
    obtain ⟨r,er,u,vg,vh,vc,rfl,hu,_⟩:=td.rw.get hx
    have hi:i<rs.length:=(iL.mp er).1
    refine g1 ⟨⟨[_],rfl,rfl⟩,yes ?_⟩
    refine ⟨_,rfl,u,_,_,_,rfl,rfl,SqT.of (s2 _ _ hu),rfl,_,h2,aE (by rw [iM,iM,i6];omega),dN (by rw [td.rw.1];exact hi) ⟨hi,aH nl1 s2,?_⟩⟩
    rw [ad,iU,er,iV,i5,i5]
    rfl
   ·rintro H2 ⟨_,s2,h2⟩
    rw [td.rw.1,iS] at h2
    exact ⟨l1,rfl,s2,h2⟩
  rintro σ' H1 ⟨l1,rfl,s1,h1⟩
  refine ⟨fun σ' H'=>∃ z3,σ'=[some (.ref t),some (.ref d),some (.ref l1),z3,none,none,none,none]∧Same H1 H'∧(rq.1.all fun n=>decide (n∈rs.map (·.nm)))=true,?_,?_⟩
  ·obtain ⟨d0,kvs,ed,hd,tb,nd⟩:=hD.mono s1
   cases ed
   refine ⟨d,.dK kvs,hd,(by intro o z e;cases e),_,rfl,d,kvs,rfl,hd,fun o=>?_⟩
   refine fX (a:=d) (o:=o) (kvs:=kvs) (fun i σ H3=>i≤rq.1.length∧∃ z3,σ=[some (.ref t),some (.ref d),some (.ref l1),z3,none,none,none,none]∧H3 d=some (.frz o (.dK kvs))∧(∀ b ob,H1 b=some ob→b≠d→H3 b=some ob)∧((rq.1.take i).all fun n=>decide (n∈rs.map (·.nm)))=true)
    ⟨iY _,none,rfl,ad,(fun b ob e ne=>by rw [aj ne];exact e),rfl⟩ (fun i σ H3 _ ⟨_,_,_,h,_⟩=>h) ?_ ?_
   ·rintro i kv σ H3 hkv ⟨_,z3,rfl,hf,k3,ih⟩
    obtain ⟨n,en,e1,ev,q,eq,hq⟩:=tb.at_ nd hkv
    have hi:i<rq.1.length:=(iL.mp en).1
    have mn:=iR en
    have ekv:kV kv.1=.str n:=by rw [e1];rfl
    rw [ekv]
    have hl3:=k3 _ _ h1 (bh h1 hd (by intro z;cases z))
    refine ⟨_,rfl,_,rfl,l1,_,rfl,.inl (SqL.of hl3),rfl,fo _,_,rfl,?_⟩
    by_cases m:n∈rs.map (·.nm)
    ·refine eQ (show (!inV _ _)=false by rw [e9,iW m];rfl) ?_
     refine ⟨hi,_,rfl,hf,k3,?_⟩
     rw [iU,en,iV,List.all_append,ih,List.all_cons,iW m]
     rfl
    ·refine gW (show (!inV _ _)=true by rw [e9,iX m];rfl) ?_
     have e:(rq.1.all fun n=>decide (n∈rs.map (·.nm)))=false:=by
      rw [List.all_eq_false]
      exact ⟨n,mn,fun z=>m (jG z)⟩
     rw [e] at k
     exact ⟨o,hf,k _ (s1.trans (b3 hd k3))⟩
   ·rintro σ H3 ⟨_,z3,rfl,hf,k3,ih⟩
    rw [tb.len,iS] at ih
    exact ⟨o,hf,_,rfl,b3 hd k3,ih⟩
  rintro σ' H2 ⟨z3,rfl,s2,e1⟩
  rw [e1,jX] at k
  have s12:=s1.trans s2
  refine ⟨fun σ' H'=>∃ z3 z4 z5,σ'=[some (.ref t),some (.ref d),some (.ref l1),z3,z4,z5,none,none]∧Same H H'∧(rs.all fun r=>!gF r (amP rq r.nm))=true,?_,?_⟩
  ·have td2:=td.mono s12
   obtain ⟨d0,kvq,ed,hdq,tbq,_⟩:=hD.mono s12
   cases ed
   have kb9:kb<9000:=by have:=ok.kb;omega
   refine ⟨_,rfl,t,_,_,_,rfl,rfl,SqT.of td2.ht,rfl,lw,rfl,⟨_,SqL.of td2.hw⟩,bn (K:=K) (a:=lw) (xs:=tw) (fun i σ H3=>i≤rs.length∧∃ z3 z4 z5,σ=[some (.ref t),some (.ref d),some (.ref l1),z3,z4,z5,none,none]∧Same H2 H3∧((rs.take i).all fun r=>!gF r (amP rq r.nm))=true) ⟨iY _,_,_,_,rfl,Same.refl _,rfl⟩ (fun i σ H3 _ ⟨_,_,_,_,_,s3,_⟩=>SqL.of (s3 _ _ td2.hw)) ?_ ?_⟩
   ·rintro i v σ H3 hv ⟨_,z3,z4,z5,rfl,s3,ih⟩
    obtain ⟨r,er,u,vg,vh,vc,rfl,hu,_,hh,_⟩:=td2.rw.get hv
    have hi:i<rs.length:=(iL.mp er).1
    have mr:=iR er
    have o:=ok.ro r mr
    have squ:=SqT.of (K:=K) (s3 _ _ hu)
    have bad:gF r (amP rq r.nm)=true→(rs.all fun r=>!gF r (amP rq r.nm))=false:=fun e=>by
     rw [List.all_eq_false]
     exact ⟨r,mr,by rw [e];decide⟩
    have good:gF r (amP rq r.nm)=false→((rs.take (i+1)).all fun r=>!gF r (amP rq r.nm))=true:=fun e=>by
     rw [iU,er,iV,List.all_append,ih,List.all_cons,e]
     rfl
    refine ⟨_,rfl,d,rfl,.inl ⟨kvq,.inl (s3 _ _ hdq)⟩,_,rfl,u,_,_,_,rfl,rfl,squ,rfl,by show 2≤sizeLine;decide,fun z nz=>?_⟩
    have s4':=ai (o:=.tup [.int 0,.int 1]) nz
    have s4:=s3.trans s4'
    have hz:upd H3 z (.tup [.int 0,.int 1]) z=_:=ad
    generalize upd H3 z (.tup [.int 0,.int 1])=H4 at s4 hz ⊢
    refine ⟨bc kvq (Sum.inr r.nm),.inl ⟨kvq,Sum.inr r.nm,.inl (s4 _ _ hdq),rfl,rfl⟩,?_⟩
    obtain ⟨e1,ee1,he1⟩:=get2 (n:=r.nm) tbq s4 hz
    rw [ee1]
    have nput:=ok.nq r.nm
    generalize hov:gF r (amP rq r.nm)=ov at bad good
    unfold gF at hov
    generalize amP rq r.nm=put at he1 nput hov
    refine ⟨_,rfl,e1,_,_,_,rfl,rfl,SqT.of he1,rfl,_,_,rfl,rfl,_,rfl,ifB (fun lt=>?_) (fun ge=>?_)⟩
    ·have lt:put.1<0:=lt
     rw [bad (by rw [← hov,iW lt];rfl)] at k
     exact k _ (s12.trans s4)
    ·have ge:¬ put.1<0:=ge
     rw [iX ge,Bool.false_or] at hov
     refine ⟨_,rfl,u,_,_,_,rfl,rfl,SqT.of (s4 _ _ hu),rfl,?_⟩
     cases eh:r.hi with
     | none=>
      rw [eh] at hh hov
      obtain rfl:vh=.non:=hh
      refine ⟨rfl,_,rfl,iteF (iteF ?_)⟩
      exact ⟨hi,_,_,_,rfl,s4,good hov.symm⟩
     | some xh=>
      rw [eh] at hh hov
      obtain ⟨ph,rfl,hph⟩:=hh
      have nxh:=(o.hi xh eh).2.nb
      refine ⟨rfl,_,rfl,iteT ?_⟩
      refine ⟨_,rfl,u,_,_,_,rfl,rfl,SqT.of (s4 _ _ hu),rfl,_,rfl,ph,e1,xh,put,rfl,s4 _ _ hph,he1,nxh.sm,nput.sm kb9,fun t1 nt1=>?_⟩
      have s5':=ai (o:=.tup [.int (lsP xh put).1,.int (lsP xh put).2]) nt1
      have ht1:upd H4 t1 (.tup [.int (lsP xh put).1,.int (lsP xh put).2]) t1=some (.tup [.int (lsP xh put).1,.int (lsP xh put).2]):=ad
      have s5:=s4.trans s5'
      generalize upd H4 t1 (.tup [.int (lsP xh put).1,.int (lsP xh put).2])=H5 at s5 ht1 ⊢
      refine ⟨t1,_,_,_,rfl,rfl,SqT.of ht1,rfl,_,_,rfl,rfl,_,rfl,ifB (fun lt=>?_) (fun ge=>?_)⟩
      ·have lt:(lsP xh put).1<0:=lt
       rw [bad (hov.symm.trans (iW lt))] at k
       exact k _ (s12.trans s5)
      ·exact ⟨hi,_,_,_,rfl,s5,good (hov.symm.trans (iX ge))⟩
   ·rintro σ H3 ⟨_,z3,z4,z5,rfl,s3,ih⟩
    rw [td.rw.1,iS] at ih
    exact ⟨_,_,_,rfl,s12.trans s3,ih⟩
  rintro σ' H3 ⟨z3,z4,z5,rfl,s3,e2⟩
  rw [e2,jX] at k
  refine ⟨_,rfl,_,rfl,t,lp,lw,d,tp,tw,es,rs,rq,kb,rfl,td.mono s3,hD.mono s3,ok,fun d' H4 nd' s4 h4=>?_⟩
  obtain ⟨d0,kvs,ed,hds,tbs,_⟩:=h4
  cases ed
  have s34:=s3.trans s4
  have nn:=gc ok rs.length (iP _)
  rw [iS] at nn
  have hkb:rs.length*(kb+13)<9000:=jf (Nat.mul_le_mul (show rs.length≤6 by omega) (show kb+13≤113 by have:=ok.kb;omega)) (by decide)
  refine ⟨_,rfl,t,_,_,_,rfl,rfl,SqT.of (s34 _ _ td.ht),rfl,lp,rfl,⟨_,SqL.of (s34 _ _ td.hp)⟩,bn (K:=K) (a:=lp) (xs:=tp) (fun i σ H5=>i≤es.length∧∃ z7,σ=[some (.ref t),some (.ref d),some (.ref l1),z3,z4,z5,some (.ref d'),z7]∧Same H4 H5∧((es.take i).all fun e=>decide (¬ (lsP (bi rs rq e.1) e.2).1<0))=true) ⟨iY _,none,rfl,Same.refl _,rfl⟩ (fun i σ H5 _ ⟨_,_,_,s5,_⟩=>SqL.of ((s34.trans s5) _ _ td.hp)) ?_ ?_⟩
  ·rintro i v σ H5 hv ⟨_,z7,rfl,s5,ih⟩
   obtain ⟨e,ee,u,vp,rfl,hu,pu,rfl,hpu⟩:=td.rp.get hv
   have hi:i<es.length:=(iL.mp ee).1
   have me:=iR ee
   have s35:=s34.trans s5
   obtain ⟨v1,ev1,q1,rfl,hq1⟩:=tbs.vals e.1 (iZ.mpr ⟨e,me,rfl⟩)
   have squ:=SqT.of (K:=K) (s35 _ _ hu)
   have nw:=tok.eok e me
   refine ⟨_,rfl,_,rfl,u,_,_,_,rfl,rfl,squ,rfl,d',.ref q1,rfl,.inl ⟨kvs,Sum.inr e.1,.inl (s5 _ _ hds),rfl,ev1.symm⟩,_,rfl,u,_,_,_,rfl,rfl,squ,rfl,q1,pu,bi rs rq e.1,e.2,rfl,s5 _ _ hq1,s35 _ _ hpu,(nn e.1).sm hkb,nw.sm,fun t1 nt1=>?_⟩
   have s6':=ai (o:=.tup [.int (lsP (bi rs rq e.1) e.2).1,.int (lsP (bi rs rq e.1) e.2).2]) nt1
   have ht1:upd H5 t1 (.tup [.int (lsP (bi rs rq e.1) e.2).1,.int (lsP (bi rs rq e.1) e.2).2]) t1=some (.tup [.int (lsP (bi rs rq e.1) e.2).1,.int (lsP (bi rs rq e.1) e.2).2]):=ad
   have s6:=s5.trans s6'
   generalize upd H5 t1 (.tup [.int (lsP (bi rs rq e.1) e.2).1,.int (lsP (bi rs rq e.1) e.2).2])=H6 at s6 ht1 ⊢
   refine ⟨t1,_,_,_,rfl,rfl,SqT.of ht1,rfl,_,_,rfl,rfl,_,rfl,ifB (fun lt=>?_) (fun ge=>?_)⟩
   ·have lt:(lsP (bi rs rq e.1) e.2).1<0:=lt
    have e:(es.all fun e=>decide (¬ (lsP (bi rs rq e.1) e.2).1<0))=false:=by
     rw [List.all_eq_false]
     exact ⟨e,me,fun z=>jG z lt⟩
    rw [e] at k
    exact k _ (s34.trans s6)
   ·have ge:¬ (lsP (bi rs rq e.1) e.2).1<0:=ge
    refine ⟨hi,_,rfl,s6,?_⟩
    rw [iU,ee,iV,List.all_append,ih,List.all_cons,iW ge]
    rfl
  ·rintro σ H5 ⟨_,z7,rfl,s5,ih⟩
   rw [td.rp.1,iS] at ih
   rw [ih] at k
   exact k _ (s34.trans s5)
theorem ls_eq {c d:Int × Int} (hc:1≤c.2) (hd:1≤d.2):(lsP c d).1=0↔vC c=vC d:=by
 unfold vC
 rw [jA (by omega) (by omega)]
 show c.1*d.2-d.1*c.2=0↔_
 omega
theorem am_in {r:aR} {n:Str} (h:n∈r.1):amP r n=r.2 n:=if_pos h
theorem up_eq {rp:aR} {pl:Str} (h:(amP rp pl).2≠0):vR (mvR rp pl (1,1))=upR (vR rp) pl:=by
 unfold vR mvR upR
 congr 1
 funext n
 show vC (upf rp.2 pl (plP (amP rp pl) (1,1)) n)=upf (fun n=>vC (rp.2 n)) pl (Rw.A (vR rp) pl+1) n
 by_cases e:n=pl
 ·subst e
  rw [bt,bt,vC_pl h (by decide),vR_A]
  rfl
 ·rw [bW e,bW e]
inductive IspAmt (vs:List V) (H:Hp) (Q:VK):Prop
 | mk (t pa lp lw m d dp db:Addr) (tp tw:List V) (es:List Ent) (rs:List W7) (rq rp rb:aR) (kb:Nat) (pl:Str) (c:Int × Int) (h1:vs=[.ref t,.str pl,.ref pa]) (h2:H pa=some (.tup [.str "most",.ref m,.ref d,.ref dp,.ref db])) (h3:Told H t lp lw tp tw es rs) (h4:TOk es rs) (h5:pl∈es.map (·.1)) (h6:H m=some (.tup [.int c.1,.int c.2])) (h7:Nb 900 c) (h8:DcpIs H (.ref d) rq) (h9:DcpIs H (.ref dp) rp) (h10:DcpIs H (.ref db) rb) (h11:rp.1.length≤12) (h12:Sm51 es rs rq kb) (h13:Wg52 es rs rp rb) (h14:Wg52 es rs (mvR rp pl (1,1)) rb) (h15:∀ H',Same H H'→Q (.bl (mostB (psT es) (dsT rs) (vR rq) (vR rp) (vR rb) (waF es) (hqF rs) pl (vC c))) H'):IspAmt vs H Q
noncomputable def spAmt:Sp:=fun vs H Q _=>IspAmt vs H Q
theorem ok_law_amount (T:TX K mg a):FnB P w K mg base CX0 "_law_amount" 4 ["_law_told","_law_place","_law_answer"] spAmt:=by
 refine T.d_law_amount.ok sc_law_amount (fun vs H Q E h=>?_) (fun f cdv A outer s H vs Q E hr h=>?_)
 ·obtain ⟨_,_,_,_,_,_,_,_,_,_,_,_,_,_,_,_,_,_,rfl,_⟩:=h
  rfl
 ·obtain ⟨t,pa,lp,lw,m,d,dp,db,tp,tw,es,rs,rq,rp,rb,kb,pl,c,rfl,hpa,td,ok,hpl,hm,nc,hD,hP,hB,l12,S,W,Wu,k⟩:=h
  refine ⟨_,(ag (gj (iy sl_tup (pv 2) (po_some ac) po_none) (eO rfl (aD (ax (i:=3) sc_law_amount.nd rfl (Or.inl rfl)) (aD (ax (i:=4) sc_law_amount.nd rfl (Or.inl rfl)) (aD (ax (i:=5) sc_law_amount.nd rfl (Or.inl rfl)) (aD (ax (i:=6) sc_law_amount.nd rfl (Or.inl rfl)) bZ))))))
   (ag (aG (PW.pt (g7 (eN (cU (av (ok_law_meets T) hr ak (aa (pv 0) (aa (pv 4) ae))))) (fL (eN (cU (av (ok_law_named T) hr ak (aa (pv 0) (aa (pv 5) (aa (pv 6) ae))))))))) (ah (aq b9)) ay)
   (ag (ar (i:=7) sc_law_amount.nd rfl (Or.inl rfl) (bS bo (by rfl) T.z_dict jJ (aa (pv 5) ae)))
   (ag (bv (aJ hr) (pv 7) (pv 1) (av (cc T) hr ak (aa (cX (aJ hr) (pv 5) (pv 1) (aF (aa ac (aa ac ae))) ⟨rfl,rfl,rfl,rfl⟩) (aa (aF (aa ac (aa ac ae))) ae))) rfl)
   (ag (a9 i7 rfl (aX (ap al (pv 0) ac (fun _ _=>rfl))) (ax (i:=8) sc_law_amount.nd rfl (Or.inl rfl)) (ah (aG (aw gw (ap al (av (ok_law_earned T) hr ak (aa (pv 8) (aa (pv 7) (aa (pv 6) ae)))) ac (fun _ _=>rfl)) ac (az _)) (ah (aq b9)) ay)))
   (ag (aG (aw op_ne (ap al (av (iF T) hr ak (aa (aQ (aJ hr) (av (gH T) hr ak (aa (pv 0) (aa (pv 4) ae))) (pv 1) (fun _ _=>rfl)) (aa (pv 3) ae))) ac (fun _ _=>rfl)) ac (az _)) (ah (aq b9)) ay)
   (ah (aq (fF ba (ap al (av (cc T) hr ak (aa (av (ok_law_weighed T) hr ak (aa (pv 0) (aa (pv 5) (aa (pv 6) ae)))) (aa (pv 3) ae))) ac (fun _ _=>rfl)) ac (az _)))))))))),?_⟩
  try dsimp only [aM,Cx.nox,Cx.wish]
  have l5:=W.l5
  have l6:=W.l6
  unfold mostB at k
  rw [show (dJ (vR rq).1 (bI (vR rq).1 (vR rq).2) (psT es) (dsT rs)).isEmpty=meetP es rs rq from meet_eq ok S,← up_eq (W.np pl).ne] at k
  refine ⟨_,rfl,_,rfl,pa,_,rfl,SqT.of hpa,?nw,fun p5 np5=>?_⟩
  case nw=>
   rintro ⟨z,_⟩
   exact absurd z (show HT.sIx 5 0 (some 1)≠0 by decide)
  rw [show cutV [V.str "most",.ref m,.ref d,.ref dp,.ref db] (some 1) none=[V.ref m,.ref d,.ref dp,.ref db] from rfl]
  have s0:=ai (o:=.tup [V.ref m,.ref d,.ref dp,.ref db]) np5
  have h0:upd H p5 (.tup [V.ref m,.ref d,.ref dp,.ref db]) p5=some (.tup [V.ref m,.ref d,.ref dp,.ref db]):=ad
  generalize upd H p5 (.tup [V.ref m,.ref d,.ref dp,.ref db])=H0 at s0 h0 ⊢
  refine ⟨p5,_,rfl,SqT.of h0,rfl,_,_,rfl,_,_,rfl,_,_,rfl,_,_,rfl,rfl,?_⟩
  refine ⟨_,rfl,_,rfl,t,lp,lw,d,tp,tw,es,rs,rq,kb,rfl,td.mono s0,ok,hD.mono s0,S,fun H1 s1'=>?_⟩
  have s1:=s0.trans s1'
  obtain ⟨_,_,_,_,_,n0⟩:=id hD
  obtain ⟨_,_,_,_,_,n1⟩:=id hP
  obtain ⟨_,_,_,_,_,n2⟩:=id hB
  cases e0:meetP es rs rq with
  | false=>
   rw [e0] at k
   exact ⟨_,rfl,iteT (k _ s1)⟩
  | true=>
   rw [e0,jX] at k
   refine ⟨_,rfl,iteF ?_⟩
   refine ⟨_,rfl,_,rfl,_,rfl,t,lp,lw,dp,db,tp,tw,es,rs,rp,rb,rfl,td.mono s1,by omega,by omega,hP.mono s1,hB.mono s1,(fun n hn=>by have:=(W.np n).b;rw [am_in hn] at this;exact this),(fun n hn=>by have:=(W.nb n).b;rw [am_in hn] at this;exact this),fun H2 s2=>?_⟩
   have s12:=s1.trans s2
   cases e1:gk (psT es) (dsT rs) (vR rp) (vR rb) with
   | false=>
    rw [e1] at k
    exact ⟨_,rfl,iteT (k _ s12)⟩
   | true=>
    rw [e1,jX] at k
    refine ⟨_,rfl,iteF ?_⟩
    unfold gk at e1
    rw [j4,hiN_T,iw] at e1
    have sb1:=fitB_in e1.1
    have sb2:=fitB_in e1.2
    obtain ⟨d',kvp,ed,hkp,tbp,ndp⟩:=hP.mono s12
    cases ed
    refine ⟨_,rfl,dp,kvp,rfl,.inl hkp,fun dr ndr=>?_⟩
    have s3':=ai (o:=.dK kvp) ndr
    have h3:upd H2 dr (.dK kvp) dr=some (.dK kvp):=ad
    generalize upd H2 dr (.dK kvp)=H3 at s3' h3 ⊢
    refine ⟨_,rfl,dp,rfl,.inl ⟨kvp,.inl (s3' _ _ hkp)⟩,_,rfl,by show 2≤sizeLine;decide,fun z nz=>?_⟩
    have s4':=s3'.trans (ai (o:=.tup [.int 0,.int 1]) nz)
    have h4:=ai (o:=.tup [.int 0,.int 1]) nz _ _ h3
    have hz:upd H3 z (.tup [.int 0,.int 1]) z=_:=ad
    generalize upd H3 z (.tup [.int 0,.int 1])=H4 at s4' h4 hz ⊢
    refine ⟨bc kvp (Sum.inr pl),.inl ⟨kvp,Sum.inr pl,.inl (s4' _ _ hkp),rfl,rfl⟩,?_⟩
    obtain ⟨e1',ee1,he1⟩:=get2 (n:=pl) tbp s4' hz
    rw [ee1]
    refine ⟨by show 2≤sizeLine;decide,fun y ny=>?_⟩
    have s5':=s4'.trans (ai (o:=.tup [.int 1,.int 1]) ny)
    have h5:=ai (o:=.tup [.int 1,.int 1]) ny _ _ h4
    have he5:=ai (o:=.tup [.int 1,.int 1]) ny _ _ he1
    have hy:upd H4 y (.tup [.int 1,.int 1]) y=some (.tup [.int 1,.int 1]):=ad
    generalize upd H4 y (.tup [.int 1,.int 1])=H5 at s5' h5 he5 hy ⊢
    refine ⟨e1',y,amP rp pl,(1,1),rfl,he5,hy,(W.np pl).sm,⟨sm1,sm1⟩,fun t6 nt6=>?_⟩
    have s6':=s5'.trans (ai (o:=.tup [.int (plP (amP rp pl) (1,1)).1,.int (plP (amP rp pl) (1,1)).2]) nt6)
    have h6:=ai (o:=.tup [.int (plP (amP rp pl) (1,1)).1,.int (plP (amP rp pl) (1,1)).2]) nt6 _ _ h5
    have ht6:upd H5 t6 (.tup [.int (plP (amP rp pl) (1,1)).1,.int (plP (amP rp pl) (1,1)).2]) t6=some (.tup [.int (plP (amP rp pl) (1,1)).1,.int (plP (amP rp pl) (1,1)).2]):=ad
    generalize upd H5 t6 (.tup [.int (plP (amP rp pl) (1,1)).1,.int (plP (amP rp pl) (1,1)).2])=H6 at s6' h6 ht6 ⊢
    have lk:kvp.length≤900:=by rw [tbp.len];omega
    refine ⟨_,rfl,_,rfl,dr,_,rfl,DPut.k (k:=Sum.inr pl) h6 (aE (by omega)),?_⟩
    have ko:KeepO H6 (upd H6 dr (.dK (bg kvp (Sum.inr pl) (.ref t6)))):=.dct h6
    have s7':Same H2 (upd H6 dr (.dK (bg kvp (Sum.inr pl) (.ref t6)))):=aH ndr s6'
    have hR:DcpIs (upd H6 dr (.dK (bg kvp (Sum.inr pl) (.ref t6)))) (.ref dr) (mvR rp pl (1,1)):=⟨dr,_,rfl,ad,Tab.put (n:=pl) (tbp.mono fun v x z=>(DueIs.mono z s6').ko ko) (DueIs.ko (c:=plP (amP rp pl) (1,1)) ⟨t6,rfl,ht6⟩ ko),hV ndp⟩
    generalize upd H6 dr (.dK (bg kvp (Sum.inr pl) (.ref t6)))=H7 at s7' hR ⊢
    have s7:=s12.trans s7'
    have td7:=td.mono s7
    generalize hru:mvR rp pl (1,1)=ru at hR Wu k
    refine ⟨_,rfl,t,_,_,_,rfl,rfl,SqT.of td7.ht,rfl,lw,rfl,⟨_,SqL.of td7.hw⟩,bn (K:=K) (a:=lw) (xs:=tw) (fun i σ H8=>i≤rs.length∧∃ z8,σ=[some (.ref t),some (.str pl),some (.ref pa),some (.ref m),some (.ref d),some (.ref dp),some (.ref db),some (.ref dr),z8]∧Same H7 H8∧nonB (dsT (rs.take i)) (vR ru) (vR rb)=true) ⟨iY _,none,rfl,Same.refl _,rfl⟩ (fun i σ H8 _ ⟨_,_,_,s8,_⟩=>SqL.of (s8 _ _ td7.hw)) ?_ ?_⟩
    ·rintro i v σ H8 hv ⟨_,z8,rfl,s8,ih⟩
     obtain ⟨r,er,hr⟩:=td7.rw.get hv
     have hi:i<rs.length:=(iL.mp er).1
     have mr:=iR er
     have o:=ok.rok r mr
     obtain ⟨u,vg,vh,vc,eu,hu,_⟩:=id hr
     cases eu
     have s78:=s7.trans s8
     refine ⟨_,rfl,_,rfl,_,rfl,.ref u,dr,db,r,ru,rb,rfl,hr.mono s8,hR.mono s8,hB.mono s78,o.gn,Wu.np,Wu.nb,fun p9 H9 s9 h9=>?_⟩
     obtain ⟨q1,q2⟩:=earn_eq ok Wu sb2 mr
     have sg:=(vC_sg (c:=earnP r ru rb) q1).2.symm
     rw [q2] at sg
     refine ⟨p9,_,_,_,rfl,rfl,SqT.of h9,rfl,_,_,rfl,rfl,_,rfl,ifB (fun gt=>?_) (fun le=>?_)⟩
     ·have gt:=sg.mp gt
      have e:nonB (dsT rs) (vR ru) (vR rb)=false:=by
       unfold nonB
       rw [List.all_eq_false]
       exact ⟨r.d,iZ.mpr ⟨r,mr,rfl⟩,fun z=>jG z gt⟩
      rw [e] at k
      exact k _ (s78.trans s9)
     ·have le:¬ 0<(earnQ r.d (vR ru) (vR rb)).num:=fun z=>le (sg.mpr z)
      refine ⟨hi,_,rfl,s8.trans s9,?_⟩
      unfold nonB dsT at ih ⊢
      rw [iU,er,iV,i5,List.all_append,ih]
      show (decide (¬ 0<(earnQ r.d (vR ru) (vR rb)).num) && true)=true
      rw [iW le]
      rfl
    ·rintro σ H8 ⟨_,z8,rfl,s8',ih⟩
     rw [td.rw.1,iS] at ih
     rw [ih,jX] at k
     have s8:=s7.trans s8'
     refine ⟨_,rfl,_,rfl,t,lp,lw,d,tp,tw,es,rs,rq,kb,rfl,td.mono s8,hD.mono s8,S,fun da H9 nda s9 hA=>?_⟩
     have s89:=s8.trans s9
     obtain ⟨da',kva,ea,hda,tba,_⟩:=hA
     cases ea
     obtain ⟨va,eva,qa,rfl,hqa⟩:=tba.vals pl hpl
     have nA:=gc S rs.length (iP _) pl
     rw [iS] at nA
     have kb9:=S.kb
     have hkb:rs.length*(kb+13)<9000:=jf (Nat.mul_le_mul (show rs.length≤6 by omega) (show kb+13≤113 by omega)) (by decide)
     refine ⟨_,rfl,da,.ref qa,rfl,.inl ⟨kva,Sum.inr pl,.inl hda,rfl,eva.symm⟩,_,rfl,qa,m,bi rs rq pl,c,rfl,hqa,s89 _ _ hm,nA.sm hkb,nc.sm,fun t1 nt1=>?_⟩
     have s10':=ai (o:=.tup [.int (lsP (bi rs rq pl) c).1,.int (lsP (bi rs rq pl) c).2]) nt1
     have ht1:upd H9 t1 (.tup [.int (lsP (bi rs rq pl) c).1,.int (lsP (bi rs rq pl) c).2]) t1=some (.tup [.int (lsP (bi rs rq pl) c).1,.int (lsP (bi rs rq pl) c).2]):=ad
     generalize upd H9 t1 (.tup [.int (lsP (bi rs rq pl) c).1,.int (lsP (bi rs rq pl) c).2])=H10 at s10' ht1 ⊢
     have s10:=s89.trans s10'
     have sv:=(sumP_val (rq:=rq) (fun n=>(S.nq n).ne) rs (fun r hr=>⟨(S.ro r hr).ne,(S.ro r hr).gn.ne,W7.d_gain (S.ro r hr)⟩) pl).2
     have eq:=ls_eq (c:=bi rs rq pl) (d:=c) nA.b nc.b
     rw [sv,show eI (Rw.A (vR rq)) (dsT rs) pl=eI (bI (vR rq).1 (vR rq).2) (dsT rs) pl from rfl] at eq
     refine ⟨t1,_,_,_,rfl,rfl,SqT.of ht1,rfl,rfl,_,rfl,?_⟩
     by_cases e5:(lsP (bi rs rq pl) c).1=0
     ·refine eQ (by rw [iW (jy V.int e5)];rfl) ?_
      rw [iW (eq.mp e5),jX] at k
      refine ⟨_,rfl,_,rfl,_,rfl,t,lp,lw,dp,db,tp,tw,es,rs,rp,rb,rfl,td.mono s10,hP.mono s10,hB.mono s10,W,fun p2 H11 s11 h11=>?_⟩
      have a1:=wgE_nb W.e W.np es.length (iP _)
      rw [iS] at a1
      have a2:=wgR_nb a1 W.h W.nb rs.length (iP _)
      rw [iS] at a2
      have s1011:=s10.trans s11
      refine ⟨_,rfl,p2,m,ce es rs rp rb,c,rfl,h11,s1011 _ _ hm,a2.sm (by omega),nc.sm,fun t2 nt2=>?_⟩
      have wq:=weigh_eq ok W n1 n2 sb1 sb2
      have s12':=ai (o:=.tup [.int (plP (ce es rs rp rb) c).1,.int (plP (ce es rs rp rb) c).2]) nt2
      have ht2:upd H11 t2 (.tup [.int (plP (ce es rs rp rb) c).1,.int (plP (ce es rs rp rb) c).2]) t2=some (.tup [.int (plP (ce es rs rp rb) c).1,.int (plP (ce es rs rp rb) c).2]):=ad
      generalize upd H11 t2 (.tup [.int (plP (ce es rs rp rb) c).1,.int (plP (ce es rs rp rb) c).2])=H12 at s12' ht2 ⊢
      refine ⟨t2,_,_,_,rfl,rfl,SqT.of ht2,rfl,rfl,?_⟩
      have pz:(plP (ce es rs rp rb) c).1=0↔fK (vR rp) (vR rb) (waF es) (hqF rs)+vC c=0:=by
       rw [← wq.2,← vC_pl wq.1 (by have:=nc.b;omega)]
       have h2:(plP (ce es rs rp rb) c).2≠0:=jY wq.1 (by have:=nc.b;omega)
       generalize plP (ce es rs rp rb) c=e at h2
       unfold vC
       rw [show (0:Rat)=Rat.divInt 0 1 from rfl,jA h2 (by decide)]
       omega
      have e:decide (V.int (plP (ce es rs rp rb) c).1=V.int 0)=decide (fK (vR rp) (vR rb) (waF es) (hqF rs)+vC c=0):=decide_eq_decide.mpr ⟨fun z=>pz.mp (V.int.inj z),fun z=>by rw [pz.mpr z]⟩
      have k':=k H12 (s1011.trans s12')
      rw [← e] at k'
      exact k'
     ·refine gW (by rw [iX fun z=>e5 (V.int.inj z)];rfl) ?_
      rw [iX fun z=>e5 (eq.mpr z)] at k
      exact k _ s10
structure P4 (m:Int) (c:Int × Int):Prop where
 t:0≤c.1
 t':c.1≤m
 b:1≤c.2
 b':c.2≤4
theorem P4.n50 {m:Int} {c:Int × Int} (h:P4 m c) (hm:m≤1004:=by decide):N50 c:=by
 have:=h.t
 have:=h.t'
 have:=h.b
 have:=h.b'
 exact ⟨by omega,by omega,by omega⟩
inductive IspPrice (vs:List V) (H:Hp) (Q:VK):Prop
 | mk (c:Int) (h1:vs=[.int c]) (h2:∀ (z:Int × Int) p,H p=none→P4 1000 z→Q (.ref p) (upd H p (.tup [.int z.1,.int z.2]))):IspPrice vs H Q
noncomputable def spPrice:Sp:=fun vs H Q _=>IspPrice vs H Q
theorem ok_law_price (T:TX K mg a):FnB P w K mg base CX0 "_law_price" 1 ["_law_cell"] spPrice:=by
 refine T.d_law_price.ok sc_law_price (fun vs H Q E h=>?_) (fun f cdv A outer s H vs Q E hr h=>?_)
 ·obtain ⟨c,rfl,_⟩:=h
  rfl
 ·obtain ⟨c,rfl,k⟩:=h
  refine ⟨_,(ag (aG (aw ba (am aI (pv 0) ac) ac (az _)) (ah (aq (aF (aa ac (aa ac ae))))) ay)
   (ag (aG (aw ba (am aI (am aO (pv 0) ac) ac) ac (az _)) (ah (aq (aF (aa (am aS ac (am aI (am aO (pv 0) ac) ac)) (aa ac ae))))) ay)
   (ah (aq (aF (aa (am aS ac (am aI (am aO (pv 0) ac) ac)) (aa (am aS ac (am aI (am aO (pv 0) ac) ac)) ae))))))),?_⟩
  try dsimp only [aM,Cx.nox,Cx.wish]
  walk_at "rd"
  refine ifV (fun h1=>?_) (fun h1=>?_)
  ·walk_at "rd"
   exact ⟨by show 2≤sizeLine;decide,fun p np=>k (0,1) p np ⟨by decide,by decide,by decide,by decide⟩⟩
  walk_at "rd"
  refine ifV (fun h2=>?_) (fun h2=>?_)
  ·walk_at "rd"
   obtain ⟨e0,e1⟩:=aN (c / 15) (show (0:Int)<1000 by decide)
   exact ⟨by show 2≤sizeLine;decide,fun p np=>k (1+c / 15 % 1000,1) p np ⟨by dsimp only;omega,by dsimp only;omega,by dsimp only;decide,by dsimp only;decide⟩⟩
  ·walk_at "rd"
   obtain ⟨e0,e1⟩:=aN (c / 3) (show (0:Int)<9 by decide)
   obtain ⟨f0,f1⟩:=aN (c / 27) (show (0:Int)<4 by decide)
   exact ⟨by show 2≤sizeLine;decide,fun p np=>k (1+c / 3 % 9,1+c / 27 % 4) p np ⟨by dsimp only;omega,by dsimp only;omega,by dsimp only;omega,by dsimp only;omega⟩⟩
inductive IspAW (K:PySem.W.Frag) (vs:List V) (H:Hp) (Q:VK):Prop
 | mk (l lp dw:Addr) (ns:List Int) (at_:Nat) (nm:Str) (tp:List V) (es:List Ent) (rw:aR) (h1:vs=[.ref l,.int at_,.ref lp,.ref dw,.str nm]) (h2:SqL K H l (ns.map V.int)) (h3:at_≤100) (h4:SqL K H lp tp) (h5:RowAt EntIs H tp es) (h6:(es.map (·.1)).Nodup) (h7:2≤es.length) (h8:es.length≤12) (h9:DcpIs H (.ref dw) rw) (h10:(∀ n∈es.map (·.1),n∈rw.1)) (h11:(∀ n∈rw.1,P4 1004 (rw.2 n))) (h12:∀ p pw pm po H' r m o,Same H H'→H' p=some (.tup [.ref pw,.ref pm,.ref po])→W7Is H' (.ref pw) r→r.nm=nm→W7Ok (es.map (·.1)) r→H' pm=some (.tup [.int m.1,.int m.2])→Nb 23 m→H' po=some (.tup [.int o.1,.int o.2])→Nb 53 o→Q (.ref p) H'):IspAW K vs H Q
noncomputable def spAW (K:PySem.W.Frag):Sp:=fun vs H Q _=>IspAW K vs H Q
theorem ok_law_asked_way (T:TX K mg a):FnB P w K mg base CX0 "_law_asked_way" 3 ["_law_script","_law_at","_law_places","_law_prices","_law_name_here"] (spAW K):=by
 refine T.d_law_asked_way.ok sc_law_asked_way (fun vs H Q E h=>?_) (fun f cdv A outer s H vs Q E hr h=>?_)
 ·obtain ⟨_,_,_,_,_,_,_,_,_,rfl,_⟩:=h
  rfl
 ·obtain ⟨l,lp,dw,ns,at_,nm,tp,es,rw,rfl,hS,a100,hP,hes,nd,l2,l12,hW,sub,nw,k⟩:=h
  refine ⟨_,(ag (gj (av (ok_law_ends T) hr ak (aa (av (aA T) hr ak (aa (pv 0) (aa (pv 1) ae))) (aa (pv 2) ae))) (eO rfl (aD (ax (i:=5) sc_law_asked_way.nd rfl (Or.inl rfl)) (aD (ax (i:=6) sc_law_asked_way.nd rfl (Or.inl rfl)) bZ))))
   (ag (ar (i:=7) sc_law_asked_way.nd rfl (Or.inl rfl) (am aI (av (aA T) hr ak (aa (pv 0) (aa (am aS (pv 1) ac) ae))) ac))
   (ag (ar (i:=8) sc_law_asked_way.nd rfl (Or.inl rfl) (av (ok_law_gain_by T) hr ak (aa (av (aA T) hr ak (aa (pv 0) (aa (am aS (pv 1) ac) ae))) ae)))
   (aP (aG (PW.pt (gD (aw ba (am aI (av (aA T) hr ak (aa (pv 0) (aa (am aS (pv 1) ac) ae))) ac) ac (az _)) (gD (aw gw (ap al (aQ (aJ hr) (pv 3) (pv 5) (fun _ _=>rfl)) ac (fun _ _=>rfl)) ac (az _)) (gf (aw gw (ap al (aQ (aJ hr) (pv 3) (pv 6) (fun _ _=>rfl)) ac (fun _ _=>rfl)) ac (az _)))))) (ag (ar (i:=7) sc_law_asked_way.nd rfl (Or.inl rfl) ac)
   (ah (ar (i:=8) sc_law_asked_way.nd rfl (Or.inl rfl) (av (ok_law_over T) hr ak (aa (aQ (aJ hr) (pv 3) (pv 5) (fun _ _=>rfl)) (aa (aQ (aJ hr) (pv 3) (pv 6) (fun _ _=>rfl)) ae)))))) ay)
   (ag (ar (i:=9) sc_law_asked_way.nd rfl (Or.inl rfl) (av (iF T) hr ak (aa (av (cT T) hr ak (aa (pv 8) (aa (aQ (aJ hr) (pv 3) (pv 6) (fun _ _=>rfl)) ae))) (aa (aQ (aJ hr) (pv 3) (pv 5) (fun _ _=>rfl)) ae))))
   (ag (ar (i:=10) sc_law_asked_way.nd rfl (Or.inl rfl) (av (g8 T) hr ak (aa (am aO (av (aA T) hr ak (aa (pv 0) (aa (am aS (pv 1) ac) ae))) ac) ae)))
   (ag (ar (i:=11) sc_law_asked_way.nd rfl (Or.inl rfl) (av (ez T) hr ak (aa (am aO (av (aA T) hr ak (aa (pv 0) (aa (am aS (pv 1) ac) ae))) ac) ae)))
   (ag (ar (i:=12) sc_law_asked_way.nd rfl (Or.inl rfl) (av (ok_law_high T) hr ak (aa (av (aA T) hr ak (aa (pv 0) (aa (am aS (pv 1) ac) ae))) ae)))
   (ag (aG (aw gw (ap al (pv 9) ac (fun _ _=>rfl)) ac (az _)) (ah (aq (aF (aa (aF (aa (pv 4) (aa (pv 5) (aa (pv 6) (aa (pv 7) (aa (pv 8) (aa (pv 11) (aa (pv 10) ae)))))))) (aa (pv 11) (aa (pv 9) ae)))))) ay)
   (aP (aG (aw ft (ap al (pv 9) ac (fun _ _=>rfl)) ac (az _)) (ah (ar (i:=11) sc_law_asked_way.nd rfl (Or.inl rfl) (aF (aa ac (aa ac ae))))) (ah (aG (aw dF (pv 12) b8 (az _)) (ah (ar (i:=11) sc_law_asked_way.nd rfl (Or.inl rfl) (av (cT T) hr ak (aa (pv 12) (aa (aF (aa (am aI (av (aA T) hr ak (aa (pv 0) (aa (am aS (pv 1) ac) ae))) ac) (aa ac ae))) ae))))) ay)))
   (ah (aq (aF (aa (aF (aa (pv 4) (aa (pv 5) (aa (pv 6) (aa (pv 7) (aa (pv 8) (aa (pv 12) (aa (pv 10) ae)))))))) (aa (pv 11) (aa (aF (aa ac (aa ac ae))) ae)))))))))))))))),?_⟩
  try dsimp only [aM,Cx.nox,Cx.wish]
  have cell:∀ (j:Nat) (u:Int),u=(at_:Int)+j→[V.ref l,V.int u]=[V.ref l,V.int ((at_+j:Nat):Int)]:=fun j u e=>by rw [show u=((at_+j:Nat):Int) by omega]
  obtain ⟨d,kvw,ed,hdw,tbw,_⟩:=id hW
  cases ed
  refine ⟨_,rfl,_,rfl,l,ns,at_,rfl,hS,by omega,_,rfl,_,lp,tp,es,rfl,hP,hes,nd,l2,by omega,fun st go p np hst hgo ne=>?_⟩
  have s1:=ai (o:=.tup [.str st,.str go]) np
  have h1:upd H p (.tup [.str st,.str go]) p=some (.tup [.str st,.str go]):=ad
  generalize upd H p (.tup [.str st,.str go])=H1 at s1 h1 ⊢
  refine ⟨p,_,rfl,SqT.of h1,rfl,_,_,rfl,_,_,rfl,rfl,?_⟩
  have hS1:=s1.seq hS
  refine ⟨_,rfl,_,rfl,_,_,rfl,rfl,l,ns,at_+1,cell 1 _ rfl,hS1,by omega,_,_,rfl,rfl,by show (0:Int)<4;decide,?_⟩
  refine ⟨_,rfl,_,rfl,_,_,rfl,rfl,l,ns,at_+1,cell 1 _ rfl,hS1,by omega,_,rfl,fun g pg npg k0 k2 g1 g2=>?_⟩
  generalize aL ns (at_+1)=cg at k0 k2 ⊢
  have s2:=s1.trans (ai (o:=.tup [.int g.1,.int g.2]) npg)
  have hg:upd H1 pg (.tup [.int g.1,.int g.2]) pg=some (.tup [.int g.1,.int g.2]):=ad
  generalize upd H1 pg (.tup [.int g.1,.int g.2])=H2 at s2 hg ⊢
  obtain ⟨v1,ev1,q1,rfl,hq1⟩:=tbw.vals go (sub go hgo)
  obtain ⟨v2,ev2,q2,rfl,hq2⟩:=tbw.vals st (sub st hst)
  have p1:=nw go (sub go hgo)
  have p2:=nw st (sub st hst)
  have n1:=p1.n50.nb
  have n2:=p2.n50.nb
  refine ⟨fun σ' H'=>∃ kd pg g,σ'=[some (.ref l),some (.int at_),some (.ref lp),some (.ref dw),some (.str nm),some (.str st),some (.str go),some (.int kd),some (.ref pg),none,none,none,none]∧Same H H'∧H' pg=some (.tup [.int g.1,.int g.2])∧(kd=0→g=(1,1))∧(kd=2→g.1≤g.2)∧(1≤g.1∧g.1≤4096)∧(1≤g.2∧g.2≤4096),?_,?_⟩
  ·have same:∃ kd pg' g',[some (V.ref l),some (.int at_),some (.ref lp),some (.ref dw),some (.str nm),some (.str st),some (.str go),some (.int (cg % 4)),some (.ref pg),none,none,none,none]=[some (V.ref l),some (.int at_),some (.ref lp),some (.ref dw),some (.str nm),some (.str st),some (.str go),some (.int kd),some (.ref pg'),none,none,none,none]∧Same H H2∧H2 pg'=some (.tup [.int g'.1,.int g'.2])∧(kd=0→g'=(1,1))∧(kd=2→g'.1≤g'.2)∧(1≤g'.1∧g'.1≤4096)∧(1≤g'.2∧g'.2≤4096):=⟨_,_,_,rfl,s2,hg,k0,k2,by omega,by omega⟩
   refine ⟨_,rfl,_,rfl,_,_,rfl,rfl,l,ns,at_+3,cell 3 _ rfl,s2.seq hS,by omega,_,_,rfl,rfl,by show (0:Int)<3;decide,rfl,_,rfl,?_⟩
   have gS:DGet H2 dw (.str st) (some (.ref q2)):=.inl ⟨kvw,Sum.inr st,.inl (s2 _ _ hdw),rfl,ev2.symm⟩
   have gG:DGet H2 dw (.str go) (some (.ref q1)):=.inl ⟨kvw,Sum.inr go,.inl (s2 _ _ hdw),rfl,ev1.symm⟩
   refine ifV (fun _=>?_) (fun _=>iteF same)
   refine ⟨_,rfl,_,rfl,dw,.ref q2,rfl,gS,q2,_,_,_,rfl,rfl,SqT.of (s2 _ _ hq2),rfl,_,_,rfl,rfl,_,rfl,ifB (fun gt1=>?_) (fun _=>iteF same)⟩
   refine ⟨_,rfl,_,rfl,dw,.ref q1,rfl,gG,q1,_,_,_,rfl,rfl,SqT.of (s2 _ _ hq1),rfl,_,_,rfl,rfl,_,rfl,ifB (fun gt2=>?_) (fun _=>same)⟩
   have gt1:0<(rw.2 st).1:=gt1
   have gt2:0<(rw.2 go).1:=gt2
   refine ⟨_,rfl,_,rfl,dw,.ref q2,rfl,gS,_,rfl,_,rfl,dw,.ref q1,rfl,gG,q2,q1,rw.2 st,rw.2 go,rfl,s2 _ _ hq2,s2 _ _ hq1,n2.sm,n1.sm,fun t nt=>?_⟩
   refine ⟨1,t,ovP (rw.2 st) (rw.2 go),rfl,s2.trans (ai nt),ad,(fun z=>by cases z),(fun z=>by cases z),⟨bU (by omega) p1.b,?_⟩,⟨bU p2.b (by omega),?_⟩⟩
   ·have:=Int.mul_le_mul p2.t' p1.b' (by have:=p1.b;omega) (by decide)
    show (rw.2 st).1*(rw.2 go).2≤4096
    omega
   ·have:=Int.mul_le_mul p2.b' p1.t' (by omega) (by decide)
    show (rw.2 st).2*(rw.2 go).1≤4096
    omega
  clear hg k0 k2 g1 g2 g pg npg
  rintro σ' H2' ⟨kd,pg,g,rfl,s2',hg,k0,k2,g1,g2⟩
  have ng:Nb 12 g:=⟨by omega,by omega,by omega⟩
  refine ⟨_,rfl,_,rfl,_,rfl,dw,.ref q1,rfl,.inl ⟨kvw,Sum.inr go,.inl (s2' _ _ hdw),rfl,ev1.symm⟩,pg,q1,g,rw.2 go,rfl,hg,s2' _ _ hq1,ng.sm,n1.sm,fun t1 nt1=>?_⟩
  have nt:=ng.tm n1
  generalize tmP g (rw.2 go)=o1 at nt
  have s3:=s2'.trans (ai (o:=.tup [.int o1.1,.int o1.2]) nt1)
  have hg3:=ai (o:=.tup [.int o1.1,.int o1.2]) nt1 _ _ hg
  have h3:upd H2' t1 (.tup [.int o1.1,.int o1.2]) t1=some (.tup [.int o1.1,.int o1.2]):=ad
  generalize upd H2' t1 (.tup [.int o1.1,.int o1.2])=H3 at s3 hg3 h3 ⊢
  refine ⟨_,rfl,_,rfl,dw,.ref q2,rfl,.inl ⟨kvw,Sum.inr st,.inl (s3 _ _ hdw),rfl,ev2.symm⟩,t1,q2,o1,rw.2 st,rfl,h3,s3 _ _ hq2,nt.sm,n2.sm,fun t3 nt3=>?_⟩
  have nov:=nt.ls n2
  generalize lsP o1 (rw.2 st)=o3 at nov
  have s5:=s3.trans (ai (o:=.tup [.int o3.1,.int o3.2]) nt3)
  have hg5:=ai (o:=.tup [.int o3.1,.int o3.2]) nt3 _ _ hg3
  have ho5:upd H3 t3 (.tup [.int o3.1,.int o3.2]) t3=some (.tup [.int o3.1,.int o3.2]):=ad
  generalize upd H3 t3 (.tup [.int o3.1,.int o3.2])=H5 at s5 hg5 ho5 ⊢
  clear s1 s2 s2' s3 h1 h3 hg hg3 hS1
  refine ⟨_,rfl,_,rfl,_,_,rfl,rfl,l,ns,at_+3,cell 3 _ rfl,s5.seq hS,by omega,_,_,rfl,rfl,⟨by decide,by decide⟩,_,rfl,fun c pc npc nc0=>?_⟩
  have nc:Nb 51 c:=nc0.nb.mono (by decide)
  have s6':=ai (o:=.tup [.int c.1,.int c.2]) npc
  have s6:=s5.trans s6'
  have hg6:=s6' _ _ hg5
  have ho6:=s6' _ _ ho5
  have h6:upd H5 pc (.tup [.int c.1,.int c.2]) pc=some (.tup [.int c.1,.int c.2]):=ad
  generalize upd H5 pc (.tup [.int c.1,.int c.2])=H6 at s6 hg6 ho6 h6 ⊢
  clear s5 s6' hg5 ho5
  refine ⟨_,rfl,_,rfl,_,_,rfl,rfl,l,ns,at_+2,cell 2 _ rfl,s6.seq hS,by omega,_,_,rfl,rfl,⟨by decide,by decide⟩,_,rfl,fun u pu npu u0 nu=>?_⟩
  have s7':=ai (o:=.tup [.int u.1,.int u.2]) npu
  have s7:=s6.trans s7'
  have hg7:=s7' _ _ hg6
  have h7:=s7' _ _ h6
  have ho7:=s7' _ _ ho6
  have hu7:upd H6 pu (.tup [.int u.1,.int u.2]) pu=some (.tup [.int u.1,.int u.2]):=ad
  generalize upd H6 pu (.tup [.int u.1,.int u.2])=H7 at s7 hg7 h7 ho7 hu7 ⊢
  clear s6 s7' hg6 h6 ho6
  refine ⟨_,rfl,_,rfl,_,_,rfl,rfl,l,ns,at_+2,cell 2 _ rfl,s7.seq hS,by omega,_,rfl,fun vh oh H8 s8' hh hb=>?_⟩
  have s8:=s7.trans s8'
  have hg8:=s8' _ _ hg7
  have h8:=s8' _ _ h7
  have ho8:=s8' _ _ ho7
  have hu8:=s8' _ _ hu7
  clear s7 s8' hg7 h7 ho7 hu7
  have fin:∀ (vh:V) (oh:Option (Int × Int)) (pm po:Addr) (m o:Int × Int) (H9:Hp) (t q:Addr),Same H H9→H9 t=none→upd H9 t (.tup [.str nm,.str st,.str go,.int kd,.ref pg,vh,.ref pc]) q=none→H9 pg=some (.tup [.int g.1,.int g.2])→H9 pc=some (.tup [.int c.1,.int c.2])→H9 pm=some (.tup [.int m.1,.int m.2])→Nb 23 m→H9 po=some (.tup [.int o.1,.int o.2])→Nb 53 o→OptIs H9 vh oh→(∀ z,oh=some z→0≤z.1∧N50 z)→Q (.ref q) (upd (upd H9 t (.tup [.str nm,.str st,.str go,.int kd,.ref pg,vh,.ref pc])) q (.tup [.ref t,.ref pm,.ref po])):=fun vh oh pm po m o H9 t q s9 nt nq hg9 h9 hm9 nm9 ho9 no9 hh9 hb9=>by
   have s10:=ai (o:=.tup [.str nm,.str st,.str go,.int kd,.ref pg,vh,.ref pc]) nt
   have ht:upd H9 t (.tup [.str nm,.str st,.str go,.int kd,.ref pg,vh,.ref pc]) t=some (.tup [.str nm,.str st,.str go,.int kd,.ref pg,vh,.ref pc]):=ad
   generalize upd H9 t (.tup [.str nm,.str st,.str go,.int kd,.ref pg,vh,.ref pc])=H10 at nq s10 ht ⊢
   have s11:=ai (o:=.tup [.ref t,.ref pm,.ref po]) nq
   have s911:=s10.trans s11
   exact k q t pm po _ ⟨nm,st,go,kd,g,oh,c⟩ m o (s9.trans s911) ad ⟨t,.ref pg,vh,.ref pc,rfl,s11 _ _ ht,⟨pg,rfl,s911 _ _ hg9⟩,hh9.mono s911,⟨pc,rfl,s911 _ _ h9⟩⟩ rfl ⟨hst,hgo,ne,k0,k2,g1,g2,hb9,nc.mono (by decide)⟩ (s911 _ _ hm9) nm9 (s911 _ _ ho9) no9
  refine ⟨_,rfl,t3,_,_,_,rfl,rfl,SqT.of ho8,rfl,_,_,rfl,rfl,_,rfl,ifB (fun gt=>?_) (fun le=>?_)⟩
  ·refine ⟨_,rfl,_,rfl,_,rfl,_,rfl,_,rfl,_,rfl,_,rfl,by show 7≤sizeLine;decide,fun t nt=>?_⟩
   refine ⟨_,rfl,_,rfl,by show 3≤sizeLine;decide,fun q nq=>?_⟩
   exact fin (.ref pu) (some u) pu t3 u o3 H8 t q s8 nt nq hg8 h8 hu8 (nu.nb.mono (by decide)) ho8 nov ⟨pu,rfl,hu8⟩ (fun z e=>by cases e;exact ⟨u0,nu⟩)
  refine ⟨fun σ' H'=>∃ pm m,σ'=[some (.ref l),some (.int at_),some (.ref lp),some (.ref dw),some (.str nm),some (.str st),some (.str go),some (.int kd),some (.ref pg),some (.ref t3),some (.ref pc),some (.ref pm),some vh]∧Same H8 H'∧H' pm=some (.tup [.int m.1,.int m.2])∧Nb 23 m,?_,?_⟩
  ·refine ⟨_,rfl,t3,_,_,_,rfl,rfl,SqT.of ho8,rfl,_,_,rfl,rfl,_,rfl,ifB (fun lt=>?_) (fun ge=>?_)⟩
   ·exact ⟨by show 2≤sizeLine;decide,fun z nz=>⟨z,(0,1),rfl,ai nz,ad,nb01.mono (by decide)⟩⟩
   ·cases oh with
    | none=>
     obtain rfl:vh=.non:=hh
     refine ⟨_,rfl,rfl,_,rfl,iteF ?_⟩
     exact ⟨pu,u,rfl,Same.refl _,hu8,nu.nb.mono (by decide)⟩
    | some z=>
     obtain ⟨pz,rfl,hz⟩:=hh
     refine ⟨_,rfl,rfl,_,rfl,iteT ?_⟩
     obtain ⟨e0,e1⟩:=aN (aL ns (at_+4)) (show (0:Int)<5 by decide)
     refine ⟨_,rfl,_,rfl,_,rfl,_,_,rfl,rfl,l,ns,at_+4,cell 4 _ rfl,s8.seq hS,by omega,_,_,rfl,rfl,by show (0:Int)<5;decide,by show 2≤sizeLine;decide,fun t4 nt4=>?_⟩
     have n4:Nb 3 (aL ns (at_+4) % 5,4):=⟨by dsimp only;omega,by dsimp only;omega,by dsimp only;omega⟩
     have s9:=ai (o:=.tup [.int (aL ns (at_+4) % 5),.int 4]) nt4
     have h9:upd H8 t4 (.tup [.int (aL ns (at_+4) % 5),.int 4]) t4=some (.tup [.int (aL ns (at_+4) % 5),.int 4]):=ad
     generalize upd H8 t4 (.tup [.int (aL ns (at_+4) % 5),.int 4])=H9 at s9 h9 ⊢
     generalize aL ns (at_+4) % 5=c4 at n4 h9
     have nz:=(hb z rfl).2.nb
     refine ⟨pz,t4,z,(c4,4),rfl,s9 _ _ hz,h9,nz.sm,n4.sm,fun t5 nt5=>?_⟩
     exact ⟨t5,tmP z (c4,4),rfl,s9.trans (ai nt5),ad,nz.tm n4⟩
  rintro σ' H9 ⟨pm,m,rfl,s9,hm9,nm9⟩
  refine ⟨_,rfl,_,rfl,_,rfl,_,rfl,_,rfl,_,rfl,_,rfl,by show 7≤sizeLine;decide,fun t nt=>?_⟩
  refine ⟨_,rfl,by show 2≤sizeLine;decide,fun z nz=>?_⟩
  have s10:=ai (o:=.tup [.str nm,.str st,.str go,.int kd,.ref pg,vh,.ref pc]) nt
  have ht:upd H9 t (.tup [.str nm,.str st,.str go,.int kd,.ref pg,vh,.ref pc]) t=some (.tup [.str nm,.str st,.str go,.int kd,.ref pg,vh,.ref pc]):=ad
  generalize upd H9 t (.tup [.str nm,.str st,.str go,.int kd,.ref pg,vh,.ref pc])=H10 at nz s10 ht ⊢
  have s11:=ai (o:=.tup [.int 0,.int 1]) nz
  have hz:upd H10 z (.tup [.int 0,.int 1]) z=some (.tup [.int 0,.int 1]):=ad
  generalize upd H10 z (.tup [.int 0,.int 1])=H11 at s11 hz ⊢
  refine ⟨by show 3≤sizeLine;decide,fun q nq=>?_⟩
  have s12:=ai (o:=.tup [.ref t,.ref pm,.ref z]) nq
  have s912:=s10.trans (s11.trans s12)
  have s812:=s9.trans s912
  exact k q t pm z _ ⟨nm,st,go,kd,g,oh,c⟩ m (0,1) (s8.trans s812) ad ⟨t,.ref pg,vh,.ref pc,rfl,(s11.trans s12) _ _ ht,⟨pg,rfl,s812 _ _ hg8⟩,hh.mono s812,⟨pc,rfl,s812 _ _ h8⟩⟩ rfl ⟨hst,hgo,ne,k0,k2,g1,g2,hb,nc.mono (by decide)⟩ (s912 _ _ hm9) nm9 (s12 _ _ hz) (nb01.mono (by decide))
structure Mk51 (H:Hp) (c1 c2:Int) (n m:Nat) (t lp lw dq dp dh:Addr) (tp tw:List V) (es:List Ent) (rs:List W7) (rq rp rh:aR):Prop where
 td:Told H t lp lw tp tw es rs
 en:es.map (·.1)=bH c1 n
 rn:rs.map (·.nm)=bH c2 m
 eo:∀ e∈es,Nb 300 e.2
 ro:∀ r∈rs,W7Ok (es.map (·.1)) r
 hq:DcpIs H (.ref dq) rq
 hp:DcpIs H (.ref dp) rp
 hh:DcpIs H (.ref dh) rh
 nq:∀ x∈rq.1,Nb 23 (rq.2 x)
 np:∀ x∈rp.1,N50 (rp.2 x)
 nh:∀ x∈rh.1,Nb 103 (rh.2 x)
 lq:rq.1.length≤6
 lh:rh.1.length≤6
 ep:rp.1=es.map (·.1)
theorem Mk51.mono {H H':Hp} {c1 c2:Int} {n m:Nat} {t lp lw dq dp dh:Addr} {tp tw:List V} {es:List Ent} {rs:List W7} {rq rp rh:aR} (h:Mk51 H c1 c2 n m t lp lw dq dp dh tp tw es rs rq rp rh) (s:Same H H'):Mk51 H' c1 c2 n m t lp lw dq dp dh tp tw es rs rq rp rh:=⟨h.td.mono s,h.en,h.rn,h.eo,h.ro,h.hq.mono s,h.hp.mono s,h.hh.mono s,h.nq,h.np,h.nh,h.lq,h.lh,h.ep⟩
structure DW (H:Hp) (d:Addr) (kvs:List (Key × V)) (ks:List Str) (f:Str→Int × Int) (ns:List Str) (i k:Nat):Prop where
 h:H d=some (.dK kvs)
 tb:Tab DueIs H kvs ks f
 nd:ks.Nodup
 inn:∀ x∈ks,x∈ns∧Nb k (f x)
 le:ks.length≤i
theorem DW.ko {H H':Hp} {d:Addr} {kvs:List (Key × V)} {ks:List Str} {f:Str→Int × Int} {ns:List Str} {i k:Nat} (h:DW H d kvs ks f ns i k) (s:KeepO H H') (e:H' d=H d):DW H' d kvs ks f ns i k:=⟨e.trans h.h,h.tb.mono fun _ _ z=>DueIs.ko z s,h.nd,h.inn,h.le⟩
theorem DW.mono {H H':Hp} {d:Addr} {kvs:List (Key × V)} {ks:List Str} {f:Str→Int × Int} {ns:List Str} {i k:Nat} (h:DW H d kvs ks f ns i k) (s:Same H H'):DW H' d kvs ks f ns i k:=⟨s _ _ h.h,h.tb.mono fun _ _ z=>DueIs.mono z s,h.nd,h.inn,h.le⟩
theorem DW.weak {H:Hp} {d:Addr} {kvs:List (Key × V)} {ks:List Str} {f:Str→Int × Int} {ns ns':List Str} {i k:Nat} (h:DW H d kvs ks f ns i k) (s:∀ x∈ns,x∈ns'):DW H d kvs ks f ns' (i+1) k:=⟨h.h,h.tb,h.nd,fun x hx=>⟨s x (h.inn x hx).1,(h.inn x hx).2⟩,Nat.le_succ_of_le h.le⟩
theorem DW.put {H:Hp} {d p:Addr} {kvs:List (Key × V)} {ks:List Str} {f:Str→Int × Int} {ns ns':List Str} {i k:Nat} (h:DW H d kvs ks f ns i k) (s:∀ x∈ns,x∈ns') {nm:Str} (hn:nm ∉ ns) (hm:nm∈ns') {c:Int × Int} (hp:H p=some (.tup [.int c.1,.int c.2])) (nc:Nb k c):DW (upd H d (.dK (bg kvs (Sum.inr nm) (.ref p)))) d (bg kvs (Sum.inr nm) (.ref p)) (ks++[nm]) (upf f nm c) ns' (i+1) k:=by
 have ko:KeepO H (upd H d (.dK (bg kvs (Sum.inr nm) (.ref p)))):=.dct h.h
 have nin:nm ∉ ks:=fun z=>hn (h.inn _ z).1
 have tb:=Tab.put (n:=nm) (h.tb.mono fun v x z=>DueIs.ko z ko) (DueIs.ko (c:=c) ⟨p,rfl,hp⟩ ko)
 rw [f9 nin] at tb
 refine ⟨ad,tb,List.nodup_append.mpr ⟨h.nd,by simp,fun x hx y hy=>by rw [jH.mp hy];exact fun z=>nin (z ▸ hx)⟩,fun x hx=>?_,by rw [jd];have:=h.le;show ks.length+1≤i+1;omega⟩
 by_cases ex:x=nm
 ·subst ex
  rw [bt]
  exact ⟨hm,nc⟩
 ·rw [bW ex]
  rcases List.mem_append.mp hx with q | q
  ·exact ⟨s x (h.inn x q).1,(h.inn x q).2⟩
  ·exact absurd (jH.mp q) ex
theorem DW.dcp {H:Hp} {d:Addr} {kvs:List (Key × V)} {ks:List Str} {f:Str→Int × Int} {ns:List Str} {i k:Nat} (h:DW H d kvs ks f ns i k):DcpIs H (.ref d) (ks,f):=⟨d,kvs,rfl,h.h,h.tb,h.nd⟩
inductive IspAsked (K:PySem.W.Frag) (vs:List V) (H:Hp) (Q:VK):Prop
 | mk (l:Addr) (ns:List Int) (n m:Nat) (h1:vs=[.ref l,.int n,.int m]) (h2:SqL K H l (ns.map V.int)) (h3:1≤n) (h4:n≤4) (h5:m≤5) (h6:(n<2→m=0)) (h7:∀ q t pa pm pl c lp lw dq dp dh tp tw es rs rq rp rh H',Same H H'→H' q=some (.tup [.ref t,.str pl,.ref pa])→H' pa=some (.tup [.ref pm,.ref dq,.ref dp,.ref dh])→H' pm=some (.tup [.int c.1,.int c.2])→Nb 180 c→pl∈es.map (·.1)→Mk51 H' (aL ns 1) (aL ns 2) n m t lp lw dq dp dh tp tw es rs rq rp rh→Q (.ref q) H'):IspAsked K vs H Q
noncomputable def spAsked (K:PySem.W.Frag):Sp:=fun vs H Q _=>IspAsked K vs H Q
theorem ok_law_asked (T:TX K mg a):FnB P w K mg base CX0 "_law_asked" 4 ["_law_script","_law_size_here","_law_many"] (spAsked K):=by
 refine T.d_law_asked.ok sc_law_asked (fun vs H Q E h=>?_) (fun f cdv A outer s H vs Q E hr h=>?_)
 ·obtain ⟨_,_,_,_,rfl,_⟩:=h
  rfl
 ·obtain ⟨l,ns,n,m,rfl,hS,n1,n4,m5,nm,k⟩:=h
  refine ⟨_,(aP (dD (i:=3) (xs:=["_law_k"]) (rest:=["_law_script"]) sc_law_asked.nd rfl rfl rfl (pi_range1 rfl T.z_range (aa (pv 1) ae))
   (fun pins fp C' s' H'=>(ax (i:=0) (show (["_law_k","_law_script"]:List Str).Nodup by decide +kernel) rfl (Or.inl rfl))) (fun pins fp C' s' H'=>cY)
   (fun pins fp C' s' H'=>(aF (aa (av (eK T) hr ak (aa (pv 0) (aa (av (aA T) hr ak (aa (pv 1) (aa ac ae))) ae))) (aa (aF (aa ac (aa ac ae))) ae))))
   (Clos.many (ys:=["_law_script"]) rfl ⟨rfl,True.intro⟩ rfl (by decide +kernel)) (Reads.many (ys:=["_law_script"]) (js:=[0]) ⟨⟨rfl,rfl,rfl⟩,True.intro⟩))
   (ag (ar (i:=4) sc_law_asked.nd rfl (Or.inl rfl) (ap al (ap eF (pv 3) (am aI (am aO (av (aA T) hr ak (aa (pv 0) (aa ac ae))) ac) (pv 1)) (fun _ _=>rfl)) ac (fun _ _=>rfl)))
   (ag (ar (i:=5) sc_law_asked.nd rfl (Or.inl rfl) dE)
   (aP (a9 i7 rfl (pi_enum (by rfl) T.z_enumerate (aa (pv 3) ae)) (eO rfl (aD (ax (i:=6) sc_law_asked.nd rfl (Or.inl rfl)) (aD (ax (i:=7) sc_law_asked.nd rfl (Or.inl rfl)) bZ))) (ah (bv (aJ hr) (pv 5) (ap al (pv 7) ac (fun _ _=>rfl)) (av (ok_law_price T) hr ak (aa (av (aA T) hr ak (aa (pv 0) (aa (am aS ac (am op_mul ac (pv 6))) ae))) ae)) rfl)))
   (ag (ar (i:=8) sc_law_asked.nd rfl (Or.inl rfl) (bS bo (by rfl) T.z_dict jJ (aa (pv 5) ae)))
   (ag (bv (aJ hr) (pv 8) (pv 4) (av (cc T) hr ak (aa (aQ (aJ hr) (pv 5) (pv 4) (fun _ _=>rfl)) (aa (aF (aa ac (aa ac ae))) ae))) rfl)
   (ag (ar (i:=9) sc_law_asked.nd rfl (Or.inl rfl) (pe_lst ae))
   (ag (ar (i:=10) sc_law_asked.nd rfl (Or.inl rfl) dE)
   (ag (ar (i:=11) sc_law_asked.nd rfl (Or.inl rfl) dE)
   (aP (a9 i7 rfl (pi_range1 rfl T.z_range (aa (pv 2) ae)) (ax (i:=6) sc_law_asked.nd rfl (Or.inl rfl)) (ag (ar (i:=12) sc_law_asked.nd rfl (Or.inl rfl) (av (eK T) hr ak (aa (pv 6) (aa (av (aA T) hr ak (aa (pv 0) (aa ac ae))) ae))))
   (ag (gj (av (ok_law_asked_way T) hr ak (aa (pv 0) (aa (am aS (am aS ac (am op_mul ac (pv 1))) (am op_mul ac (pv 6))) (aa (pv 3) (aa (pv 8) (aa (pv 12) ae)))))) (eO rfl (aD (ax (i:=13) sc_law_asked.nd rfl (Or.inl rfl)) (aD (ax (i:=14) sc_law_asked.nd rfl (Or.inl rfl)) (aD (ax (i:=15) sc_law_asked.nd rfl (Or.inl rfl)) bZ)))))
   (ag (cE (pe_bm PySem.F.plainAttrs_list PySem.F.slot_list_append PySem.F.type_list_append fV (pv 9) (aa (pv 13) ae)))
   (aP (aG (aw op_ne (ap al (pv 14) ac (fun _ _=>rfl)) ac (az _)) (ah (bv (aJ hr) (pv 10) (pv 12) (pv 14) rfl)) ay)
   (ah (aG (aw dF (ap al (pv 13) ac (fun _ _=>rfl)) b8 (az _)) (ah (bv (aJ hr) (pv 11) (pv 12) (pv 15) rfl)) ay)))))))
   (ag (ar (i:=16) sc_law_asked.nd rfl (Or.inl rfl) (av (gH T) hr ak (aa (aF (aa (pv 3) (aa (pv 9) ae))) (aa (pv 10) ae))))
   (ag (ar (i:=17) sc_law_asked.nd rfl (Or.inl rfl) (pe_lst ae))
   (aP (a9 i7 rfl (pi_enum (by rfl) T.z_enumerate (aa (pv 3) ae)) (eO rfl (aD (ax (i:=6) sc_law_asked.nd rfl (Or.inl rfl)) (aD (ax (i:=7) sc_law_asked.nd rfl (Or.inl rfl)) bZ))) (ag (ar (i:=18) sc_law_asked.nd rfl (Or.inl rfl) (aQ (aJ hr) (pv 16) (ap al (pv 7) ac (fun _ _=>rfl)) (fun _ _=>rfl)))
   (aP (aG (aw ba (ap al (aQ (aJ hr) (pv 5) (ap al (pv 7) ac (fun _ _=>rfl)) (fun _ _=>rfl)) ac (fun _ _=>rfl)) ac (az _)) (ah (ar (i:=18) sc_law_asked.nd rfl (Or.inl rfl) (av (iF T) hr ak (aa (pv 18) (aa (av (ez T) hr ak (aa (av (aA T) hr ak (aa (pv 0) (aa (am aS ac (am op_mul ac (pv 6))) ae))) ae)) ae))))) ay)
   (ah (cE (pe_bm PySem.F.plainAttrs_list PySem.F.slot_list_append PySem.F.type_list_append fV (pv 17) (aa (aF (aa (ap al (pv 7) ac (fun _ _=>rfl)) (aa (pv 18) ae))) ae)))))))
   (ah (aq (aF (aa (aF (aa (pv 17) (aa (pv 9) ae))) (aa (pv 4) (aa (aF (aa (aQ (aJ hr) (pv 16) (pv 4) (fun _ _=>rfl)) (aa (pv 10) (aa (pv 5) (aa (pv 11) ae))))) ae))))))))))))))))))),?_⟩
  try dsimp only [aM,Cx.nox,Cx.wish]
  refine ⟨fun σ' H'=>∃ lp tp es,σ'=[some (.ref l),some (.int n),some (.int m),some (.ref lp),none,none,none,none,none,none,none,none,none,none,none,none,none,none,none]∧Same H H'∧H' lp=some (.lst tp)∧RowAt EntIs H' tp es∧es.length=n∧es.map (·.1)=bH (aL ns 1) n,?_,?_⟩
  ·refine ⟨_,rfl,(n:Int),rfl,by omega,by omega,fun lp nlp=>?_⟩
   refine compG_range (fun i H2=>i≤n∧Same H H2∧∃ tp es,H2 lp=some (.lst tp)∧RowAt EntIs H2 tp es∧es.length=i∧es.map (·.1)=bH (aL ns 1) i) ⟨iY _,ai nlp,[],[],ad,RowAt.nil,rfl,rfl⟩ ?_ ?_
   ·rintro i H2 hi ⟨_,s2,tp,es,h2,hv,le,en⟩
    have hi':i<n:=by omega
    refine g1 ⟨⟨[_],rfl,rfl⟩,yes ?_⟩
    refine ⟨_,rfl,_,rfl,l,ns,1,rfl,s2.seq hS,by decide,_,_,rfl,by omega,by omega,?_⟩
    refine ⟨by show 2≤sizeLine;decide,fun p np=>?_⟩
    have s3:=ai (o:=.tup [.int 0,.int 1]) np
    have hp:upd H2 p (.tup [.int 0,.int 1]) p=some (.tup [.int 0,.int 1]):=ad
    generalize upd H2 p (.tup [.int 0,.int 1])=H3 at s3 hp ⊢
    refine ⟨by show 2≤sizeLine;decide,fun t nt=>?_⟩
    have e0:(0+(i:Int))=(i:Int):=Int.zero_add _
    have s4:=s3.trans (ai (o:=.tup [.str (cb (0+(i:Int)) (aL ns 1)),.ref p]) nt)
    have hp4:=ai (o:=.tup [.str (cb (0+(i:Int)) (aL ns 1)),.ref p]) nt _ _ hp
    have ht:upd H3 t (.tup [.str (cb (0+(i:Int)) (aL ns 1)),.ref p]) t=some (.tup [.str (cb (0+(i:Int)) (aL ns 1)),.ref p]):=ad
    generalize upd H3 t (.tup [.str (cb (0+(i:Int)) (aL ns 1)),.ref p])=H4 at s4 hp4 ht ⊢
    rw [e0] at ht
    have h4:=s4 _ _ h2
    have ltp:tp.length≤12:=by rw [hv.1];omega
    refine ⟨_,h4,aE (by omega),dN hi ⟨hi',aH nlp (s2.trans s4),_,es++[(cb (i:Int) (aL ns 1),(0,1))],ad,RowAt.snoc (hv.mono fun v x y=>(y.mono s4).ko (.lst h4)) (EntIs.ko ⟨t,.ref p,rfl,ht,⟨p,rfl,hp4⟩⟩ (.lst h4)),by rw [jd,le];rfl,by rw [i5,en,eL];rfl⟩⟩
   ·rintro H2 ⟨_,s2,tp,es,h2,hv,le,en⟩
    exact ⟨lp,tp,es,rfl,s2,h2,hv,le,en⟩
  rintro σ' H1 ⟨lp,tp,es,rfl,s1,h1,hv1,le,en⟩
  have end_:(es.map (·.1)).Nodup:=by rw [en];exact gR (by omega)
  have ltp:tp.length=n:=by rw [hv1.1];exact le
  have hS1:=s1.seq hS
  obtain ⟨w0,w1⟩:=aN (aL ns 1 / 7) (show (0:Int)<n by omega)
  obtain ⟨sh,hsh⟩:=ju w0
  obtain ⟨eS,eeS⟩:∃ e,es[sh]?=some e:=⟨_,iO (by omega)⟩
  obtain ⟨vS,evS,teS,veS,rfl,hteS,_⟩:=hv1.get' eeS
  have mS:eS.1∈es.map (·.1):=iZ.mpr ⟨eS,iR eeS,rfl⟩
  have atS:atI tp (aL ns 1 / 7 % (n:Int))=some (.ref teS):=by rw [hsh];exact atI_nat evS
  refine ⟨_,rfl,_,rfl,l,ns,1,rfl,hS1,by decide,_,_,rfl,rfl,⟨by decide,by decide⟩,_,rfl,_,_,rfl,rfl,by show (0:Int)<n;omega,lp,_,_,_,rfl,rfl,SqL.of h1,atS,teS,_,_,_,rfl,rfl,SqT.of hteS,rfl,?_⟩
  intro dw ndw
  have s2:=ai (o:=.dK []) ndw
  have hd2:upd H1 dw (.dK []) dw=some (.dK []):=ad
  generalize upd H1 dw (.dK [])=H2 at s2 hd2 ⊢
  refine ⟨fun σ' H'=>∃ z6 z7 kvs g,σ'=[some (.ref l),some (.int n),some (.int m),some (.ref lp),some (.str eS.1),some (.ref dw),z6,z7,none,none,none,none,none,none,none,none,none,none,none]∧Same H1 H'∧H' dw=some (.dK kvs)∧Tab DueIs H' kvs (es.map (·.1)) g∧∀ x∈es.map (·.1),P4 1000 (g x),?_,?_⟩
  ·refine ⟨_,rfl,lp,tp,rfl,SqL.of (s2 _ _ h1),for_enum (K:=K) (a:=lp) (xs:=tp) (fun j σ H4=>j≤es.length∧∃ z6 z7 kvs g,σ=[some (.ref l),some (.int n),some (.int m),some (.ref lp),some (.str eS.1),some (.ref dw),z6,z7,none,none,none,none,none,none,none,none,none,none,none]∧Same H1 H4∧H4 dw=some (.dK kvs)∧Tab DueIs H4 kvs ((es.map (·.1)).take j) g∧∀ x∈(es.map (·.1)).take j,P4 1000 (g x)) ⟨iY _,none,none,[],fun _=>(0,1),rfl,s2,hd2,Tab.nil,fun x hx=>absurd hx jc⟩ (fun j σ H4 ⟨_,_,_,_,_,_,s4,_⟩=>SqL.of (s4 _ _ h1)) ?_ ?_⟩
   ·rintro j x tt σ H4 hx ntt ⟨_,z6,z7,kvs,g,rfl,s4,hd4,tb,nk⟩
    obtain ⟨e,ee,te,ve,rfl,hte,_⟩:=hv1.get hx
    have hj:j<es.length:=(iL.mp ee).1
    have s5':=ai (o:=.tup [.int (j:Int),.ref te]) ntt
    have htt:upd H4 tt (.tup [.int (j:Int),.ref te]) tt=some (.tup [.int (j:Int),.ref te]):=ad
    have hd5:=s5' _ _ hd4
    have tb5:=tb.mono fun v x z=>DueIs.mono z s5'
    generalize upd H4 tt (.tup [.int (j:Int),.ref te])=H5 at s5' htt hd5 tb5 ⊢
    have s5:=s4.trans s5'
    have enj:(es.map (·.1))[j]?=some e.1:=by rw [i4,ee];rfl
    obtain ⟨tk,nkk⟩:=fM end_ enj
    refine ⟨tt,_,rfl,SqT.of htt,rfl,_,_,rfl,_,_,rfl,rfl,?_⟩
    refine ⟨_,rfl,_,rfl,_,_,rfl,rfl,.inl ⟨by decide,by decide⟩,_,_,rfl,rfl,l,ns,3+2*j,by show [V.ref l,V.int (3+2*(j:Int))]=_;rw [show 3+2*(j:Int)=((3+2*j:Nat):Int) by omega],s5.seq hS1,by omega,_,rfl,fun z pz npz nz=>?_⟩
    have s6:=ai (o:=.tup [.int z.1,.int z.2]) npz
    have hz:upd H5 pz (.tup [.int z.1,.int z.2]) pz=some (.tup [.int z.1,.int z.2]):=ad
    have hd6:=s6 _ _ hd5
    have tb6:=tb5.mono fun v x z=>DueIs.mono z s6
    generalize upd H5 pz (.tup [.int z.1,.int z.2])=H6 at s6 hz hd6 tb6 ⊢
    have lk:kvs.length≤900:=by rw [tb.len,i6,iM];omega
    refine ⟨_,rfl,_,rfl,te,_,_,_,rfl,rfl,SqT.of ((s5.trans s6) _ _ hte),rfl,dw,_,rfl,DPut.k (k:=Sum.inr e.1) hd6 (aE (by omega)),?_⟩
    have ko:KeepO H6 (upd H6 dw (.dK (bg kvs (Sum.inr e.1) (.ref pz)))):=.dct hd6
    refine ⟨hj,_,_,_,upf g e.1 z,rfl,aH ndw (s5.trans s6),ad,?_,fun x hx=>?_⟩
    ·rw [tk,← f9 nkk]
     exact Tab.put (n:=e.1) (tb6.mono fun v x z=>DueIs.ko z ko) (DueIs.ko ⟨pz,rfl,hz⟩ ko)
    ·by_cases ex:x=e.1
     ·subst ex
      rw [bt]
      exact nz
     ·rw [bW ex]
      rw [tk] at hx
      rcases List.mem_append.mp hx with q | q
      ·exact nk x q
      ·exact absurd (jH.mp q) ex
   ·rintro σ H4 ⟨_,z6,z7,kvs,g,rfl,s4,hd4,tb,nk⟩
    rw [ltp,← le,show es.length=(es.map (·.1)).length by rw [iM],iS] at tb nk
    exact ⟨z6,z7,kvs,g,rfl,s4,hd4,tb,nk⟩
  rintro σ' H4 ⟨z6,z7,kvw,fW,rfl,s4,hd4,tb4,nk5⟩
  refine ⟨_,rfl,dw,kvw,rfl,.inl hd4,fun dr ndr=>?_⟩
  have sr1:=ai (o:=.dK kvw) ndr
  have hr1:upd H4 dr (.dK kvw) dr=some (.dK kvw):=ad
  generalize upd H4 dr (.dK kvw)=Ha at sr1 hr1 ⊢
  obtain ⟨vS,evS,qS,rfl,hqS⟩:=tb4.vals eS.1 mS
  refine ⟨_,rfl,_,rfl,dw,.ref qS,rfl,.inl ⟨kvw,Sum.inr eS.1,.inl (sr1 _ _ hd4),rfl,evS.symm⟩,by show 2≤sizeLine;decide,fun y ny=>?_⟩
  have sr2:=sr1.trans (ai (o:=.tup [.int 1,.int 1]) ny)
  have hr2:=ai (o:=.tup [.int 1,.int 1]) ny _ _ hr1
  have hy:upd Ha y (.tup [.int 1,.int 1]) y=some (.tup [.int 1,.int 1]):=ad
  generalize upd Ha y (.tup [.int 1,.int 1])=Hb at sr2 hr2 hy ⊢
  refine ⟨qS,y,fW eS.1,(1,1),rfl,sr2 _ _ hqS,hy,(nk5 eS.1 mS).n50.nb.sm,⟨sm1,sm1⟩,fun t6 nt6=>?_⟩
  have pr:P4 1004 (plP (fW eS.1) (1,1)):=by
   have h:=nk5 eS.1 mS
   have e1:(plP (fW eS.1) (1,1)).1=(fW eS.1).1*1+1*(fW eS.1).2:=rfl
   have e2:(plP (fW eS.1) (1,1)).2=(fW eS.1).2*1:=rfl
   have:=h.t
   have:=h.t'
   have:=h.b
   have:=h.b'
   exact ⟨by omega,by omega,by omega,by omega⟩
  generalize plP (fW eS.1) (1,1)=cR at pr
  have sr3:=sr2.trans (ai (o:=.tup [.int cR.1,.int cR.2]) nt6)
  have hr3:=ai (o:=.tup [.int cR.1,.int cR.2]) nt6 _ _ hr2
  have ht6:upd Hb t6 (.tup [.int cR.1,.int cR.2]) t6=some (.tup [.int cR.1,.int cR.2]):=ad
  generalize upd Hb t6 (.tup [.int cR.1,.int cR.2])=Hc at sr3 hr3 ht6 ⊢
  have lkR:kvw.length≤900:=by rw [tb4.len,iM];omega
  refine ⟨_,rfl,_,rfl,dr,_,rfl,DPut.k (k:=Sum.inr eS.1) hr3 (aE (by omega)),?_⟩
  have koR:KeepO Hc (upd Hc dr (.dK (bg kvw (Sum.inr eS.1) (.ref t6)))):=.dct hr3
  have sr4:Same H4 (upd Hc dr (.dK (bg kvw (Sum.inr eS.1) (.ref t6)))):=aH ndr sr3
  have tbR:=Tab.put (n:=eS.1) (tb4.mono fun v x z=>(DueIs.mono z sr3).ko koR) (DueIs.ko (c:=cR) ⟨t6,rfl,ht6⟩ koR)
  rw [show eM (es.map (·.1)) eS.1=es.map (·.1) from if_pos mS] at tbR
  have hR5:DcpIs (upd Hc dr (.dK (bg kvw (Sum.inr eS.1) (.ref t6)))) (.ref dr) (es.map (·.1),upf fW eS.1 cR):=⟨dr,_,rfl,ad,tbR,end_⟩
  generalize upd Hc dr (.dK (bg kvw (Sum.inr eS.1) (.ref t6)))=H5 at sr4 hR5 ⊢
  have nkR:∀ x∈es.map (·.1),P4 1004 (upf fW eS.1 cR x):=fun x hx=>by
   by_cases ex:x=eS.1
   ·subst ex
    rw [bt]
    exact pr
   ·rw [bW ex]
    have h:=nk5 x hx
    exact ⟨h.t,Int.le_trans h.t' (by decide),h.b,h.b'⟩
  generalize upf fW eS.1 cR=fR at hR5 nkR
  have s5:=s4.trans sr4
  have hd5:=sr4 _ _ hd4
  have tb5:=tb4.mono fun v x z=>DueIs.mono z sr4
  clear koR tbR lkR sr3 hr3 ht6 sr2 hr2 hy sr1 hr1 s4 hd4 tb4 sr4
  have hS5:=s5.seq hS1
  have hv5:=hv1.mono fun v x y=>EntIs.mono y s5
  have h5:=s5 _ _ h1
  have hW5:DcpIs H5 (.ref dw) (es.map (·.1),fW):=⟨dw,kvw,rfl,hd5,tb5,end_⟩
  have s05:=s1.trans s5
  clear hv1 h1 s5 hS1 s1 s2 hd2
  refine ⟨by decide,fun lw nlw=>?_⟩
  have s6:=ai (o:=.lst []) nlw
  have hl6:upd H5 lw (.lst []) lw=some (.lst []):=ad
  generalize upd H5 lw (.lst [])=H6 at s6 hl6 ⊢
  intro dq ndq
  have s7:=s6.trans (ai (o:=.dK []) ndq)
  have hl7:=ai (o:=.dK []) ndq _ _ hl6
  have hq7:upd H6 dq (.dK []) dq=some (.dK []):=ad
  have ndq5:H5 dq=none:=s6.free ndq
  have nlq:lw≠dq:=fun z=>by rw [z,ndq] at hl6;cases hl6
  generalize upd H6 dq (.dK [])=H7 at s7 hl7 hq7 ⊢
  intro dh ndh
  have s8:=s7.trans (ai (o:=.dK []) ndh)
  have hl8:=ai (o:=.dK []) ndh _ _ hl7
  have hq8:=ai (o:=.dK []) ndh _ _ hq7
  have hd8:upd H7 dh (.dK []) dh=some (.dK []):=ad
  have ndh5:H5 dh=none:=s7.free ndh
  have nlh:lw≠dh:=fun z=>by rw [z,ndh] at hl7;cases hl7
  have nqh:dq≠dh:=fun z=>by rw [z,ndh] at hq7;cases hq7
  generalize upd H7 dh (.dK [])=H8 at s8 hl8 hq8 hd8 ⊢
  clear s7 hl7 hq7 s6 hl6 ndq ndh
  refine ⟨fun σ' H'=>∃ z5 z6 z10 z11 z12 z13 tw rs kvq kq fq kvh kh fh,σ'=[some (.ref l),some (.int n),some (.int m),some (.ref lp),some (.str eS.1),some (.ref dw),z5,z6,some (.ref dr),some (.ref lw),some (.ref dq),some (.ref dh),z10,z11,z12,z13,none,none,none]∧Same H5 H'∧H' lw=some (.lst tw)∧RowAt W7Is H' tw rs∧rs.length=m∧rs.map (·.nm)=bH (aL ns 2) m∧(∀ r∈rs,W7Ok (es.map (·.1)) r)∧DW H' dq kvq kq fq (bH (aL ns 2) m) m 23∧DW H' dh kvh kh fh (bH (aL ns 2) m) m 53,?_,?_⟩
  ·refine ⟨_,rfl,(m:Int),rfl,by omega,by omega,for_range (n:=m) (fun i σ H2=>i≤m∧∃ z5 z6 z10 z11 z12 z13 tw rs kvq kq fq kvh kh fh,σ=[some (.ref l),some (.int n),some (.int m),some (.ref lp),some (.str eS.1),some (.ref dw),z5,z6,some (.ref dr),some (.ref lw),some (.ref dq),some (.ref dh),z10,z11,z12,z13,none,none,none]∧Same H5 H2∧H2 lw=some (.lst tw)∧RowAt W7Is H2 tw rs∧rs.length=i∧rs.map (·.nm)=bH (aL ns 2) i∧(∀ r∈rs,W7Ok (es.map (·.1)) r)∧DW H2 dq kvq kq fq (bH (aL ns 2) i) i 23∧DW H2 dh kvh kh fh (bH (aL ns 2) i) i 53) ⟨iY _,_,_,_,_,_,_,[],[],[],[],fun _=>(0,1),[],[],fun _=>(0,1),rfl,s8,hl8,RowAt.nil,rfl,rfl,fun r hr=>absurd hr jc,⟨hq8,Tab.nil,List.nodup_nil,fun x hx=>absurd hx jc,iP _⟩,⟨hd8,Tab.nil,List.nodup_nil,fun x hx=>absurd hx jc,iP _⟩⟩ ?_ ?_⟩
   ·rintro i σ H9 hi ⟨_,z5,z6,z10,z11,z12,z13,tw,rs,kvq,kq,fq,kvh,kh,fh,rfl,s9,hl9,hv9,lr,rn,rok,D9,E9⟩
    have hi':i<m:=by omega
    have n2:2≤n:=by
     rcases Nat.lt_or_ge n 2 with z | z
     ·have:=nm z
      omega
     ·exact z
    have hS9:=s9.seq hS5
    refine ⟨_,rfl,_,rfl,l,ns,2,rfl,hS9,by decide,_,_,rfl,by omega,by omega,?_⟩
    have e0:(0+(i:Int))=(i:Int):=Int.zero_add _
    rw [e0]
    refine ⟨_,rfl,_,rfl,_,_,rfl,rfl,.inl ⟨by decide,by decide⟩,_,_,rfl,rfl,_,rfl,_,_,rfl,rfl,.inl ⟨by decide,by decide⟩,_,_,rfl,rfl,_,rfl,_,rfl,_,rfl,l,lp,dr,ns,3+2*n+5*i,cb (i:Int) (aL ns 2),tp,es,(es.map (·.1),fR),by rw [show 3+2*(n:Int)+5*(i:Int)=((3+2*n+5*i:Nat):Int) by omega];rfl,hS9,by omega,SqL.of (s9 _ _ h5),hv5.mono (fun v x y=>EntIs.mono y s9),end_,by omega,by omega,hR5.mono s9,fun x hx=>hx,nkR,fun p pw pm po H10 r u o s10 hp hr rnm ro hu10 nu ho no=>?_⟩
    obtain ⟨uu,vg,vh,vc,eu,hu,qg,hh,qc⟩:=id hr
    cases eu
    refine ⟨p,_,rfl,SqT.of hp,rfl,_,_,rfl,_,_,rfl,_,_,rfl,rfl,?_⟩
    have hl10:=s10 _ _ hl9
    have lt:tw.length≤24:=by rw [hv9.1];omega
    refine ⟨_,rfl,.inl ⟨rfl,_,SqL.of hl10⟩,_,rfl,lw,_,_,rfl,rfl,hl10,aE (by omega),?_⟩
    have ko:KeepO H10 (upd H10 lw (.lst (tw++[.ref pw]))):=.lst hl10
    have s11:Same H5 (upd H10 lw (.lst (tw++[.ref pw]))):=aH nlw (s9.trans s10)
    have hl11:upd H10 lw (.lst (tw++[.ref pw])) lw=some (.lst (tw++[.ref pw])):=ad
    have D11:=(D9.mono s10).ko ko (aj nlq.symm)
    have E11:=(E9.mono s10).ko ko (aj nlh.symm)
    have hv11:RowAt W7Is (upd H10 lw (.lst (tw++[.ref pw]))) (tw++[.ref pw]) (rs++[r]):=RowAt.snoc (hv9.mono fun v x y=>(y.mono s10).ko ko) (hr.ko ko)
    have hu11:=ko.tup _ _ hu
    have ho11:=ko.tup _ _ ho
    have hm11:=ko.tup _ _ hu10
    have hh11:=hh.ko ko
    generalize tw++[.ref pw]=tw' at s11 hl11 D11 E11 hv11 hu11 ho11 hm11 hh11 ko ⊢
    generalize upd H10 lw (.lst tw')=H11 at s11 hl11 D11 E11 hv11 hu11 ho11 hm11 hh11 ko ⊢
    have lr':(rs++[r]).length=i+1:=by rw [jd,lr];rfl
    have rn':(rs++[r]).map (·.nm)=bH (aL ns 2) (i+1):=by rw [i5,rn,eL,← rnm];rfl
    have rok':∀ x∈rs++[r],W7Ok (es.map (·.1)) x:=fun x hx=>by
     rcases List.mem_append.mp hx with y | y
     ·exact rok x y
     ·rw [jH.mp y];exact ro
    generalize rs++[r]=rs' at hv11 lr' rn' rok'
    have sucN:∀ x∈bH (aL ns 2) i,x∈bH (aL ns 2) (i+1):=fun x hx=>by rw [eL];exact List.mem_append_left _ hx
    have newN:cb (i:Int) (aL ns 2)∈bH (aL ns 2) (i+1):=by rw [eL];simp
    have nin:cb (i:Int) (aL ns 2) ∉ bH (aL ns 2) i:=fun z=>by
     have nd2:=gR (c:=aL ns 2) (n:=i+1) (by omega)
     rw [eL] at nd2
     exact (List.nodup_append.mp nd2).2.2 _ z _ (by simp) rfl
    have lkq:kvq.length≤900:=by rw [D11.tb.len];have:=D11.le;omega
    have lkh:kvh.length≤900:=by rw [E11.tb.len];have:=E11.le;omega
    refine ⟨fun σ' H'=>∃ kvq kq fq,σ'=[some (.ref l),some (.int n),some (.int m),some (.ref lp),some (.str eS.1),some (.ref dw),some (.int (i:Int)),z6,some (.ref dr),some (.ref lw),some (.ref dq),some (.ref dh),some (.str (cb (i:Int) (aL ns 2))),some (.ref pw),some (.ref pm),some (.ref po),none,none,none]∧KeepO H11 H'∧Same H5 H'∧H' lw=some (.lst tw')∧DW H' dq kvq kq fq (bH (aL ns 2) (i+1)) (i+1) 23∧H' dh=H11 dh,?_,?_⟩
    ·refine ⟨_,rfl,pm,_,_,_,rfl,rfl,SqT.of hm11,rfl,rfl,_,rfl,?_⟩
     by_cases e1:u.1=0
     ·refine eQ (by rw [iW (jy V.int e1)];rfl) ?_
      exact ⟨kvq,kq,fq,rfl,KeepO.of (Same.refl _),s11,hl11,D11.weak sucN,rfl⟩
     ·refine gW (by rw [iX fun z=>e1 (V.int.inj z)];rfl) ?_
      refine ⟨_,rfl,_,rfl,_,rfl,dq,_,rfl,DPut.k (k:=Sum.inr (cb (i:Int) (aL ns 2))) D11.h (aE (by omega)),?_⟩
      exact ⟨_,_,_,rfl,.dct D11.h,aH ndq5 s11,by rw [aj nlq];exact hl11,D11.put sucN nin newN hm11 nu,aj nqh.symm⟩
    clear D11 lkq kvq kq fq D9
    rintro σ' H12 ⟨kvq,kq,fq,rfl,ko2,s12,hl12,D12,edh⟩
    have E12:=E11.ko ko2 edh
    have hv12:=hv11.mono fun v x y=>W7Is.ko y ko2
    have hu12:=ko2.tup _ _ hu11
    have ho12:=ko2.tup _ _ ho11
    refine ⟨_,rfl,pw,_,_,_,rfl,rfl,SqT.of hu12,rfl,?_⟩
    cases eh:r.hi with
    | none=>
     rw [eh] at hh11
     obtain rfl:vh=.non:=hh11
     refine ⟨rfl,_,rfl,iteF ?_⟩
     exact ⟨hi',_,_,_,_,_,_,tw',rs',kvq,kq,fq,kvh,kh,fh,rfl,s12,hl12,hv12,lr',rn',rok',D12,E12.weak sucN⟩
    | some xh=>
     rw [eh] at hh11
     obtain ⟨ph,rfl,_⟩:=hh11
     refine ⟨rfl,_,rfl,iteT ?_⟩
     refine ⟨_,rfl,_,rfl,_,rfl,dh,_,rfl,DPut.k (k:=Sum.inr (cb (i:Int) (aL ns 2))) E12.h (aE (by omega)),?_⟩
     have ko3:KeepO H12 (upd H12 dh (.dK (bg kvh (Sum.inr (cb (i:Int) (aL ns 2))) (.ref po)))):=.dct E12.h
     exact ⟨hi',_,_,_,_,_,_,tw',rs',kvq,kq,fq,_,_,_,rfl,aH ndh5 s12,by rw [aj nlh];exact hl12,hv12.mono fun v x y=>W7Is.ko y ko3,lr',rn',rok',D12.ko ko3 (aj nqh),E12.put sucN nin newN ho12 no⟩
   ·rintro σ H9 ⟨_,z5,z6,z10,z11,z12,z13,tw,rs,kvq,kq,fq,kvh,kh,fh,rfl,r⟩
    exact ⟨z5,z6,z10,z11,z12,z13,tw,rs,kvq,kq,fq,kvh,kh,fh,rfl,r⟩
  clear hl8 hq8 hd8 s8
  rintro σ' H9 ⟨z5,z6,z10,z11,z12,z13,tw,rs,kvq,kq,fq,kvh,kh,fh,rfl,s9,hl9,hv9,lr,rn,rok,D9,E9⟩
  have hS9:=s9.seq hS5
  have h9:=s9 _ _ h5
  have hv9':=hv5.mono fun v x y=>EntIs.mono y s9
  have hW9:=hW5.mono s9
  have hdw9:=s9 _ _ hd5
  have tbw9:=tb5.mono fun v x y=>DueIs.mono y s9
  have lkq:=D9.le
  have lkh:=E9.le
  refine ⟨_,rfl,_,rfl,by show 2≤sizeLine;decide,fun t0 nt0=>?_⟩
  have s10:=ai (o:=.tup [.ref lp,.ref lw]) nt0
  have ht0:upd H9 t0 (.tup [.ref lp,.ref lw]) t0=some (.tup [.ref lp,.ref lw]):=ad
  generalize upd H9 t0 (.tup [.ref lp,.ref lw])=H10 at s10 ht0 ⊢
  have S51:Sm51 es rs (kq,fq) 23:=⟨end_,by omega,by omega,rok,fun x=>by
   unfold amP
   split
   ·exact (D9.inn x ‹_›).2
   ·exact nb01.mono (by decide),by decide⟩
  refine ⟨_,rfl,t0,lp,lw,dq,tp,tw,es,rs,(kq,fq),23,rfl,⟨ht0,s10 _ _ h9,s10 _ _ hl9,hv9'.mono fun v x y=>EntIs.mono y s10,hv9.mono fun v x y=>y.mono s10⟩,D9.dcp.mono s10,S51,fun da H11 nda s11 hA=>?_⟩
  have s911:=s10.trans s11
  have nA:=gc S51 rs.length (iP _)
  rw [iS] at nA
  have nA:∀ x,Nb 180 (bi rs (kq,fq) x):=fun x=>(nA x).mono (by rw [lr];omega)
  generalize bi rs (kq,fq)=fA at hA nA
  obtain ⟨da',kva,ea,hda,tba,_⟩:=hA
  cases ea
  refine ⟨by decide,fun lx nlx=>?_⟩
  have sx:=ai (o:=.lst []) nlx
  have s12:=s911.trans (ai (o:=.lst []) nlx)
  have hda12:=ai (o:=.lst []) nlx _ _ hda
  have tba12:=tba.mono fun v x z=>DueIs.mono z (ai (o:=.lst []) nlx)
  have hx12:upd H11 lx (.lst []) lx=some (.lst []):=ad
  have nlx9:H9 lx=none:=s911.free nlx
  generalize upd H11 lx (.lst [])=H12 at s12 sx hda12 tba12 hx12 ⊢
  have hS12:=s12.seq hS9
  have h12:=s12 _ _ h9
  have hv12:=hv9'.mono fun v x y=>EntIs.mono y s12
  have hdw12:=s12 _ _ hdw9
  have tbw12:=tbw9.mono fun v x y=>DueIs.mono y s12
  have nlxl:H12 lx=some (.lst []):=hx12
  refine ⟨fun σ' H'=>∃ z5 z6 z16 ws es2,σ'=[some (.ref l),some (.int n),some (.int m),some (.ref lp),some (.str eS.1),some (.ref dw),z5,z6,some (.ref dr),some (.ref lw),some (.ref dq),some (.ref dh),z10,z11,z12,z13,some (.ref da),some (.ref lx),z16]∧Same H9 H'∧H' lx=some (.lst ws)∧RowAt EntIs H' ws es2∧es2.map (·.1)=es.map (·.1)∧(∀ e∈es2,Nb 300 e.2)∧Same H11 H',?_,?_⟩
  ·refine ⟨_,rfl,lp,tp,rfl,SqL.of h12,for_enum (K:=K) (a:=lp) (xs:=tp) (fun j σ H4=>j≤es.length∧∃ z5 z6 z16 ws es2,σ=[some (.ref l),some (.int n),some (.int m),some (.ref lp),some (.str eS.1),some (.ref dw),z5,z6,some (.ref dr),some (.ref lw),some (.ref dq),some (.ref dh),z10,z11,z12,z13,some (.ref da),some (.ref lx),z16]∧Same H11 H4∧H4 lx=some (.lst ws)∧RowAt EntIs H4 ws es2∧es2.map (·.1)=(es.take j).map (·.1)∧∀ e∈es2,Nb 300 e.2) ⟨iY _,z5,z6,none,[],[],rfl,sx,hx12,RowAt.nil,rfl,fun e he=>absurd he jc⟩ (fun j σ H4 ⟨_,_,_,_,_,_,_,s4,_⟩=>SqL.of ((s911.trans s4) _ _ h9)) ?_ ?_⟩
   ·rintro j x tt σ H4 hx ntt ⟨_,z5,z6,z16,ws,es2,rfl,s4,hx4,hv4,en2,eo2⟩
    obtain ⟨e,ee,te,ve,rfl,hte,_⟩:=hv9'.get hx
    have hj:j<es.length:=(iL.mp ee).1
    have me:e.1∈es.map (·.1):=iZ.mpr ⟨e,iR ee,rfl⟩
    have s5':=ai (o:=.tup [.int (j:Int),.ref te]) ntt
    have htt:upd H4 tt (.tup [.int (j:Int),.ref te]) tt=some (.tup [.int (j:Int),.ref te]):=ad
    have hx5:=s5' _ _ hx4
    have hv5:=hv4.mono fun v x z=>EntIs.mono z s5'
    generalize upd H4 tt (.tup [.int (j:Int),.ref te])=H6 at s5' htt hx5 hv5 ⊢
    have s6:=s4.trans s5'
    have s96:=s911.trans s6
    refine ⟨tt,_,rfl,SqT.of htt,rfl,_,_,rfl,_,_,rfl,rfl,?_⟩
    obtain ⟨va,eva,qa,rfl,hqa⟩:=tba.vals e.1 me
    obtain ⟨vw,evw,qw,rfl,hqw⟩:=tbw9.vals e.1 me
    have na:=nA e.1
    have sqe:=SqT.of (K:=K) (s96 _ _ hte)
    refine ⟨_,rfl,_,rfl,te,_,_,_,rfl,rfl,sqe,rfl,da,.ref qa,rfl,.inl ⟨kva,Sum.inr e.1,.inl (s6 _ _ hda),rfl,eva.symm⟩,?_⟩
    refine ⟨fun σ' H'=>∃ pw cw,σ'=[some (.ref l),some (.int n),some (.int m),some (.ref lp),some (.str eS.1),some (.ref dw),some (.int (j:Int)),some (.ref te),some (.ref dr),some (.ref lw),some (.ref dq),some (.ref dh),z10,z11,z12,z13,some (.ref da),some (.ref lx),some (.ref pw)]∧Same H6 H'∧H' pw=some (.tup [.int cw.1,.int cw.2])∧Nb 300 cw,?_,?_⟩
    ·refine ⟨_,rfl,_,rfl,te,_,_,_,rfl,rfl,sqe,rfl,dw,.ref qw,rfl,.inl ⟨kvw,Sum.inr e.1,.inl (s96 _ _ hdw9),rfl,evw.symm⟩,qw,_,_,_,rfl,rfl,SqT.of (s96 _ _ hqw),rfl,rfl,_,rfl,?_⟩
     by_cases e0:(fW e.1).1=0
     ·refine gW (by rw [iW (jy V.int e0)]) ?_
      refine ⟨_,rfl,_,rfl,_,rfl,_,_,rfl,rfl,.inl ⟨by decide,by decide⟩,_,_,rfl,rfl,l,ns,4+2*j,by show [V.ref l,V.int (4+2*(j:Int))]=_;rw [show 4+2*(j:Int)=((4+2*j:Nat):Int) by omega],s96.seq hS9,by omega,_,rfl,fun z pz npz z0 nz=>?_⟩
      have s7:=ai (o:=.tup [.int z.1,.int z.2]) npz
      have h7:upd H6 pz (.tup [.int z.1,.int z.2]) pz=some (.tup [.int z.1,.int z.2]):=ad
      generalize upd H6 pz (.tup [.int z.1,.int z.2])=H7 at s7 h7 ⊢
      refine ⟨qa,pz,fA e.1,z,rfl,(s6.trans s7) _ _ hqa,h7,na.sm,nz.nb.sm,fun t1 nt1=>?_⟩
      exact ⟨t1,lsP (fA e.1) z,rfl,s7.trans (ai nt1),ad,(na.ls nz.nb).mono (by decide)⟩
     ·refine eQ (by rw [iX fun z=>e0 (V.int.inj z)]) ?_
      exact ⟨qa,fA e.1,rfl,Same.refl _,s6 _ _ hqa,na.mono (by decide)⟩
    rintro σ' H7 ⟨pw,cw,rfl,s7',hpw,ncw⟩
    have s7:=s6.trans s7'
    have hx7:=s7' _ _ hx5
    have lws:ws.length≤12:=by
     have l1:=hv4.1
     have l2:=jy List.length en2
     rw [iM,iM,i6] at l2
     omega
    refine ⟨_,rfl,.inl ⟨rfl,_,SqL.of hx7⟩,_,rfl,te,_,_,_,rfl,rfl,SqT.of ((s911.trans s7) _ _ hte),rfl,_,rfl,by show 2≤sizeLine;decide,fun u nu=>?_⟩
    have s8':=ai (o:=.tup [.str e.1,.ref pw]) nu
    have s8:=s7.trans s8'
    have hx8:=s8' _ _ hx7
    have hv8:=hv5.mono fun v x z=>EntIs.mono z (s7'.trans s8')
    have hu8:upd H7 u (.tup [.str e.1,.ref pw]) u=some (.tup [.str e.1,.ref pw]):=ad
    have hpw8:=s8' _ _ hpw
    generalize upd H7 u (.tup [.str e.1,.ref pw])=H8 at s8 hx8 hv8 hu8 hpw8 ⊢
    refine ⟨lx,_,_,rfl,rfl,hx8,aE (by omega),hj,_,_,_,ws++[.ref u],es2++[(e.1,cw)],rfl,aH nlx s8,ad,RowAt.snoc (hv8.mono fun v x z=>EntIs.ko z (.lst hx8)) (EntIs.ko ⟨u,.ref pw,rfl,hu8,⟨pw,rfl,hpw8⟩⟩ (.lst hx8)),by rw [i5,en2,iU,ee,iV,i5];rfl,fun x hx=>?_⟩
    rcases List.mem_append.mp hx with y | y
    ·exact eo2 x y
    ·rw [jH.mp y]
     exact ncw
   ·rintro σ H4 ⟨_,z5,z6,z16,ws,es2,rfl,s4,hx4,hv4,en2,eo2⟩
    rw [ltp,← le,iS] at en2
    exact ⟨z5,z6,z16,ws,es2,rfl,s911.trans s4,hx4,hv4,en2,eo2,s4⟩
  clear hx12
  rintro σ' H14 ⟨z5,z6,z16,ws,esZ,rfl,s914,h14,hv14,enZ,eoZ,s1114⟩
  refine ⟨_,rfl,_,rfl,by show 2≤sizeLine;decide,fun t nt=>?_⟩
  have s15:=ai (o:=.tup [.ref lx,.ref lw]) nt
  have ht:upd H14 t (.tup [.ref lx,.ref lw]) t=some (.tup [.ref lx,.ref lw]):=ad
  have hda14:=s1114 _ _ hda
  obtain ⟨va,eva,qa,rfl,hqa⟩:=tba.vals eS.1 mS
  generalize upd H14 t (.tup [.ref lx,.ref lw])=H15 at s15 ht ⊢
  refine ⟨_,rfl,_,rfl,_,rfl,da,.ref qa,rfl,.inl ⟨kva,Sum.inr eS.1,.inl (s15 _ _ hda14),rfl,eva.symm⟩,_,rfl,_,rfl,_,rfl,by show 4≤sizeLine;decide,fun pa npa=>?_⟩
  have s16:=ai (o:=.tup [.ref qa,.ref dq,.ref dw,.ref dh]) npa
  have hpa:upd H15 pa (.tup [.ref qa,.ref dq,.ref dw,.ref dh]) pa=some (.tup [.ref qa,.ref dq,.ref dw,.ref dh]):=ad
  generalize upd H15 pa (.tup [.ref qa,.ref dq,.ref dw,.ref dh])=H16 at s16 hpa ⊢
  refine ⟨by show 3≤sizeLine;decide,fun q nq=>?_⟩
  have s17:=ai (o:=.tup [.ref t,.str eS.1,.ref pa]) nq
  have s157:=s16.trans s17
  have s147:=s15.trans s157
  have s917:=s914.trans s147
  exact k q t pa qa eS.1 (fA eS.1) lx lw dq dw dh ws tw esZ rs (kq,fq) (es.map (·.1),fW) (kh,fh) _ (s05.trans (s9.trans s917)) ad (s17 _ _ hpa) ((s1114.trans s147) _ _ hqa) (nA eS.1) (by rw [enZ];exact mS) ⟨⟨s157 _ _ ht,s147 _ _ h14,s917 _ _ hl9,hv14.mono fun v x z=>EntIs.mono z s147,hv9.mono fun v x z=>z.mono s917⟩,enZ.trans en,rn,eoZ,by rw [enZ];exact rok,D9.dcp.mono s917,hW9.mono s917,E9.dcp.mono s917,fun x hx=>(D9.inn x hx).2,fun x hx=>(nk5 x hx).n50,fun x hx=>(E9.inn x hx).2.mono (by decide),by show kq.length≤6;omega,by show kh.length≤6;omega,enZ.symm⟩
inductive IspHalved (vs:List V) (H:Hp) (Q:VK):Prop
 | mk (t lp lw d:Addr) (tp tw:List V) (es:List Ent) (rs:List W7) (rq:aR) (pl:Str) (h1:vs=[.ref t,.str pl,.ref d]) (h2:Told H t lp lw tp tw es rs) (h3:DcpIs H (.ref d) rq) (h4:(∀ x∈rq.1,Nb 23 (rq.2 x))) (h5:rq.1.length≤8) (h6:∀ d' f' H',Same H H'→DcpIs H' (.ref d') (rq.1,f')→(∀ x∈rq.1,Nb 24 (f' x))→Q (.ref d') H'):IspHalved vs H Q
noncomputable def spHalved:Sp:=fun vs H Q _=>IspHalved vs H Q
theorem ok_law_halved (T:TX K mg a):FnB P w K mg base CX0 "_law_halved" 2 ["_law_told","_law_asked_here","_law_plan"] spHalved:=by
 refine T.d_law_halved.ok sc_law_halved (fun vs H Q E h=>?_) (fun f cdv A outer s H vs Q E hr h=>?_)
 ·obtain ⟨_,_,_,_,_,_,_,_,_,_,rfl,_⟩:=h
  rfl
 ·obtain ⟨t,lp,lw,d,tp,tw,es,rs,rq,pl,rfl,td,hQ,nq,l8,k⟩:=h
  refine ⟨_,(ag (ar (i:=3) sc_law_halved.nd rfl (Or.inl rfl) (bS bo (by rfl) T.z_dict jJ (aa (pv 2) ae)))
   (ag (a9 i7 rfl (aX (ap al (pv 0) ac (fun _ _=>rfl))) (ax (i:=4) sc_law_halved.nd rfl (Or.inl rfl)) (ah (aG (PW.pt (gD (aw ba (ap al (pv 4) ac (fun _ _=>rfl)) (pv 1) (az _)) (gf (gE (pc_din (aJ hr) (ap al (pv 4) ac (fun _ _=>rfl)) (pv 2)))))) (ah (bv (aJ hr) (pv 3) (ap al (pv 4) ac (fun _ _=>rfl)) (aF (aa (ap al (aQ (aJ hr) (pv 2) (ap al (pv 4) ac (fun _ _=>rfl)) (fun _ _=>rfl)) ac (fun _ _=>rfl)) (aa (am aT ac (ap al (aQ (aJ hr) (pv 2) (ap al (pv 4) ac (fun _ _=>rfl)) (fun _ _=>rfl)) ac (fun _ _=>rfl))) ae))) rfl)) ay)))
   (ah (aq (pv 3))))),?_⟩
  try dsimp only [aM,Cx.nox,Cx.wish]
  obtain ⟨d0,kvq,ed,hdq,tbq,ndq⟩:=id hQ
  cases ed
  refine ⟨_,rfl,d,kvq,rfl,.inl hdq,fun d1 nd1=>?_⟩
  have s1:=ai (o:=.dK kvq) nd1
  have h1:upd H d1 (.dK kvq) d1=some (.dK kvq):=ad
  have tb1:=tbq.mono fun v x z=>DueIs.mono z s1
  generalize upd H d1 (.dK kvq)=H1 at s1 h1 tb1 ⊢
  have lk0:kvq.length=rq.1.length:=tbq.len
  refine ⟨_,rfl,t,_,_,_,rfl,rfl,SqT.of (s1 _ _ td.ht),rfl,lw,rfl,⟨_,SqL.of (s1 _ _ td.hw)⟩,bn (K:=K) (a:=lw) (xs:=tw) (fun i σ H4=>∃ z4 kv f,σ=[some (.ref t),some (.str pl),some (.ref d),some (.ref d1),z4]∧Same H H4∧H4 d1=some (.dK kv)∧Tab DueIs H4 kv rq.1 f∧∀ x∈rq.1,Nb 24 (f x)) ⟨none,kvq,rq.2,rfl,s1,h1,tb1,fun x hx=>(nq x hx).mono (by decide)⟩ (fun i σ H4 _ ⟨_,_,_,_,s4,_⟩=>SqL.of (s4 _ _ td.hw)) ?_ ?_⟩
  ·rintro i v σ H4 hv ⟨z4,kv,f,rfl,s4,h4,tb4,n4⟩
   obtain ⟨r,er,u,vg,vh,vc,rfl,hu,_⟩:=td.rw.get hv
   have squ:=SqT.of (K:=K) (s4 _ _ hu)
   have same:∃ z4' kv' f',[some (V.ref t),some (V.str pl),some (V.ref d),some (V.ref d1),some (V.ref u)]=[some (V.ref t),some (V.str pl),some (V.ref d),some (V.ref d1),z4']∧Same H H4∧H4 d1=some (.dK kv')∧Tab DueIs H4 kv' rq.1 f'∧∀ x∈rq.1,Nb 24 (f' x):=⟨_,kv,f,rfl,s4,h4,tb4,n4⟩
   refine ⟨_,rfl,u,_,_,_,rfl,rfl,squ,rfl,?_⟩
   refine ⟨_,rfl,rfl,_,rfl,?_⟩
   by_cases ego:(V.str r.go)=V.str pl
   case neg=>exact eQ (iX ego) (iteF same)
   refine gW (iW ego) ?_
   refine ⟨_,rfl,u,_,_,_,rfl,rfl,squ,rfl,_,rfl,d,_,rfl,.inl ⟨kvq,Sum.inr r.nm,.inl (s4 _ _ hdq),rfl,rfl⟩,?_⟩
   cases ho:bc kvq (Sum.inr r.nm:Key) with
   | none=>exact ⟨_,rfl,iteF same⟩
   | some v0=>
    refine ⟨_,rfl,iteT ?_⟩
    have mem:r.nm∈rq.1:=Classical.byContradiction fun z=>by
     rw [tbq.none z] at ho
     cases ho
    obtain ⟨v,ev,q,rfl,hq⟩:=tbq.vals r.nm mem
    have nn:=nq r.nm mem
    have gQ:DGet H4 d (.str r.nm) (some (.ref q)):=.inl ⟨kvq,Sum.inr r.nm,.inl (s4 _ _ hdq),rfl,ev.symm⟩
    have sqq:=SqT.of (K:=K) (s4 _ _ hq)
    refine ⟨_,rfl,_,rfl,u,_,_,_,rfl,rfl,squ,rfl,d,.ref q,rfl,gQ,q,_,_,_,rfl,rfl,sqq,rfl,_,rfl,_,rfl,u,_,_,_,rfl,rfl,squ,rfl,d,.ref q,rfl,gQ,q,_,_,_,rfl,rfl,sqq,rfl,_,_,rfl,rfl,⟨Sm.of_le (show (2:Int).natAbs≤2 ^ 2 by decide) (by decide),nn.sm.2⟩,by show 2≤sizeLine;decide,fun ph nph=>?_⟩
    have n5:Nb 24 ((rq.2 r.nm).1,2*(rq.2 r.nm).2):=by
     have a1:=nn.t
     have a2:=nn.b
     have a3:=nn.b'
     exact ⟨by show (rq.2 r.nm).1.natAbs≤_;exact i3 a1 (by decide),by show 1≤2*(rq.2 r.nm).2;omega,by show (2*(rq.2 r.nm).2).natAbs≤_;rw [jD];exact i3 (Nat.mul_le_mul_left _ a3) (by decide)⟩
    have s5':=ai (o:=.tup [.int (rq.2 r.nm).1,.int (2*(rq.2 r.nm).2)]) nph
    have h5:upd H4 ph (.tup [.int (rq.2 r.nm).1,.int (2*(rq.2 r.nm).2)]) ph=some (.tup [.int (rq.2 r.nm).1,.int (2*(rq.2 r.nm).2)]):=ad
    generalize upd H4 ph (.tup [.int (rq.2 r.nm).1,.int (2*(rq.2 r.nm).2)])=H5 at s5' h5 ⊢
    have h15:=s5' _ _ h4
    have lk:kv.length≤900:=by rw [tb4.len];omega
    refine ⟨_,rfl,_,rfl,u,_,_,_,rfl,rfl,SqT.of (s5' _ _ (s4 _ _ hu)),rfl,d1,_,rfl,DPut.k (k:=Sum.inr r.nm) h15 (aE (by omega)),?_⟩
    have ko:KeepO H5 (upd H5 d1 (.dK (bg kv (Sum.inr r.nm) (.ref ph)))):=.dct h15
    have tb6:=Tab.put (n:=r.nm) (tb4.mono fun v x z=>(DueIs.mono z s5').ko ko) (DueIs.ko (c:=((rq.2 r.nm).1,2*(rq.2 r.nm).2)) ⟨ph,rfl,h5⟩ ko)
    rw [show eM rq.1 r.nm=rq.1 from if_pos mem] at tb6
    refine ⟨_,_,_,rfl,aH nd1 (s4.trans s5'),ad,tb6,fun x hx=>?_⟩
    by_cases ex:x=r.nm
    ·subst ex
     rw [bt]
     exact n5
    ·rw [bW ex]
     exact n4 x hx
  ·rintro σ H4 ⟨z4,kv,f,rfl,s4,h4,tb4,n4⟩
   exact ⟨_,rfl,k d1 f H4 s4 ⟨d1,kv,rfl,h4,tb4,ndq⟩ n4⟩
inductive IspDearer (vs:List V) (H:Hp) (Q:VK):Prop
 | mk (d pm:Addr) (rh:aR) (c:Int × Int) (h1:vs=[.ref d,.ref pm]) (h2:DcpIs H (.ref d) rh) (h3:(∀ x∈rh.1,Nb 103 (rh.2 x))) (h4:rh.1.length≤8) (h5:H pm=some (.tup [.int c.1,.int c.2])) (h6:Nb 21 c) (h7:∀ d' f' H',Same H H'→DcpIs H' (.ref d') (rh.1,f')→(∀ x∈rh.1,Nb 125 (f' x))→Q (.ref d') H'):IspDearer vs H Q
noncomputable def spDearer:Sp:=fun vs H Q _=>IspDearer vs H Q
theorem ok_law_dearer (T:TX K mg a):FnB P w K mg base CX0 "_law_dearer" 2 ["_law_highs","_law_more"] spDearer:=by
 refine T.d_law_dearer.ok sc_law_dearer (fun vs H Q E h=>?_) (fun f cdv A outer s H vs Q E hr h=>?_)
 ·obtain ⟨_,_,_,_,rfl,_⟩:=h
  rfl
 ·obtain ⟨d,pm,rh,c,rfl,hQ,nq,l8,hpm,nc,k⟩:=h
  refine ⟨_,(ag (ar (i:=2) sc_law_dearer.nd rfl (Or.inl rfl) (bS bo (by rfl) T.z_dict jJ (aa (pv 0) ae)))
   (ag (eV (a9 i7 rfl (fE (pv 0)) (ax (i:=3) sc_law_dearer.nd rfl (Or.inl rfl)) (ah (bv (aJ hr) (pv 2) (pv 3) (av (cc T) hr ak (aa (aQ (aJ hr) (pv 0) (pv 3) (fun _ _=>rfl)) (aa (pv 1) ae))) rfl))))
   (ah (aq (pv 2))))),?_⟩
  try dsimp only [aM,Cx.nox,Cx.wish]
  obtain ⟨d0,kvq,ed,hdq,tbq,ndq⟩:=id hQ
  cases ed
  refine ⟨_,rfl,d,kvq,rfl,.inl hdq,fun d1 nd1=>?_⟩
  have s1:=ai (o:=.dK kvq) nd1
  have h1:upd H d1 (.dK kvq) d1=some (.dK kvq):=ad
  have tb1:=tbq.mono fun v x z=>DueIs.mono z s1
  have nd:d1≠d:=fun z=>by rw [z,hdq] at nd1;cases nd1
  generalize upd H d1 (.dK kvq)=H1 at s1 h1 tb1 ⊢
  have lk0:kvq.length=rh.1.length:=tbq.len
  have hd1:=s1 _ _ hdq
  refine ⟨d,.dK kvq,hd1,(by intro o z e;cases e),_,rfl,d,kvq,rfl,hd1,fun o=>?_⟩
  refine fX (a:=d) (o:=o) (kvs:=kvq) (fun i σ H4=>∃ z3 kv f,σ=[some (.ref d),some (.ref pm),some (.ref d1),z3]∧H4 d=some (.frz o (.dK kvq))∧(∀ b ob,H b=some ob→b≠d→H4 b=some ob)∧H4 d1=some (.dK kv)∧Tab DueIs H4 kv rh.1 f∧∀ x∈rh.1,Nb 125 (f x))
   ⟨none,kvq,rh.2,rfl,ad,(fun b ob e ne=>by rw [aj ne];exact s1 b ob e),by rw [aj nd];exact h1,tb1.mono fun v x z=>DueIs.ko z (.dct hd1),fun x hx=>(nq x hx).mono (by decide)⟩ (fun i σ H4 _ ⟨_,_,_,_,h,_⟩=>h) ?_ ?_
  ·rintro i kv' σ H4 hkv ⟨z3,kv,f,rfl,hf,k4,h4,tb4,n4⟩
   obtain ⟨n,en,e1,ev,q,eq,hq⟩:=tbq.at_ ndq hkv
   have mn:=iR en
   have ekv:kV kv'.1=.str n:=by rw [e1];rfl
   rw [ekv]
   have ndq':q≠d:=bh hq hdq (by intro z;cases z)
   have npd:pm≠d:=bh hpm hdq (by intro z;cases z)
   have nn:=nq n mn
   refine ⟨_,rfl,_,rfl,d,.ref q,rfl,.inl ⟨kvq,Sum.inr n,.inr ⟨o,hf⟩,rfl,by rw [ev,eq]⟩,_,rfl,q,pm,rh.2 n,c,rfl,k4 _ _ hq ndq',k4 _ _ hpm npd,nn.sm,nc.sm,fun t nt=>?_⟩
   have n5:=nn.pl nc
   generalize plP (rh.2 n) c=c5 at n5
   have s5':=ai (o:=.tup [.int c5.1,.int c5.2]) nt
   have h5:upd H4 t (.tup [.int c5.1,.int c5.2]) t=some (.tup [.int c5.1,.int c5.2]):=ad
   generalize upd H4 t (.tup [.int c5.1,.int c5.2])=H5 at s5' h5 ⊢
   have h15:=s5' _ _ h4
   have lk:kv.length≤900:=by rw [tb4.len];omega
   refine ⟨_,rfl,_,rfl,d1,_,rfl,DPut.k (k:=Sum.inr n) h15 (aE (by omega)),?_⟩
   have ko:KeepO H5 (upd H5 d1 (.dK (bg kv (Sum.inr n) (.ref t)))):=.dct h15
   have tb6:=Tab.put (n:=n) (tb4.mono fun v x z=>(DueIs.mono z s5').ko ko) (DueIs.ko (c:=c5) ⟨t,rfl,h5⟩ ko)
   rw [show eM rh.1 n=rh.1 from if_pos mn] at tb6
   refine ⟨_,_,_,rfl,by rw [aj nd.symm];exact s5' _ _ hf,(fun b ob e ne=>?_),ad,tb6,fun x hx=>?_⟩
   ·rw [aj fun z=>by rw [z,nd1] at e;cases e]
    exact s5' _ _ (k4 b ob e ne)
   ·by_cases ex:x=n
    ·subst ex
     rw [bt]
     exact n5.mono (by decide)
    ·rw [bW ex]
     exact n4 x hx
  ·rintro σ H4 ⟨z3,kv,f,rfl,hf,k4,h4,tb4,n4⟩
   have ko:KeepO H4 (upd H4 d (.dK kvq)):=⟨fun b xs e=>by rw [aj (bh e hf (by intro z;cases z))];exact e,fun b C dx fs e=>by rw [aj (bh e hf (by intro z;cases z))];exact e⟩
   exact ⟨o,hf,_,rfl,k d1 f _ (b3 hdq k4) ⟨d1,kv,rfl,by rw [aj nd];exact h4,tb4.mono fun v x z=>DueIs.ko z ko,ndq⟩ n4⟩
theorem gN (ks:List Str) (n:Str):(eM ks n).length≤ks.length+1:=by unfold eM;split;omega;rw [jd];exact iP _
theorem addK_mem {ks:List Str} {n x:Str}:x∈eM ks n↔x∈ks∨x=n:=by
 unfold eM
 split
 ·rename_i h
  exact ⟨.inl,fun z=>z.elim id fun e=>e ▸ h⟩
 ·rw [List.mem_append,jH]
theorem compG_tup {l:Addr} {k:Nat} {g:TG} {tc:TT} {te:TE} {ρ:St} {R:Hp→Prop} {H₀:Hp} {K:PySem.W.Frag} {a:Addr} {xs:List V} (Pv:Nat→Hp→Prop) (h0:Pv 0 (upd H₀ l (.lst []))) (hl:∀ i H,Pv i H→SqT K H a xs)
  (hs:∀ i x H,xs[i]?=some x→Pv i H→∀ zs:St,zs.length=k→g x (zs ++ ρ) H fun σ2 H2=>(∃ zs':St,zs'.length=k∧σ2=zs' ++ ρ)∧tc σ2 H2 fun b H3=>if b=true then te σ2 H3 fun y H4=>∃ ys,H4 l=some (.lst ys)∧ys.length<sizeLine∧fB xs.length Pv i (upd H4 l (.lst (ys++[y]))) else fB xs.length Pv i H3)
  (hd:∀ H,Pv xs.length H→R H) :
  ∃ W:Nat→Nat→Hp→Prop,(∃ m,W 0 m (upd H₀ l (.lst [])))∧∀ i m H,W i m H→
   ((Itt K a).stop i H∧R H)∨((Itt K a).go i H∧∀ x H',(Itt K a).yld i H x H'→∀ zs:St,zs.length=k→g x (zs ++ ρ) H' fun σ2 H2=>(∃ zs':St,zs'.length=k∧σ2=zs' ++ ρ)∧tc σ2 H2 fun b H3=>if b=true then te σ2 H3 fun y H4=>∃ ys,H4 l=some (.lst ys)∧ys.length<sizeLine∧∃ m',m'<m∧W (i+1) m' (upd H4 l (.lst (ys++[y]))) else ∃ m',m'<m∧W (i+1) m' H3):=
 fZ (n:=xs.length) Pv h0 (fun i H hi p=>⟨xs,xs[i],hl i H p,iO hi⟩) (fun H p=>⟨xs,hl _ H p,iP _⟩) (fun i x H H' hi y p=>by
  obtain ⟨e,y⟩:=y
  subst e
  exact hs i x _ (y xs (hl i _ p)) p) hd
theorem valV_drop {k k':Key} (h:k'≠k):∀ kvs:List (Key × V),bc (dC kvs k) k'=bc kvs k'
 | []=>rfl
 | p::r=>by
  by_cases e:p.1=k
  ·rw [dropK_pos e,valV_drop h r,br fun z=>h (z.symm.trans e)]
  ·rw [dropK_neg e]
   by_cases e2:p.1=k'
   ·rw [bD e2,bD e2]
   ·rw [br e2,br e2,valV_drop h r]
theorem Tab.drop {H:Hp} {kvs:List (Key × V)} {r:aR} (t:Tab DueIs H kvs r.1 r.2) (n:Str):Tab DueIs H (dC kvs (Sum.inr n)) (r.1.filter fun m=>decide (m≠n)) r.2:=by
 refine ⟨?_,fun m hm=>?_⟩
 ·unfold dC
  rw [show (fun kv:Key × V=>decide (kv.1≠(Sum.inr n:Key)))=(fun x:Key=>decide (x≠Sum.inr n)) ∘ (fun kv:Key × V=>kv.1) from rfl,← List.filter_map,t.keys,List.filter_map]
  congr 1
  refine List.filter_congr fun m _=>?_
  show decide ((Sum.inr m:Key)≠Sum.inr n)=decide (m≠n)
  exact decide_eq_decide.mpr ⟨fun h e=>h (by rw [e]),fun h e=>h (Sum.inr.inj e)⟩
 ·obtain ⟨h1,h2⟩:=jS.mp hm
  have ne:m≠n:=jG h2
  obtain ⟨v,e,r⟩:=t.vals m h1
  exact ⟨v,by rw [valV_drop fun z=>ne (Sum.inr.inj z)];exact e,r⟩
theorem c6 {r:aR} {k:Nat} (h:∀ x∈r.1,Nb k (r.2 x)):∀ x,Nb k (amP r x):=fun x=>by
 unfold amP
 split
 ·exact h x ‹_›
 ·exact nb01.mono (iY _)
structure Pr51 (k:Nat) (H:Hp) (d:Addr) (r:aR):Prop where
 h:DcpIs H (.ref d) r
 n:∀ x∈r.1,Nb k (r.2 x)
 l:r.1.length≤8
theorem Pr51.mono {k:Nat} {H H':Hp} {d:Addr} {r:aR} (h:Pr51 k H d r) (s:Same H H'):Pr51 k H' d r:=⟨h.h.mono s,h.n,h.l⟩
theorem gq {r:aR} {nm:Str} {c:Int × Int} {k:Nat} (h:∀ x∈r.1,Nb k (r.2 x)) (nc:Nb 20 c):∀ x∈(mvR r nm c).1,Nb (k+21) ((mvR r nm c).2 x):=fun x hx=>by
 by_cases ex:x=nm
 ·subst ex
  show Nb (k+21) (upf r.2 x (plP (amP r x) c) x)
  rw [bt]
  exact ((c6 h x).pl nc).mono (by omega)
 ·show Nb (k+21) (upf r.2 nm (plP (amP r nm) c) x)
  rw [bW ex]
  exact (h x ((addK_mem.mp hx).resolve_right ex)).mono (by omega)
theorem Mk51.tok {H:Hp} {c1 c2:Int} {n m:Nat} {t lp lw dq dp dh:Addr} {tp tw:List V} {es:List Ent} {rs:List W7} {rq rp rh:aR} (h:Mk51 H c1 c2 n m t lp lw dq dp dh tp tw es rs rq rp rh) (n4:n≤4) (m5:m≤5):es.length=n∧rs.length=m∧TOk es rs:=by
 have l1:es.length=n:=by
  have:=jy List.length h.en
  rwa [iM,namesA_len] at this
 have l2:rs.length=m:=by
  have:=jy List.length h.rn
  rwa [iM,namesA_len] at this
 exact ⟨l1,l2,by omega,by omega,by rw [h.en];exact gR (by omega),by rw [h.rn];exact gR (by omega),fun e he=>(h.eo e he).mono (by decide),h.ro⟩
inductive IspSpoilt54 (K:PySem.W.Frag) (vs:List V) (H:Hp) (Q:VK):Prop
 | mk (l t pa pm lp lw dq dp dh:Addr) (pl:Str) (c:Int × Int) (ns:List Int) (n m:Nat) (tp tw:List V) (es:List Ent) (rs:List W7) (rq rp rh:aR) (h1:vs=[.ref l,.ref t,.str pl,.ref pa]) (h2:SqL K H l (ns.map V.int)) (h3:1≤n) (h4:n≤4) (h5:m≤5) (h6:H pa=some (.tup [.ref pm,.ref dq,.ref dp,.ref dh])) (h7:H pm=some (.tup [.int c.1,.int c.2])) (h8:Nb 180 c) (h9:Mk51 H (aL ns 1) (aL ns 2) n m t lp lw dq dp dh tp tw es rs rq rp rh) (h10:∀ pa' pm' dq' dp' dh' c' rq' rp' rh' H',Same H H'→H' pa'=some (.tup [.ref pm',.ref dq',.ref dp',.ref dh'])→H' pm'=some (.tup [.int c'.1,.int c'.2])→Nb 900 c'→Pr51 44 H' dq' rq'→Pr51 44 H' dp' rp'→Pr51 130 H' dh' rh'→Q (.ref pa') H'):IspSpoilt54 K vs H Q
noncomputable def spSpoilt54 (K:PySem.W.Frag):Sp:=fun vs H Q _=>IspSpoilt54 K vs H Q
theorem ok_law_spoilt (T:TX K mg a):FnB P w K mg base CX0 "_law_spoilt" 4 ["_law_script","_law_told","_law_asked_here","_law_answer"] (spSpoilt54 K):=by
 refine T.d_law_spoilt.ok sc_law_spoilt (fun vs H Q E h=>?_) (fun f cdv A outer s H vs Q E hr h=>?_)
 ·obtain ⟨_,_,_,_,_,_,_,_,_,_,_,_,_,_,_,_,_,_,_,_,_,rfl,_⟩:=h
  rfl
 ·obtain ⟨l,t,pa,pm,lp,lw,dq,dp,dh,pl,c,ns,n,m,tp,tw,es,rs,rq,rp,rh,rfl,hS,n1,n4,m5,hpa,hpm,nc,M,k⟩:=h
  refine ⟨_,(ag (gj (pv 3) (eO rfl (aD (ax (i:=4) sc_law_spoilt.nd rfl (Or.inl rfl)) (aD (ax (i:=5) sc_law_spoilt.nd rfl (Or.inl rfl)) (aD (ax (i:=6) sc_law_spoilt.nd rfl (Or.inl rfl)) (aD (ax (i:=7) sc_law_spoilt.nd rfl (Or.inl rfl)) bZ))))))
   (ag (ar (i:=8) sc_law_spoilt.nd rfl (Or.inl rfl) (am aI (av (aA T) hr ak (aa (pv 0) (aa ac ae))) ac))
   (ag (ar (i:=9) sc_law_spoilt.nd rfl (Or.inl rfl) (av (g8 T) hr ak (aa (av (aA T) hr ak (aa (pv 0) (aa ac ae))) ae)))
   (ag (ar (i:=10) sc_law_spoilt.nd rfl (Or.inl rfl) (ap al (ap eF (ap al (pv 1) ac (fun _ _=>rfl)) (am aI (av (aA T) hr ak (aa (pv 0) (aa ac ae))) (aU cB (by rfl) T.z_len j7 (aa (ap al (pv 1) ac (fun _ _=>rfl)) ae))) (fun _ _=>rfl)) ac (fun _ _=>rfl)))
   (ag (ar (i:=11) sc_law_spoilt.nd rfl (Or.inl rfl) (av (eK T) hr ak (aa (am aS (aU cB (by rfl) T.z_len j7 (aa (ap al (pv 1) ac (fun _ _=>rfl)) ae)) ac) (aa (av (aA T) hr ak (aa (pv 0) (aa ac ae))) ae))))
   (aP (aG (PW.pt (gD (aw (op_neN hr.units0) (ap al (pv 1) ac (fun _ _=>rfl)) (pe_lst ae) (az _)) (gf (aw op_ne (pv 8) ac (az _))))) (ah (ar (i:=11) sc_law_spoilt.nd rfl (Or.inl rfl) (ap al (ap eF (ap al (pv 1) ac (fun _ _=>rfl)) (am aI (av (aA T) hr ak (aa (pv 0) (aa ac ae))) (aU cB (by rfl) T.z_len j7 (aa (ap al (pv 1) ac (fun _ _=>rfl)) ae))) (fun _ _=>rfl)) ac (fun _ _=>rfl)))) ay)
   (aP (aG (aw ba (pv 8) ac (az _)) (ah (ar (i:=5) sc_law_spoilt.nd rfl (Or.inl rfl) (av (dG T) hr ak (aa (pv 5) (aa (pv 11) (aa (pv 9) ae)))))) (ah (aG (aw ba (pv 8) ac (az _)) (ah (ar (i:=6) sc_law_spoilt.nd rfl (Or.inl rfl) (av (dG T) hr ak (aa (pv 6) (aa (pv 10) (aa (pv 9) ae)))))) (ah (aG (aw ba (pv 8) ac (az _)) (ah (ar (i:=7) sc_law_spoilt.nd rfl (Or.inl rfl) (av (dG T) hr ak (aa (pv 7) (aa (pv 11) (aa (pv 9) ae)))))) (ah (aG (aw ba (pv 8) ac (az _)) (ah (ar (i:=6) sc_law_spoilt.nd rfl (Or.inl rfl) (av (dG T) hr ak (aa (pv 6) (aa (av (eK T) hr ak (aa (am aS (aU cB (by rfl) T.z_len j7 (aa (ap al (pv 1) ac (fun _ _=>rfl)) ae)) ac) (aa (av (aA T) hr ak (aa (pv 0) (aa ac ae))) ae))) (aa (aF (aa ac (aa ac ae))) ae)))))) (ah (aG (aw ba (pv 8) ac (az _)) (ah (ar (i:=5) sc_law_spoilt.nd rfl (Or.inl rfl) (av (dG T) hr ak (aa (pv 5) (aa (pv 11) (aa (aF (aa ac (aa ac ae))) ae)))))) (ah (aG (aw ba (pv 8) ac (az _)) (ag (ar (i:=6) sc_law_spoilt.nd rfl (Or.inl rfl) (bS bo (by rfl) T.z_dict jJ (aa (pv 6) ae)))
   (ah (cE (pe_bm PySem.F.plainAttrs_dict PySem.F.slot_dict_pop PySem.F.type_dict_pop mt_dpop (pv 6) (aa (pv 10) (aa b8 ae)))))) (ah (aG (aw ba (pv 8) ac (az _)) (ag (ar (i:=7) sc_law_spoilt.nd rfl (Or.inl rfl) (bS bo (by rfl) T.z_dict jJ (aa (pv 7) ae)))
   (ah (cE (pe_bm PySem.F.plainAttrs_dict PySem.F.slot_dict_pop PySem.F.type_dict_pop mt_dpop (pv 7) (aa (pv 11) (aa b8 ae)))))) (ah (aG (aw ba (pv 8) ac (az _)) (ah (ar (i:=4) sc_law_spoilt.nd rfl (Or.inl rfl) (av (cc T) hr ak (aa (pv 4) (aa (pv 9) ae))))) (ah (aG (aw ba (pv 8) ac (az _)) (ah (ar (i:=5) sc_law_spoilt.nd rfl (Or.inl rfl) (av (ok_law_halved T) hr ak (aa (pv 1) (aa (pv 2) (aa (pv 5) ae)))))) (ah (aG (aw gw (pv 8) ac (az _)) (ah (ar (i:=7) sc_law_spoilt.nd rfl (Or.inl rfl) (av (ok_law_dearer T) hr ak (aa (pv 7) (aa (aF (aa (am aS ac (aU call_abs (by rfl) T.z_abs PyProof.Rows.boot_abs (aa (ap al (pv 9) ac (fun _ _=>rfl)) ae))) (aa (ap al (pv 9) ac (fun _ _=>rfl)) ae))) ae))))) ay)))))))))))))))))))
   (ah (aq (aF (aa (pv 4) (aa (pv 5) (aa (pv 6) (aa (pv 7) ae)))))))))))))),?_⟩
  try dsimp only [aM,Cx.nox,Cx.wish]
  obtain ⟨le,lr,tok⟩:=M.tok n4 m5
  have td:=M.td
  have ltp:tp.length=n:=by rw [td.rp.1];exact le
  have ltw:tw.length=m:=by rw [td.rw.1];exact lr
  have lpp:rp.1.length≤6:=by rw [M.ep,iM];omega
  have lq:=M.lq
  have lh:=M.lh
  refine ⟨_,rfl,pa,_,rfl,SqT.of hpa,rfl,_,_,rfl,_,_,rfl,_,_,rfl,_,_,rfl,rfl,?_⟩
  refine ⟨_,rfl,l,ns,36,rfl,hS,by decide,_,_,rfl,rfl,by show (0:Int)<12;decide,?_⟩
  refine ⟨_,rfl,l,ns,37,rfl,hS,by decide,_,rfl,fun ck pk npk nck=>?_⟩
  have s3:=ai (o:=.tup [.int ck.1,.int ck.2]) npk
  have h3:upd H pk (.tup [.int ck.1,.int ck.2]) pk=some (.tup [.int ck.1,.int ck.2]):=ad
  generalize upd H pk (.tup [.int ck.1,.int ck.2])=H3 at s3 h3 ⊢
  have ncb:=nck.nb
  have sqt1:=SqT.of (K:=K) (s3 _ _ td.ht)
  have sqp1:=SqL.of (K:=K) (s3 _ _ td.hp)
  obtain ⟨i0,i1⟩:=aN (aL ns 38) (show (0:Int)<(tp.length:Int) by omega)
  obtain ⟨ip,hip⟩:=ju i0
  obtain ⟨eP,eeP⟩:∃ e,es[ip]?=some e:=⟨_,iO (by omega)⟩
  obtain ⟨vP,evP,teP,veP,rfl,hteP,_⟩:=td.rp.get' eeP
  have atP:atI tp (aL ns 38 % (tp.length:Int))=some (.ref teP):=by rw [hip];exact atI_nat evP
  refine ⟨_,rfl,t,_,_,_,rfl,rfl,sqt1,rfl,_,rfl,l,ns,38,rfl,s3.seq hS,by decide,_,rfl,t,_,_,_,rfl,rfl,sqt1,rfl,lp,_,rfl,.inl sqp1,_,_,rfl,rfl,by show (0:Int)<(tp.length:Int);omega,lp,_,_,_,rfl,rfl,sqp1,atP,teP,_,_,_,rfl,rfl,SqT.of (s3 _ _ hteP),rfl,?_⟩
  have sqw1:=SqL.of (K:=K) (s3 _ _ td.hw)
  refine ⟨_,rfl,t,_,_,_,rfl,rfl,sqt1,rfl,lw,_,rfl,.inl sqw1,_,_,rfl,rfl,_,rfl,l,ns,2,rfl,s3.seq hS,by decide,_,_,rfl,by omega,by omega,?_⟩
  refine ⟨fun σ' H'=>∃ wn:Str,σ'=[some (.ref l),some (.ref t),some (.str pl),some (.ref pa),some (.ref pm),some (.ref dq),some (.ref dp),some (.ref dh),some (.int (aL ns 36 % 12)),some (.ref pk),some (.str eP.1),some (.str wn)]∧Same H3 H',?_,?_⟩
  ·refine ⟨_,rfl,t,_,_,_,rfl,rfl,sqt1,rfl,by show 0≤sizeLine;decide,fun x nx=>?_⟩
   have sx:=ai (o:=.lst []) nx
   have hx:upd H3 x (.lst []) x=_:=ad
   generalize upd H3 x (.lst [])=H4 at sx hx ⊢
   have s4:=s3.trans sx
   refine ⟨lw,x,_,rfl,rfl,SqL.of (s4 _ _ td.hw),SqL.of hx,?_⟩
   have sqt2:=SqT.of (K:=K) (s4 _ _ td.ht)
   have sqw2:=SqL.of (K:=K) (s4 _ _ td.hw)
   by_cases m0:m=0
   ·have e:tw=[]:=List.length_eq_zero_iff.mp (by omega)
    refine ⟨_,rfl,eQ (by rw [e];rfl) (iteF ?_)⟩
    exact ⟨_,rfl,sx⟩
   ·have e:tw.isEmpty=false:=by rw [List.isEmpty_eq_false_iff];intro z;rw [z] at ltw;exact m0 ltw.symm
    refine ⟨_,rfl,gW (by rw [e];rfl) ?_⟩
    refine ⟨_,rfl,rfl,_,rfl,?_⟩
    by_cases e5:aL ns 36 % 12=5
    ·refine eQ (by rw [iW (jy V.int e5)];rfl) ?_
     exact ⟨_,rfl,sx⟩
    ·refine gW (by rw [iX fun z=>e5 (V.int.inj z)];rfl) ?_
     obtain ⟨j0,j1⟩:=aN (aL ns 39) (show (0:Int)<(tw.length:Int) by omega)
     obtain ⟨jp,hjp⟩:=ju j0
     obtain ⟨r,er⟩:∃ r,rs[jp]?=some r:=⟨_,iO (by omega)⟩
     obtain ⟨vr,evr,u,vg,vh,vc,rfl,hu,_⟩:=td.rw.get' er
     have atR:atI tw (aL ns 39 % (tw.length:Int))=some (.ref u):=by rw [hjp];exact atI_nat evr
     refine ⟨_,rfl,t,_,_,_,rfl,rfl,sqt2,rfl,_,rfl,l,ns,39,rfl,s4.seq hS,by decide,_,rfl,t,_,_,_,rfl,rfl,sqt2,rfl,lw,_,rfl,.inl sqw2,_,_,rfl,rfl,by show (0:Int)<(tw.length:Int);omega,lw,_,_,_,rfl,rfl,sqw2,atR,u,_,_,_,rfl,rfl,SqT.of (s4 _ _ hu),rfl,?_⟩
     exact ⟨_,rfl,sx⟩
  clear sqt1 sqp1 sqw1
  rintro σ' H4 ⟨wn,rfl,s4'⟩
  generalize aL ns 36 % 12=deed
  have s4:=s3.trans s4'
  have h4:=s4' _ _ h3
  have td4:=td.mono s4
  have hm4:=s4 _ _ hpm
  have P1:Pr51 23 H4 dq rq:=⟨M.hq.mono s4,M.nq,by omega⟩
  have P2:Pr51 20 H4 dp rp:=⟨M.hp.mono s4,fun x hx=>(M.np x hx).nb,by omega⟩
  have P3:Pr51 103 H4 dh rh:=⟨M.hh.mono s4,M.nh,by omega⟩
  clear s4' s3 h3
  have hDk:∀ {k:Nat} {d:Addr} {r:aR},Pr51 k H4 d r→∃ kvs,H4 d=some (.dK kvs)∧Tab DueIs H4 kvs r.1 r.2∧r.1.Nodup:=fun h=>by
   obtain ⟨_,kvs,e,f,tb,nd⟩:=h.h
   cases e
   exact ⟨kvs,f,tb,nd⟩
  have up:∀ {j k:Nat} {H':Hp} {d:Addr} {r:aR},Pr51 j H' d r→j≤k→Pr51 k H' d r:=fun h e=>⟨h.h,fun x hx=>(h.n x hx).mono e,h.l⟩
  refine ⟨fun σ' H'=>∃ e0 e1 e2 e3 c' r1 r2 r3,σ'=[some (.ref l),some (.ref t),some (.str pl),some (.ref pa),some (.ref e0),some (.ref e1),some (.ref e2),some (.ref e3),some (.int deed),some (.ref pk),some (.str eP.1),some (.str wn)]∧Same H H'∧H' e0=some (.tup [.int c'.1,.int c'.2])∧Nb 900 c'∧Pr51 44 H' e1 r1∧Pr51 44 H' e2 r2∧Pr51 130 H' e3 r3,?_,?_⟩
  ·have nc9:Nb 900 c:=nc.mono (by decide)
   refine ⟨_,rfl,rfl,_,rfl,ifV (fun _=>?_) (fun _=>?_)⟩
   ·refine ⟨_,rfl,_,rfl,_,rfl,dq,pk,wn,rq,ck,rfl,P1.h,by omega,fun x=>(c6 P1.n x).mono (by decide),h4,ncb,fun d5 H5 nd5 s5 h5=>?_⟩
    exact ⟨pm,d5,dp,dh,c,_,rp,rh,rfl,s4.trans s5,s5 _ _ hm4,nc9,⟨h5,gq P1.n ncb,by have:=gN rq.1 wn;show (eM rq.1 wn).length≤8;omega⟩,(up P2 (by decide)).mono s5,(up P3 (by decide)).mono s5⟩
   refine ⟨_,rfl,rfl,_,rfl,ifV (fun _=>?_) (fun _=>?_)⟩
   ·refine ⟨_,rfl,_,rfl,_,rfl,dp,pk,eP.1,rp,ck,rfl,P2.h,by omega,fun x=>(c6 P2.n x).mono (by decide),h4,ncb,fun d5 H5 nd5 s5 h5=>?_⟩
    exact ⟨pm,dq,d5,dh,c,rq,_,rh,rfl,s4.trans s5,s5 _ _ hm4,nc9,(up P1 (by decide)).mono s5,⟨h5,fun x hx=>(gq P2.n ncb x hx).mono (by decide),by have:=gN rp.1 eP.1;show (eM rp.1 eP.1).length≤8;omega⟩,(up P3 (by decide)).mono s5⟩
   refine ⟨_,rfl,rfl,_,rfl,ifV (fun _=>?_) (fun _=>?_)⟩
   ·refine ⟨_,rfl,_,rfl,_,rfl,dh,pk,wn,rh,ck,rfl,P3.h,by omega,fun x=>(c6 P3.n x).mono (by decide),h4,ncb,fun d5 H5 nd5 s5 h5=>?_⟩
    exact ⟨pm,dq,dp,d5,c,rq,rp,_,rfl,s4.trans s5,s5 _ _ hm4,nc9,(up P1 (by decide)).mono s5,(up P2 (by decide)).mono s5,⟨h5,fun x hx=>(gq P3.n ncb x hx).mono (by decide),by have:=gN rh.1 wn;show (eM rh.1 wn).length≤8;omega⟩⟩
   refine ⟨_,rfl,rfl,_,rfl,ifV (fun _=>?_) (fun _=>?_)⟩
   ·refine ⟨_,rfl,_,rfl,t,_,_,_,rfl,rfl,SqT.of td4.ht,rfl,lp,_,rfl,.inl (SqL.of td4.hp),_,_,rfl,rfl,_,rfl,l,ns,1,rfl,s4.seq hS,by decide,_,_,rfl,by omega,by omega,by show 2≤sizeLine;decide,fun z nz=>?_⟩
    generalize cb ((tp.length:Int)+3) (aL ns 1)=nn
    have s5':=ai (o:=.tup [.int 0,.int 1]) nz
    have hz:upd H4 z (.tup [.int 0,.int 1]) z=some (.tup [.int 0,.int 1]):=ad
    generalize upd H4 z (.tup [.int 0,.int 1])=H5 at s5' hz ⊢
    have n01:Nb 20 ((0,1):Int × Int):=nb01.mono (by decide)
    refine ⟨dp,z,nn,rp,(0,1),rfl,P2.h.mono s5',by omega,fun x=>(c6 P2.n x).mono (by decide),hz,n01,fun d5 H6 nd5 s6 h6=>?_⟩
    have s56:=s5'.trans s6
    exact ⟨pm,dq,d5,dh,c,rq,_,rh,rfl,s4.trans s56,s56 _ _ hm4,nc9,(up P1 (by decide)).mono s56,⟨h6,fun x hx=>(gq P2.n n01 x hx).mono (by decide),by have:=gN rp.1 nn;show (eM rp.1 nn).length≤8;omega⟩,(up P3 (by decide)).mono s56⟩
   refine ⟨_,rfl,rfl,_,rfl,ifV (fun _=>?_) (fun _=>?_)⟩
   ·refine ⟨_,rfl,_,rfl,by show 2≤sizeLine;decide,fun z nz=>?_⟩
    have s5':=ai (o:=.tup [.int 0,.int 1]) nz
    have hz:upd H4 z (.tup [.int 0,.int 1]) z=some (.tup [.int 0,.int 1]):=ad
    generalize upd H4 z (.tup [.int 0,.int 1])=H5 at s5' hz ⊢
    have n01:Nb 20 ((0,1):Int × Int):=nb01.mono (by decide)
    refine ⟨dq,z,wn,rq,(0,1),rfl,P1.h.mono s5',by omega,fun x=>(c6 P1.n x).mono (by decide),hz,n01,fun d5 H6 nd5 s6 h6=>?_⟩
    have s56:=s5'.trans s6
    exact ⟨pm,d5,dp,dh,c,_,rp,rh,rfl,s4.trans s56,s56 _ _ hm4,nc9,⟨h6,gq P1.n n01,by have:=gN rq.1 wn;show (eM rq.1 wn).length≤8;omega⟩,(up P2 (by decide)).mono s56,(up P3 (by decide)).mono s56⟩
   refine ⟨_,rfl,rfl,_,rfl,ifV (fun _=>?_) (fun _=>?_)⟩
   ·obtain ⟨k2,hk2,tb2,nk2⟩:=hDk P2
    refine ⟨_,rfl,dp,k2,rfl,.inl hk2,fun d5 nd5=>?_⟩
    have s5':=ai (o:=.dK k2) nd5
    have h5:upd H4 d5 (.dK k2) d5=some (.dK k2):=ad
    have tb5:=tb2.mono fun v x z=>DueIs.mono z s5'
    generalize upd H4 d5 (.dK k2)=H5 at s5' h5 tb5 ⊢
    refine ⟨_,rfl,.inr (.inr (.inl ⟨rfl,.inl ⟨k2,h5⟩⟩)),_,rfl,d5,k2,Sum.inr eP.1,.non,rfl,rfl,h5,fun v ev=>?_,fun en=>?_⟩
    ·have ko:KeepO H5 (upd H5 d5 (.dK (dC k2 (Sum.inr eP.1)))):=.dct h5
     have s6:=aH (o:=.dK (dC k2 (Sum.inr eP.1))) nd5 s5'
     exact ⟨pm,dq,d5,dh,c,rq,(rp.1.filter fun m=>decide (m≠eP.1),rp.2),rh,rfl,s4.trans s6,s6 _ _ hm4,nc9,(up P1 (by decide)).mono s6,⟨⟨d5,_,rfl,ad,(tb5.drop eP.1).mono fun v x z=>DueIs.ko z ko,List.Pairwise.filter _ nk2⟩,fun x hx=>(P2.n x (jS.mp hx).1).mono (by decide),i3 (jC _ _) P2.l⟩,(up P3 (by decide)).mono s6⟩
    ·exact ⟨pm,dq,d5,dh,c,rq,rp,rh,rfl,s4.trans s5',s5' _ _ hm4,nc9,(up P1 (by decide)).mono s5',⟨⟨d5,k2,rfl,h5,tb5,nk2⟩,fun x hx=>(P2.n x hx).mono (by decide),P2.l⟩,(up P3 (by decide)).mono s5'⟩
   refine ⟨_,rfl,rfl,_,rfl,ifV (fun _=>?_) (fun _=>?_)⟩
   ·obtain ⟨k3,hk3,tb3,nk3⟩:=hDk P3
    refine ⟨_,rfl,dh,k3,rfl,.inl hk3,fun d5 nd5=>?_⟩
    have s5':=ai (o:=.dK k3) nd5
    have h5:upd H4 d5 (.dK k3) d5=some (.dK k3):=ad
    have tb5:=tb3.mono fun v x z=>DueIs.mono z s5'
    generalize upd H4 d5 (.dK k3)=H5 at s5' h5 tb5 ⊢
    refine ⟨_,rfl,.inr (.inr (.inl ⟨rfl,.inl ⟨k3,h5⟩⟩)),_,rfl,d5,k3,Sum.inr wn,.non,rfl,rfl,h5,fun v ev=>?_,fun en=>?_⟩
    ·have ko:KeepO H5 (upd H5 d5 (.dK (dC k3 (Sum.inr wn)))):=.dct h5
     have s6:=aH (o:=.dK (dC k3 (Sum.inr wn))) nd5 s5'
     exact ⟨pm,dq,dp,d5,c,rq,rp,(rh.1.filter fun m=>decide (m≠wn),rh.2),rfl,s4.trans s6,s6 _ _ hm4,nc9,(up P1 (by decide)).mono s6,(up P2 (by decide)).mono s6,⟨⟨d5,_,rfl,ad,(tb5.drop wn).mono fun v x z=>DueIs.ko z ko,List.Pairwise.filter _ nk3⟩,fun x hx=>(P3.n x (jS.mp hx).1).mono (by decide),i3 (jC _ _) P3.l⟩⟩
    ·exact ⟨pm,dq,dp,d5,c,rq,rp,rh,rfl,s4.trans s5',s5' _ _ hm4,nc9,(up P1 (by decide)).mono s5',(up P2 (by decide)).mono s5',⟨⟨d5,k3,rfl,h5,tb5,nk3⟩,fun x hx=>(P3.n x hx).mono (by decide),P3.l⟩⟩
   refine ⟨_,rfl,rfl,_,rfl,ifV (fun _=>?_) (fun _=>?_)⟩
   ·refine ⟨_,rfl,_,rfl,pm,pk,c,ck,rfl,hm4,h4,nc.sm,ncb.sm,fun t5 nt5=>?_⟩
    exact ⟨t5,dq,dp,dh,plP c ck,rq,rp,rh,rfl,s4.trans (ai nt5),ad,(nc.pl ncb).mono (by decide),(up P1 (by decide)).mono (ai nt5),(up P2 (by decide)).mono (ai nt5),(up P3 (by decide)).mono (ai nt5)⟩
   refine ⟨_,rfl,rfl,_,rfl,ifV (fun _=>?_) (fun _=>?_)⟩
   ·refine ⟨_,rfl,_,rfl,_,rfl,t,lp,lw,dq,tp,tw,es,rs,rq,pl,rfl,td4,P1.h,P1.n,P1.l,fun d5 f5 H5 s5 h5 n5=>?_⟩
    exact ⟨pm,d5,dp,dh,c,_,rp,rh,rfl,s4.trans s5,s5 _ _ hm4,nc9,⟨h5,fun x hx=>(n5 x hx).mono (by decide),P1.l⟩,(up P2 (by decide)).mono s5,(up P3 (by decide)).mono s5⟩
   refine ⟨_,rfl,_,_,rfl,rfl,_,rfl,ifB (fun _=>?_) (fun _=>⟨pm,dq,dp,dh,c,rq,rp,rh,rfl,s4,hm4,nc9,up P1 (by decide),up P2 (by decide),up P3 (by decide)⟩)⟩
   have sqk:=SqT.of (K:=K) h4
   refine ⟨_,rfl,_,rfl,pk,_,_,_,rfl,rfl,sqk,rfl,ck.1,rfl,_,_,rfl,rfl,_,rfl,pk,_,_,_,rfl,rfl,sqk,rfl,by show 2≤sizeLine;decide,fun z nz=>?_⟩
   have nz1:Nb 21 (1+(if ck.1<0 then -ck.1 else ck.1),ck.2):=by
    have a1:=nck.t
    have a2:=nck.b
    have a3:=nck.b'
    refine ⟨?_,a2,?_⟩
    ·show (1+(if ck.1<0 then -ck.1 else ck.1)).natAbs≤2 ^ 21
     split <;> omega
    ·show ck.2.natAbs≤2 ^ 21
     omega
   have s5':=ai (o:=.tup [.int (1+(if ck.1<0 then -ck.1 else ck.1)),.int ck.2]) nz
   have hz:upd H4 z (.tup [.int (1+(if ck.1<0 then -ck.1 else ck.1)),.int ck.2]) z=some (.tup [.int (1+(if ck.1<0 then -ck.1 else ck.1)),.int ck.2]):=ad
   generalize upd H4 z (.tup [.int (1+(if ck.1<0 then -ck.1 else ck.1)),.int ck.2])=H5 at s5' hz ⊢
   refine ⟨dh,z,rh,(1+(if ck.1<0 then -ck.1 else ck.1),ck.2),rfl,P3.h.mono s5',P3.n,P3.l,hz,nz1,fun d5 f5 H6 s6 h6 n6=>?_⟩
   have s56:=s5'.trans s6
   exact ⟨pm,dq,dp,d5,c,rq,rp,_,rfl,s4.trans s56,s56 _ _ hm4,nc9,(up P1 (by decide)).mono s56,(up P2 (by decide)).mono s56,⟨h6,fun x hx=>(n6 x hx).mono (by decide),P3.l⟩⟩
  rintro σ' H5 ⟨e0,e1,e2,e3,c',r1,r2,r3,rfl,s5,h5,nc5,Q1,Q2,Q3⟩
  refine ⟨_,rfl,_,rfl,_,rfl,_,rfl,by show 4≤sizeLine;decide,fun pa' npa=>?_⟩
  have s6:=ai (o:=.tup [.ref e0,.ref e1,.ref e2,.ref e3]) npa
  exact k pa' e0 e1 e2 e3 c' r1 r2 r3 _ (s5.trans s6) ad (s6 _ _ h5) nc5 (Q1.mono s6) (Q2.mono s6) (Q3.mono s6)
theorem bds_of {m:Nat}:∀ {xs:List Rat} {ys:List Rat} {N:Nat},BdS ys N→(∀ x∈xs,Bd m x)→BdS (ys++xs) (N+xs.length*(m+1))
 | [],ys,N,h,_=>by rw [j8,List.length_nil,Nat.zero_mul];exact h
 | x::xs,ys,N,h,hx=>by
  have:=bds_of (xs:=xs) (h.snoc (hx x (by simp))) (fun y hy=>hx y (jn _ hy))
  rw [List.append_assoc] at this
  rw [jr,show N+(xs.length+1)*(m+1)=N+(m+1)+xs.length*(m+1) by rw [Nat.add_mul];omega]
  exact this
theorem sum_bd {m:Nat}:∀ {xs:List Rat},(∀ x∈xs,Bd m x)→Bd (xs.length*(m+1)) xs.sum
 | [],_=>by rw [List.length_nil,Nat.zero_mul];exact Bd.zero
 | x::xs,h=>by
  rw [kj,jr]
  exact ((h x (by simp)).add (sum_bd fun y hy=>h y (jn _ hy))).mono (by rw [Nat.add_mul];omega)
theorem waF_bd {es:List Ent} (h:∀ e∈es,Nb 600 e.2) (n:Str):Bd 600 (waF es n):=by
 unfold waF
 cases e:es.find? fun e=>decide (e.1=n) with
 | none=>exact Bd.zero.mono (by decide)
 | some x=>exact (h x (List.mem_of_find?_eq_some e)).bd
theorem hqF_bd {es:List Ent} {rs:List W7} (h:∀ r∈rs,W7Ok (es.map (·.1)) r) (n:Str):Bd 20 (hqF rs n):=by
 unfold hqF
 cases e:rs.find? fun r=>decide (r.nm=n) with
 | none=>exact Bd.zero.mono (by decide)
 | some x=>
  cases e2:x.hi with
  | none=>show Bd 20 ((x.hi.map vC).getD 0);rw [e2];exact Bd.zero.mono (by decide)
  | some y=>show Bd 20 ((x.hi.map vC).getD 0);rw [e2];exact ((h x (List.mem_of_find?_eq_some e)).hi y e2).2.nb.bd
theorem len8 {m k l:Nat} (h:l≤8) (hm:m≤1000):l*(m+1)<9000:=jf (Nat.mul_le_mul h (show m+1≤1001 by omega)) (by decide)
theorem Pr51.bd {k:Nat} {H:Hp} {d:Addr} {r:aR} (h:Pr51 k H d r) {x:Str} (hx:x∈r.1):Bd k ((vR r).2 x):=(h.n x hx).bd
theorem Pr51.nb {k:Nat} {H:Hp} {d:Addr} {r:aR} (h:Pr51 k H d r) (hk:k≤600):∀ x∈r.1,Nb 600 (r.2 x):=fun x hx=>(h.n x hx).mono hk
structure Rd54 (H:Hp) (t lp lw dq dp dh:Addr) (tp tw:List V) (es:List Ent) (rs:List W7) (rq rp rh:aR):Prop where
 td:Told H t lp lw tp tw es rs
 ok:TOk es rs
 hq:Pr51 44 H dq rq
 hp:Pr51 44 H dp rp
 hh:Pr51 130 H dh rh
 l5:es.length≤5
 l6:rs.length≤6
theorem Rd54.mono {H':Hp} {H:Hp} {t lp lw dq dp dh:Addr} {tp tw:List V} {es:List Ent} {rs:List W7} {rq rp rh:aR} (h:Rd54 H t lp lw dq dp dh tp tw es rs rq rp rh) (s:Same H H'):Rd54 H' t lp lw dq dp dh tp tw es rs rq rp rh:=⟨h.td.mono s,h.ok,h.hq.mono s,h.hp.mono s,h.hh.mono s,h.l5,h.l6⟩
theorem Rd54.wg {H:Hp} {t lp lw dq dp dh:Addr} {tp tw:List V} {es:List Ent} {rs:List W7} {rq rp rh:aR} (h:Rd54 H t lp lw dq dp dh tp tw es rs rq rp rh):Wg52 es rs rp rh:=⟨h.l5,h.l6,h.ok.eok,fun r hr x e=>((h.ok.rok r hr).hi x e).2.nb,fun n=>(c6 h.hp.n n).mono (by decide),c6 h.hh.n⟩
theorem Rd54.sm {H:Hp} {t lp lw dq dp dh:Addr} {tp tw:List V} {es:List Ent} {rs:List W7} {rq rp rh:aR} (h:Rd54 H t lp lw dq dp dh tp tw es rs rq rp rh):Sm51 es rs rq 44:=⟨h.ok.nd,h.l5,h.l6,h.ok.rok,c6 h.hq.n,by decide⟩
theorem Rd54.ok' {H:Hp} {t lp lw dq dp dh:Addr} {tp tw:List V} {es:List Ent} {rs:List W7} {rq rp rh:aR} (h:Rd54 H t lp lw dq dp dh tp tw es rs rq rp rh):WgOk (psT es) (dsT rs) (vR rp) (vR rh) (waF es) (hqF rs):=by
 have b1:∀ x∈(vR rp).1.map fun n=>waF es n*(vR rp).2 n,Bd 644 x:=fun x hx=>by
  obtain ⟨y,hy,rfl⟩:=iZ.mp hx
  exact (waF_bd h.ok.eok y).mul (h.hp.bd hy)
 have b2:∀ x∈(vR rh).1.map fun n=>hqF rs n*(vR rh).2 n,Bd 150 x:=fun x hx=>by
  obtain ⟨y,hy,rfl⟩:=iZ.mp hx
  exact (hqF_bd h.ok.rok y).mul (h.hh.bd hy)
 have l1:=h.hp.l
 have l2:=h.hh.l
 have z1:((vR rp).1.map fun n=>waF es n*(vR rp).2 n).length≤8:=by rw [iM];exact l1
 have z2:((vR rh).1.map fun n=>hqF rs n*(vR rh).2 n).length≤8:=by rw [iM];exact l2
 refine ⟨by rw [iw];exact h.ok.nd,by rw [dsT_n];exact h.ok.nw,by show rp.1.length≤900;omega,by show rh.1.length≤900;omega,fun z hz=>?_,fun d hd x e=>?_,fun y hy=>⟨(waF_bd h.ok.eok y).smr (by decide),(h.hp.bd hy).smr (by decide)⟩,fun y hy=>⟨(hqF_bd h.ok.rok y).smr (by decide),(h.hh.bd hy).smr (by decide)⟩,⟨_,bds_of .nil b1,?_⟩,⟨_,bds_of .nil b2,?_⟩,(sum_bd b1).smr (len8 (k:=0) z1 (by decide)),(sum_bd b2).smr (len8 (k:=0) z2 (by decide))⟩
 ·obtain ⟨e,he,rfl⟩:=iZ.mp hz
  exact (waF_at h.ok.nd he).symm
 ·obtain ⟨r,hr,rfl⟩:=iZ.mp hd
  rw [W7.d_hi] at e
  rw [W7.d_nm,hqF_at h.ok.nw hr,e]
  rfl
 ·rw [Nat.zero_add]
  exact len8 (k:=0) z1 (by decide)
 ·rw [Nat.zero_add]
  exact len8 (k:=0) z2 (by decide)
theorem Rd54.eo {H:Hp} {t lp lw dq dp dh:Addr} {tp tw:List V} {es:List Ent} {rs:List W7} {rq rp rh:aR} {pl:Str} (h:Rd54 H t lp lw dq dp dh tp tw es rs rq rp rh):∀ d∈dsT rs,EOk d (upR (vR rp) pl) (vR rh):=fun d hd=>by
 obtain ⟨r,hr,rfl⟩:=iZ.mp hd
 have o:=h.ok.rok r hr
 obtain ⟨m1,m2,_⟩:=W7.d_sm o
 obtain ⟨g1,g2⟩:=o.g1
 obtain ⟨g3,g4⟩:=o.g2
 have gb:Bd 12 (vC r.gain):=Bd.divInt (by omega) (by omega)
 have A:∀ n,Bd 65 (Rw.A (upR (vR rp) pl) n):=fun n=>by rw [← up_eq (c6 h.hp.n pl).ne,vR_A];exact (c6 (gq h.hp.n ⟨by decide,by decide,by decide⟩) n).bd
 have B:∀ n,Bd 130 (Rw.A (vR rh) n):=fun n=>by rw [vR_A];exact (c6 h.hh.n n).bd
 exact ⟨m1,m2,(A _).smr (by decide),(A _).smr (by decide),(B _).smr (by decide),((A _).add (B _)).smr (by decide),by rw [W7.d_gain o];exact ((A _).mul gb).smr (by decide)⟩
theorem Rd54.so {H:Hp} {t lp lw dq dp dh:Addr} {tp tw:List V} {es:List Ent} {rs:List W7} {rq rp rh:aR} (h:Rd54 H t lp lw dq dp dh tp tw es rs rq rp rh):SumOk (bI (vR rq).1 (vR rq).2) (psT es) (dsT rs):=by
 have S:=h.sm
 have l5:=h.l5
 have l6:=h.l6
 refine ⟨by rw [iw];exact h.ok.nd,by unfold psT;rw [iM];omega,fun d hd=>?_,fun d hd=>?_,fun d hd=>?_,fun d hd=>?_,fun i s=>?_⟩
 ·obtain ⟨r,hr,rfl⟩:=iZ.mp hd
  have o:=h.ok.rok r hr
  rw [W7.d_st,W7.d_go,iw]
  exact ⟨o.st,o.go⟩
 ·obtain ⟨r,hr,rfl⟩:=iZ.mp hd
  rw [W7.d_st,W7.d_go]
  exact (h.ok.rok r hr).ne
 ·obtain ⟨r,hr,rfl⟩:=iZ.mp hd
  obtain ⟨m1,m2,_⟩:=W7.d_sm (h.ok.rok r hr)
  exact ⟨m1,m2⟩
 ·obtain ⟨r,hr,rfl⟩:=iZ.mp hd
  have o:=h.ok.rok r hr
  obtain ⟨g1,g2⟩:=o.g1
  obtain ⟨g3,g4⟩:=o.g2
  have gb:Bd 12 (vC r.gain):=Bd.divInt (by omega) (by omega)
  have A:Bd 44 (bI (vR rq).1 (vR rq).2 r.d.nm):=by
   rw [show bI (vR rq).1 (vR rq).2 r.d.nm=vC (amP rq r.d.nm) from vR_A rq r.d.nm]
   exact (S.nq _).bd
  exact ⟨A.smr (by decide),by rw [W7.d_gain o];exact (A.mul gb).smr (by decide)⟩
 ·have e:(dsT rs).take i=dsT (rs.take (min i rs.length)):=by
   unfold dsT
   rw [← List.map_take]
   congr 1
   rcases Nat.le_total i rs.length with z | z
   ·rw [Nat.min_eq_left z]
   ·rw [Nat.min_eq_right z,List.take_of_length_le z,iS]
  have n:=gc S (min i rs.length) (Nat.min_le_right _ _) s
  have v:=(sumP_val (rq:=rq) (fun n=>(S.nq n).ne) (rs.take (min i rs.length)) (fun r hr=>by
   have hr:=List.mem_of_mem_take hr
   exact ⟨(S.ro r hr).ne,(S.ro r hr).gn.ne,W7.d_gain (S.ro r hr)⟩) s).2
  rw [e]
  rw [show eI (bI (vR rq).1 (vR rq).2) (dsT (rs.take (min i rs.length))) s=eI (Rw.A (vR rq)) (dsT (rs.take (min i rs.length))) s from rfl,← v]
  exact n.bd.smr (jf (Nat.mul_le_mul_right _ (Nat.min_le_right _ _)) (by omega))
theorem Rd54.wu {H:Hp} {t lp lw dq dp dh:Addr} {tp tw:List V} {es:List Ent} {rs:List W7} {rq rp rh:aR} {pl:Str} (h:Rd54 H t lp lw dq dp dh tp tw es rs rq rp rh):Wg52 es rs (mvR rp pl (1,1)) rh:=⟨h.l5,h.l6,h.ok.eok,fun r hr x e=>((h.ok.rok r hr).hi x e).2.nb,fun n=>(c6 (gq h.hp.n ⟨by decide,by decide,by decide⟩) n).mono (by decide),c6 h.hh.n⟩
noncomputable def FraIs (a:Ad) (H0 H:Hp) (v:V) (r:aR):Prop:=∃ p,v=.ref p∧H0 p=none∧DctIs a H (.ref p) (vR r)
theorem DctIs.mono {H H':Hp} {v:V} {r:WRow} (h:DctIs a H v r) (s:Same H H'):DctIs a H' v r:=by
 obtain ⟨d,kvs,e,f,t,n⟩:=h
 exact ⟨d,kvs,e,s _ _ f,t.mono fun _ _ z=>FrIs.mono z s,n⟩
theorem FraIs.mono {H0 H H':Hp} {v:V} {r:aR} (h:FraIs a H0 H v r) (s:Same H H'):FraIs a H0 H' v r:=by
 obtain ⟨p,e,n,d⟩:=h
 exact ⟨p,e,n,d.mono s⟩
theorem FraIs.lst {H0 H:Hp} {v:V} {r:aR} {l:Addr} {xs:List V} {o:HO} (h:FraIs a H0 H v r) (hl:H l=some (.lst xs)):FraIs a H0 (upd H l o) v r:=by
 obtain ⟨p,e,n,d,kvs,e2,f,t,nd⟩:=h
 cases e2
 exact ⟨p,e,n,p,kvs,rfl,by rw [aj (bh f hl (by intro z;cases z))];exact f,t.mono fun _ _ z=>FrIs.ko z (.lst hl),nd⟩
theorem DctIs.da {H:Hp} {d:Addr} {r:aR} (h:DctIs a H (.ref d) (vR r)):DA a H d (vR r):=by
 obtain ⟨d',kvs,e,f⟩:=h
 cases e
 exact ⟨kvs,f⟩
inductive IspTR54 (a:Ad) (vs:List V) (H:Hp) (Q:VK):Prop
 | mk (p t pa pm lp lw dq dp dh:Addr) (tp tw:List V) (es:List Ent) (rs:List W7) (rq rp rh:aR) (pl:Str) (c:Int × Int) (h1:vs=[.ref p,.ref t,.str pl,.ref pa]) (h2:NetAt a H p (psT es) (dsT rs)) (h3:Rd54 H t lp lw dq dp dh tp tw es rs rq rp rh) (h4:H pa=some (.tup [.ref pm,.ref dq,.ref dp,.ref dh])) (h5:H pm=some (.tup [.int c.1,.int c.2])) (h6:Nb 900 c) (h7:pl∈es.map (·.1)) (h8:∀ H',Same H H'→Q (.bl true) H'):IspTR54 a vs H Q
noncomputable def spTR54 (a:Ad):Sp:=fun vs H Q _=>IspTR54 a vs H Q
theorem cF (T:TX K mg a):FnB P w K mg base CX0 "_law_told_right" 13 ["_law_net","_law_told","_law_place","_law_answer"] (spTR54 a):=by
 refine T.d_law_told_right.ok sc_law_told_right (fun vs H Q E h=>?_) (fun f cdv A outer s H vs Q E hr h=>?_)
 ·obtain ⟨_,_,_,_,_,_,_,_,_,_,_,_,_,_,_,_,_,_,rfl,_⟩:=h
  rfl
 ·obtain ⟨p,t,pa,pm,lp,lw,dq,dp,dh,tp,tw,es,rs,rq,rp,rh,pl,c,rfl,hn,R,hpa,hpm,nc,hpl,k⟩:=h
  refine ⟨_,(ag (ar (i:=4) sc_law_told_right.nd rfl (Or.inl rfl) (bT (mk2 T) hr T.mg_Fraction ak (aa (ap al (ap al (pv 3) ac (fun _ _=>rfl)) ac (fun _ _=>rfl)) (aa (ap al (ap al (pv 3) ac (fun _ _=>rfl)) ac (fun _ _=>rfl)) ae))))
   (ag (gj (fS (xs:=["_law_some"]) (rest:=[]) rfl (pi_tup (iy sl_tup (pv 3) (po_some ac) po_none))
   (fun pins fp C' s' H'=>(ax (i:=0) (show (["_law_some"]:List Str).Nodup by decide +kernel) rfl (Or.inl rfl))) (fun pins fp C' s' H'=>cY)
   (fun pins fp C' s' H'=>(av (fU T) hr ak (aa (pv 0) ae)))
   (Clos.none (by decide +kernel) (by decide +kernel)) (Reads.many (ys:=[]) (js:=[]) True.intro)) (pg_lst rfl (aD (ax (i:=5) sc_law_told_right.nd rfl (Or.inl rfl)) (aD (ax (i:=6) sc_law_told_right.nd rfl (Or.inl rfl)) (aD (ax (i:=7) sc_law_told_right.nd rfl (Or.inl rfl)) bZ)))))
   (ag (ar (i:=8) sc_law_told_right.nd rfl (Or.inl rfl) (av (ok_shows_most T) hr ak (aa (pv 0) (aa (pv 2) (aa (aF (aa ek (aa (pv 4) (aa (pv 5) (aa (pv 6) (aa (pv 7) ae)))))) ae)))))
   (ag (aG (PW.pt (g7 (eN (cU (aU (gL (c:=.type "bool")) (by rfl) T.z_isinstance jw (aa (pv 8) (aa (pe_bltn (v:=.ty "bool") (by rfl) T.z_bool PyProof.Rows.boot_bool rfl) ae))))) (fL (aw op_ne (pv 8) (av (ok_law_amount T) hr ak (aa (pv 1) (aa (pv 2) (aa (am op_catT (aF (aa ek ae)) (pv 3)) ae)))) (az _))))) (ah (aq b9)) ay)
   (ah (aq (aU (call_allK (K:=K) rfl hr.hd) (by rfl) T.z_all PyProof.Rows.boot_all (aa (fS (xs:=["_law_one","_law_other"]) (rest:=[]) rfl (pi_zipT (by rfl) T.z_zip (aa (aF (aa (pv 5) (aa (pv 6) (aa (pv 7) ae)))) (aa (iy sl_tup (pv 3) (po_some ac) po_none) ae)))
   (fun pins fp C' s' H'=>by exact (pg_tupK (K:=K) (n:=2) rfl rfl (aD (ax (i:=0) (show (["_law_one","_law_other"]:List Str).Nodup by decide +kernel) rfl (Or.inl rfl)) (aD (ax (i:=1) (show (["_law_one","_law_other"]:List Str).Nodup by decide +kernel) rfl (Or.inl rfl)) bZ)))) (fun pins fp C' s' H'=>by exact cY)
   (fun pins fp C' s' H'=>by exact (av (ok_law_stays T) hr ak (aa (pv 0) (aa (pv 1) ae))))
   (Clos.none (by decide +kernel) (by decide +kernel)) (Reads.many (ys:=[]) (js:=[]) True.intro)) ae)))))))),?_⟩
  try dsimp only [aM,Cx.nox,Cx.wish]
  have l1:=R.hq.l
  have l2:=R.hp.l
  have l3:=R.hh.l
  have sqa:=SqT.of (K:=K) hpa
  have sqm:=SqT.of (K:=K) hpm
  refine ⟨_,rfl,pa,_,_,_,rfl,rfl,sqa,rfl,pm,_,_,_,rfl,rfl,sqm,rfl,_,rfl,pa,_,_,_,rfl,rfl,sqa,rfl,pm,_,_,_,rfl,rfl,sqm,rfl,c.1,c.2,rfl,by have:=nc.b;omega,nc.sm.2,fun fm H0 nfm s0 ffm=>?_⟩
  have hpa0:=s0 _ _ hpa
  refine ⟨_,rfl,_,rfl,pa,_,rfl,SqT.of hpa0,?nw,fun pb npb=>?_⟩
  case nw=>
   rintro ⟨z,_⟩
   exact absurd z (show HT.sIx 4 0 (some 1)≠0 by decide)
  rw [show cutV [V.ref pm,.ref dq,.ref dp,.ref dh] (some 1) none=[V.ref dq,.ref dp,.ref dh] from rfl]
  have sb:=ai (o:=.tup [V.ref dq,.ref dp,.ref dh]) npb
  have hpb:upd H0 pb (.tup [V.ref dq,.ref dp,.ref dh]) pb=some (.tup [V.ref dq,.ref dp,.ref dh]):=ad
  have s1:=s0.trans sb
  generalize upd H0 pb (.tup [V.ref dq,.ref dp,.ref dh])=H1 at s1 sb hpb ⊢
  have R1:=R.mono s1
  refine ⟨pb,rfl,⟨_,SqT.of hpb⟩,fun lf nlf=>?_⟩
  have inR:∀ (i:Nat) (x:V) (r:aR),[V.ref dq,V.ref dp,V.ref dh][i]?=some x→[rq,rp,rh][i]?=some r→DcpIs H1 x r∧(∀ n∈r.1,Nb 600 (r.2 n))∧r.1.length≤8:=fun i x r h1 h2=>by
   rcases i with _ | _ | _ | i
   ·cases h1;cases h2;exact ⟨R1.hq.h,R.hq.nb (by decide),l1⟩
   ·cases h1;cases h2;exact ⟨R1.hp.h,R.hp.nb (by decide),l2⟩
   ·cases h1;cases h2;exact ⟨R1.hh.h,R.hh.nb (by decide),l3⟩
   ·simp at h1
  refine compG_tup (K:=K) (a:=pb) (xs:=[.ref dq,.ref dp,.ref dh]) (fun i H2=>i≤3∧Same H1 H2∧∃ ts,H2 lf=some (.lst ts)∧ts.Nodup∧RowAt (FraIs a H1) H2 ts ([rq,rp,rh].take i)) ⟨iY _,ai nlf,[],ad,List.nodup_nil,RowAt.nil⟩ (fun i H2 ⟨_,s2,_⟩=>SqT.of (s2 _ _ hpb)) ?_ ?_
  ·rintro i x H2 hx ⟨_,s2,ts,h2,ndt,hv⟩
   have hi:i<3:=(iL.mp hx).1
   obtain ⟨r,er⟩:∃ r,[rq,rp,rh][i]?=some r:=⟨_,iO (by exact hi)⟩
   obtain ⟨hD,nD,lD⟩:=inR i x r hx er
   refine g1 ⟨⟨[_],rfl,rfl⟩,yes ?_⟩
   refine ⟨_,rfl,x,r,rfl,hD.mono s2,nD,by omega,fun d3 H3 nd3 s3 hd3=>?_⟩
   have h3:=s3 _ _ h2
   have lts:ts.length≤3:=by rw [hv.1,i6];exact Nat.min_le_right _ _
   refine ⟨_,h3,aE (by omega),dN hi ⟨hi,aH nlf (s2.trans s3),_,ad,List.nodup_append.mpr ⟨ndt,by simp,fun v hvv y hy=>?_⟩,?_⟩⟩
   ·rw [jH.mp hy]
    intro z
    obtain ⟨j,hj⟩:=List.getElem?_of_mem hvv
    obtain ⟨_,_,p',e,_,d',kv',e2,f,_⟩:=hv.get hj
    rw [z] at e
    cases e
    cases e2
    rw [nd3] at f
    cases f
   ·rw [iU,er,iV]
    exact RowAt.snoc ((hv.mono fun v x z=>FraIs.mono z s3).mono fun v x z=>FraIs.lst z h3) (FraIs.lst ⟨d3,rfl,s2.free nd3,hd3⟩ h3)
  rintro H4 ⟨_,s4,ts,h4,ndt,hv4⟩
  have lts:ts.length=3:=hv4.1
  match ts,lts,ndt,hv4,h4 with
  | [v1,v2,v3],_,ndt,hv4,h4=>
  obtain ⟨d1,rfl,nd1,hd1⟩:=hv4.2 0 v1 rq rfl rfl
  obtain ⟨d2,rfl,nd2,hd2⟩:=hv4.2 1 v2 rp rfl rfl
  obtain ⟨d3,rfl,nd3,hd3⟩:=hv4.2 2 v3 rh rfl rfl
  have n23:d2≠d3:=fun z=>by rw [z] at ndt;simp at ndt
  refine ⟨lf,_,rfl,SqL.of h4,rfl,_,_,rfl,_,_,rfl,_,_,rfl,rfl,?_⟩
  have s14:=s1.trans s4
  have R4:=R.mono s14
  obtain ⟨d',kvs,ed,hk1,tb1,nk1⟩:=id hd1
  cases ed
  have f1:∀ {x:Addr},H1 x=none→H x=none:=fun h=>s1.free h
  have L4:GrIn a H4 p d1 d2 d3 fm pl (psT es) (dsT rs) kvs (vR rq) (vR rp) (vR rh) (waF es) (hqF rs) (vC c):=by
   have l5:=R.l5
   have l6:=R.l6
   have W:=R.ok'
   have b1:∀ x∈(vR rp).1.map fun n=>waF es n*(vR rp).2 n,Bd 644 x:=fun x hx=>by
    obtain ⟨y,hy,rfl⟩:=iZ.mp hx
    exact (waF_bd R.ok.eok y).mul (R.hp.bd hy)
   have b2:∀ x∈(vR rh).1.map fun n=>hqF rs n*(vR rh).2 n,Bd 150 x:=fun x hx=>by
    obtain ⟨y,hy,rfl⟩:=iZ.mp hx
    exact (hqF_bd R.ok.rok y).mul (R.hh.bd hy)
   have so:=R.so
   refine ⟨⟨⟨H,hn,s14,f1 nd1⟩,by rw [dsT_n];exact R.ok.nw,by unfold dsT;rw [iM];omega,hk1,tb1,nk1,by show rq.1.length≤100;omega,by unfold psT;rw [iM];omega,so,fun y hy x e=>?_,fun z hz=>?_⟩,⟨H,hn,s14,f1 nd2⟩,⟨H,hn,s14,f1 nd3⟩,hd2.da,hd3.da,n23,W,R.eo,by rw [iw];exact hpl,?_,(ffm.mono sb).mono s4,nc.bd.smr (by decide),?_,?_⟩
   ·obtain ⟨r,hr,rfl⟩:=iZ.mp hy
    rw [W7.d_hi] at e
    obtain ⟨c,ec,rfl⟩:=Option.map_eq_some_iff.mp e
    exact ((R.ok.rok r hr).hi c ec).2.nb.bd.smr (by decide)
   ·obtain ⟨e,he,rfl⟩:=iZ.mp hz
    exact (R.ok.eok e he).bd.smr (by decide)
   ·rw [vR_A]
    exact (c6 R.hp.n pl).bd.smr (by decide)
   ·have:=so.sf (dsT rs).length pl
    rw [iS] at this
    exact this
   ·unfold fK
    have y1:=(sum_bd b1).mono (show _≤8*645 from Nat.mul_le_mul_right _ (by rw [iM];exact l2))
    have y2:=(sum_bd b2).mono (show _≤8*151 from Nat.mul_le_mul_right _ (by rw [iM];exact l3))
    exact (y1.sub y2).smr (by decide)
  obtain ⟨bb,hbb⟩:∃ b,b=mostB (psT es) (dsT rs) (vR rq) (vR rp) (vR rh) (waF es) (hqF rs) pl (vC c):=⟨_,rfl⟩
  refine ⟨_,rfl,_,rfl,_,rfl,_,rfl,_,rfl,_,rfl,by show 5≤sizeLine;decide,fun ta nta=>?_⟩
  have s5:=ai (o:=.tup [.str "most",.ref fm,.ref d1,.ref d2,.ref d3]) nta
  have hta:upd H4 ta (.tup [.str "most",.ref fm,.ref d1,.ref d2,.ref d3]) ta=some (.tup [.str "most",.ref fm,.ref d1,.ref d2,.ref d3]):=ad
  generalize upd H4 ta (.tup [.str "most",.ref fm,.ref d1,.ref d2,.ref d3])=H5 at s5 hta ⊢
  refine ⟨p,ta,d1,d2,d3,fm,pl,psT es,dsT rs,kvs,vR rq,vR rp,vR rh,waF es,hqF rs,vC c,rfl,hta,L4.mono s5,fun H6 s6=>?_⟩
  rw [← hbb]
  have s46:=s5.trans s6
  have s06:=s14.trans s46
  refine ⟨_,rfl,_,_,_,_,rfl,(fun u h=>h),TyOf.bl _,T.k_bool_bool,_,rfl,iteF ?_⟩
  refine ⟨_,rfl,_,rfl,_,rfl,by show 1≤sizeLine;decide,fun tm ntm=>?_⟩
  have sa1:=ai (o:=.tup [.str "most"]) ntm
  have htm:upd H6 tm (.tup [.str "most"]) tm=some (.tup [.str "most"]):=ad
  generalize upd H6 tm (.tup [.str "most"])=Ha at sa1 htm ⊢
  have s0a:=s06.trans sa1
  refine ⟨_,rfl,tm,pa,_,_,rfl,rfl,SqT.of htm,SqT.of (s0a _ _ hpa),(by intro z;cases z),by show 1+4≤sizeLine;decide,(by intro z;cases z),fun _ pn npn=>?_⟩
  rw [show [V.str "most"]++[V.ref pm,.ref dq,.ref dp,.ref dh]=[V.str "most",.ref pm,.ref dq,.ref dp,.ref dh] from rfl]
  have sa2:=ai (o:=.tup [V.str "most",.ref pm,.ref dq,.ref dp,.ref dh]) npn
  have hpn:upd Ha pn (.tup [V.str "most",.ref pm,.ref dq,.ref dp,.ref dh]) pn=some (.tup [V.str "most",.ref pm,.ref dq,.ref dp,.ref dh]):=ad
  generalize upd Ha pn (.tup [V.str "most",.ref pm,.ref dq,.ref dp,.ref dh])=Hb at sa2 hpn ⊢
  have s0b:=s0a.trans sa2
  have Rb:=R.mono s0b
  refine ⟨t,pn,lp,lw,pm,dq,dp,dh,tp,tw,es,rs,rq,rp,rh,44,pl,c,rfl,hpn,Rb.td,R.ok,hpl,s0b _ _ hpm,nc,Rb.hq.h,Rb.hp.h,Rb.hh.h,by omega,R.sm,R.wg,R.wu,fun H7 s7=>?_⟩
  rw [← hbb]
  refine ⟨rfl,_,rfl,eQ (by rw [iW rfl];rfl) ?_⟩
  have s47:=s46.trans (sa1.trans (sa2.trans s7))
  refine ⟨_,rfl,_,rfl,_,rfl,by show 3≤sizeLine;decide,fun tz ntz=>?_⟩
  have s8':=ai (o:=.tup [.ref d1,.ref d2,.ref d3]) ntz
  have h8':upd H7 tz (.tup [.ref d1,.ref d2,.ref d3]) tz=some (.tup [.ref d1,.ref d2,.ref d3]):=ad
  generalize upd H7 tz (.tup [.ref d1,.ref d2,.ref d3])=Hc at s8' h8' ⊢
  have s4c:=s47.trans s8'
  have hpac:=(s14.trans s4c) _ _ hpa
  refine ⟨_,rfl,_,rfl,pa,_,rfl,SqT.of hpac,?nw2,fun pc npc=>?_⟩
  case nw2=>
   rintro ⟨z,_⟩
   exact absurd z (show HT.sIx 4 0 (some 1)≠0 by decide)
  rw [show cutV [V.ref pm,.ref dq,.ref dp,.ref dh] (some 1) none=[V.ref dq,.ref dp,.ref dh] from rfl]
  have sc:=ai (o:=.tup [V.ref dq,.ref dp,.ref dh]) npc
  have h8b:upd Hc pc (.tup [V.ref dq,.ref dp,.ref dh]) pc=some (.tup [V.ref dq,.ref dp,.ref dh]):=ad
  have h8:=sc _ _ h8'
  generalize upd Hc pc (.tup [V.ref dq,.ref dp,.ref dh])=H8 at sc h8b h8 ⊢
  have s48:=s4c.trans sc
  have R8:=R4.mono s48
  have g1':=hd1.mono s48
  have g2':=hd2.mono s48
  have g3':=hd3.mono s48
  have s08:=s14.trans s48
  clear L4
  refine ⟨tz,pc,_,_,rfl,SqT.of h8,SqT.of h8b,fun q nq=>?_⟩
  refine compG_zipT (K:=K) (fun j H9=>j≤3∧Same H8 H9∧H9 q=some (.lst ((List.replicate j true).map V.bl))) ⟨iY _,ai nq,ad⟩ (fun j H9 ⟨_,s9,_⟩=>⟨SqT.of (s9 _ _ h8),SqT.of (s9 _ _ h8b)⟩) ?_ ?_
  ·rintro j u v t2 H9 hu hv nt2 ⟨j3,s9,h9⟩ zs hzs
   have hj:j<3:=by have:=(iL.mp hu).1;exact this
   obtain ⟨r,hX,hr,nr,lr⟩:∃ r:aR,DctIs a H8 u (vR r)∧DcpIs H8 v r∧(∀ n∈r.1,Nb 600 (r.2 n))∧r.1.length≤8:=by
    match j,hu,hv with
    | 0,hu,hv=>cases hu;cases hv;exact ⟨_,g1',R8.hq.h,R.hq.nb (by decide),l1⟩
    | 1,hu,hv=>cases hu;cases hv;exact ⟨_,g2',R8.hp.h,R.hp.nb (by decide),l2⟩
    | 2,hu,hv=>cases hu;cases hv;exact ⟨_,g3',R8.hh.h,R.hh.nb (by decide),l3⟩
    | j+3,hu,hv=>simp at hu
   have s10:=s9.trans (ai (o:=.tup [u,v]) nt2)
   have h10:=ai (o:=.tup [u,v]) nt2 _ _ h9
   have ht2:upd H9 t2 (.tup [u,v]) t2=some (.tup [u,v]):=ad
   generalize upd H9 t2 (.tup [u,v])=H10 at s10 h10 ht2 ⊢
   match zs,hzs with
   | [w1,w2],_=>
    refine ⟨t2,[u,v],rfl,SqT.of ht2,rfl,u,[v],rfl,⟨v,[],rfl,⟨rfl,⟨[_,_],rfl,rfl⟩,yes ?_⟩⟩⟩
    refine ⟨_,rfl,_,rfl,u,v,r,rfl,hX.mono s10,hr.mono s10,nr,by omega,fun H11 s11=>?_⟩
    have h11:=s11 _ _ h10
    refine ⟨_,h11,aE (by rw [iM,jV];omega),dN (by show j<min 3 3;omega) ⟨hj,aH nq (s10.trans s11),?_⟩⟩
    rw [ad,List.replicate_succ',i5]
    rfl
  ·rintro H9 ⟨_,s9,h9⟩
   refine ⟨q,_,rfl,SqL.of h9,?_⟩
   exact k _ (s08.trans s9)
inductive IspRef54 (a:Ad) (vs:List V) (H:Hp) (Q:VK):Prop
 | mk (p t pa pm lp lw dq dp dh:Addr) (tp tw:List V) (es:List Ent) (rs:List W7) (rq rp rh:aR) (nm:Str) (c:Int × Int) (h1:vs=[.ref p,.str nm,.ref pa]) (h2:NetAt a H p (psT es) (dsT rs)) (h3:Rd54 H t lp lw dq dp dh tp tw es rs rq rp rh) (h4:H pa=some (.tup [.ref pm,.ref dq,.ref dp,.ref dh])) (h5:H pm=some (.tup [.int c.1,.int c.2])) (h6:Nb 900 c) (h7:nm ∉ es.map (·.1)) (h8:nm.length≤1000) (h9:∀ q H',Same H H'→H' q=some (.tup [.str nm,.bl true,.bl false])→Q (.ref q) H'):IspRef54 a vs H Q
noncomputable def spRef54 (a:Ad):Sp:=fun vs H Q _=>IspRef54 a vs H Q
theorem ok_law_refused (T:TX K mg a):FnB P w K mg base CX0 "_law_refused" 13 ["_law_net","_law_strange","_law_answer"] (spRef54 a):=by
 refine T.d_law_refused.ok sc_law_refused (fun vs H Q E h=>?_) (fun f cdv A outer s H vs Q E hr h=>?_)
 ·obtain ⟨_,_,_,_,_,_,_,_,_,_,_,_,_,_,_,_,_,_,rfl,_⟩:=h
  rfl
 ·obtain ⟨p,t,pa,pm,lp,lw,dq,dp,dh,tp,tw,es,rs,rq,rp,rh,nm,c,rfl,hn,R,hpa,hpm,nc,nin,ln,k⟩:=h
  refine ⟨_,(ag (ar (i:=3) sc_law_refused.nd rfl (Or.inl rfl) (bT (mk2 T) hr T.mg_Fraction ak (aa (ap al (ap al (pv 2) ac (fun _ _=>rfl)) ac (fun _ _=>rfl)) (aa (ap al (ap al (pv 2) ac (fun _ _=>rfl)) ac (fun _ _=>rfl)) ae))))
   (ag (gj (fS (xs:=["_law_some"]) (rest:=[]) rfl (pi_tup (iy sl_tup (pv 2) (po_some ac) po_none))
   (fun pins fp C' s' H'=>(ax (i:=0) (show (["_law_some"]:List Str).Nodup by decide +kernel) rfl (Or.inl rfl))) (fun pins fp C' s' H'=>cY)
   (fun pins fp C' s' H'=>(av (fU T) hr ak (aa (pv 0) ae)))
   (Clos.none (by decide +kernel) (by decide +kernel)) (Reads.many (ys:=[]) (js:=[]) True.intro)) (pg_lst rfl (aD (ax (i:=4) sc_law_refused.nd rfl (Or.inl rfl)) (aD (ax (i:=5) sc_law_refused.nd rfl (Or.inl rfl)) (aD (ax (i:=6) sc_law_refused.nd rfl (Or.inl rfl)) bZ)))))
   (ag (ar (i:=7) sc_law_refused.nd rfl (Or.inl rfl) (aF (aa ek (aa b9 (aa b9 ae)))))
   (ag (ps_try (pssx_one (psx_expr (px_fn (ok_shows_mostX T) hr (aa (pv 0) (aa (pv 1) (aa (aF (aa ek (aa (pv 3) (aa (pv 4) (aa (pv 5) (aa (pv 6) ae)))))) ae)))))) (ph_as (i:=8) (by rfl) T.mg_NoPlace ⟨T.ca1_NoPlace,T.ca2_NoPlace,T.ca3_NoPlace⟩ sc_law_refused.nd rfl rfl (fun x=>(ah (ar (i:=7) sc_law_refused.nd rfl (Or.inl rfl) (aF (aa (pe_xfldK (K:=K) rfl (pv 8) rfl) (aa (aU (call_isXDK (K:=K) (c:=.ref a.GainError) rfl) (by rfl) T.z_isinstance jw (aa (pv 8) (aa (iz (v:=.ref a.GainError) (by rfl) T.mg_GainError rfl) ae))) (aa (aU (call_isXDK (K:=K) (c:=.ref a.NoWay) rfl) (by rfl) T.z_isinstance jw (aa (pv 8) (aa (iz (v:=.ref a.NoWay) (by rfl) T.mg_NoWay rfl) ae))) ae))))))) ph_never))
   (ah (aq (pv 7))))))),?_⟩
  try dsimp only [aM,Cx.nox,Cx.wish]
  have l1:=R.hq.l
  have l2:=R.hp.l
  have l3:=R.hh.l
  have sqa:=SqT.of (K:=K) hpa
  have sqm:=SqT.of (K:=K) hpm
  refine ⟨_,rfl,pa,_,_,_,rfl,rfl,sqa,rfl,pm,_,_,_,rfl,rfl,sqm,rfl,_,rfl,pa,_,_,_,rfl,rfl,sqa,rfl,pm,_,_,_,rfl,rfl,sqm,rfl,c.1,c.2,rfl,by have:=nc.b;omega,nc.sm.2,fun fm H0 nfm s0 ffm=>?_⟩
  have hpa0:=s0 _ _ hpa
  refine ⟨_,rfl,_,rfl,pa,_,rfl,SqT.of hpa0,?nw,fun pb npb=>?_⟩
  case nw=>
   rintro ⟨z,_⟩
   exact absurd z (show HT.sIx 4 0 (some 1)≠0 by decide)
  rw [show cutV [V.ref pm,.ref dq,.ref dp,.ref dh] (some 1) none=[V.ref dq,.ref dp,.ref dh] from rfl]
  have sb:=ai (o:=.tup [V.ref dq,.ref dp,.ref dh]) npb
  have hpb:upd H0 pb (.tup [V.ref dq,.ref dp,.ref dh]) pb=some (.tup [V.ref dq,.ref dp,.ref dh]):=ad
  have s1:=s0.trans sb
  generalize upd H0 pb (.tup [V.ref dq,.ref dp,.ref dh])=H1 at s1 sb hpb ⊢
  have R1:=R.mono s1
  refine ⟨pb,rfl,⟨_,SqT.of hpb⟩,fun lf nlf=>?_⟩
  have inR:∀ (i:Nat) (x:V) (r:aR),[V.ref dq,V.ref dp,V.ref dh][i]?=some x→[rq,rp,rh][i]?=some r→DcpIs H1 x r∧(∀ n∈r.1,Nb 600 (r.2 n))∧r.1.length≤8:=fun i x r h1 h2=>by
   rcases i with _ | _ | _ | i
   ·cases h1;cases h2;exact ⟨R1.hq.h,R.hq.nb (by decide),l1⟩
   ·cases h1;cases h2;exact ⟨R1.hp.h,R.hp.nb (by decide),l2⟩
   ·cases h1;cases h2;exact ⟨R1.hh.h,R.hh.nb (by decide),l3⟩
   ·simp at h1
  refine compG_tup (K:=K) (a:=pb) (xs:=[.ref dq,.ref dp,.ref dh]) (fun i H2=>i≤3∧Same H1 H2∧∃ ts,H2 lf=some (.lst ts)∧ts.Nodup∧RowAt (FraIs a H1) H2 ts ([rq,rp,rh].take i)) ⟨iY _,ai nlf,[],ad,List.nodup_nil,RowAt.nil⟩ (fun i H2 ⟨_,s2,_⟩=>SqT.of (s2 _ _ hpb)) ?_ ?_
  ·rintro i x H2 hx ⟨_,s2,ts,h2,ndt,hv⟩
   have hi:i<3:=(iL.mp hx).1
   obtain ⟨r,er⟩:∃ r,[rq,rp,rh][i]?=some r:=⟨_,iO (by exact hi)⟩
   obtain ⟨hD,nD,lD⟩:=inR i x r hx er
   refine g1 ⟨⟨[_],rfl,rfl⟩,yes ?_⟩
   refine ⟨_,rfl,x,r,rfl,hD.mono s2,nD,by omega,fun d3 H3 nd3 s3 hd3=>?_⟩
   have h3:=s3 _ _ h2
   have lts:ts.length≤3:=by rw [hv.1,i6];exact Nat.min_le_right _ _
   refine ⟨_,h3,aE (by omega),dN hi ⟨hi,aH nlf (s2.trans s3),_,ad,List.nodup_append.mpr ⟨ndt,by simp,fun v hvv y hy=>?_⟩,?_⟩⟩
   ·rw [jH.mp hy]
    intro z
    obtain ⟨j,hj⟩:=List.getElem?_of_mem hvv
    obtain ⟨_,_,p',e,_,d',kv',e2,f,_⟩:=hv.get hj
    rw [z] at e
    cases e
    cases e2
    rw [nd3] at f
    cases f
   ·rw [iU,er,iV]
    exact RowAt.snoc ((hv.mono fun v x z=>FraIs.mono z s3).mono fun v x z=>FraIs.lst z h3) (FraIs.lst ⟨d3,rfl,s2.free nd3,hd3⟩ h3)
  rintro H4 ⟨_,s4,ts,h4,ndt,hv4⟩
  have lts:ts.length=3:=hv4.1
  match ts,lts,ndt,hv4,h4 with
  | [v1,v2,v3],_,ndt,hv4,h4=>
  obtain ⟨d1,rfl,nd1,hd1⟩:=hv4.2 0 v1 rq rfl rfl
  obtain ⟨d2,rfl,nd2,hd2⟩:=hv4.2 1 v2 rp rfl rfl
  obtain ⟨d3,rfl,nd3,hd3⟩:=hv4.2 2 v3 rh rfl rfl
  have n23:d2≠d3:=fun z=>by rw [z] at ndt;simp at ndt
  refine ⟨lf,_,rfl,SqL.of h4,rfl,_,_,rfl,_,_,rfl,_,_,rfl,rfl,?_⟩
  have s14:=s1.trans s4
  refine ⟨by show 3≤sizeLine;decide,fun g0 ng0=>?_⟩
  have s5':=ai (o:=.tup [.str "",.bl false,.bl false]) ng0
  generalize upd H4 g0 (.tup [.str "",.bl false,.bl false])=H5 at s5' ⊢
  refine ⟨_,rfl,_,rfl,_,rfl,_,rfl,_,rfl,_,rfl,by show 5≤sizeLine;decide,fun ta nta=>?_⟩
  have s6':=ai (o:=.tup [.str "most",.ref fm,.ref d1,.ref d2,.ref d3]) nta
  generalize upd H5 ta (.tup [.str "most",.ref fm,.ref d1,.ref d2,.ref d3])=H6 at s6' ⊢
  have s06:=s14.trans (s5'.trans s6')
  refine ⟨p,ta,nm,psT es,dsT rs,rfl,hn.mono s06,by rw [iw];exact nin,ln,fun H7 dx s7 hdx=>?_⟩
  refine ⟨a.NoPlace,true,rfl,T.su_NoPlace_NoPlace,iteT ?_⟩
  intro x nx
  have s8:=ai (o:=XO x a.NoPlace (some dx)) nx
  have hx:upd H7 x (XO x a.NoPlace (some dx)) x=some (XO x a.NoPlace (some dx)):=ad
  generalize upd H7 x (XO x a.NoPlace (some dx))=H8 at s8 hx ⊢
  refine ⟨_,rfl,x,a.NoPlace,dx,_,.str nm,rfl,hx,s8 _ _ hdx,T.exa_NoPlace,T.hd_NoPlace,T.na_NoPlace_place,rfl,_,rfl,x,a.NoPlace,_,true,_,rfl,(fun u h=>h),⟨dx,hx,s8 _ _ hdx⟩,T.exa_NoPlace,T.k_NoPlace_GainError,_,rfl,x,a.NoPlace,_,false,_,rfl,(fun u h=>h),⟨dx,hx,s8 _ _ hdx⟩,T.exa_NoPlace,T.k_NoPlace_NoWay,by show 3≤sizeLine;decide,fun tf ntf=>?_⟩
  have s9:=ai (o:=.tup [.str nm,.bl true,.bl false]) ntf
  exact ⟨_,rfl,k tf _ (s06.trans (s7.trans (s8.trans s9))) ad⟩
inductive IspSize (K:PySem.W.Frag) (vs:List V) (H:Hp) (Q:VK):Prop
 | mk (l:Addr) (ns:List Int) (h1:vs=[.ref l]) (h2:SqL K H l (ns.map V.int)) (h3:∀ (n m:Nat) p,H p=none→1≤n→n≤4→m≤5→(n<2→m=0)→Q (.ref p) (upd H p (.tup [.int n,.int m]))):IspSize K vs H Q
noncomputable def spSize (K:PySem.W.Frag):Sp:=fun vs H Q _=>IspSize K vs H Q
theorem ok_law_size (T:TX K mg a):FnB P w K mg base CX0 "_law_size" 2 ["_law_script"] (spSize K):=by
 refine T.d_law_size.ok sc_law_size (fun vs H Q E h=>?_) (fun f cdv A outer s H vs Q E hr h=>?_)
 ·obtain ⟨_,_,rfl,_⟩:=h
  rfl
 ·obtain ⟨l,ns,rfl,hS,k⟩:=h
  refine ⟨_,(ag (ar (i:=1) sc_law_size.nd rfl (Or.inl rfl) (am aS ac (am aI (av (aA T) hr ak (aa (pv 0) (aa ac ae))) ac)))
   (ag (ar (i:=2) sc_law_size.nd rfl (Or.inl rfl) ac)
   (aP (aG (aw gw (pv 1) ac (az _)) (ah (ar (i:=2) sc_law_size.nd rfl (Or.inl rfl) (am aI (am aO (av (aA T) hr ak (aa (pv 0) (aa ac ae))) ac) ac))) ay)
   (ah (aq (aF (aa (pv 1) (aa (pv 2) ae)))))))),?_⟩
  try dsimp only [aM,Cx.nox,Cx.wish]
  refine ⟨_,rfl,l,ns,0,rfl,hS,by decide,_,_,rfl,rfl,by show (0:Int)<4;decide,_,_,rfl,rfl,?_⟩
  obtain ⟨a0,a1⟩:=aN (aL ns 0) (show (0:Int)<4 by decide)
  obtain ⟨b0,b1⟩:=aN (aL ns 0 / 4) (show (0:Int)<6 by decide)
  obtain ⟨n,hn⟩:=ju (show 0≤1+aL ns 0 % 4 by omega)
  obtain ⟨m,hm⟩:=ju b0
  refine ⟨fun σ' H'=>∃ m:Nat,σ'=[some (.ref l),some (.int n),some (.int m)]∧H'=H∧m≤5∧(n<2→m=0),?_,?_⟩
  ·refine ⟨_,rfl,_,_,rfl,rfl,_,rfl,ifB (fun gt=>?_) (fun le=>?_)⟩
   ·have gt:1+aL ns 0 % 4 > 1:=gt
    refine ⟨_,rfl,l,ns,0,rfl,hS,by decide,_,_,rfl,rfl,⟨by decide,by decide⟩,_,_,rfl,rfl,by show (0:Int)<6;decide,m,?_,rfl,by omega,fun z=>by omega⟩
    show [some (V.ref l),some (.int (1+aL ns 0 % 4)),some (.int (aL ns 0 / 4 % 6))]=_
    rw [hn,hm]
   ·have le:¬ 1+aL ns 0 % 4 > 1:=le
    refine ⟨0,?_,rfl,by decide,fun _=>rfl⟩
    show [some (V.ref l),some (.int (1+aL ns 0 % 4)),some (.int 0)]=_
    rw [hn]
    rfl
  rintro σ' H' ⟨m,rfl,rfl,m5,nm⟩
  exact ⟨_,rfl,_,rfl,by show 2≤sizeLine;decide,fun p np=>k n m p np (by omega) (by omega) m5 nm⟩
theorem nameA_len (k c:Int):(cb k c).length≤50:=by
 obtain ⟨q1,q2⟩:=aN (c / 37) (show (0:Int)<4 by decide)
 obtain ⟨r1,r2⟩:=aN (c / 5) (show (0:Int)<9 by decide)
 obtain ⟨v1,v2⟩:=aN (c / 7) (show (0:Int)<3 by decide)
 have d1:0≤c / 5 % 9 / 8∧c / 5 % 9 / 8≤1:=by omega
 have e1:0≤c / 37 % 4*(1+c / 5 % 9 / 8*12)∧c / 37 % 4*(1+c / 5 % 9 / 8*12)≤39:=by
  have g1:0≤1+c / 5 % 9 / 8*12:=by omega
  have g2:1+c / 5 % 9 / 8*12≤13:=by omega
  refine ⟨Int.mul_nonneg q1 g1,Int.le_trans (Int.mul_le_mul (show c / 37 % 4≤3 by omega) g2 g1 (by decide)) (by decide)⟩
 have l1:(Txt.mul (⟨#[sgAt (c % 37)]⟩:Str) (c / 37 % 4*(1+c / 5 % 9 / 8*12))).length≤39:=by rw [len_cps,mul_cps,jV];omega
 have l2:(Txt.mul (⟨#[sgAt (c / 11 % 37)]⟩:Str) (c / 7 % 3)).length≤3:=by rw [len_cps,mul_cps,jV];omega
 unfold cb
 rw [PySem.strLen_append,PySem.strLen_append,one_len]
 omega
structure Bt (i:Int):Prop where
 le:Builtin.Int.intBits i≤2 ^ 20
inductive IspLaw (K:PySem.W.Frag) (vs:List V) (H:Hp) (Q:VK):Prop
 | mk (l:Addr) (ns:List Int) (h1:vs=[.ref l]) (h2:SqL K H l (ns.map V.int)) (h3:ns.length≤63) (h4:(∀ i∈ns,Bt i)) (h5:∀ H',Q (.bl true) H'):IspLaw K vs H Q
noncomputable def spLaw (K:PySem.W.Frag):Sp:=fun vs H Q _=>IspLaw K vs H Q
theorem ok_law {f:Addr} {fd:FuncData} (N:Fun K "law" "law" gZ f fd) (T:TX K mg a):FnOk P w K mg base CX0 14 f fd ["_law_script"] (spLaw K):=by
 refine N.ok sc_law (fun vs H Q E h=>?_) (fun cdv A outer s H vs Q E hr h=>?_)
 ·obtain ⟨l,ns,rfl,_⟩:=h
  rfl
 ·obtain ⟨l,ns,rfl,hS,hlen,hbt,k⟩:=h
  refine ⟨_,(ag (gj (av (ok_law_size T) hr ak (aa (pv 0) ae)) (eO rfl (aD (ax (i:=1) sc_law.nd rfl (Or.inl rfl)) (aD (ax (i:=2) sc_law.nd rfl (Or.inl rfl)) bZ))))
   (ag (gj (av (ok_law_asked T) hr ak (aa (pv 0) (aa (pv 1) (aa (pv 2) ae)))) (eO rfl (aD (ax (i:=3) sc_law.nd rfl (Or.inl rfl)) (aD (ax (i:=4) sc_law.nd rfl (Or.inl rfl)) (aD (ax (i:=5) sc_law.nd rfl (Or.inl rfl)) bZ)))))
   (ag (ar (i:=6) sc_law.nd rfl (Or.inl rfl) (av (ok_law_built T) hr ak (aa (pv 3) ae)))
   (ag (ar (i:=7) sc_law.nd rfl (Or.inl rfl) (av (eK T) hr ak (aa (am aS (pv 1) ac) (aa (av (aA T) hr ak (aa (pv 0) (aa ac ae))) ae))))
   (ag (aG (aw (op_neT hr.units0) (av (ok_law_refused T) hr ak (aa (pv 6) (aa (pv 7) (aa (pv 5) ae)))) (aF (aa (pv 7) (aa b9 (aa b9 ae)))) (az _)) (ah (aq b9)) ay)
   (ag (ar (i:=8) sc_law.nd rfl (Or.inl rfl) (av (ok_law_spoilt T) hr ak (aa (pv 0) (aa (pv 3) (aa (pv 4) (aa (pv 5) ae))))))
   (ag (ar (i:=9) sc_law.nd rfl (Or.inl rfl) (pv 4))
   (aP (aG (aw ba (am aI (am aO (av (aA T) hr ak (aa (pv 0) (aa ac ae))) ac) ac) ac (az _)) (ah (ar (i:=9) sc_law.nd rfl (Or.inl rfl) (ap al (ap eF (ap al (pv 3) ac (fun _ _=>rfl)) (am aI (av (aA T) hr ak (aa (pv 0) (aa ac ae))) (pv 1)) (fun _ _=>rfl)) ac (fun _ _=>rfl)))) ay)
   (ag (aG (aw ba (am aI (am aO (av (aA T) hr ak (aa (pv 0) (aa ac ae))) ac) ac) ac (az _)) (ah (aq (pe_and (av (cF T) hr ak (aa (pv 6) (aa (pv 3) (aa (pv 4) (aa (pv 5) ae))))) (pe_one (av (cF T) hr ak (aa (pv 6) (aa (pv 3) (aa (pv 9) (aa (pv 8) ae))))))))) ay)
   (ah (aq (pe_and (av (cF T) hr ak (aa (pv 6) (aa (pv 3) (aa (pv 9) (aa (pv 8) ae))))) (pe_one (av (cF T) hr ak (aa (pv 6) (aa (pv 3) (aa (pv 4) (aa (pv 5) ae)))))))))))))))))),?_⟩
  try dsimp only [aM,Cx.nox,Cx.wish]
  refine ⟨_,rfl,l,ns,rfl,hS,fun n m p np n1 n4 m5 nm=>?_⟩
  have s1:=ai (o:=.tup [.int n,.int m]) np
  have h1:upd H p (.tup [.int n,.int m]) p=some (.tup [.int n,.int m]):=ad
  generalize upd H p (.tup [.int n,.int m])=H1 at s1 h1 ⊢
  refine ⟨p,_,rfl,SqT.of h1,rfl,_,_,rfl,_,_,rfl,rfl,?_⟩
  refine ⟨_,rfl,_,rfl,_,rfl,l,ns,n,m,rfl,s1.seq hS,n1,n4,m5,nm,fun q t pa pm pl c lp lw dq dp dh tp tw es rs rq rp rh H2 s2 hq hpa hpm nc hpl M=>?_⟩
  have s12:=s1.trans s2
  refine ⟨q,_,rfl,SqT.of hq,rfl,_,_,rfl,_,_,rfl,_,_,rfl,rfl,?_⟩
  obtain ⟨le,lr,tok⟩:=M.tok n4 m5
  have ltp:tp.length=n:=by rw [M.td.rp.1];exact le
  have R2:Rd54 H2 t lp lw dq dp dh tp tw es rs rq rp rh:=⟨M.td,tok,⟨M.hq,fun x hx=>(M.nq x hx).mono (by decide),by have:=M.lq;omega⟩,⟨M.hp,fun x hx=>(M.np x hx).nb.mono (by decide),by rw [M.ep,iM];omega⟩,⟨M.hh,fun x hx=>(M.nh x hx).mono (by decide),by have:=M.lh;omega⟩,by omega,by omega⟩
  have nc9:Nb 900 c:=nc.mono (by decide)
  refine ⟨_,rfl,t,lp,lw,tp,tw,es,rs,rfl,M.td,tok,fun p3 H3 np3 s3 hn=>?_⟩
  have s13:=s12.trans s3
  have R3:=R2.mono s3
  refine ⟨_,rfl,_,_,rfl,rfl,_,rfl,l,ns,1,rfl,s13.seq hS,by decide,_,_,rfl,by omega,by omega,?_⟩
  have nin:cb ((n:Int)+3) (aL ns 1) ∉ es.map (·.1):=by
   rw [M.en]
   intro z
   obtain ⟨i,hi,e⟩:=iZ.mp z
   have hi:=List.mem_range.mp hi
   have:=nameA_inj (by omega) (by omega) (by omega) (by omega) e
   omega
  have lnn:(cb ((n:Int)+3) (aL ns 1)).length≤1000:=i3 (nameA_len _ _) (by decide)
  refine ⟨_,rfl,_,rfl,_,rfl,p3,t,pa,pm,lp,lw,dq,dp,dh,tp,tw,es,rs,rq,rp,rh,cb ((n:Int)+3) (aL ns 1),c,rfl,hn,R3,s3 _ _ hpa,s3 _ _ hpm,nc9,nin,lnn,fun q4 H4 s4 h4=>?_⟩
  generalize cb ((n:Int)+3) (aL ns 1)=nn at h4 nin lnn
  refine ⟨_,rfl,by show 3≤sizeLine;decide,fun tg ntg=>?_⟩
  have s5':=ai (o:=.tup [.str nn,.bl true,.bl false]) ntg
  have h5:upd H4 tg (.tup [.str nn,.bl true,.bl false]) tg=some (.tup [.str nn,.bl true,.bl false]):=ad
  generalize upd H4 tg (.tup [.str nn,.bl true,.bl false])=H5 at s5' h5 ⊢
  refine ⟨q4,tg,_,_,rfl,rfl,SqT.of (s5' _ _ h4),SqT.of h5,rfl,rfl,?_⟩
  rw [show eqVs [V.str nn,.bl true,.bl false] [V.str nn,.bl true,.bl false]=true by simp [eqVs,eqV]]
  refine ⟨_,rfl,iteF ?_⟩
  have s35:=s4.trans s5'
  have s25:=s3.trans s35
  have s15:=s12.trans s25
  refine ⟨_,rfl,_,rfl,_,rfl,_,rfl,l,t,pa,pm,lp,lw,dq,dp,dh,pl,c,ns,n,m,tp,tw,es,rs,rq,rp,rh,rfl,s15.seq hS,n1,n4,m5,s25 _ _ hpa,s25 _ _ hpm,nc,M.mono s25,fun pa' pm' dq' dp' dh' c' rq' rp' rh' H6 s6 hpa' hpm' nc' Q1 Q2 Q3=>?_⟩
  have s36:=s35.trans s6
  have s26:=s3.trans s36
  have s16:=s12.trans s26
  have td6:=M.td.mono s26
  have RA:Rd54 H6 t lp lw dq dp dh tp tw es rs rq rp rh:=R2.mono s26
  have RB:Rd54 H6 t lp lw dq' dp' dh' tp tw es rs rq' rp' rh':=⟨td6,tok,Q1,Q2,Q3,by omega,by omega⟩
  have hn6:=hn.mono s36
  refine ⟨_,rfl,?_⟩
  refine ⟨fun σ' H'=>∃ po,σ'=[some (.ref l),some (.int n),some (.int m),some (.ref t),some (.str pl),some (.ref pa),some (.ref p3),some (.str nn),some (.ref pa'),some (.str po)]∧H'=H6∧po∈es.map (·.1),?_,?_⟩
  ·refine ⟨_,rfl,l,ns,36,rfl,s16.seq hS,by decide,_,_,rfl,rfl,⟨by decide,by decide⟩,_,_,rfl,rfl,by show (0:Int)<5;decide,rfl,_,rfl,ifV (fun _=>?_) (fun _=>?_)⟩
   ·obtain ⟨i0,i1⟩:=aN (aL ns 38) (show (0:Int)<(n:Int) by omega)
    obtain ⟨ip,hip⟩:=ju i0
    obtain ⟨eP,eeP⟩:∃ e,es[ip]?=some e:=⟨_,iO (by omega)⟩
    obtain ⟨vP,evP,teP,veP,rfl,hteP,_⟩:=td6.rp.get' eeP
    have atP:atI tp (aL ns 38 % (n:Int))=some (.ref teP):=by rw [hip];exact atI_nat evP
    refine ⟨_,rfl,t,_,_,_,rfl,rfl,SqT.of td6.ht,rfl,_,rfl,l,ns,38,rfl,s16.seq hS,by decide,_,rfl,_,_,rfl,rfl,by show (0:Int)<(n:Int);omega,lp,_,_,_,rfl,rfl,SqL.of td6.hp,atP,teP,_,_,_,rfl,rfl,SqT.of hteP,rfl,?_⟩
    exact ⟨eP.1,rfl,rfl,iZ.mpr ⟨eP,iR eeP,rfl⟩⟩
   ·exact ⟨pl,rfl,rfl,hpl⟩
  rintro σ' H' ⟨po,rfl,rfl,hpo⟩
  refine ⟨_,rfl,l,ns,36,rfl,s16.seq hS,by decide,_,_,rfl,rfl,⟨by decide,by decide⟩,_,_,rfl,rfl,by show (0:Int)<2;decide,rfl,_,rfl,ifV (fun _=>?_) (fun _=>?_)⟩
  ·refine ⟨_,rfl,_,rfl,_,rfl,_,rfl,p3,t,pa,pm,lp,lw,dq,dp,dh,tp,tw,es,rs,rq,rp,rh,pl,c,rfl,hn6,RA,s26 _ _ hpa,s26 _ _ hpm,nc9,hpl,fun H7 s7=>⟨_,rfl,iteT ?_⟩⟩
   exact ⟨_,rfl,_,rfl,_,rfl,_,rfl,p3,t,pa',pm',lp,lw,dq',dp',dh',tp,tw,es,rs,rq',rp',rh',po,c',rfl,hn6.mono s7,RB.mono s7,s7 _ _ hpa',s7 _ _ hpm',nc',hpo,fun H8 s8=>k _⟩
  ·refine ⟨_,rfl,_,rfl,_,rfl,_,rfl,p3,t,pa',pm',lp,lw,dq',dp',dh',tp,tw,es,rs,rq',rp',rh',po,c',rfl,hn6,RB,hpa',hpm',nc',hpo,fun H7 s7=>⟨_,rfl,iteT ?_⟩⟩
   exact ⟨_,rfl,_,rfl,_,rfl,_,rfl,p3,t,pa,pm,lp,lw,dq,dp,dh,tp,tw,es,rs,rq,rp,rh,pl,c,rfl,hn6.mono s7,RA.mono s7,(s26.trans s7) _ _ hpa,(s26.trans s7) _ _ hpm,nc9,hpl,fun H8 s8=>k _⟩
end
end G
namespace G
open PySem L2
theorem lm1 {α:Type}:∀ us:List α,us.length=1→∃ a,us=[a]
 | [a],_=>⟨a,rfl⟩
theorem lm2 {α:Type}:∀ us:List α,us.length=2→∃ a b,us=[a,b]
 | [a,b],_=>⟨a,b,rfl⟩
theorem lm3 {α:Type}:∀ us:List α,us.length=3→∃ a b c,us=[a,b,c]
 | [a,b,c],_=>⟨a,b,c,rfl⟩
theorem lm4 {α:Type}:∀ us:List α,us.length=4→∃ a b c d,us=[a,b,c,d]
 | [a,b,c,d],_=>⟨a,b,c,d,rfl⟩
theorem lm5 {α:Type}:∀ us:List α,us.length=5→∃ a b c d e,us=[a,b,c,d,e]
 | [a,b,c,d,e],_=>⟨a,b,c,d,e,rfl⟩
theorem lm6 {α:Type}:∀ us:List α,us.length=6→∃ a b c d e f,us=[a,b,c,d,e,f]
 | [a,b,c,d,e,f],_=>⟨a,b,c,d,e,f,rfl⟩
theorem lm7 {α:Type}:∀ us:List α,us.length=7→∃ a b c d e f g,us=[a,b,c,d,e,f,g]
 | [a,b,c,d,e,f,g],_=>⟨a,b,c,d,e,f,g,rfl⟩
theorem all_mk {l:W.OpenLaw} {w:World} {K:W.Frag} {h:Heap} {mg:Str→Option Value} {fa A_Fraction A_Way A_Growing A_Leaking A_Store A_Net A_GainError A_NoNumber A_TooMany A_NoStrand A_NoWay A_Broken A_Twice A_NoPlace:Addr} (X:K.In h) (G:h.Ns mainGlobals mg) (hfa:mg "law"=some (.ref fa))
  {fQ0 fQ1 fQ2 fQ3 fQ4 fQ5 fQ6 fQ7 fQ8 fQ9 fQ10 fQ11 fQ12 fQ13 fQ14 fQ15 fQ16 fQ17 fQ18 fQ19 fQ20 fQ21 fQ22 fQ23 fQ24 fQ25 fQ26 fQ27 fQ28 fQ29 fQ30 fQ31 fQ32 fQ33 fQ34 fQ35 fQ36 fQ37 fQ38 fQ39 fQ40 fQ41 fQ42 fQ43 fQ44 fQ45 fQ46 fQ47 fQ48 fQ49 fQ50 fQ51 fQ52 fQ53 fQ54 fDlaw fIFraction TIFraction fQ55 fQ56 fQ57 fQ58 fQ59 fQ60 fIWay TIWay fQ61 fQ62 fIGrowing TIGrowing fQ63 fILeaking TILeaking fQ64 fQ65 fQ66 fQ67 fQ68 fQ69 fQ70:Addr}
  {odQ0 anQ0 odQ1 anQ1 odQ2 anQ2 odQ3 anQ3 odQ4 anQ4 odQ5 anQ5 odQ6 anQ6 odQ7 anQ7 odQ8 anQ8 odQ9 anQ9 odQ10 anQ10 odQ11 anQ11 odQ12 anQ12 odQ13 anQ13 odQ14 anQ14 odQ15 anQ15 odQ16 anQ16 odQ17 anQ17 odQ18 anQ18 odQ19 anQ19 odQ20 anQ20 odQ21 anQ21 odQ22 anQ22 odQ23 anQ23 odQ24 anQ24 odQ25 anQ25 odQ26 anQ26 odQ27 anQ27 odQ28 anQ28 odQ29 anQ29 odQ30 anQ30 odQ31 anQ31 odQ32 anQ32 odQ33 anQ33 odQ34 anQ34 odQ35 anQ35 odQ36 anQ36 odQ37 anQ37 odQ38 anQ38 odQ39 anQ39 odQ40 anQ40 odQ41 anQ41 odQ42 anQ42 odQ43 anQ43 odQ44 anQ44 odQ45 anQ45 odQ46 anQ46 odQ47 anQ47 odQ48 anQ48 odQ49 anQ49 odQ50 anQ50 odQ51 anQ51 odQ52 anQ52 odQ53 anQ53 odQ54 anQ54 odDlaw anDlaw odIFraction anIFraction odQ55 anQ55 odQ56 anQ56 odQ57 anQ57 odQ58 anQ58 odQ59 anQ59 odQ60 anQ60 odIWay anIWay odQ61 anQ61 odQ62 anQ62 odIGrowing anIGrowing odQ63 anQ63 odILeaking anILeaking odQ64 anQ64 odQ65 anQ65 odQ66 anQ66 odQ67 anQ67 odQ68 anQ68 odQ69 anQ69 odQ70 anQ70:Option Addr}
  {slQ0 slQ1 slQ2 slQ3 slQ4 slQ5 slQ6 slQ7 slQ8 slQ9 slQ10 slQ11 slQ12 slQ13 slQ14 slQ15 slQ16 slQ17 slQ18 slQ19 slQ20 slQ21 slQ22 slQ23 slQ24 slQ25 slQ26 slQ27 slQ28 slQ29 slQ30 slQ31 slQ32 slQ33 slQ34 slQ35 slQ36 slQ37 slQ38 slQ39 slQ40 slQ41 slQ42 slQ43 slQ44 slQ45 slQ46 slQ47 slQ48 slQ49 slQ50 slQ51 slQ52 slQ53 slQ54 slDlaw slIFraction slQ55 slQ56 slQ57 slQ58 slQ59 slQ60 slIWay slQ61 slQ62 slIGrowing slQ63 slILeaking slQ64 slQ65 slQ66 slQ67 slQ68 slQ69 slQ70:Array (Option Value)}
  {ocQ0 kVQ0 dcQ0 pmQ0 cdQ0 ctQ0 ocQ1 kVQ1 dcQ1 pmQ1 cdQ1 ctQ1 ocQ2 kVQ2 dcQ2 pmQ2 cdQ2 ctQ2 ocQ3 kVQ3 dcQ3 pmQ3 cdQ3 ctQ3 ocQ4 kVQ4 dcQ4 pmQ4 cdQ4 ctQ4 ocQ5 kVQ5 dcQ5 pmQ5 cdQ5 ctQ5 ocQ6 kVQ6 dcQ6 pmQ6 cdQ6 ctQ6 ocQ7 kVQ7 dcQ7 pmQ7 cdQ7 ctQ7 ocQ8 kVQ8 dcQ8 pmQ8 cdQ8 ctQ8 ocQ9 kVQ9 dcQ9 pmQ9 cdQ9 ctQ9 ocQ10 kVQ10 dcQ10 pmQ10 cdQ10 ctQ10 ocQ11 kVQ11 dcQ11 pmQ11 cdQ11 ctQ11 ocQ12 kVQ12 dcQ12 pmQ12 cdQ12 ctQ12 ocQ13 kVQ13 dcQ13 pmQ13 cdQ13 ctQ13 ocQ14 kVQ14 dcQ14 pmQ14 cdQ14 ctQ14 ocQ15 kVQ15 dcQ15 pmQ15 cdQ15 ctQ15 ocQ16 kVQ16 dcQ16 pmQ16 cdQ16 ctQ16 ocQ17 kVQ17 dcQ17 pmQ17 cdQ17 ctQ17 ocQ18 kVQ18 dcQ18 pmQ18 cdQ18 ctQ18 ocQ19 kVQ19 dcQ19 pmQ19 cdQ19 ctQ19 ocQ20 kVQ20 dcQ20 pmQ20 cdQ20 ctQ20 ocQ21 kVQ21 dcQ21 pmQ21 cdQ21 ctQ21 ocQ22 kVQ22 dcQ22 pmQ22 cdQ22 ctQ22 ocQ23 kVQ23 dcQ23 pmQ23 cdQ23 ctQ23 ocQ24 kVQ24 dcQ24 pmQ24 cdQ24 ctQ24 ocQ25 kVQ25 dcQ25 pmQ25 cdQ25 ctQ25 ocQ26 kVQ26 dcQ26 pmQ26 cdQ26 ctQ26 ocQ27 kVQ27 dcQ27 pmQ27 cdQ27 ctQ27 ocQ28 kVQ28 dcQ28 pmQ28 cdQ28 ctQ28 ocQ29 kVQ29 dcQ29 pmQ29 cdQ29 ctQ29 ocQ30 kVQ30 dcQ30 pmQ30 cdQ30 ctQ30 ocQ31 kVQ31 dcQ31 pmQ31 cdQ31 ctQ31 ocQ32 kVQ32 dcQ32 pmQ32 cdQ32 ctQ32 ocQ33 kVQ33 dcQ33 pmQ33 cdQ33 ctQ33 ocQ34 kVQ34 dcQ34 pmQ34 cdQ34 ctQ34 ocQ35 kVQ35 dcQ35 pmQ35 cdQ35 ctQ35 ocQ36 kVQ36 dcQ36 pmQ36 cdQ36 ctQ36 ocQ37 kVQ37 dcQ37 pmQ37 cdQ37 ctQ37 ocQ38 kVQ38 dcQ38 pmQ38 cdQ38 ctQ38 ocQ39 kVQ39 dcQ39 pmQ39 cdQ39 ctQ39 ocQ40 kVQ40 dcQ40 pmQ40 cdQ40 ctQ40 ocQ41 kVQ41 dcQ41 pmQ41 cdQ41 ctQ41 ocQ42 kVQ42 dcQ42 pmQ42 cdQ42 ctQ42 ocQ43 kVQ43 dcQ43 pmQ43 cdQ43 ctQ43 ocQ44 kVQ44 dcQ44 pmQ44 cdQ44 ctQ44 ocQ45 kVQ45 dcQ45 pmQ45 cdQ45 ctQ45 ocQ46 kVQ46 dcQ46 pmQ46 cdQ46 ctQ46 ocQ47 kVQ47 dcQ47 pmQ47 cdQ47 ctQ47 ocQ48 kVQ48 dcQ48 pmQ48 cdQ48 ctQ48 ocQ49 kVQ49 dcQ49 pmQ49 cdQ49 ctQ49 ocQ50 kVQ50 dcQ50 pmQ50 cdQ50 ctQ50 ocQ51 kVQ51 dcQ51 pmQ51 cdQ51 ctQ51 ocQ52 kVQ52 dcQ52 pmQ52 cdQ52 ctQ52 ocQ53 kVQ53 dcQ53 pmQ53 cdQ53 ctQ53 ocQ54 kVQ54 dcQ54 pmQ54 cdQ54 ctQ54 ocDlaw kVDlaw dcDlaw pmDlaw cdDlaw ctDlaw ocIFraction kVIFraction dcIFraction pmIFraction cdIFraction ctIFraction ocQ55 kVQ55 dcQ55 pmQ55 cdQ55 ctQ55 ocQ56 kVQ56 dcQ56 pmQ56 cdQ56 ctQ56 ocQ57 kVQ57 dcQ57 pmQ57 cdQ57 ctQ57 ocQ58 kVQ58 dcQ58 pmQ58 cdQ58 ctQ58 ocQ59 kVQ59 dcQ59 pmQ59 cdQ59 ctQ59 ocQ60 kVQ60 dcQ60 pmQ60 cdQ60 ctQ60 ocIWay kVIWay dcIWay pmIWay cdIWay ctIWay ocQ61 kVQ61 dcQ61 pmQ61 cdQ61 ctQ61 ocQ62 kVQ62 dcQ62 pmQ62 cdQ62 ctQ62 ocIGrowing kVIGrowing dcIGrowing pmIGrowing cdIGrowing ctIGrowing ocQ63 kVQ63 dcQ63 pmQ63 cdQ63 ctQ63 ocILeaking kVILeaking dcILeaking pmILeaking cdILeaking ctILeaking ocQ64 kVQ64 dcQ64 pmQ64 cdQ64 ctQ64 ocQ65 kVQ65 dcQ65 pmQ65 cdQ65 ctQ65 ocQ66 kVQ66 dcQ66 pmQ66 cdQ66 ctQ66 ocQ67 kVQ67 dcQ67 pmQ67 cdQ67 ctQ67 ocQ68 kVQ68 dcQ68 pmQ68 cdQ68 ctQ68 ocQ69 kVQ69 dcQ69 pmQ69 cdQ69 ctQ69 ocQ70 kVQ70 dcQ70 pmQ70 cdQ70 ctQ70:Value}
  {oIFraction oIWay oIGrowing oILeaking:Obj}
  {nIFraction nIWay nIGrowing nILeaking:Nat}
  {tkIFraction0 tk_MOST_PLACES tk_MOST_WAYS:Tok}
  {cdx_NoPlace cd_ca2_NoPlace cd_xcl_NoPlace:ClassData}
  (n_Fraction:W.nsIn K mainGlobals "Fraction"=some (some (.ref A_Fraction)))
  (n_Way:W.nsIn K mainGlobals "Way"=some (some (.ref A_Way)))
  (n_Growing:W.nsIn K mainGlobals "Growing"=some (some (.ref A_Growing)))
  (n_Leaking:W.nsIn K mainGlobals "Leaking"=some (some (.ref A_Leaking)))
  (n_Store:W.nsIn K mainGlobals "Store"=some (some (.ref A_Store)))
  (n_Net:W.nsIn K mainGlobals "Net"=some (some (.ref A_Net)))
  (n_GainError:W.nsIn K mainGlobals "GainError"=some (some (.ref A_GainError)))
  (n_NoNumber:W.nsIn K mainGlobals "NoNumber"=some (some (.ref A_NoNumber)))
  (n_TooMany:W.nsIn K mainGlobals "TooMany"=some (some (.ref A_TooMany)))
  (n_NoStrand:W.nsIn K mainGlobals "NoStrand"=some (some (.ref A_NoStrand)))
  (n_NoWay:W.nsIn K mainGlobals "NoWay"=some (some (.ref A_NoWay)))
  (n_Broken:W.nsIn K mainGlobals "Broken"=some (some (.ref A_Broken)))
  (n_Twice:W.nsIn K mainGlobals "Twice"=some (some (.ref A_Twice)))
  (n_NoPlace:W.nsIn K mainGlobals "NoPlace"=some (some (.ref A_NoPlace)))
  (aQ0:W.nsIn K mainGlobals "divisor"=some (some (.ref fQ0)))
  (lQ0:K.lookup fQ0=some ⟨ocQ0,odQ0,.func (W.fnOf "divisor" "divisor" (au fe) (ao fe) (af fe) .none kVQ0 dcQ0 pmQ0 anQ0 cdQ0 ctQ0),slQ0⟩)
  (cQ0:W.codeIn K cdQ0 "divisor"=true)
  (kQ0:W.keepIn K (.ref fQ0)=true)
  (aQ1:W.nsIn K mainGlobals "in_lowest_terms"=some (some (.ref fQ1)))
  (lQ1:K.lookup fQ1=some ⟨ocQ1,odQ1,.func (W.fnOf "in_lowest_terms" "in_lowest_terms" (au bp) (ao bp) (af bp) .none kVQ1 dcQ1 pmQ1 anQ1 cdQ1 ctQ1),slQ1⟩)
  (cQ1:W.codeIn K cdQ1 "in_lowest_terms"=true)
  (kQ1:W.keepIn K (.ref fQ1)=true)
  (aQ2:W.nsIn K mainGlobals "total"=some (some (.ref fQ2)))
  (lQ2:K.lookup fQ2=some ⟨ocQ2,odQ2,.func (W.fnOf "total" "total" (au gP) (ao gP) (af gP) .none kVQ2 dcQ2 pmQ2 anQ2 cdQ2 ctQ2),slQ2⟩)
  (cQ2:W.codeIn K cdQ2 "total"=true)
  (kQ2:W.keepIn K (.ref fQ2)=true)
  (aQ3:W.nsIn K mainGlobals "amount"=some (some (.ref fQ3)))
  (lQ3:K.lookup fQ3=some ⟨ocQ3,odQ3,.func (W.fnOf "amount" "amount" (au fQ) (ao fQ) (af fQ) .none kVQ3 dcQ3 pmQ3 anQ3 cdQ3 ctQ3),slQ3⟩)
  (cQ3:W.codeIn K cdQ3 "amount"=true)
  (kQ3:W.keepIn K (.ref fQ3)=true)
  (aQ4:W.nsIn K mainGlobals "refuse_other_names"=some (some (.ref fQ4)))
  (lQ4:K.lookup fQ4=some ⟨ocQ4,odQ4,.func (W.fnOf "refuse_other_names" "refuse_other_names" (au aW) (ao aW) (af aW) .none kVQ4 dcQ4 pmQ4 anQ4 cdQ4 ctQ4),slQ4⟩)
  (cQ4:W.codeIn K cdQ4 "refuse_other_names"=true)
  (kQ4:W.keepIn K (.ref fQ4)=true)
  (aQ5:W.nsIn K mainGlobals "sums_of_own_ways"=some (some (.ref fQ5)))
  (lQ5:K.lookup fQ5=some ⟨ocQ5,odQ5,.func (W.fnOf "sums_of_own_ways" "sums_of_own_ways" (au bf) (ao bf) (af bf) .none kVQ5 dcQ5 pmQ5 anQ5 cdQ5 ctQ5),slQ5⟩)
  (cQ5:W.codeIn K cdQ5 "sums_of_own_ways"=true)
  (kQ5:W.keepIn K (.ref fQ5)=true)
  (aQ6:W.nsIn K mainGlobals "sums"=some (some (.ref fQ6)))
  (lQ6:K.lookup fQ6=some ⟨ocQ6,odQ6,.func (W.fnOf "sums" "sums" (au s_sums) (ao s_sums) (af s_sums) .none kVQ6 dcQ6 pmQ6 anQ6 cdQ6 ctQ6),slQ6⟩)
  (cQ6:W.codeIn K cdQ6 "sums"=true)
  (kQ6:W.keepIn K (.ref fQ6)=true)
  (aQ7:W.nsIn K mainGlobals "bound_passed"=some (some (.ref fQ7)))
  (lQ7:K.lookup fQ7=some ⟨ocQ7,odQ7,.func (W.fnOf "bound_passed" "bound_passed" (au b5) (ao b5) (af b5) .none kVQ7 dcQ7 pmQ7 anQ7 cdQ7 ctQ7),slQ7⟩)
  (cQ7:W.codeIn K cdQ7 "bound_passed"=true)
  (kQ7:W.keepIn K (.ref fQ7)=true)
  (aQ8:W.nsIn K mainGlobals "other_names"=some (some (.ref fQ8)))
  (lQ8:K.lookup fQ8=some ⟨ocQ8,odQ8,.func (W.fnOf "other_names" "other_names" (au cu) (ao cu) (af cu) .none kVQ8 dcQ8 pmQ8 anQ8 cdQ8 ctQ8),slQ8⟩)
  (cQ8:W.codeIn K cdQ8 "other_names"=true)
  (kQ8:W.keepIn K (.ref fQ8)=true)
  (aQ9:W.nsIn K mainGlobals "faults"=some (some (.ref fQ9)))
  (lQ9:K.lookup fQ9=some ⟨ocQ9,odQ9,.func (W.fnOf "faults" "faults" (au fO) (ao fO) (af fO) .none kVQ9 dcQ9 pmQ9 anQ9 cdQ9 ctQ9),slQ9⟩)
  (cQ9:W.codeIn K cdQ9 "faults"=true)
  (kQ9:W.keepIn K (.ref fQ9)=true)
  (aQ10:W.nsIn K mainGlobals "strand_plan"=some (some (.ref fQ10)))
  (lQ10:K.lookup fQ10=some ⟨ocQ10,odQ10,.func (W.fnOf "strand_plan" "strand_plan" (au cq) (ao cq) (af cq) .none kVQ10 dcQ10 pmQ10 anQ10 cdQ10 ctQ10),slQ10⟩)
  (cQ10:W.codeIn K cdQ10 "strand_plan"=true)
  (kQ10:W.keepIn K (.ref fQ10)=true)
  (aQ11:W.nsIn K mainGlobals "are_fit"=some (some (.ref fQ11)))
  (lQ11:K.lookup fQ11=some ⟨ocQ11,odQ11,.func (W.fnOf "are_fit" "are_fit" (au fg) (ao fg) (af fg) .none kVQ11 dcQ11 pmQ11 anQ11 cdQ11 ctQ11),slQ11⟩)
  (cQ11:W.codeIn K cdQ11 "are_fit"=true)
  (kQ11:W.keepIn K (.ref fQ11)=true)
  (aQ12:W.nsIn K mainGlobals "is_paper"=some (some (.ref fQ12)))
  (lQ12:K.lookup fQ12=some ⟨ocQ12,odQ12,.func (W.fnOf "is_paper" "is_paper" (au dZ) (ao dZ) (af dZ) .none kVQ12 dcQ12 pmQ12 anQ12 cdQ12 ctQ12),slQ12⟩)
  (cQ12:W.codeIn K cdQ12 "is_paper"=true)
  (kQ12:W.keepIn K (.ref fQ12)=true)
  (aQ13:W.nsIn K mainGlobals "earned"=some (some (.ref fQ13)))
  (lQ13:K.lookup fQ13=some ⟨ocQ13,odQ13,.func (W.fnOf "earned" "earned" (au fP) (ao fP) (af fP) .none kVQ13 dcQ13 pmQ13 anQ13 cdQ13 ctQ13),slQ13⟩)
  (cQ13:W.codeIn K cdQ13 "earned"=true)
  (kQ13:W.keepIn K (.ref fQ13)=true)
  (aQ14:W.nsIn K mainGlobals "earns_nothing"=some (some (.ref fQ14)))
  (lQ14:K.lookup fQ14=some ⟨ocQ14,odQ14,.func (W.fnOf "earns_nothing" "earns_nothing" (au bN) (ao bN) (af bN) .none kVQ14 dcQ14 pmQ14 anQ14 cdQ14 ctQ14),slQ14⟩)
  (cQ14:W.codeIn K cdQ14 "earns_nothing"=true)
  (kQ14:W.keepIn K (.ref fQ14)=true)
  (aQ15:W.nsIn K mainGlobals "weight"=some (some (.ref fQ15)))
  (lQ15:K.lookup fQ15=some ⟨ocQ15,odQ15,.func (W.fnOf "weight" "weight" (au fN) (ao fN) (af fN) .none kVQ15 dcQ15 pmQ15 anQ15 cdQ15 ctQ15),slQ15⟩)
  (cQ15:W.codeIn K cdQ15 "weight"=true)
  (kQ15:W.keepIn K (.ref fQ15)=true)
  (aQ16:W.nsIn K mainGlobals "shows_lack"=some (some (.ref fQ16)))
  (lQ16:K.lookup fQ16=some ⟨ocQ16,odQ16,.func (W.fnOf "shows_lack" "shows_lack" (au cL) (ao cL) (af cL) .none kVQ16 dcQ16 pmQ16 anQ16 cdQ16 ctQ16),slQ16⟩)
  (cQ16:W.codeIn K cdQ16 "shows_lack"=true)
  (kQ16:W.keepIn K (.ref fQ16)=true)
  (aQ17:W.nsIn K mainGlobals "shows_more"=some (some (.ref fQ17)))
  (lQ17:K.lookup fQ17=some ⟨ocQ17,odQ17,.func (W.fnOf "shows_more" "shows_more" (au cK) (ao cK) (af cK) .none kVQ17 dcQ17 pmQ17 anQ17 cdQ17 ctQ17),slQ17⟩)
  (cQ17:W.codeIn K cdQ17 "shows_more"=true)
  (kQ17:W.keepIn K (.ref fQ17)=true)
  (aQ18:W.nsIn K mainGlobals "shows_greatest"=some (some (.ref fQ18)))
  (lQ18:K.lookup fQ18=some ⟨ocQ18,odQ18,.func (W.fnOf "shows_greatest" "shows_greatest" (au bx) (ao bx) (af bx) .none kVQ18 dcQ18 pmQ18 anQ18 cdQ18 ctQ18),slQ18⟩)
  (cQ18:W.codeIn K cdQ18 "shows_greatest"=true)
  (kQ18:W.keepIn K (.ref fQ18)=true)
  (aQ19:W.nsIn K mainGlobals "shows_most"=some (some (.ref fQ19)))
  (lQ19:K.lookup fQ19=some ⟨ocQ19,odQ19,.func (W.fnOf "shows_most" "shows_most" (au cJ) (ao cJ) (af cJ) .none kVQ19 dcQ19 pmQ19 anQ19 cdQ19 ctQ19),slQ19⟩)
  (cQ19:W.codeIn K cdQ19 "shows_most"=true)
  (kQ19:W.keepIn K (.ref fQ19)=true)
  (aQ20:W.nsIn K mainGlobals "wants_by_name"=some (some (.ref fQ20)))
  (lQ20:K.lookup fQ20=some ⟨ocQ20,odQ20,.func (W.fnOf "wants_by_name" "wants_by_name" (au bJ) (ao bJ) (af bJ) .none kVQ20 dcQ20 pmQ20 anQ20 cdQ20 ctQ20),slQ20⟩)
  (cQ20:W.codeIn K cdQ20 "wants_by_name"=true)
  (kQ20:W.keepIn K (.ref fQ20)=true)
  (aQ21:W.nsIn K mainGlobals "check_way"=some (some (.ref fQ21)))
  (lQ21:K.lookup fQ21=some ⟨ocQ21,odQ21,.func (W.fnOf "check_way" "check_way" (au dn) (ao dn) (af dn) .none kVQ21 dcQ21 pmQ21 anQ21 cdQ21 ctQ21),slQ21⟩)
  (cQ21:W.codeIn K cdQ21 "check_way"=true)
  (kQ21:W.keepIn K (.ref fQ21)=true)
  (aQ22:W.nsIn K mainGlobals "ways_by_name"=some (some (.ref fQ22)))
  (lQ22:K.lookup fQ22=some ⟨ocQ22,odQ22,.func (W.fnOf "ways_by_name" "ways_by_name" (au b4) (ao b4) (af b4) .none kVQ22 dcQ22 pmQ22 anQ22 cdQ22 ctQ22),slQ22⟩)
  (cQ22:W.codeIn K cdQ22 "ways_by_name"=true)
  (kQ22:W.keepIn K (.ref fQ22)=true)
  (aQ23:W.nsIn K mainGlobals "_law_cell_at"=some (some (.ref fQ23)))
  (lQ23:K.lookup fQ23=some ⟨ocQ23,odQ23,.func (W.fnOf "_law_cell_at" "_law_cell_at" (au cz) (ao cz) (af cz) .none kVQ23 dcQ23 pmQ23 anQ23 cdQ23 ctQ23),slQ23⟩)
  (cQ23:W.codeIn K cdQ23 "_law_cell_at"=true)
  (kQ23:W.keepIn K (.ref fQ23)=true)
  (aQ24:W.nsIn K mainGlobals "_law_plus"=some (some (.ref fQ24)))
  (lQ24:K.lookup fQ24=some ⟨ocQ24,odQ24,.func (W.fnOf "_law_plus" "_law_plus" (au dQ) (ao dQ) (af dQ) .none kVQ24 dcQ24 pmQ24 anQ24 cdQ24 ctQ24),slQ24⟩)
  (cQ24:W.codeIn K cdQ24 "_law_plus"=true)
  (kQ24:W.keepIn K (.ref fQ24)=true)
  (aQ25:W.nsIn K mainGlobals "_law_less"=some (some (.ref fQ25)))
  (lQ25:K.lookup fQ25=some ⟨ocQ25,odQ25,.func (W.fnOf "_law_less" "_law_less" (au dW) (ao dW) (af dW) .none kVQ25 dcQ25 pmQ25 anQ25 cdQ25 ctQ25),slQ25⟩)
  (cQ25:W.codeIn K cdQ25 "_law_less"=true)
  (kQ25:W.keepIn K (.ref fQ25)=true)
  (aQ26:W.nsIn K mainGlobals "_law_times"=some (some (.ref fQ26)))
  (lQ26:K.lookup fQ26=some ⟨ocQ26,odQ26,.func (W.fnOf "_law_times" "_law_times" (au c8) (ao c8) (af c8) .none kVQ26 dcQ26 pmQ26 anQ26 cdQ26 ctQ26),slQ26⟩)
  (cQ26:W.codeIn K cdQ26 "_law_times"=true)
  (kQ26:W.keepIn K (.ref fQ26)=true)
  (aQ27:W.nsIn K mainGlobals "_law_over"=some (some (.ref fQ27)))
  (lQ27:K.lookup fQ27=some ⟨ocQ27,odQ27,.func (W.fnOf "_law_over" "_law_over" (au dS) (ao dS) (af dS) .none kVQ27 dcQ27 pmQ27 anQ27 cdQ27 ctQ27),slQ27⟩)
  (cQ27:W.codeIn K cdQ27 "_law_over"=true)
  (kQ27:W.keepIn K (.ref fQ27)=true)
  (aQ28:W.nsIn K mainGlobals "_law_name"=some (some (.ref fQ28)))
  (lQ28:K.lookup fQ28=some ⟨ocQ28,odQ28,.func (W.fnOf "_law_name" "_law_name" (au dU) (ao dU) (af dU) .none kVQ28 dcQ28 pmQ28 anQ28 cdQ28 ctQ28),slQ28⟩)
  (cQ28:W.codeIn K cdQ28 "_law_name"=true)
  (kQ28:W.keepIn K (.ref fQ28)=true)
  (aQ29:W.nsIn K mainGlobals "_law_number"=some (some (.ref fQ29)))
  (lQ29:K.lookup fQ29=some ⟨ocQ29,odQ29,.func (W.fnOf "_law_number" "_law_number" (au cN) (ao cN) (af cN) .none kVQ29 dcQ29 pmQ29 anQ29 cdQ29 ctQ29),slQ29⟩)
  (cQ29:W.codeIn K cdQ29 "_law_number"=true)
  (kQ29:W.keepIn K (.ref fQ29)=true)
  (aQ30:W.nsIn K mainGlobals "_law_not_under"=some (some (.ref fQ30)))
  (lQ30:K.lookup fQ30=some ⟨ocQ30,odQ30,.func (W.fnOf "_law_not_under" "_law_not_under" (au bK) (ao bK) (af bK) .none kVQ30 dcQ30 pmQ30 anQ30 cdQ30 ctQ30),slQ30⟩)
  (cQ30:W.codeIn K cdQ30 "_law_not_under"=true)
  (kQ30:W.keepIn K (.ref fQ30)=true)
  (aQ31:W.nsIn K mainGlobals "_law_high"=some (some (.ref fQ31)))
  (lQ31:K.lookup fQ31=some ⟨ocQ31,odQ31,.func (W.fnOf "_law_high" "_law_high" (au dX) (ao dX) (af dX) .none kVQ31 dcQ31 pmQ31 anQ31 cdQ31 ctQ31),slQ31⟩)
  (cQ31:W.codeIn K cdQ31 "_law_high"=true)
  (kQ31:W.keepIn K (.ref fQ31)=true)
  (aQ32:W.nsIn K mainGlobals "_law_gain_by"=some (some (.ref fQ32)))
  (lQ32:K.lookup fQ32=some ⟨ocQ32,odQ32,.func (W.fnOf "_law_gain_by" "_law_gain_by" (au cy) (ao cy) (af cy) .none kVQ32 dcQ32 pmQ32 anQ32 cdQ32 ctQ32),slQ32⟩)
  (cQ32:W.codeIn K cdQ32 "_law_gain_by"=true)
  (kQ32:W.keepIn K (.ref fQ32)=true)
  (aQ33:W.nsIn K mainGlobals "_law_ends"=some (some (.ref fQ33)))
  (lQ33:K.lookup fQ33=some ⟨ocQ33,odQ33,.func (W.fnOf "_law_ends" "_law_ends" (au dY) (ao dY) (af dY) .none kVQ33 dcQ33 pmQ33 anQ33 cdQ33 ctQ33),slQ33⟩)
  (cQ33:W.codeIn K cdQ33 "_law_ends"=true)
  (kQ33:W.keepIn K (.ref fQ33)=true)
  (aQ34:W.nsIn K mainGlobals "_law_way"=some (some (.ref fQ34)))
  (lQ34:K.lookup fQ34=some ⟨ocQ34,odQ34,.func (W.fnOf "_law_way" "_law_way" (au fb) (ao fb) (af fb) .none kVQ34 dcQ34 pmQ34 anQ34 cdQ34 ctQ34),slQ34⟩)
  (cQ34:W.codeIn K cdQ34 "_law_way"=true)
  (kQ34:W.keepIn K (.ref fQ34)=true)
  (aQ35:W.nsIn K mainGlobals "_law_built"=some (some (.ref fQ35)))
  (lQ35:K.lookup fQ35=some ⟨ocQ35,odQ35,.func (W.fnOf "_law_built" "_law_built" (au dl) (ao dl) (af dl) .none kVQ35 dcQ35 pmQ35 anQ35 cdQ35 ctQ35),slQ35⟩)
  (cQ35:W.codeIn K cdQ35 "_law_built"=true)
  (kQ35:W.keepIn K (.ref fQ35)=true)
  (aQ36:W.nsIn K mainGlobals "_law_sums"=some (some (.ref fQ36)))
  (lQ36:K.lookup fQ36=some ⟨ocQ36,odQ36,.func (W.fnOf "_law_sums" "_law_sums" (au dO) (ao dO) (af dO) .none kVQ36 dcQ36 pmQ36 anQ36 cdQ36 ctQ36),slQ36⟩)
  (cQ36:W.codeIn K cdQ36 "_law_sums"=true)
  (kQ36:W.keepIn K (.ref fQ36)=true)
  (aQ37:W.nsIn K mainGlobals "_law_meets"=some (some (.ref fQ37)))
  (lQ37:K.lookup fQ37=some ⟨ocQ37,odQ37,.func (W.fnOf "_law_meets" "_law_meets" (au dk) (ao dk) (af dk) .none kVQ37 dcQ37 pmQ37 anQ37 cdQ37 ctQ37),slQ37⟩)
  (cQ37:W.codeIn K cdQ37 "_law_meets"=true)
  (kQ37:W.keepIn K (.ref fQ37)=true)
  (aQ38:W.nsIn K mainGlobals "_law_named"=some (some (.ref fQ38)))
  (lQ38:K.lookup fQ38=some ⟨ocQ38,odQ38,.func (W.fnOf "_law_named" "_law_named" (au dg) (ao dg) (af dg) .none kVQ38 dcQ38 pmQ38 anQ38 cdQ38 ctQ38),slQ38⟩)
  (cQ38:W.codeIn K cdQ38 "_law_named"=true)
  (kQ38:W.keepIn K (.ref fQ38)=true)
  (aQ39:W.nsIn K mainGlobals "_law_earned"=some (some (.ref fQ39)))
  (lQ39:K.lookup fQ39=some ⟨ocQ39,odQ39,.func (W.fnOf "_law_earned" "_law_earned" (au cP) (ao cP) (af cP) .none kVQ39 dcQ39 pmQ39 anQ39 cdQ39 ctQ39),slQ39⟩)
  (cQ39:W.codeIn K cdQ39 "_law_earned"=true)
  (kQ39:W.keepIn K (.ref fQ39)=true)
  (aQ40:W.nsIn K mainGlobals "_law_weighed"=some (some (.ref fQ40)))
  (lQ40:K.lookup fQ40=some ⟨ocQ40,odQ40,.func (W.fnOf "_law_weighed" "_law_weighed" (au cv) (ao cv) (af cv) .none kVQ40 dcQ40 pmQ40 anQ40 cdQ40 ctQ40),slQ40⟩)
  (cQ40:W.codeIn K cdQ40 "_law_weighed"=true)
  (kQ40:W.keepIn K (.ref fQ40)=true)
  (aQ41:W.nsIn K mainGlobals "_law_amount"=some (some (.ref fQ41)))
  (lQ41:K.lookup fQ41=some ⟨ocQ41,odQ41,.func (W.fnOf "_law_amount" "_law_amount" (au cS) (ao cS) (af cS) .none kVQ41 dcQ41 pmQ41 anQ41 cdQ41 ctQ41),slQ41⟩)
  (cQ41:W.codeIn K cdQ41 "_law_amount"=true)
  (kQ41:W.keepIn K (.ref fQ41)=true)
  (aQ42:W.nsIn K mainGlobals "_law_price"=some (some (.ref fQ42)))
  (lQ42:K.lookup fQ42=some ⟨ocQ42,odQ42,.func (W.fnOf "_law_price" "_law_price" (au df) (ao df) (af df) .none kVQ42 dcQ42 pmQ42 anQ42 cdQ42 ctQ42),slQ42⟩)
  (cQ42:W.codeIn K cdQ42 "_law_price"=true)
  (kQ42:W.keepIn K (.ref fQ42)=true)
  (aQ43:W.nsIn K mainGlobals "_law_asked_way"=some (some (.ref fQ43)))
  (lQ43:K.lookup fQ43=some ⟨ocQ43,odQ43,.func (W.fnOf "_law_asked_way" "_law_asked_way" (au bM) (ao bM) (af bM) .none kVQ43 dcQ43 pmQ43 anQ43 cdQ43 ctQ43),slQ43⟩)
  (cQ43:W.codeIn K cdQ43 "_law_asked_way"=true)
  (kQ43:W.keepIn K (.ref fQ43)=true)
  (aQ44:W.nsIn K mainGlobals "_law_asked"=some (some (.ref fQ44)))
  (lQ44:K.lookup fQ44=some ⟨ocQ44,odQ44,.func (W.fnOf "_law_asked" "_law_asked" (au dm) (ao dm) (af dm) .none kVQ44 dcQ44 pmQ44 anQ44 cdQ44 ctQ44),slQ44⟩)
  (cQ44:W.codeIn K cdQ44 "_law_asked"=true)
  (kQ44:W.keepIn K (.ref fQ44)=true)
  (aQ45:W.nsIn K mainGlobals "_law_size"=some (some (.ref fQ45)))
  (lQ45:K.lookup fQ45=some ⟨ocQ45,odQ45,.func (W.fnOf "_law_size" "_law_size" (au dP) (ao dP) (af dP) .none kVQ45 dcQ45 pmQ45 anQ45 cdQ45 ctQ45),slQ45⟩)
  (cQ45:W.codeIn K cdQ45 "_law_size"=true)
  (kQ45:W.keepIn K (.ref fQ45)=true)
  (aQ46:W.nsIn K mainGlobals "_law_pair"=some (some (.ref fQ46)))
  (lQ46:K.lookup fQ46=some ⟨ocQ46,odQ46,.func (W.fnOf "_law_pair" "_law_pair" (au dR) (ao dR) (af dR) .none kVQ46 dcQ46 pmQ46 anQ46 cdQ46 ctQ46),slQ46⟩)
  (cQ46:W.codeIn K cdQ46 "_law_pair"=true)
  (kQ46:W.keepIn K (.ref fQ46)=true)
  (aQ47:W.nsIn K mainGlobals "_law_fractions"=some (some (.ref fQ47)))
  (lQ47:K.lookup fQ47=some ⟨ocQ47,odQ47,.func (W.fnOf "_law_fractions" "_law_fractions" (au bL) (ao bL) (af bL) .none kVQ47 dcQ47 pmQ47 anQ47 cdQ47 ctQ47),slQ47⟩)
  (cQ47:W.codeIn K cdQ47 "_law_fractions"=true)
  (kQ47:W.keepIn K (.ref fQ47)=true)
  (aQ48:W.nsIn K mainGlobals "_law_stays"=some (some (.ref fQ48)))
  (lQ48:K.lookup fQ48=some ⟨ocQ48,odQ48,.func (W.fnOf "_law_stays" "_law_stays" (au c9) (ao c9) (af c9) .none kVQ48 dcQ48 pmQ48 anQ48 cdQ48 ctQ48),slQ48⟩)
  (cQ48:W.codeIn K cdQ48 "_law_stays"=true)
  (kQ48:W.keepIn K (.ref fQ48)=true)
  (aQ49:W.nsIn K mainGlobals "_law_moved"=some (some (.ref fQ49)))
  (lQ49:K.lookup fQ49=some ⟨ocQ49,odQ49,.func (W.fnOf "_law_moved" "_law_moved" (au dj) (ao dj) (af dj) .none kVQ49 dcQ49 pmQ49 anQ49 cdQ49 ctQ49),slQ49⟩)
  (cQ49:W.codeIn K cdQ49 "_law_moved"=true)
  (kQ49:W.keepIn K (.ref fQ49)=true)
  (aQ50:W.nsIn K mainGlobals "_law_halved"=some (some (.ref fQ50)))
  (lQ50:K.lookup fQ50=some ⟨ocQ50,odQ50,.func (W.fnOf "_law_halved" "_law_halved" (au cO) (ao cO) (af cO) .none kVQ50 dcQ50 pmQ50 anQ50 cdQ50 ctQ50),slQ50⟩)
  (cQ50:W.codeIn K cdQ50 "_law_halved"=true)
  (kQ50:W.keepIn K (.ref fQ50)=true)
  (aQ51:W.nsIn K mainGlobals "_law_dearer"=some (some (.ref fQ51)))
  (lQ51:K.lookup fQ51=some ⟨ocQ51,odQ51,.func (W.fnOf "_law_dearer" "_law_dearer" (au cQ) (ao cQ) (af cQ) .none kVQ51 dcQ51 pmQ51 anQ51 cdQ51 ctQ51),slQ51⟩)
  (cQ51:W.codeIn K cdQ51 "_law_dearer"=true)
  (kQ51:W.keepIn K (.ref fQ51)=true)
  (aQ52:W.nsIn K mainGlobals "_law_spoilt"=some (some (.ref fQ52)))
  (lQ52:K.lookup fQ52=some ⟨ocQ52,odQ52,.func (W.fnOf "_law_spoilt" "_law_spoilt" (au cM) (ao cM) (af cM) .none kVQ52 dcQ52 pmQ52 anQ52 cdQ52 ctQ52),slQ52⟩)
  (cQ52:W.codeIn K cdQ52 "_law_spoilt"=true)
  (kQ52:W.keepIn K (.ref fQ52)=true)
  (aQ53:W.nsIn K mainGlobals "_law_told_right"=some (some (.ref fQ53)))
  (lQ53:K.lookup fQ53=some ⟨ocQ53,odQ53,.func (W.fnOf "_law_told_right" "_law_told_right" (au bz) (ao bz) (af bz) .none kVQ53 dcQ53 pmQ53 anQ53 cdQ53 ctQ53),slQ53⟩)
  (cQ53:W.codeIn K cdQ53 "_law_told_right"=true)
  (kQ53:W.keepIn K (.ref fQ53)=true)
  (aQ54:W.nsIn K mainGlobals "_law_refused"=some (some (.ref fQ54)))
  (lQ54:K.lookup fQ54=some ⟨ocQ54,odQ54,.func (W.fnOf "_law_refused" "_law_refused" (au cx) (ao cx) (af cx) .none kVQ54 dcQ54 pmQ54 anQ54 cdQ54 ctQ54),slQ54⟩)
  (cQ54:W.codeIn K cdQ54 "_law_refused"=true)
  (kQ54:W.keepIn K (.ref fQ54)=true)
  (aDlaw:W.nsIn K mainGlobals "law"=some (some (.ref fDlaw)))
  (lDlaw:K.lookup fDlaw=some ⟨ocDlaw,odDlaw,.func (W.fnOf "law" "law" (au gZ) (ao gZ) (af gZ) .none kVDlaw dcDlaw pmDlaw anDlaw cdDlaw ctDlaw),slDlaw⟩)
  (cDlaw:W.codeIn K cdDlaw "law"=true)
  (kDlaw:W.keepIn K (.ref fDlaw)=true)
  (pg_Fraction:W.plainGet K A_Fraction Str.empty=true)
  (hd_Fraction:W.hasDictIn K A_Fraction=true)
  (po_Fraction:W.plainOver K A_Fraction=true)
  (sa_Fraction:W.findIn K (.ref A_Fraction) "__setattr__"=some (some (.builtin "object.__setattr__")))
  (na_Fraction_top:W.findIn K (.ref A_Fraction) "top"=some none)
  (na_Fraction_bottom:W.findIn K (.ref A_Fraction) "bottom"=some none)
  (mk_Fraction:W.makesIn K A_Fraction=true)
  (ka_Fraction:W.keepIn K (.ref A_Fraction)=true)
  (a_Fraction_init:W.findIn K (.ref A_Fraction) "__init__"=some (some (.ref fIFraction)))
  (iIFraction:W.isFn K (.ref fIFraction)=true)
  (lIFraction:K.lookup fIFraction=some ⟨ocIFraction,odIFraction,.func (W.fnOf "__init__" "Fraction.__init__" (au bR) (ao bR) (af bR) (.ref TIFraction) kVIFraction dcIFraction pmIFraction anIFraction cdIFraction ctIFraction),slIFraction⟩)
  (cIFraction:W.codeIn K cdIFraction "Fraction.__init__"=true)
  (tIFraction:K.lookup TIFraction=some oIFraction)
  (dIFraction:oIFraction.data=.seq #[.int 1 tkIFraction0] nIFraction)
  (a_Fraction_plus:W.findIn K (.ref A_Fraction) "plus"=some (some (.ref fQ55)))
  (lQ55:K.lookup fQ55=some ⟨ocQ55,odQ55,.func (W.fnOf "plus" "Fraction.plus" (au bQ) (ao bQ) (af bQ) .none kVQ55 dcQ55 pmQ55 anQ55 cdQ55 ctQ55),slQ55⟩)
  (cQ55:W.codeIn K cdQ55 "Fraction.plus"=true)
  (kQ55:W.keepIn K (.ref fQ55)=true)
  (iQ55:W.isFn K (.ref fQ55)=true)
  (a_Fraction_minus:W.findIn K (.ref A_Fraction) "minus"=some (some (.ref fQ56)))
  (lQ56:K.lookup fQ56=some ⟨ocQ56,odQ56,.func (W.fnOf "minus" "Fraction.minus" (au bC) (ao bC) (af bC) .none kVQ56 dcQ56 pmQ56 anQ56 cdQ56 ctQ56),slQ56⟩)
  (cQ56:W.codeIn K cdQ56 "Fraction.minus"=true)
  (kQ56:W.keepIn K (.ref fQ56)=true)
  (iQ56:W.isFn K (.ref fQ56)=true)
  (a_Fraction_times:W.findIn K (.ref A_Fraction) "times"=some (some (.ref fQ57)))
  (lQ57:K.lookup fQ57=some ⟨ocQ57,odQ57,.func (W.fnOf "times" "Fraction.times" (au bB) (ao bB) (af bB) .none kVQ57 dcQ57 pmQ57 anQ57 cdQ57 ctQ57),slQ57⟩)
  (cQ57:W.codeIn K cdQ57 "Fraction.times"=true)
  (kQ57:W.keepIn K (.ref fQ57)=true)
  (iQ57:W.isFn K (.ref fQ57)=true)
  (a_Fraction_under:W.findIn K (.ref A_Fraction) "under"=some (some (.ref fQ58)))
  (lQ58:K.lookup fQ58=some ⟨ocQ58,odQ58,.func (W.fnOf "under" "Fraction.under" (au bA) (ao bA) (af bA) .none kVQ58 dcQ58 pmQ58 anQ58 cdQ58 ctQ58),slQ58⟩)
  (cQ58:W.codeIn K cdQ58 "Fraction.under"=true)
  (kQ58:W.keepIn K (.ref fQ58)=true)
  (iQ58:W.isFn K (.ref fQ58)=true)
  (a_Fraction_same:W.findIn K (.ref A_Fraction) "same"=some (some (.ref fQ59)))
  (lQ59:K.lookup fQ59=some ⟨ocQ59,odQ59,.func (W.fnOf "same" "Fraction.same" (au bP) (ao bP) (af bP) .none kVQ59 dcQ59 pmQ59 anQ59 cdQ59 ctQ59),slQ59⟩)
  (cQ59:W.codeIn K cdQ59 "Fraction.same"=true)
  (kQ59:W.keepIn K (.ref fQ59)=true)
  (iQ59:W.isFn K (.ref fQ59)=true)
  (a_Fraction_sign:W.findIn K (.ref A_Fraction) "sign"=some (some (.ref fQ60)))
  (lQ60:K.lookup fQ60=some ⟨ocQ60,odQ60,.func (W.fnOf "sign" "Fraction.sign" (au bO) (ao bO) (af bO) .none kVQ60 dcQ60 pmQ60 anQ60 cdQ60 ctQ60),slQ60⟩)
  (cQ60:W.codeIn K cdQ60 "Fraction.sign"=true)
  (kQ60:W.keepIn K (.ref fQ60)=true)
  (iQ60:W.isFn K (.ref fQ60)=true)
  (c1_Fraction:W.findIn K (.ref A_Fraction) "__class__"=some (some (.builtin "object.__class__")))
  (c4_Fraction:W.mroIn K A_Fraction (.type "object")=some true)
  (pg_Way:W.plainGet K A_Way Str.empty=true)
  (hd_Way:W.hasDictIn K A_Way=true)
  (po_Way:W.plainOver K A_Way=true)
  (sa_Way:W.findIn K (.ref A_Way) "__setattr__"=some (some (.builtin "object.__setattr__")))
  (na_Way_name:W.findIn K (.ref A_Way) "name"=some none)
  (na_Way_start:W.findIn K (.ref A_Way) "start"=some none)
  (na_Way_goal:W.findIn K (.ref A_Way) "goal"=some none)
  (na_Way_high:W.findIn K (.ref A_Way) "high"=some none)
  (na_Way_cost:W.findIn K (.ref A_Way) "cost"=some none)
  (mk_Way:W.makesIn K A_Way=true)
  (ka_Way:W.keepIn K (.ref A_Way)=true)
  (a_Way_init:W.findIn K (.ref A_Way) "__init__"=some (some (.ref fIWay)))
  (iIWay:W.isFn K (.ref fIWay)=true)
  (lIWay:K.lookup fIWay=some ⟨ocIWay,odIWay,.func (W.fnOf "__init__" "Way.__init__" (au cG) (ao cG) (af cG) (.ref TIWay) kVIWay dcIWay pmIWay anIWay cdIWay ctIWay),slIWay⟩)
  (cIWay:W.codeIn K cdIWay "Way.__init__"=true)
  (tIWay:K.lookup TIWay=some oIWay)
  (dIWay:oIWay.data=.seq #[.none,.none] nIWay)
  (rd_Way:W.readsIn K A_Way (.type "type")=true)
  (sg_Way:W.specialIn K (.ref A_Way) "__getattribute__"=some (some (.builtin "type.__getattribute__")))
  (fc_Way:W.findCls K (.ref A_Way) (.type "type") "__init__"=some (.val (.ref fIWay)))
  (kc_Way:W.keepIn K (.ref fIWay)=true)
  (a_Way_gain:W.findIn K (.ref A_Way) "gain"=some (some (.ref fQ61)))
  (lQ61:K.lookup fQ61=some ⟨ocQ61,odQ61,.func (W.fnOf "gain" "Way.gain" (au d6) (ao d6) (af d6) .none kVQ61 dcQ61 pmQ61 anQ61 cdQ61 ctQ61),slQ61⟩)
  (cQ61:W.codeIn K cdQ61 "Way.gain"=true)
  (kQ61:W.keepIn K (.ref fQ61)=true)
  (iQ61:W.isFn K (.ref fQ61)=true)
  (a_Way_out:W.findIn K (.ref A_Way) "out"=some (some (.ref fQ62)))
  (lQ62:K.lookup fQ62=some ⟨ocQ62,odQ62,.func (W.fnOf "out" "Way.out" (au cA) (ao cA) (af cA) .none kVQ62 dcQ62 pmQ62 anQ62 cdQ62 ctQ62),slQ62⟩)
  (cQ62:W.codeIn K cdQ62 "Way.out"=true)
  (kQ62:W.keepIn K (.ref fQ62)=true)
  (iQ62:W.isFn K (.ref fQ62)=true)
  (c1_Way:W.findIn K (.ref A_Way) "__class__"=some (some (.builtin "object.__class__")))
  (c4_Way:W.mroIn K A_Way (.type "object")=some true)
  (pg_Growing:W.plainGet K A_Growing Str.empty=true)
  (hd_Growing:W.hasDictIn K A_Growing=true)
  (po_Growing:W.plainOver K A_Growing=true)
  (sa_Growing:W.findIn K (.ref A_Growing) "__setattr__"=some (some (.builtin "object.__setattr__")))
  (na_Growing_rate:W.findIn K (.ref A_Growing) "rate"=some none)
  (na_Growing_name:W.findIn K (.ref A_Growing) "name"=some none)
  (na_Growing_start:W.findIn K (.ref A_Growing) "start"=some none)
  (na_Growing_goal:W.findIn K (.ref A_Growing) "goal"=some none)
  (na_Growing_high:W.findIn K (.ref A_Growing) "high"=some none)
  (na_Growing_cost:W.findIn K (.ref A_Growing) "cost"=some none)
  (ia:W.makesIn K A_Growing=true)
  (ka_Growing:W.keepIn K (.ref A_Growing)=true)
  (a_Growing_init:W.findIn K (.ref A_Growing) "__init__"=some (some (.ref fIGrowing)))
  (iIGrowing:W.isFn K (.ref fIGrowing)=true)
  (lIGrowing:K.lookup fIGrowing=some ⟨ocIGrowing,odIGrowing,.func (W.fnOf "__init__" "Growing.__init__" (au bG) (ao bG) (af bG) (.ref TIGrowing) kVIGrowing dcIGrowing pmIGrowing anIGrowing cdIGrowing ctIGrowing),slIGrowing⟩)
  (cIGrowing:W.codeIn K cdIGrowing "Growing.__init__"=true)
  (tIGrowing:K.lookup TIGrowing=some oIGrowing)
  (dIGrowing:oIGrowing.data=.seq #[.none,.none] nIGrowing)
  (a_Growing_gain:W.findIn K (.ref A_Growing) "gain"=some (some (.ref fQ63)))
  (lQ63:K.lookup fQ63=some ⟨ocQ63,odQ63,.func (W.fnOf "gain" "Growing.gain" (au b7) (ao b7) (af b7) .none kVQ63 dcQ63 pmQ63 anQ63 cdQ63 ctQ63),slQ63⟩)
  (cQ63:W.codeIn K cdQ63 "Growing.gain"=true)
  (kQ63:W.keepIn K (.ref fQ63)=true)
  (iQ63:W.isFn K (.ref fQ63)=true)
  (a_Growing_out:W.findIn K (.ref A_Growing) "out"=some (some (.ref fQ62)))
  (c1_Growing:W.findIn K (.ref A_Growing) "__class__"=some (some (.builtin "object.__class__")))
  (c4_Growing:W.mroIn K A_Growing (.type "object")=some true)
  (pg_Leaking:W.plainGet K A_Leaking Str.empty=true)
  (hd_Leaking:W.hasDictIn K A_Leaking=true)
  (po_Leaking:W.plainOver K A_Leaking=true)
  (sa_Leaking:W.findIn K (.ref A_Leaking) "__setattr__"=some (some (.builtin "object.__setattr__")))
  (na_Leaking_loss:W.findIn K (.ref A_Leaking) "loss"=some none)
  (na_Leaking_name:W.findIn K (.ref A_Leaking) "name"=some none)
  (na_Leaking_start:W.findIn K (.ref A_Leaking) "start"=some none)
  (na_Leaking_goal:W.findIn K (.ref A_Leaking) "goal"=some none)
  (na_Leaking_high:W.findIn K (.ref A_Leaking) "high"=some none)
  (na_Leaking_cost:W.findIn K (.ref A_Leaking) "cost"=some none)
  (hZ:W.makesIn K A_Leaking=true)
  (ka_Leaking:W.keepIn K (.ref A_Leaking)=true)
  (a_Leaking_init:W.findIn K (.ref A_Leaking) "__init__"=some (some (.ref fILeaking)))
  (iILeaking:W.isFn K (.ref fILeaking)=true)
  (lILeaking:K.lookup fILeaking=some ⟨ocILeaking,odILeaking,.func (W.fnOf "__init__" "Leaking.__init__" (au bF) (ao bF) (af bF) (.ref TILeaking) kVILeaking dcILeaking pmILeaking anILeaking cdILeaking ctILeaking),slILeaking⟩)
  (cILeaking:W.codeIn K cdILeaking "Leaking.__init__"=true)
  (tILeaking:K.lookup TILeaking=some oILeaking)
  (dILeaking:oILeaking.data=.seq #[.none,.none] nILeaking)
  (a_Leaking_gain:W.findIn K (.ref A_Leaking) "gain"=some (some (.ref fQ64)))
  (lQ64:K.lookup fQ64=some ⟨ocQ64,odQ64,.func (W.fnOf "gain" "Leaking.gain" (au bj) (ao bj) (af bj) .none kVQ64 dcQ64 pmQ64 anQ64 cdQ64 ctQ64),slQ64⟩)
  (cQ64:W.codeIn K cdQ64 "Leaking.gain"=true)
  (kQ64:W.keepIn K (.ref fQ64)=true)
  (iQ64:W.isFn K (.ref fQ64)=true)
  (a_Leaking_out:W.findIn K (.ref A_Leaking) "out"=some (some (.ref fQ62)))
  (c1_Leaking:W.findIn K (.ref A_Leaking) "__class__"=some (some (.builtin "object.__class__")))
  (c4_Leaking:W.mroIn K A_Leaking (.type "object")=some true)
  (pg_Store:W.plainGet K A_Store Str.empty=true)
  (hd_Store:W.hasDictIn K A_Store=true)
  (po_Store:W.plainOver K A_Store=true)
  (sa_Store:W.findIn K (.ref A_Store) "__setattr__"=some (some (.builtin "object.__setattr__")))
  (na_Store_loss:W.findIn K (.ref A_Store) "loss"=some none)
  (na_Store_name:W.findIn K (.ref A_Store) "name"=some none)
  (na_Store_start:W.findIn K (.ref A_Store) "start"=some none)
  (na_Store_goal:W.findIn K (.ref A_Store) "goal"=some none)
  (na_Store_high:W.findIn K (.ref A_Store) "high"=some none)
  (na_Store_cost:W.findIn K (.ref A_Store) "cost"=some none)
  (a_Store_gain:W.findIn K (.ref A_Store) "gain"=some (some (.ref fQ64)))
  (a_Store_out:W.findIn K (.ref A_Store) "out"=some (some (.ref fQ62)))
  (c1_Store:W.findIn K (.ref A_Store) "__class__"=some (some (.builtin "object.__class__")))
  (c4_Store:W.mroIn K A_Store (.type "object")=some true)
  (pg_Net:W.plainGet K A_Net Str.empty=true)
  (hd_Net:W.hasDictIn K A_Net=true)
  (po_Net:W.plainOver K A_Net=true)
  (sa_Net:W.findIn K (.ref A_Net) "__setattr__"=some (some (.builtin "object.__setattr__")))
  (na_Net_wants:W.findIn K (.ref A_Net) "wants"=some none)
  (na_Net_ways:W.findIn K (.ref A_Net) "ways"=some none)
  (mk_Net:W.makesIn K A_Net=true)
  (ka_Net:W.keepIn K (.ref A_Net)=true)
  (a_Net_init:W.findIn K (.ref A_Net) "__init__"=some (some (.ref fQ65)))
  (iQ65:W.isFn K (.ref fQ65)=true)
  (lQ65:K.lookup fQ65=some ⟨ocQ65,odQ65,.func (W.fnOf "__init__" "Net.__init__" (au d8) (ao d8) (af d8) .none kVQ65 dcQ65 pmQ65 anQ65 cdQ65 ctQ65),slQ65⟩)
  (cQ65:W.codeIn K cdQ65 "Net.__init__"=true)
  (kQ65:W.keepIn K (.ref fQ65)=true)
  (a_Net_names:W.findIn K (.ref A_Net) "names"=some (some (.ref fQ66)))
  (lQ66:K.lookup fQ66=some ⟨ocQ66,odQ66,.func (W.fnOf "names" "Net.names" (au du) (ao du) (af du) .none kVQ66 dcQ66 pmQ66 anQ66 cdQ66 ctQ66),slQ66⟩)
  (cQ66:W.codeIn K cdQ66 "Net.names"=true)
  (kQ66:W.keepIn K (.ref fQ66)=true)
  (iQ66:W.isFn K (.ref fQ66)=true)
  (a_Net_want:W.findIn K (.ref A_Net) "want"=some (some (.ref fQ67)))
  (lQ67:K.lookup fQ67=some ⟨ocQ67,odQ67,.func (W.fnOf "want" "Net.want" (au d7) (ao d7) (af d7) .none kVQ67 dcQ67 pmQ67 anQ67 cdQ67 ctQ67),slQ67⟩)
  (cQ67:W.codeIn K cdQ67 "Net.want"=true)
  (kQ67:W.keepIn K (.ref fQ67)=true)
  (iQ67:W.isFn K (.ref fQ67)=true)
  (a_Net_way:W.findIn K (.ref A_Net) "way"=some (some (.ref fQ68)))
  (lQ68:K.lookup fQ68=some ⟨ocQ68,odQ68,.func (W.fnOf "way" "Net.way" (au fj) (ao fj) (af fj) .none kVQ68 dcQ68 pmQ68 anQ68 cdQ68 ctQ68),slQ68⟩)
  (cQ68:W.codeIn K cdQ68 "Net.way"=true)
  (kQ68:W.keepIn K (.ref fQ68)=true)
  (iQ68:W.isFn K (.ref fQ68)=true)
  (a_Net_all_ways:W.findIn K (.ref A_Net) "all_ways"=some (some (.ref fQ69)))
  (lQ69:K.lookup fQ69=some ⟨ocQ69,odQ69,.func (W.fnOf "all_ways" "Net.all_ways" (au b6) (ao b6) (af b6) .none kVQ69 dcQ69 pmQ69 anQ69 cdQ69 ctQ69),slQ69⟩)
  (cQ69:W.codeIn K cdQ69 "Net.all_ways"=true)
  (kQ69:W.keepIn K (.ref fQ69)=true)
  (iQ69:W.isFn K (.ref fQ69)=true)
  (no_Net_times:W.findIn K (.ref A_Net) "times"=some none)
  (no_Net_out:W.findIn K (.ref A_Net) "out"=some none)
  (c2:W.specialIn K (.builtin "object.__class__") "__get__"=some (some (.builtin "getset_descriptor.__get__")))
  (c3:W.takesIn K (.builtin "object.__class__")=some true)
  (a_NoPlace_xinit:W.findIn K (.ref A_NoPlace) "__init__"=some (some (.ref fQ70)))
  (lQ70:K.lookup fQ70=some ⟨ocQ70,odQ70,.func (W.fnOf "__init__" "NoPlace.__init__" (au bE) (ao bE) (af bE) .none kVQ70 dcQ70 pmQ70 anQ70 cdQ70 ctQ70),slQ70⟩)
  (cQ70:W.codeIn K cdQ70 "NoPlace.__init__"=true)
  (kQ70:W.keepIn K (.ref fQ70)=true)
  (tQ70:W.typeIn K (.ref fQ70)=some (.type "function"))
  (eQ70:excFI K A_NoPlace bmV "ValueError.__new__"=some fQ70)
  (xc_NoPlace:W.clsIn K A_NoPlace=some cdx_NoPlace)
  (xm_NoPlace:cdx_NoPlace.mro=[A_NoPlace,A_GainError].map Value.ref++bmV)
  (xh_NoPlace:cdx_NoPlace.hasDict=true)
  (xa_NoPlace:W.findIn K (.ref A_NoPlace) "__setattr__"=some (some (.builtin "object.__setattr__")))
  (na_NoPlace_place:W.findIn K (.ref A_NoPlace) "place"=some none)
  (hd_NoPlace:W.hasDictIn K A_NoPlace=true)
  (rdx_NoPlace:W.readsIn K A_GainError (.type "type")=true)
  (sgx_NoPlace:W.specialIn K (.ref A_GainError) "__getattribute__"=some (some (.builtin "type.__getattribute__")))
  (bf_NoPlace:W.findCls K (.ref A_GainError) (.type "type") "__init__"=some (.val (.builtin "ValueError.__init__")))
  (ca1_NoPlace:W.instIn K (.ref A_NoPlace) (.type "tuple")=some false)
  (ca2_NoPlace:W.clsIn K A_NoPlace=some cd_ca2_NoPlace)
  (ca3_NoPlace:W.subIn K (.ref A_NoPlace) (.type "BaseException")=some true)
  (su_NoPlace_NoPlace:W.subIn K (.ref A_NoPlace) (.ref A_NoPlace)=some true)
  (k_Fraction_Fraction:W.kitOne K (.ref A_Fraction) (.ref A_Fraction)=some true)
  (k_Way_Store:W.kitOne K (.ref A_Way) (.ref A_Store)=some false)
  (k_Growing_Store:W.kitOne K (.ref A_Growing) (.ref A_Store)=some false)
  (k_Leaking_Store:W.kitOne K (.ref A_Leaking) (.ref A_Store)=some false)
  (k_int_bool:W.kitOne K (.type "int") (.type "bool")=some false)
  (k_bool_bool:W.kitOne K (.type "bool") (.type "bool")=some true)
  (k_int_int:W.kitOne K (.type "int") (.type "int")=some true)
  (xga_NoPlace:W.findIn K (.ref A_NoPlace) "__getattribute__"=some (some (.builtin "BaseException.__getattribute__")))
  (xgh_NoPlace:W.findIn K (.ref A_NoPlace) "__getattr__"=some none)
  (xbe_NoPlace:W.mroIn K A_NoPlace (.type "BaseException")=some true)
  (xca_NoPlace:W.findIn K (.ref A_NoPlace) "__class__"=some (some (.builtin "object.__class__")))
  (xob_NoPlace:W.mroIn K A_NoPlace (.type "object")=some true)
  (xcl_NoPlace:W.clsIn K A_NoPlace=some cd_xcl_NoPlace)
  (k_NoPlace_GainError:W.kitOne K (.ref A_NoPlace) (.ref A_GainError)=some true)
  (k_NoPlace_NoWay:W.kitOne K (.ref A_NoPlace) (.ref A_NoWay)=some false)
  (gi_MOST_PLACES:W.nsIn K mainGlobals "MOST_PLACES"=some (some (.int 12 tk_MOST_PLACES)))
  (gi_MOST_WAYS:W.nsIn K mainGlobals "MOST_WAYS"=some (some (.int 24 tk_MOST_WAYS)))
  (z_abs:W.nsIn K mainGlobals "abs"=some none)
  (z_all:W.nsIn K mainGlobals "all"=some none)
  (z_bool:W.nsIn K mainGlobals "bool"=some none)
  (z_dict:W.nsIn K mainGlobals "dict"=some none)
  (z_enumerate:W.nsIn K mainGlobals "enumerate"=some none)
  (z_int:W.nsIn K mainGlobals "int"=some none)
  (z_isinstance:W.nsIn K mainGlobals "isinstance"=some none)
  (z_len:W.nsIn K mainGlobals "len"=some none)
  (z_list:W.nsIn K mainGlobals "list"=some none)
  (z_range:W.nsIn K mainGlobals "range"=some none)
  (z_zip:W.nsIn K mainGlobals "zip"=some none) :
  ∃ fd:FuncData,(∀ (s:Shared) (v:Value),BindsTo s fd ⟨[v],[]⟩ [("_law_script",v)])∧∀ base:Heap,K.In base→base.Ns mainGlobals mg→FnOk l.prog w K mg base CX0 14 fa fd ["_law_script"] (spLaw K):=by
 have e:=hfa.symm.trans (jb X G aDlaw)
 cases e
 have N_Q0:=aC (st:=fe) lQ0 cQ0 kQ0
 have N_Q1:=aC (st:=bp) lQ1 cQ1 kQ1
 have N_Q2:=aC (st:=gP) lQ2 cQ2 kQ2
 have N_Q3:=aC (st:=fQ) lQ3 cQ3 kQ3
 have N_Q4:=aC (st:=aW) lQ4 cQ4 kQ4
 have N_Q5:=aC (st:=bf) lQ5 cQ5 kQ5
 have N_Q6:=aC (st:=s_sums) lQ6 cQ6 kQ6
 have N_Q7:=aC (st:=b5) lQ7 cQ7 kQ7
 have N_Q8:=aC (st:=cu) lQ8 cQ8 kQ8
 have N_Q9:=aC (st:=fO) lQ9 cQ9 kQ9
 have N_Q10:=aC (st:=cq) lQ10 cQ10 kQ10
 have N_Q11:=aC (st:=fg) lQ11 cQ11 kQ11
 have N_Q12:=aC (st:=dZ) lQ12 cQ12 kQ12
 have N_Q13:=aC (st:=fP) lQ13 cQ13 kQ13
 have N_Q14:=aC (st:=bN) lQ14 cQ14 kQ14
 have N_Q15:=aC (st:=fN) lQ15 cQ15 kQ15
 have N_Q16:=aC (st:=cL) lQ16 cQ16 kQ16
 have N_Q17:=aC (st:=cK) lQ17 cQ17 kQ17
 have N_Q18:=aC (st:=bx) lQ18 cQ18 kQ18
 have N_Q19:=aC (st:=cJ) lQ19 cQ19 kQ19
 have N_Q20:=aC (st:=bJ) lQ20 cQ20 kQ20
 have N_Q21:=aC (st:=dn) lQ21 cQ21 kQ21
 have N_Q22:=aC (st:=b4) lQ22 cQ22 kQ22
 have N_Q23:=aC (st:=cz) lQ23 cQ23 kQ23
 have N_Q24:=aC (st:=dQ) lQ24 cQ24 kQ24
 have N_Q25:=aC (st:=dW) lQ25 cQ25 kQ25
 have N_Q26:=aC (st:=c8) lQ26 cQ26 kQ26
 have N_Q27:=aC (st:=dS) lQ27 cQ27 kQ27
 have N_Q28:=aC (st:=dU) lQ28 cQ28 kQ28
 have N_Q29:=aC (st:=cN) lQ29 cQ29 kQ29
 have N_Q30:=aC (st:=bK) lQ30 cQ30 kQ30
 have N_Q31:=aC (st:=dX) lQ31 cQ31 kQ31
 have N_Q32:=aC (st:=cy) lQ32 cQ32 kQ32
 have N_Q33:=aC (st:=dY) lQ33 cQ33 kQ33
 have N_Q34:=aC (st:=fb) lQ34 cQ34 kQ34
 have N_Q35:=aC (st:=dl) lQ35 cQ35 kQ35
 have N_Q36:=aC (st:=dO) lQ36 cQ36 kQ36
 have N_Q37:=aC (st:=dk) lQ37 cQ37 kQ37
 have N_Q38:=aC (st:=dg) lQ38 cQ38 kQ38
 have N_Q39:=aC (st:=cP) lQ39 cQ39 kQ39
 have N_Q40:=aC (st:=cv) lQ40 cQ40 kQ40
 have N_Q41:=aC (st:=cS) lQ41 cQ41 kQ41
 have N_Q42:=aC (st:=df) lQ42 cQ42 kQ42
 have N_Q43:=aC (st:=bM) lQ43 cQ43 kQ43
 have N_Q44:=aC (st:=dm) lQ44 cQ44 kQ44
 have N_Q45:=aC (st:=dP) lQ45 cQ45 kQ45
 have N_Q46:=aC (st:=dR) lQ46 cQ46 kQ46
 have N_Q47:=aC (st:=bL) lQ47 cQ47 kQ47
 have N_Q48:=aC (st:=c9) lQ48 cQ48 kQ48
 have N_Q49:=aC (st:=dj) lQ49 cQ49 kQ49
 have N_Q50:=aC (st:=cO) lQ50 cQ50 kQ50
 have N_Q51:=aC (st:=cQ) lQ51 cQ51 kQ51
 have N_Q52:=aC (st:=cM) lQ52 cQ52 kQ52
 have N_Q53:=aC (st:=bz) lQ53 cQ53 kQ53
 have N_Q54:=aC (st:=cx) lQ54 cQ54 kQ54
 have N_Dlaw:=aC (st:=gZ) lDlaw cDlaw kDlaw
 have N_IFraction:=funD_mk (st:=bR) lIFraction cIFraction tIFraction dIFraction
 have N_Q55:=aC (st:=bQ) lQ55 cQ55 kQ55
 have N_Q56:=aC (st:=bC) lQ56 cQ56 kQ56
 have N_Q57:=aC (st:=bB) lQ57 cQ57 kQ57
 have N_Q58:=aC (st:=bA) lQ58 cQ58 kQ58
 have N_Q59:=aC (st:=bP) lQ59 cQ59 kQ59
 have N_Q60:=aC (st:=bO) lQ60 cQ60 kQ60
 have N_IWay:=funD_mk (st:=cG) lIWay cIWay tIWay dIWay
 have N_Q61:=aC (st:=d6) lQ61 cQ61 kQ61
 have N_Q62:=aC (st:=cA) lQ62 cQ62 kQ62
 have N_IGrowing:=funD_mk (st:=bG) lIGrowing cIGrowing tIGrowing dIGrowing
 have N_Q63:=aC (st:=b7) lQ63 cQ63 kQ63
 have N_ILeaking:=funD_mk (st:=bF) lILeaking cILeaking tILeaking dILeaking
 have N_Q64:=aC (st:=bj) lQ64 cQ64 kQ64
 have N_Q65:=aC (st:=d8) lQ65 cQ65 kQ65
 have N_Q66:=aC (st:=du) lQ66 cQ66 kQ66
 have N_Q67:=aC (st:=d7) lQ67 cQ67 kQ67
 have N_Q68:=aC (st:=fj) lQ68 cQ68 kQ68
 have N_Q69:=aC (st:=b6) lQ69 cQ69 kQ69
 have N_Q70:=aC (st:=bE) lQ70 cQ70 kQ70
 have T:TX K mg ⟨A_Fraction,A_Way,A_Growing,A_Leaking,A_Store,A_Net,A_GainError,A_NoNumber,A_TooMany,A_NoStrand,A_NoWay,A_Broken,A_Twice,A_NoPlace⟩:={
  d_divisor:=⟨_,_,N_Q0,jb X G aQ0,N_Q0.binds (ps:=["one","other"]) fun _ _ _ _ _ _ us hl=>by obtain ⟨_,_,rfl⟩:=lm2 us hl;exact rfl⟩
  d_in_lowest_terms:=⟨_,_,N_Q1,jb X G aQ1,N_Q1.binds (ps:=["top","bottom"]) fun _ _ _ _ _ _ us hl=>by obtain ⟨_,_,rfl⟩:=lm2 us hl;exact rfl⟩
  d_total:=⟨_,_,N_Q2,jb X G aQ2,N_Q2.binds (ps:=["some"]) fun _ _ _ _ _ _ us hl=>by obtain ⟨_,rfl⟩:=lm1 us hl;exact rfl⟩
  d_amount:=⟨_,_,N_Q3,jb X G aQ3,N_Q3.binds (ps:=["plan","name"]) fun _ _ _ _ _ _ us hl=>by obtain ⟨_,_,rfl⟩:=lm2 us hl;exact rfl⟩
  d_refuse_other_names:=⟨_,_,N_Q4,jb X G aQ4,N_Q4.binds (ps:=["net","plan"]) fun _ _ _ _ _ _ us hl=>by obtain ⟨_,_,rfl⟩:=lm2 us hl;exact rfl⟩
  d_sums_of_own_ways:=⟨_,_,N_Q5,jb X G aQ5,N_Q5.binds (ps:=["net","plan"]) fun _ _ _ _ _ _ us hl=>by obtain ⟨_,_,rfl⟩:=lm2 us hl;exact rfl⟩
  d_sums:=⟨_,_,N_Q6,jb X G aQ6,N_Q6.binds (ps:=["net","plan"]) fun _ _ _ _ _ _ us hl=>by obtain ⟨_,_,rfl⟩:=lm2 us hl;exact rfl⟩
  d_bound_passed:=⟨_,_,N_Q7,jb X G aQ7,N_Q7.binds (ps:=["way","part"]) fun _ _ _ _ _ _ us hl=>by obtain ⟨_,_,rfl⟩:=lm2 us hl;exact rfl⟩
  d_other_names:=⟨_,_,N_Q8,jb X G aQ8,N_Q8.binds (ps:=["net","plan"]) fun _ _ _ _ _ _ us hl=>by obtain ⟨_,_,rfl⟩:=lm2 us hl;exact rfl⟩
  d_faults:=⟨_,_,N_Q9,jb X G aQ9,N_Q9.binds (ps:=["net","plan"]) fun _ _ _ _ _ _ us hl=>by obtain ⟨_,_,rfl⟩:=lm2 us hl;exact rfl⟩
  d_strand_plan:=⟨_,_,N_Q10,jb X G aQ10,N_Q10.binds (ps:=["net","strand"]) fun _ _ _ _ _ _ us hl=>by obtain ⟨_,_,rfl⟩:=lm2 us hl;exact rfl⟩
  d_are_fit:=⟨_,_,N_Q11,jb X G aQ11,N_Q11.binds (ps:=["numbers","names"]) fun _ _ _ _ _ _ us hl=>by obtain ⟨_,_,rfl⟩:=lm2 us hl;exact rfl⟩
  d_is_paper:=⟨_,_,N_Q12,jb X G aQ12,N_Q12.binds (ps:=["net","prices","bounds"]) fun _ _ _ _ _ _ us hl=>by obtain ⟨_,_,_,rfl⟩:=lm3 us hl;exact rfl⟩
  d_earned:=⟨_,_,N_Q13,jb X G aQ13,N_Q13.binds (ps:=["way","prices","bounds"]) fun _ _ _ _ _ _ us hl=>by obtain ⟨_,_,_,rfl⟩:=lm3 us hl;exact rfl⟩
  d_earns_nothing:=⟨_,_,N_Q14,jb X G aQ14,N_Q14.binds (ps:=["net","prices","bounds"]) fun _ _ _ _ _ _ us hl=>by obtain ⟨_,_,_,rfl⟩:=lm3 us hl;exact rfl⟩
  d_weight:=⟨_,_,N_Q15,jb X G aQ15,N_Q15.binds (ps:=["net","prices","bounds"]) fun _ _ _ _ _ _ us hl=>by obtain ⟨_,_,_,rfl⟩:=lm3 us hl;exact rfl⟩
  d_shows_lack:=⟨_,_,N_Q16,jb X G aQ16,N_Q16.binds (ps:=["net","weights","bounds"]) fun _ _ _ _ _ _ us hl=>by obtain ⟨_,_,_,rfl⟩:=lm3 us hl;exact rfl⟩
  d_shows_more:=⟨_,_,N_Q17,jb X G aQ17,N_Q17.binds (ps:=["net","plan","strand"]) fun _ _ _ _ _ _ us hl=>by obtain ⟨_,_,_,rfl⟩:=lm3 us hl;exact rfl⟩
  d_shows_greatest:=⟨_,_,N_Q18,jb X G aQ18,N_Q18.binds (ps:=["net","place","answer"]) fun _ _ _ _ _ _ us hl=>by obtain ⟨_,_,_,rfl⟩:=lm3 us hl;exact rfl⟩
  d_shows_most:=⟨_,_,N_Q19,jb X G aQ19,N_Q19.binds (ps:=["net","place","answer"]) fun _ _ _ _ _ _ us hl=>by obtain ⟨_,_,_,rfl⟩:=lm3 us hl;exact rfl⟩
  d_wants_by_name:=⟨_,_,N_Q20,jb X G aQ20,N_Q20.binds (ps:=["places"]) fun _ _ _ _ _ _ us hl=>by obtain ⟨_,rfl⟩:=lm1 us hl;exact rfl⟩
  d_check_way:=⟨_,_,N_Q21,jb X G aQ21,N_Q21.binds (ps:=["way","ahead","wants"]) fun _ _ _ _ _ _ us hl=>by obtain ⟨_,_,_,rfl⟩:=lm3 us hl;exact rfl⟩
  d_ways_by_name:=⟨_,_,N_Q22,jb X G aQ22,N_Q22.binds (ps:=["ways","wants"]) fun _ _ _ _ _ _ us hl=>by obtain ⟨_,_,rfl⟩:=lm2 us hl;exact rfl⟩
  d_law_cell_at:=⟨_,_,N_Q23,jb X G aQ23,N_Q23.binds (ps:=["_law_script","_law_k"]) fun _ _ _ _ _ _ us hl=>by obtain ⟨_,_,rfl⟩:=lm2 us hl;exact rfl⟩
  d_law_plus:=⟨_,_,N_Q24,jb X G aQ24,N_Q24.binds (ps:=["_law_one","_law_other"]) fun _ _ _ _ _ _ us hl=>by obtain ⟨_,_,rfl⟩:=lm2 us hl;exact rfl⟩
  d_law_less:=⟨_,_,N_Q25,jb X G aQ25,N_Q25.binds (ps:=["_law_one","_law_other"]) fun _ _ _ _ _ _ us hl=>by obtain ⟨_,_,rfl⟩:=lm2 us hl;exact rfl⟩
  d_law_times:=⟨_,_,N_Q26,jb X G aQ26,N_Q26.binds (ps:=["_law_one","_law_other"]) fun _ _ _ _ _ _ us hl=>by obtain ⟨_,_,rfl⟩:=lm2 us hl;exact rfl⟩
  d_law_over:=⟨_,_,N_Q27,jb X G aQ27,N_Q27.binds (ps:=["_law_one","_law_other"]) fun _ _ _ _ _ _ us hl=>by obtain ⟨_,_,rfl⟩:=lm2 us hl;exact rfl⟩
  d_law_name:=⟨_,_,N_Q28,jb X G aQ28,N_Q28.binds (ps:=["_law_at","_law_cell"]) fun _ _ _ _ _ _ us hl=>by obtain ⟨_,_,rfl⟩:=lm2 us hl;exact rfl⟩
  d_law_number:=⟨_,_,N_Q29,jb X G aQ29,N_Q29.binds (ps:=["_law_cell"]) fun _ _ _ _ _ _ us hl=>by obtain ⟨_,rfl⟩:=lm1 us hl;exact rfl⟩
  d_law_not_under:=⟨_,_,N_Q30,jb X G aQ30,N_Q30.binds (ps:=["_law_cell"]) fun _ _ _ _ _ _ us hl=>by obtain ⟨_,rfl⟩:=lm1 us hl;exact rfl⟩
  d_law_high:=⟨_,_,N_Q31,jb X G aQ31,N_Q31.binds (ps:=["_law_cell"]) fun _ _ _ _ _ _ us hl=>by obtain ⟨_,rfl⟩:=lm1 us hl;exact rfl⟩
  d_law_gain_by:=⟨_,_,N_Q32,jb X G aQ32,N_Q32.binds (ps:=["_law_cell"]) fun _ _ _ _ _ _ us hl=>by obtain ⟨_,rfl⟩:=lm1 us hl;exact rfl⟩
  d_law_ends:=⟨_,_,N_Q33,jb X G aQ33,N_Q33.binds (ps:=["_law_cell","_law_places"]) fun _ _ _ _ _ _ us hl=>by obtain ⟨_,_,rfl⟩:=lm2 us hl;exact rfl⟩
  d_law_way:=⟨_,_,N_Q34,jb X G aQ34,N_Q34.binds (ps:=["_law_way_here"]) fun _ _ _ _ _ _ us hl=>by obtain ⟨_,rfl⟩:=lm1 us hl;exact rfl⟩
  d_law_built:=⟨_,_,N_Q35,jb X G aQ35,N_Q35.binds (ps:=["_law_told"]) fun _ _ _ _ _ _ us hl=>by obtain ⟨_,rfl⟩:=lm1 us hl;exact rfl⟩
  d_law_sums:=⟨_,_,N_Q36,jb X G aQ36,N_Q36.binds (ps:=["_law_told","_law_plan"]) fun _ _ _ _ _ _ us hl=>by obtain ⟨_,_,rfl⟩:=lm2 us hl;exact rfl⟩
  d_law_meets:=⟨_,_,N_Q37,jb X G aQ37,N_Q37.binds (ps:=["_law_told","_law_plan"]) fun _ _ _ _ _ _ us hl=>by obtain ⟨_,_,rfl⟩:=lm2 us hl;exact rfl⟩
  d_law_named:=⟨_,_,N_Q38,jb X G aQ38,N_Q38.binds (ps:=["_law_told","_law_prices","_law_highs"]) fun _ _ _ _ _ _ us hl=>by obtain ⟨_,_,_,rfl⟩:=lm3 us hl;exact rfl⟩
  d_law_earned:=⟨_,_,N_Q39,jb X G aQ39,N_Q39.binds (ps:=["_law_way_here","_law_prices","_law_highs"]) fun _ _ _ _ _ _ us hl=>by obtain ⟨_,_,_,rfl⟩:=lm3 us hl;exact rfl⟩
  d_law_weighed:=⟨_,_,N_Q40,jb X G aQ40,N_Q40.binds (ps:=["_law_told","_law_prices","_law_highs"]) fun _ _ _ _ _ _ us hl=>by obtain ⟨_,_,_,rfl⟩:=lm3 us hl;exact rfl⟩
  d_law_amount:=⟨_,_,N_Q41,jb X G aQ41,N_Q41.binds (ps:=["_law_told","_law_place","_law_answer"]) fun _ _ _ _ _ _ us hl=>by obtain ⟨_,_,_,rfl⟩:=lm3 us hl;exact rfl⟩
  d_law_price:=⟨_,_,N_Q42,jb X G aQ42,N_Q42.binds (ps:=["_law_cell"]) fun _ _ _ _ _ _ us hl=>by obtain ⟨_,rfl⟩:=lm1 us hl;exact rfl⟩
  d_law_asked_way:=⟨_,_,N_Q43,jb X G aQ43,N_Q43.binds (ps:=["_law_script","_law_at","_law_places","_law_prices","_law_name_here"]) fun _ _ _ _ _ _ us hl=>by obtain ⟨_,_,_,_,_,rfl⟩:=lm5 us hl;exact rfl⟩
  d_law_asked:=⟨_,_,N_Q44,jb X G aQ44,N_Q44.binds (ps:=["_law_script","_law_size_here","_law_many"]) fun _ _ _ _ _ _ us hl=>by obtain ⟨_,_,_,rfl⟩:=lm3 us hl;exact rfl⟩
  d_law_size:=⟨_,_,N_Q45,jb X G aQ45,N_Q45.binds (ps:=["_law_script"]) fun _ _ _ _ _ _ us hl=>by obtain ⟨_,rfl⟩:=lm1 us hl;exact rfl⟩
  d_law_pair:=⟨_,_,N_Q46,jb X G aQ46,N_Q46.binds (ps:=["_law_number_here"]) fun _ _ _ _ _ _ us hl=>by obtain ⟨_,rfl⟩:=lm1 us hl;exact rfl⟩
  d_law_fractions:=⟨_,_,N_Q47,jb X G aQ47,N_Q47.binds (ps:=["_law_pairs_here"]) fun _ _ _ _ _ _ us hl=>by obtain ⟨_,rfl⟩:=lm1 us hl;exact rfl⟩
  d_law_stays:=⟨_,_,N_Q48,jb X G aQ48,N_Q48.binds (ps:=["_law_handed","_law_pairs_here"]) fun _ _ _ _ _ _ us hl=>by obtain ⟨_,_,rfl⟩:=lm2 us hl;exact rfl⟩
  d_law_moved:=⟨_,_,N_Q49,jb X G aQ49,N_Q49.binds (ps:=["_law_pairs_here","_law_name_here","_law_much"]) fun _ _ _ _ _ _ us hl=>by obtain ⟨_,_,_,rfl⟩:=lm3 us hl;exact rfl⟩
  d_law_halved:=⟨_,_,N_Q50,jb X G aQ50,N_Q50.binds (ps:=["_law_told","_law_asked_here","_law_plan"]) fun _ _ _ _ _ _ us hl=>by obtain ⟨_,_,_,rfl⟩:=lm3 us hl;exact rfl⟩
  d_law_dearer:=⟨_,_,N_Q51,jb X G aQ51,N_Q51.binds (ps:=["_law_highs","_law_more"]) fun _ _ _ _ _ _ us hl=>by obtain ⟨_,_,rfl⟩:=lm2 us hl;exact rfl⟩
  d_law_spoilt:=⟨_,_,N_Q52,jb X G aQ52,N_Q52.binds (ps:=["_law_script","_law_told","_law_asked_here","_law_answer"]) fun _ _ _ _ _ _ us hl=>by obtain ⟨_,_,_,_,rfl⟩:=lm4 us hl;exact rfl⟩
  d_law_told_right:=⟨_,_,N_Q53,jb X G aQ53,N_Q53.binds (ps:=["_law_net","_law_told","_law_place","_law_answer"]) fun _ _ _ _ _ _ us hl=>by obtain ⟨_,_,_,_,rfl⟩:=lm4 us hl;exact rfl⟩
  d_law_refused:=⟨_,_,N_Q54,jb X G aQ54,N_Q54.binds (ps:=["_law_net","_law_strange","_law_answer"]) fun _ _ _ _ _ _ us hl=>by obtain ⟨_,_,_,rfl⟩:=lm3 us hl;exact rfl⟩
  d_law:=⟨_,_,N_Dlaw,jb X G aDlaw,N_Dlaw.binds (ps:=["_law_script"]) fun _ _ _ _ _ _ us hl=>by obtain ⟨_,rfl⟩:=lm1 us hl;exact rfl⟩
  cl_Fraction:=⟨pg_Fraction,hd_Fraction,po_Fraction,sa_Fraction⟩
  mg_Fraction:=jb X G n_Fraction
  na_Fraction_top
  na_Fraction_bottom
  i_Fraction:=⟨fIFraction,_,N_IFraction.gen,⟨mk_Fraction,a_Fraction_init,iIFraction,ka_Fraction⟩,fun dvs hd=>by
   simp only [ja,jc,or_false] at hd
   rcases hd with rfl | rfl
   ·exact ⟨[],.nil,N_IFraction.binds (es:=[]) fun T kV doc pm an cdv ct us hl=>by obtain ⟨_,_,_,rfl⟩:=lm3 us (by simpa using hl);exact ⟨_,rfl,rfl⟩⟩
   ·exact ⟨[.int 1 tkIFraction0],(.cons ⟨_,rfl⟩ (.nil)),N_IFraction.binds (es:=[.int 1 tkIFraction0]) fun T kV doc pm an cdv ct us hl=>by obtain ⟨_,_,rfl⟩:=lm2 us (by simpa using hl);exact ⟨_,rfl,rfl⟩⟩⟩
  m_Fraction_plus:=⟨fQ55,_,N_Q55,⟨a_Fraction_plus,iQ55,kQ55⟩,N_Q55.binds (ps:=["self","other"]) fun _ _ _ _ _ _ us hl=>by obtain ⟨_,_,rfl⟩:=lm2 us hl;exact rfl⟩
  m_Fraction_minus:=⟨fQ56,_,N_Q56,⟨a_Fraction_minus,iQ56,kQ56⟩,N_Q56.binds (ps:=["self","other"]) fun _ _ _ _ _ _ us hl=>by obtain ⟨_,_,rfl⟩:=lm2 us hl;exact rfl⟩
  m_Fraction_times:=⟨fQ57,_,N_Q57,⟨a_Fraction_times,iQ57,kQ57⟩,N_Q57.binds (ps:=["self","other"]) fun _ _ _ _ _ _ us hl=>by obtain ⟨_,_,rfl⟩:=lm2 us hl;exact rfl⟩
  m_Fraction_under:=⟨fQ58,_,N_Q58,⟨a_Fraction_under,iQ58,kQ58⟩,N_Q58.binds (ps:=["self","other"]) fun _ _ _ _ _ _ us hl=>by obtain ⟨_,_,rfl⟩:=lm2 us hl;exact rfl⟩
  m_Fraction_same:=⟨fQ59,_,N_Q59,⟨a_Fraction_same,iQ59,kQ59⟩,N_Q59.binds (ps:=["self","other"]) fun _ _ _ _ _ _ us hl=>by obtain ⟨_,_,rfl⟩:=lm2 us hl;exact rfl⟩
  m_Fraction_sign:=⟨fQ60,_,N_Q60,⟨a_Fraction_sign,iQ60,kQ60⟩,N_Q60.binds (ps:=["self"]) fun _ _ _ _ _ _ us hl=>by obtain ⟨_,rfl⟩:=lm1 us hl;exact rfl⟩
  c1_Fraction
  c4_Fraction
  cl_Way:=⟨pg_Way,hd_Way,po_Way,sa_Way⟩
  mg_Way:=jb X G n_Way
  na_Way_name
  na_Way_start
  na_Way_goal
  na_Way_high
  na_Way_cost
  i_Way:=⟨fIWay,_,N_IWay.gen,⟨mk_Way,a_Way_init,iIWay,ka_Way⟩,fun dvs hd=>by
   simp only [ja,jc,or_false] at hd
   rcases hd with rfl | rfl
   ·exact ⟨[],.nil,N_IWay.binds (es:=[]) fun T kV doc pm an cdv ct us hl=>by obtain ⟨_,_,_,_,_,_,rfl⟩:=lm6 us (by simpa using hl);exact ⟨_,rfl,rfl⟩⟩
   ·exact ⟨[.none,.none],(.cons rfl (.cons rfl (.nil))),N_IWay.binds (es:=[.none,.none]) fun T kV doc pm an cdv ct us hl=>by obtain ⟨_,_,_,_,rfl⟩:=lm4 us (by simpa using hl);exact ⟨_,rfl,rfl⟩⟩⟩
  c_Way:=⟨fIWay,_,N_IWay.gen,⟨rd_Way,sg_Way⟩,fc_Way,kc_Way,N_IWay.binds (es:=[]) fun T kV doc pm an cdv ct us hl=>by obtain ⟨_,_,_,_,_,_,rfl⟩:=lm6 us (by simpa using hl);exact ⟨_,rfl,rfl⟩⟩
  m_Way_gain:=⟨fQ61,_,N_Q61,⟨a_Way_gain,iQ61,kQ61⟩,N_Q61.binds (ps:=["self"]) fun _ _ _ _ _ _ us hl=>by obtain ⟨_,rfl⟩:=lm1 us hl;exact rfl⟩
  m_Way_out:=⟨fQ62,_,N_Q62,⟨a_Way_out,iQ62,kQ62⟩,N_Q62.binds (ps:=["self","amount"]) fun _ _ _ _ _ _ us hl=>by obtain ⟨_,_,rfl⟩:=lm2 us hl;exact rfl⟩
  c1_Way
  c4_Way
  cl_Growing:=⟨pg_Growing,hd_Growing,po_Growing,sa_Growing⟩
  mg_Growing:=jb X G n_Growing
  na_Growing_rate
  na_Growing_name
  na_Growing_start
  na_Growing_goal
  na_Growing_high
  na_Growing_cost
  i_Growing:=⟨fIGrowing,_,N_IGrowing.gen,⟨ia,a_Growing_init,iIGrowing,ka_Growing⟩,fun dvs hd=>by
   simp only [ja,jc,or_false] at hd
   rcases hd with rfl | rfl
   ·exact ⟨[],.nil,N_IGrowing.binds (es:=[]) fun T kV doc pm an cdv ct us hl=>by obtain ⟨_,_,_,_,_,_,_,rfl⟩:=lm7 us (by simpa using hl);exact ⟨_,rfl,rfl⟩⟩
   ·exact ⟨[.none,.none],(.cons rfl (.cons rfl (.nil))),N_IGrowing.binds (es:=[.none,.none]) fun T kV doc pm an cdv ct us hl=>by obtain ⟨_,_,_,_,_,rfl⟩:=lm5 us (by simpa using hl);exact ⟨_,rfl,rfl⟩⟩⟩
  m_Growing_gain:=⟨fQ63,_,N_Q63,⟨a_Growing_gain,iQ63,kQ63⟩,N_Q63.binds (ps:=["self"]) fun _ _ _ _ _ _ us hl=>by obtain ⟨_,rfl⟩:=lm1 us hl;exact rfl⟩
  m_Growing_out:=⟨fQ62,_,N_Q62,⟨a_Growing_out,iQ62,kQ62⟩,N_Q62.binds (ps:=["self","amount"]) fun _ _ _ _ _ _ us hl=>by obtain ⟨_,_,rfl⟩:=lm2 us hl;exact rfl⟩
  c1_Growing
  c4_Growing
  cl_Leaking:=⟨pg_Leaking,hd_Leaking,po_Leaking,sa_Leaking⟩
  mg_Leaking:=jb X G n_Leaking
  na_Leaking_loss
  na_Leaking_name
  na_Leaking_start
  na_Leaking_goal
  na_Leaking_high
  na_Leaking_cost
  i_Leaking:=⟨fILeaking,_,N_ILeaking.gen,⟨hZ,a_Leaking_init,iILeaking,ka_Leaking⟩,fun dvs hd=>by
   simp only [ja,jc,or_false] at hd
   rcases hd with rfl | rfl
   ·exact ⟨[],.nil,N_ILeaking.binds (es:=[]) fun T kV doc pm an cdv ct us hl=>by obtain ⟨_,_,_,_,_,_,_,rfl⟩:=lm7 us (by simpa using hl);exact ⟨_,rfl,rfl⟩⟩
   ·exact ⟨[.none,.none],(.cons rfl (.cons rfl (.nil))),N_ILeaking.binds (es:=[.none,.none]) fun T kV doc pm an cdv ct us hl=>by obtain ⟨_,_,_,_,_,rfl⟩:=lm5 us (by simpa using hl);exact ⟨_,rfl,rfl⟩⟩⟩
  m_Leaking_gain:=⟨fQ64,_,N_Q64,⟨a_Leaking_gain,iQ64,kQ64⟩,N_Q64.binds (ps:=["self"]) fun _ _ _ _ _ _ us hl=>by obtain ⟨_,rfl⟩:=lm1 us hl;exact rfl⟩
  m_Leaking_out:=⟨fQ62,_,N_Q62,⟨a_Leaking_out,iQ62,kQ62⟩,N_Q62.binds (ps:=["self","amount"]) fun _ _ _ _ _ _ us hl=>by obtain ⟨_,_,rfl⟩:=lm2 us hl;exact rfl⟩
  c1_Leaking
  c4_Leaking
  cl_Store:=⟨pg_Store,hd_Store,po_Store,sa_Store⟩
  mg_Store:=jb X G n_Store
  na_Store_loss
  na_Store_name
  na_Store_start
  na_Store_goal
  na_Store_high
  na_Store_cost
  m_Store_gain:=⟨fQ64,_,N_Q64,⟨a_Store_gain,iQ64,kQ64⟩,N_Q64.binds (ps:=["self"]) fun _ _ _ _ _ _ us hl=>by obtain ⟨_,rfl⟩:=lm1 us hl;exact rfl⟩
  m_Store_out:=⟨fQ62,_,N_Q62,⟨a_Store_out,iQ62,kQ62⟩,N_Q62.binds (ps:=["self","amount"]) fun _ _ _ _ _ _ us hl=>by obtain ⟨_,_,rfl⟩:=lm2 us hl;exact rfl⟩
  c1_Store
  c4_Store
  cl_Net:=⟨pg_Net,hd_Net,po_Net,sa_Net⟩
  mg_Net:=jb X G n_Net
  na_Net_wants
  na_Net_ways
  i_Net:=⟨fQ65,_,N_Q65.gen,⟨mk_Net,a_Net_init,iQ65,ka_Net⟩,fun dvs hd=>by
   simp only [ja,jc,or_false] at hd
   subst hd
   exact ⟨[],.nil,N_Q65.binds (ps:=["self","places","ways"]) fun _ _ _ _ _ _ us hl=>by obtain ⟨_,_,_,rfl⟩:=lm3 us hl;exact rfl⟩⟩
  m_Net_names:=⟨fQ66,_,N_Q66,⟨a_Net_names,iQ66,kQ66⟩,N_Q66.binds (ps:=["self"]) fun _ _ _ _ _ _ us hl=>by obtain ⟨_,rfl⟩:=lm1 us hl;exact rfl⟩
  m_Net_want:=⟨fQ67,_,N_Q67,⟨a_Net_want,iQ67,kQ67⟩,N_Q67.binds (ps:=["self","place"]) fun _ _ _ _ _ _ us hl=>by obtain ⟨_,_,rfl⟩:=lm2 us hl;exact rfl⟩
  m_Net_way:=⟨fQ68,_,N_Q68,⟨a_Net_way,iQ68,kQ68⟩,N_Q68.binds (ps:=["self","name"]) fun _ _ _ _ _ _ us hl=>by obtain ⟨_,_,rfl⟩:=lm2 us hl;exact rfl⟩
  m_Net_all_ways:=⟨fQ69,_,N_Q69,⟨a_Net_all_ways,iQ69,kQ69⟩,N_Q69.binds (ps:=["self"]) fun _ _ _ _ _ _ us hl=>by obtain ⟨_,rfl⟩:=lm1 us hl;exact rfl⟩
  no_Net_times
  no_Net_out
  c2
  c3
  mg_GainError:=jb X G n_GainError
  mg_NoWay:=jb X G n_NoWay
  mg_NoPlace:=jb X G n_NoPlace
  xi_NoPlace:=⟨fQ70,_,N_Q70.gen,eQ70,tQ70,N_Q70.binds (ps:=["self","place"]) fun _ _ _ _ _ _ us hl=>by obtain ⟨_,_,rfl⟩:=lm2 us hl;exact rfl⟩
  xs_NoPlace:=⟨⟨_,_,xc_NoPlace,xm_NoPlace,xh_NoPlace⟩,xa_NoPlace⟩
  na_NoPlace_place
  hd_NoPlace
  br_NoPlace:=⟨rdx_NoPlace,sgx_NoPlace⟩
  bf_NoPlace
  ca1_NoPlace
  ca2_NoPlace:=⟨_,ca2_NoPlace⟩
  ca3_NoPlace
  su_NoPlace_NoPlace
  k_Fraction_Fraction
  k_Way_Store
  k_Growing_Store
  k_Leaking_Store
  k_int_bool
  k_bool_bool
  k_int_int
  xga_NoPlace
  xgh_NoPlace
  xbe_NoPlace
  xca_NoPlace
  xob_NoPlace
  xcl_NoPlace:=⟨_,xcl_NoPlace⟩
  k_NoPlace_GainError
  k_NoPlace_NoWay
  gi_MOST_PLACES:=⟨_,jb X G gi_MOST_PLACES⟩
  gi_MOST_WAYS:=⟨_,jb X G gi_MOST_WAYS⟩
  z_abs:=kl X G z_abs
  z_all:=kl X G z_all
  z_bool:=kl X G z_bool
  z_dict:=kl X G z_dict
  z_enumerate:=kl X G z_enumerate
  z_int:=kl X G z_int
  z_isinstance:=kl X G z_isinstance
  z_len:=kl X G z_len
  z_list:=kl X G z_list
  z_range:=kl X G z_range
  z_zip:=kl X G z_zip
 }
 exact ⟨W.fnOf "law" "law" (au gZ) (ao gZ) (af gZ) .none kVDlaw dcDlaw pmDlaw anDlaw cdDlaw ctDlaw,fun s v=>.of_eq rfl,fun base _ _=>ok_law N_Dlaw T⟩
theorem walkL {l:PySem.W.OpenLaw} {q:Program} {loose:List Str} {XP:(Str→Option Value)→Heap→Prop} {YP:World→Heap→Prop} {d:DefRec} {K:Params→PySem.W.Frag} (hn:l.most=some 63) (hdf:d.params.defaults=[])
  (hY:∀ (w:World) (h:Heap),YP w h→(K w.params).In h)
  (F:∀ (w:World) (mg:Str→Option Value) (fa:Addr) (h:Heap),(K w.params).In h→h.Ns mainGlobals mg→mg d.name=some (.ref fa)→
   ∃ fd:FuncData,(∀ (s:Shared) (u:Value),BindsTo s fd ⟨[u],[]⟩ [("_law_script",u)])∧∀ base:Heap,(K w.params).In base→base.Ns mainGlobals mg→FnOk l.prog w (K w.params) mg base CX0 14 fa fd ["_law_script"] (spLaw (K w.params))) :
  PySem.W.WalkO q loose XP YP l.row.toRowW d [] (fun f vs=>PySem.call f vs):=
 L2.walk_ofB (n:=63) (k:=14) (x:="_law_script") (CX:=fun _=>CX0) (sp:=fun w=>spLaw (K w.params)) hn (by decide) hdf ⟨rfl,by decide,by decide⟩ hY F (fun _ _ a ns hl hb _ hS=>⟨a,ns,rfl,hS,hl,fun i hi=>⟨hb i hi⟩,fun _=>rfl⟩) fun _ _ _ _ _ z=>z
end G
inductive PySem.W.Fast:Prop | tw11756888499635634654 | tw13652398850836030880 | tw12358405105967568853 | tw14174697864555234318 | tw14926479228559165261 | tw6373498280602894452 | tw5369620687394821116 | tw16504678022236028606 | tw13886825455855576720 | tw1131160830350632898 | tw15603412723475012100 | tw1352203035608874573 | tw8660433960040136749 | tw13488371265265086013 | tw199546891998045115 | tw4774509032472436523 | tw13646637583664852391 | tw6212628007001157013 | tw13765832068725944678 | tw12002050564450330467 | tw5641183078618762061 | tw5878510926338206273 | tw7805622056662995787 | tw7638589047214598228 | tw13909973039472145804 | tw12819153797381727231 | tw9344760340948106457 | tw13160839921060888099 | tw13295482316670903309 | tw3241974851814524411 | tw15247628149486260592 | tw4114557705727553246 | tw7871770583070107587 | tw9538246617136548010 | tw16736793734473050997 | tw7467093679215612876 | tw8147996865410616686 | tw16034376178854918164 | tw14407310070565456558 | tw706448510244469030 | tw14310853952466049446 | tw4703856769451700269 | tw2144664012966323998 | tw13701324315645291921 | tw8281088091332033992 | tw10278343691033724649 | tw16703056798840963753 | tw17680580574232484813 | tw12209084320313100928 | tw1679777983284035382 | tw9836856258977350080 | tw8414135290080710451 | tw1401958682635559248 | tw2622645604038958283 | tw5703503171462043093 | tw1989330386018892728 | tw15773037119141716572 | tw11066637212059626285 | tw3520015958347336414 | tw3872549750205788207 | tw4293906945020624729 | tw4521736634262991539 | tw17150741414182701248 | tw13254197307005522458 | tw5556145352675263483 | tw17071949429154412401 | tw5890026010041007708 | tw15690315320169559516 | tw4050328761721487070 | tw14600907104701422042 | tw14527724811720081844 | tw15936382983630904822 | tw789268277151113392 | tw15023234384704078089 | tw15796755934433987977 | tw8925945861995607662 | tw16346250684725612249 | tw15303535583486345779 | tw12702611896988842632 | tw8308498461548710309 | tw10981815955109548678 | tw12552276775401801037 | tw7692560272393901763 | tw11770119459333115045 | tw14839323743513695288 | tw5037245236157469063 | tw695751184885147852 | tw4220431700278131393 | tw2872333796101526754 | tw865694061053859821 | tw11714422983613360882 | tw621039480216943696 | tw4135701306985524985 | tw5742630356155023654 | tw62061081006683530 | tw12525147911677072308 | tw4142853531822182046 | tw13153004605801171850 | tw8636450906737223978 | tw7648588731376502497 | tw14122655805925178943 | tw8777091412706785813 | tw9647751582746052471 | tw11135538642307932078 | tw6070453260626819535 | tw10202634588943100318 | tw6210584492144271185 | tw4591772932690612497 | tw17291795966486718426 | tw9836053830846193339 | tw7468399582854524675 | tw768028926619474112 | tw15470179246833022433 | tw7227974140732824270 | tw12861825715550259536 | tw9659785134719139183 | tw7380252704567131507 | tw1756955361884602357 | tw4521335679594517419 | tw14670624221312848758 | tw2322240641697299382 | tw17687819985151554506 | tw1049785994750957746 | tw2867858584077324915 | tw12883669493012363607 | tw16583126603432821027 | tw4322603263169792210 | tw5833236959654467894 | tw1107183206108936841 | tw3966707435926362820 | tw5728668832819520203 | tw13767136415163503362 | tw17273876344864884944 | tw18381361022808116417 | tw10606277653610078953 | tw3899687121170631169 | tw10754350685800051671 | tw17193595041279533556 | tw12943962480742229150 | tw14483663232038420202 | tw12643842421527874803 | tw11649227623544466456 | tw7376761170332274327 | tw1930093261570524173 | tw7859258826773032976 | tw3709393637063451144 | tw10960928838889061748 | tw6551287154342444646 | tw14392025258572570356 | tw5499819315010569494 | tw6877118517396867768 | tw4714616314402546256 | tw14119010050809387572 | tw3627298824310245236 | tw7256770262843405783 | tw4572168244676375484 | tw16813960278926192822 | tw13849113565152808206 | tw897532178351201410 | tw1020657761562696045 | tw15482189316072660088 | tw8233851871237523413 | tw8525170995482182690
open PySem L2 in
local macro_rules | `(tactic| walk_at $s:str) => do
  let v := s.getString.splitOn " "
  let id (i : Nat) := Lean.mkIdent (Lean.Name.mkSimple s!"o{i}")
  match v with
  | ["H", n] => do
    let hs ← (Array.range n.toNat!).mapM fun i => `(?$(id i):ident)
    `(tactic| refine' G.all_mk $(Lean.mkIdent `KX) $(Lean.mkIdent `GN) $(Lean.mkIdent `hmg) $hs*)
  | [k, a, b] => do
    let ts ← (List.range' a.toNat! (b.toNat! + 1 - a.toNat!)).toArray.mapM fun i => match k with
      | "k" => `(tactic| case $(id i):ident => k_is)
      | "t" => `(tactic| case $(id i):ident => kit_is)
      | "r" => `(tactic| case $(id i):ident => rfl)
      | "e" => `(tactic| case $(id i):ident => kernel_rfl)
      | _ => `(tactic| case $(id i):ident => k_exc)
    `(tactic| ($[$ts];*))
  | _ => Lean.Macro.throwUnsupported
open PySem PySem.W PyProof.Rows
set_option maxRecDepth 100000 in
set_option maxHeartbeats 0 in
theorem PySem.Challenge.cw_gainstream_k54_the_mosts_paper_looked_at_holds : PySem.Challenge.rw_gainstream_k54_the_mosts_paper_looked_at.Holds := by
 w_on;o_law;k_head;(case hw=>w_witness2)
 k_fill
 refine G.walkL (l:=PySem.Challenge.rw_gainstream_k54_the_mosts_paper_looked_at) rfl rfl (fun w h Y=>PySem.W.kIn_of Y) ?F
 case F=>
  intro w mg fa h KX GN hmg
  walk_at "H 467"
  walk_at "k 0 250"
  walk_at "r 251 251"
  walk_at "k 252 299"
  walk_at "r 300 300"
  walk_at "k 301 333"
  walk_at "r 334 334"
  walk_at "k 335 359"
  walk_at "r 360 360"
  walk_at "k 361 424"
  walk_at "e 425 425"
  walk_at "k 426 426"
  walk_at "r 427 428"
  walk_at "k 429 438"
  walk_at "t 439 445"
  walk_at "k 446 451"
  walk_at "t 452 453"
  walk_at "k 454 466"
#print axioms PySem.Challenge.cw_gainstream_k54_the_mosts_paper_looked_at_holds
