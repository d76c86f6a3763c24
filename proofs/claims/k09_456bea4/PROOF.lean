import PyProof.Rows.All
import Wide.All
import OpenK.AllK
import Wide.FinOn
import Lean
import PyProof.EqAt
import PyProof.EqKinds
import PyProof.TupleCall
import PySem.Challenge.RW_gainstream_k09_ways_of_a_turn
set_option Elab.async false
set_option linter.all false
set_option maxRecDepth 100000
/-! THE HAND LAYER, for ints, bools, texts, own classes, LISTS and tuples (index, slices, in, append, pop ..), calls, loops. Paste it whole ahead of your own text; what your proof does not reach may be deleted. -/
namespace L2
open PySem PySem.Spec PyProof.Rows

/-- a key: an int or a str -/
abbrev Key := Sum Int Str
def keyIs : Key → Value → Bool
  | .inl k, v => Value.isInt k v
  | .inr x, v => Value.isStrOf x v
def keyH (w : World) : Key → Int
  | .inl k => hashInt k
  | .inr x => hashStr w x
theorem keyIs_shape : ∀ {k : Key} {v : Value}, keyIs k v = true → (∃ i t, k = Sum.inl i ∧ v = Value.int i t) ∨ (∃ x t, k = Sum.inr x ∧ v = Value.str x t)
  | .inl i, v, h => by
    obtain ⟨t, e⟩ := Value.isInt_shape (k := i) (v := v) h
    exact .inl ⟨i, t, rfl, e⟩
  | .inr x, v, h => by
    obtain ⟨t, e⟩ := Value.isStrOf_shape (x := x) (v := v) h
    exact .inr ⟨x, t, rfl, e⟩
theorem key_ll (a b : Int) : decide ((Sum.inl a : Key) = Sum.inl b) = (a == b) := by
  by_cases e : a = b
  · subst e; simp
  · have h : ¬ (Sum.inl a : Key) = Sum.inl b := fun q => e (Sum.inl.inj q)
    rw [decide_eq_false h]
    exact (beq_eq_false_iff_ne.mpr e).symm
theorem key_rr (a b : Str) : decide ((Sum.inr a : Key) = Sum.inr b) = decide (a = b) := by
  by_cases e : a = b
  · subst e; simp
  · have h : ¬ (Sum.inr a : Key) = Sum.inr b := fun q => e (Sum.inr.inj q)
    rw [decide_eq_false h, decide_eq_false e]
theorem key_lr (a : Int) (b : Str) : decide ((Sum.inl a : Key) = Sum.inr b) = false := decide_eq_false (fun q => nomatch q)
theorem key_rl (a : Str) (b : Int) : decide ((Sum.inr a : Key) = Sum.inl b) = false := decide_eq_false (fun q => nomatch q)

def mixKind (prog : Program) (w : World) : PySem.KeyKind prog w Key where
  is := keyIs
  hash := keyH w
  inj := fun v a b ha hb => by
    rcases keyIs_shape ha with ⟨i, t, rfl, rfl⟩ | ⟨x, t, rfl, rfl⟩
    · rcases keyIs_shape hb with ⟨j, u, rfl, e⟩ | ⟨y, u, rfl, e⟩
      · injection e with e1 _; rw [e1]
      · exact nomatch e
    · rcases keyIs_shape hb with ⟨j, u, rfl, e⟩ | ⟨y, u, rfl, e⟩
      · exact nomatch e
      · injection e with e1 _; rw [e1]
  byValue := fun k v h => by
    rcases keyIs_shape h with ⟨i, t, rfl, rfl⟩ | ⟨x, t, rfl, rfl⟩ <;> rfl
  pyHash := fun hv h => by
    rcases keyIs_shape hv with ⟨i, t, rfl, rfl⟩ | ⟨x, t, rfl, rfl⟩
    · exact wpAny_pyHash_int h
    · exact wpAny_pyHash_str h
  eqBool := fun hu hv h => by
    rcases keyIs_shape hu with ⟨i, t, rfl, rfl⟩ | ⟨x, t, rfl, rfl⟩
    · rcases keyIs_shape hv with ⟨j, u, rfl, rfl⟩ | ⟨y, u, rfl, rfl⟩
      · rw [key_ll] at h; exact wpAny_eqBool_int h
      · rw [key_lr] at h; exact SeqAt.EqAt.int_str i t y u _ _ _ _ h
    · rcases keyIs_shape hv with ⟨j, u, rfl, rfl⟩ | ⟨y, u, rfl, rfl⟩
      · rw [key_rl] at h; exact SeqAt.EqAt.str_int x t j u _ _ _ _ h
      · rw [key_rr] at h; exact wpAny_eqBool_str h
  «strs» := fun k x t v h => by
    rcases keyIs_shape h with ⟨i, u, rfl, e⟩ | ⟨y, u, rfl, e⟩
    · exact nomatch e
    · injection e with e1 _
      subst e1
      cases v <;> rfl

end L2

namespace L2
open PySem PySem.Spec PyProof.Rows

/-- a value, without the heap -/
inductive V where
  | non | bl (b : Bool) | int (i : Int) | str (x : Str) | byt (b : Array UInt8) | flt (b : UInt64) | ref (a : Addr) | ty (n : String)
  deriving DecidableEq

def RelV : V → Value → Prop
  | .non, u => u = Value.none
  | .bl b, u => u = Value.bool b
  | .int i, u => ∃ t, u = Value.int i t
  | .str x, u => ∃ t, u = Value.str x t
  | .byt b, u => ∃ t, u = Value.bytes b t
  | .flt b, u => ∃ t, u = Value.float b t
  | .ref a, u => u = Value.ref a
  | .ty n, u => u = Value.type n

abbrev Vals : List V → List Value → Prop := Paired RelV
theorem Vals.length {xs : List V} {us : List Value} (r : Vals xs us) : xs.length = us.length := Paired.length r
theorem Vals.get : ∀ {xs : List V} {us : List Value} {i : Nat} {x : V}, Vals xs us → xs[i]? = some x → ∃ u, us[i]? = some u ∧ RelV x u
  | _, _, _, _, .nil, e => by simp at e
  | _, _, 0, _, .cons r _, e => by simp at e; subst e; exact ⟨_, rfl, r⟩
  | _, _, i + 1, x, .cons _ t, e => by
    obtain ⟨u, h1, h2⟩ := Vals.get (i := i) (x := x) t (by simpa using e)
    exact ⟨u, by simpa using h1, h2⟩
theorem Vals.set {x : V} {u : Value} (r : RelV x u) : ∀ {xs : List V} {us : List Value} (i : Nat), Vals xs us → Vals (xs.set i x) (us.set i u)
  | _, _, _, .nil => .nil
  | _, _, 0, .cons _ t => .cons r t
  | _, _, i + 1, .cons q t => .cons q (Vals.set r i t)
theorem Vals.append : ∀ {xs ys : List V} {us ws : List Value}, Vals xs us → Vals ys ws → Vals (xs ++ ys) (us ++ ws)
  | _, _, _, _, .nil, s => s
  | _, _, _, _, .cons r t, s => .cons r (Vals.append t s)

def RelO : Option V → Option Value → Prop
  | some v, some u => RelV v u
  | none, none => True
  | _, _ => False
def KV {κ : Type} : List (κ × V) → List (κ × Value) → Prop := Paired fun (p : κ × V) (q : κ × Value) => p.1 = q.1 ∧ RelV p.2 q.2

/-- a key of a dict (00_mix): an int or a text -/
def kV : Key → V
  | .inl i => .int i
  | .inr x => .str x

/-- what stands at a tracked address -/
inductive HO where
  /-- a list -/
  | lst (xs : List V)
  /-- a tuple (never changes) -/
  | tup (xs : List V)
  /-- a dict whose keys are ints and texts; one whose keys are tuples of ints and texts (the empty one is both) -/
  | dK (kvs : List (Key × V)) | dT (kvs : List (List Key × V))
  /-- a set of ints: its members, its size -/
  | set (S : Int → Bool) (n : Nat)
  /-- an instance of the class at C, its dict at dx, its attributes -/
  | ins (C dx : Addr) (fs : List (Str × V))
  /-- the dict of the instance at x -/
  | own (x : Addr)
  /-- the dict of an exception -/
  | xd (fs : List (Str × V))
  /-- a bound method, f of x -/
  | met (f x : Addr)
  /-- a range object lo, lo + 1, .. below hi -/
  | rng (lo hi : Int)
  /-- a thing that is known to the object (the script; a dict while a loop walks it): read, never written while it is so -/
  | frz (o : Obj) (u : HO)
  /-- a code object's table -/
  | tbl (ps : Array Value)
  /-- any other thing, by what is true of its one object (a def of one's own: SetO a S n := HO.ext fun h => ..) -/
  | ext (φ : Heap → Prop)

abbrev Hp := Addr → Option HO
def upd (H : Hp) (a : Addr) (o : HO) : Hp := fun b => if b = a then some o else H b
theorem upd_same {H : Hp} {a : Addr} {o : HO} : upd H a o a = some o := by unfold upd; rw [if_pos rfl]
theorem upd_ne {H : Hp} {a b : Addr} {o : HO} (h : b ≠ a) : upd H a o b = H b := by unfold upd; rw [if_neg h]
theorem upd_upd {H : Hp} {a : Addr} {o u : HO} : upd (upd H a o) a u = upd H a u := by
  funext b; unfold upd; split <;> rfl
theorem ne_of_none {H : Hp} {a b : Addr} {o : HO} (h : H a = some o) (h' : H b = none) : a ≠ b := by
  intro e; subst e; rw [h] at h'; cases h'

section
variable (P : Program) (w : World)
def ObjOk (H : Hp) (h : Heap) (a : Addr) : HO → Prop
  | .lst xs => xs.length ≤ sizeLine ∧ ∃ (its : List Value) (n : Nat), Vals xs its ∧ h.get? a = some { cls := .type "list", data := .seq its.toArray n }
  | .tup xs => xs.length ≤ sizeLine ∧ ∃ its : List Value, Vals xs its ∧ IsTup h a its.toArray
  | .dK kvs => kvs.length ≤ sizeLine ∧ (a == sysModules) = false ∧ ∃ vs, KV kvs vs ∧ h.DictOf (mixKind P w) a vs
  | .dT kvs => kvs.length ≤ sizeLine ∧ (a == sysModules) = false ∧ ∃ xs : List (List Key × Addr × Value),
      Paired (fun (p : List Key × V) (q : List Key × Addr × Value) => p.1 = q.1 ∧ H q.2.1 = some (.tup (p.1.map kV)) ∧ RelV p.2 q.2.2) kvs xs ∧
      ∃ o es ep, h.get? a = some o ∧ o.ExactDict ∧ o.data = .dict es ep ∧ es.toList = xs.map (entryOfKey (tupleKind (mixKind P w))) ∧ (xs.map (·.1)).Nodup
  | .set S n => h.SetOf (intKind P w) a S n
  | .ins C dx fs => H dx = some (.own a) ∧ fs.length ≤ 1000 ∧ dx ≠ a ∧ h.get? a = some (PySem.W.instObj C dx) ∧
      ∃ mA, h.Ns1 dx mA ∧ (∀ f, RelO (fs.lookup f) (mA f)) ∧ PySem.Within mA (fs.map (·.1))
  | .own _ => ∃ o, h.get? a = some o
  | .xd fs => ∃ mA, h.Ns1 a mA ∧ ∀ f, RelO (fs.lookup f) (mA f)
  | .rng lo hi => ∃ t u v, h.get? a = some { cls := .type "range", data := .fields #[.int lo t, .int hi u, .int 1 v] }
  | .frz o u => h.get? a = some o ∧ ObjOk H h a u
  | .tbl ps => h.get? a = some { cls := .none, data := .fields ps }
  | .met f x => h.get? a = some (PySem.W.methodObj (.ref f) (.ref x))
  | .ext φ => φ h ∧ (∃ o, h.get? a = some o) ∧ ∀ h1 h2 : Heap, φ h1 → (∀ o, h1.get? a = some o → h2.get? a = some o) → φ h2
/-- the abstract heap is held -/
def HOk (H : Hp) (h : Heap) : Prop := ∀ a o, H a = some o → ObjOk P w H h a o
end

section
variable {P : Program} {w : World} {H H' : Hp} {h h' : Heap} {a : Addr} {o : HO}
theorem ObjOk.lt (x : ObjOk P w H h a o) : a < h.objs.size := by
  cases o with
  | lst xs => obtain ⟨_, _, _, _, e⟩ := x; exact Heap.lt_size e
  | tup xs => obtain ⟨_, _, _, p⟩ := x; exact p.lt
  | dK kvs => obtain ⟨_, _, _, _, o, _, _, e, _⟩ := x; exact Heap.lt_size e
  | dT kvs => obtain ⟨_, _, _, _, o, _, _, e, _⟩ := x; exact Heap.lt_size e
  | set S n => obtain ⟨o, _, _, _, e, _⟩ := x; exact Heap.lt_size e
  | ins C dx fs => obtain ⟨_, _, _, e, _⟩ := x; exact Heap.lt_size e
  | own y => obtain ⟨_, e⟩ := x; exact Heap.lt_size e
  | xd fs => obtain ⟨_, ⟨_, _, _, e, _⟩, _⟩ := x; exact Heap.lt_size e
  | rng lo hi => obtain ⟨_, _, _, e⟩ := x; exact Heap.lt_size e
  | frz ob u => obtain ⟨e, _⟩ := x; exact Heap.lt_size e
  | tbl ps => exact Heap.lt_size (show h.get? a = some _ from x)
  | met f y => exact Heap.lt_size (show h.get? a = some _ from x)
  | ext φ => obtain ⟨_, ⟨_, e⟩, _⟩ := x; exact Heap.lt_size e
theorem Paired.mapP {α β : Type} {F G : α → β → Prop} : ∀ {l₁ : List α} {l₂ : List β}, Paired F l₁ l₂ → (∀ a b, F a b → G a b) → Paired G l₁ l₂
  | _, _, .nil, _ => .nil
  | _, _, .cons r t, f => .cons (f _ _ r) (Paired.mapP t f)
/-- what an object's description leans on: its own object, its own dict, the tuples -/
theorem ObjOk.stay (x : ObjOk P w H h a o) (k : ∀ b u, (b = a ∨ H b = some (.own a)) → h.get? b = some u → h'.get? b = some u)
    (ho : ∀ b, H b = some (.own a) → H' b = some (.own a)) (ht : ∀ b xs, H b = some (.tup xs) → H' b = some (.tup xs)) : ObjOk P w H' h' a o := by
  induction o with
  | lst xs => obtain ⟨z, its, n, r, e⟩ := x; exact ⟨z, its, n, r, k _ _ (.inl rfl) e⟩
  | tup xs => obtain ⟨z, its, r, ob, e, c⟩ := x; exact ⟨z, its, r, ob, k _ _ (.inl rfl) e, c⟩
  | dK kvs => obtain ⟨z, y, vs, r, ob, es, ep, e, c⟩ := x; exact ⟨z, y, vs, r, ob, es, ep, k _ _ (.inl rfl) e, c⟩
  | dT kvs =>
    obtain ⟨z, y, xs, r, ob, es, ep, e, c⟩ := x
    exact ⟨z, y, xs, Paired.mapP r fun p q z => ⟨z.1, ht _ _ z.2.1, z.2.2⟩, ob, es, ep, k _ _ (.inl rfl) e, c⟩
  | set S n => obtain ⟨ob, es, ep, t, e, c⟩ := x; exact ⟨ob, es, ep, t, k _ _ (.inl rfl) e, c⟩
  | ins C dx fs =>
    obtain ⟨d, z, ne, e, mA, ⟨od, es, ep, e2, c⟩, r⟩ := x
    exact ⟨ho _ d, z, ne, k _ _ (.inl rfl) e, mA, ⟨od, es, ep, k _ _ (.inr d) e2, c⟩, r⟩
  | own y => obtain ⟨ob, e⟩ := x; exact ⟨ob, k _ _ (.inl rfl) e⟩
  | xd fs => obtain ⟨mA, ⟨od, es, ep, e, c⟩, r⟩ := x; exact ⟨mA, ⟨od, es, ep, k _ _ (.inl rfl) e, c⟩, r⟩
  | rng lo hi => obtain ⟨t, u, v, e⟩ := x; exact ⟨t, u, v, k _ _ (.inl rfl) e⟩
  | frz ob u ih => obtain ⟨e, q⟩ := x; exact ⟨k _ _ (.inl rfl) e, ih q⟩
  | tbl ps =>
    have e : h.get? a = some { cls := .none, data := .fields ps } := x
    show h'.get? a = some { cls := .none, data := .fields ps }
    exact k a _ (.inl rfl) e
  | met f y =>
    have e : h.get? a = some (PySem.W.methodObj (.ref f) (.ref y)) := x
    show h'.get? a = some (PySem.W.methodObj (.ref f) (.ref y))
    exact k a _ (.inl rfl) e
  | ext φ => obtain ⟨p, ⟨o, e⟩, st⟩ := x; exact ⟨st _ _ p fun o q => k _ _ (.inl rfl) q, ⟨o, k _ _ (.inl rfl) e⟩, st⟩
theorem HOk.lt (x : HOk P w H h) (e : H a = some o) : a < h.objs.size := (x a o e).lt
theorem HOk.fresh (x : HOk P w H h) (e : h.objs.size ≤ a) : H a = none := by
  cases q : H a with
  | none => rfl
  | some u => exact absurd (Nat.lt_of_lt_of_le (x.lt q) e) (Nat.lt_irrefl _)
/-- every object of the heap is kept -/
theorem HOk.kept (x : HOk P w H h) (k : ∀ b u, h.get? b = some u → h'.get? b = some u) : HOk P w H h' := fun a o e =>
  (x a o e).stay (fun b u _ q => k b u q) (fun _ q => q) fun _ _ q => q
/-- a new object is laid and tracked -/
theorem HOk.laid (x : HOk P w H h) (k : ∀ b u, h.get? b = some u → h'.get? b = some u) (hp : h.objs.size ≤ a) (new : ObjOk P w (upd H a o) h' a o) : HOk P w (upd H a o) h' := fun b u e => by
  have hn := x.fresh hp
  by_cases hb : b = a
  · subst hb; rw [upd_same] at e; cases e; exact new
  · rw [upd_ne hb] at e
    exact (x b u e).stay (fun c v _ q => k c v q) (fun c q => by rw [upd_ne (ne_of_none q hn)]; exact q) fun c xs q => by rw [upd_ne (ne_of_none q hn)]; exact q
end

/-- what may be read as u: it is u, or a known u -/
def Rd (H : Hp) (a : Addr) (u : HO) : Prop := H a = some u ∨ ∃ o, H a = some (.frz o u)
theorem Rd.ok {P : Program} {w : World} {H : Hp} {h : Heap} {a : Addr} {u : HO} (r : Rd H a u) (x : HOk P w H h) : ObjOk P w H h a u := by
  rcases r with r | ⟨o, r⟩
  · exact x a u r
  · obtain ⟨_, q⟩ := x a _ r
    exact q
/-- what may be written -/
def Mut : Option HO → Prop
  | some (.lst _) => True
  | some (.dK _) => True
  | some (.dT _) => True
  | some (.set _ _) => True
  | some (.ins _ _ _) => True
  | some (.ext _) => True
  | _ => False
section
variable {P : Program} {w : World} {H : Hp} {h h' : Heap} {x e : Addr} {o' : HO}
/-- the object at e is changed: x itself, or the dict of the instance x -/
theorem HOk.write (ok : HOk P w H h) (mu : Mut (H x)) (he : e = x ∨ H e = some (.own x)) (k : ∀ b u, b ≠ e → h.get? b = some u → h'.get? b = some u) (heo : ∃ u, h'.get? e = some u)
    (new : ObjOk P w (upd H x o') h' x o') : HOk P w (upd H x o') h' := fun b u q => by
  have nown : ∀ c y, H c = some (.own y) → c ≠ x := fun c y r z => by subst z; rw [r] at mu; exact mu
  have ntup : ∀ c xs, H c = some (.tup xs) → c ≠ x := fun c xs r z => by subst z; rw [r] at mu; exact mu
  by_cases hb : b = x
  · subst hb; rw [upd_same] at q; cases q; exact new
  · rw [upd_ne hb] at q
    by_cases hbe : b = e
    · have q' : H b = some (.own x) := by
        rcases he with z | z
        · exact absurd (hbe.trans z) hb
        · rw [hbe]; exact z
      rw [q] at q'; cases q'
      obtain ⟨v, hv⟩ := heo
      exact ⟨v, by rw [hbe]; exact hv⟩
    · refine (ok b u q).stay (fun c v hc r => k c v ?_ r) (fun c r => by rw [upd_ne (nown c b r)]; exact r) fun c xs r => by rw [upd_ne (ntup c xs r)]; exact r
      rcases hc with rfl | hc
      · exact hbe
      · rintro rfl
        rcases he with z | z
        · exact nown c b hc z
        · rw [hc] at z; cases z; exact hb rfl
end

/-! ### kept unless tracked; of the frames at fs (the callers') the slots may change (an exception that passes writes there); of the records at ex (iterators) nothing is said -/
structure Un (fs ex : List Addr) (H H' : Hp) (h h' : Heap) : Prop where
  keep : ∀ b o, h.get? b = some o → H b = none → b ∉ fs → b ∉ ex → h'.get? b = some o
  slot : ∀ b o, h.get? b = some o → H b = none → b ∈ fs → b ∉ ex → ∃ sl, h'.get? b = some { o with slots := sl }
  free : ∀ b o, h.get? b = some o → H b = none → b ∉ ex → H' b = none
  there : ∀ b o, h.get? b = some o → b ∉ ex → ∃ o', h'.get? b = some o'
  tups : ∀ b xs, H b = some (.tup xs) → H' b = some (.tup xs)
  frzs : ∀ b o u, H b = some (.frz o u) → H' b = some (.frz o u)
  tbls : ∀ b ps, H b = some (.tbl ps) → ∃ more, H' b = some (.tbl (ps ++ more))
section
variable {fs fs' ex ex' : List Addr} {H H1 H2 : Hp} {h h1 h2 h' : Heap} {a x e : Addr} {o : HO}
theorem Un.any (u : Un fs ex H H1 h h1) {b : Addr} {ob : Obj} (q : h.get? b = some ob) (n : H b = none) (hx : b ∉ ex) : ∃ sl, h1.get? b = some { ob with slots := sl } := by
  by_cases hb : b ∈ fs
  · exact u.slot b ob q n hb hx
  · exact ⟨ob.slots, u.keep b ob q n hb hx⟩
theorem Un.kept (k : ∀ b u, h.get? b = some u → h'.get? b = some u) : Un fs ex H H h h' :=
  ⟨fun b ob q _ _ _ => k b ob q, fun b ob q _ _ _ => ⟨ob.slots, k b ob q⟩, fun _ _ _ n _ => n, fun b ob q _ => ⟨ob, k b ob q⟩, fun _ _ q => q, fun _ _ _ q => q, fun _ ps q => ⟨#[], by rw [q]; simp⟩⟩
theorem Un.refl : Un fs ex H H h h := Un.kept fun _ _ q => q
theorem Un.laid (k : ∀ b u, h.get? b = some u → h'.get? b = some u) (hp : h.objs.size ≤ a) (hn : H a = none) : Un fs ex H (upd H a o) h h' where
  keep := fun b u q _ _ _ => k b u q
  slot := fun b u q _ _ _ => ⟨u.slots, k b u q⟩
  free := fun b u q n _ => by rw [upd_ne (Nat.ne_of_lt (Nat.lt_of_lt_of_le (Heap.lt_size q) hp))]; exact n
  there := fun b u q _ => ⟨u, k b u q⟩
  tups := fun b xs q => by rw [upd_ne (ne_of_none q hn)]; exact q
  frzs := fun b u xs q => by rw [upd_ne (ne_of_none q hn)]; exact q
  tbls := fun b ps q => ⟨#[], by rw [upd_ne (ne_of_none q hn), q]; simp⟩
theorem Un.write (mu : Mut (H x)) (he : e = x ∨ H e = some (.own x)) (k : ∀ b u, b ≠ e → h.get? b = some u → h'.get? b = some u) (heo : ∃ u, h'.get? e = some u) : Un fs ex H (upd H x o) h h' := by
  have hx : ∀ b, H b = none → b ≠ x := fun b n z => by subst z; rw [n] at mu; exact mu
  have hb : ∀ b, H b = none → b ≠ e := fun b n z => by
    subst z
    rcases he with r | r
    · exact hx b n r
    · rw [n] at r; cases r
  have hm : ∀ b u, H b = some u → ¬ Mut (some u) → b ≠ x := fun b u q nm z => by subst z; rw [q] at mu; exact nm mu
  refine ⟨fun b u q n _ _ => k b u (hb b n) q, fun b u q n _ _ => ⟨u.slots, k b u (hb b n) q⟩, fun b u q n _ => by rw [upd_ne (hx b n)]; exact n, fun b u q _ => ?_,
    fun b xs q => by rw [upd_ne (hm b _ q fun z => z)]; exact q, fun b u xs q => by rw [upd_ne (hm b _ q fun z => z)]; exact q, fun b ps q => ⟨#[], by rw [upd_ne (hm b _ q fun z => z), q]; simp⟩⟩
  by_cases hbe : b = e
  · subst hbe; exact heo
  · exact ⟨u, k b u hbe q⟩
end

/-! ### the heap without what is tracked -/
def trk (h : Heap) (H : Hp) : List Addr := (List.range h.objs.size).filter fun a => (H a).isSome
def hidT (h : Heap) (H : Hp) : Heap := PySem.W.hideAll h (trk h H)
theorem hidT_size (h : Heap) (H : Hp) : (hidT h H).objs.size = h.objs.size := PySem.W.hideAll_size _ _
theorem hidT_get {h : Heap} {H : Hp} {b : Addr} {o : Obj} (e : h.get? b = some o) (n : H b = none) : (hidT h H).get? b = some o :=
  PySem.W.hideAll_get _ e fun hm => by
    have q : (H b).isSome = true := (List.mem_filter.mp hm).2
    rw [n] at q; simp at q
theorem of_hidT {h : Heap} {H : Hp} {b : Addr} {o : Obj} (e : (hidT h H).get? b = some o) : h.get? b = some o ∧ H b = none := by
  have e' : h.get? b = some o := PySem.W.of_hideAll (trk h H) e
  refine ⟨e', ?_⟩
  cases q : H b with
  | none => rfl
  | some x =>
    have hm : b ∈ trk h H := List.mem_filter.mpr ⟨List.mem_range.mpr (Heap.lt_size e'), by simp [q]⟩
    have z : (hidT h H).get? b = none := PySem.W.hideAll_none (trk h H) hm
    rw [z] at e; cases e

/-! ### OpenK's ledger, filled with every new object but one -/
def allNews (g h : Heap) (L : Addr) : List (Addr × Obj) := (List.range h.objs.size).filterMap fun a => if a = L ∨ (g.get? a).isSome = true then none else (h.get? a).map fun o => (a, o)
def rest (g h : Heap) (L d : Addr) : List (Addr × Obj) := (allNews g h L).filter fun p => decide (p.1 ≠ d)
end L2

namespace L2
open PySem PySem.Spec PyProof.Rows

/-- the module's facts, over the base: the heap at the law's entry without what is tracked there -/
structure Mod (K : PySem.W.Frag) (mg : Str → Option Value) (base : Heap) : Prop where
  kin : K.In base
  glob : base.Ns mainGlobals mg
  blt : ∃ mb, base.Ns builtinsNs mb ∧ ∀ x : Str, x ≠ "__name__" → mb x = bootBuiltins x
  nolimit : base.NoLimit

/-- the context: a def's body (or a comprehension's block) running. base: fixed through the whole law; s₀, H₀: the entry; outer: the frames whose slots others may change (a def's callers); stack: all frames that run;
   ex: iterators that were made ahead of the entry and are walked here (a comprehension's); fn: the names whose cells were made at the entry (a def: all; a comprehension's block: its own); calm: not within an except suite; pn: pins that every state bears; xe: what is wanted of an exception that leaves the code -/
structure Cx where
  prog : Program
  w : World
  K : PySem.W.Frag
  mg : Str → Option Value
  base : Heap
  A : Around
  N : List Str
  s₀ : Shared
  H₀ : Hp
  env : Env
  outer : List Env
  stack : List Env
  ex : List Addr
  fn : Str → Bool
  calm : Bool
  pn : List (Addr × Obj)
  xe : Value → Shared → Prop
/-- the callers' frames -/
def frs (l : List Env) : List Addr := l.filterMap (·.frame)
abbrev Cx.fs (X : Cx) : List Addr := frs X.outer

def Vis (sc : Scope) (x : Str) : Prop := sc.names.lookup x = some .local ∨ sc.names.lookup x = some .cell ∨ sc.names.lookup x = some .free
def Loc (sc : Scope) (x : Str) : Prop := sc.names.lookup x = some .local ∨ sc.names.lookup x = some .cell
def Look (env : Env) (h : Heap) (m : Str → Option Value) (x : Str) (u : Value) : Prop :=
  (env.kindOf x = some .local ∧ m x = some u) ∨ ((env.kindOf x = some .cell ∨ env.kindOf x = some .free) ∧ ∃ c, env.cells.lookup x = some c ∧ h.IsCell c (some u))

structure Cx.Ok (X : Cx) : Prop where
  mod : Mod X.K X.mg X.base
  kind : X.env.scope.kind = .function
  glob : X.env.globals = mainGlobals
  blt : X.env.builtins = builtinsNs
  above : X.s₀.heap.objs.size ≤ X.env.locals
  inj : ∀ x y c, X.env.cells.lookup x = some c → X.env.cells.lookup y = some c → x = y
  has : ∀ x, (X.env.kindOf x = some .cell ∨ X.env.kindOf x = some .free) → ∃ c, X.env.cells.lookup x = some c
  cab : ∀ x c, X.fn x = true → X.env.cells.lookup x = some c → X.s₀.heap.objs.size ≤ c
  hd : X.calm = true → X.A.handled = none
  frames : X.A.frames = some X.stack
  stk : X.stack = X.outer ∨ (X.stack = X.env :: X.outer ∧ X.env.frame = some X.env.locals)
  exf : ∀ b ∈ X.ex, b ≠ X.env.locals ∧ ∀ x c, X.env.cells.lookup x = some c → c ≠ b
  bs : ∀ b o, X.base.get? b = some o → X.s₀.heap.get? b = some o ∧ X.H₀ b = none
  bsz : X.base.objs.size ≤ X.s₀.heap.objs.size
  noex : ∀ b o, X.base.get? b = some o → b ∉ X.ex
  exfs : ∀ b ∈ X.ex, b ∉ X.fs
  funs : X.s₀.heap.FunFrames X.base X.outer
  frf : ∀ b ∈ X.fs, X.H₀ b = none

structure Inv (X : Cx) (pins : List (Addr × Obj)) (σ : List (Option V)) (H : Hp) (s : Shared) : Prop where
  ok : X.Ok
  os : s.os = X.s₀.os
  bare : AllBare s.gens
  base : Un X.fs X.ex X.H₀ H X.s₀.heap s.heap
  loc : ∃ m, s.heap.Ns X.env.locals m ∧ ∀ (i : Nat) (x : Str) (v : V), X.N[i]? = some x → σ[i]? = some (some v) → Vis X.env.scope x → ∃ u, RelV v u ∧ Look X.env s.heap m x u
  cell : ∀ x c, X.env.cells.lookup x = some c → ∃ v, s.heap.IsCell c v
  free : H X.env.locals = none
  freeC : ∀ x c, X.env.cells.lookup x = some c → H c = none
  pin : ∀ p ∈ X.pn ++ pins, s.heap.get? p.1 = some p.2 ∧ H p.1 = none ∧ p.1 ≠ X.env.locals ∧ p.1 ∉ X.fs ∧ ∀ v, p.2.data ≠ .cell v
  hok : HOk X.prog X.w H s.heap
  len : σ.length = X.N.length

section
variable {X : Cx} {pins : List (Addr × Obj)} {σ : List (Option V)} {H H' : Hp} {s : Shared} {h' : Heap}

theorem Cx.Ok.nofr (ok : X.Ok) {b : Addr} {o : Obj} (e : X.base.get? b = some o) : b ∉ X.fs := fun hb => by
  have := (ok.funs.mem hb).1
  rw [e] at this; cases this
theorem Inv.bs (I : Inv X pins σ H s) : ∀ b o, X.base.get? b = some o → s.heap.get? b = some o ∧ H b = none := fun b o e =>
  ⟨I.base.keep b o (I.ok.bs b o e).1 (I.ok.bs b o e).2 (I.ok.nofr e) (I.ok.noex b o e), I.base.free b o (I.ok.bs b o e).1 (I.ok.bs b o e).2 (I.ok.noex b o e)⟩
theorem Inv.bk (I : Inv X pins σ H s) : ∀ b o, X.base.get? b = some o → s.heap.get? b = some o := fun b o e => (I.bs b o e).1
theorem Inv.mod (I : Inv X pins σ H s) : Mod X.K X.mg X.base := I.ok.mod
theorem Inv.kIn (I : Inv X pins σ H s) : X.K.In s.heap := I.ok.mod.kin.keeps I.bk
theorem Inv.lt (I : Inv X pins σ H s) : X.env.locals < s.heap.objs.size := let ⟨_, hn, _⟩ := I.loc; hn.lt
theorem Inv.sz (I : Inv X pins σ H s) : X.s₀.heap.objs.size ≤ s.heap.objs.size := Nat.le_trans I.ok.above (Nat.le_of_lt I.lt)
theorem Inv.nofs (I : Inv X pins σ H s) {a : Addr} (h : s.heap.objs.size ≤ a) : a ∉ X.fs := fun hb => by
  obtain ⟨_, o, ho, _⟩ := I.ok.funs.mem hb
  exact absurd (Nat.lt_of_lt_of_le (Heap.lt_size ho) (Nat.le_trans I.sz h)) (Nat.lt_irrefl _)
theorem Inv.cne (I : Inv X pins σ H s) : ∀ x c, X.env.cells.lookup x = some c → c ≠ X.env.locals := fun x c e z => by
  obtain ⟨v, o, ho, hd⟩ := I.cell x c e
  obtain ⟨m, ⟨o', es, ep, ho', hd', _⟩, _⟩ := I.loc
  rw [z, ho'] at ho; cases ho; rw [hd'] at hd; cases hd
theorem Inv.funs (I : Inv X pins σ H s) : s.heap.FunFrames X.base X.outer := by
  have all : ∀ (l : List Env), (∀ b ∈ frs l, b ∈ X.fs) → X.s₀.heap.FunFrames X.base l → s.heap.FunFrames X.base l := by
    intro l
    induction l with
    | nil => intro _ _; trivial
    | cons env r ih =>
      intro hs hl
      obtain ⟨hk, ⟨L, o, hf, hn, ho, hd⟩, hr⟩ := hl
      have hL : L ∈ X.fs := hs L (by unfold frs; rw [List.filterMap_cons, hf]; exact List.mem_cons_self)
      obtain ⟨sl, e⟩ := I.base.slot L o ho (I.ok.frf L hL) hL fun z => I.ok.exfs L z hL
      exact ⟨hk, ⟨L, _, hf, hn, e, hd⟩, ih (fun b hb => hs b (by unfold frs; rw [List.filterMap_cons, hf]; exact List.mem_cons_of_mem _ hb)) hr⟩
  exact all X.outer (fun _ hb => hb) I.ok.funs

/-- the frames that run, for a call -/
theorem Inv.stack (I : Inv X pins σ H s) : s.heap.FunFrames X.base X.stack := by
  rcases I.ok.stk with e | ⟨e, hf⟩
  · rw [e]; exact I.funs
  · rw [e]
    obtain ⟨m, hn, _⟩ := I.loc
    refine .cons (by rw [I.ok.kind]; decide) hf hn ?_ I.funs
    exact Heap.get?_none_of_le (Nat.le_trans I.ok.bsz I.ok.above)
theorem Inv.stkSub (I : Inv X pins σ H s) : ∀ b ∈ frs X.stack, b ∈ X.env.locals :: X.fs := fun b hb => by
  rcases I.ok.stk with e | ⟨e, hf⟩
  · rw [e] at hb; exact List.mem_cons_of_mem _ hb
  · rw [e] at hb
    unfold frs at hb
    rw [List.filterMap_cons, hf] at hb
    exact hb
theorem Inv.stkFree (I : Inv X pins σ H s) : ∀ b ∈ frs X.stack, H b = none := fun b hb => by
  rcases List.mem_cons.mp (I.stkSub b hb) with e | hb
  · rw [e]; exact I.free
  · obtain ⟨_, o, ho, _⟩ := I.ok.funs.mem hb
    exact I.base.free b o ho (I.ok.frf b hb) fun z => I.ok.exfs b z hb

/-- THE STEP: the untracked objects but the frame and the records at ch are kept (the callers' frames up to slots), the frame's map is kept, the new abstract heap is held -/
theorem Inv.step {g' : Array GenState} {t' : Nat} {d' : Drawn} {ch : List Addr} (I : Inv X pins σ H s)
    (hch : ∀ b ∈ ch, (b ∈ X.ex ∨ X.s₀.heap.objs.size ≤ b) ∧ b ≠ X.env.locals ∧ (∀ x c, X.env.cells.lookup x = some c → c ≠ b) ∧ ∀ p ∈ X.pn ++ pins, p.1 ≠ b)
    (keep : ∀ b o, b ≠ X.env.locals → b ∉ X.fs → b ∉ ch → s.heap.get? b = some o → H b = none → h'.get? b = some o)
    (slot : ∀ b o, b ≠ X.env.locals → b ∈ X.fs → b ∉ ch → s.heap.get? b = some o → H b = none → ∃ sl, h'.get? b = some { o with slots := sl }) (free : ∀ b o, b ∉ ch → s.heap.get? b = some o → H b = none → H' b = none)
    (there : ∀ b o, b ∉ ch → s.heap.get? b = some o → ∃ o', h'.get? b = some o')
    (tups : ∀ b xs, H b = some (.tup xs) → H' b = some (.tup xs)) (frzs : ∀ b o u, H b = some (.frz o u) → H' b = some (.frz o u)) (tbls : ∀ b ps, H b = some (.tbl ps) → ∃ more, H' b = some (.tbl (ps ++ more)))
    (ns : ∀ m, s.heap.Ns X.env.locals m → h'.Ns X.env.locals m) (hok : HOk X.prog X.w H' h') (hg : AllBare g') :
    Inv X pins σ H' { s with heap := h', gens := g', drawn := d', toks := t' } := by
  have neL : ∀ b o, X.s₀.heap.get? b = some o → b ≠ X.env.locals := fun b o e => Nat.ne_of_lt (Nat.lt_of_lt_of_le (Heap.lt_size e) I.ok.above)
  have neC : ∀ b o, X.s₀.heap.get? b = some o → b ∉ X.ex → b ∉ ch := fun b o e hx hb => by
    rcases (hch b hb).1 with z | z
    · exact hx z
    · exact absurd (Nat.lt_of_lt_of_le (Heap.lt_size e) z) (Nat.lt_irrefl _)
  have cellK : ∀ x c, X.env.cells.lookup x = some c → ∀ v, s.heap.IsCell c v → h'.IsCell c v := fun x c e v ⟨o, ho, hd⟩ => by
    have nch : c ∉ ch := fun z => (hch c z).2.2.1 x c e rfl
    by_cases hc : c ∈ X.fs
    · obtain ⟨sl, q⟩ := slot c o (I.cne x c e) hc nch ho (I.freeC x c e)
      exact ⟨_, q, hd⟩
    · exact ⟨o, keep c o (I.cne x c e) hc nch ho (I.freeC x c e), hd⟩
  refine ⟨I.ok, I.os, hg, ⟨fun b o e n hb hx => ?_, fun b o e n hb hx => ?_, fun b o e n hx => ?_, fun b o e hx => ?_, fun b xs e => tups b xs (I.base.tups b xs e), fun b o xs e => frzs b o xs (I.base.frzs b o xs e), fun b ps e => ?_⟩, ?_, fun x c e => ?_, ?_, fun x c e => ?_, fun p hp => ?_, hok, I.len⟩
  · exact keep b o (neL b o e) hb (neC b o e hx) (I.base.keep b o e n hb hx) (I.base.free b o e n hx)
  · obtain ⟨sl, e1⟩ := I.base.slot b o e n hb hx
    obtain ⟨sl', e2⟩ := slot b _ (neL b o e) hb (neC b o e hx) e1 (I.base.free b o e n hx)
    exact ⟨sl', e2⟩
  · obtain ⟨o', e1⟩ := I.base.there b o e hx
    exact free b o' (neC b o e hx) e1 (I.base.free b o e n hx)
  · obtain ⟨o', e1⟩ := I.base.there b o e hx
    exact there b o' (neC b o e hx) e1
  · obtain ⟨m1, e1⟩ := I.base.tbls b ps e
    obtain ⟨m2, e2⟩ := tbls b _ e1
    exact ⟨m1 ++ m2, by rw [e2, Array.append_assoc]⟩
  · obtain ⟨m, hn, hl⟩ := I.loc
    refine ⟨m, ns m hn, fun i x v e1 e2 e3 => ?_⟩
    obtain ⟨u, r, l⟩ := hl i x v e1 e2 e3
    refine ⟨u, r, ?_⟩
    rcases l with l | ⟨k, c, e, z⟩
    · exact .inl l
    · exact .inr ⟨k, c, e, cellK x c e _ z⟩
  · obtain ⟨v, z⟩ := I.cell x c e
    exact ⟨v, cellK x c e v z⟩
  · obtain ⟨m, ⟨o, _, _, ho, _⟩, _⟩ := I.loc
    exact free _ o (fun z => (hch _ z).2.1 rfl) ho I.free
  · obtain ⟨v, o, ho, hd⟩ := I.cell x c e
    exact free c o (fun z => (hch c z).2.2.1 x c e rfl) ho (I.freeC x c e)
  · obtain ⟨e, n, ne, nf, d⟩ := I.pin p hp
    have nch : p.1 ∉ ch := fun z => (hch p.1 z).2.2.2 p hp rfl
    exact ⟨keep p.1 p.2 ne nf nch e n, free p.1 p.2 nch e n, ne, nf, d⟩
/-- .. where the frame's own object is kept too -/
theorem Inv.un {t' : Nat} (I : Inv X pins σ H s) (u : Un X.fs [] H H' s.heap h') (hok : HOk X.prog X.w H' h') : Inv X pins σ H' { s with heap := h', toks := t' } := by
  obtain ⟨m, ⟨o, es, ep, ho, r⟩, _⟩ := id I.loc
  obtain ⟨sl, hL⟩ := u.any ho I.free (by simp)
  exact I.step (g' := s.gens) (d' := s.drawn) (ch := []) (fun _ z => nomatch z) (fun b o _ hb _ e n => u.keep b o e n hb (by simp)) (fun b o _ hb _ e n => u.slot b o e n hb (by simp)) (fun b o _ e n => u.free b o e n (by simp)) (fun b o _ e => u.there b o e (by simp)) u.tups u.frzs u.tbls (fun m' hm => by
    obtain ⟨o', es', ep', ho', r'⟩ := hm
    rw [ho] at ho'; cases ho'
    exact ⟨_, es', ep', hL, r'⟩) hok I.bare
/-- behind a call (or a comprehension's block): the slots of this frame may have changed too, the records at ch may have turned -/
theorem Inv.call {g' : Array GenState} {t' : Nat} {d' : Drawn} {ch : List Addr} (I : Inv X pins σ H s) (u : Un (frs X.stack) ch H H' s.heap h') (hok : HOk X.prog X.w H' h') (hg : AllBare g')
    (hch : ∀ b ∈ ch, (b ∈ X.ex ∨ X.s₀.heap.objs.size ≤ b) ∧ b ≠ X.env.locals ∧ (∀ x c, X.env.cells.lookup x = some c → c ≠ b) ∧ ∀ p ∈ X.pn ++ pins, p.1 ≠ b) :
    Inv X pins σ H' { s with heap := h', gens := g', drawn := d', toks := t' } := by
  obtain ⟨m, ⟨o, es, ep, ho, r⟩, _⟩ := id I.loc
  obtain ⟨sl, hL⟩ := u.any ho I.free fun z => (hch _ z).2.1 rfl
  exact I.step (ch := ch) hch (fun b o hL hb hc e n => u.keep b o e n (fun z => (List.mem_cons.mp (I.stkSub b z)).elim hL hb) hc) (fun b o _ _ hc e n => u.any e n hc) (fun b o hc e n => u.free b o e n hc) (fun b o hc e => u.there b o e hc) u.tups u.frzs u.tbls (fun m' hm => by
    obtain ⟨o', es', ep', ho', r'⟩ := hm
    rw [ho] at ho'; cases ho'
    exact ⟨_, es', ep', hL, r'⟩) hok hg
/-- an untracked record of ours (an iterator) has turned -/
theorem Inv.turned {t' : Nat} {it : Addr} (I : Inv X pins σ H s) (k : ∀ b o, b ≠ it → s.heap.get? b = some o → h'.get? b = some o) (hn : H it = none) (hL : it ≠ X.env.locals)
    (h1 : it ∈ X.ex ∨ X.s₀.heap.objs.size ≤ it) (h2 : ∀ x c, X.env.cells.lookup x = some c → c ≠ it) (h3 : ∀ p ∈ X.pn ++ pins, p.1 ≠ it) : Inv X pins σ H { s with heap := h', toks := t' } := by
  have nit : ∀ b u, H b = some u → b ≠ it := fun b u e z => by rw [z, hn] at e; cases e
  refine I.step (g' := s.gens) (d' := s.drawn) (ch := [it]) (fun b hb => ?_) (fun b o _ _ hc e _ => k b o (fun z => hc (by simp [z])) e) (fun b o _ _ hc e _ => ⟨o.slots, k b o (fun z => hc (by simp [z])) e⟩) (fun _ _ _ _ n => n)
    (fun b o hc e => ⟨o, k b o (fun z => hc (by simp [z])) e⟩) (fun _ _ e => e) (fun _ _ _ e => e) (fun b ps e => ⟨#[], by rw [e]; simp⟩) (fun m hm => ?_) (fun b u e => ?_) I.bare
  · have e : b = it := by simpa using hb
    subst e
    exact ⟨h1, hL, h2, h3⟩
  · obtain ⟨o, es, ep, ho, r⟩ := hm
    exact ⟨o, es, ep, k _ o (Ne.symm hL) ho, r⟩
  · refine (I.hok b u e).stay (fun c v hc q => k c v ?_ q) (fun _ q => q) fun _ _ q => q
    rcases hc with z | z
    · rw [z]; exact nit b u e
    · exact nit c _ z
theorem Inv.tok (I : Inv X pins σ H s) (t : Nat) : Inv X pins σ H { s with toks := t } := I.un (h' := s.heap) (t' := t) Un.refl I.hok
/-- all objects kept -/
theorem Inv.kept {t' : Nat} (I : Inv X pins σ H s) (k : ∀ b u, s.heap.get? b = some u → h'.get? b = some u) : Inv X pins σ H { s with heap := h', toks := t' } := I.un (Un.kept k) (I.hok.kept k)
/-- a new object laid and tracked -/
theorem Inv.laid {a : Addr} {o : HO} {t' : Nat} (I : Inv X pins σ H s) (k : ∀ b u, s.heap.get? b = some u → h'.get? b = some u) (hp : s.heap.objs.size ≤ a) (new : ObjOk X.prog X.w (upd H a o) h' a o) :
    Inv X pins σ (upd H a o) { s with heap := h', toks := t' } := I.un (Un.laid k hp (I.hok.fresh hp)) (I.hok.laid k hp new)
/-- an object written -/
theorem Inv.write {x e : Addr} {o : HO} {t' : Nat} (I : Inv X pins σ H s) (mu : Mut (H x)) (he : e = x ∨ H e = some (.own x)) (k : ∀ b u, b ≠ e → s.heap.get? b = some u → h'.get? b = some u) (heo : ∃ u, h'.get? e = some u)
    (new : ObjOk X.prog X.w (upd H x o) h' x o) : Inv X pins σ (upd H x o) { s with heap := h', toks := t' } := I.un (Un.write mu he k heo) (I.hok.write mu he k heo new)
theorem Inv.pins_of {pins' : List (Addr × Obj)} (I : Inv X pins σ H s) (h : ∀ p ∈ pins', s.heap.get? p.1 = some p.2 ∧ H p.1 = none ∧ p.1 ≠ X.env.locals ∧ p.1 ∉ X.fs ∧ ∀ v, p.2.data ≠ .cell v) : Inv X pins' σ H s :=
  ⟨I.ok, I.os, I.bare, I.base, I.loc, I.cell, I.free, I.freeC, fun p hp => (List.mem_append.mp hp).elim (fun z => I.pin p (List.mem_append_left _ z)) (h p), I.hok, I.len⟩

theorem nodup_ix {N : List Str} (hN : N.Nodup) {i j : Nat} {x : Str} (a : N[i]? = some x) (b : N[j]? = some x) : i = j := by
  obtain ⟨h1, e1⟩ := List.getElem?_eq_some_iff.mp a
  obtain ⟨h2, e2⟩ := List.getElem?_eq_some_iff.mp b
  exact (List.getElem_inj hN).mp (e1.trans e2.symm)

/-- a name is stored; what changed -/
theorem store_ok2 {M : Model} {A : Around} {E : Value → Shared → Prop} {i : Nat} {x : Str} {v : V} {u : Value} {Q : Unit → Shared → Prop} (I : Inv X pins σ H s) (hN : X.N.Nodup) (hi : X.N[i]? = some x) (hx : Loc X.env.scope x) (r : RelV v u)
    (h : ∀ s', Inv X pins (σ.set i (some v)) H s' → (∃ a, Heap.SameBut a s.heap s'.heap ∧ (a = X.env.locals ∨ X.env.cells.lookup x = some a)) → Q () s') (hf : X.fn x = true ∨ X.env.scope.names.lookup x = some .local := by first | exact .inl rfl | exact .inr rfl | assumption) : wpAny M A (storeName X.env x u) Q E s := by
  obtain ⟨m, hn, hl⟩ := id I.loc
  have hcls : (X.env.scope.kind == .class || (X.env.scope.kind == .module && X.env.locals != X.env.globals)) = false := by rw [I.ok.kind]; rfl
  have hiσ : i < σ.length := by rw [I.len]; exact (List.getElem?_eq_some_iff.mp hi).1
  have cne := I.cne
  have tracked : ∀ {a : Addr} {h' : Heap}, (∃ o, s.heap.get? a = some o ∧ H a = none) → Heap.SameBut a s.heap h' → HOk X.prog X.w H h' := fun {a h'} ha hs b ob e => by
    obtain ⟨_, _, hfree⟩ := ha
    refine (I.hok b ob e).stay (fun c w' hc q => (hs.2 c ?_).trans q) (fun _ q => q) fun _ _ q => q
    rintro rfl
    rcases hc with rfl | hc
    · rw [hfree] at e; cases e
    · rw [hfree] at hc; cases hc
  rcases hx with hk | hk
  · refine wpAny_storeName_local hk hn (fun h' hn' hs => ?_) hcls
    obtain ⟨oL, _, _, hoL, _⟩ := id hn
    refine h _ ⟨I.ok, I.os, I.bare, ⟨fun b o e n hb hx => ?_, fun b o e n hb hx => ?_, I.base.free, fun b o e hx => ?_, I.base.tups, I.base.frzs, I.base.tbls⟩, ⟨_, hn', fun j y v' e1 e2 e3 => ?_⟩, fun y c e => ?_, I.free, I.freeC, fun p hp => ?_, tracked ⟨oL, hoL, I.free⟩ hs, by simpa using I.len⟩ ⟨_, hs, .inl rfl⟩
    · exact (hs.2 b (Nat.ne_of_lt (Nat.lt_of_lt_of_le (Heap.lt_size e) I.ok.above))).trans (I.base.keep b o e n hb hx)
    · obtain ⟨sl, e1⟩ := I.base.slot b o e n hb hx
      exact ⟨sl, (hs.2 b (Nat.ne_of_lt (Nat.lt_of_lt_of_le (Heap.lt_size e) I.ok.above))).trans e1⟩
    · obtain ⟨o', e1⟩ := I.base.there b o e hx
      exact ⟨o', (hs.2 b (Nat.ne_of_lt (Nat.lt_of_lt_of_le (Heap.lt_size e) I.ok.above))).trans e1⟩
    · by_cases hj : j = i
      · subst hj
        rw [hi] at e1; cases e1
        rw [List.getElem?_set_self hiσ] at e2
        cases e2
        exact ⟨u, r, .inl ⟨hk, by simp⟩⟩
      · rw [List.getElem?_set_ne (Ne.symm hj)] at e2
        obtain ⟨u', r', q⟩ := hl j y v' e1 e2 e3
        refine ⟨u', r', ?_⟩
        rcases q with ⟨k, e⟩ | ⟨k, c, e, z⟩
        · refine .inl ⟨k, ?_⟩
          have : y ≠ x := fun e => hj (nodup_ix hN e1 (e ▸ hi))
          simp [this, e]
        · exact .inr ⟨k, c, e, z.sameBut hs (cne y c e)⟩
    · obtain ⟨w', z⟩ := I.cell y c e
      exact ⟨w', z.sameBut hs (cne y c e)⟩
    · obtain ⟨e, n, ne, nf, d⟩ := I.pin p hp
      exact ⟨(hs.2 p.1 ne).trans e, n, ne, nf, d⟩
  · have hfn : X.fn x = true := by
      rcases hf with z | z
      · exact z
      · rw [z] at hk; cases hk
    obtain ⟨c, hc⟩ := I.ok.has x (.inl hk)
    obtain ⟨w', z⟩ := I.cell x c hc
    refine wpAny_storeName_cell I.ok.kind hk hc z (fun h' hc' hs => ?_)
    obtain ⟨oc, hoc, hocd⟩ := id z
    refine h { s with heap := h' } ⟨I.ok, I.os, I.bare, ⟨fun b o e n hb hx => ?_, fun b o e n hb hx => ?_, I.base.free, fun b o e hx => ?_, I.base.tups, I.base.frzs, I.base.tbls⟩, ⟨m, hn.sameBut hs (Ne.symm (cne x c hc)), fun j y v' e1 e2 e3 => ?_⟩, fun y c' e => ?_, I.free, I.freeC, fun p hp => ?_, tracked ⟨oc, hoc, I.freeC x c hc⟩ hs, by simpa using I.len⟩ ⟨c, hs, .inr hc⟩
    · exact (hs.2 b (Nat.ne_of_lt (Nat.lt_of_lt_of_le (Heap.lt_size e) (I.ok.cab x c hfn hc)))).trans (I.base.keep b o e n hb hx)
    · obtain ⟨sl, e1⟩ := I.base.slot b o e n hb hx
      exact ⟨sl, (hs.2 b (Nat.ne_of_lt (Nat.lt_of_lt_of_le (Heap.lt_size e) (I.ok.cab x c hfn hc)))).trans e1⟩
    · obtain ⟨o', e1⟩ := I.base.there b o e hx
      exact ⟨o', (hs.2 b (Nat.ne_of_lt (Nat.lt_of_lt_of_le (Heap.lt_size e) (I.ok.cab x c hfn hc)))).trans e1⟩
    · by_cases hj : j = i
      · subst hj
        rw [hi] at e1; cases e1
        rw [List.getElem?_set_self hiσ] at e2
        cases e2
        exact ⟨u, r, .inr ⟨.inl hk, c, hc, hc'⟩⟩
      · rw [List.getElem?_set_ne (Ne.symm hj)] at e2
        obtain ⟨u', r', q⟩ := hl j y v' e1 e2 e3
        refine ⟨u', r', ?_⟩
        rcases q with q | ⟨k, c', e, z'⟩
        · exact .inl q
        · refine .inr ⟨k, c', e, z'.sameBut hs ?_⟩
          rintro rfl
          exact hj (nodup_ix hN e1 (I.ok.inj _ _ _ e hc ▸ hi))
    · by_cases hcc : c' = c
      · subst hcc; exact ⟨_, hc'⟩
      · obtain ⟨w2, z2⟩ := I.cell y c' e
        exact ⟨w2, z2.sameBut hs hcc⟩
    · obtain ⟨e, n, ne, nf, d⟩ := I.pin p hp
      refine ⟨(hs.2 p.1 ?_).trans e, n, ne, nf, d⟩
      intro q
      rw [q, hoc] at e
      have q' : oc = p.2 := Option.some.inj e
      exact d w' (by rw [← q']; exact hocd)
theorem store_ok {M : Model} {A : Around} {E : Value → Shared → Prop} {i : Nat} {x : Str} {v : V} {u : Value} {Q : Unit → Shared → Prop} (I : Inv X pins σ H s) (hN : X.N.Nodup) (hi : X.N[i]? = some x) (hx : Loc X.env.scope x) (r : RelV v u)
    (h : ∀ s', Inv X pins (σ.set i (some v)) H s' → Q () s') (hf : X.fn x = true ∨ X.env.scope.names.lookup x = some .local := by first | exact .inl rfl | exact .inr rfl | assumption) : wpAny M A (storeName X.env x u) Q E s :=
  store_ok2 I hN hi hx r (fun s' I' _ => h s' I') hf
end

/-! ### the judgements -/
/-- an exception: its class, its own dict's address (where it has one), the abstract heap behind it -/
abbrev XK := Value → Option Addr → Hp → Prop
abbrev St := List (Option V)
abbrev VK := V → Hp → Prop
/-- an expression's reading; a test's; an argument list's -/
abbrev TE := St → Hp → VK → Prop
abbrev TT := St → Hp → (Bool → Hp → Prop) → Prop
abbrev TA := St → Hp → (List V → Hp → Prop) → Prop
/-- what is wanted behind a statement -/
structure Ends where
  nx : St → Hp → Prop
  rt : VK
  bk : St → Hp → Prop := fun _ _ => False
  ct : St → Hp → Prop := fun _ _ => False
abbrev TS := Ends → St → Hp → Prop

def EP (X : Cx) (pins : List (Addr × Obj)) (σ : St) (Q : VK) (u : Value) (s' : Shared) : Prop := ∃ v H', Inv X pins σ H' s' ∧ RelV v u ∧ Q v H'
def TP (X : Cx) (pins : List (Addr × Obj)) (σ : St) (Q : Bool → Hp → Prop) (b : Bool) (s' : Shared) : Prop := ∃ H', Inv X pins σ H' s' ∧ Q b H'
def AP (X : Cx) (pins : List (Addr × Obj)) (σ : St) (Q : List V → Hp → Prop) (us : List Value) (s' : Shared) : Prop := ∃ vs H', Inv X pins σ H' s' ∧ Vals vs us ∧ Q vs H'
def SP (X : Cx) (pins : List (Addr × Obj)) (D : Ends) (f : Flow) (s' : Shared) : Prop :=
  match f with
  | .next => ∃ σ' H', Inv X pins σ' H' s' ∧ D.nx σ' H'
  | .brk => ∃ σ' H', Inv X pins σ' H' s' ∧ D.bk σ' H'
  | .cont => ∃ σ' H', Inv X pins σ' H' s' ∧ D.ct σ' H'
  | .ret u => ∃ v σ' H', Inv X pins σ' H' s' ∧ RelV v u ∧ D.rt v H'

def PE (X : Cx) (e : Expr) (t : TE) : Prop :=
  ∀ (pins : List (Addr × Obj)) (s : Shared) (σ : St) (H : Hp) (Q : VK), Inv X pins σ H s → t σ H Q → wpAny (model X.prog X.w) X.A (eval e X.env) (EP X pins σ Q) X.xe s
def PT (X : Cx) (e : Expr) (t : TT) : Prop :=
  ∀ (pins : List (Addr × Obj)) (s : Shared) (σ : St) (H : Hp) (Q : Bool → Hp → Prop), Inv X pins σ H s → t σ H Q → wpAny (model X.prog X.w) X.A (isTrue e X.env (eval e X.env)) (TP X pins σ Q) X.xe s
/-- a test whatever its 'whole' is (and, or) -/
def PW (X : Cx) (e : Expr) (t : TT) : Prop :=
  ∀ (whole : Sem Value) (pins : List (Addr × Obj)) (s : Shared) (σ : St) (H : Hp) (Q : Bool → Hp → Prop), Inv X pins σ H s → t σ H Q → wpAny (model X.prog X.w) X.A (isTrue e X.env whole) (TP X pins σ Q) X.xe s
theorem PW.pt {X : Cx} {e : Expr} {t : TT} (h : PW X e t) : PT X e t := h _
/-- an argument list (no star), from the left -/
def PA (X : Cx) (es : List Expr) (t : TA) : Prop :=
  ∀ (pos : Pos) (pins : List (Addr × Obj)) (s : Shared) (σ : St) (H : Hp) (Q : List V → Hp → Prop), Inv X pins σ H s → t σ H Q → wpAny (model X.prog X.w) X.A (spliced (backTo pos (starEach es X.env))) (AP X pins σ Q) X.xe s
def PS (X : Cx) (st : Stmt) (t : TS) : Prop :=
  ∀ (pins : List (Addr × Obj)) (s : Shared) (σ : St) (H : Hp) (D : Ends), Inv X pins σ H s → t D σ H → wpAny (model X.prog X.w) X.A (exec st X.env) (SP X pins D) X.xe s
def PSs (X : Cx) (st : List Stmt) (t : TS) : Prop :=
  ∀ (pins : List (Addr × Obj)) (s : Shared) (σ : St) (H : Hp) (D : Ends), Inv X pins σ H s → t D σ H → wpAny (model X.prog X.w) X.A (execs st X.env) (SP X pins D) X.xe s
/-- weaken the end -/
theorem thn {α : Type} {t : Sem α} {Q Q' : α → Shared → Prop} {M : Model} {A : Around} {E : Value → Shared → Prop} {s : Shared} (h : wpAny M A t Q E s) (hQ : ∀ a s, Q a s → Q' a s) : wpAny M A t Q' E s := wpAny_mono h hQ fun _ _ x => x
end L2

namespace L2
open PySem PySem.Spec PyProof.Rows
section
variable {X : Cx}


/-! ### names and constants -/
def tVar (i : Nat) : TE := fun σ H Q => ∃ v, σ[i]? = some (some v) ∧ Q v H
def tC (v : V) : TE := fun _ H Q => Q v H
theorem pe_var {i : Nat} {x : Str} {pos : Pos} (hN : X.N[i]? = some x) (hv : Vis X.env.scope x) (hd : (x == ("__debug__" : Str)) = false := by decide) (hcd : (x == ("__classdict__" : Str)) = false := by decide) : PE X (.Name x pos) (tVar i) := by
  intro pins s σ H Q I h
  obtain ⟨v, e, h⟩ := h
  obtain ⟨m, hn, hl⟩ := I.loc
  obtain ⟨u, r, l⟩ := hl i x v hN e hv
  have fin : EP X pins σ Q u s := ⟨v, H, I, r, h⟩
  rcases l with ⟨hk, hm⟩ | ⟨hk, c, hc, hcell⟩
  · exact wpAny_Name (wpAny_loadName_local I.ok.kind hk hn hm fin) hd
  · rcases hk with hk | hk
    · exact wpAny_Name (wpAny_loadName_cell I.ok.kind hk hc hcell fin) hd
    · exact wpAny_Name (wpAny_loadName_free I.ok.kind hk hc hcell fin hcd) hd
theorem pe_int {i j pos} : PE X (.Constant (.int i) j pos) (tC (.int i)) := fun _ _ _ H _ I h => wpAny_Constant_int ⟨.int i, H, I.tok _, ⟨_, rfl⟩, h⟩
theorem pe_bl {b j pos} : PE X (.Constant (.bool b) j pos) (tC (.bl b)) := fun _ _ _ H _ I h => Constant_bool ⟨.bl b, H, I, rfl, h⟩
theorem pe_non {j pos} : PE X (.Constant .none j pos) (tC .non) := fun _ _ _ H _ I h => Constant_none ⟨.non, H, I, rfl, h⟩
theorem pe_str {x j pos} : PE X (.Constant (.str x) j pos) (tC (.str x)) := fun _ _ _ H _ I h => Calls.Constant_str ⟨.str x, H, I.tok _, ⟨_, rfl⟩, h⟩

/-- a global name of the def -/
def Gl (X : Cx) (x : Str) : Prop := X.env.kindOf x = some .globalImplicit
theorem ld_glob {E : Value → Shared → Prop} {pins : List (Addr × Obj)} {s : Shared} {σ : St} {H : Hp} {x : Str} {u : Value} {pos : Pos} {Q : Value → Shared → Prop} (I : Inv X pins σ H s) (hg : Gl X x) (hm : X.mg x = some u) (h : Q u s)
    (hd : (x == ("__debug__" : Str)) = false := by decide) : wpAny (model X.prog X.w) X.A (eval (.Name x pos) X.env) Q E s :=
  Calls.Name_function_global I.ok.kind hg (Calls.loadGlobal_global (by rw [I.ok.glob]; exact I.mod.glob.keeps I.bk) hm h) hd
theorem ld_blt {E : Value → Shared → Prop} {pins : List (Addr × Obj)} {s : Shared} {σ : St} {H : Hp} {x : Str} {u : Value} {pos : Pos} {Q : Value → Shared → Prop} (I : Inv X pins σ H s) (hg : Gl X x) (hm : X.mg x = none) (hv : bootBuiltins x = some u) (h : Q u s)
    (hn : x ≠ "__name__" := by decide) (hd : (x == ("__debug__" : Str)) = false := by decide) : wpAny (model X.prog X.w) X.A (eval (.Name x pos) X.env) Q E s := by
  obtain ⟨mb, h1, h2⟩ := I.mod.blt
  exact Calls.Name_function_global I.ok.kind hg (Calls.loadGlobal_builtin (by rw [I.ok.glob]; exact I.mod.glob.keeps I.bk) hm (by rw [I.ok.blt]; exact h1.keeps I.bk) ((h2 x hn).trans hv) h) hd
/-- a module's constant, a class, a function, as a value -/
theorem pe_glob {x : Str} {v : V} {u : Value} {pos : Pos} (hg : Gl X x) (hm : X.mg x = some u) (r : RelV v u) (hd : (x == ("__debug__" : Str)) = false := by decide) : PE X (.Name x pos) (tC v) :=
  fun _ _ _ H _ I h => ld_glob I hg hm ⟨v, H, I, r, h⟩ hd
theorem pe_bltn {x : Str} {v : V} {u : Value} {pos : Pos} (hg : Gl X x) (hm : X.mg x = none) (hv : bootBuiltins x = some u) (r : RelV v u) (hn : x ≠ "__name__" := by decide) (hd : (x == ("__debug__" : Str)) = false := by decide) : PE X (.Name x pos) (tC v) :=
  fun _ _ _ H _ I h => ld_blt I hg hm hv ⟨v, H, I, r, h⟩ hn hd

/-! ### arithmetic -/
/-- two ints -/
def t2I (ta tb : TE) (k : Int → Int → Hp → Prop) : St → Hp → Prop := fun σ H => ta σ H fun x H1 => tb σ H1 fun y H2 => ∃ i j, x = .int i ∧ y = .int j ∧ k i j H2
def tAdd (ta tb : TE) : TE := fun σ H Q => t2I ta tb (fun i j H2 => Q (.int (i + j)) H2) σ H
def tSub (ta tb : TE) : TE := fun σ H Q => t2I ta tb (fun i j H2 => Q (.int (i - j)) H2) σ H
/-- the left factor below 2^64 -/
def tMul (ta tb : TE) : TE := fun σ H Q => t2I ta tb (fun i j H2 => (-(2 ^ 64) < i ∧ i < 2 ^ 64) ∧ Q (.int (i * j)) H2) σ H
variable {a b : Expr} {ta tb : TE} {pos : Pos}

/-! ### comparisons -/
def PC (X : Cx) (op : CmpOp) (a b : Expr) (t : TE) : Prop :=
  ∀ (pins : List (Addr × Obj)) (s : Shared) (σ : St) (H : Hp) (Q : VK), Inv X pins σ H s → t σ H Q →
    wpAny (model X.prog X.w) X.A (eval a X.env) (fun v s₁ => wpAny (model X.prog X.w) X.A (eval b X.env) (fun u s₂ => wpAny (model X.prog X.w) X.A (compareOp op v u) (EP X pins σ Q) X.xe s₂) X.xe s₁) X.xe s
def tCmp (p : Int → Int → Bool) (ta tb : TE) : TE := fun σ H Q => t2I ta tb (fun i j H2 => Q (.bl (p i j)) H2) σ H
abbrev tLt : TE → TE → TE := tCmp fun i j => decide (i < j)
abbrev tLe : TE → TE → TE := tCmp fun i j => decide (i ≤ j)
abbrev tGt : TE → TE → TE := tCmp fun i j => decide (j < i)
abbrev tGe : TE → TE → TE := tCmp fun i j => decide (j ≤ i)
abbrev tEqI : TE → TE → TE := tCmp fun i j => decide (i = j)
abbrev tNeI : TE → TE → TE := tCmp fun i j => !decide (i = j)
/-- is None -/
def tIsN (ta : TE) : TE := fun σ H Q => ta σ H fun x H1 => Q (.bl (decide (x = .non))) H1
def tNotN (ta : TE) : TE := fun σ H Q => ta σ H fun x H1 => Q (.bl (!decide (x = .non))) H1
/-- a comparison as a value, as a test -/
def tB (t : TE) : TT := fun σ H Q => t σ H fun x H1 => ∃ c, x = .bl c ∧ Q c H1
/-- an expression whose value is a bool, as a test -/
theorem pt_val {e : Expr} {t : TE} (h : PE X e t) (he : ∀ whole, isTrue e X.env whole = (do let v ← whole; standAt e.pos; holding [v] (truthy v)) := by intro _; rfl) : PT X e (tB t) := by
  intro pins s σ H Q I hw
  refine isTrue_plain (thn (h pins s σ H _ I hw) fun v s1 ⟨x, H1, I1, r1, q1⟩ => ?_) (he _)
  obtain ⟨d, rfl, q⟩ := q1
  cases r1
  exact wpAny_truthy_bool ⟨H1, I1, q⟩

/-! ### and, or, not -/
variable {tA tB' : TT} {rest : List Expr}
def tAnd (t u : TT) : TT := fun σ H Q => t σ H fun c H1 => if c = true then u σ H1 Q else Q false H1
def tOr (t u : TT) : TT := fun σ H Q => t σ H fun c H1 => if c = true then Q true H1 else u σ H1 Q
def tNot (t : TT) : TT := fun σ H Q => t σ H fun c H1 => Q (!c) H1
theorem pw_and1 (ha : PT X a tA) : PW X (.BoolOp .And [a] pos) tA := by
  intro wh pins s σ H Q I h
  refine isTrue_and (thn (ha pins s σ H Q I h) fun c s1 e => ?_)
  cases c with
  | true => exact isTrue_and_nil e
  | false => exact e
theorem pw_or1 (ha : PT X a tA) : PW X (.BoolOp .Or [a] pos) tA := by
  intro wh pins s σ H Q I h
  refine isTrue_or (thn (ha pins s σ H Q I h) fun c s1 e => ?_)
  cases c with
  | false => exact isTrue_or_nil e
  | true => exact e
theorem pw_and (ha : PT X a tA) (hb : PW X (.BoolOp .And (b :: rest) pos) tB') : PW X (.BoolOp .And (a :: b :: rest) pos) (tAnd tA tB') := by
  intro wh pins s σ H Q I h
  refine isTrue_and (thn (ha pins s σ H _ I h) fun c s1 ⟨H1, I1, q1⟩ => ?_)
  cases c with
  | true => exact hb wh pins s1 σ H1 Q I1 q1
  | false => exact ⟨H1, I1, q1⟩
theorem pw_or (ha : PT X a tA) (hb : PW X (.BoolOp .Or (b :: rest) pos) tB') : PW X (.BoolOp .Or (a :: b :: rest) pos) (tOr tA tB') := by
  intro wh pins s σ H Q I h
  refine isTrue_or (thn (ha pins s σ H _ I h) fun c s1 ⟨H1, I1, q1⟩ => ?_)
  cases c with
  | true => exact ⟨H1, I1, q1⟩
  | false => exact hb wh pins s1 σ H1 Q I1 q1
theorem pt_not (ha : PT X a tA) : PT X (.UnaryOp .Not a pos) (tNot tA) := by
  intro pins s σ H Q I h
  exact isTrue_not (ha pins s σ H (fun c H1 => Q (!c) H1) I h)
/-- .. as values (bools) -/
def tAndV (ta tb : TE) : TE := fun σ H Q => ta σ H fun x H1 => ∃ c, x = .bl c ∧ if c = true then tb σ H1 Q else Q (.bl false) H1
def tOrV (ta tb : TE) : TE := fun σ H Q => ta σ H fun x H1 => ∃ c, x = .bl c ∧ if c = true then Q (.bl true) H1 else tb σ H1 Q
def tNotV (ta : TE) : TE := fun σ H Q => ta σ H fun x H1 => ∃ c, x = .bl c ∧ Q (.bl (!c)) H1
theorem pe_one {op} {t : TE} (h : PE X a t) : PE X (.BoolOp op [a] pos) t := fun pins s σ H Q I hw => BoolOp_one (h pins s σ H Q I hw)
theorem pe_and (ha : PE X a ta) (hb : PE X (.BoolOp .And (b :: rest) pos) tb) : PE X (.BoolOp .And (a :: b :: rest) pos) (tAndV ta tb) := by
  intro pins s σ H Q I h
  refine BoolOp_and (thn (ha pins s σ H _ I h) fun v s1 ⟨x, H1, I1, r1, q1⟩ => ?_)
  obtain ⟨c, rfl, q1⟩ := q1
  cases r1
  refine wpAny_truthy_bool ?_
  cases c with
  | true => exact hb pins s1 σ H1 Q I1 q1
  | false => exact ⟨.bl false, H1, I1, rfl, q1⟩
theorem pe_not (ha : PE X a ta) : PE X (.UnaryOp .Not a pos) (tNotV ta) := by
  intro pins s σ H Q I h
  refine UnaryOp_ (thn (ha pins s σ H _ I h) fun v s1 ⟨x, H1, I1, r1, q1⟩ => ?_)
  obtain ⟨c, rfl, q1⟩ := q1
  cases r1
  exact not_of (wpAny_truthy_bool ⟨.bl (!c), H1, I1, rfl, q1⟩)
/-- a if t else b -/
def tIf (t : TT) (ta tb : TE) : TE := fun σ H Q => t σ H fun c H1 => if c = true then ta σ H1 Q else tb σ H1 Q
theorem pe_ifExp {c : Expr} (hc : PT X c tA) (ha : PE X a ta) (hb : PE X b tb) : PE X (.IfExp c a b pos) (tIf tA ta tb) := by
  intro pins s σ H Q I h
  refine wpAny_IfExp (thn (hc pins s σ H _ I h) fun d s1 ⟨H1, I1, q1⟩ => ?_)
  cases d with
  | true => exact ha pins s1 σ H1 Q I1 q1
  | false => exact hb pins s1 σ H1 Q I1 q1
end
end L2

namespace L2
open PySem PySem.Spec PyProof.Rows

/-! ### a list, a tuple that is read: tracked, frozen, or an object of the module -/
def SqL (K : PySem.W.Frag) (H : Hp) (a : Addr) (xs : List V) : Prop :=
  Rd H a (.lst xs) ∨
    ∃ (o : Obj) (its : Array Value) (n : Nat), K.lookup a = some o ∧ o.cls = .type "list" ∧ o.dict = none ∧ o.data = .seq its n ∧ its.size ≤ sizeLine ∧ Vals xs its.toList
def SqT (K : PySem.W.Frag) (H : Hp) (a : Addr) (xs : List V) : Prop :=
  Rd H a (.tup xs) ∨
    ∃ (o : Obj) (its : Array Value) (n : Nat), K.lookup a = some o ∧ o.cls = .type "tuple" ∧ o.data = .seq its n ∧ its.size ≤ sizeLine ∧ Vals xs its.toList
def absV : Value → Option V
  | .none => some .non
  | .bool b => some (.bl b)
  | .int i _ => some (.int i)
  | .str x _ => some (.str x)
  | .bytes b _ => some (.byt b)
  | .float b _ => some (.flt b)
  | .ref a => some (.ref a)
  | .type n => some (.ty n)
  | _ => none
theorem RelV.abs {x : V} {u : Value} (r : RelV x u) : absV u = some x := by
  cases x with
  | non => cases r; rfl
  | bl _ => cases r; rfl
  | int _ => obtain ⟨t, rfl⟩ := r; rfl
  | str _ => obtain ⟨t, rfl⟩ := r; rfl
  | byt _ => obtain ⟨t, rfl⟩ := r; rfl
  | flt _ => obtain ⟨t, rfl⟩ := r; rfl
  | ref _ => cases r; rfl
  | ty _ => cases r; rfl
theorem RelV.inj {x y : V} {u : Value} (r : RelV x u) (q : RelV y u) : x = y := Option.some.inj (r.abs.symm.trans q.abs)
theorem Vals.inj : ∀ {xs ys : List V} {us : List Value}, Vals xs us → Vals ys us → xs = ys
  | _, _, _, .nil, .nil => rfl
  | _, _, _, .cons r t, .cons r' t' => by rw [r.inj r', Vals.inj t t']
section
variable {X : Cx} {pins : List (Addr × Obj)} {σ : St} {H : Hp} {s : Shared} {a : Addr} {xs ys : List V}
theorem SqL.of {K : PySem.W.Frag} (h : H a = some (.lst xs)) : SqL K H a xs := .inl (.inl h)
theorem SqT.of {K : PySem.W.Frag} (h : H a = some (.tup xs)) : SqT K H a xs := .inl (.inl h)
theorem Inv.list (I : Inv X pins σ H s) (h : SqL X.K H a xs) : ∃ its : List Value, Vals xs its ∧ PlainL s.heap a its.toArray ∧ xs.length ≤ sizeLine := by
  rcases h with h | ⟨o, its, n, hk, hc, hd, hs, hz, r⟩
  · obtain ⟨z, its, n, r, e⟩ := h.ok I.hok
    exact ⟨its, r, ⟨_, n, e, rfl, rfl, rfl⟩, z⟩
  · refine ⟨its.toList, r, ⟨o, n, I.kIn a o hk, hc, hd, by simpa using hs⟩, ?_⟩
    have e := r.length
    simp only [Array.length_toList] at e
    omega
theorem Inv.tuple (I : Inv X pins σ H s) (h : SqT X.K H a xs) : ∃ its : List Value, Vals xs its ∧ IsTup s.heap a its.toArray ∧ xs.length ≤ sizeLine := by
  rcases h with h | ⟨o, its, n, hk, hc, hs, hz, r⟩
  · obtain ⟨z, its, r, p⟩ := h.ok I.hok
    exact ⟨its, r, p, z⟩
  · refine ⟨its.toList, r, ⟨o, I.kIn a o hk, hc, n, by simpa using hs⟩, ?_⟩
    have e := r.length
    simp only [Array.length_toList] at e
    omega
theorem Inv.list_inj (I : Inv X pins σ H s) (h : SqL X.K H a xs) (h' : SqL X.K H a ys) : xs = ys := by
  obtain ⟨its, r, ⟨o, n, e, _, _, d⟩, _⟩ := I.list h
  obtain ⟨its', r', ⟨o', n', e', _, _, d'⟩, _⟩ := I.list h'
  rw [e] at e'; cases e'
  rw [d] at d'
  injection d' with d1 _
  have : its = its' := by simpa using congrArg Array.toList d1
  subst this
  exact r.inj r'
end

/-! ### another wish about exceptions -/
abbrev Cx.wish (X : Cx) (E : Value → Shared → Prop) : Cx := { X with xe := E }
/-- no exception leaves -/
abbrev Cx.nox (X : Cx) : Cx := X.wish fun _ _ => False
theorem Cx.Ok.wish {X : Cx} (ok : X.Ok) (E : Value → Shared → Prop) : (X.wish E).Ok :=
  ⟨ok.mod, ok.kind, ok.glob, ok.blt, ok.above, ok.inj, ok.has, ok.cab, ok.hd, ok.frames, ok.stk, ok.exf, ok.bs, ok.bsz, ok.noex, ok.exfs, ok.funs, ok.frf⟩
theorem Cx.Ok.unwish {X : Cx} {E : Value → Shared → Prop} (ok : (X.wish E).Ok) : X.Ok :=
  ⟨ok.mod, ok.kind, ok.glob, ok.blt, ok.above, ok.inj, ok.has, ok.cab, ok.hd, ok.frames, ok.stk, ok.exf, ok.bs, ok.bsz, ok.noex, ok.exfs, ok.funs, ok.frf⟩
section
variable {X : Cx} {pins : List (Addr × Obj)} {σ : St} {H : Hp} {s : Shared} {E : Value → Shared → Prop}
theorem Inv.wish (I : Inv X pins σ H s) (E : Value → Shared → Prop) : Inv (X.wish E) pins σ H s := ⟨I.ok.wish E, I.os, I.bare, I.base, I.loc, I.cell, I.free, I.freeC, I.pin, I.hok, I.len⟩
theorem Inv.unwish (I : Inv (X.wish E) pins σ H s) : Inv X pins σ H s := ⟨I.ok.unwish, I.os, I.bare, I.base, I.loc, I.cell, I.free, I.freeC, I.pin, I.hok, I.len⟩
theorem SP.unwish {D : Ends} {f : Flow} {s' : Shared} (h : SP (X.wish E) pins D f s') : SP X pins D f s' := by
  cases f with
  | next => obtain ⟨σ', H', I, q⟩ := h; exact ⟨σ', H', I.unwish, q⟩
  | brk => obtain ⟨σ', H', I, q⟩ := h; exact ⟨σ', H', I.unwish, q⟩
  | cont => obtain ⟨σ', H', I, q⟩ := h; exact ⟨σ', H', I.unwish, q⟩
  | ret u => obtain ⟨v, σ', H', I, r, q⟩ := h; exact ⟨v, σ', H', I.unwish, r, q⟩
theorem PSs.nox {st : List Stmt} {t : TS} (h : PSs X.nox st t) : PSs X st t := fun pins s σ H D I hw =>
  wpAny_mono (h pins s σ H D (I.wish _) hw) (fun _ _ q => q.unwish) fun _ _ z => False.elim z
end

/-! ### blocks and small statements -/
section
variable {X : Cx} {st : Stmt} {rest : List Stmt} {t u : TS} {e : Expr} {te : TE} {pos : Pos}
def tNext : TS := fun D σ H => D.nx σ H
def tSeq (t u : TS) : TS := fun D σ H => t { D with nx := u D } σ H
theorem pss_nil : PSs X [] tNext := fun _ _ σ H _ I h => wpAny_execs_nil ⟨σ, H, I, h⟩
theorem pss_cons (h1 : PS X st t) (h2 : PSs X rest u) : PSs X (st :: rest) (tSeq t u) := by
  intro pins s σ H D I h
  refine wpAny_execs_cons (thn (h1 pins s σ H { D with nx := u D } I h) fun f s1 q => ?_)
  cases f with
  | next =>
    obtain ⟨σ', H', I', q⟩ := q
    exact h2 pins s1 σ' H' D I' q
  | ret v => exact q
  | brk => exact q
  | cont => exact q
theorem pss_one (h1 : PS X st t) : PSs X [st] t := by
  intro pins s σ H D I h
  refine wpAny_execs_cons (thn (h1 pins s σ H D I h) fun f s1 q => ?_)
  cases f with
  | next => exact wpAny_execs_nil q
  | ret v => exact q
  | brk => exact q
  | cont => exact q
def tBreak : TS := fun D σ H => D.bk σ H
def tCont : TS := fun D σ H => D.ct σ H
/-- in a def's body nothing is shown -/
theorem Inv.quiet {pins : List (Addr × Obj)} {σ : St} {H : Hp} {s : Shared} (I : Inv X pins σ H s) : interactive X.env = false := by simp [interactive, I.ok.kind]
/-- an expression whose value is dropped -/
def tDrop (te : TE) : TS := fun D σ H => te σ H fun _ H1 => D.nx σ H1
theorem ps_expr (he : PE X e te) (hs : swapsWith e none pos.line X.env = pure false := by rfl) : PS X (.Expr e pos) (tDrop te) := by
  intro pins s σ H D I h
  exact wpAny_Expr_any (thn (he pins s σ H _ I h) fun v s1 ⟨x, H1, I1, r1, q1⟩ => ⟨σ, H1, I1, q1⟩) I.quiet hs
def tRet (te : TE) : TS := fun D σ H => te σ H D.rt
theorem ps_ret (he : PE X e te) : PS X (.Return (some e) pos) (tRet te) := by
  intro pins s σ H D I h
  exact wpAny_Return_some (thn (he pins s σ H _ I h) fun v s1 ⟨x, H1, I1, r1, q1⟩ => ⟨x, σ, H1, I1, r1, q1⟩)
def tRetN : TS := fun D _ H => D.rt .non H
def tIfS (c : TT) (t u : TS) : TS := fun D σ H => c σ H fun b H1 => if b = true then t D σ H1 else u D σ H1
theorem ps_if {c : Expr} {a b : List Stmt} {tc : TT} (hc : PT X c tc) (ha : PSs X a t) (hb : PSs X b u) : PS X (.If c a b pos) (tIfS tc t u) := by
  intro pins s σ H D I h
  refine wpAny_If (thn (hc pins s σ H _ I h) fun d s1 ⟨H1, I1, q1⟩ => ?_)
  cases d with
  | true => exact ha pins s1 σ H1 D I1 q1
  | false => exact hb pins s1 σ H1 D I1 q1
/-- code that the proof never comes to -/
def tNever : TS := fun _ _ _ => False
theorem ps_never : PS X st tNever := fun _ _ _ _ _ _ h => h.elim
end

/-! ### targets -/
abbrev TG := V → St → Hp → (St → Hp → Prop) → Prop
abbrev TGs := List V → St → Hp → (St → Hp → Prop) → Prop
def PG (X : Cx) (target : Expr) (t : TG) : Prop :=
  ∀ (pins : List (Addr × Obj)) (s : Shared) (σ : St) (H : Hp) (v : V) (u : Value) (Q : St → Hp → Prop), Inv X pins σ H s → RelV v u → t v σ H Q →
    wpAny (model X.prog X.w) X.A (assign target X.env u) (fun _ s' => ∃ σ' H', Inv X pins σ' H' s' ∧ Q σ' H') X.xe s
/-- several targets, one after another -/
def PGs (X : Cx) (ts : List Expr) (t : TGs) : Prop :=
  ∀ (pins : List (Addr × Obj)) (s : Shared) (σ : St) (H : Hp) (vs : List V) (us : List Value) (Q : St → Hp → Prop), Inv X pins σ H s → Vals vs us → t vs σ H Q →
    wpAny (model X.prog X.w) X.A (assignInOrder ((assignEach ts X.env).map (·.2)) us) (fun _ s' => ∃ σ' H', Inv X pins σ' H' s' ∧ Q σ' H') X.xe s
/-- o[i] = v, by values -/
abbrev TSet := V → V → V → Hp → (Hp → Prop) → Prop
def PSet (X : Cx) (t : TSet) : Prop :=
  ∀ (pins : List (Addr × Obj)) (s : Shared) (σ : St) (H : Hp) (o i v : V) (ov iv u : Value) (Q : Hp → Prop), Inv X pins σ H s → RelV o ov → RelV i iv → RelV v u → t o i v H Q →
    wpAny (model X.prog X.w) X.A (setItem ov iv u) (fun _ s' => ∃ H', Inv X pins σ H' s' ∧ Q H') X.xe s
/-- a op= b, by values -/
abbrev TIp := V → V → Hp → VK → Prop
def PIp (X : Cx) (op : Operator) (t : TIp) : Prop :=
  ∀ (pins : List (Addr × Obj)) (s : Shared) (σ : St) (H : Hp) (x y : V) (v u : Value) (Q : VK), Inv X pins σ H s → RelV x v → RelV y u → t x y H Q →
    wpAny (model X.prog X.w) X.A (inplaceOp op v u) (EP X pins σ Q) X.xe s
section
variable {X : Cx} {pos : Pos}
def gName (i : Nat) : TG := fun v σ H Q => Q (σ.set i (some v)) H
theorem pg_name {i : Nat} {x : Str} (hN : X.N.Nodup) (hi : X.N[i]? = some x) (hx : Loc X.env.scope x) (hf : X.fn x = true ∨ X.env.scope.names.lookup x = some .local := by first | exact .inl rfl | exact .inr rfl | assumption) : PG X (.Name x pos) (gName i) := by
  intro pins s σ H v u Q I r h
  exact wpAny_assign_Name (store_ok I hN hi hx r (fun s' I' => ⟨_, H, I', h⟩) hf)
def gNil : TGs := fun vs σ H Q => vs = [] ∧ Q σ H
def gCons (t : TG) (u : TGs) : TGs := fun vs σ H Q => ∃ v r, vs = v :: r ∧ t v σ H fun σ' H' => u r σ' H' Q
theorem pgs_nil : PGs X [] gNil := by
  intro pins s σ H vs us Q I r h
  obtain ⟨e, h⟩ := h
  subst e
  cases r
  exact assignInOrder_nil ⟨σ, H, I, h⟩
theorem pgs_cons {e : Expr} {es : List Expr} {t : TG} {u : TGs} (h1 : PG X e t) (h2 : PGs X es u)
    (hs : (assignEach (e :: es) X.env).map (·.2) = assign e X.env :: (assignEach es X.env).map (·.2) := by rfl) : PGs X (e :: es) (gCons t u) := by
  intro pins s σ H vs us Q I r h
  obtain ⟨v, vr, e1, h⟩ := h
  subst e1
  cases r with
  | cons r rr =>
    rw [hs]
    refine assignInOrder_cons (thn (h1 pins s σ H _ _ _ I r h) fun _ s1 ⟨σ1, H1, I1, q1⟩ => ?_)
    exact h2 pins s1 σ1 H1 _ _ Q I1 rr q1
/-- (a, b, ..) = a tuple of that length -/
def gTup (K : PySem.W.Frag) (n : Nat) (t : TGs) : TG := fun v σ H Q => ∃ a xs, v = .ref a ∧ SqT K H a xs ∧ xs.length = n ∧ t xs σ H Q
/-- o[i] = .. -/
def gSub (to ti : TE) (t : TSet) : TG := fun v σ H Q => to σ H fun o H1 => ti σ H1 fun i H2 => t o i v H2 fun H3 => Q σ H3
theorem pg_sub {o i : Expr} {to ti : TE} {t : TSet} (ho : PE X o to) (hi : PE X i ti) (hs : PSet X t)
    (ha : ∀ v, assign (.Subscript o i pos) X.env v = (do
      let ov ← holding [v] (eval o X.env)
      let iv ← holding [v, ov] (eval i X.env)
      standAt pos
      holding [v, ov, iv] (setItem ov iv v)
      release [v, ov, iv] []) := by intro _; rfl) : PG X (.Subscript o i pos) (gSub to ti t) := by
  intro pins s σ H v u Q I r h
  rw [ha]
  refine wpAny_bind (wpAny_holding (thn (ho pins s σ H _ I h) fun ov s1 ⟨x, H1, I1, r1, q1⟩ => ?_))
  refine wpAny_bind (wpAny_holding (thn (hi pins s1 σ H1 _ I1 q1) fun iv s2 ⟨y, H2, I2, r2, q2⟩ => ?_))
  refine wpAny_bind (wpAny_standAt (wpAny_bind (wpAny_holding (thn (hs pins s2 σ H2 x y v ov iv u _ I2 r1 r2 r q2) fun _ s3 ⟨H3, I3, q3⟩ => ?_))))
  exact wpAny_release ⟨σ, H3, I3, q3⟩
/-- target = value -/
def tAsg (te : TE) (g : TG) : TS := fun D σ H => te σ H fun x H1 => g x σ H1 D.nx
theorem ps_asg {tg e : Expr} {te : TE} {g : TG} (he : PE X e te) (hg : PG X tg g) (hs : swapsWithSole [tg] e pos.line X.env = pure false := by rfl) (hw : swappedStores [tg] e X.env = pure none := by rfl)
    (h1 : (assignEach [tg] X.env).map (·.2) = [assign tg X.env] := by rfl) : PS X (.Assign [tg] e pos) (tAsg te g) := by
  intro pins s σ H D I h
  refine wpAny_Assign_stores (thn (he pins s σ H _ I h) fun v s1 ⟨x, H1, I1, r1, q1⟩ => ?_) hs hw
  rw [h1]
  exact thn (hg pins s1 σ H1 x v _ I1 r1 q1) fun _ s2 q => q
/-- name = value -/
theorem ps_set {i : Nat} {x : Str} {e : Expr} {te : TE} {pos' : Pos} (hN : X.N.Nodup) (hi : X.N[i]? = some x) (hx : Loc X.env.scope x) (he : PE X e te) (hs : swapsWith e (some (.Name x pos')) pos.line X.env = pure false := by rfl) (hf : X.fn x = true ∨ X.env.scope.names.lookup x = some .local := by first | exact .inl rfl | exact .inr rfl | assumption) :
    PS X (.Assign [.Name x pos'] e pos) (tAsg te (gName i)) := by
  intro pins s σ H D I h
  refine wpAny_Assign_Name (thn (he pins s σ H _ I h) fun v s1 ⟨y, H1, I1, r1, q1⟩ => ?_) hs
  exact store_ok I1 hN hi hx r1 (fun s2 I2 => ⟨_, H1, I2, q1⟩) hf
/-- a, b = x, y with plain local names: stored from the right; the pair itself is not tracked (the opening rows as in PyProof/Rows/TupAssign.lean:23) -/
def tPar (i j : Nat) (ta : TA) : TS := fun D σ H => ta σ H fun vs H1 => ∃ v w, vs = [v, w] ∧ D.nx ((σ.set i (some v)).set j (some w)) H1
/-- name op= e -/
def tAug (i : Nat) (te : TE) (ti : TIp) : TS := fun D σ H => ∃ x, σ[i]? = some (some x) ∧ te σ H fun y H1 => ti x y H1 fun z H2 => D.nx (σ.set i (some z)) H2
/-- o[i] op= e -/
def tAugS (to ti te : TE) (tget : V → V → Hp → VK → Prop) (tip : TIp) (tset : TSet) : TS := fun D σ H => to σ H fun o H1 => ti σ H1 fun i H2 => tget o i H2 fun x H3 => te σ H3 fun y H4 => tip x y H4 fun z H5 => tset o i z H5 fun H6 => D.nx σ H6
/-- o[i], by values -/
def PGet (X : Cx) (t : V → V → Hp → VK → Prop) : Prop :=
  ∀ (pins : List (Addr × Obj)) (s : Shared) (σ : St) (H : Hp) (o i : V) (ov iv : Value) (Q : VK), Inv X pins σ H s → RelV o ov → RelV i iv → t o i H Q →
    wpAny (model X.prog X.w) X.A (getItem ov iv) (EP X pins σ Q) X.xe s
/-- ints -/
def ipI (f : Int → Int → Int) : TIp := fun x y H Q => ∃ i j, x = .int i ∧ y = .int j ∧ Q (.int (f i j)) H
end

/-! ### while -/
section
variable {X : Cx} {pos : Pos}
/-- the invariant W with its measure -/
def tWhile (c : TT) (tb : TS) : TS := fun D σ H => ∃ W : Nat → St → Hp → Prop, (∃ m, W m σ H) ∧ ∀ m σ H, W m σ H →
  c σ H fun b H1 => if b = true then ∃ N : St → Hp → Prop, (∀ σ' H', N σ' H' → ∃ m', m' < m ∧ W m' σ' H') ∧ tb { D with nx := N, ct := N, bk := D.nx } σ H1 else D.nx σ H1
theorem ps_while {c : Expr} {body : List Stmt} {tc : TT} {tb : TS} (hp : PassesOwn (model X.prog X.w) X.A X.env X.xe) (hc : PT X c tc) (hb : PSs X body tb) : PS X (.While c body [] pos) (tWhile tc tb) := by
  intro pins s σ H D I h
  obtain ⟨W, ⟨m0, w0⟩, turn⟩ := h
  refine wpAny_While (codeAny_whileLoop (fun n s' => ∃ σ' H', Inv X pins σ' H' s' ∧ W n σ' H') ?_ m0 ⟨σ, H, I, w0⟩)
  rintro n s1 ⟨σ1, H1, I1, w1⟩
  refine wpAny_passesOwn hp (thn (hc pins s1 σ1 H1 _ I1 (turn n σ1 H1 w1)) fun b s2 ⟨H2, I2, q2⟩ => ?_)
  cases b with
  | true =>
    obtain ⟨N, hN, q2⟩ := q2
    rw [if_pos rfl]
    refine wpAny_passesOwn hp (thn (hb pins s2 σ1 H2 _ I2 q2) fun f s3 q3 => ?_)
    cases f with
    | next =>
      obtain ⟨σ3, H3, I3, n3⟩ := q3
      obtain ⟨m', hm, w3⟩ := hN σ3 H3 n3
      exact ⟨m', hm, σ3, H3, I3, w3⟩
    | cont =>
      obtain ⟨σ3, H3, I3, n3⟩ := q3
      obtain ⟨m', hm, w3⟩ := hN σ3 H3 n3
      exact ⟨m', hm, σ3, H3, I3, w3⟩
    | brk => exact q3
    | ret v => exact q3
  | false =>
    rw [if_neg Bool.false_ne_true]
    exact wpAny_execs_nil ⟨σ1, H2, I2, q2⟩
end

/-! ### what a loop or a comprehension walks -/
/-- at turn i: it yields x (the heap may grow), or it stops -/
structure It where
  go : Nat → Hp → Prop
  yld : Nat → Hp → V → Hp → Prop
  stop : Nat → Hp → Prop
/-- the iterator's own objects may turn: they are not the frame's, not pinned, younger than the entry (or a comprehension's own) -/
def FpOk (X : Cx) (pins : List (Addr × Obj)) (H : Hp) (b : Addr) : Prop :=
  H b = none ∧ b ≠ X.env.locals ∧ b ∉ X.fs ∧ (b ∈ X.ex ∨ X.s₀.heap.objs.size ≤ b) ∧ (∀ x c, X.env.cells.lookup x = some c → c ≠ b) ∧ ∀ p ∈ X.pn ++ pins, p.1 ≠ b
theorem Inv.fpOk {X : Cx} {pins : List (Addr × Obj)} {σ : St} {H H' : Hp} {s : Shared} {b : Addr} (I : Inv X pins σ H s) (hb : s.heap.objs.size ≤ b) (hn : H' b = none) : FpOk X pins H' b := by
  refine ⟨hn, Nat.ne_of_gt (Nat.lt_of_lt_of_le I.lt hb), I.nofs hb, .inr (Nat.le_trans I.sz hb), fun x c e z => ?_, fun p hp z => ?_⟩
  · obtain ⟨v, q⟩ := I.cell x c e
    exact absurd (Nat.lt_of_lt_of_le q.lt (by rw [z]; exact hb)) (Nat.lt_irrefl _)
  · exact absurd (Nat.lt_of_lt_of_le (Heap.lt_size (I.pin p hp).1) (by rw [z]; exact hb)) (Nat.lt_irrefl _)
structure Turn (P : Program) (w : World) (K : PySem.W.Frag) (tg : Expr) (J : It) (fp : List Addr) (it : Addr) (tn : Nat → Heap → Prop) : Prop where
  mem : it ∈ fp
  obj : ∀ i h, tn i h → ∀ b ∈ fp, ∃ o, h.get? b = some o ∧ ∀ v, o.data ≠ .cell v
  keep : ∀ i h h', tn i h → (∀ b ∈ fp, ∀ o, h.get? b = some o → h'.get? b = some o) → tn i h'
  item : ∀ (X : Cx), X.prog = P → X.w = w → X.K = K → X.calm = true → ∀ (i : Nat) (pins : List (Addr × Obj)) (s : Shared) (σ : St) (H : Hp) (E : Value → Shared → Prop), Inv X pins σ H s → (∀ b ∈ fp, FpOk X pins H b) → tn i s.heap → J.go i H →
    wpAny (model P w) X.A (pyNext (.ref it)) (fun r s1 => ∃ u, r = some u ∧
      wpAny (model P w) X.A (letOwnedTupleGo tg (.ref it) u) (fun _ s2 => ∃ x H', Inv X pins σ H' s2 ∧ RelV x u ∧ J.yld i H x H' ∧ tn (i + 1) s2.heap ∧ ∀ b ∈ fp, H' b = none) E s1) E s
  done : ∀ (X : Cx), X.prog = P → X.w = w → X.K = K → X.calm = true → ∀ (i : Nat) (pins : List (Addr × Obj)) (s : Shared) (σ : St) (H : Hp) (E : Value → Shared → Prop), Inv X pins σ H s → (∀ b ∈ fp, FpOk X pins H b) → tn i s.heap → J.stop i H →
    wpAny (model P w) X.A (pyNext (.ref it)) (fun r s1 => r = none ∧ Inv X pins σ H s1) E s
  self : ∀ (A : Around) (i : Nat) (s : Shared) (Q : Value → Shared → Prop) (E : Value → Shared → Prop), tn i s.heap → Q (.ref it) s → wpAny (model P w) A (pyIter (.ref it)) Q E s
abbrev TI := St → Hp → (It → Hp → Prop) → Prop
/-- an iterator has come -/
def PIE (X : Cx) (pins : List (Addr × Obj)) (σ : St) (tg : Expr) (R : It → Hp → Prop) (itv : Value) (s2 : Shared) : Prop :=
  ∃ (it : Addr) (fp : List Addr) (tn : Nat → Heap → Prop) (J : It) (H' : Hp), itv = .ref it ∧ Inv X pins σ H' s2 ∧ Turn X.prog X.w X.K tg J fp it tn ∧ tn 0 s2.heap ∧ (∀ b ∈ fp, FpOk X pins H' b) ∧ R J H'
def PI (X : Cx) (tg iter : Expr) (wi : TI) : Prop :=
  ∀ (pins : List (Addr × Obj)) (s : Shared) (σ : St) (H : Hp) (R : It → Hp → Prop), Inv X pins σ H s → wi σ H R →
    wpAny (model X.prog X.w) X.A (eval iter X.env) (fun v s1 => wpAny (model X.prog X.w) X.A (pyIter v) (PIE X pins σ tg R) X.xe s1) X.xe s

/-- the step ahead of the store is nothing for an iterator that keeps no tuple -/
theorem go_of {M : Model} {A : Around} {E : Value → Shared → Prop} {s : Shared} {tg : Expr} {it : Addr} {u : Value} {o : Obj} {n : String} {vs : Array Value} {Q : Unit → Shared → Prop} (ho : s.heap.get? it = some o) (hc : o.cls = .type n) (hd : o.data = .fields vs)
    (hn : ["enumerate", "zip", "dict_itemiterator", "dict_reverseitemiterator", "odict_iterator", "itertools.zip_longest", "itertools.pairwise"].contains n = false) (hQ : Q () s) : wpAny M A (letOwnedTupleGo tg (.ref it) u) Q E s := by
  unfold letOwnedTupleGo
  cases tg <;> first
    | exact wpAny_pure hQ
    | (cases u <;> first
        | exact wpAny_pure hQ
        | (refine wpAny_bind (wpAny_load ho ?_)
           rw [hc, hd]
           show wpAny M A (if (["enumerate", "zip", "dict_itemiterator", "dict_reverseitemiterator", "odict_iterator", "itertools.zip_longest", "itertools.pairwise"].contains n && vs[0]? == some (rawInt _)) = true then _ else _) Q E s
           rw [if_neg (by intro h; rw [hn, Bool.false_and] at h; cases h)]
           exact wpAny_pure hQ))

/-- the list at a, as it stands at each turn (a loop may append to it) -/
def Itl (K : PySem.W.Frag) (a : Addr) : It :=
  ⟨fun i H => ∃ xs x, SqL K H a xs ∧ xs[i]? = some x, fun i H x H' => H' = H ∧ ∀ xs, SqL K H a xs → xs[i]? = some x, fun i H => ∃ xs, SqL K H a xs ∧ xs.length ≤ i⟩
def Itt (K : PySem.W.Frag) (a : Addr) : It :=
  ⟨fun i H => ∃ xs x, SqT K H a xs ∧ xs[i]? = some x, fun i H x H' => H' = H ∧ ∀ xs, SqT K H a xs → xs[i]? = some x, fun i H => ∃ xs, SqT K H a xs ∧ xs.length ≤ i⟩
/-- lo, lo + 1, .. (n of them) -/
def Itr (lo : Int) (n : Nat) : It := ⟨fun i _ => i < n, fun i H x H' => H' = H ∧ x = .int (lo + i), fun i _ => n ≤ i⟩
theorem turn_list {P : Program} {w : World} {K : PySem.W.Frag} {tg : Expr} (a it : Addr) : Turn P w K tg (Itl K a) [it] it (fun i h => h.IsListIter it a i) where
  mem := by simp
  obj := fun i h st b hb => by
    have e : b = it := by simpa using hb
    subst e
    obtain ⟨o, e, c, d⟩ := st
    exact ⟨o, e, fun v z => by rw [d] at z; cases z⟩
  keep := fun i h h' st k => st.at fun o e => k it (by simp) o e
  item := by
    intro X hP hw hK hc i pins s σ H E I hf st hg
    subst hP hw hK
    obtain ⟨xs, x, hq, hx⟩ := hg
    obtain ⟨its, rv, p, hz⟩ := I.list hq
    obtain ⟨u, hu, ru⟩ := rv.get hx
    obtain ⟨f0, f1, f2, f3, f4, f5⟩ := hf it (by simp)
    refine wpAny_pyNext_list_item st p.isList (x := u) (by simpa using hu) fun h' st' sb => ?_
    have I1 : Inv X pins σ H { s with heap := h' } := I.turned (t' := s.toks) (fun b o hb e => (sb.2 b hb).trans e) f0 f1 f3 f4 f5
    obtain ⟨o, e, c, d⟩ := id st'
    exact ⟨u, rfl, go_of (s := { s with heap := h' }) e c d (by decide) ⟨x, H, I1, ru, ⟨rfl, fun ys hy => by rw [I.list_inj hy hq]; exact hx⟩, st', fun b hb => (hf b hb).1⟩⟩
  done := by
    intro X hP hw hK hc i pins s σ H E I hf st hg
    subst hP hw hK
    obtain ⟨xs, hq, hx⟩ := hg
    obtain ⟨its, rv, p, hz⟩ := I.list hq
    obtain ⟨f0, f1, f2, f3, f4, f5⟩ := hf it (by simp)
    have hl := rv.length
    exact wpAny_pyNext_list_end (I.ok.hd hc) st p.isList (by simp; omega) fun h' eb => ⟨rfl, I.turned (t' := s.toks) (fun b o hb e => eb b o hb e) f0 f1 f3 f4 f5⟩
  self := fun _ _ _ _ _ st h => wpAny_pyIter_listiter st h
theorem turn_range {P : Program} {w : World} {K : PySem.W.Frag} {tg : Expr} (it : Addr) (lo : Int) (n : Nat) : Turn P w K tg (Itr lo n) [it] it (fun i h => IsRangeIter h it (lo + (i : Nat) * 1) ((n : Int) - (i : Nat)) 1) where
  mem := by simp
  obj := fun i h st b hb => by
    have e : b = it := by simpa using hb
    subst e
    exact ⟨_, st, fun v z => by
      have z' : Data.fields _ = Data.cell v := z
      cases z'⟩
  keep := fun i h h' st k => k it (by simp) _ st
  item := by
    intro X hP hw hK hc i pins s σ H E I hf st hg
    subst hP hw hK
    obtain ⟨f0, f1, f2, f3, f4, f5⟩ := hf it (by simp)
    have W := Walks.range (prog := X.prog) (w := X.w) (I.ok.hd hc) it lo 1 n
    refine W.item i s _ _ hg st fun v h' tk hv st' kk => ?_
    obtain ⟨t, rfl⟩ := hv
    have I1 : Inv X pins σ H { s with heap := h', toks := tk } := I.turned (fun b o hb e => kk b o (by simpa using hb) e) f0 f1 f3 f4 f5
    refine ⟨_, rfl, go_of (s := { s with heap := h', toks := tk }) (n := "range_iterator") st' rfl rfl (by decide) ⟨.int (lo + i), H, I1, ⟨t, ?_⟩, ⟨rfl, rfl⟩, st', fun b hb => (hf b hb).1⟩⟩
    rw [Int.mul_one]
  done := by
    intro X hP hw hK hc i pins s σ H E I hf st hg
    subst hP hw hK
    obtain ⟨f0, f1, f2, f3, f4, f5⟩ := hf it (by simp)
    exact wpAny_pyNext_range_end (I.ok.hd hc) st (by have : n ≤ i := hg; omega) fun h' eb => ⟨rfl, I.turned (t' := s.toks) (fun b o hb e => eb b o hb e) f0 f1 f3 f4 f5⟩
  self := fun _ _ _ _ _ st h => wpAny_pyIter_rangeiter st h
end L2

namespace L2
open PySem PySem.Spec PyProof.Rows
section
variable {X : Cx} {tg : Expr}
def iList (K : PySem.W.Frag) (tl : TE) : TI := fun σ H R => tl σ H fun x H1 => ∃ a, x = .ref a ∧ (∃ xs, SqL K H1 a xs) ∧ R (Itl K a) H1
def iTup (K : PySem.W.Frag) (tl : TE) : TI := fun σ H R => tl σ H fun x H1 => ∃ a, x = .ref a ∧ (∃ xs, SqT K H1 a xs) ∧ R (Itt K a) H1
theorem pi_list {l : Expr} {tl : TE} (hl : PE X l tl) : PI X tg l (iList X.K tl) := by
  intro pins s σ H R I h
  refine thn (hl pins s σ H _ I h) fun v s1 ⟨x, H1, I1, r1, q1⟩ => ?_
  obtain ⟨a, e, ⟨xs, hq⟩, q⟩ := q1
  subst e
  cases r1
  obtain ⟨its, rv, p, hz⟩ := I1.list hq
  refine wpAny_pyIter_list p.isList ?_
  refine ⟨s1.heap.objs.size, [s1.heap.objs.size], _, _, H1, rfl, I1.kept (t' := s1.toks) fun b o e => Heap.get?_push_of_some _ e, turn_list a _, ⟨_, Heap.get?_push_size _ rfl, rfl, rfl⟩, fun b hb => ?_, q⟩
  have e : b = s1.heap.objs.size := by simpa using hb
  subst e
  exact I1.fpOk (Nat.le_refl _) (I1.hok.fresh (Nat.le_refl _))
/-- a range object just made, walked -/
theorem range_it {pins : List (Addr × Obj)} {σ : St} {H : Hp} {s : Shared} {R : It → Hp → Prop} {E : Value → Shared → Prop} {lo hi : Int} {t u v : Tok} {tk : Nat} (I : Inv X pins σ H s) (h1 : -(2 ^ 62) ≤ lo) (h2 : lo < 2 ^ 62) (h3 : -(2 ^ 62) ≤ hi) (h4 : hi < 2 ^ 62)
    (q : R (Itr lo (hi - lo).toNat) H) : wpAny (model X.prog X.w) X.A (pyIter (.ref s.heap.objs.size)) (PIE X pins σ tg R) E { s with heap := s.heap.push { cls := .type "range", data := .fields #[.int lo t, .int hi u, .int 1 v] }, toks := tk } := by
  refine wpAny_pyIter_range (IsRange.new ..) (small_one h1 h2 h3 h4) ?_
  have I1 : Inv X pins σ H { s with heap := s.heap.push { cls := .type "range", data := .fields #[.int lo t, .int hi u, .int 1 v] }, toks := tk } := I.kept fun b o e => Heap.get?_push_of_some _ e
  refine ⟨(s.heap.push { cls := .type "range", data := .fields #[.int lo t, .int hi u, .int 1 v] }).objs.size, [(s.heap.push { cls := .type "range", data := .fields #[.int lo t, .int hi u, .int 1 v] }).objs.size], _, _, H, rfl,
    I1.kept (t' := tk) fun b o e => Heap.get?_push_of_some _ e, turn_range _ lo (hi - lo).toNat, ?_, fun b hb => ?_, q⟩
  · have e1 : lo + ((0 : Nat) : Int) * 1 = lo := by simp
    have e2 : (((hi - lo).toNat : Nat) : Int) - ((0 : Nat) : Int) = Builtin.Range.rangeSize lo hi 1 := by rw [rangeSize_one]; split <;> omega
    show IsRangeIter _ _ (lo + ((0 : Nat) : Int) * 1) ((((hi - lo).toNat : Nat) : Int) - ((0 : Nat) : Int)) 1
    rw [e1, e2]
    exact Heap.get?_push_size _ rfl
  · have e : b = (s.heap.push { cls := .type "range", data := .fields #[.int lo t, .int hi u, .int 1 v] }).objs.size := by simpa using hb
    subst e
    exact I1.fpOk (Nat.le_refl _) (I1.hok.fresh (Nat.le_refl _))
def iRng1 (ta : TA) : TI := fun σ H R => ta σ H fun vs H1 => ∃ j : Int, vs = [.int j] ∧ -(2 ^ 62) ≤ j ∧ j < 2 ^ 62 ∧ R (Itr 0 j.toNat) H1
def iRng2 (ta : TA) : TI := fun σ H R => ta σ H fun vs H1 => ∃ i j : Int, vs = [.int i, .int j] ∧ (-(2 ^ 62) ≤ i ∧ i < 2 ^ 62 ∧ -(2 ^ 62) ≤ j ∧ j < 2 ^ 62) ∧ R (Itr i (j - i).toNat) H1
theorem pi_range1 {a : Expr} {ta : TA} {p pos : Pos} (hg : Gl X "range") (hm : X.mg "range" = none) (ha : PA X [a] ta) (hs : starEach [a] X.env = [(false, eval a X.env)] := by rfl) : PI X tg (.Call (.Name "range" p) [a] [] pos) (iRng1 ta) := by
  intro pins s σ H R I h
  refine Call_ (ld_blt I hg hm boot_range (PyProof.Rows.callWith_type1 (thn (ha pos pins s σ H _ I h) fun us s1 ⟨vs, H1, I1, r1, q1⟩ => ?_) hs rfl))
  obtain ⟨j, e, q1, q2, q⟩ := q1
  subst e
  cases r1 with
  | cons r rr =>
    cases rr
    obtain ⟨t, rfl⟩ := r
    exact call_range_1 (range_it I1 (by omega) (by omega) q1 q2 (by simpa using q))

/-! ### for -/
/-- W: the invariant by the turn and a measure; N: what the body is to reach -/
def tFor (wi : TI) (g : TG) (tb : TS) : TS := fun D σ H => wi σ H fun J H1 => ∃ W : Nat → Nat → St → Hp → Prop, (∃ m, W 0 m σ H1) ∧ ∀ i m σ H, W i m σ H →
  (J.stop i H ∧ D.nx σ H) ∨ (J.go i H ∧ ∃ N : St → Hp → Prop, (∀ σ' H', N σ' H' → ∃ m', m' < m ∧ W (i + 1) m' σ' H') ∧ ∀ x H', J.yld i H x H' → g x σ H' fun σ2 H2 => tb { D with nx := N, ct := N, bk := D.nx } σ2 H2)
/-- the records at fp as they stand -/
def pinsAt (fp : List Addr) (h : Heap) : List (Addr × Obj) := fp.filterMap fun b => (h.get? b).map fun o => (b, o)
theorem mem_pinsAt {fp : List Addr} {h : Heap} {b : Addr} {o : Obj} (hb : b ∈ fp) (e : h.get? b = some o) : (b, o) ∈ pinsAt fp h := List.mem_filterMap.mpr ⟨b, hb, by rw [e]; rfl⟩
theorem of_pinsAt {fp : List Addr} {h : Heap} {p : Addr × Obj} (hp : p ∈ pinsAt fp h) : p.1 ∈ fp ∧ h.get? p.1 = some p.2 := by
  obtain ⟨b, hb, e⟩ := List.mem_filterMap.mp hp
  cases q : h.get? b with
  | none => rw [q] at e; cases e
  | some o =>
    rw [q] at e
    have e' : (b, o) = p := Option.some.inj e
    subst e'
    exact ⟨hb, q⟩
theorem Inv.pinned {pins : List (Addr × Obj)} {σ : St} {H : Hp} {s : Shared} {fp : List Addr} (I : Inv X pins σ H s) (hf : ∀ b ∈ fp, FpOk X pins H b) (ho : ∀ b ∈ fp, ∃ o, s.heap.get? b = some o ∧ ∀ v, o.data ≠ .cell v) : Inv X (pins ++ pinsAt fp s.heap) σ H s :=
  I.pins_of fun p hp => (List.mem_append.mp hp).elim (fun z => I.pin p (List.mem_append_right _ z)) fun z => by
    obtain ⟨hb, e⟩ := of_pinsAt z
    obtain ⟨f0, f1, f2, _⟩ := hf p.1 hb
    obtain ⟨o, e', d⟩ := ho p.1 hb
    rw [e] at e'; cases e'
    exact ⟨e, f0, f1, f2, d⟩
theorem Inv.unpinned {pins pl : List (Addr × Obj)} {σ : St} {H : Hp} {s : Shared} (I : Inv X (pins ++ pl) σ H s) : Inv X pins σ H s := I.pins_of fun p hp => I.pin p (List.mem_append_right _ (List.mem_append_left _ hp))
theorem ps_for {iter : Expr} {body : List Stmt} {wi : TI} {g : TG} {tb : TS} {pos : Pos} (hp : PassesOwn (model X.prog X.w) X.A X.env X.xe) (hc : X.calm = true) (hi : PI X tg iter wi) (hg : PG X tg g) (hb : PSs X body tb)
    (hs : ∀ x, foldedSetIterable iter X.env x = pure x := by intro _; rfl) : PS X (.For tg iter body [] pos) (tFor wi g tb) := by
  intro pins s σ H D I h
  refine wpAny_For (thn (hi pins s σ H _ I h) fun v s1 h1 => thn h1 fun itv s2 h2 => ?_) hs
  obtain ⟨it, fp, tn, J, H2, e, I2, T, st2, f2, W, ⟨m0, w0⟩, turn⟩ := h2
  subst e
  -- what stays true of the iterator's objects through the loop
  have stat : ∀ {H' : Hp}, (∀ b ∈ fp, H' b = none) → ∀ b ∈ fp, FpOk X pins H' b := fun hn b hb => ⟨hn b hb, (f2 b hb).2⟩
  refine codeAny_forLoop_any (fun n s' => ∃ i σ' H', Inv X pins σ' H' s' ∧ tn i s'.heap ∧ (∀ b ∈ fp, H' b = none) ∧ W i n σ' H') ?_ m0 ⟨0, σ, H2, I2, st2, fun b hb => (f2 b hb).1, w0⟩
  rintro n s3 ⟨i, σ3, H3, I3, st3, fr3, w3⟩
  rcases turn i n σ3 H3 w3 with ⟨stop, qn⟩ | ⟨go, N, hN, step⟩
  · refine wpAny_passesOwn hp (thn (T.done X rfl rfl rfl hc i pins s3 σ3 H3 X.xe I3 (stat fr3) st3 stop) fun r s4 ⟨hr, I4⟩ => ?_)
    subst hr
    exact wpAny_execs_nil ⟨σ3, H3, I4, qn⟩
  · refine wpAny_passesOwn hp (thn (T.item X rfl rfl rfl hc i pins s3 σ3 H3 X.xe I3 (stat fr3) st3 go) fun r s4 ⟨u, hr, h4⟩ => ?_)
    subst hr
    refine wpAny_passesOwn hp (thn h4 fun _ s5 ⟨x, H5, I5, r5, y5, st5, fr5⟩ => ?_)
    have I5' := I5.pinned (stat fr5) (T.obj _ _ st5)
    refine wpAny_passesOwn hp (thn (hg _ s5 σ3 H5 x u _ I5' r5 (step x H5 y5)) fun _ s6 ⟨σ6, H6, I6, q6⟩ => ?_)
    refine wpAny_passesOwn hp (thn (hb _ s6 σ6 H6 _ I6 q6) fun f s7 q7 => ?_)
    have again : ∀ {σ7 : St} {H7 : Hp}, Inv X (pins ++ pinsAt fp s5.heap) σ7 H7 s7 → N σ7 H7 → ∃ m, m < n ∧ ∃ i σ' H', Inv X pins σ' H' s7 ∧ tn i s7.heap ∧ (∀ b ∈ fp, H' b = none) ∧ W i m σ' H' := fun {σ7 H7} I7 n7 => by
      obtain ⟨m', hm, w7⟩ := hN σ7 H7 n7
      refine ⟨m', hm, i + 1, σ7, H7, I7.unpinned, T.keep _ _ _ st5 fun b hb o e => (I7.pin (b, o) (List.mem_append_right _ (List.mem_append_right _ (mem_pinsAt hb e)))).1, fun b hb => ?_, w7⟩
      obtain ⟨o, e, d⟩ := T.obj _ _ st5 b hb
      exact (I7.pin (b, o) (List.mem_append_right _ (List.mem_append_right _ (mem_pinsAt hb e)))).2.1
    cases f with
    | next => obtain ⟨σ7, H7, I7, n7⟩ := q7; exact again I7 n7
    | cont => obtain ⟨σ7, H7, I7, n7⟩ := q7; exact again I7 n7
    | brk => obtain ⟨σ7, H7, I7, q7⟩ := q7; exact ⟨σ7, H7, I7.unpinned, q7⟩
    | ret v => obtain ⟨x7, σ7, H7, I7, r7, q7⟩ := q7; exact ⟨x7, σ7, H7, I7.unpinned, r7, q7⟩
end

/-! ### the forms one uses -/
/-- over a list that the body leaves as it is -/
theorem for_list {K : PySem.W.Frag} {a : Addr} {xs : List V} {g : TG} {tb : TS} {D : Ends} {σ : St} {H : Hp} (Pv : Nat → St → Hp → Prop) (h0 : Pv 0 σ H) (hl : ∀ i σ H, i ≤ xs.length → Pv i σ H → SqL K H a xs)
    (hs : ∀ i x σ H, xs[i]? = some x → Pv i σ H → g x σ H fun σ2 H2 => tb { D with nx := Pv (i + 1), ct := Pv (i + 1), bk := D.nx } σ2 H2) (hd : ∀ σ H, Pv xs.length σ H → D.nx σ H) :
    ∃ W : Nat → Nat → St → Hp → Prop, (∃ m, W 0 m σ H) ∧ ∀ i m σ H, W i m σ H →
      ((Itl K a).stop i H ∧ D.nx σ H) ∨ ((Itl K a).go i H ∧ ∃ N : St → Hp → Prop, (∀ σ' H', N σ' H' → ∃ m', m' < m ∧ W (i + 1) m' σ' H') ∧ ∀ x H', (Itl K a).yld i H x H' → g x σ H' fun σ2 H2 => tb { D with nx := N, ct := N, bk := D.nx } σ2 H2) := by
  refine ⟨fun i m σ H => m = xs.length - i ∧ i ≤ xs.length ∧ Pv i σ H, ⟨xs.length, by simp, Nat.zero_le _, h0⟩, ?_⟩
  rintro i m σ H ⟨rfl, hi, p⟩
  have q := hl i σ H hi p
  by_cases hlt : i < xs.length
  · refine .inr ⟨⟨xs, xs[i], q, by simp [hlt]⟩, Pv (i + 1), fun σ' H' p' => ⟨xs.length - (i + 1), by omega, rfl, hlt, p'⟩, fun x H' y => ?_⟩
    obtain ⟨e, y⟩ := y
    subst e
    exact hs i x σ _ (y xs q) p
  · have e : i = xs.length := by omega
    subst e
    exact .inl ⟨⟨xs, q, Nat.le_refl _⟩, hd σ H p⟩
theorem for_range {lo : Int} {n : Nat} {g : TG} {tb : TS} {D : Ends} {σ : St} {H : Hp} (Pv : Nat → St → Hp → Prop) (h0 : Pv 0 σ H)
    (hs : ∀ i σ H, i < n → Pv i σ H → g (.int (lo + i)) σ H fun σ2 H2 => tb { D with nx := Pv (i + 1), ct := Pv (i + 1), bk := D.nx } σ2 H2) (hd : ∀ σ H, Pv n σ H → D.nx σ H) :
    ∃ W : Nat → Nat → St → Hp → Prop, (∃ m, W 0 m σ H) ∧ ∀ i m σ H, W i m σ H →
      ((Itr lo n).stop i H ∧ D.nx σ H) ∨ ((Itr lo n).go i H ∧ ∃ N : St → Hp → Prop, (∀ σ' H', N σ' H' → ∃ m', m' < m ∧ W (i + 1) m' σ' H') ∧ ∀ x H', (Itr lo n).yld i H x H' → g x σ H' fun σ2 H2 => tb { D with nx := N, ct := N, bk := D.nx } σ2 H2) := by
  refine ⟨fun i m σ H => m = n - i ∧ i ≤ n ∧ Pv i σ H, ⟨n, by simp, Nat.zero_le _, h0⟩, ?_⟩
  rintro i m σ H ⟨rfl, hi, p⟩
  by_cases hlt : i < n
  · refine .inr ⟨hlt, Pv (i + 1), fun σ' H' p' => ⟨n - (i + 1), by omega, rfl, hlt, p'⟩, fun x H' y => ?_⟩
    obtain ⟨e, y⟩ := y
    subst e y
    exact hs i σ _ hlt p
  · have e : i = n := by omega
    subst e
    exact .inl ⟨Nat.le_refl _, hd σ H p⟩
/-- while, by a word and a measure of the state -/
theorem while_by {c : TT} {tb : TS} {D : Ends} {σ : St} {H : Hp} (Pv : St → Hp → Prop) (μ : St → Hp → Nat) (h0 : Pv σ H)
    (hs : ∀ σ H, Pv σ H → c σ H fun b H1 => if b = true then tb { D with nx := fun σ' H' => Pv σ' H' ∧ μ σ' H' < μ σ H, ct := fun σ' H' => Pv σ' H' ∧ μ σ' H' < μ σ H, bk := D.nx } σ H1 else D.nx σ H1)
    (mono : ∀ σ H Q Q', (∀ b H1, Q b H1 → Q' b H1) → c σ H Q → c σ H Q') : tWhile c tb D σ H := by
  refine ⟨fun m σ H => m = μ σ H ∧ Pv σ H, ⟨_, rfl, h0⟩, ?_⟩
  rintro m σ H ⟨rfl, p⟩
  refine mono σ H _ _ (fun b H1 q => ?_) (hs σ H p)
  cases b with
  | true => exact ⟨_, fun σ' H' ⟨p', l⟩ => ⟨_, l, rfl, p'⟩, q⟩
  | false => exact q
end L2

namespace L2
open PySem PySem.Spec PyProof.Rows

abbrev R2 := V → V → Hp → VK → Prop
/-- a two-place operation on values: f is binaryOp op, inplaceOp op or compareOp op -/
def OpR (X : Cx) (f : Value → Value → Sem Value) (r : R2) : Prop :=
  ∀ (pins : List (Addr × Obj)) (s : Shared) (σ : St) (H : Hp) (x y : V) (v u : Value) (Q : VK), Inv X pins σ H s → RelV x v → RelV y u → r x y H Q →
    wpAny (model X.prog X.w) X.A (f v u) (EP X pins σ Q) X.xe s
/-- a one-place operation -/
def UnR (X : Cx) (f : Value → Sem Value) (r : V → Hp → VK → Prop) : Prop :=
  ∀ (pins : List (Addr × Obj)) (s : Shared) (σ : St) (H : Hp) (x : V) (v : Value) (Q : VK), Inv X pins σ H s → RelV x v → r x H Q →
    wpAny (model X.prog X.w) X.A (f v) (EP X pins σ Q) X.xe s
/-- a call of a value that is known (a builtin, a type) with values -/
def CallR (X : Cx) (f : Value) (r : List V → Hp → VK → Prop) : Prop :=
  ∀ (pins : List (Addr × Obj)) (s : Shared) (σ : St) (H : Hp) (xs : List V) (us : List Value) (Q : VK), Inv X pins σ H s → Vals xs us → r xs H Q →
    wpAny (model X.prog X.w) X.A (call f us) (EP X pins σ Q) X.xe s
/-- a value's truth -/
def TruR (X : Cx) (r : V → Hp → (Bool → Hp → Prop) → Prop) : Prop :=
  ∀ (pins : List (Addr × Obj)) (s : Shared) (σ : St) (H : Hp) (x : V) (v : Value) (Q : Bool → Hp → Prop), Inv X pins σ H s → RelV x v → r x H Q →
    wpAny (model X.prog X.w) X.A (truthy v) (TP X pins σ Q) X.xe s

def tOp (r : R2) (ta tb : TE) : TE := fun σ H Q => ta σ H fun x H1 => tb σ H1 fun y H2 => r x y H2 Q
def tUn (r : V → Hp → VK → Prop) (ta : TE) : TE := fun σ H Q => ta σ H fun x H1 => r x H1 Q
/-- ints in, under C, and a value out -/
def rI (C : Int → Int → Prop) (g : Int → Int → V) : R2 := fun x y H Q => ∃ i j, x = .int i ∧ y = .int j ∧ C i j ∧ Q (g i j) H
def rI0 (g : Int → Int → V) : R2 := fun x y H Q => ∃ i j, x = .int i ∧ y = .int j ∧ Q (g i j) H
def rU (g : Int → V) : V → Hp → VK → Prop := fun x H Q => ∃ i, x = .int i ∧ Q (g i) H

section
variable {X : Cx} {a b c : Expr} {ta tb tc : TE} {pos : Pos}

theorem binT (ha : PE X a ta) (hb : PE X b tb) {pins : List (Addr × Obj)} {s : Shared} {σ : St} {H : Hp} {R : V → V → Hp → Prop} (I : Inv X pins σ H s)
    (h : ta σ H fun x H1 => tb σ H1 fun y H2 => R x y H2) {Q : Value → Shared → Prop} {f : Value → Value → Sem Value}
    (hf : ∀ v u s2 x y H2, Inv X pins σ H2 s2 → RelV x v → RelV y u → R x y H2 → wpAny (model X.prog X.w) X.A (f v u) Q X.xe s2) :
    wpAny (model X.prog X.w) X.A (eval a X.env) (fun v s₁ => wpAny (model X.prog X.w) X.A (eval b X.env) (fun u s₂ => wpAny (model X.prog X.w) X.A (f v u) Q X.xe s₂) X.xe s₁) X.xe s := by
  refine thn (ha pins s σ H _ I h) fun v s1 ⟨x, H1, I1, r1, q1⟩ => ?_
  refine thn (hb pins s1 σ H1 _ I1 q1) fun u s2 ⟨y, H2, I2, r2, q2⟩ => ?_
  exact hf v u s2 x y H2 I2 r1 r2 q2

theorem pe_op {op : Operator} {r : R2} (ho : OpR X (binaryOp op) r) (ha : PE X a ta) (hb : PE X b tb) : PE X (.BinOp a op b pos) (tOp r ta tb) := by
  intro pins s σ H Q I h
  exact wpAny_BinOp (binT ha hb I h fun v u s2 x y H2 I2 rx ry q => ho pins s2 σ H2 x y v u Q I2 rx ry q)
theorem pe_un {op : UnaryOp} {r : V → Hp → VK → Prop} (ho : UnR X (unaryOp op) r) (ha : PE X a ta) : PE X (.UnaryOp op a pos) (tUn r ta) := by
  intro pins s σ H Q I h
  exact UnaryOp_ (thn (ha pins s σ H _ I h) fun v s1 ⟨x, H1, I1, r1, q1⟩ => ho pins s1 σ H1 x v Q I1 r1 q1)

/-! ### ints -/
theorem opI {f : Value → Value → Sem Value} {C : Int → Int → Prop} {g : Int → Int → Int}
    (rule : ∀ (i j : Int) (t u : Tok) (s : Shared) (Q : Value → Shared → Prop) (E : Value → Shared → Prop), C i j → Q (.int (g i j) s.toks) { s with toks := s.toks + 1 } → wpAny (model X.prog X.w) X.A (f (.int i t) (.int j u)) Q E s) :
    OpR X f (rI C fun i j => .int (g i j)) := by
  intro pins s σ H x y v u Q I rx ry h
  obtain ⟨i, j, rfl, rfl, hc, q⟩ := h
  obtain ⟨t, rfl⟩ := rx
  obtain ⟨t', rfl⟩ := ry
  exact rule i j t t' s _ _ hc ⟨.int (g i j), H, I.tok _, ⟨_, rfl⟩, q⟩
theorem opI0 {f : Value → Value → Sem Value} {g : Int → Int → Int}
    (rule : ∀ (i j : Int) (t u : Tok) (s : Shared) (Q : Value → Shared → Prop) (E : Value → Shared → Prop), Q (.int (g i j) s.toks) { s with toks := s.toks + 1 } → wpAny (model X.prog X.w) X.A (f (.int i t) (.int j u)) Q E s) :
    OpR X f (rI0 fun i j => .int (g i j)) := by
  intro pins s σ H x y v u Q I rx ry h
  obtain ⟨i, j, rfl, rfl, q⟩ := h
  obtain ⟨t, rfl⟩ := rx
  obtain ⟨t', rfl⟩ := ry
  exact rule i j t t' s _ _ ⟨.int (g i j), H, I.tok _, ⟨_, rfl⟩, q⟩
theorem opB0 {f : Value → Value → Sem Value} {g : Int → Int → Bool}
    (rule : ∀ (i j : Int) (t u : Tok) (s : Shared) (Q : Value → Shared → Prop) (E : Value → Shared → Prop), Q (.bool (g i j)) s → wpAny (model X.prog X.w) X.A (f (.int i t) (.int j u)) Q E s) :
    OpR X f (rI0 fun i j => .bl (g i j)) := by
  intro pins s σ H x y v u Q I rx ry h
  obtain ⟨i, j, rfl, rfl, q⟩ := h
  obtain ⟨t, rfl⟩ := rx
  obtain ⟨t', rfl⟩ := ry
  exact rule i j t t' s _ _ ⟨.bl (g i j), H, I, rfl, q⟩

def CDiv (i j : Int) : Prop := 0 < j ∧ j < 1073741824
def CDivN (i j : Int) : Prop := j ≠ 0 ∧ j.natAbs < 1073741824
def CPow (i j : Int) : Prop := 0 ≤ j ∧ j ≤ 1000000 ∧ i.natAbs < 2 ^ 64
def CMul (i j : Int) : Prop := (-(2 ^ 64) < i ∧ i < 2 ^ 64) ∨ (-(2 ^ 64) < j ∧ j < 2 ^ 64)

theorem op_add : OpR X (binaryOp .Add) (rI0 fun i j => .int (i + j)) := opI0 fun _ _ _ _ _ _ _ q => add_int q
/-- // by a positive divisor -/
theorem op_fdiv : OpR X (binaryOp .FloorDiv) (rI CDiv fun i j => .int (i / j)) := opI fun i j _ _ _ _ _ hc q => by
  have h1 : (0 : Int) < j := hc.1
  have h2 : j < 1073741824 := hc.2
  exact floordiv_int (by omega) (by rw [Int.fdiv_eq_ediv_of_nonneg i (by omega)]; exact q) (.inl (PyProof.noPylong_small (by omega)))
/-- % by a positive divisor of any size -/
theorem op_mod : OpR X (binaryOp .Mod) (rI (fun _ j => 0 < j) fun i j => .int (i % j)) := opI fun i j _ _ _ _ _ hc q => by
  have h1 : (0 : Int) < j := hc
  exact mod_int' (by omega) (by rw [Int.fmod_eq_emod_of_nonneg i (by omega)]; exact q)
theorem op_pow : OpR X (binaryOp .Pow) (rI CPow fun i j => .int (i ^ j.toNat)) := opI fun _ _ _ _ _ _ _ hc q => pow_int_small hc.1 hc.2.1 hc.2.2 q


theorem unI {f : Value → Sem Value} {g : Int → Int}
    (rule : ∀ (i : Int) (t : Tok) (s : Shared) (Q : Value → Shared → Prop) (E : Value → Shared → Prop), Q (.int (g i) s.toks) { s with toks := s.toks + 1 } → wpAny (model X.prog X.w) X.A (f (.int i t)) Q E s) :
    UnR X f (rU fun i => .int (g i)) := by
  intro pins s σ H x v Q I rx h
  obtain ⟨i, rfl, q⟩ := h
  obtain ⟨t, rfl⟩ := rx
  exact rule i t s _ _ ⟨.int (g i), H, I.tok _, ⟨_, rfl⟩, q⟩
theorem un_neg : UnR X (unaryOp .USub) (rU fun i => .int (-i)) := unI fun _ _ _ _ _ q => neg_int q

/-! ### bools among ints: n += (a < b) -/
end

/-! ### comparisons -/
/-- the scalars that == tells apart as data does -/
def scal : V → V → Bool
  | .non, .non => true | .non, .int _ => true | .int _, .non => true | .non, .bl _ => true | .bl _, .non => true | .non, .str _ => true | .str _, .non => true
  | .int _, .int _ => true | .bl _, .bl _ => true | .str _, .str _ => true | .byt _, .byt _ => true
  | .int _, .str _ => true | .str _, .int _ => true | .bl _, .str _ => true | .str _, .bl _ => true
  | _, _ => false
def rEq : R2 := fun x y H Q => scal x y = true ∧ Q (.bl (decide (x = y))) H
def rNe : R2 := fun x y H Q => scal x y = true ∧ Q (.bl (!decide (x = y))) H

theorem dec_int {i j : Int} : decide (V.int i = V.int j) = (i == j) := by
  rw [Bool.eq_iff_iff]
  simp
theorem dec_bl {i j : Bool} : decide (V.bl i = V.bl j) = (i == j) := by
  rw [Bool.eq_iff_iff]
  simp
theorem dec_str {i j : Str} : decide (V.str i = V.str j) = (i == j) := by
  rw [Bool.eq_iff_iff]
  simp
theorem dec_byt {i j : Array UInt8} : decide (V.byt i = V.byt j) = (i.toList == j.toList) := by
  rw [Bool.eq_iff_iff]
  cases i
  cases j
  simp

section
variable {X : Cx} {a b c : Expr} {ta tb tc : TE} {pos : Pos}
theorem fin_bl {pins : List (Addr × Obj)} {σ : St} {H : Hp} {s : Shared} {Q : VK} {k k' : Bool} (I : Inv X pins σ H s) (q : Q (.bl k) H) (e : k = k') : EP X pins σ Q (.bool k') s := by
  subst e
  exact ⟨.bl k, H, I, rfl, q⟩
theorem op_eq : OpR X (compareOp .Eq) rEq := by
  intro pins s σ H x y v u Q I rx ry h
  obtain ⟨hs, q⟩ := h
  cases x with
  | non =>
    cases rx
    cases y with
    | non => cases ry; exact PySem.EqNone.eq_none_none (fin_bl I q (by simp))
    | bl j => cases ry; exact PySem.EqNone.eq_none_bool (fin_bl I q (by simp))
    | int j => obtain ⟨t', rfl⟩ := ry; exact PySem.EqNone.eq_none_int (fin_bl I q (by simp))
    | str j => obtain ⟨t', rfl⟩ := ry; exact PySem.EqNone.eq_none_str (fin_bl I q (by simp))
    | _ => exact absurd (show false = true from hs) Bool.false_ne_true
  | bl i =>
    cases rx
    cases y with
    | non => cases ry; exact PySem.EqNone.eq_bool_none (fin_bl I q (by simp))
    | bl j => cases ry; exact eq_bool (fin_bl I q dec_bl)
    | str j => obtain ⟨t', rfl⟩ := ry; exact PySem.EqMixed.eq_bool_str (fin_bl I q (by simp))
    | _ => exact absurd (show false = true from hs) Bool.false_ne_true
  | int i =>
    obtain ⟨t, rfl⟩ := rx
    cases y with
    | non => cases ry; exact PySem.EqNone.eq_int_none (fin_bl I q (by simp))
    | int j => obtain ⟨t', rfl⟩ := ry; exact eq_int (fin_bl I q dec_int)
    | str j => obtain ⟨t', rfl⟩ := ry; exact PySem.EqMixed.eq_int_str (fin_bl I q (by simp))
    | _ => exact absurd (show false = true from hs) Bool.false_ne_true
  | str i =>
    obtain ⟨t, rfl⟩ := rx
    cases y with
    | non => cases ry; exact PySem.EqNone.eq_str_none (fin_bl I q (by simp))
    | bl j => cases ry; exact PySem.EqMixed.eq_str_bool (fin_bl I q (by simp))
    | int j => obtain ⟨t', rfl⟩ := ry; exact PySem.EqMixed.eq_str_int (fin_bl I q (by simp))
    | str j => obtain ⟨t', rfl⟩ := ry; exact eq_str (fin_bl I q dec_str)
    | _ => exact absurd (show false = true from hs) Bool.false_ne_true
  | byt i =>
    obtain ⟨t, rfl⟩ := rx
    cases y with
    | byt j => obtain ⟨t', rfl⟩ := ry; exact PySem.W.eq_bytes (fin_bl I q dec_byt)
    | _ => exact absurd (show false = true from hs) Bool.false_ne_true
  | _ => cases y <;> exact absurd (show false = true from hs) Bool.false_ne_true
theorem op_ne : OpR X (compareOp .NotEq) rNe := by
  intro pins s σ H x y v u Q I rx ry h
  obtain ⟨hs, q⟩ := h
  cases x with
  | non =>
    cases rx
    cases y with
    | non => cases ry; exact PySem.EqNone.ne_none_none (fin_bl I q (by simp))
    | bl j => cases ry; exact PySem.EqNone.ne_none_bool (fin_bl I q (by simp))
    | int j => obtain ⟨t', rfl⟩ := ry; exact PySem.EqNone.ne_none_int (fin_bl I q (by simp))
    | str j => obtain ⟨t', rfl⟩ := ry; exact PySem.EqNone.ne_none_str (fin_bl I q (by simp))
    | _ => exact absurd (show false = true from hs) Bool.false_ne_true
  | bl i =>
    cases rx
    cases y with
    | non => cases ry; exact PySem.EqNone.ne_bool_none (fin_bl I q (by simp))
    | bl j => cases ry; exact ne_bool (fin_bl I q (congrArg not dec_bl))
    | str j => obtain ⟨t', rfl⟩ := ry; exact PySem.EqMixed.ne_bool_str (fin_bl I q (by simp))
    | _ => exact absurd (show false = true from hs) Bool.false_ne_true
  | int i =>
    obtain ⟨t, rfl⟩ := rx
    cases y with
    | non => cases ry; exact PySem.EqNone.ne_int_none (fin_bl I q (by simp))
    | int j => obtain ⟨t', rfl⟩ := ry; exact ne_int (fin_bl I q (congrArg not dec_int))
    | str j => obtain ⟨t', rfl⟩ := ry; exact PySem.EqMixed.ne_int_str (fin_bl I q (by simp))
    | _ => exact absurd (show false = true from hs) Bool.false_ne_true
  | str i =>
    obtain ⟨t, rfl⟩ := rx
    cases y with
    | non => cases ry; exact PySem.EqNone.ne_str_none (fin_bl I q (by simp))
    | bl j => cases ry; exact PySem.EqMixed.ne_str_bool (fin_bl I q (by simp))
    | int j => obtain ⟨t', rfl⟩ := ry; exact PySem.EqMixed.ne_str_int (fin_bl I q (by simp))
    | str j => obtain ⟨t', rfl⟩ := ry; exact ne_str (fin_bl I q (congrArg not dec_str))
    | _ => exact absurd (show false = true from hs) Bool.false_ne_true
  | byt i =>
    obtain ⟨t, rfl⟩ := rx
    cases y with
    | byt j => obtain ⟨t', rfl⟩ := ry; exact PySem.W.ne_bytes (fin_bl I q (congrArg not dec_byt))
    | _ => exact absurd (show false = true from hs) Bool.false_ne_true
  | _ => cases y <;> exact absurd (show false = true from hs) Bool.false_ne_true

theorem op_lt : OpR X (compareOp .Lt) (rI0 fun i j => .bl (decide (i < j))) := opB0 fun _ _ _ _ _ _ _ q => lt_int q
theorem op_le : OpR X (compareOp .LtE) (rI0 fun i j => .bl (decide (i ≤ j))) := opB0 fun _ _ _ _ _ _ _ q => le_int q
theorem op_gt : OpR X (compareOp .Gt) (rI0 fun i j => .bl (decide (j < i))) := opB0 fun _ _ _ _ _ _ _ q => gt_int q

/-- is None, is not None: the right side a value none -/
theorem op_isN : OpR X (compareOp .Is) (fun x y H Q => y = .non ∧ Q (.bl (decide (x = .non))) H) := by
  intro pins s σ H x y v u Q I rx ry h
  obtain ⟨rfl, q⟩ := h
  cases ry
  refine is_none_gen (fin_bl I q ?_)
  cases x <;> first
    | (cases rx; rfl)
    | (obtain ⟨t, rfl⟩ := rx; rfl)
theorem op_notN : OpR X (compareOp .IsNot) (fun x y H Q => y = .non ∧ Q (.bl (!decide (x = .non))) H) := by
  intro pins s σ H x y v u Q I rx ry h
  obtain ⟨rfl, q⟩ := h
  cases ry
  refine isnot_none_gen (fin_bl I q ?_)
  cases x <;> first
    | (cases rx; rfl)
    | (obtain ⟨t, rfl⟩ := rx; rfl)

/-- is, is not of two objects that are tracked lists or instances -/
def isObj : HO → Bool
  | .lst _ => true
  | .ins _ _ _ => true
  | _ => false


theorem nomark (b : Expr) {op : CmpOp} (h : op ≠ .In := by decide) (h2 : op ≠ .NotIn := by decide) : behindInMarks op b = false := by
  have e1 : (op == CmpOp.In) = false := by cases op <;> first | rfl | exact absurd rfl h
  have e2 : (op == CmpOp.NotIn) = false := by cases op <;> first | rfl | exact absurd rfl h2
  cases b <;> simp [behindInMarks, e1, e2]
/-- a comparison as a value; hm: nomark b, or (for in, not in) by with_unfolding_all rfl -/
theorem pe_cmpR {op : CmpOp} {r : R2} (ho : OpR X (compareOp op) r) (ha : PE X a ta) (hb : PE X b tb) (hm : behindInMarks op b = false) : PE X (.Compare a [op] [b] pos) (tOp r ta tb) := by
  intro pins s σ H Q I h
  exact wpAny_Compare1 (binT ha hb I h fun v u s2 x y H2 I2 rx ry q => ho pins s2 σ H2 x y v u Q I2 rx ry q) hm
/-- a reading of a value as a test -/
def tTest (t : TE) : TT := fun σ H Q => t σ H fun x H' => ∃ k, x = .bl k ∧ Q k H'
theorem pt_cmpR {op : CmpOp} {r : R2} (ho : OpR X (compareOp op) r) (ha : PE X a ta) (hb : PE X b tb) (hm : behindInMarks op b = false) : PT X (.Compare a [op] [b] pos) (tTest (tOp r ta tb)) := by
  intro pins s σ H Q I h
  refine wpAny_isTrue_Compare1 (thn (ha pins s σ H _ I h) fun v s1 ⟨x, H1, I1, r1, q1⟩ => thn (hb pins s1 σ H1 _ I1 q1) fun u s2 ⟨y, H2, I2, r2, q2⟩ =>
    thn (ho pins s2 σ H2 x y v u _ I2 r1 r2 q2) fun c s3 ⟨z, H3, I3, r3, k, e, q3⟩ => ?_) hm
  subst e
  cases r3
  exact wpAny_truthy_bool ⟨H3, I3, q3⟩
/-- a op1 b op2 c -/
def tChain (r r' : R2) (ta tb tc : TE) : TE := fun σ H Q => ta σ H fun x H1 => tb σ H1 fun y H2 => r x y H2 fun z H3 => ∃ k, z = .bl k ∧
  (if k = true then tc σ H3 fun w' H4 => r' y w' H4 Q else Q (.bl false) H3)

/-! ### truth -/
/-- a value's truth by the abstract heap -/
def TruV (K : PySem.W.Frag) (x : V) (H : Hp) (k : Bool) : Prop :=
  match x with
  | .non => k = false
  | .bl b => k = b
  | .int i => k = (i != 0)
  | .str y => y.length ≤ sizeLine ∧ k = ((y.length : Int) != 0)
  | .byt y => y.size ≤ sizeLine ∧ k = ((y.size : Int) != 0)
  | .ref p => (∃ xs, SqL K H p xs ∧ k = !xs.isEmpty) ∨ (∃ xs, SqT K H p xs ∧ k = !xs.isEmpty) ∨ ∃ kvs, H p = some (.dK kvs) ∧ k = !kvs.isEmpty
  | _ => False
theorem line63 : (sizeLine : Nat) < 2 ^ 63 := by rw [sizeLine_eq]; decide

/-! ### strs and bytes -/
theorem op_add_str : OpR X (binaryOp .Add) (fun x y H Q => ∃ i j, x = .str i ∧ y = .str j ∧ i.length + j.length ≤ sizeLine ∧ Q (.str (i ++ j)) H) := by
  intro pins s σ H x y v u Q I rx ry h
  obtain ⟨i, j, rfl, rfl, hz, q⟩ := h
  obtain ⟨t, rfl⟩ := rx
  obtain ⟨t', rfl⟩ := ry
  exact add_str (fun t' tk => ⟨.str (i ++ j), H, I.tok _, ⟨_, rfl⟩, q⟩) hz

def PlainIxT (b : Expr) : Prop := ∀ o i, subscripted b false o i = operate [o, i] (getItem o i)

/-! ### scalar builtins, by CallR -/
theorem vals1 {x : V} {us : List Value} (r : Vals [x] us) : ∃ u, us = [u] ∧ RelV x u := by
  cases r with
  | cons r1 r2 => cases r2; exact ⟨_, rfl, r1⟩
theorem vals2 {x y : V} {us : List Value} (r : Vals [x, y] us) : ∃ u w', us = [u, w'] ∧ RelV x u ∧ RelV y w' := by
  cases r with
  | cons r1 r2 =>
    cases r2 with
    | cons r3 r4 => cases r4; exact ⟨_, _, rfl, r1, r3⟩
theorem call_abs : CallR X (.builtin "abs") (fun xs H Q => ∃ i, xs = [.int i] ∧ Q (.int (if i < 0 then -i else i)) H) := by
  intro pins s σ H xs us Q I r h
  obtain ⟨i, rfl, q⟩ := h
  obtain ⟨u, rfl, t, rfl⟩ := vals1 r
  exact call_abs_int fun u tk => ⟨.int (if i < 0 then -i else i), H, I.tok _, ⟨_, rfl⟩, q⟩
theorem call_min2 (hc : X.calm = true) : CallR X (.builtin "min") (fun xs H Q => ∃ i j, xs = [.int i, .int j] ∧ Q (.int (if j < i then j else i)) H) := by
  intro pins s σ H xs us Q I r h
  obtain ⟨i, j, rfl, q⟩ := h
  obtain ⟨u, w', rfl, ⟨t, rfl⟩, ⟨t', rfl⟩⟩ := vals2 r
  refine min_two_ints (I.ok.hd hc) fun h' tk k => ⟨_, H, I.kept k, ?_, q⟩
  by_cases hj : j < i
  · rw [if_pos hj, if_pos hj]; exact ⟨_, rfl⟩
  · rw [if_neg hj, if_neg hj]; exact ⟨_, rfl⟩
theorem call_str_int : CallR X (.type "str") (fun xs H Q => ∃ i, xs = [.int i] ∧ i.natAbs.log2 < 1920 ∧ Q (.str (toString i)) H) := by
  intro pins s σ H xs us Q I r h
  obtain ⟨i, rfl, hz, q⟩ := h
  obtain ⟨u, rfl, t, rfl⟩ := vals1 r
  exact PySem.P.str_of_int hz ⟨.str _, H, I.tok _, ⟨_, rfl⟩, q⟩
/-- len of a str, a bytes, a list, a tuple -/
def LenV (K : PySem.W.Frag) (x : V) (H : Hp) (n : Nat) : Prop :=
  match x with
  | .str y => y.length ≤ sizeLine ∧ n = y.length
  | .byt y => y.size ≤ sizeLine ∧ n = y.size
  | .ref p => (∃ xs, SqL K H p xs ∧ n = xs.length) ∨ ∃ xs, SqT K H p xs ∧ n = xs.length
  | _ => False
end
end L2

namespace L2
open PySem PySem.Spec PyProof.Rows

/-! ### an instance, its attributes a map -/
structure ObjM (h : Heap) (x dx C : Addr) (mA : Str → Option Value) : Prop where
  obj : h.get? x = some (PySem.W.instObj C dx)
  ns : h.Ns1 dx mA
  ne : dx ≠ x

theorem lookIn_ns {h : Heap} {dx : Addr} {mA : Str → Option Value} (n : h.Ns1 dx mA) : ∃ od, h.get? dx = some od ∧ ∀ name, PySem.W.lookIn name od = some (mA name) := by
  obtain ⟨o, es, ep, ho, hd, hk, _, hm⟩ := n
  refine ⟨o, ho, fun name => ?_⟩
  have e := hm name
  unfold nsFind findBy at e
  rw [← Array.find?_toList] at e
  unfold PySem.W.lookIn
  rw [hd]
  dsimp only
  split
  · rename_i y q
    rw [q] at e
    exact congrArg some e
  · rename_i q
    rw [q] at e
    have a : es.toList.any (·.refKey) = false := by
      rw [List.any_eq_false]
      intro y hy
      obtain ⟨z, t, hkey⟩ := hk y (Array.mem_toList_iff.mp hy)
      simp [DictEntry.refKey, hkey]
    have a' : ¬ es.toList.any (·.refKey) = true := by rw [a]; exact Bool.false_ne_true
    rw [if_neg a']
    exact congrArg some e

theorem ObjM.look {h : Heap} {x dx C : Addr} {mA : Str → Option Value} (I : ObjM h x dx C mA) : ∃ od, PySem.W.InstAt h x (PySem.W.instObj C dx) C (some od) ∧ ∀ name, PySem.W.lookIn name od = some (mA name) :=
  let ⟨od, ho, hl⟩ := lookIn_ns I.ns
  ⟨od, ⟨I.obj, rfl, rfl, ho⟩, hl⟩

section
variable {prog : Program} {w : World} {A : Around} {E : Value → Shared → Prop} {s : Shared} {K : PySem.W.Frag} {x dx C f : Addr} {mA : Str → Option Value} {name : Str} {v : Value}

theorem get_map {expr : Bool} {Q : Value → Shared → Prop} (X : K.In s.heap) (I : ObjM s.heap x dx C mA) (hg : PySem.W.plainGet K C name = true) (hh : PySem.W.hasDictIn K C = true)
    (ha : PySem.W.findIn K (.ref C) name = some none) (hv : mA name = some v) (hv' : PySem.W.handedIn v = true) (h : Q v { s with toks := s.toks + 1 }) :
    wpAny (model prog w) A (getAttr (.ref x) name expr) Q E s := by
  obtain ⟨od, J, hl⟩ := I.look
  exact PySem.W.get_value X J (PySem.W.plainGet_of hg).1 (PySem.W.findObj_own hh ha rfl (by rw [hl, hv])) hv' h


theorem get_meth {pl : Sem Bool} {Q : Value × List Value → Shared → Prop} (X : K.In s.heap) (I : ObjM s.heap x dx C mA) (hg : PySem.W.plainGet K C name = true)
    (hf : PySem.W.findIn K (.ref C) name = some (some (.ref f))) (ht : PySem.W.isFn K (.ref f) = true) (hv : mA name = none) (h : Q (.ref f, [.ref x]) s) :
    wpAny (model prog w) A (getMethod (.ref x) name pl) Q E s := by
  obtain ⟨od, J, hl⟩ := I.look
  exact PySem.W.method_fn X J (PySem.W.plainGet_of hg).1 (PySem.W.plainGet_of hg).2 hf (beq_iff_eq.mp ht) (by show (PySem.W.lookIn name od).map (·.isSome) = some false; rw [hl, hv]; rfl) h

theorem set_map {ns : List Str} {Q : Unit → Shared → Prop} (X : K.In s.heap) (I : ObjM s.heap x dx C mA)
    (hs : PySem.W.findIn K (.ref C) "__setattr__" = some (some (.builtin "object.__setattr__"))) (hp : PySem.W.plainOver K C = true) (ht : PySem.W.takerIn K C name = some none) (hh : PySem.W.hasDictIn K C = true)
    (hw : PySem.Within mA ns) (hsz : ns.length ≤ sizeLine)
    (h : ∀ h', ObjM h' x dx C (fun y => if y = name then some v else mA y) → Heap.SameBut dx s.heap h' → Q () { s with heap := h', toks := s.toks + 2 }) :
    wpAny (model prog w) A (setAttr (.ref x) name v) Q E s := by
  obtain ⟨od, J, hl⟩ := I.look
  refine PySem.W.set_plain X J hs (PySem.W.osa_open (s := { s with toks := s.toks + 1 }) (r := none) X J hp ht fun b => ?_)
  obtain ⟨cd, hc, hd'⟩ := PySem.W.any_some hh
  have hx : s.heap.get? x = some ⟨.ref C, some dx, .plain, #[]⟩ := I.obj
  refine wpAny_bind (wpAny_pure (wpAny_bind (wpAny_bind (wpAny_loadPart hx (wpAny_bind (PySem.W.Looks.here (s := { s with toks := s.toks + 1 }) (PySem.W.looks_clsIn X hc) ?_))))))
  rw [hd']
  refine wpAny_pure (a := some dx) (wpAny_bind (wpAny_pure (wpAny_bind ?_)))
  refine wpAny_nsSet1 (s := { s with toks := s.toks + 1 }) I.ns fun h' hn2 hs2 => ?_
  obtain ⟨oD, esD, epD, hoD, hdD, hcD⟩ := hn2.count (PySem.Within.cons name v hw)
  refine wpAny_bind (wpAny_lookBehind hoD (by rw [hdD]; exact pastItsLine_dict (Nat.le_trans hcD (by rw [List.length_cons]; omega))) ?_)
  exact wpAny_pure (h _ ⟨(hs2.2 _ (Ne.symm I.ne)).trans I.obj, hn2, I.ne⟩ hs2)

/-- C(..): the dict at the heap's end, the instance behind it; then its __init__ -/
theorem make_map {R : Result → Shared → Prop} {vs : List Value} {kw : List (Str × Value)} (X : K.In s.heap) (hm : PySem.W.makesIn K C = true)
    (hi : PySem.W.findIn K (.ref C) "__init__" = some (some (.ref f))) (hf : PySem.W.typeIn K (.ref f) = some (.type "function"))
    (h : codeAny (model prog w) (A.under (.builtin "type.__call__" ⟨.ref C :: vs, kw⟩)) (.call (.ref f) ⟨.ref (s.heap.objs.size + 1) :: vs, kw⟩) (PySem.W.InitBack (s.heap.objs.size + 1) R)
      { s with heap := (s.heap.push PySem.W.emptyDict).push (PySem.W.instObj C s.heap.objs.size) }) :
    codeAny (model prog w) A (.call (.ref C) ⟨vs, kw⟩) R s := by
  obtain ⟨hh, g, d, t, os⟩ := s
  exact PySem.W.make_core (PySem.W.makes_of X hm) (PySem.W.looks_findIn X hi) (fun self => PySem.W.bind_fn X self hf) (.inl rfl) h
end

/-! ### the attributes as a list of pairs -/
def putF (f : Str) (v : V) : List (Str × V) → List (Str × V)
  | [] => [(f, v)]
  | (g, x) :: r => if g = f then (g, v) :: r else (g, x) :: putF f v r
theorem lookup_putF (f g : Str) (v : V) : ∀ fs : List (Str × V), (putF f v fs).lookup g = if g = f then some v else fs.lookup g
  | [] => by
    show List.lookup g [(f, v)] = _
    by_cases h : g = f
    · have hb : (g == f) = true := beq_iff_eq.mpr h
      simp only [List.lookup, hb, if_pos h]
    · have hb : (g == f) = false := beq_eq_false_iff_ne.mpr h
      simp only [List.lookup, hb, if_neg h]
  | (k, x) :: r => by
    have ih := lookup_putF f g v r
    rw [show putF f v ((k, x) :: r) = (if k = f then (k, v) :: r else (k, x) :: putF f v r) from rfl]
    by_cases hk : k = f
    · rw [if_pos hk]
      by_cases h : g = k
      · have hb : (g == k) = true := beq_iff_eq.mpr h
        simp only [List.lookup, hb, if_pos (h.trans hk)]
      · have hb : (g == k) = false := beq_eq_false_iff_ne.mpr h
        simp only [List.lookup, hb, if_neg (fun e : g = f => h (e.trans hk.symm))]
    · rw [if_neg hk]
      by_cases h : g = k
      · have hb : (g == k) = true := beq_iff_eq.mpr h
        simp only [List.lookup, hb, if_neg (fun e : g = f => hk (h.symm.trans e))]
      · have hb : (g == k) = false := beq_eq_false_iff_ne.mpr h
        simp only [List.lookup, hb]
        exact ih
theorem keys_putF (f : Str) (v : V) : ∀ fs : List (Str × V), f ∈ (putF f v fs).map (·.1) ∧ ∀ g, g ∈ fs.map (·.1) → g ∈ (putF f v fs).map (·.1)
  | [] => ⟨by simp [putF], fun g h => by simp at h⟩
  | (k, x) :: r => by
    obtain ⟨i1, i2⟩ := keys_putF f v r
    rw [show putF f v ((k, x) :: r) = (if k = f then (k, v) :: r else (k, x) :: putF f v r) from rfl]
    by_cases hk : k = f
    · rw [if_pos hk]
      subst hk
      exact ⟨by simp, fun g h => by simpa using h⟩
    · rw [if_neg hk]
      refine ⟨?_, fun g h => ?_⟩
      · rw [List.map_cons]
        exact List.mem_cons_of_mem _ i1
      · rw [List.map_cons] at h ⊢
        rcases List.mem_cons.mp h with e | e
        · exact List.mem_cons.mpr (.inl e)
        · exact List.mem_cons_of_mem _ (i2 g e)
theorem length_putF (f : Str) (v : V) : ∀ fs : List (Str × V), (putF f v fs).length ≤ fs.length + 1
  | [] => by simp [putF]
  | (k, x) :: r => by
    have ih := length_putF f v r
    rw [show putF f v ((k, x) :: r) = (if k = f then (k, v) :: r else (k, x) :: putF f v r) from rfl]
    by_cases hk : k = f
    · rw [if_pos hk, List.length_cons, List.length_cons]; omega
    · rw [if_neg hk, List.length_cons, List.length_cons]; omega

theorem RelO.some_of {v : V} {o : Option Value} (r : RelO (some v) o) : ∃ u, o = some u ∧ RelV v u := by
  cases o with
  | none => exact (show False from r).elim
  | some u => exact ⟨u, rfl, r⟩
theorem RelO.none_of {o : Option Value} (r : RelO none o) : o = none := by
  cases o with
  | none => rfl
  | some u => exact (show False from r).elim
theorem handed_of {v : V} {u : Value} (r : RelV v u) : PySem.W.handedIn u = true := by
  cases v with
  | non => cases (show u = Value.none from r); rfl
  | bl b => cases (show u = Value.bool b from r); rfl
  | int i => obtain ⟨t, e⟩ := (show ∃ t, u = Value.int i t from r); cases e; rfl
  | str x => obtain ⟨t, e⟩ := (show ∃ t, u = Value.str x t from r); cases e; rfl
  | byt b => obtain ⟨t, e⟩ := (show ∃ t, u = Value.bytes b t from r); cases e; rfl
  | flt b => obtain ⟨t, e⟩ := (show ∃ t, u = Value.float b t from r); cases e; rfl
  | ref a => cases (show u = Value.ref a from r); rfl
  | ty n => cases (show u = Value.type n from r); rfl

section
variable {P : Program} {w : World} {H H' : Hp} {h h' : Heap} {a C dx : Addr} {fs fs' : List (Str × V)}
theorem ins_get (hok : HOk P w H h) (e : H a = some (.ins C dx fs)) : ∃ mA, ObjM h a dx C mA ∧ (∀ f, RelO (fs.lookup f) (mA f)) ∧ PySem.Within mA (fs.map (·.1)) ∧ fs.length ≤ 1000 ∧ H dx = some (.own a) := by
  obtain ⟨d, z, ne, ob, mA, n, r, q⟩ := (show ObjOk P w H h a (.ins C dx fs) from hok a _ e)
  exact ⟨mA, ⟨ob, n, ne⟩, r, q, z, d⟩
end

/-! ### what of the text a class must have -/
structure Cls (K : PySem.W.Frag) (C : Addr) : Prop where
  pg : PySem.W.plainGet K C Str.empty = true
  hd : PySem.W.hasDictIn K C = true
  po : PySem.W.plainOver K C = true
  sa : PySem.W.findIn K (.ref C) "__setattr__" = some (some (.builtin "object.__setattr__"))
theorem Cls.get {K : PySem.W.Frag} {C : Addr} (c : Cls K C) (f : Str) : PySem.W.plainGet K C f = true := c.pg
/-- no class of it has the name -/
def NoAttr (K : PySem.W.Frag) (C : Addr) (f : Str) : Prop := PySem.W.findIn K (.ref C) f = some none
theorem NoAttr.taker {K : PySem.W.Frag} {C : Addr} {f : Str} (n : NoAttr K C f) : PySem.W.takerIn K C f = some none := by
  unfold PySem.W.takerIn
  rw [show PySem.W.findIn K (.ref C) f = some none from n]
  rfl
/-- a constant of the class -/
structure Con (K : PySem.W.Frag) (C : Addr) (f : Str) (v : V) (u : Value) : Prop where
  at_ : PySem.W.findIn K (.ref C) f = some (some u)
  rel : RelV v u
  get : PySem.W.specialIn K u "__get__" = some none
  cp : PySem.W.copiedNames.contains f = false
/-- a method: a plain def of the class or of one above it -/
structure Meth (K : PySem.W.Frag) (C : Addr) (m : Str) (f : Addr) : Prop where
  at_ : PySem.W.findIn K (.ref C) m = some (some (.ref f))
  fn : PySem.W.isFn K (.ref f) = true
  kp : PySem.W.keepIn K (.ref f) = true

section
variable {X : Cx} {pins : List (Addr × Obj)} {σ : St} {H : Hp} {s : Shared} {a C dx : Addr} {fs : List (Str × V)} {f : Str} {v : V} {A : Around} {E : Value → Shared → Prop}

theorem getattr_ok {b : Bool} {Q : Value → Shared → Prop} (I : Inv X pins σ H s) (e : H a = some (.ins C dx fs)) (c : Cls X.K C) (n : NoAttr X.K C f) (l : fs.lookup f = some v)
    (h : ∀ u s', Inv X pins σ H s' → RelV v u → Q u s') : wpAny (model X.prog X.w) A (getAttr (.ref a) f b) Q E s := by
  obtain ⟨mA, O, r, _, _, _⟩ := ins_get I.hok e
  obtain ⟨u, hu, ru⟩ := RelO.some_of (v := v) (o := mA f) (by rw [← l]; exact r f)
  exact get_map I.kIn O (c.get f) c.hd n hu (handed_of ru) (h u _ (I.tok _) ru)


theorem getmeth_ok {m : Str} {g : Addr} {pl : Sem Bool} {Q : Value × List Value → Shared → Prop} (I : Inv X pins σ H s) (e : H a = some (.ins C dx fs)) (c : Cls X.K C) (k : Meth X.K C m g) (l : fs.lookup m = none)
    (h : Q (.ref g, [.ref a]) s) : wpAny (model X.prog X.w) A (getMethod (.ref a) m pl) Q E s := by
  obtain ⟨mA, O, r, _, _, _⟩ := ins_get I.hok e
  have hn : mA m = none := RelO.none_of (by rw [← l]; exact r m)
  exact get_meth I.kIn O (c.get m) k.at_ k.fn hn h

theorem setattr_ok {y : V} {u : Value} {Q : Unit → Shared → Prop} (I : Inv X pins σ H s) (e : H a = some (.ins C dx fs)) (c : Cls X.K C) (n : NoAttr X.K C f) (hl : fs.length < 1000) (ry : RelV y u)
    (h : ∀ s', Inv X pins σ (upd H a (.ins C dx (putF f y fs))) s' → Q () s') : wpAny (model X.prog X.w) A (setAttr (.ref a) f u) Q E s := by
  obtain ⟨mA, O, r, wi, _, ho⟩ := ins_get I.hok e
  have hz : (fs.map (·.1)).length ≤ sizeLine := by rw [List.length_map, sizeLine_eq]; omega
  refine set_map I.kIn O c.sa c.po n.taker c.hd wi hz fun h' O' sb => h _ ?_
  have hd : ∃ o, h'.get? dx = some o := let ⟨o, _, _, e', _⟩ := O'.ns; ⟨o, e'⟩
  refine I.write (x := a) (e := dx) (by rw [e]; exact True.intro) (.inr ho) (fun b q hb z => (sb.2 b hb).trans z) hd ?_
  refine ⟨by rw [upd_ne O.ne]; exact ho, ?_, O.ne, O'.obj, _, O'.ns, fun g => ?_, fun g hg => ?_⟩
  · have := length_putF f y fs; omega
  · show RelO ((putF f y fs).lookup g) (if g = f then some u else mA g)
    rw [lookup_putF]
    by_cases q : g = f
    · rw [if_pos q, if_pos q]; exact ry
    · rw [if_neg q, if_neg q]; exact r g
  · by_cases q : g = f
    · rw [q]; exact (keys_putF f y fs).1
    · refine (keys_putF f y fs).2 g (wi g fun z => hg ?_)
      show (if g = f then some u else mA g) = none
      rw [if_neg q]; exact z

/-- a new instance, tracked, without attributes -/
theorem Inv.made (I : Inv X pins σ H s) : Inv X pins σ (upd (upd H s.heap.objs.size (.own (s.heap.objs.size + 1))) (s.heap.objs.size + 1) (.ins C s.heap.objs.size []))
    { s with heap := (s.heap.push PySem.W.emptyDict).push (PySem.W.instObj C s.heap.objs.size) } := by
  have e1 : (s.heap.push PySem.W.emptyDict).get? s.heap.objs.size = some PySem.W.emptyDict := Heap.get?_push_size s.heap rfl
  have e2 : ((s.heap.push PySem.W.emptyDict).push (PySem.W.instObj C s.heap.objs.size)).get? (s.heap.objs.size + 1) = some (PySem.W.instObj C s.heap.objs.size) := by
    have := Heap.get?_push_size (s.heap.push PySem.W.emptyDict) (o := PySem.W.instObj C s.heap.objs.size) rfl
    rwa [Heap.size_push] at this
  have e3 : (s.heap.push PySem.W.emptyDict).Ns s.heap.objs.size (fun _ => none) := ⟨PySem.W.emptyDict, #[], _, e1, rfl, (fun e he => absurd he (by simp)), fun _ => rfl⟩
  have I1 := I.laid (a := s.heap.objs.size) (o := .own (s.heap.objs.size + 1)) (h' := s.heap.push PySem.W.emptyDict) (t' := s.toks) (fun b u q => Heap.get?_push_of_some _ q) (Nat.le_refl _) ⟨_, e1⟩
  refine I1.laid (a := s.heap.objs.size + 1) (o := .ins C s.heap.objs.size []) (t' := s.toks) (fun b u q => Heap.get?_push_of_some _ q) (Nat.le_of_eq (Heap.size_push _ _)) ?_
  have ne : s.heap.objs.size ≠ s.heap.objs.size + 1 := Nat.ne_of_lt (Nat.lt_succ_self _)
  refine ⟨by rw [upd_ne ne, upd_same], Nat.zero_le _, ne, e2, fun _ => none, (Heap.Ns1.of_empty e3).at fun o q => Heap.get?_push_of_some _ q, fun _ => True.intro, fun y hy => absurd rfl hy⟩

/-- e.f where nothing but the object is asked: through attributeBase (super) and the last hold -/
theorem attr_of {prog : Program} {w : World} {env : Env} {e : Expr} {f : Str} {pos : Pos} {s : Shared} {Q : Value → Shared → Prop} (hb : attributeBase e f env (eval e env) = eval e env)
    (h : wpAny (model prog w) A (eval e env) (fun o s₁ => wpAny (model prog w) A (getAttr o f true) Q E s₁) E s) : wpAny (model prog w) A (eval (.Attribute e f pos) env) Q E s :=
  Attribute_any_ h (by rw [arm_eval_Attribute, hb])
end

/-! ### readings and rules -/
/-- e.f, an attribute of the instance -/
def tFld (K : PySem.W.Frag) (ta : TE) (f : Str) : TE := fun σ H Q => ta σ H fun x H1 => ∃ a C dx fs v, x = .ref a ∧ H1 a = some (.ins C dx fs) ∧ Cls K C ∧ NoAttr K C f ∧ fs.lookup f = some v ∧ Q v H1
/-- e.f, a constant of the class -/
def tCon (K : PySem.W.Frag) (ta : TE) (f : Str) : TE := fun σ H Q => ta σ H fun x H1 => ∃ a C dx fs v u, x = .ref a ∧ H1 a = some (.ins C dx fs) ∧ Cls K C ∧ Con K C f v u ∧ fs.lookup f = none ∧ Q v H1
/-- e.f = value -/
def sFld (K : PySem.W.Frag) (ta tv : TE) (f : Str) : TS := fun D σ H => tv σ H fun y H1 => ta σ H1 fun x H2 => ∃ a C dx fs, x = .ref a ∧ H2 a = some (.ins C dx fs) ∧ Cls K C ∧ NoAttr K C f ∧ fs.length < 1000 ∧
  D.nx σ (upd H2 a (.ins C dx (putF f y fs)))
/-- an augmented operator on two values -/
def InOp (X : Cx) (op : Operator) (rd : V → V → Hp → VK → Prop) : Prop :=
  ∀ (pins : List (Addr × Obj)) (s : Shared) (σ : St) (H : Hp) (x y : V) (u v : Value) (Q : VK), Inv X pins σ H s → RelV x u → RelV y v → rd x y H Q → wpAny (model X.prog X.w) X.A (inplaceOp op u v) (EP X pins σ Q) X.xe s
/-- e.f op= value -/
def sFldAug (K : PySem.W.Frag) (ta tv : TE) (rd : V → V → Hp → VK → Prop) (f : Str) : TS := fun D σ H => ta σ H fun x H1 => ∃ a C dx fs v, x = .ref a ∧ H1 a = some (.ins C dx fs) ∧ Cls K C ∧ NoAttr K C f ∧ fs.lookup f = some v ∧
  tv σ H1 fun y H2 => rd v y H2 fun z H3 => ∃ dx' fs', H3 a = some (.ins C dx' fs') ∧ fs'.length < 1000 ∧ D.nx σ (upd H3 a (.ins C dx' (putF f z fs')))

section
variable {X : Cx} {o e value : Expr} {f : Str} {pos pos' tpos : Pos} {ta tv : TE}
theorem pe_fld (he : PE X e ta) (hb : attributeBase e f X.env (eval e X.env) = eval e X.env) : PE X (.Attribute e f pos) (tFld X.K ta f) := by
  intro pins s σ H Q I h
  refine attr_of hb (thn (he pins s σ H _ I h) fun u s1 ⟨x, H1, I1, rx, a, C, dx, fs, v, ex, ea, c, n, l, q⟩ => ?_)
  subst ex
  obtain rfl : u = Value.ref a := rx
  exact getattr_ok I1 ea c n l fun u' s2 I2 ru => ⟨v, H1, I2, ru, q⟩
theorem ps_fld (ha : PE X o ta) (hv : PE X value tv) (hs : swapsWith value (some (.Attribute o f pos')) pos.line X.env = pure false) : PS X (.Assign [.Attribute o f pos'] value pos) (sFld X.K ta tv f) := by
  intro pins s σ H D I h
  refine plainObj_wpAny_Assign_Attribute (thn (hv pins s σ H _ I h) fun u s1 ⟨y, H1, I1, ry, q⟩ => thn (ha pins s1 σ H1 _ I1 q) fun ov s2 ⟨x, H2, I2, rx, a, C, dx, fs, ex, ea, c, n, l, q2⟩ => ?_) hs
  subst ex
  obtain rfl : ov = Value.ref a := rx
  exact setattr_ok I2 ea c n l ry fun s3 I3 => ⟨σ, _, I3, q2⟩
def rAdd : V → V → Hp → VK → Prop := fun x y H Q => ∃ i j, x = .int i ∧ y = .int j ∧ Q (.int (i + j)) H
def rSub : V → V → Hp → VK → Prop := fun x y H Q => ∃ i j, x = .int i ∧ y = .int j ∧ Q (.int (i - j)) H

end

/-! ### isinstance -/
section
variable {X : Cx} {pins : List (Addr × Obj)} {σ : St} {H : Hp} {s : Shared} {A : Around} {E : Value → Shared → Prop} {Q : Value → Shared → Prop} {c : Value} {b : Bool}
/-- the type of a value, as the fragment's deciders take it; for an instance its class -/
inductive TyOf (K : PySem.W.Frag) (H : Hp) : V → Value → Prop where
  | non : TyOf K H .non (.type "NoneType")
  | bl (x : Bool) : TyOf K H (.bl x) (.type "bool")
  | int (i : Int) : TyOf K H (.int i) (.type "int")
  | str (x : Str) : TyOf K H (.str x) (.type "str")
  | flt (x : UInt64) : TyOf K H (.flt x) (.type "float")
  | lst {a : Addr} {xs : List V} (e : H a = some (.lst xs)) : TyOf K H (.ref a) (.type "list")
  | frz {a : Addr} {o : Obj} {xs : List V} (e : H a = some (.frz o (.lst xs))) : TyOf K H (.ref a) (.type "list")
  | tup {a : Addr} {xs : List V} (e : H a = some (.tup xs)) : TyOf K H (.ref a) (.type "tuple")
  | dK {a : Addr} {kvs : List (Key × V)} (e : H a = some (.dK kvs)) : TyOf K H (.ref a) (.type "dict")
  | dT {a : Addr} {kvs : List (List Key × V)} (e : H a = some (.dT kvs)) : TyOf K H (.ref a) (.type "dict")
  | ins {a C dx : Addr} {fs : List (Str × V)} (e : H a = some (.ins C dx fs)) (cl : Cls K C) (ha : PySem.W.findIn K (.ref C) "__class__" = some (some (.builtin "object.__class__")))
      (hn : PySem.W.specialIn K (.builtin "object.__class__") "__get__" = some (some (.builtin "getset_descriptor.__get__"))) (htk : PySem.W.takesIn K (.builtin "object.__class__") = some true)
      (hm : PySem.W.mroIn K C (.type "object") = some true) : TyOf K H (.ref a) (.ref C)
/-- isinstance(x, c) for one class c, a built-in or an own one: kitOne's answer -/
theorem isinst_ok {x : V} {u t : Value} (I : Inv X pins σ H s) (rx : RelV x u) (ty : TyOf X.K H x t) (e : PySem.W.kitOne X.K t c = some b) (h : ∀ tk, Q (.bool b) { s with toks := tk }) :
    wpAny (model X.prog X.w) A (call (.builtin "isinstance") [u, c]) Q E s := by
  cases ty with
  | non => cases (show u = Value.none from rx); exact PySem.W.kia_one PySem.W.kitx_none I.kIn True.intro e (fun z => nomatch z) h
  | bl y => cases (show u = Value.bool y from rx); exact PySem.W.kia_one PySem.W.kitx_bool I.kIn True.intro e (fun z => nomatch z) h
  | int i => obtain ⟨t, q⟩ := (show ∃ t, u = Value.int i t from rx); cases q; exact PySem.W.kia_one PySem.W.kitx_int I.kIn True.intro e (fun z => nomatch z) h
  | str y => obtain ⟨t, q⟩ := (show ∃ t, u = Value.str y t from rx); cases q; exact PySem.W.kia_one PySem.W.kitx_str I.kIn True.intro e (fun z => nomatch z) h
  | flt y => obtain ⟨t, q⟩ := (show ∃ t, u = Value.float y t from rx); cases q; exact PySem.W.kia_one PySem.W.kitx_float I.kIn True.intro e (fun z => nomatch z) h
  | @lst a xs ea =>
    cases (show u = Value.ref a from rx)
    obtain ⟨_, _, n, _, h1⟩ := (show ObjOk X.prog X.w H s.heap a (.lst xs) from I.hok a _ ea)
    exact PySem.W.kia_one PySem.W.kitx_list I.kIn ⟨_, h1, rfl⟩ e (fun z => nomatch z) h
  | @frz a ob xs ea =>
    cases (show u = Value.ref a from rx)
    obtain ⟨_, _, _, n, _, h1⟩ := (show ObjOk X.prog X.w H s.heap a (.frz ob (.lst xs)) from I.hok a _ ea)
    exact PySem.W.kia_one PySem.W.kitx_list I.kIn ⟨_, h1, rfl⟩ e (fun z => nomatch z) h
  | @tup a xs ea =>
    cases (show u = Value.ref a from rx)
    obtain ⟨_, _, _, p⟩ := (show ObjOk X.prog X.w H s.heap a (.tup xs) from I.hok a _ ea)
    obtain ⟨o, h1, h2, _⟩ := p
    exact PySem.W.kia_one PySem.W.kitx_tuple I.kIn ⟨o, h1, h2⟩ e (fun z => nomatch z) h
  | @dK a kvs ea =>
    cases (show u = Value.ref a from rx)
    obtain ⟨_, _, vs, _, p⟩ := (show ObjOk X.prog X.w H s.heap a (.dK kvs) from I.hok a _ ea)
    obtain ⟨o, es, ep, h1, h2, _⟩ := p
    exact PySem.W.kia_one PySem.W.kitx_dict I.kIn ⟨o, h1, h2.1⟩ e (fun z => nomatch z) h
  | @dT a kvs ea =>
    cases (show u = Value.ref a from rx)
    obtain ⟨_, _, xs, _, o, es, ep, h1, h2, _⟩ := (show ObjOk X.prog X.w H s.heap a (.dT kvs) from I.hok a _ ea)
    exact PySem.W.kia_one PySem.W.kitx_dict I.kIn ⟨o, h1, h2.1⟩ e (fun z => nomatch z) h
  | @ins a C dx fs ea cl ha hn htk hm =>
    cases (show u = Value.ref a from rx)
    obtain ⟨mA, O, _⟩ := ins_get I.hok ea
    obtain ⟨od, J, _⟩ := O.look
    exact PySem.W.kia_one (PySem.W.kitx_own (cl.get _) cl.hd ha hn htk hm) I.kIn J e (fun z => nomatch z) h
end
end L2

namespace L2
open PySem PySem.Spec PyProof.Rows

/-! ### room -/
structure Room (k : Nat) (A : Around) : Prop where
  hd : A.handled = none
  dp : A.depth + 3 * k + 5 < recursionLimit
  un : A.units + 16 * k + 200 < cLine
theorem Room.mono {j k : Nat} {A : Around} (r : Room k A) (h : j ≤ k) : Room j A := ⟨r.hd, by have := r.dp; omega, by have := r.un; omega⟩
theorem Room.deeper {k : Nat} {A : Around} (r : Room (k + 1) A) (env : Env) : Room k (A.deeper env) :=
  ⟨r.hd, by have := r.dp; show A.depth + 1 + 3 * k + 5 < _; omega, by have := r.un; show A.units + 3 + 16 * k + 200 < _; omega⟩
theorem make_depth {A : Around} {C : Addr} {us : List Value} {kw : List (Str × Value)} : (A.under (.builtin "type.__call__" ⟨.ref C :: us, kw⟩)).depth = A.depth + 1 := by
  first | rfl | simp [Around.under, Code.weight, Code.isCreation, Code.isGuard, Code.isCaller, Code.frames, Code.isFrame, guardIds]
theorem make_units {A : Around} {C : Addr} {us : List Value} {kw : List (Str × Value)} : (A.under (.builtin "type.__call__" ⟨.ref C :: us, kw⟩)).units = A.units + 1 := by
  first | rfl | simp [Around.under, Code.cUnits, Code.frames, Code.isFrame]
theorem Room.make {k : Nat} {A : Around} (r : Room (k + 1) A) (C : Addr) (us : List Value) (kw : List (Str × Value)) : Room k (A.under (.builtin "type.__call__" ⟨.ref C :: us, kw⟩)) :=
  ⟨r.hd, by have := r.dp; rw [make_depth]; omega, by have := r.un; rw [make_units]; omega⟩
theorem Room.depth {k : Nat} {A : Around} (r : Room k A) : A.depth < recursionLimit := by have := r.dp; omega
theorem Room.units0 {k : Nat} {A : Around} (r : Room k A) : A.units < cLine := by have := r.un; omega

/-! ### argument lists and displays -/
def tNil : TA := fun _ H Q => Q [] H
def tCons (ta : TE) (tr : TA) : TA := fun σ H Q => ta σ H fun x H1 => tr σ H1 fun xs H2 => Q (x :: xs) H2
section
variable {X : Cx} {e : Expr} {es : List Expr} {te : TE} {t : TA} {pos : Pos}
theorem pa_nil : PA X [] tNil := fun _ _ _ _ H Q I h => Calls.spliced_nil ⟨[], H, I, .nil, h⟩
theorem pa_cons (ha : PE X e te) (hr : PA X es t) (hs : starEach (e :: es) X.env = (false, eval e X.env) :: starEach es X.env := by rfl) : PA X (e :: es) (tCons te t) := by
  intro pos pins s σ H Q I h
  rw [hs]
  show wpAny _ _ (spliced ((false, eval e X.env) :: backTo pos (starEach es X.env))) _ _ s
  refine Calls.spliced_cons (thn (ha pins s σ H _ I h) fun u s1 ⟨x, H1, I1, r1, q1⟩ => ?_)
  exact thn (hr pos pins s1 σ H1 _ I1 q1) fun us s2 ⟨xs, H2, I2, r2, q2⟩ => ⟨x :: xs, H2, I2, .cons r1 r2, q2⟩

/-- a tuple, a list of written items -/
def tTup (t : TA) : TE := fun σ H Q => t σ H fun xs H1 => xs.length ≤ sizeLine ∧ ∀ p, H1 p = none → Q (.ref p) (upd H1 p (.tup xs))
def tLst (t : TA) : TE := fun σ H Q => t σ H fun xs H1 => xs.length ≤ sizeLine ∧ ∀ p, H1 p = none → Q (.ref p) (upd H1 p (.lst xs))
theorem pe_tup {x1} (h : PA X es t) : PE X (.Tuple es x1 pos) (tTup t) := by
  intro pins s σ H Q I hq
  refine wpAny_Tuple_spliced (thn (h pos pins s σ H _ I hq) fun us s1 ⟨xs, H1, I1, r, z, q⟩ => ⟨by rw [← r.length]; exact z, ?_⟩)
  have hf : H1 s1.heap.objs.size = none := I1.hok.fresh (Nat.le_refl _)
  refine ⟨.ref s1.heap.objs.size, upd H1 s1.heap.objs.size (.tup xs), I1.laid (t' := s1.toks) (fun b u e => Heap.get?_push_of_some _ e) (Nat.le_refl _) ?_, rfl, q _ hf⟩
  exact ⟨z, us, r, ⟨_, Heap.get?_push_size _ rfl, rfl, _, rfl⟩⟩
theorem pe_lst (h : PA X es t) : PE X (.List es pos) (tLst t) := by
  intro pins s σ H Q I hq
  refine wpAny_List_spliced (thn (h pos pins s σ H _ I hq) fun us s1 ⟨xs, H1, I1, r, z, q⟩ => ⟨by rw [← r.length]; exact z, ?_⟩)
  have hf : H1 s1.heap.objs.size = none := I1.hok.fresh (Nat.le_refl _)
  refine ⟨.ref s1.heap.objs.size, upd H1 s1.heap.objs.size (.lst xs), I1.laid (t' := s1.toks) (fun b u e => Heap.get?_push_of_some _ e) (Nat.le_refl _) ?_, rfl, q _ hf⟩
  exact ⟨z, us, 0, r, Heap.get?_push_size _ rfl⟩
end

/-! ### what a def promises -/
/-- a def's promise: the bound arguments in the parameters' order, the heap, the wanted end, the wanted exception -/
abbrev Sp := List V → Hp → VK → XK → Prop
/-- how an exception lies behind a call (file 08 gives it): the callers' frames, abstract heap and state ahead of the call, the wish, the exception, the state -/
abbrev CXT := List Env → Hp → Shared → XK → Value → Shared → Prop

/-- the state at a call -/
structure Env0 (P : Program) (w : World) (K : PySem.W.Frag) (mg : Str → Option Value) (base : Heap) (A : Around) (outer : List Env) (s : Shared) (H : Hp) : Prop where
  frames : A.frames = some outer
  mod : Mod K mg base
  bs : ∀ b o, base.get? b = some o → s.heap.get? b = some o ∧ H b = none
  bsz : base.objs.size ≤ s.heap.objs.size
  funs : s.heap.FunFrames base outer
  frf : ∀ b ∈ frs outer, H b = none
  hok : HOk P w H s.heap
  bare : AllBare s.gens
/-- a call's end -/
def CE (outer : List Env) (P : Program) (w : World) (H : Hp) (s : Shared) (Q : VK) (u : Value) (s' : Shared) : Prop :=
  ∃ v H', s'.os = s.os ∧ AllBare s'.gens ∧ Un (frs outer) [] H H' s.heap s'.heap ∧ HOk P w H' s'.heap ∧ RelV v u ∧ Q v H'
def CR (CX : CXT) (outer : List Env) (P : Program) (w : World) (H : Hp) (s : Shared) (Q : VK) (E : XK) (r : Result) (s' : Shared) : Prop :=
  match r with
  | .ok (.ret u) => CE outer P w H s Q u s'
  | .ok _ => False
  | .error e => CX outer H s E e s'
structure FnOk (P : Program) (w : World) (K : PySem.W.Frag) (mg : Str → Option Value) (base : Heap) (CX : CXT) (k : Nat) (f : Addr) (fd : FuncData) (ps : List Str) (sp : Sp) : Prop where
  len : ∀ vs H Q E, sp vs H Q E → vs.length = ps.length
  run : ∀ (A : Around) (outer : List Env) (s : Shared) (H : Hp) (args : Args) (us : List Value) (vs : List V) (Q : VK) (E : XK), Room k A → Env0 P w K mg base A outer s H → BindsTo s fd args (ps.zip us) → Vals vs us → sp vs H Q E →
    codeAny (model P w) A (.call (.ref f) args) (CR CX outer P w H s Q E) s

theorem Env0.make {P : Program} {w : World} {K : PySem.W.Frag} {mg : Str → Option Value} {base : Heap} {A : Around} {outer : List Env} {s : Shared} {H : Hp} (e : Env0 P w K mg base A outer s H) (C : Addr) (us : List Value) (kw : List (Str × Value)) :
    Env0 P w K mg base (A.under (.builtin "type.__call__" ⟨.ref C :: us, kw⟩)) outer s H := ⟨by first | exact e.frames | (simpa [Around.under, Code.envs, Code.isFrame, pushEnvs] using e.frames), e.mod, e.bs, e.bsz, e.funs, e.frf, e.hok, e.bare⟩

section
variable {X : Cx} {pins : List (Addr × Obj)} {σ : St} {H : Hp} {s s' : Shared}
/-- from a body: what a callee wants -/
theorem Inv.env0 (I : Inv X pins σ H s) : Env0 X.prog X.w X.K X.mg X.base X.A X.stack s H :=
  ⟨I.ok.frames, I.ok.mod, I.bs, Nat.le_trans I.ok.bsz I.sz, I.stack, I.stkFree, I.hok, I.bare⟩
/-- behind a call -/
theorem Inv.after {Q : VK} {u : Value} (I : Inv X pins σ H s) (h : CE X.stack X.prog X.w H s Q u s') : EP X pins σ Q u s' := by
  obtain ⟨v, H', os, bare, un, hok, r, q⟩ := h
  obtain ⟨hh, g, d, t, os'⟩ := s'
  obtain rfl : os' = s.os := os
  exact ⟨v, H', I.call (h' := hh) (g' := g) (d' := d) (t' := t) (ch := []) un hok bare (fun b z => absurd z (by simp)), r, q⟩
end

/-! ### calls -/
/-- f(..): the written arguments, then the defaults dvs; E: what is wanted of an exception -/
def tCall (sp : Sp) (dvs : List V) (E : XK) (t : TA) : TE := fun σ H Q => t σ H fun vs H1 => sp (vs ++ dvs) H1 Q E
/-- o.m(..) of an instance of the class at C -/
def tMeth (C : Addr) (m : Str) (sp : Sp) (dvs : List V) (E : XK) (ta : TE) (t : TA) : TE := fun σ H Q => ta σ H fun x H1 => ∃ a dx fs, x = .ref a ∧ H1 a = some (.ins C dx fs) ∧ fs.lookup m = none ∧
  t σ H1 fun vs H2 => sp (x :: (vs ++ dvs)) H2 Q E
/-- C(..): a new instance and its dict, then __init__ -/
def tMake (C : Addr) (sp : Sp) (dvs : List V) (E : XK) (t : TA) : TE := fun σ H Q => t σ H fun vs H1 => ∀ x dx, H1 x = none → H1 dx = none → dx ≠ x →
  sp (.ref x :: (vs ++ dvs)) (upd (upd H1 dx (.own x)) x (.ins C dx [])) (fun v H2 => v = .non ∧ Q (.ref x) H2) E

/-- how the parameters are bound: us the positional arguments, kw the keywords' values by name, ds the defaults that fill up -/
def Binds (K : PySem.W.Frag) (fd : FuncData) (ps : List Str) (ds : List Value) : Prop :=
  ∀ (s : Shared) (us : List Value), K.In s.heap → (us ++ ds).length = ps.length → BindsTo s fd ⟨us, []⟩ (ps.zip (us ++ ds))
/-- every parameter is given -/
theorem Binds.all {K : PySem.W.Frag} {fd : FuncData} {ps : List Str} (h : ∀ us : List Value, us.length = ps.length → bindArgs fd ⟨us, []⟩ = pure (ps.zip us)) : Binds K fd ps [] := fun s us _ hl => by
  rw [List.append_nil] at hl ⊢
  exact .of_eq (h us hl)

/-- an exception of a callee reaches what this body wants of exceptions -/
def Passes (CX : CXT) (X : Cx) (E : XK) : Prop := ∀ (pins : List (Addr × Obj)) (σ : St) (H : Hp) (s : Shared) (e : Value) (s' : Shared), Inv X pins σ H s → CX X.stack H s E e s' → X.xe e s'

section
variable {X : Cx} {CX : CXT} {k : Nat} {f C : Addr} {fd : FuncData} {ps : List Str} {sp : Sp} {dvs : List V} {ds : List Value} {E : XK} {x m : Str} {p pos apos : Pos} {e o : Expr} {es : List Expr} {ta : TE} {t : TA}

/-- the callee runs -/
theorem run_fn {pins : List (Addr × Obj)} {σ : St} {H : Hp} {s : Shared} {Q : VK} {us : List Value} {vs : List V} (F : FnOk X.prog X.w X.K X.mg X.base CX k f fd ps sp) (hr : Room k X.A) (hb : Binds X.K fd ps ds) (hd : Vals dvs ds) (hx : Passes CX X E)
    (I : Inv X pins σ H s) (r : Vals vs us) (h : sp (vs ++ dvs) H Q E) : wpAny (model X.prog X.w) X.A (call (.ref f) us) (EP X pins σ Q) X.xe s := by
  have r2 : Vals (vs ++ dvs) (us ++ ds) := r.append hd
  have hl : (us ++ ds).length = ps.length := by rw [← r2.length]; exact F.len _ _ _ _ h
  refine wpAny_call (codeAny_mono (F.run X.A X.stack s H ⟨us, []⟩ (us ++ ds) (vs ++ dvs) Q E hr I.env0 (hb s us I.kIn hl) r2 h) fun r s' hq => ?_)
  cases r with
  | error e => exact hx pins σ H s e s' I hq
  | ok fl =>
    cases fl with
    | ret u => exact I.after hq
    | next => exact False.elim hq
    | brk => exact False.elim hq
    | cont => exact False.elim hq

theorem pe_call (F : FnOk X.prog X.w X.K X.mg X.base CX k f fd ps sp) (hr : Room k X.A) (hg : Gl X x) (hm : X.mg x = some (.ref f)) (hk : PySem.W.keepIn X.K (.ref f) = true) (hb : Binds X.K fd ps ds) (hd : Vals dvs ds) (hx : Passes CX X E)
    (ha : PA X (e :: es) t) (hdb : (x == ("__debug__" : Str)) = false := by decide) (he : starEach (e :: es) X.env = (false, eval e X.env) :: starEach es X.env := by rfl) (hpl : (backTo pos (starEach es X.env)).any (·.1) = false := by rfl) :
    PE X (.Call (.Name x p) (e :: es) [] pos) (tCall sp dvs E t) := by
  intro pins s σ H Q I h
  refine wpAny_Call_Name_kw (ld_glob I hg hm ?_ hdb)
  refine PySem.W.callWith_K (h₀ := X.base) I.ok.mod.kin hk (thn (ha pos pins s σ H _ I h) fun us s1 ⟨vs, H1, I1, r, q⟩ => ⟨I1.kIn, ?_⟩) he hpl
  exact run_fn F hr hb hd hx I1 r q


/-- what a class must have to be made -/
structure Mk (K : PySem.W.Frag) (C f : Addr) : Prop where
  makes : PySem.W.makesIn K C = true
  init : PySem.W.findIn K (.ref C) "__init__" = some (some (.ref f))
  fn : PySem.W.isFn K (.ref f) = true
  kp : PySem.W.keepIn K (.ref C) = true

theorem run_make {pins : List (Addr × Obj)} {σ : St} {H : Hp} {s : Shared} {Q : VK} {us : List Value} {vs : List V} (M : Mk X.K C f) (F : FnOk X.prog X.w X.K X.mg X.base CX k f fd ps sp) (hr : Room (k + 1) X.A) (hb : Binds X.K fd ps ds) (hd : Vals dvs ds)
    (hx : Passes CX X E) (I : Inv X pins σ H s) (r : Vals vs us)
    (h : ∀ x dx, H x = none → H dx = none → dx ≠ x → sp (.ref x :: (vs ++ dvs)) (upd (upd H dx (.own x)) x (.ins C dx [])) (fun v H2 => v = .non ∧ Q (.ref x) H2) E) :
    wpAny (model X.prog X.w) X.A (call (.ref C) us) (EP X pins σ Q) X.xe s := by
  have hq := h (s.heap.objs.size + 1) s.heap.objs.size (I.hok.fresh (Nat.le_succ _)) (I.hok.fresh (Nat.le_refl _)) (Nat.ne_of_lt (Nat.lt_succ_self _))
  have I2 := Inv.made (C := C) I
  have r2 : Vals (V.ref (s.heap.objs.size + 1) :: (vs ++ dvs)) (Value.ref (s.heap.objs.size + 1) :: (us ++ ds)) := .cons rfl (r.append hd)
  have hl : (Value.ref (s.heap.objs.size + 1) :: us ++ ds).length = ps.length := by
    have e := r2.length
    rw [F.len _ _ _ _ hq] at e
    exact e.symm
  refine wpAny_call (make_map (f := f) I.kIn M.makes M.init (beq_iff_eq.mp M.fn) (codeAny_mono (F.run _ X.stack _ _ ⟨Value.ref (s.heap.objs.size + 1) :: us, []⟩ (Value.ref (s.heap.objs.size + 1) :: (us ++ ds)) _ _ E (hr.make C us [])
    (I2.env0.make C us []) (hb _ (Value.ref (s.heap.objs.size + 1) :: us) I2.kIn hl) r2 hq) fun r s' hq' => ?_))
  cases r with
  | error e => exact hx pins σ _ _ e s' I2 hq'
  | ok fl =>
    cases fl with
    | ret u =>
      obtain ⟨v, H', I3, rv, ev, q3⟩ := I2.after hq'
      subst ev
      exact ⟨rv, ⟨V.ref (s.heap.objs.size + 1), H', I3, rfl, q3⟩⟩
    | next => exact False.elim hq'
    | brk => exact False.elim hq'
    | cont => exact False.elim hq'
theorem pe_make (M : Mk X.K C f) (F : FnOk X.prog X.w X.K X.mg X.base CX k f fd ps sp) (hr : Room (k + 1) X.A) (hg : Gl X x) (hm : X.mg x = some (.ref C)) (hb : Binds X.K fd ps ds) (hd : Vals dvs ds) (hx : Passes CX X E)
    (ha : PA X (e :: es) t) (hdb : (x == ("__debug__" : Str)) = false := by decide) (he : starEach (e :: es) X.env = (false, eval e X.env) :: starEach es X.env := by rfl) (hpl : (backTo pos (starEach es X.env)).any (·.1) = false := by rfl) :
    PE X (.Call (.Name x p) (e :: es) [] pos) (tMake C sp dvs E t) := by
  intro pins s σ H Q I h
  refine wpAny_Call_Name_kw (ld_glob I hg hm ?_ hdb)
  refine PySem.W.callWith_K (h₀ := X.base) I.ok.mod.kin M.kp (thn (ha pos pins s σ H _ I h) fun us s1 ⟨vs, H1, I1, r, q⟩ => ⟨I1.kIn, ?_⟩) he hpl
  exact run_make M F hr hb hd hx I1 r q
end

/-! ### keywords -/
/-- the values of the keywords, from the left -/
def PK (X : Cx) (kws : List Keyword) (t : TA) : Prop :=
  ∀ (pos : Pos) (pins : List (Addr × Obj)) (s : Shared) (σ : St) (H : Hp) (Q : List V → Hp → Prop), Inv X pins σ H s → t σ H Q → wpAny (model X.prog X.w) X.A (evalAll ((backToKw pos (keywordEach kws X.env)).map (·.2))) (AP X pins σ Q) X.xe s
section
variable {X : Cx} {CX : CXT} {k : Nat} {f C : Addr} {fd : FuncData} {ps ks : List Str} {sp : Sp} {E : XK} {x m : Str} {p pos apos kpos : Pos} {e o : Expr} {es : List Expr} {kws : List Keyword} {te ta : TE} {t tk : TA} {nm : Option Str}

/-- how a call with keywords binds: g puts the positional values us and the keywords' values ws (names ks) in the parameters' order, defaults among them -/
structure KBinds (K : PySem.W.Frag) (fd : FuncData) (ps ks : List Str) (g : List Value → List Value → List Value) (gV : List V → List V → List V) : Prop where
  to : ∀ (s : Shared) (us ws : List Value), K.In s.heap → (g us ws).length = ps.length → BindsTo s fd ⟨us, ks.zip ws⟩ (ps.zip (g us ws))
  rel : ∀ {vs : List V} {us : List Value} {zs : List V} {ws : List Value}, Vals vs us → Vals zs ws → Vals (gV vs zs) (g us ws)
def tCallK (sp : Sp) (gV : List V → List V → List V) (E : XK) (t tk : TA) : TE := fun σ H Q => t σ H fun vs H1 => tk σ H1 fun zs H2 => sp (gV vs zs) H2 Q E
variable {g : List Value → List Value → List Value} {gV : List V → List V → List V}
end

/-! ### a def's body keeps its promise -/
/-- names: the parameters first -/
structure FnScope (N P : List Str) (sc : Scope) : Prop where
  kind : sc.kind = .function
  co : sc.isCoroutine = false
  gen : sc.isGenerator = false
  nd : N.Nodup
  pre : N.take P.length = P
  par : ∀ x ∈ P, sc.names.lookup x = some .local ∨ sc.names.lookup x = some .cell
  nofree : ∀ y ∈ sc.names, y.2 ≠ .free

theorem bindL_out {kindOf : Str → Option NameKind} {x : Str} : ∀ {binds : List (Str × Value)} {m : Str → Option Value}, (∀ v, (x, v) ∉ binds) → bindL kindOf binds m x = m x
  | [], _, _ => rfl
  | (n, v) :: r, m, h => by
    unfold bindL
    rw [bindL_out fun w hw => h w (List.mem_cons_of_mem _ hw)]
    split
    · have : x ≠ n := by rintro rfl; exact h v List.mem_cons_self
      simp [this]
    · rfl
theorem bindC_out {kindOf : Str → Option NameKind} {x : Str} : ∀ {binds : List (Str × Value)} {m : Str → Option Value}, (∀ v, (x, v) ∉ binds) → bindC kindOf binds m x = m x
  | [], _, _ => rfl
  | (n, v) :: r, m, h => by
    unfold bindC
    rw [bindC_out fun w hw => h w (List.mem_cons_of_mem _ hw)]
    split
    · rfl
    · have : x ≠ n := by rintro rfl; exact h v List.mem_cons_self
      simp [this]
theorem bindL_get {kindOf : Str → Option NameKind} {x : Str} {v : Value} : ∀ {P : List Str} {vs : List Value} {i : Nat} {m : Str → Option Value}, P.Nodup → P[i]? = some x → vs[i]? = some v → kindOf x = some .local →
    bindL kindOf (P.zip vs) m x = some v
  | [], _, _, _, _, h, _, _ => by simp at h
  | _ :: _, [], _, _, _, _, h, _ => by simp at h
  | p :: P, w :: vs, 0, m, nd, h1, h2, hk => by
    simp at h1 h2; subst h1; subst h2
    show bindL kindOf ((p, w) :: P.zip vs) m p = _
    unfold bindL
    rw [bindL_out fun v hv => (List.nodup_cons.mp nd).1 (List.of_mem_zip hv).1, if_pos hk]
    simp
  | p :: P, w :: vs, i + 1, m, nd, h1, h2, hk => by
    show bindL kindOf ((p, w) :: P.zip vs) m x = _
    unfold bindL
    exact bindL_get (i := i) (List.nodup_cons.mp nd).2 (by simpa using h1) (by simpa using h2) hk
theorem bindC_get {kindOf : Str → Option NameKind} {x : Str} {v : Value} : ∀ {P : List Str} {vs : List Value} {i : Nat} {m : Str → Option Value}, P.Nodup → P[i]? = some x → vs[i]? = some v → kindOf x ≠ some .local →
    bindC kindOf (P.zip vs) m x = some v
  | [], _, _, _, _, h, _, _ => by simp at h
  | _ :: _, [], _, _, _, _, h, _ => by simp at h
  | p :: P, w :: vs, 0, m, nd, h1, h2, hk => by
    simp at h1 h2; subst h1; subst h2
    show bindC kindOf ((p, w) :: P.zip vs) m p = _
    unfold bindC
    rw [bindC_out fun v hv => (List.nodup_cons.mp nd).1 (List.of_mem_zip hv).1, if_neg hk]
    simp
  | p :: P, w :: vs, i + 1, m, nd, h1, h2, hk => by
    show bindC kindOf ((p, w) :: P.zip vs) m x = _
    unfold bindC
    exact bindC_get (i := i) (List.nodup_cons.mp nd).2 (by simpa using h1) (by simpa using h2) hk

/-- the names' values at the entry -/
def start (N : List Str) (vs : List V) : St := vs.map some ++ List.replicate (N.length - vs.length) none

/-- the context of a def's body, at its entry; an exception leaves the frame, then lies as CX says -/
def cxOf (CX : CXT) (P : Program) (w : World) (K : PySem.W.Frag) (mg : Str → Option Value) (base : Heap) (N : List Str) (qual : Str) (scope : Scope) (f : Addr) (cd : Value) (A : Around) (outer : List Env) (s : Shared) (H : Hp) (E : XK) : Cx where
  prog := P
  w := w
  K := K
  mg := mg
  base := base
  A := A.deeper (envOfC qual scope s.heap.objs.size f cd)
  N := N
  s₀ := s
  H₀ := H
  env := envOfC qual scope s.heap.objs.size f cd
  outer := outer
  stack := envOfC qual scope s.heap.objs.size f cd :: outer
  ex := []
  calm := true
  fn := fun _ => true
  pn := []
  xe := fun e s' => wpAny (model P w) (A.deeper (envOfC qual scope s.heap.objs.size f cd)) (leaving (envOfC qual scope s.heap.objs.size f cd) e) (fun _ s'' => CX outer H s E e s'') (fun e' s'' => CX outer H s E e' s'') s'

theorem cell_has {sc : Scope} {n : Nat} {x : Str} (h : sc.names.lookup x = some .cell) : ∃ c, (cellsFrom n sc.names []).lookup x = some c := by
  have q := PySem.W.cellsFrom_some sc.names n [] (.inl h)
  exact Option.isSome_iff_exists.mp q

theorem inv_start {CX : CXT} {P : Program} {w : World} {K : PySem.W.Frag} {mg : Str → Option Value} {base : Heap} {N ps : List Str} {qual : Str} {scope : Scope} {f : Addr} {cd : Value} {A : Around} {outer : List Env} {s s1 : Shared} {H : Hp} {E : XK} {us : List Value} {vs : List V}
    (S : FnScope N ps scope) (hd : A.handled = none) (e0 : Env0 P w K mg base A outer s H) (hl : vs.length = ps.length) (r : Vals vs us)
    (x : InCallC s s.heap.objs.size (bindL (envOfC qual scope s.heap.objs.size f cd).kindOf (ps.zip us) fun _ => none) (cellsFrom (s.heap.objs.size + 1) scope.names []) (bindC (envOfC qual scope s.heap.objs.size f cd).kindOf (ps.zip us) fun _ => none) s1) :
    Inv (cxOf CX P w K mg base N qual scope f cd A outer s H E) [] (start N vs) H s1 := by
  have hpl : ps.length ≤ N.length := by have := congrArg List.length S.pre; rw [List.length_take] at this; omega
  obtain ⟨h1, tk, rfl, hk⟩ := x.done
  have noA : ∀ b : Addr, b ∉ (cxOf CX P w K mg base N qual scope f cd A outer s H E).ex := fun b z => absurd (show b ∈ ([] : List Addr) from z) (by simp)
  refine ⟨⟨e0.mod, S.kind, rfl, rfl, Nat.le_refl _, fun y z c h1 h2 => ?_, fun y hy => ?_, fun y c _ h => ?_, fun _ => hd, Around.frames_deeper e0.frames, .inr ⟨rfl, rfl⟩, fun b z => absurd z (noA b), e0.bs, e0.bsz, fun b _ _ => noA b, fun b z => absurd z (noA b), e0.funs, e0.frf⟩,
    rfl, e0.bare, Un.kept hk, ⟨_, x.toInCall.ns, fun i y v h1 h2 h3 => ?_⟩, fun y c h => ⟨_, x.cell y c h⟩, e0.hok.fresh (Nat.le_refl _), fun y c h => ?_, fun p hp => absurd (show p ∈ ([] : List (Addr × Obj)) from hp) (by simp), e0.hok.kept hk, ?_⟩
  · exact name_of_addr x.apart (PySem.mem_of_lookup h1) (PySem.mem_of_lookup h2)
  · have hy : scope.names.lookup y = some .cell ∨ scope.names.lookup y = some .free := hy
    rcases hy with hy | hy
    · exact cell_has hy
    · exact absurd rfl (S.nofree _ (PySem.mem_of_lookup hy))
  · exact Nat.le_of_lt (x.above y c (PySem.mem_of_lookup h))
  · have hi : i < vs.length := by
      unfold start at h2
      by_cases hi : i < vs.length
      · exact hi
      · rw [List.getElem?_append_right (by simpa using hi)] at h2
        rw [List.getElem?_replicate] at h2
        split at h2 <;> cases h2
    have ha : vs[i]? = some v := by
      unfold start at h2
      rw [List.getElem?_append_left (by simpa using hi), List.getElem?_map] at h2
      cases e : vs[i]? with
      | none => rw [e] at h2; cases h2
      | some a => rw [e] at h2; cases h2; rfl
    obtain ⟨u, hu, rv⟩ := r.get ha
    have hp : ps[i]? = some y := by
      rw [← S.pre, List.getElem?_take_of_lt (by omega)]; exact h1
    have ndP : ps.Nodup := by rw [← S.pre]; exact S.nd.sublist (List.take_sublist _ _)
    refine ⟨u, rv, ?_⟩
    rcases S.par y (List.mem_of_getElem? hp) with k | k
    · exact .inl ⟨k, bindL_get ndP hp hu k⟩
    · obtain ⟨c, e⟩ := cell_has (n := s.heap.objs.size + 1) k
      refine .inr ⟨.inl k, c, e, ?_⟩
      have q := x.cell y c e
      rw [bindC_get ndP hp hu (by show scope.names.lookup y ≠ _; rw [k]; decide)] at q
      exact q
  · exact e0.hok.fresh (Nat.le_of_lt (x.above y c (PySem.mem_of_lookup h)))
  · unfold start
    show _ = N.length
    rw [List.length_append, List.length_map, List.length_replicate]
    omega

/-- THE RULE: a def (or a method) of the text, by its body. The body's reading t is chosen for each entry; it is run at the parameters' values -/
theorem fn_of {CX : CXT} {P : Program} {w : World} {K : PySem.W.Frag} {mg : Str → Option Value} {base : Heap} {k : Nat} {f : Addr} {name qual : Str} {params : Arguments} {body : List Stmt} {scope : Scope} {dV kV doc pm cdv ct oc : Value} {an od : Option Addr}
    {osl : Array (Option Value)} {N ps : List Str} {sp : Sp} (lk : K.lookup f = some ⟨oc, od, .func (PySem.W.fnOf name qual params body scope dV kV doc pm an cdv ct), osl⟩) (hcd : PySem.W.codeIn K cdv qual = true) (S : FnScope N ps scope)
    (len : ∀ vs H Q E, sp vs H Q E → vs.length = ps.length)
    (hbody : ∀ (A : Around) (outer : List Env) (s : Shared) (H : Hp) (vs : List V) (Q : VK) (E : XK), Room k (A.deeper (envOfC qual scope s.heap.objs.size f cdv)) → sp vs H Q E →
      ∃ t, PSs (cxOf CX P w K mg base N qual scope f cdv A outer s H E) body t ∧ t { nx := fun _ H' => Q .non H', rt := Q } (start N vs) H) :
    FnOk P w K mg base CX (k + 1) f (PySem.W.fnOf name qual params body scope dV kV doc pm an cdv ct) ps sp := by
  refine ⟨len, fun A outer s H args us vs Q E hr e0 hb r hsp => ?_⟩
  have hl := len _ _ _ _ hsp
  have KX : K.In s.heap := e0.mod.kin.keeps fun b o e => (e0.bs b o e).1
  have lim : s.heap.NoLimit := e0.mod.nolimit.keeps fun b o e => (e0.bs b o e).1
  have hkind : ∀ y ∈ ps.zip us, scope.names.lookup y.1 = some .local ∨ (scope.names.lookup y.1 = some .cell ∧ ((cellsFrom (s.heap.objs.size + 1) scope.names []).lookup y.1).isSome = true) := fun ⟨n, v⟩ hy => by
    rcases S.par n (List.of_mem_zip hy).1 with q | q
    · exact .inl q
    · exact .inr ⟨q, PySem.W.cellsFrom_some _ _ _ (.inl q)⟩
  refine codeAny_call_function hr.depth (KX _ _ lk) rfl S.co S.gen rfl (PySem.W.codeRec_of KX hcd) (hb _ _ _ _ ?_)
  refine wpAny_newFunctionEnv_cells S.kind hkind fun env he s1 x => ?_
  subst he
  refine ⟨lim.keeps x.toInCall.keep, codeAny_func ?_⟩
  obtain ⟨t, ht, hq⟩ := hbody A outer s H vs Q E (hr.deeper _) hsp
  have I : Inv (cxOf CX P w K mg base N qual scope f cdv A outer s H E) [] (start N vs) H s1 := inv_start S hr.hd e0 hl r x
  refine wpAny_mono (ht [] s1 (start N vs) H _ I hq) (fun fl s' hs => ?_) fun e s' hs => hs
  have fin : ∀ {σ' : St} {H' : Hp} {v : V} {u : Value}, Inv (cxOf CX P w K mg base N qual scope f cdv A outer s H E) [] σ' H' s' → RelV v u → Q v H' → CE outer P w H s Q u s' :=
    fun {σ' H' v u} J rv q => ⟨v, H', J.os, J.bare, J.base, J.hok, rv, q⟩
  cases fl with
  | ret u =>
    obtain ⟨v, σ', H', J, rv, q⟩ := hs
    exact fin J rv q
  | next =>
    obtain ⟨σ', H', J, q⟩ := hs
    exact fin (v := V.non) (u := Value.none) J rfl q
  | brk =>
    obtain ⟨_, _, _, q⟩ := hs
    exact False.elim q
  | cont =>
    obtain ⟨_, _, _, q⟩ := hs
    exact False.elim q
end L2

namespace L2
open PySem PySem.Spec PyProof.Rows
section
variable {X : Cx} {x : Str} {p pos : Pos} {e : Expr} {es : List Expr} {t : TA} {id T : String} {r : List V → Hp → VK → Prop}

def tCB (r : List V → Hp → VK → Prop) (t : TA) : TE := fun σ H Q => t σ H fun vs H1 => r vs H1 Q
/-- f(e, ..), f a built-in function -/
theorem pe_callB (hc : CallR X (.builtin id) r) (hg : Gl X x) (hm : X.mg x = none) (hv : bootBuiltins x = some (.builtin id)) (ha : PA X (e :: es) t) (hn : x ≠ "__name__" := by decide) (hdb : (x == ("__debug__" : Str)) = false := by decide)
    (he : starEach (e :: es) X.env = (false, eval e X.env) :: starEach es X.env := by rfl) (hpl : (backTo pos (starEach es X.env)).any (·.1) = false := by rfl) : PE X (.Call (.Name x p) (e :: es) [] pos) (tCB r t) := by
  intro pins s σ H Q I h
  refine wpAny_Call_Name_kw (ld_blt I hg hm hv ?_ hn hdb)
  exact PyProof.Rows.callWith_builtin1 (thn (ha pos pins s σ H _ I h) fun us s1 ⟨vs, H1, I1, r1, q1⟩ => hc pins s1 σ H1 vs us Q I1 r1 q1) he hpl
/-- T(e, ..), T a built-in type -/
theorem pe_callTy (hc : CallR X (.type T) r) (hg : Gl X x) (hm : X.mg x = none) (hv : bootBuiltins x = some (.type T)) (ha : PA X (e :: es) t) (hn : x ≠ "__name__" := by decide) (hdb : (x == ("__debug__" : Str)) = false := by decide)
    (he : starEach (e :: es) X.env = (false, eval e X.env) :: starEach es X.env := by rfl) (hpl : (backTo pos (starEach es X.env)).any (·.1) = false := by rfl) : PE X (.Call (.Name x p) (e :: es) [] pos) (tCB r t) := by
  intro pins s σ H Q I h
  refine wpAny_Call_Name_kw (ld_blt I hg hm hv ?_ hn hdb)
  exact PyProof.Rows.callWith_type1 (thn (ha pos pins s σ H _ I h) fun us s1 ⟨vs, H1, I1, r1, q1⟩ => hc pins s1 σ H1 vs us Q I1 r1 q1) he hpl
end
end L2

namespace HT
open PySem PyProof.Rows

/-- t < u of tuples of ints -/
def lexLt : List Int → List Int → Bool
  | [], [] => false
  | [], _ :: _ => true
  | _ :: _, [] => false
  | x :: xs, y :: ys => if x = y then lexLt xs ys else decide (x < y)


section
open PySem.SeqAt
open PySem.AutoSeq1 (wpAny_loadPart')
open PySem.MeetsSeq PySem.MeetsSeq2 PySem.MeetsSeq3

end

section
variable {prog : Program} {w : World} {A : Around} {E : Value → Shared → Prop} {s : Shared}



/-! ### t[a:b], not the whole -/
/-- a slice's bound as a place among n (d where it is left out) -/
def sIx (n d : Nat) : Option Int → Nat
  | none => d
  | some v => if v < 0 then (v + (n : Int)).toNat else min v.toNat n

end
end HT

namespace L2
open PySem PySem.Spec PyProof.Rows

/-! ### the parts of a slice -/
abbrev TO := St → Hp → (Option Int → Hp → Prop) → Prop
/-- a slice's part (left out, or an int) -/
def PO (X : Cx) (e : Option Expr) (t : TO) : Prop :=
  ∀ (pins : List (Addr × Obj)) (s : Shared) (σ : St) (H : Hp) (Q : Option Int → Hp → Prop), Inv X pins σ H s → t σ H Q →
    wpAny (model X.prog X.w) X.A (evalPart e X.env) (fun u s' => ∃ o H', Inv X pins σ H' s' ∧ IsPart u o ∧ Q o H') X.xe s
def tNoPart : TO := fun _ H Q => Q none H
def tPart (t : TE) : TO := fun σ H Q => t σ H fun x H1 => ∃ i, x = .int i ∧ Q (some i) H1


section
variable {X : Cx} {e : Expr} {te : TE} {lo hi : Option Expr} {tl th : TO} {pos p2 : Pos}


/-- what a slice of a value is, by values: the slice object stands at sl -/
def SlR (X : Cx) (r : V → Option Int → Option Int → Hp → VK → Prop) : Prop :=
  ∀ (pins : List (Addr × Obj)) (s : Shared) (σ : St) (H : Hp) (x : V) (v vl vu : Value) (lo hi : Option Int) (sl : Addr) (Q : VK), Inv X pins σ H s → RelV x v → s.heap.IsSliceOf sl vl vu .none → IsPart vl lo → IsPart vu hi → r x lo hi H Q →
    ∃ T id, typeLookup (.type T) "__getitem__" = pure (some (.builtin id)) ∧ s.TypeIs v T ∧ wpAny (model X.prog X.w) X.A (getItem v (.ref sl)) (EP X pins σ Q) X.xe s
def tSl (r : V → Option Int → Option Int → Hp → VK → Prop) (te : TE) (tl th : TO) : TE := fun σ H Q => te σ H fun x H1 => tl σ H1 fun l H2 => th σ H2 fun u H3 => r x l u H3 Q

/-- the items of xs[lo:hi] -/
def cutV (xs : List V) (lo hi : Option Int) : List V := (xs.drop (HT.sIx xs.length 0 lo)).take (HT.sIx xs.length xs.length hi - HT.sIx xs.length 0 lo)
/-- t[lo:hi], not the whole of it (the whole would be t itself) -/
def rSlT (K : PySem.W.Frag) : V → Option Int → Option Int → Hp → VK → Prop := fun x lo hi H Q => ∃ a xs, x = .ref a ∧ SqT K H a xs ∧
  ¬ (HT.sIx xs.length 0 lo = 0 ∧ HT.sIx xs.length xs.length hi = xs.length) ∧ ∀ p, H p = none → Q (.ref p) (upd H p (.tup (cutV xs lo hi)))

/-! ### t < u, t + u -/
def rLtT (K : PySem.W.Frag) : R2 := fun x y H Q => ∃ a b ns ms, x = .ref a ∧ y = .ref b ∧ SqT K H a (ns.map V.int) ∧ SqT K H b (ms.map V.int) ∧ Q (.bl (HT.lexLt ns ms)) H
/-- t + u, t not empty: u empty gives t itself -/
def rCatT (K : PySem.W.Frag) : R2 := fun x y H Q => ∃ a b xs ys, x = .ref a ∧ y = .ref b ∧ SqT K H a xs ∧ SqT K H b ys ∧ xs ≠ [] ∧ xs.length + ys.length ≤ sizeLine ∧
  (ys = [] → Q (.ref a) H) ∧ (ys ≠ [] → ∀ p, H p = none → Q (.ref p) (upd H p (.tup (xs ++ ys))))
end
end L2

namespace L2
open PySem PySem.Spec PyProof.Rows

/-! ### places -/
/-- the place that an index of any sign means -/
def ixN (n : Nat) (i : Int) : Option Nat := if 0 ≤ i then (if i < n then some i.toNat else none) else if -(n : Int) ≤ i then some (i + n).toNat else none
def atI {α : Type} (xs : List α) (i : Int) : Option α := (ixN xs.length i).bind fun j => xs[j]?
theorem ixN_seq {n : Nat} {i : Int} {j : Nat} (h : ixN n i = some j) : seqIndex? i n = some j ∧ j < n ∧ -(n : Int) ≤ i ∧ i < n := by
  unfold ixN at h
  by_cases h0 : 0 ≤ i
  · rw [if_pos h0] at h
    by_cases h1 : i < n
    · rw [if_pos h1] at h
      have e : i.toNat = j := Option.some.inj h
      exact ⟨by rw [seqIndex_of h0 h1, e], by omega, by omega, h1⟩
    · rw [if_neg h1] at h; cases h
  · rw [if_neg h0] at h
    by_cases h1 : -(n : Int) ≤ i
    · rw [if_pos h1] at h
      have e : (i + n).toNat = j := Option.some.inj h
      exact ⟨by rw [seqIndex_neg (by omega) h1, e], by omega, h1, by omega⟩
    · rw [if_neg h1] at h; cases h
theorem atI_get {α : Type} {xs : List α} {i : Int} {v : α} (h : atI xs i = some v) : ∃ j, seqIndex? i xs.length = some j ∧ xs[j]? = some v ∧ j < xs.length ∧ -(xs.length : Int) ≤ i ∧ i < xs.length := by
  unfold atI at h
  cases e : ixN xs.length i with
  | none => rw [e] at h; cases h
  | some j =>
    rw [e] at h
    obtain ⟨h1, h2, h3, h4⟩ := ixN_seq e
    exact ⟨j, h1, h, h2, h3, h4⟩
theorem atI_nat {α : Type} {xs : List α} {j : Nat} {v : α} (h : xs[j]? = some v) : atI xs (j : Int) = some v := by
  have hj : j < xs.length := (List.getElem?_eq_some_iff.mp h).1
  have e : ixN xs.length (j : Int) = some j := by
    unfold ixN
    rw [if_pos (by omega), if_pos (by omega)]; simp
  unfold atI; rw [e]; exact h

/-! ### what may be subscripted -/
/-- what stands as an index of a plain subscript -/
def PlainIx (b : Expr) : Prop := ∀ o i, subscripted b false o i = operate [o, i] (getItem o i)
/-- a subscript by values -/
def IxR (X : Cx) (r : R2) : Prop :=
  ∀ (value slice : Expr) (pins : List (Addr × Obj)) (s : Shared) (σ : St) (H : Hp) (x y : V) (v u : Value) (Q : VK), Inv X pins σ H s → RelV x v → RelV y u → r x y H Q →
    subscripted slice false v u = operate [v, u] (getItem v u) → wpAny (model X.prog X.w) X.A (subscriptTail value slice v u) (EP X pins σ Q) X.xe s
/-- a call of a builtin's method by values: the receiver, the arguments -/
def MtR (X : Cx) (id : String) (r : V → List V → Hp → VK → Prop) : Prop :=
  ∀ (pins : List (Addr × Obj)) (s : Shared) (σ : St) (H : Hp) (x : V) (xs : List V) (v : Value) (us : List Value) (Q : VK), Inv X pins σ H s → RelV x v → Vals xs us → r x xs H Q →
    wpAny (model X.prog X.w) X.A (call (.builtin id) (v :: us)) (EP X pins σ Q) X.xe s
section
variable {X : Cx} {a b : Expr} {ta tb : TE} {pos : Pos}
/-- a[b] -/
theorem pe_ix {r : R2} (hr : IxR X r) (ha : PE X a ta) (hb : PE X b tb) (hs : PlainIx b) : PE X (.Subscript a b pos) (tOp r ta tb) := by
  intro pins s σ H Q I h
  exact Subscript_ (binT ha hb I h fun v u s2 x y H2 I2 rx ry q => hr a b pins s2 σ H2 x y v u Q I2 rx ry q (hs _ _))

def rIxL (K : PySem.W.Frag) : R2 := fun x y H Q => ∃ p xs i v, x = .ref p ∧ y = .int i ∧ SqL K H p xs ∧ atI xs i = some v ∧ Q v H
def rIxT (K : PySem.W.Frag) : R2 := fun x y H Q => ∃ p xs i v, x = .ref p ∧ y = .int i ∧ SqT K H p xs ∧ atI xs i = some v ∧ Q v H
def rIxS : R2 := fun x y H Q => ∃ z i c, x = .str z ∧ y = .int i ∧ z.length ≤ sizeLine ∧ atI z.cps.toList i = some c ∧ Q (.str ⟨#[c]⟩) H
theorem ix_list : IxR X (rIxL X.K) := by
  intro value slice pins s σ H x y v u Q I rx ry h hs
  obtain ⟨p, xs, i, z, rfl, rfl, hq, he, q⟩ := h
  cases rx
  obtain ⟨t, rfl⟩ := ry
  obtain ⟨its, r, pl, hz⟩ := I.list hq
  obtain ⟨j, h1, h2, h3, h4, h5⟩ := atI_get he
  obtain ⟨w, ew, rw'⟩ := r.get h2
  have hl := r.length
  have hn := line63
  have fin : EP X pins σ Q w s := ⟨z, H, I, rw', q⟩
  by_cases h0 : 0 ≤ i
  · have hj : i.toNat = j := by
      rw [seqIndex_of h0 h5] at h1
      exact Option.some.inj h1
    exact item_listR pl.isList h0 (by omega) (by rw [hj]; simpa using ew) fin hs
  · have hj : (i + (its.toArray.size : Int)).toNat = j := by
      rw [seqIndex_neg (by omega) h4] at h1
      rw [List.size_toArray, ← hl]
      exact Option.some.inj h1
    exact subscriptTail_builtinR (x := w) pl.isList.typeIs slot_list_getitem.lookup
      (wpAny_getItem_list_neg (Q := fun r s' => r = w ∧ EP X pins σ Q r s') pl.isList (by omega) (by rw [List.size_toArray] <;> omega) (by omega) (by rw [hj]; simpa using ew) ⟨rfl, fin⟩) hs
theorem ix_tup : IxR X (rIxT X.K) := by
  intro value slice pins s σ H x y v u Q I rx ry h hs
  obtain ⟨p, xs, i, z, rfl, rfl, hq, he, q⟩ := h
  cases rx
  obtain ⟨t, rfl⟩ := ry
  obtain ⟨its, r, pl, hz⟩ := I.tuple hq
  obtain ⟨j, h1, h2, h3, h4, h5⟩ := atI_get he
  obtain ⟨w, ew, rw'⟩ := r.get h2
  have hl := r.length
  have hn := line63
  have fin : EP X pins σ Q w s := ⟨z, H, I, rw', q⟩
  exact subscriptTail_builtinR (x := w) pl.typeIs slot_tuple_getitem.lookup
    (getItem_tuple (j := j) (Q := fun r s' => r = w ∧ EP X pins σ Q r s') pl (by omega) (by omega) (by rw [List.size_toArray, ← hl]; exact h1) (by simpa using ew) ⟨rfl, fin⟩) hs
theorem ix_str : IxR X rIxS := by
  intro value slice pins s σ H x y v u Q I rx ry h hs
  obtain ⟨z, i, c, rfl, rfl, hz, he, q⟩ := h
  obtain ⟨t, rfl⟩ := rx
  obtain ⟨t', rfl⟩ := ry
  obtain ⟨j, h1, h2, h3, h4, h5⟩ := atI_get he
  have hl : z.cps.toList.length = z.length := by simp [Str.length]
  rw [hl] at h1 h4 h5
  have hn := line63
  exact tail_any (typeIs_str s z t) slot_str_getitem.lookup (getItem_str (c := c) (by
    have e1 : decide (i < -(2 ^ 63 : Int)) = false := decide_eq_false (by omega)
    have e2 : decide (i ≥ 2 ^ 63) = false := decide_eq_false (by omega)
    rw [e1, e2, Bool.or_false]) (by rw [h1]; simpa using h2) ⟨.str ⟨#[c]⟩, H, I.tok _, ⟨_, rfl⟩, q⟩) hs
/-- list, tuple or str -/
def rIx (K : PySem.W.Frag) : R2 := fun x y H Q => rIxL K x y H Q ∨ rIxT K x y H Q ∨ rIxS x y H Q

/-! ### xs[i] = v, any sign -/
/-- the list's object behind a store -/
theorem mapSeq_set (its : List Value) (n j : Nat) (u : Value) : Obj.mapSeq (·.setIfInBounds j u) { cls := .type "list", data := .seq its.toArray n } = { cls := .type "list", data := .seq (its.set j u).toArray n } := by
  simp [Obj.mapSeq]
theorem Inv.lst {pins : List (Addr × Obj)} {σ : St} {H : Hp} {s : Shared} {p : Addr} {xs : List V} (I : Inv X pins σ H s) (h : H p = some (.lst xs)) :
    ∃ (its : List Value) (n : Nat), Vals xs its ∧ s.heap.get? p = some { cls := .type "list", data := .seq its.toArray n } ∧ xs.length ≤ sizeLine := by
  obtain ⟨z, its, n, r, e⟩ := I.hok p _ h
  exact ⟨its, n, r, e, z⟩
/-- the list at p is written by an update of its object -/
theorem Inv.lstUpd {pins : List (Addr × Obj)} {σ : St} {H : Hp} {s : Shared} {p : Addr} {xs ys : List V} {its its' : List Value} {n n' : Nat} {f : Obj → Obj} (I : Inv X pins σ H s) (h : H p = some (.lst xs))
    (ho : s.heap.get? p = some { cls := .type "list", data := .seq its.toArray n }) (hf : f { cls := .type "list", data := .seq its.toArray n } = { cls := .type "list", data := .seq its'.toArray n' }) (r : Vals ys its') (hz : ys.length ≤ sizeLine) (t : Nat) :
    Inv X pins σ (upd H p (.lst ys)) { s with heap := s.heap.update p f, toks := t } := by
  have e : (s.heap.update p f).get? p = some { cls := .type "list", data := .seq its'.toArray n' } := by
    rw [Heap.get?_update_self f ho (by rw [hf] <;> rfl), hf]
  refine I.write (x := p) (e := p) (by rw [h]; trivial) (.inl rfl) (fun b u hb q => (Heap.get?_update_other _ _ (Ne.symm hb)).trans q) ⟨_, e⟩ ?_
  exact ⟨hz, its', n', r, e⟩
def rSetL : V → V → V → Hp → (Hp → Prop) → Prop := fun o i v H Q => ∃ p xs k j, o = .ref p ∧ i = .int k ∧ H p = some (.lst xs) ∧ ixN xs.length k = some j ∧ Q (upd H p (.lst (xs.set j v)))
theorem set_list : PSet X rSetL := by
  intro pins s σ H o i v ov iv u Q I ro ri rv h
  obtain ⟨p, xs, k, j, rfl, rfl, hp, hj, q⟩ := h
  cases ro
  obtain ⟨t, rfl⟩ := ri
  obtain ⟨its, n, r, ho, hz⟩ := I.lst hp
  obtain ⟨h1, h2, h3, h4⟩ := ixN_seq hj
  have hl := r.length
  have hn := line63
  have I' : Inv X pins σ (upd H p (.lst (xs.set j v))) { s with heap := s.heap.update p (Obj.mapSeq (·.setIfInBounds j u)) } :=
    I.lstUpd hp ho (mapSeq_set its n j u) (r.set rv j) (by rw [List.length_set]; exact hz) s.toks
  by_cases h0 : 0 ≤ k
  · have hk : k.toNat = j := by
      rw [seqIndex_of h0 h4] at h1
      exact Option.some.inj h1
    exact PySem.W.ki_setAt ho h0 (by omega) (by rw [List.size_toArray, ← hl]; exact h4) (by rw [hk]; exact ⟨_, I', q⟩)
  · have hk : (k + (its.toArray.size : Int)).toNat = j := by
      rw [seqIndex_neg (by omega) h3] at h1
      rw [List.size_toArray, ← hl]
      exact Option.some.inj h1
    exact PySem.W.ki_setBack ho (by omega) (by rw [List.size_toArray, ← hl]; exact h3) (by omega) (by rw [hk]; exact ⟨_, I', q⟩)

/-! ### slices -/
/-- xs[lo:hi] of a list: a new list -/
def rSlL (K : PySem.W.Frag) : V → Option Int → Option Int → Hp → VK → Prop := fun x lo hi H Q => ∃ a xs, x = .ref a ∧ SqL K H a xs ∧ ∀ p, H p = none → Q (.ref p) (upd H p (.lst (cutV xs lo hi)))

/-! ### in, not in: flat items -/
def flatV : V → Bool
  | .non => true
  | .bl _ => true
  | .int _ => true
  | .str _ => true
  | _ => false
/-- == of flat values -/
def eqV : V → V → Bool
  | .non, .non => true
  | .bl a, .bl b => a == b
  | .bl a, .int b => (if a then 1 else 0) == b
  | .int a, .bl b => a == (if b then 1 else 0)
  | .int a, .int b => a == b
  | .str a, .str b => a == b
  | _, _ => false
theorem eqAt_V {A : Around} {s : Shared} {y x : V} {u v : Value} (ry : RelV y u) (rx : RelV x v) (fy : flatV y = true) (fx : flatV x = true) : SeqAt.EqAt A s u v (eqV y x) := by
  cases y with
  | non =>
    cases ry
    cases x with
    | non => cases rx; exact SeqAt.EqAt.same _
    | bl b => cases rx; exact SeqAt.EqAt.none_bool b
    | int b => obtain ⟨t, rfl⟩ := rx; exact SeqAt.EqAt.none_int b t
    | str b => obtain ⟨t, rfl⟩ := rx; exact SeqAt.EqAt.none_str b t
    | _ => exact absurd (show false = true from fx) Bool.false_ne_true
  | bl a =>
    cases ry
    cases x with
    | non => cases rx; exact SeqAt.EqAt.bool_none a
    | bl b => cases rx; exact SeqAt.EqAt.bool_bool a b
    | int b => obtain ⟨t, rfl⟩ := rx; exact SeqAt.EqAt.bool_int a b t
    | str b => obtain ⟨t, rfl⟩ := rx; exact SeqAt.EqAt.bool_str a b t
    | _ => exact absurd (show false = true from fx) Bool.false_ne_true
  | int a =>
    obtain ⟨t', rfl⟩ := ry
    cases x with
    | non => cases rx; exact SeqAt.EqAt.int_none a t'
    | bl b => cases rx; exact SeqAt.EqAt.int_bool a t' b
    | int b => obtain ⟨t, rfl⟩ := rx; exact SeqAt.EqAt.int_int a t' b t
    | str b => obtain ⟨t, rfl⟩ := rx; exact SeqAt.EqAt.int_str a t' b t
    | _ => exact absurd (show false = true from fx) Bool.false_ne_true
  | str a =>
    obtain ⟨t', rfl⟩ := ry
    cases x with
    | non => cases rx; exact SeqAt.EqAt.str_none a t'
    | bl b => cases rx; exact SeqAt.EqAt.str_bool a t' b
    | int b => obtain ⟨t, rfl⟩ := rx; exact SeqAt.EqAt.str_int a t' b t
    | str b => obtain ⟨t, rfl⟩ := rx; exact SeqAt.EqAt.str_str a t' b t
    | _ => exact absurd (show false = true from fx) Bool.false_ne_true
  | _ => exact absurd (show false = true from fy) Bool.false_ne_true
/-- the items' answers, read off the values (a value's own answer does not lean on its token) -/
def eqU (x : V) (u : Value) : Bool := match u with
  | .none => eqV .non x
  | .bool b => eqV (.bl b) x
  | .int i _ => eqV (.int i) x
  | .str z _ => eqV (.str z) x
  | _ => false
def inV (x : V) (xs : List V) : Bool := xs.any fun y => eqV y x
/-- x in a list or tuple of flat items -/
def rIn (K : PySem.W.Frag) (neg : Bool) : R2 := fun x y H Q => ∃ p xs, y = .ref p ∧ (SqL K H p xs ∨ SqT K H p xs) ∧ flatV x = true ∧ xs.all flatV = true ∧ Q (.bl (if neg then !inV x xs else inV x xs)) H

/-! ### len, list(x), tuple(x) of any list or tuple that is read -/
theorem call_len_seq : CallR X (.builtin "len") (fun xs H Q => ∃ p ys, xs = [.ref p] ∧ (SqL X.K H p ys ∨ SqT X.K H p ys) ∧ Q (.int ys.length) H) := by
  intro pins s σ H xs us Q I r h
  obtain ⟨p, ys, rfl, hq, q⟩ := h
  obtain ⟨u, rfl, rx⟩ := vals1 r
  cases rx
  have hn := line63
  rcases hq with hq | hq
  · obtain ⟨its, r', pl, hz⟩ := I.list hq
    have hlen := r'.length
    exact Calls.call_len_list pl.isList (by simp only [List.size_toArray] <;> omega) ⟨.int ys.length, H, I.tok _, ⟨s.toks + 1, by rw [List.size_toArray, hlen]⟩, q⟩
  · obtain ⟨its, r', pl, hz⟩ := I.tuple hq
    have hlen := r'.length
    exact len_tuple pl (by simp only [List.size_toArray] <;> omega) ⟨.int ys.length, H, I.tok _, ⟨s.toks + 1, by rw [List.size_toArray, hlen]⟩, q⟩

/-! ### the call of a builtin's method: o.m(..) -/
/-- the value is of that builtin type -/
def tyV (K : PySem.W.Frag) (T : String) (x : V) (H : Hp) : Prop := match x with
  | .str _ => T = "str"
  | .int _ => T = "int"
  | .ref p => (T = "list" ∧ ∃ xs, SqL K H p xs) ∨ (T = "tuple" ∧ ∃ o, K.lookup p = some o ∧ o.cls = .type "tuple" ∧ o.dict = none) ∨
      (T = "dict" ∧ ((∃ kvs, H p = some (.dK kvs)) ∨ ∃ kvs, H p = some (.dT kvs))) ∨ (T = "set" ∧ ∃ S n, H p = some (.set S n))
  | _ => False
theorem tyV_is {pins : List (Addr × Obj)} {σ : St} {H : Hp} {s : Shared} {T : String} {x : V} {v : Value} (I : Inv X pins σ H s) (r : RelV x v) (ty : tyV X.K T x H) :
    s.TypeIs v T ∧ ∀ a, v = .ref a → ∃ ob, s.heap.get? a = some ob ∧ ob.dict = none := by
  cases x with
  | str z =>
    obtain ⟨t, rfl⟩ := r
    cases (show T = "str" from ty)
    exact ⟨typeIs_str s z t, fun _ e => nomatch e⟩
  | int i =>
    obtain ⟨t, rfl⟩ := r
    cases (show T = "int" from ty)
    exact ⟨typeIs_int s i t, fun _ e => nomatch e⟩
  | ref p =>
    cases r
    rcases ty with ⟨rfl, xs, hq⟩ | ⟨rfl, o, hk, hc, hd⟩ | ⟨rfl, hk⟩ | ⟨rfl, S, n, hk⟩
    · obtain ⟨its, _, pl, _⟩ := I.list hq
      refine ⟨pl.isList.typeIs, fun a e => ?_⟩
      cases e
      obtain ⟨o, n, e, c, hd, _⟩ := pl
      exact ⟨o, e, hd⟩
    · refine ⟨⟨o, I.kIn p o hk, hc⟩, fun a e => ?_⟩
      cases e
      exact ⟨o, I.kIn _ o hk, hd⟩
    · have z : ∃ o, s.heap.get? p = some o ∧ o.ExactDict := by
        rcases hk with ⟨kvs, hk⟩ | ⟨kvs, hk⟩
        · obtain ⟨_, _, _, _, o, _, _, e, ex, _⟩ := I.hok p _ hk
          exact ⟨o, e, ex⟩
        · obtain ⟨_, _, _, _, o, _, _, e, ex, _⟩ := I.hok p _ hk
          exact ⟨o, e, ex⟩
      obtain ⟨o, e, ex⟩ := z
      refine ⟨⟨o, e, ex.1⟩, fun a e2 => ?_⟩
      cases e2
      exact ⟨o, e, ex.2.1⟩
    · obtain ⟨o, _, _, _, e, ex, _⟩ := I.hok p _ hk
      refine ⟨⟨o, e, ex.1⟩, fun a e2 => ?_⟩
      cases e2
      exact ⟨o, e, ex.2.1⟩
  | _ => exact False.elim ty
def tBM0 (K : PySem.W.Frag) (T : String) (r : V → List V → Hp → VK → Prop) (to : TE) : TE := fun σ H Q => to σ H fun x H1 => tyV K T x H1 ∧ r x [] H1 Q
def tBM (K : PySem.W.Frag) (T : String) (r : V → List V → Hp → VK → Prop) (to : TE) (t : TA) : TE := fun σ H Q => to σ H fun x H1 => tyV K T x H1 ∧ t σ H1 fun xs H2 => r x xs H2 Q
variable {o e : Expr} {es : List Expr} {to : TE} {t : TA} {name : Str} {apos cpos : Pos} {T id : String} {r : V → List V → Hp → VK → Prop}
theorem pe_bm (pa : PlainAttrs T) (slot : Slot T name id) (hty : typeOf (.builtin id) = pure (.type "method_descriptor")) (hm : MtR X id r) (ho : PE X o to) (ha : PA X (e :: es) t)
    (hbase : attributeBase o name X.env (eval o X.env) = eval o X.env := by rfl)
    (hfew : ((backTo cpos (starEach (e :: es) X.env)).all (fun x => !x.1) && (backToKw cpos (keywordEach [] X.env)).all (fun x => x.1.isSome)
      && decide ((e :: es).length + ([] : List Keyword).length + (if ([] : List Keyword).isEmpty then 0 else 1) < 30)) = true := by rfl)
    (hline : (apos.endLine == cpos.line) = true := by rfl) (hs : starEach (e :: es) X.env = (false, eval e X.env) :: starEach es X.env := by rfl) (hplain : (backTo cpos (starEach es X.env)).any (·.1) = false := by rfl) :
    PE X (.Call (.Attribute o name apos) (e :: es) [] cpos) (tBM X.K T r to t) := by
  intro pins s σ H Q I h
  refine wpAny_Call_method_late hbase hfew hline rfl (thn (ho pins s σ H _ I h) fun v s1 ⟨x, H1, I1, r1, ty, q1⟩ => ?_)
  obtain ⟨h1, h2⟩ := tyV_is I1 r1 ty
  refine ⟨T, id, pa, slot, hty, h1, h2, ?_⟩
  have hA := ha cpos pins s1 σ H1 _ I1 q1
  rw [hs] at hA ⊢
  refine Calls.callWith_builtin (by show (false || (backTo cpos (starEach es X.env)).any (·.1)) = false; rw [hplain] <;> rfl) (Calls.evalArgs_plain ?_)
  exact thn hA fun us s2 ⟨vs, H2, I2, r2, q2⟩ => hm pins s2 σ H2 x vs v us Q I2 r1 r2 q2
/- xs.append(e), list.index on a module's tuple .. are MtR facts of 06m -/
end
end L2

namespace L2
open PySem PySem.Spec PyProof.Rows

def MtM (X : Cx) (id : String) (r : V → List V → Hp → VK → Prop) : Prop :=
  ∀ (pins : List (Addr × Obj)) (s : Shared) (σ : St) (H : Hp) (x : V) (xs : List V) (v : Value) (us : List Value) (Q : VK), Inv X pins σ H s → RelV x v → Vals xs us → r x xs H Q →
    wpAny (model X.prog X.w) X.A (call (.builtin id) (v :: us)) (EP X pins σ Q) X.xe s

/-! ### lists of values -/
theorem Vals.one : ∀ {x : V} {us : List Value}, Vals [x] us → ∃ u, us = [u] ∧ RelV x u
  | _, _, .cons r .nil => ⟨_, rfl, r⟩

section
variable {X : Cx} {pins : List (Addr × Obj)} {σ : St} {H : Hp} {s : Shared} {l b : Addr} {xs ys zs : List V}

/-! ### the two steps: a tracked list is rewritten, a new list is laid -/
theorem Inv.lset {its its' : List Value} {n : Nat} {f : Array Value → Array Value} {t' : Nat} (I : Inv X pins σ H s) (hH : H l = some (.lst xs))
    (e : s.heap.get? l = some { cls := .type "list", data := .seq its.toArray n }) (hf : f its.toArray = its'.toArray) (hv : Vals ys its') (hz : ys.length ≤ sizeLine) :
    Inv X pins σ (upd H l (.lst ys)) { s with heap := s.heap.update l (Obj.mapSeq f), toks := t' } := by
  have q := PySem.IsL.update e f
  rw [hf] at q
  refine I.write (x := l) (e := l) (by rw [hH]; exact trivial) (.inl rfl) (fun b' u hb hu => (Heap.get?_update_other s.heap (Obj.mapSeq f) (Ne.symm hb)).trans hu) ⟨_, q⟩ ?_
  exact ⟨hz, its', _, hv, q⟩
theorem Inv.lstM (I : Inv X pins σ H s) (hH : H l = some (.lst xs)) : xs.length ≤ sizeLine ∧ ∃ (its : List Value) (n : Nat), Vals xs its ∧ xs.length = its.length ∧ s.heap.get? l = some { cls := .type "list", data := .seq its.toArray n } := by
  obtain ⟨z, its, n, r, e⟩ := I.hok l _ hH
  exact ⟨z, its, n, r, r.length, e⟩

end

section
variable {X : Cx}

/-! ### methods -/
def rAppend : V → List V → Hp → VK → Prop := fun x vs H Q => ∃ l xs y, x = .ref l ∧ vs = [y] ∧ H l = some (.lst xs) ∧ xs.length < sizeLine ∧ Q .non (upd H l (.lst (xs ++ [y])))
theorem mt_append : MtM X "list.append" rAppend := by
  intro pins s σ H x vs v us Q I rx rv h
  obtain ⟨l, xs, y, rfl, rfl, hH, hz, q⟩ := h
  cases rx
  obtain ⟨u, rfl, ru⟩ := rv.one
  obtain ⟨z, its, n, r, hl, e⟩ := I.lstM hH
  refine call_meets F.slot_list_append ⟨_, e, rfl⟩ F.entry_list_append (F.args_list_append_2 _ _) (PySem.list_append l its.toArray n u (by rw [List.size_toArray]; omega)) ⟨e, ?_⟩
  refine ⟨.non, _, I.lset (its' := its ++ [u]) hH e (by simp) (r.append (.cons ru .nil)) ?_, rfl, q⟩
  rw [List.length_append, List.length_singleton]
  omega

def rExtend : V → List V → Hp → VK → Prop := fun x vs H Q => ∃ l b xs zs, x = .ref l ∧ vs = [.ref b] ∧ H l = some (.lst xs) ∧ H b = some (.lst zs) ∧ xs.length + zs.length ≤ sizeLine ∧ Q .non (upd H l (.lst (xs ++ zs)))

def rPop : V → List V → Hp → VK → Prop := fun x vs H Q => ∃ l xs y, x = .ref l ∧ vs = [] ∧ H l = some (.lst xs) ∧ xs[xs.length - 1]? = some y ∧ Q y (upd H l (.lst xs.dropLast))

def rPopAt : V → List V → Hp → VK → Prop := fun x vs H Q => ∃ l xs i k y, x = .ref l ∧ vs = [.int i] ∧ H l = some (.lst xs) ∧ -(2 ^ 63) ≤ i ∧ i < 2 ^ 63 ∧ seqIndex? i xs.length = some k ∧ xs[k]? = some y ∧ Q y (upd H l (.lst (xs.eraseIdx k)))

def rReverse : V → List V → Hp → VK → Prop := fun x vs H Q => ∃ l xs, x = .ref l ∧ vs = [] ∧ H l = some (.lst xs) ∧ Q .non (upd H l (.lst xs.reverse))

def rClear : V → List V → Hp → VK → Prop := fun x vs H Q => ∃ l xs, x = .ref l ∧ vs = [] ∧ H l = some (.lst xs) ∧ Q .non (upd H l (.lst []))

/-! ### list + list, list += list, list * int -/
def rCat : R2 := fun x y H Q => ∃ l b xs zs, x = .ref l ∧ y = .ref b ∧ H l = some (.lst xs) ∧ H b = some (.lst zs) ∧ xs.length + zs.length ≤ sizeLine ∧ ∀ p, H p = none → Q (.ref p) (upd H p (.lst (xs ++ zs)))
/-- a list times an int (a negative one is nothing) -/
def rRep : R2 := fun x y H Q => ∃ l k xs, x = .ref l ∧ y = .int k ∧ H l = some (.lst xs) ∧ -(2 ^ 63) ≤ k ∧ k < 2 ^ 63 ∧ xs.length * k.toNat ≤ sizeLine ∧
  ∀ p, H p = none → Q (.ref p) (upd H p (.lst (List.replicate k.toNat xs).flatten))

/-! ### del xs[i] -/
end

/-! ### xs[a:b] = ys -/
section
variable {prog : Program} {w : World} {A : Around} {E : Value → Shared → Prop} {s : Shared}
end

section
variable {X : Cx}
end
end L2

namespace Att
open PySem PySem.W PySem.Calls PyProof.Rows

/-! ### the script -/
theorem ints_of_wellAll {P : Params} {h : Heap} : ∀ (ns : List Int) (vs : List Value), WellAll P h vs (ns.map WData.int) → IntsAre vs ns := by
  intro ns
  induction ns with
  | nil =>
    intro vs w
    rw [List.map_nil] at w
    cases w
    exact .nil
  | cons n ns ih =>
    intro vs w
    rw [List.map_cons] at w
    cases w with
    | cons a b =>
      cases a
      exact .cons _ _ (ih _ b)

theorem script_of {l : OpenLaw} {n : Nat} (hn : l.most = some n) {P : Params} {h : Heap} {args : List WData} {vals : List Value}
    (hpre : l.row.toRowW.claim.pre args = true) (hwl : WellAll P h vals args) :
    ∃ a vs ns, vals = [Value.ref a] ∧ args = [WData.list (ns.map WData.int)] ∧ h.get? a = some { cls := .type "list", data := .seq vs.toArray } ∧ IntsAre vs ns ∧ ns.length ≤ n := by
  have hsh : WShape.hasAll [] args [.list .int] = true := (pre_splitW hpre).1
  have hc : l.pre.holds [] { args := args } = true := (pre_splitW hpre).2
  obtain ⟨d, r, rfl, h1, h2⟩ := hasAllW_cons hsh
  obtain rfl := hasAllW_nil h2
  obtain ⟨xs, rfl, h3⟩ := hasW_list h1
  obtain ⟨ns, rfl⟩ := items_int h3
  have hlen : ns.length ≤ n := by
    unfold OpenLaw.pre at hc
    have h4 : (WTm.not (.lt (.lit (.int (n : Int))) (.len (.arg 0)))).holds [] { args := [.list (ns.map .int)] } = true := by
      have h4 := (holds_andW hc).1
      rw [hn] at h4
      exact h4
    have h5 := condW_of h4 (w_not (w_lt w_lit (w_len_list (w_arg rfl))))
    rw [List.length_map] at h5
    refine Nat.le_of_not_lt fun q => ?_
    have q' : (n : Int) < ((ns.length : Nat) : Int) := by omega
    first
      | (rw [decide_eq_true q'] at h5; exact absurd h5 (by decide))
      | (simp at h5; omega)
  cases hwl with
  | cons w1 w2 =>
    cases w2
    cases w1 with
    | list ho hall => exact ⟨_, _, ns, rfl, rfl, ho, ints_of_wellAll ns _ hall, hlen⟩

theorem post_true (l : OpenLaw) (args : List WData) : l.row.toRowW.claim.post args (.bool true) args = true :=
  postW_of (r := l.row.toRowW) (X := (true == true))
    (show WShape.has [] (.bool true) .bool = true by first | rfl | decide | simp [WShape.has, WShape.arms, WShape.armsAll])
    (show (WTm.eq .res (.lit (.bool true))).value [] { args := args, res := some (.bool true), after := args } = some (.bool (true == true)) from w_eq_bool (w_res rfl) w_lit) rfl

/-! ### the attachment: holds_open's last premise (the goal 'hc' behind k_head) from a wpAny of the law's body -/



/-! ### rules over ANY heap (no ledger) from facts about the written part K: the library's own take a ledger (News) for what they write -/
section
variable {prog : Program} {w : World} {A : Around} {E : Value → Shared → Prop} {s : Shared} {K : Frag}





/-! the whole heap as the ledger: makes every rule that writes through a ledger a rule over any heap -/
def noObjs (h : Heap) : Heap := { h with objs := #[] }
def ledger (h : Heap) (L d : Addr) : List (Addr × Obj) := (List.range h.objs.size).filterMap fun a => if a = L ∨ a = d then none else (h.get? a).map fun o => (a, o)

end
end Att

namespace L2
open PySem PySem.Spec PyProof.Rows

theorem vals_ints : ∀ {vs : List Value} {ns : List Int}, IntsAre vs ns → Vals (ns.map V.int) vs
  | _, _, .nil => .nil
  | _, _, .cons n t h => .cons ⟨t, rfl⟩ (vals_ints h)

/-- nothing is tracked but the script, known to the object (or it is an object of the module) -/
def Only (H : Hp) : Prop := ∀ b, H b = none ∨ ∃ o xs, H b = some (.frz o (.lst xs))

/-- THE HEAD: the law's promise, at the heap behind the top. F, the promise of the law's def, may use that base is part of the heap (so K.In base, base.Ns mainGlobals mg stand in Mod) -/
theorem law_call {P : Program} {w : World} {K : PySem.W.Frag} {mg mb : Str → Option Value} {CX : CXT} {k : Nat} {fa a : Addr} {fd : FuncData} {x : Str} {sp : Sp} {s₁ : Shared} {vs : List Value} {ns : List Int}
    (KX : K.In s₁.heap) (hns : s₁.heap.Ns mainGlobals mg) (hb : s₁.heap.Ns builtinsNs mb) (hbb : ∀ x : Str, x ≠ "__name__" → mb x = bootBuiltins x) (hlim : s₁.heap.NoLimit) (hg : s₁.gens = #[])
    (ha : s₁.heap.get? a = some { cls := .type "list", data := .seq vs.toArray }) (hi : IntsAre vs ns) (hl : ns.length ≤ sizeLine) (hr : Room k callerA)
    (F : ∀ base : Heap, K.In base → base.Ns mainGlobals mg → FnOk P w K mg base CX k fa fd [x] sp) (hbind : ∀ (s : Shared) (u : Value), BindsTo s fd ⟨[u], []⟩ [(x, u)])
    (hsp : ∀ H : Hp, Only H → SqL K H a (ns.map V.int) → sp [.ref a] H (fun v _ => v = .bl true) fun _ _ _ => False)
    (hCX : ∀ H e s', CX [] H s₁ (fun _ _ _ => False) e s' → False) :
    codeAny (model P w) callerA (.call (.ref fa) ⟨[.ref a], []⟩) (fun r s' => r = .ok (.ret (.bool true)) ∧ OldK s₁.heap s'.heap ∧ s'.os = s₁.os ∧ AllBare s'.gens) s₁ := by
  have rv := vals_ints hi
  have lenV := hi.length
  -- from an abstract heap in which nothing but the script may be tracked
  have core : ∀ H : Hp, Only H → SqL K H a (ns.map V.int) → HOk P w H s₁.heap → (∀ b, H b ≠ none → b = a) → (H a ≠ none → K.lookup a = none) →
      codeAny (model P w) callerA (.call (.ref fa) ⟨[.ref a], []⟩) (fun r s' => r = .ok (.ret (.bool true)) ∧ OldK s₁.heap s'.heap ∧ s'.os = s₁.os ∧ AllBare s'.gens) s₁ := by
    intro H hO hS hok hA hK
    have base_of : ∀ {b : Addr} {o : Obj}, s₁.heap.get? b = some o → H b = none → (hidT s₁.heap H).get? b = some o := fun e n => hidT_get e n
    have noA : ∀ {b : Addr} {o : Obj} {es : Array DictEntry} {ep : Nat}, s₁.heap.get? b = some o → o.data = .dict es ep → H b = none := fun {b o es ep} e d => by
      cases q : H b with
      | none => rfl
      | some u =>
        have e' : b = a := hA b (by rw [q]; simp)
        subst e'
        rw [ha] at e; cases e
        have d' : Data.seq vs.toArray _ = Data.dict es ep := d
        cases d'
    have nsK : ∀ {b : Addr} {m : Str → Option Value}, s₁.heap.Ns b m → (hidT s₁.heap H).Ns b m := fun {b m} ⟨o, es, ep, e, d, r⟩ => ⟨o, es, ep, base_of e (noA e d), d, r⟩
    have hKb : K.In (hidT s₁.heap H) := fun b o e => base_of (KX b o e) (by
      cases q : H b with
      | none => rfl
      | some u =>
        have e' : b = a := hA b (by rw [q]; simp)
        subst e'
        rw [hK (by rw [q]; simp)] at e; cases e)
    have hM : Mod K mg (hidT s₁.heap H) := ⟨hKb, nsK hns, ⟨mb, nsK hb, hbb⟩, let ⟨mc, h1, h2⟩ := hlim; ⟨mc, nsK h1, h2⟩⟩
    have e0 : Env0 P w K mg (hidT s₁.heap H) callerA [] s₁ H := ⟨rfl, hM, fun b o e => of_hidT e, Nat.le_of_eq (hidT_size _ _), trivial, fun b hb => absurd (show b ∈ ([] : List Addr) from hb) (by simp), hok, .of_eq hg⟩
    refine codeAny_mono ((F _ hKb (nsK hns)).run callerA [] s₁ H ⟨[.ref a], []⟩ [.ref a] [.ref a] _ _ hr e0 (hbind s₁ (.ref a)) (.cons rfl .nil) (hsp H hO hS)) fun r s' h => ?_
    cases r with
    | error e => exact (hCX H e s' h).elim
    | ok fl =>
      cases fl with
      | next => exact False.elim h
      | brk => exact False.elim h
      | cont => exact False.elim h
      | ret u =>
        obtain ⟨v, H', os, bare, un, hok', r', q⟩ := h
        have q' : v = .bl true := q
        subst q'
        obtain rfl : u = Value.bool true := r'
        refine ⟨rfl, OldK.of_keep fun b o e => ?_, os, bare⟩
        cases q : H b with
        | none => exact un.keep b o e q (by intro z; exact absurd (show b ∈ ([] : List Addr) from z) (by simp)) (by simp)
        | some u =>
          rcases hO b with z | ⟨ob, xs, z⟩
          · rw [q] at z; cases z
          · have z2 := un.frzs b ob _ z
            obtain ⟨e1, _⟩ := hok b _ z
            obtain ⟨e2, _⟩ := hok' b _ z2
            rw [e] at e1; cases e1
            exact e2
  cases hk : K.lookup a with
  | some o =>
    -- the script is one of the module's own objects
    have e := KX a o hk
    rw [ha] at e
    cases e
    refine core (fun _ => none) (fun _ => .inl rfl) (.inr ⟨_, vs.toArray, _, hk, rfl, rfl, rfl, by rw [List.size_toArray, lenV]; exact hl, by simpa using rv⟩) (fun b u z => by have z' : (none : Option HO) = some u := z; cases z') (fun b z => absurd rfl z) fun z => absurd rfl z
  | none =>
    refine core (fun b => if b = a then some (.frz { cls := .type "list", data := .seq vs.toArray } (.lst (ns.map V.int))) else none) (fun b => ?_) (.inl (.inr ⟨{ cls := .type "list", data := .seq vs.toArray }, if_pos rfl⟩)) (fun b u z => ?_) (fun b z => ?_) fun _ => hk
    · by_cases hb : b = a
      · exact .inr ⟨_, _, if_pos hb⟩
      · exact .inl (if_neg hb)
    · by_cases hb : b = a
      · have z' := (if_pos hb).symm.trans z
        cases z'
        subst hb
        exact ⟨ha, by rw [List.length_map]; exact hl, vs, _, rv, ha⟩
      · have z' := (if_neg hb).symm.trans z
        cases z'
    · by_cases hb : b = a
      · exact hb
      · exact absurd (if_neg hb) z
end L2

namespace L2
open PySem PySem.Spec PyProof.Rows

abbrev KOf {K : PySem.W.Frag} {h : Heap} (_ : K.In h) : PySem.W.Frag := K

end L2

/- THE LAST THEOREM (shape; LID, My.* are yours):
   My.Adr: a structure of the addresses that your layer names (classes, functions); My.Txt K t: a structure (Prop) of the equations over K;
   My.txt_mk : {K} {implicit addresses ..} (e1 : nsIn K mainGlobals "law" = some (some (.ref f))) (e2 : K.lookup f = some ⟨oc, od, .func (fnOf "law" "law" params body scope dV kV doc pm an cdv ct), sl⟩) (e3 : codeIn K cdv "law" = true) .. : ∃ t, My.Txt K t

(the tactic k_is has no namespace: write k_is) -/

/-! SHORT WORDS over the layer: a def of the text, its body, what a loop and a test want. -/
namespace L2
open PySem PySem.Spec PyProof.Rows

/-! ### the text by places -/
/-- the j-th statement of a class's body -/
def inClass (s : Stmt) (j : Nat) : Stmt := match s with
  | .ClassDef _ _ _ body _ _ _ _ _ _ _ => body.getD j (.Pass ⟨0, 0, 0, 0⟩)
  | _ => .Pass ⟨0, 0, 0, 0⟩
def defArgs (s : Stmt) : Arguments := match s with
  | .FunctionDef _ a _ _ _ _ _ _ _ _ => a
  | _ => { posonlyargs := [], args := [], vararg := none, kwonlyargs := [], kw_defaults := [], kwarg := none, defaults := [] }
def defBody (s : Stmt) : List Stmt := match s with
  | .FunctionDef _ _ b _ _ _ _ _ _ _ => b
  | _ => []
def defScope (s : Stmt) : Scope := match s with
  | .FunctionDef _ _ _ _ _ _ sc _ _ _ => sc
  | _ => { kind := .function, names := [], isGenerator := false, isCoroutine := false }

/-! ### no exception leaves a def -/
abbrev CX0 : CXT := fun _ _ _ _ _ _ => False
abbrev E0 : XK := fun _ _ _ => False
theorem pass0 {X : Cx} : Passes CX0 X E0 := fun _ _ _ _ _ _ _ h => h.elim

/-! ### a def (or method) of the text as it stands behind the top -/
structure Fun (K : PySem.W.Frag) (x qual : Str) (st : Stmt) (f : Addr) (fd : FuncData) : Prop where
  ex : ∃ (oc : Value) (od : Option Addr) (kV doc pm : Value) (an : Option Addr) (cdv ct : Value) (osl : Array (Option Value)),
    fd = PySem.W.fnOf x qual (defArgs st) (defBody st) (defScope st) .none kV doc pm an cdv ct ∧ K.lookup f = some ⟨oc, od, .func fd, osl⟩ ∧ PySem.W.codeIn K cdv qual = true
  kp : PySem.W.keepIn K (.ref f) = true
section
variable {P : Program} {w : World} {K : PySem.W.Frag} {mg : Str → Option Value} {base : Heap}
/-- THE RULE for a def: its body as a term of rules, and the reading of that term -/
theorem Fun.ok {x qual : Str} {st : Stmt} {f : Addr} {fd : FuncData} {N ps : List Str} {k : Nat} {sp : Sp} (F : Fun K x qual st f fd) (S : FnScope N ps (defScope st)) (len : ∀ vs H Q E, sp vs H Q E → vs.length = ps.length)
    (hbody : ∀ (cdv : Value) (A : Around) (outer : List Env) (s : Shared) (H : Hp) (vs : List V) (Q : VK) (E : XK), Room k (A.deeper (envOfC qual (defScope st) s.heap.objs.size f cdv)) → sp vs H Q E →
      ∃ t, PSs (cxOf CX0 P w K mg base N qual (defScope st) f cdv A outer s H E).nox (defBody st) t ∧ t { nx := fun _ H' => Q .non H', rt := Q } (start N vs) H) : FnOk P w K mg base CX0 (k + 1) f fd ps sp := by
  obtain ⟨oc, od, kV, doc, pm, an, cdv, ct, osl, rfl, lk, hcd⟩ := F.ex
  refine fn_of lk hcd S len fun A outer s H vs Q E hr hsp => ?_
  obtain ⟨t, h, q⟩ := hbody cdv A outer s H vs Q E hr hsp
  exact ⟨t, h.nox, q⟩
/-- how its arguments bind (no defaults): h is «fun _ _ _ _ _ _ us hl => match us, hl with | [_, _], _ => rfl», one _ a parameter -/
theorem Fun.binds {x qual : Str} {st : Stmt} {f : Addr} {fd : FuncData} {ps : List Str} (F : Fun K x qual st f fd)
    (h : ∀ (kV doc pm : Value) (an : Option Addr) (cdv ct : Value) (us : List Value), us.length = ps.length → bindArgs (PySem.W.fnOf x qual (defArgs st) (defBody st) (defScope st) .none kV doc pm an cdv ct) ⟨us, []⟩ = pure (ps.zip us)) : Binds K fd ps [] := by
  obtain ⟨oc, od, kV, doc, pm, an, cdv, ct, osl, rfl, lk, hcd⟩ := F.ex
  exact .all (h kV doc pm an cdv ct)
theorem fun_mk {x qual : Str} {st : Stmt} {f : Addr} {oc : Value} {od an : Option Addr} {osl : Array (Option Value)} {kV doc pm cdv ct : Value} (l : K.lookup f = some ⟨oc, od, .func (PySem.W.fnOf x qual (defArgs st) (defBody st) (defScope st) .none kV doc pm an cdv ct), osl⟩)
    (c : PySem.W.codeIn K cdv qual = true) (k : PySem.W.keepIn K (.ref f) = true) : Fun K x qual st f (PySem.W.fnOf x qual (defArgs st) (defBody st) (defScope st) .none kV doc pm an cdv ct) := ⟨⟨oc, od, kV, doc, pm, an, cdv, ct, osl, rfl, l, c⟩, k⟩
end

/-! ### expressions in short: the name that stands in the i-th slot -/
section
variable {X : Cx}
theorem pv (i : Nat) {x : Str} {pos : Pos} (hN : X.N[i]? = some x := by rfl) (hv : Vis X.env.scope x := by first | exact Or.inl rfl | exact Or.inr (Or.inl rfl) | exact Or.inr (Or.inr rfl)) (hd : (x == ("__debug__" : Str)) = false := by decide)
    (hcd : (x == ("__classdict__" : Str)) = false := by decide) : PE X (.Name x pos) (tVar i) := pe_var hN hv hd hcd
end

/-! ### tests -/
theorem iteF {A B : Prop} (h : B) : if false = true then A else B := by
  rw [if_neg Bool.false_ne_true]
  exact h
theorem iteT {A B : Prop} (h : A) : if true = true then A else B := by
  rw [if_pos rfl]
  exact h
theorem ite2 {c A B : Prop} [Decidable c] (h1 : c → A) (h2 : ¬ c → B) : if c then A else B := by
  by_cases h : c
  · rw [if_pos h]
    exact h1 h
  · rw [if_neg h]
    exact h2 h
theorem iteNS {c A B : Prop} [Decidable c] (hc : c) (h : B) : if (!decide c) = true then A else B := by
  rw [decide_eq_true hc]
  exact iteF h

/-! ### heaps -/
/-- all that was tracked is as it was -/
def Same (H H' : Hp) : Prop := ∀ b o, H b = some o → H' b = some o
theorem Same.refl (H : Hp) : Same H H := fun _ _ h => h
theorem Same.trans {H H1 H2 : Hp} (a : Same H H1) (b : Same H1 H2) : Same H H2 := fun c o h => b c o (a c o h)
theorem Same.seq {K : PySem.W.Frag} {H H' : Hp} {a : Addr} {xs : List V} (e : Same H H') (h : SqL K H a xs) : SqL K H' a xs := by
  rcases h with (h | ⟨o, h⟩) | h
  · exact .inl (.inl (e _ _ h))
  · exact .inl (.inr ⟨o, e _ _ h⟩)
  · exact .inr h

end L2

set_option maxHeartbeats 4000000
set_option exponentiation.threshold 300
/-! ### MORE RULES: products and quotients of long numbers, isinstance, a list comprehension of one clause -/
namespace L2
open PySem PySem.Spec PyProof.Rows
section
variable {X : Cx}
theorem bits_le {k : Int} {n : Nat} (h : k.natAbs < 2 ^ n) : Builtin.Int.intBits k ≤ n := by
  unfold Builtin.Int.intBits
  split
  · exact Nat.zero_le _
  · rename_i h0
    have hz : k.natAbs ≠ 0 := by
      intro z
      apply h0
      have : k = 0 := by omega
      simp [this]
    have : k.natAbs.log2 < n := (Nat.log2_lt hz).mpr h
    omega
/-- both below 2 ^ 9000 -/
def CMulB (i j : Int) : Prop := i.natAbs < 2 ^ 9000 ∧ j.natAbs < 2 ^ 9000
theorem CMulB.ok {i j : Int} (h : CMulB i j) : IntMulOk i j := by
  refine IntMulOk.of_bits (Nat.le_trans (bits_le h.1) (by decide)) (Nat.le_trans (bits_le h.2) (by decide))
theorem op_mulB : OpR X (binaryOp .Mult) (rI CMulB fun i j => .int (i * j)) := opI fun _ _ _ _ _ _ _ hc q => mul_int q hc.ok
def CDivB (_ j : Int) : Prop := j ≠ 0 ∧ j.natAbs < 2 ^ 9000
theorem CDivB.ok {i j : Int} (h : CDivB i j) : Builtin.divisionGoesByPylong i j = false :=
  PyProof.noPylong_of_log2 ((Nat.log2_lt (by have := h.1; omega)).mpr h.2)
theorem op_fdivB : OpR X (binaryOp .FloorDiv) (rI CDivB fun i j => .int (i.fdiv j)) := opI fun _ _ _ _ _ _ _ hc q => floordiv_int hc.1 q (.inl hc.ok)

/-- isinstance(x, c), the class c a value of the text or of the machine -/
def rIsI (K : PySem.W.Frag) (c : Value) : List V → Hp → VK → Prop := fun vs H Q => ∃ x y t b, vs = [x, y] ∧ (∀ u, RelV y u → u = c) ∧ TyOf K H x t ∧ PySem.W.kitOne K t c = some b ∧ Q (.bl b) H
theorem call_isI {c : Value} : CallR X (.builtin "isinstance") (rIsI X.K c) := by
  intro pins s σ H xs us Q I r h
  obtain ⟨x, y, t, b, rfl, hc, ty, e, q⟩ := h
  cases r with
  | cons r1 r2 =>
    cases r2 with
    | cons r3 r4 =>
      cases r4
      have := hc _ r3
      subst this
      exact isinst_ok I r1 ty e fun tk => ⟨.bl b, H, I.tok tk, rfl, q⟩
end

/-! ### a list comprehension -/
section
variable {X : Cx}

/-- the block's context -/
def cxComp (X : Cx) (pins : List (Addr × Obj)) (N' : List Str) (scope : Scope) (cl : List (Str × Addr)) (C : Addr) (fp : List Addr) (s : Shared) (H : Hp) : Cx :=
  { X with N := N', s₀ := s, H₀ := H, env := compEnvC scope cl C X.env, outer := X.stack, stack := X.stack, ex := fp, fn := fun _ => false, pn := X.pn ++ pins, xe := fun _ _ => False }
/-- the cells that the block sees -/
structure Clos (X : Cx) (scope : Scope) (cl : List (Str × Addr)) : Prop where
  clos : closureFor scope X.env = pure cl
  sub : ∀ y c, cl.lookup y = some c → X.env.cells.lookup y = some c
  has : ∀ y, ((relabel scope X.env).names.lookup y = some .cell ∨ (relabel scope X.env).names.lookup y = some .free) → ∃ c, cl.lookup y = some c

/-- what the block reads of the frame: the names behind the first are cells of the frame's -/
def Reads (X : Cx) (scope : Scope) (rest : List Str) (sel : St → St) : Prop :=
  ∀ σ, (sel σ).length = rest.length ∧ ∀ (i : Nat) (y : Str) (v : V), rest[i]? = some y → (sel σ)[i]? = some (some v) → ∃ j : Nat, X.N[j]? = some y ∧ σ[j]? = some (some v) ∧ X.env.scope.names.lookup y = some .cell ∧ (relabel scope X.env).names.lookup y = some .cell

/-- the reading: x, the clause's name, stands first -/
def tComp (wi : TI) (te : TE) (sel : St → St) : TE := fun σ H Q => wi σ H fun J H1 => ∀ l, H1 l = none → ∃ W : Nat → Nat → Hp → Prop, (∃ m, W 0 m (upd H1 l (.lst []))) ∧ ∀ i m H, W i m H →
  (J.stop i H ∧ Q (.ref l) H) ∨ (J.go i H ∧ ∀ x H', J.yld i H x H' → te (some x :: sel σ) H' fun y H2 => ∃ ys, H2 l = some (.lst ys) ∧ ys.length < sizeLine ∧ ∃ m', m' < m ∧ W (i + 1) m' (upd H2 l (.lst (ys ++ [y]))))



end
end L2
namespace L2
open PySem PySem.Spec PyProof.Rows
theorem ifV {k m : Int} {A B : Prop} (h1 : k = m → A) (h2 : k ≠ m → B) : if decide (V.int k = V.int m) = true then A else B := by
  by_cases h : k = m
  · rw [if_pos (by rw [h]; exact decide_eq_true rfl)]
    exact h1 h
  · rw [if_neg (by rw [decide_eq_false (by intro z; exact h (V.int.inj z))]; decide)]
    exact h2 h
theorem ifB {c A B : Prop} [Decidable c] (h1 : c → A) (h2 : ¬ c → B) : if decide c = true then A else B := by
  by_cases h : c
  · rw [if_pos (decide_eq_true h)]
    exact h1 h
  · rw [if_neg (by rw [decide_eq_false h]; decide)]
    exact h2 h
theorem iteC {c : Bool} {A B : Prop} (h : c = true) (a : A) : if c = true then A else B := by
  rw [if_pos h]
  exact a
theorem iteD {c : Bool} {A B : Prop} (h : c = false) (b : B) : if c = true then A else B := by
  rw [if_neg (by rw [h]; decide)]
  exact b
theorem neV {k m : Int} (h : k ≠ m) : decide (V.int k = V.int m) = false := decide_eq_false (by intro z; exact h (V.int.inj z))
end L2
namespace L2
open PySem PySem.Spec PyProof.Rows
section
variable {X : Cx} {st : Stmt} {rest : List Stmt} {t u : TS}
/-- a statement, what holds behind it, the rest -/
def tCut (t u : TS) : TS := fun D σ H => ∃ M : St → Hp → Prop, t { D with nx := M } σ H ∧ ∀ σ' H', M σ' H' → u D σ' H'
theorem pss_cut (h1 : PS X st t) (h2 : PSs X rest u) : PSs X (st :: rest) (tCut t u) := by
  intro pins s σ H D I ⟨M, h, hM⟩
  refine wpAny_execs_cons (thn (h1 pins s σ H { D with nx := M } I h) fun f s1 q => ?_)
  cases f with
  | next =>
    obtain ⟨σ', H', I', q⟩ := q
    exact h2 pins s1 σ' H' D I' (hM σ' H' q)
  | ret v => exact q
  | brk => exact q
  | cont => exact q
end
def rLen (K : PySem.W.Frag) : List V → Hp → VK → Prop := fun xs H Q => ∃ p ys, xs = [.ref p] ∧ (SqL K H p ys ∨ SqT K H p ys) ∧ Q (.int ys.length) H
theorem call_lenK {X : Cx} : CallR X (.builtin "len") (rLen X.K) := call_len_seq
end L2
/-! ### exceptions: how they leave a frame -/
namespace L2
open PySem
/-- the trail of an exception: none yet, or its record T, not in flight -/
def Trail (h : Heap) (e : Addr) (vs : Array Value) : Option Addr → Prop
  | none => vs[1]? = some .none
  | some T => vs[1]? = some (.ref T) ∧ T ≠ e ∧ ∃ oT ts, h.get? T = some oT ∧ oT.data = .fields ts ∧ ts[3]? = some .none
/-- what the passing of an exception changes: its own record, its trail, slots of frames -/
structure Noted (l : List Env) (e : Addr) (oe : Obj) (vs : Array Value) (tr : Option Addr) (h h' : Heap) : Prop where
  exc : ∃ vs' T, h'.get? e = some { oe with data := .fields vs' } ∧ vs'[0]? = vs[0]? ∧ h.objs.size ≤ T ∧ Trail h' e vs' (some T)
  keep : ∀ b o, b ≠ e → tr ≠ some b → b ∉ l.filterMap (·.frame) → h.get? b = some o → h'.get? b = some o
  slot : ∀ b o, b ≠ e → tr ≠ some b → b ∈ l.filterMap (·.frame) → h.get? b = some o → ∃ sl, h'.get? b = some { o with slots := sl }
section
variable {M : Model} {A : Around} {E : Value → Shared → Prop} {s : Shared} {base : Heap} {env : Env} {outer : List Env} {L e : Addr} {oe : Obj} {vs : Array Value} {Q : Unit → Shared → Prop}
end
end L2
/-! ### exceptions: the state in which one is on its way -/
namespace L2
open PySem PySem.Spec PyProof.Rows
section
variable {P : Program} {w : World} {H : Hp} {h : Heap} {a : Addr} {o : HO}
end
section
variable {X : Cx} {pins : List (Addr × Obj)} {σ : St} {H H' : Hp} {s s' : Shared} {h' : Heap}
/-- a record that is none of the frame's: not its names, not a caller's frame, no cell, not pinned; new since the entry -/
def Off (X : Cx) (pins : List (Addr × Obj)) (b : Addr) : Prop :=
  X.s₀.heap.get? b = none ∧ b ≠ X.env.locals ∧ b ∉ X.fs ∧ (∀ x c, X.env.cells.lookup x = some c → c ≠ b) ∧ ∀ p ∈ X.pn ++ pins, p.1 ≠ b
/-- an exception on its way, in the frame at hand -/
def XFly (X : Cx) (pins : List (Addr × Obj)) (H : Hp) (h : Heap) (x : Addr) (cls : Value) (d : Option Addr) : Prop :=
  H x = none ∧ Off X pins x ∧ ∃ vs sl tr, h.get? x = some ⟨cls, d, .fields vs, sl⟩ ∧ Trail h x vs tr ∧ ∀ T, tr = some T → H T = none ∧ Off X pins T
def XP (X : Cx) (pins : List (Addr × Obj)) (σ : St) (E : XK) (e : Value) (s' : Shared) : Prop := ∃ x cls d H', e = .ref x ∧ Inv X pins σ H' s' ∧ XFly X pins H' s'.heap x cls d ∧ E cls d H'
/-- .. behind a call -/
def Fly (g : Heap) (H : Hp) (h : Heap) (x : Addr) (cls : Value) (d : Option Addr) : Prop :=
  g.get? x = none ∧ H x = none ∧ ∃ vs sl tr, h.get? x = some ⟨cls, d, .fields vs, sl⟩ ∧ Trail h x vs tr ∧ ∀ T, tr = some T → g.get? T = none ∧ H T = none
def CX1 (P : Program) (w : World) : CXT := fun outer H s E e s' => ∃ x cls d H', e = .ref x ∧ s'.os = s.os ∧ AllBare s'.gens ∧ Un (frs outer) [] H H' s.heap s'.heap ∧ HOk P w H' s'.heap ∧ Fly s.heap H' s'.heap x cls d ∧ E cls d H'
end
section
variable {P : Program} {w : World} {K : PySem.W.Frag} {mg : Str → Option Value} {base : Heap} {N : List Str} {qual : Str} {scope : Scope} {f : Addr} {cd : Value} {A : Around} {outer : List Env} {s₀ : Shared} {H₀ : Hp} {E : XK}
end
end L2
/-! ### exceptions: raise, try, except -/
namespace L2
open PySem PySem.Spec PyProof.Rows
/-- ValueError's own classes above -/
abbrev bmV : List Value := [.type "ValueError", .type "Exception", .type "BaseException", .type "object"]
section
variable {X : Cx} {E : XK}
/-- what leaves this body as an exception is what is wanted of it -/
def XOut (X : Cx) (E : XK) : Prop := ∀ pins σ e s', XP X pins σ E e s' → X.xe e s'
def tRaise (C : Addr) (E : XK) (t : TA) : TS := fun _ σ H => t σ H fun vs H1 => vs.length ≤ sizeLine ∧ E (.ref C) none H1
/-! ### a body that is tried: the names are as they were when the exception comes -/
/-- an expression that may raise, from the names at hand -/
def PX (X : Cx) (e : Expr) (t : XK → TE) : Prop :=
  ∀ (pins : List (Addr × Obj)) (s : Shared) (σ : St) (H : Hp) (Q : VK) (E : XK), Inv X pins σ H s → t E σ H Q → wpAny (model X.prog X.w) X.A (eval e X.env) (EP X pins σ Q) (XP X pins σ E) s
def PSX (X : Cx) (st : List Stmt) (t : XK → TS) : Prop :=
  ∀ (pins : List (Addr × Obj)) (s : Shared) (σ : St) (H : Hp) (D : Ends) (E : XK), Inv X pins σ H s → t E D σ H → wpAny (model X.prog X.w) X.A (execs st X.env) (SP X pins D) (XP X pins σ E) s
variable {k : Nat} {f C : Addr} {fd : FuncData} {ps : List Str} {sp : Sp} {dvs : List V} {ds : List Value} {x m : Str} {p pos apos : Pos} {e o : Expr} {es : List Expr} {ta : TE} {t : TA}
/-- a statement of a tried body -/
def PSx (X : Cx) (st : Stmt) (t : XK → TS) : Prop :=
  ∀ (pins : List (Addr × Obj)) (s : Shared) (σ : St) (H : Hp) (D : Ends) (E : XK), Inv X pins σ H s → t E D σ H → wpAny (model X.prog X.w) X.A (exec st X.env) (SP X pins D) (XP X pins σ E) s
end
/-! ### the clauses -/
section
variable {X : Cx}
/-- within a clause's suite -/
abbrev Cx.hnd (X : Cx) (x : Addr) : Cx := { X with A := X.A.mark (some (.ref x)), calm := false, xe := fun _ _ => False }
variable {pins : List (Addr × Obj)} {σ : St} {H : Hp} {s : Shared} {x : Addr}
/-- an exception that was caught: its class, its dict -/
def XO (x C : Addr) (d : Option Addr) : HO := .ext fun h => ∃ vs sl, h.get? x = some ⟨.ref C, d, .fields vs, sl⟩
/-- an exception that was noted here -/
def XHeld (X : Cx) (pins : List (Addr × Obj)) (H : Hp) (h : Heap) (x : Addr) (cls : Value) (d : Option Addr) : Prop :=
  H x = none ∧ Off X pins x ∧ ∃ vs sl T, h.get? x = some ⟨cls, d, .fields vs, sl⟩ ∧ Trail h x vs (some T) ∧ H T = none ∧ Off X pins T
abbrev TH := Ends → St → Value → Option Addr → Hp → Prop
def PH (X : Cx) (hs : List ExceptHandler) (t : TH) : Prop :=
  ∀ (pins : List (Addr × Obj)) (s : Shared) (σ : St) (H : Hp) (D : Ends) (x : Addr) (cls : Value) (d : Option Addr), Inv X pins σ H s → XHeld X pins H s.heap x cls d → t D σ cls d H →
    wpAny (model X.prog X.w) X.A (handleBy (.ref x) X.env hs) (SP X pins D) X.xe s
/-- a class of the text that is caught -/
structure Catches (K : PySem.W.Frag) (C : Addr) : Prop where
  tu : PySem.W.instIn K (.ref C) (.type "tuple") = some false
  cl : ∃ cd, PySem.W.clsIn K C = some cd
  ex : PySem.W.subIn K (.ref C) (.type "BaseException") = some true
def hNever : TH := fun _ _ _ _ _ => False
def hBare (K : PySem.W.Frag) (C' : Addr) (t : TS) (tr : TH) : TH := fun D σ cls d H => ∃ C b, cls = .ref C ∧ PySem.W.subIn K (.ref C) (.ref C') = some b ∧ if b = true then t D σ H else tr D σ cls d H
def hAs (K : PySem.W.Frag) (C' : Addr) (i : Nat) (t : TS) (tr : TH) : TH := fun D σ cls d H => ∃ C b, cls = .ref C ∧ PySem.W.subIn K (.ref C) (.ref C') = some b ∧
  if b = true then ∀ x, H x = none → t { nx := fun σ' H' => D.nx (σ'.set i none) H', rt := D.rt, bk := fun σ' H' => D.bk (σ'.set i none) H', ct := fun σ' H' => D.ct (σ'.set i none) H' } (σ.set i (some (.ref x))) (upd H x (XO x C d)) else tr D σ cls d H
def tTry (tb : XK → TS) (th : TH) : TS := fun D σ H => tb (fun cls d H' => th D σ cls d H') D σ H
end
end L2
/-! ### defs, methods and classes in bundles -/
namespace L2
open PySem PySem.Spec PyProof.Rows
/-- a def of the text under its name, and what it promises -/
def FnB (P : Program) (w : World) (K : PySem.W.Frag) (mg : Str → Option Value) (base : Heap) (CX : CXT) (x : Str) (k : Nat) (ps : List Str) (sp : Sp) : Prop :=
  ∃ f fd, mg x = some (.ref f) ∧ PySem.W.keepIn K (.ref f) = true ∧ Binds K fd ps [] ∧ FnOk P w K mg base CX k f fd ps sp
/-- a method m of the class at C -/
def MtB (P : Program) (w : World) (K : PySem.W.Frag) (mg : Str → Option Value) (base : Heap) (CX : CXT) (C : Addr) (m : Str) (k : Nat) (ps : List Str) (sp : Sp) : Prop :=
  ∃ f fd, Meth K C m f ∧ Binds K fd ps [] ∧ FnOk P w K mg base CX k f fd ps sp
/-- the making of an instance of the class at C, the last of the arguments left out -/
def MkB (P : Program) (w : World) (K : PySem.W.Frag) (mg : Str → Option Value) (base : Heap) (CX : CXT) (C : Addr) (k : Nat) (ps : List Str) (dvs : List V) (sp : Sp) : Prop :=
  ∃ f fd ds, Mk K C f ∧ Binds K fd ps ds ∧ Vals dvs ds ∧ FnOk P w K mg base CX k f fd ps sp
section
variable {P : Program} {w : World} {K : PySem.W.Frag} {mg : Str → Option Value} {base : Heap} {CX : CXT} {x m : Str} {C : Addr} {k : Nat} {ps : List Str} {sp : Sp} {dvs : List V}
end
section
variable {X : Cx} {CX : CXT} {k j : Nat} {C : Addr} {ps : List Str} {sp : Sp} {dvs : List V} {E : XK} {x m : Str} {p pos apos : Pos} {e o : Expr} {es : List Expr} {ta : TE} {t : TA}
theorem pe_fn (F : FnB X.prog X.w X.K X.mg X.base CX x k ps sp) (hr : Room j X.A) (hx : Passes CX X E) (ha : PA X (e :: es) t) (hj : k ≤ j := by decide) (hg : Gl X x := by rfl) (hdb : (x == ("__debug__" : Str)) = false := by decide)
    (he : starEach (e :: es) X.env = (false, eval e X.env) :: starEach es X.env := by rfl) (hpl : (backTo pos (starEach es X.env)).any (·.1) = false := by rfl) : PE X (.Call (.Name x p) (e :: es) [] pos) (tCall sp [] E t) := by
  obtain ⟨f, fd, a, b, c, d⟩ := F
  exact pe_call d (hr.mono hj) hg a b c .nil hx ha hdb he hpl
theorem pe_mk (F : MkB X.prog X.w X.K X.mg X.base CX C k ps dvs sp) (hr : Room j X.A) (hm : X.mg x = some (.ref C)) (hx : Passes CX X E) (ha : PA X (e :: es) t) (hj : k + 1 ≤ j := by decide) (hg : Gl X x := by rfl) (hdb : (x == ("__debug__" : Str)) = false := by decide)
    (he : starEach (e :: es) X.env = (false, eval e X.env) :: starEach es X.env := by rfl) (hpl : (backTo pos (starEach es X.env)).any (·.1) = false := by rfl) : PE X (.Call (.Name x p) (e :: es) [] pos) (tMake C sp dvs E t) := by
  obtain ⟨f, fd, ds, a, b, c, d⟩ := F
  exact pe_make a d (hr.mono hj) hg hm b c hx ha hdb he hpl
end
/-- a def as the top has made it: its text, its name, how it binds -/
def FDe (K : PySem.W.Frag) (mg : Str → Option Value) (x : Str) (st : Stmt) (ps : List Str) : Prop := ∃ f fd, Fun K x x st f fd ∧ mg x = some (.ref f) ∧ Binds K fd ps []
def MDe (K : PySem.W.Frag) (C : Addr) (x qual : Str) (st : Stmt) (ps : List Str) : Prop := ∃ f fd, Fun K x qual st f fd ∧ Meth K C x f ∧ Binds K fd ps []
section
variable {P : Program} {w : World} {K : PySem.W.Frag} {mg : Str → Option Value} {base : Heap} {x qual : Str} {C : Addr} {st : Stmt} {N ps : List Str} {k : Nat} {sp : Sp}
/-- no exception leaves it -/
theorem FDe.ok (F : FDe K mg x st ps) (S : FnScope N ps (defScope st)) (len : ∀ vs H Q E, sp vs H Q E → vs.length = ps.length)
    (hbody : ∀ (f : Addr) (cdv : Value) (A : Around) (outer : List Env) (s : Shared) (H : Hp) (vs : List V) (Q : VK) (E : XK), Room k (A.deeper (envOfC x (defScope st) s.heap.objs.size f cdv)) → sp vs H Q E →
      ∃ t, PSs (cxOf CX0 P w K mg base N x (defScope st) f cdv A outer s H E).nox (defBody st) t ∧ t { nx := fun _ H' => Q .non H', rt := Q } (start N vs) H) : FnB P w K mg base CX0 x (k + 1) ps sp :=
  let ⟨f, fd, a, b, c⟩ := F
  ⟨f, fd, b, a.kp, c, a.ok S len (hbody f)⟩
theorem MDe.ok (F : MDe K C x qual st ps) (S : FnScope N ps (defScope st)) (len : ∀ vs H Q E, sp vs H Q E → vs.length = ps.length)
    (hbody : ∀ (f : Addr) (cdv : Value) (A : Around) (outer : List Env) (s : Shared) (H : Hp) (vs : List V) (Q : VK) (E : XK), Room k (A.deeper (envOfC qual (defScope st) s.heap.objs.size f cdv)) → sp vs H Q E →
      ∃ t, PSs (cxOf CX0 P w K mg base N qual (defScope st) f cdv A outer s H E).nox (defBody st) t ∧ t { nx := fun _ H' => Q .non H', rt := Q } (start N vs) H) : MtB P w K mg base CX0 C x (k + 1) ps sp :=
  let ⟨f, fd, a, b, c⟩ := F
  ⟨f, fd, b, c, a.ok S len (hbody f)⟩
end
/-- a def's text, whatever its defaults -/
def FunG (K : PySem.W.Frag) (x qual : Str) (st : Stmt) (f : Addr) (fd : FuncData) : Prop := ∃ (oc : Value) (od : Option Addr) (dV kV doc pm : Value) (an : Option Addr) (cdv ct : Value) (osl : Array (Option Value)),
    fd = PySem.W.fnOf x qual (defArgs st) (defBody st) (defScope st) dV kV doc pm an cdv ct ∧ K.lookup f = some ⟨oc, od, .func fd, osl⟩ ∧ PySem.W.codeIn K cdv qual = true
/-- a def with defaults -/
structure FunD (K : PySem.W.Frag) (x qual : Str) (st : Stmt) (f : Addr) (fd : FuncData) (ds : Array Value) : Prop where
  ex : ∃ (oc : Value) (od : Option Addr) (T : Addr) (kV doc pm : Value) (an : Option Addr) (cdv ct : Value) (osl : Array (Option Value)) (o : Obj) (n : Nat),
    fd = PySem.W.fnOf x qual (defArgs st) (defBody st) (defScope st) (.ref T) kV doc pm an cdv ct ∧ K.lookup f = some ⟨oc, od, .func fd, osl⟩ ∧ PySem.W.codeIn K cdv qual = true ∧ K.lookup T = some o ∧ o.data = .seq ds n
section
variable {P : Program} {w : World} {K : PySem.W.Frag} {mg : Str → Option Value} {base : Heap} {x qual : Str} {C : Addr} {st : Stmt} {f : Addr} {fd : FuncData} {ds : Array Value} {N ps : List Str} {k : Nat} {sp : Sp}
theorem FunD.gen (F : FunD K x qual st f fd ds) : FunG K x qual st f fd := let ⟨oc, od, T, kV, doc, pm, an, cdv, ct, osl, _, _, e, l, c, _⟩ := F.ex; ⟨oc, od, .ref T, kV, doc, pm, an, cdv, ct, osl, e, l, c⟩
theorem FunD.binds {es : List Value} (F : FunD K x qual st f fd ds)
    (h : ∀ (T : Addr) (kV doc pm : Value) (an : Option Addr) (cdv ct : Value) (us : List Value), (us ++ es).length = ps.length → ∃ k, bindArgs (PySem.W.fnOf x qual (defArgs st) (defBody st) (defScope st) (.ref T) kV doc pm an cdv ct) ⟨us, []⟩ = seqItems? (.ref T) >>= k ∧ k (some ds) = pure (ps.zip (us ++ es))) : Binds K fd ps es := by
  obtain ⟨oc, od, T, kV, doc, pm, an, cdv, ct, osl, o, n, rfl, lk, hcd, lt, hd⟩ := F.ex
  intro s us KX hl
  obtain ⟨k, h1, h2⟩ := h T kV doc pm an cdv ct us hl
  exact PySem.W.binds_K KX rfl lt hd h1 h2
theorem funD_mk {T : Addr} {oc : Value} {od an : Option Addr} {osl : Array (Option Value)} {kV doc pm cdv ct : Value} {o : Obj} {n : Nat} (l : K.lookup f = some ⟨oc, od, .func (PySem.W.fnOf x qual (defArgs st) (defBody st) (defScope st) (.ref T) kV doc pm an cdv ct), osl⟩)
    (c : PySem.W.codeIn K cdv qual = true) (t : K.lookup T = some o) (hd : o.data = .seq ds n) : FunD K x qual st f (PySem.W.fnOf x qual (defArgs st) (defBody st) (defScope st) (.ref T) kV doc pm an cdv ct) ds := ⟨⟨oc, od, T, kV, doc, pm, an, cdv, ct, osl, o, n, rfl, l, c, t, hd⟩⟩
theorem FunG.ok (F : FunG K x qual st f fd) (S : FnScope N ps (defScope st)) (len : ∀ vs H Q E, sp vs H Q E → vs.length = ps.length)
    (hbody : ∀ (cdv : Value) (A : Around) (outer : List Env) (s : Shared) (H : Hp) (vs : List V) (Q : VK) (E : XK), Room k (A.deeper (envOfC qual (defScope st) s.heap.objs.size f cdv)) → sp vs H Q E →
      ∃ t, PSs (cxOf CX0 P w K mg base N qual (defScope st) f cdv A outer s H E).nox (defBody st) t ∧ t { nx := fun _ H' => Q .non H', rt := Q } (start N vs) H) : FnOk P w K mg base CX0 (k + 1) f fd ps sp := by
  obtain ⟨oc, od, dV, kV, doc, pm, an, cdv, ct, osl, rfl, lk, hcd⟩ := F
  refine fn_of lk hcd S len fun A outer s H vs Q E hr hsp => ?_
  obtain ⟨t, h, q⟩ := hbody cdv A outer s H vs Q E hr hsp
  exact ⟨t, h.nox, q⟩
/-- an __init__ as the top has made it, and the defaults that may fill up -/
def IDe (K : PySem.W.Frag) (C : Addr) (qual : Str) (st : Stmt) (ps : List Str) (dvss : List (List V)) : Prop := ∃ f fd, FunG K "__init__" qual st f fd ∧ Mk K C f ∧ ∀ dvs ∈ dvss, ∃ es, Vals dvs es ∧ Binds K fd ps es
theorem IDe.ok {dvss : List (List V)} (F : IDe K C qual st ps dvss) (S : FnScope N ps (defScope st)) (len : ∀ vs H Q E, sp vs H Q E → vs.length = ps.length)
    (hbody : ∀ (f : Addr) (cdv : Value) (A : Around) (outer : List Env) (s : Shared) (H : Hp) (vs : List V) (Q : VK) (E : XK), Room k (A.deeper (envOfC qual (defScope st) s.heap.objs.size f cdv)) → sp vs H Q E →
      ∃ t, PSs (cxOf CX0 P w K mg base N qual (defScope st) f cdv A outer s H E).nox (defBody st) t ∧ t { nx := fun _ H' => Q .non H', rt := Q } (start N vs) H) : ∀ dvs ∈ dvss, MkB P w K mg base CX0 C (k + 1) ps dvs sp := fun dvs hd =>
  let ⟨f, fd, a, b, c⟩ := F
  let ⟨es, v, d⟩ := c dvs hd
  ⟨f, fd, es, b, d, v, a.ok S len (hbody f)⟩
end
end L2
/-! ### the law's entry, with the size of the script's ints -/
namespace L2
open PySem PySem.Spec PyProof.Rows PySem.W PySem.Calls
theorem weight_mem : ∀ (ns : List Int) (n : Int), n ∈ ns → Builtin.Int.intBits n ≤ WData.weightAll (ns.map WData.int)
  | m :: r, n, h => by
    rw [List.map_cons]
    show Builtin.Int.intBits n ≤ WData.weight (.int m) + 1 + WData.weightAll (r.map WData.int)
    rcases List.mem_cons.mp h with z | z
    · subst z
      have : WData.weight (.int n) = Builtin.Int.intBits n := by
        simp only [WData.weight, Builtin.Int.intBits]
      omega
    · have := weight_mem r n z
      omega
theorem bits_of_lay {ns : List Int} (h : WData.layableAll [WData.list (ns.map WData.int)] = true) : ∀ n ∈ ns, Builtin.Int.intBits n ≤ 2 ^ 20 := fun n hn => by
  have h1 : (WData.list (ns.map WData.int)).layable = true := by
    unfold WData.layableAll at h
    simpa using h
  have h2 := (layableW_iff.mp h1).2.2
  have h3 := weight_mem ns n hn
  exact Nat.le_trans h3 h2
theorem walk_ofB {l : PySem.W.OpenLaw} {n k : Nat} {q : Program} {loose : List Str} {XP : (Str → Option Value) → Heap → Prop} {YP : World → Heap → Prop} {d : DefRec} {K : Params → PySem.W.Frag} {CX : World → CXT} {sp : World → Sp} {x : Str}
    (hn : l.most = some n) (hn2 : n ≤ sizeLine) (hdf : d.params.defaults = []) (hr : Room k callerA)
    (hY : ∀ (w : World) (h : Heap), YP w h → (K w.params).In h)
    (F : ∀ (w : World) (mg : Str → Option Value) (fa : Addr) (h : Heap), (K w.params).In h → h.Ns mainGlobals mg → mg d.name = some (.ref fa) →
      ∃ fd : FuncData, (∀ (s : Shared) (u : Value), BindsTo s fd ⟨[u], []⟩ [(x, u)]) ∧
        ∀ base : Heap, (K w.params).In base → base.Ns mainGlobals mg → FnOk l.prog w (K w.params) mg base (CX w) k fa fd [x] (sp w))
    (hsp : ∀ (w : World) (H : Hp) (a : Addr) (ns : List Int), ns.length ≤ n → (∀ i ∈ ns, Builtin.Int.intBits i ≤ 2 ^ 20) → Only H → SqL (K w.params) H a (ns.map V.int) → sp w [.ref a] H (fun v _ => v = .bl true) fun _ _ _ => False)
    (hCX : ∀ (w : World) (H : Hp) (s : Shared) (e : Value) (s' : Shared), CX w [] H s (fun _ _ _ => False) e s' → False) :
    PySem.W.WalkO q loose XP YP l.row.toRowW d [] (fun f vs => PySem.call f vs) := by
  intro w s₀ s₁ mg mb G Y fa o pm cd doc dV kV ho hd hcd hD hmg hg args vals as hpre hlay hrd hwl hlo
  obtain rfl : dV = .none := Dflts.none hD hdf
  obtain rfl : kV = .none := Dflts.noKw hD
  obtain ⟨a, vs, ns, rfl, rfl, hobj, hints, hlen⟩ := Att.script_of hn hpre hwl
  have hbits := bits_of_lay hlay
  have KX := hY w _ Y
  obtain ⟨fd, hb, hF⟩ := F w mg fa _ KX G.T.g hmg
  refine enter_call (codeAny_mono (law_call KX G.T.g G.T.b G.T.builtins G.T.nolimit hg hobj hints (Nat.le_trans hlen hn2) hr hF hb (fun H hO hS => hsp w H a ns hlen hbits hO hS) fun H e s' => hCX w H s₁ e s') fun r s' hq => ?_)
  obtain ⟨rfl, h2, h3, h4⟩ := hq
  exact ⟨.inl ⟨.bool true, .bool true, [], rfl, fun _ => rfl, .bool true, Att.post_true l _, fun _ => ⟨List.Pairwise.nil, fun _ hm => (nomatch hm)⟩⟩, h2, h3, h4⟩
section
variable {X : Cx}
/-- any product that the machine takes -/
theorem op_mulG : OpR X (binaryOp .Mult) (rI IntMulOk fun i j => .int (i * j)) := opI fun _ _ _ _ _ _ _ hc q => mul_int q hc
end
theorem mulOk_bits {i j : Int} (h : Builtin.Int.intBits i + Builtin.Int.intBits j ≤ 2 ^ 27) : IntMulOk i j := by
  have : Builtin.Int.intTooBig (Builtin.Int.intBits i + Builtin.Int.intBits j) = false := by
    unfold Builtin.Int.intTooBig bitsLine
    exact decide_eq_false (by omega)
  unfold IntMulOk
  rw [this]
  simp
theorem bits_pos {i : Int} {n : Nat} (h : Builtin.Int.intBits i ≤ n) : i.natAbs < 2 ^ n := by
  unfold Builtin.Int.intBits at h
  split at h
  · rename_i z
    have : i = 0 := by simpa using z
    rw [this]
    exact Nat.two_pow_pos n
  · rename_i z
    have z' : i.natAbs ≠ 0 := by
      intro q
      apply z
      have : i = 0 := by omega
      simp [this]
    exact (Nat.log2_lt z').mp (by omega)
end L2
/-! ### an exception that was caught: what it is, what it tells -/
namespace L2
open PySem PySem.Spec PyProof.Rows
section
variable {prog : Program} {w : World} {A : Around} {E : Value → Shared → Prop} {s : Shared} {K : PySem.W.Frag} {x D : Addr} {ox : Obj} {od : Option Obj} {name : Str}
/-- an exception class of the text, as its instances are asked -/
structure ExA (K : PySem.W.Frag) (D : Addr) : Prop where
  ga : PySem.W.findIn K (.ref D) "__getattribute__" = some (some (.builtin "BaseException.__getattribute__"))
  gh : PySem.W.findIn K (.ref D) "__getattr__" = some none
  be : PySem.W.mroIn K D (.type "BaseException") = some true
  ca : PySem.W.findIn K (.ref D) "__class__" = some (some (.builtin "object.__class__"))
  gs : PySem.W.specialIn K (.builtin "object.__class__") "__get__" = some (some (.builtin "getset_descriptor.__get__"))
  tk : PySem.W.takesIn K (.builtin "object.__class__") = some true
  ob : PySem.W.mroIn K D (.type "object") = some true
  cl : ∃ cd, PySem.W.clsIn K D = some cd
end
section
variable {X : Cx}
/-- a caught exception without a dict -/
def XAt (H : Hp) (x D : Addr) : Prop := H x = some (XO x D none)
def rIsX (K : PySem.W.Frag) (c : Value) : List V → Hp → VK → Prop := fun vs H Q => ∃ x D y b, vs = [.ref x, y] ∧ (∀ u, RelV y u → u = c) ∧ XAt H x D ∧ ExA K D ∧ PySem.W.kitOne K (.ref D) c = some b ∧ Q (.bl b) H
/-! ### lists of flat items, one == the other -/
def eqVs : List V → List V → Bool
  | [], [] => true
  | x :: xs, y :: ys => eqV x y && eqVs xs ys
  | _, _ => false
theorem eqVs_len : ∀ {xs ys : List V}, xs.length ≠ ys.length → eqVs xs ys = false
  | [], [], h => absurd rfl h
  | [], _ :: _, _ => rfl
  | _ :: _, [], _ => rfl
  | x :: xs, y :: ys, h => by
    show (eqV x y && eqVs xs ys) = false
    rw [eqVs_len (fun z => h (congrArg (· + 1) z)), Bool.and_false]
def eqAtJ (xs ys : List V) (j : Nat) : Bool := match xs[j]?, ys[j]? with | some x, some y => eqV x y | _, _ => true
theorem eqVs_all : ∀ {xs ys : List V}, xs.length = ys.length → (List.range xs.length).all (eqAtJ xs ys) = eqVs xs ys
  | [], [], _ => rfl
  | x :: xs, y :: ys, h => by
    rw [List.length_cons, List.range_succ_eq_map, List.all_cons, List.all_map]
    show (eqV x y && _) = (eqV x y && eqVs xs ys)
    rw [← eqVs_all (Nat.succ.inj h)]
    rfl
theorem vals_at {xs : List V} {us : List Value} (r : Vals xs us) : ∀ {j : Nat} {x : V} {u : Value}, xs[j]? = some x → us[j]? = some u → RelV x u := by
  induction r with
  | nil => intro j x u h; cases h
  | cons r1 _ ih =>
    intro j x u h1 h2
    cases j with
    | zero => cases h1; cases h2; exact r1
    | succ j => exact ih h1 h2
def rEqL (K : PySem.W.Frag) : R2 := fun x y H Q => ∃ p q xs ys, x = .ref p ∧ y = .ref q ∧ SqL K H p xs ∧ SqL K H q ys ∧ xs.all flatV = true ∧ ys.all flatV = true ∧ Q (.bl (eqVs xs ys)) H
theorem op_eqL (hu : X.A.units < cLine) : OpR X (compareOp .Eq) (rEqL X.K) := by
  intro pins s σ H x y v u Q I rx ry h
  obtain ⟨p, q, xs, ys, rfl, rfl, hp, hq, fx, fy, k⟩ := h
  cases rx
  cases ry
  obtain ⟨us, r, pl, hz⟩ := I.list hp
  obtain ⟨ws, r', pl', hz'⟩ := I.list hq
  have e1 := r.length
  have e2 := r'.length
  by_cases hl : xs.length = ys.length
  · refine SeqAt.eq_listAt (e := eqAtJ xs ys) pl.isList pl'.isList (by simp; omega) hu (fun j h1 h2 => ?_) ⟨.bl _, H, I, rfl, ?_⟩
    · have j1 : j < us.length := by simpa using h1
      have j2 : j < ws.length := by simpa using h2
      have g1 : xs[j]? = some (xs[j]'(by omega)) := List.getElem?_eq_getElem _
      have g2 : ys[j]? = some (ys[j]'(by omega)) := List.getElem?_eq_getElem _
      have g3 : us[j]? = some us[j] := List.getElem?_eq_getElem _
      have g4 : ws[j]? = some ws[j] := List.getElem?_eq_getElem _
      have : eqAtJ xs ys j = eqV (xs[j]'(by omega)) (ys[j]'(by omega)) := by unfold eqAtJ; rw [g1, g2]
      rw [this]
      simp only [List.getElem_toArray]
      exact eqAt_V (vals_at r g1 g3) (vals_at r' g2 g4) (List.all_eq_true.mp fx _ (List.getElem_mem _)) (List.all_eq_true.mp fy _ (List.getElem_mem _))
    · rw [List.size_toArray, ← e1, eqVs_all hl]
      exact k
  · refine SeqAt.eq_list_lengthsAt pl.isList pl'.isList (by simp; omega) hu ⟨.bl _, H, I, rfl, ?_⟩
    rw [← eqVs_len hl]
    exact k
end
end L2
/-! ### methods of an object whose class only the walk knows; a def called by its class -/
namespace L2
open PySem PySem.Spec PyProof.Rows
def tMethD (P : Program) (w : World) (K : PySem.W.Frag) (mg : Str → Option Value) (base : Heap) (CX : CXT) (m : Str) (j : Nat) (E : XK) (ta : TE) (t : TA) : TE := fun σ H Q => ta σ H fun x H1 =>
  ∃ a C dx fs k ps sp, x = .ref a ∧ H1 a = some (.ins C dx fs) ∧ fs.lookup m = none ∧ Cls K C ∧ k ≤ j ∧ MtB P w K mg base CX C m k ps sp ∧ t σ H1 fun vs H2 => sp ((.ref a :: vs) ++ []) H2 Q E
/-- the class is one of the text, and its attributes are read plainly -/
structure ClsRd (K : PySem.W.Frag) (C : Addr) : Prop where
  rd : PySem.W.readsIn K C (.type "type") = true
  sg : PySem.W.specialIn K (.ref C) "__getattribute__" = some (some (.builtin "type.__getattribute__"))
/-- a def m of the class at C, as it is called by the class -/
def CfB (P : Program) (w : World) (K : PySem.W.Frag) (mg : Str → Option Value) (base : Heap) (CX : CXT) (C : Addr) (m : Str) (k : Nat) (ps : List Str) (sp : Sp) : Prop :=
  ∃ f fd, ClsRd K C ∧ PySem.W.findCls K (.ref C) (.type "type") m = some (.val (.ref f)) ∧ PySem.W.keepIn K (.ref f) = true ∧ Binds K fd ps [] ∧ FnOk P w K mg base CX k f fd ps sp
section
variable {X : Cx} {CX : CXT} {k j : Nat} {C : Addr} {ps : List Str} {sp : Sp} {E : XK} {x m : Str} {p pos apos : Pos} {e o : Expr} {es : List Expr} {ta : TE} {t : TA}
theorem pe_mtD {pl : Sem Bool} (he : PE X o ta) (hr : Room j X.A) (hx : Passes CX X E) (ha : PA X (e :: es) t)
    (hst : starEach (e :: es) X.env = (false, eval e X.env) :: starEach es X.env := by rfl) (hpl : (backTo pos (starEach es X.env)).any (·.1) = false := by rfl)
    (ht : eval (.Call (.Attribute o m apos) (e :: es) [] pos) X.env = (do
      let ov ← eval o X.env
      standAt apos.atName
      let (f, first) ← holding [ov] (getMethod ov m pl)
      callWith pos f first (backTo pos (starEach (e :: es) X.env)) (backToKw pos (keywordEach [] X.env))) := by rfl) : PE X (.Call (.Attribute o m apos) (e :: es) [] pos) (tMethD X.prog X.w X.K X.mg X.base CX m j E ta t) := by
  intro pins s σ H Q I h
  refine PySem.W.methodCall_KW (pl := pl) (thn (he pins s σ H _ I h) fun u s1 ⟨x, H1, I1, rx, a, C, dx, fs, k, ps, sp, ex, ea, l, c, hj, ⟨f, fd, hm, hb, F⟩, q⟩ => ?_) ht
  subst ex
  obtain rfl : u = Value.ref a := rx
  refine getmeth_ok I1 ea c hm l ?_
  refine PySem.W.callWith_K (first := [.ref a]) (h₀ := X.base) I.ok.mod.kin hm.kp (thn (ha pos pins s1 σ H1 _ I1 q) fun us s2 ⟨vs, H2, I2, r, q2⟩ => ⟨I2.kIn, ?_⟩) hst hpl
  exact run_fn (us := .ref a :: us) (vs := .ref a :: vs) F (hr.mono hj) hb .nil hx I2 (.cons rfl r) q2
theorem pe_mtD0 {pl : Sem Bool} (he : PE X o ta) (hr : Room j X.A) (hx : Passes CX X E)
    (ht : eval (.Call (.Attribute o m apos) [] [] pos) X.env = (do
      let ov ← eval o X.env
      standAt apos.atName
      let (f, first) ← holding [ov] (getMethod ov m pl)
      callWith pos f first (backTo pos (starEach [] X.env)) (backToKw pos (keywordEach [] X.env))) := by rfl) : PE X (.Call (.Attribute o m apos) [] [] pos) (tMethD X.prog X.w X.K X.mg X.base CX m j E ta tNil) := by
  intro pins s σ H Q I h
  refine PySem.W.methodCall_KW (pl := pl) (thn (he pins s σ H _ I h) fun u s1 ⟨x, H1, I1, rx, a, C, dx, fs, k, ps, sp, ex, ea, l, c, hj, ⟨f, fd, hm, hb, F⟩, q⟩ => ?_) ht
  subst ex
  obtain rfl : u = Value.ref a := rx
  refine getmeth_ok I1 ea c hm l ?_
  exact PySem.W.callWith_K0 (first := [.ref a]) I1.kIn hm.kp (run_fn (us := [.ref a]) (vs := [.ref a]) F (hr.mono hj) hb .nil hx I1 (.cons rfl .nil) q)
/-- C.m(e, ..) -/
theorem pe_cf {np : Pos} {pl : Sem Bool} (F : CfB X.prog X.w X.K X.mg X.base CX C m k ps sp) (hr : Room j X.A) (hm : X.mg x = some (.ref C)) (hx : Passes CX X E) (ha : PA X (e :: es) t) (hj : k ≤ j := by decide) (hg : Gl X x := by rfl) (hdb : (x == ("__debug__" : Str)) = false := by decide)
    (hst : starEach (e :: es) X.env = (false, eval e X.env) :: starEach es X.env := by rfl) (hpl : (backTo pos (starEach es X.env)).any (·.1) = false := by rfl)
    (ht : eval (.Call (.Attribute (.Name x np) m apos) (e :: es) [] pos) X.env = (do
      let ov ← eval (.Name x np) X.env
      standAt apos.atName
      let (f, first) ← holding [ov] (getMethod ov m pl)
      callWith pos f first (backTo pos (starEach (e :: es) X.env)) (backToKw pos (keywordEach [] X.env))) := by rfl) : PE X (.Call (.Attribute (.Name x np) m apos) (e :: es) [] pos) (tCall sp [] E t) := by
  intro pins s σ H Q I h
  obtain ⟨f, fd, c, hf, hk, hb, F⟩ := F
  refine PySem.W.methodCall_KW (pl := pl) (ld_glob I hg hm ?_ hdb) ht
  refine PySem.W.method_cls I.kIn c.sg (PySem.W.cls_value I.kIn c.rd hf rfl ?_)
  have I1 := I.tok (s.toks + 1)
  refine PySem.W.callWith_K (first := []) (h₀ := X.base) I.ok.mod.kin hk (thn (ha pos pins _ σ H _ I1 h) fun us s2 ⟨vs, H2, I2, r, q2⟩ => ⟨I2.kIn, ?_⟩) hst hpl
  exact run_fn (us := us) (vs := vs) F (hr.mono hj) hb .nil hx I2 r q2
/-- a text, so many times -/
def rRepS : R2 := fun x y H Q => ∃ z n, x = .str z ∧ y = .int n ∧ z.length = 1 ∧ n.natAbs < 1000 ∧ Q (.str (Txt.mul z n)) H
theorem op_rep_str : OpR X (binaryOp .Mult) rRepS := by
  intro pins s σ H x y v u Q I rx ry h
  obtain ⟨z, n, rfl, rfl, hz, hn, q⟩ := h
  obtain ⟨t, rfl⟩ := rx
  obtain ⟨t', rfl⟩ := ry
  refine SB.mul ⟨?_, fun h1 _ => ?_, fun h1 _ => ?_⟩ fun t' tk => ⟨.str _, H, I.tok _, ⟨_, rfl⟩, q⟩
  · simp; omega
  · rw [hz]
    have : (1 : Int) ≤ (2 ^ 63 - 1) / n := Int.le_ediv_of_mul_le (by omega) (by omega)
    omega
  · rw [hz]
    unfold Builtin.Str.tooLong
    simp only [PySem.sizeLine_eq, gt_iff_lt, decide_eq_false_iff_not]
    omega
end
section
variable {P : Program} {w : World} {K : PySem.W.Frag} {mg : Str → Option Value} {base : Heap} {x qual : Str} {C : Addr} {st : Stmt} {N ps : List Str} {k : Nat} {sp : Sp}
/-- an __init__ that is called by its class -/
def CDe (K : PySem.W.Frag) (C : Addr) (qual : Str) (st : Stmt) (ps : List Str) : Prop := ∃ f fd, FunG K "__init__" qual st f fd ∧ ClsRd K C ∧ PySem.W.findCls K (.ref C) (.type "type") "__init__" = some (.val (.ref f)) ∧ PySem.W.keepIn K (.ref f) = true ∧ Binds K fd ps []
theorem CDe.ok (F : CDe K C qual st ps) (S : FnScope N ps (defScope st)) (len : ∀ vs H Q E, sp vs H Q E → vs.length = ps.length)
    (hbody : ∀ (f : Addr) (cdv : Value) (A : Around) (outer : List Env) (s : Shared) (H : Hp) (vs : List V) (Q : VK) (E : XK), Room k (A.deeper (envOfC qual (defScope st) s.heap.objs.size f cdv)) → sp vs H Q E →
      ∃ t, PSs (cxOf CX0 P w K mg base N qual (defScope st) f cdv A outer s H E).nox (defBody st) t ∧ t { nx := fun _ H' => Q .non H', rt := Q } (start N vs) H) : CfB P w K mg base CX0 C "__init__" (k + 1) ps sp :=
  let ⟨f, fd, a, b, c, d, e⟩ := F
  ⟨f, fd, b, c, d, e, a.ok S len (hbody f)⟩
end
end L2
/-! ### a list taken apart -/
namespace L2
open PySem PySem.Spec PyProof.Rows
section
variable {prog : Program} {w : World} {A : Around} {E : Value → Shared → Prop} {s : Shared}
theorem draw_list {it t : Addr} {items : Array Value} (hne : t ≠ it) : ∀ (n i : Nat) (s : Shared) (Q : List Value → Shared → Prop), s.heap.IsListIter it t i → s.heap.IsList t items → i + n ≤ items.size →
    (∀ h', h'.IsListIter it t (i + n) → Heap.SameBut it s.heap h' → Q ((items.toList.drop i).take n) { s with heap := h' }) → wpAny (model prog w) A (draw (.ref it) n) Q E s
  | 0, i, s, Q, hit, _, _, hQ => by
    show wpAny _ _ (pure []) Q E s
    exact wpAny_pure (by simpa using hQ s.heap hit (Heap.SameBut.refl ..))
  | n + 1, i, s, Q, hit, ht, hle, hQ => by
    have hlt : i < items.size := by omega
    show wpAny _ _ (pyNext (.ref it) >>= _) Q E s
    refine wpAny_bind (wpAny_pyNext_list_item hit ht (x := items[i]) (by simp [hlt]) fun h₁ hit₁ hs₁ => ?_)
    refine wpAny_bind (wpAny_holding (draw_list hne n (i + 1) _ _ hit₁ (ht.extBut hs₁.extBut hne) (by omega) fun h₂ hit₂ hs₂ => wpAny_pure ?_))
    have hd : items.toList.drop i = items[i] :: items.toList.drop (i + 1) := by simp [List.drop_eq_getElem_cons, hlt]
    have := hQ h₂ (by rw [show i + (n + 1) = i + 1 + n by omega]; exact hit₂) (hs₁.trans hs₂)
    rw [hd, List.take_succ_cons] at this
    exact this
theorem unpackItems_list {t : Addr} {items : Array Value} {Q : List Value → Shared → Prop} (hh : A.handled = none) (ht : s.heap.IsList t items)
    (hQ : ∀ h', Heap.ExtBut s.heap.objs.size s.heap h' → Q items.toList { s with heap := h' }) : wpAny (model prog w) A (unpackItems (.ref t) items.size none) Q E s := by
  have hlt : t ≠ s.heap.objs.size := by obtain ⟨o, ho, _⟩ := ht; exact Nat.ne_of_lt (Heap.lt_size ho)
  unfold unpackItems
  refine wpAny_bind ?_
  · unfold notIterableAtAll
    refine wpAny_bind (wpAny_specialOf ht.typeIs slot_list_iter.lookup ?_)
    refine wpAny_pure ?_
    simp only [Bool.false_eq_true, if_false]
    refine wpAny_bind (wpAny_holding (wpAny_pyIter_list ht ?_))
    refine wpAny_bind (wpAny_holding (draw_list hlt items.size 0 _ _ ⟨_, Heap.get?_push_size _ rfl, rfl, rfl⟩ (ht.push _) (by omega) fun h₁ hit₁ hs₁ => ?_))
    have hall : List.take items.size (List.drop 0 items.toList) = items.toList := by
      rw [List.drop_zero]; exact List.take_of_length_le (by simp)
    rw [hall]
    rw [if_neg (by simp)]
    have ht₁ : h₁.IsList t items := (ht.push _).extBut hs₁.extBut hlt
    refine wpAny_bind (wpAny_holding (wpAny_pyNext_list_end hh hit₁ ht₁ (by simp) fun h₂ he₂ => ?_))
    simp only [Option.isSome_none, Bool.false_eq_true, if_false]
    refine wpAny_pure (hQ h₂ fun b o hb e => he₂ b o hb (hs₁.extBut b o hb (Heap.get?_push_of_some _ e)))
theorem unpack_list {t : Addr} {items : Array Value} {targets : List (Bool × (Value → Sem Unit))} {Q : Unit → Shared → Prop} (hh : A.handled = none) (ht : s.heap.IsList t items)
    (hn : targets.length = items.size) (hstar : targets.findIdx? (·.1) = none)
    (h : ∀ h', Heap.ExtBut s.heap.objs.size s.heap h' → wpAny (model prog w) A (assignInOrder (targets.map (·.2)) items.toList) Q E { s with heap := h' }) :
    wpAny (model prog w) A (unpack (.ref t) targets) Q E s := by
  unfold unpack
  rw [hn, hstar]
  exact wpAny_bind (wpAny_holding (unpackItems_list hh ht h))
end
section
variable {X : Cx} {pos : Pos}
def gLst (K : PySem.W.Frag) (n : Nat) (t : TGs) : TG := fun v σ H Q => ∃ a xs, v = .ref a ∧ SqL K H a xs ∧ xs.length = n ∧ t xs σ H Q
theorem pg_lst {es : List Expr} {k : Nat} {t : TGs} {n : Nat} (hc : X.calm = true) (h : PGs X es t)
    (hn : (assignEach es X.env).length = n := by rfl) (hst : (assignEach es X.env).findIdx? (·.1) = none := by rfl) : PG X (.Tuple es k pos) (gLst X.K n t) := by
  intro pins s σ H v u Q I r hw
  obtain ⟨a, xs, e1, hq, hl, hw⟩ := hw
  subst e1
  cases r
  obtain ⟨its, rv, ht, hz⟩ := I.list hq
  rw [assign_Tuple]
  refine wpAny_bind (wpAny_standAt (unpack_list (I.ok.hd hc) ht.isList (by simp [hn, ← hl, rv.length]) hst fun h' hx => ?_))
  have I1 : Inv X pins σ H { s with heap := h' } := I.kept (t' := s.toks) fun b o e => hx b o (Nat.ne_of_lt (Heap.lt_size e)) e
  exact h pins _ σ H xs _ Q I1 (by simpa using rv) hw
end
end L2
namespace L2
open PySem PySem.Spec PyProof.Rows
/-- what is asked of a def's suite -/
def BodyOk (P : Program) (w : World) (K : PySem.W.Frag) (mg : Str → Option Value) (base : Heap) (qual : Str) (st : Stmt) (N : List Str) (k : Nat) (sp : Sp) : Prop :=
  ∀ (f : Addr) (cdv : Value) (A : Around) (outer : List Env) (s : Shared) (H : Hp) (vs : List V) (Q : VK) (E : XK), Room k (A.deeper (envOfC qual (defScope st) s.heap.objs.size f cdv)) → sp vs H Q E →
    ∃ t, PSs (cxOf CX0 P w K mg base N qual (defScope st) f cdv A outer s H E).nox (defBody st) t ∧ t { nx := fun _ H' => Q .non H', rt := Q } (start N vs) H
def BodyX (P : Program) (w : World) (K : PySem.W.Frag) (mg : Str → Option Value) (base : Heap) (qual : Str) (st : Stmt) (N : List Str) (k : Nat) (sp : Sp) : Prop :=
  ∀ (f : Addr) (cdv : Value) (A : Around) (outer : List Env) (s : Shared) (H : Hp) (vs : List V) (Q : VK) (E : XK), Room k (A.deeper (envOfC qual (defScope st) s.heap.objs.size f cdv)) → sp vs H Q E →
    ∃ t, PSs (cxOf (CX1 P w) P w K mg base N qual (defScope st) f cdv A outer s H E) (defBody st) t ∧ t { nx := fun _ H' => Q .non H', rt := Q } (start N vs) H
end L2
namespace G
def gcd (a b : Int) : Int := (Int.gcd a b : Int)
theorem gcd_zero (a : Int) (h : 0 ≤ a) : gcd a 0 = a := by
  unfold gcd; rw [Int.gcd_zero_right]; omega
theorem gcd_abs (a b : Int) : gcd (if a < 0 then -a else a) (if b < 0 then -b else b) = gcd a b := by
  unfold gcd; congr 1
  split <;> split <;> simp [Int.neg_gcd, Int.gcd_neg]
theorem gcd_step (a b : Int) (hb : 0 < b) : gcd b (a % b) = gcd a b := by
  unfold gcd; congr 1
  rw [Int.gcd_comm b]
  have e : a = a % b + (a / b) * b := by have := Int.emod_add_mul_ediv a b; rw [Int.mul_comm] at this; omega
  have h := Int.gcd_add_mul_right_left b (a % b) (a / b)
  rw [← e] at h
  exact h.symm
theorem den_pos (x : Rat) : (0 : Int) < (x.den : Int) := by have := x.den_nz; omega
theorem gcd_den (x : Rat) : gcd x.num x.den = 1 := by
  have h := x.reduced
  have e : Int.gcd x.num x.den = 1 := h
  unfold gcd; rw [e]; rfl
theorem init_spec (a b : Int) (hb : b ≠ 0) : a.fdiv (if b < 0 then -(gcd a b) else gcd a b) = (Rat.divInt a b).num ∧ b.fdiv (if b < 0 then -(gcd a b) else gcd a b) = ((Rat.divInt a b).den : Int) := by
  have gp : 0 < Int.gcd a b := Int.gcd_pos_of_ne_zero_right a hb
  obtain ⟨k, hk⟩ := Int.gcd_dvd_left a b
  obtain ⟨m, hm⟩ := Int.gcd_dvd_right a b
  have gz : (Int.gcd a b : Int) ≠ 0 := by omega
  rw [Rat.num_divInt, Rat.den_divInt, if_neg hb, Int.gcd_comm b a]
  unfold gcd
  generalize hgg : Int.gcd a b = g at *
  have e1 : ∀ z : Int, (g * z).fdiv g = z := fun z => by rw [Int.mul_comm, Int.mul_fdiv_cancel _ gz]
  have e2 : ∀ z : Int, (g * z).fdiv (-(g : Int)) = -z := fun z => by
    have : (g : Int) * z = (-z) * (-(g : Int)) := by rw [Int.neg_mul_neg, Int.mul_comm]
    rw [this, Int.mul_fdiv_cancel _ (by omega)]
  by_cases hs : b < 0
  · rw [if_pos hs, Int.sign_eq_neg_one_of_neg hs]
    constructor
    · conv => lhs; rw [hk, e2]
      have : -1 * a = -k * g := by rw [hk, Int.mul_comm (g:Int) k, Int.neg_mul, Int.neg_mul, Int.one_mul]
      rw [this, Int.mul_ediv_cancel _ gz]
    · conv => lhs; rw [hm, e2]
      have mneg : m < 0 := by
        rcases Int.lt_trichotomy m 0 with h | h | h
        · exact h
        · rw [h] at hm; omega
        · have := Int.mul_pos (show (0:Int) < g by omega) h; omega
      have : b.natAbs = m.natAbs * g := by rw [hm, Int.natAbs_mul, Int.natAbs_natCast, Nat.mul_comm]
      rw [this, Nat.mul_div_cancel _ gp]; omega
  · rw [if_neg hs, Int.sign_eq_one_of_pos (by omega)]
    constructor
    · conv => lhs; rw [hk, e1]
      have : 1 * a = k * g := by rw [hk, Int.mul_comm (g:Int) k, Int.one_mul]
      rw [this, Int.mul_ediv_cancel _ gz]
    · conv => lhs; rw [hm, e1]
      have mpos : 0 < m := by
        rcases Int.lt_trichotomy m 0 with h | h | h
        · have := Int.mul_neg_of_pos_of_neg (show (0:Int) < g by omega) h; omega
        · rw [h] at hm; omega
        · exact h
      have : b.natAbs = m.natAbs * g := by rw [hm, Int.natAbs_mul, Int.natAbs_natCast, Nat.mul_comm]
      rw [this, Nat.mul_div_cancel _ gp]; omega
end G
namespace G
/-! ### how long the numbers grow -/
def Bd (n : Nat) (x : Rat) : Prop := x.num.natAbs ≤ 2 ^ n ∧ x.den ≤ 2 ^ n
theorem pow_le {m n : Nat} (h : m ≤ n) : 2 ^ m ≤ 2 ^ n := Nat.pow_le_pow_right (by decide) h
theorem natAbs_ediv_le (a : Int) (d : Nat) : (a / (d : Int)).natAbs ≤ a.natAbs := by
  rcases Nat.eq_zero_or_pos d with h | h
  · subst h; simp
  · have hd : (0 : Int) < d := by omega
    rcases Int.le_total 0 a with ha | ha
    · have h1 := Int.ediv_nonneg ha (Int.le_of_lt hd)
      have h2 := Int.ediv_le_self (d : Int) ha
      omega
    · have h1 : a / (d : Int) ≤ 0 := Int.ediv_nonpos_of_nonpos_of_neg ha hd
      have h2 : a ≤ a / (d : Int) := by
        rw [Int.le_ediv_iff_mul_le hd]
        have h3 : 0 ≤ (-a) * ((d : Int) - 1) := Int.mul_nonneg (by omega) (by omega)
        rw [Int.neg_mul, Int.mul_sub, Int.mul_one] at h3
        omega
      omega
theorem Bd.divInt {n : Nat} {a b : Int} (ha : a.natAbs ≤ 2 ^ n) (hb : b.natAbs ≤ 2 ^ n) : Bd n (Rat.divInt a b) := by
  constructor
  · rw [Rat.num_divInt]
    refine Nat.le_trans (natAbs_ediv_le _ _) ?_
    rw [Int.natAbs_mul]
    have : b.sign.natAbs ≤ 1 := by
      rcases Int.lt_trichotomy b 0 with h | h | h
      · rw [Int.sign_eq_neg_one_of_neg h]; decide
      · rw [h]; decide
      · rw [Int.sign_eq_one_of_pos h]; decide
    calc b.sign.natAbs * a.natAbs ≤ 1 * a.natAbs := Nat.mul_le_mul_right _ this
      _ ≤ 2 ^ n := by omega
  · rw [Rat.den_divInt]
    split
    · exact Nat.one_le_two_pow
    · exact Nat.le_trans (Nat.div_le_self _ _) hb
end G
namespace G
theorem divInt_nn (n : Int) {d : Int} (h : 0 < d) : 0 ≤ Rat.divInt n d ↔ 0 ≤ n := Rat.divInt_nonneg_iff_of_pos_right h
theorem lt_div {a b c d : Int} (hb : 0 < b) (hd : 0 < d) : Rat.divInt a b < Rat.divInt c d ↔ a * d < c * b := by
  rw [← Rat.not_le, Rat.le_iff_sub_nonneg, Rat.divInt_sub_divInt _ _ (by omega) (by omega), divInt_nn _ (Int.mul_pos hb hd)]
  omega
theorem num_pos_div {a b : Int} (hb : 0 < b) : 0 < (Rat.divInt a b).num ↔ 0 < a := by
  have h1 := divInt_nn (-a) hb
  rw [← Rat.neg_divInt, ← Rat.num_nonneg, Rat.neg_num] at h1
  omega
theorem num_neg_div {a b : Int} (hb : 0 < b) : (Rat.divInt a b).num < 0 ↔ a < 0 := by
  have h1 := divInt_nn a hb
  rw [← Rat.num_nonneg] at h1
  omega
end G
namespace G
open PySem
/-! ### texts -/
theorem str_ext {x y : Str} (h : x.cps.toList = y.cps.toList) : x = y := by
  cases x; cases y
  exact congrArg Str.mk (Array.toList_inj.mp h)
theorem cps_app (x y : Str) : (x ++ y).cps.toList = x.cps.toList ++ y.cps.toList := by
  show (x.cps ++ y.cps).toList = _
  exact Array.toList_append
theorem app_left {x y z : Str} (h : x ++ y = x ++ z) : y = z := by
  have := congrArg (fun u : Str => u.cps.toList) h
  simp only [cps_app] at this
  exact str_ext (List.append_cancel_left this)
theorem app_right {x y z : Str} (h : x ++ y = z ++ y) : x = z := by
  have := congrArg (fun u : Str => u.cps.toList) h
  simp only [cps_app] at this
  exact str_ext (List.append_cancel_right this)
theorem text_next {n : Nat} (h : Str.ofString (toString (n : Int)) = Str.ofString (toString ((n : Int) + 1))) : False := by
  rw [Str.ofString_eq_toList, Str.ofString_eq_toList] at h
  have h1 := congrArg (fun u : Str => u.cps.toList) h
  have h2 : (toString (n : Int)).toList = (toString ((n : Int) + 1)).toList := List.map_inj_right (fun a b e => Char.toNat_inj.mp e) |>.mp h1
  have h3 : ∀ m : Nat, (toString (m : Int)).toList = Nat.toDigits 10 m := fun m => Nat.toList_repr
  rw [h3 n, show ((n : Int) + 1) = ((n + 1 : Nat) : Int) from rfl, h3 (n + 1)] at h2
  have h4 := congrArg (fun l => Nat.ofDigitChars 10 l 0) h2
  simp only [Nat.ofDigitChars_ten_toDigits] at h4
  omega
theorem rep_cps (c n : Nat) : ((List.replicate n #[c]).foldl (· ++ ·) (#[] : Array Nat)).toList = List.replicate n c := by
  have : ∀ (n : Nat) (a : Array Nat), ((List.replicate n #[c]).foldl (· ++ ·) a).toList = a.toList ++ List.replicate n c := by
    intro n
    induction n with
    | zero => intro a; simp
    | succ n ih =>
      intro a
      rw [List.replicate_succ, List.foldl_cons, ih]
      simp [List.replicate_succ]
  simpa using this n #[]
theorem mul_cps (c : Nat) (n : Int) : (Txt.mul ⟨#[c]⟩ n).cps.toList = List.replicate n.toNat c := by
  unfold Txt.mul
  by_cases h1 : n < 1
  · rw [if_pos h1, show n.toNat = 0 by omega]
    rfl
  · rw [if_neg h1]
    by_cases h2 : n = 1
    · subst h2
      rfl
    · rw [if_neg (by simp [h2, Str.length])]
      exact rep_cps c n.toNat
theorem len_cps (x : Str) : x.length = x.cps.toList.length := by show x.cps.size = _; rw [Array.length_toList]
/-! ### the names -/
def sgs : Str := "abcdefghijklmnopqrstuvwxyz0123456789."
def sgAt (i : Int) : Nat := sgs.cps.toList.getD i.toNat 0
def turnK (k c : Int) : Int := (k * (1 + c / 5 % 36) + c / 180) % 37
def nameOf (k c : Int) : Str := if c % 3 = 0 then Txt.mul ⟨#[sgAt (c / 3 % 37)]⟩ (turnK k c + 1) else Txt.mul "x" (c / 3 % 25) ++ ⟨#[sgAt (turnK k c)]⟩ ++ Txt.mul "x" (c / 75 % 25)
theorem sgs_list : sgs.cps.toList = [97, 98, 99, 100, 101, 102, 103, 104, 105, 106, 107, 108, 109, 110, 111, 112, 113, 114, 115, 116, 117, 118, 119, 120, 121, 122, 48, 49, 50, 51, 52, 53, 54, 55, 56, 57, 46] := by decide +kernel
theorem sgAt_some {i : Int} (h0 : 0 ≤ i) (h1 : i < 37) : L2.atI sgs.cps.toList i = some (sgAt i) := by
  obtain ⟨n, rfl⟩ := Int.eq_ofNat_of_zero_le h0
  have hn : n < 37 := by omega
  refine L2.atI_nat ?_
  unfold sgAt
  rw [sgs_list, List.getD_eq_getElem?_getD, Int.toNat_natCast]
  rw [List.getElem?_eq_getElem (by simpa using hn)]
  rfl
theorem sgAt_inj : ∀ i < 37, ∀ j < 37, sgs.cps.toList.getD i 0 = sgs.cps.toList.getD j 0 → i = j := by
  rw [sgs_list]
  decide +kernel
theorem turnK_lt (k c : Int) : 0 ≤ turnK k c ∧ turnK k c < 37 := ⟨Int.emod_nonneg _ (by decide), Int.emod_lt_of_pos _ (by decide)⟩
theorem turnK_ne {k c : Int} (h0 : 0 ≤ k) (h1 : k < 37) : turnK k c ≠ turnK ((k + 1) % 37) c := by
  unfold turnK
  have m1 := Int.emod_nonneg (c / 5) (show (36 : Int) ≠ 0 by decide)
  have m2 := Int.emod_lt_of_pos (c / 5) (show (0 : Int) < 36 by decide)
  generalize c / 5 % 36 = m at *
  generalize c / 180 = d
  by_cases h : k = 36
  · subst h
    rw [show ((36 : Int) + 1) % 37 = 0 by decide]
    omega
  · rw [show (k + 1) % 37 = k + 1 by omega, Int.add_mul]
    generalize k * (1 + m) = u
    omega
theorem nameOf_ne {k c : Int} (h0 : 0 ≤ k) (h1 : k < 37) : nameOf k c ≠ nameOf ((k + 1) % 37) c := by
  intro h
  have hk := turnK_ne (c := c) h0 h1
  obtain ⟨a1, a2⟩ := turnK_lt k c
  obtain ⟨b1, b2⟩ := turnK_lt ((k + 1) % 37) c
  unfold nameOf at h
  split at h
  · have := congrArg (fun u : Str => u.cps.toList.length) h
    simp only [mul_cps, List.length_replicate] at this
    omega
  · have := app_left (app_right h)
    injection this with e
    have e2 : sgAt (turnK k c) = sgAt (turnK ((k + 1) % 37) c) := by simpa using e
    have := sgAt_inj _ (by omega) _ (by omega) e2
    omega
theorem nameOf_len (k c : Int) : (nameOf k c).length ≤ 60 := by
  obtain ⟨a1, a2⟩ := turnK_lt k c
  have h1 := Int.emod_nonneg (c / 3) (show (25 : Int) ≠ 0 by decide)
  have h2 := Int.emod_lt_of_pos (c / 3) (show (0 : Int) < 25 by decide)
  have h3 := Int.emod_nonneg (c / 75) (show (25 : Int) ≠ 0 by decide)
  have h4 := Int.emod_lt_of_pos (c / 75) (show (0 : Int) < 25 by decide)
  unfold nameOf
  rw [len_cps]
  split
  · rw [mul_cps, List.length_replicate]
    omega
  · rw [cps_app, cps_app, show ("x" : Str) = ⟨#[120]⟩ from by decide +kernel, mul_cps, mul_cps, List.length_append, List.length_append, List.length_replicate, List.length_replicate, show ((⟨#[sgAt (turnK k c)]⟩ : Str).cps.toList).length = 1 from rfl]
    omega
end G
namespace G
open PySem L2
/-! ### sizes -/
def Sm (i : Int) : Prop := i.natAbs < 2 ^ 9000
def SmR (x : Rat) : Prop := Sm x.num ∧ Sm (x.den : Int)
theorem Sm.le {a b : Int} (h : Sm b) (l : a.natAbs ≤ b.natAbs) : Sm a := Nat.lt_of_le_of_lt l h
theorem gcd_pos_r (a : Int) {b : Int} (h : b ≠ 0) : 0 < gcd a b := by
  have := Int.gcd_pos_of_ne_zero_right a h
  unfold gcd; omega
theorem gcd_le_r (a : Int) {b : Int} (h : b ≠ 0) : (gcd a b).natAbs ≤ b.natAbs := by
  have := Int.gcd_le_natAbs_right a h
  unfold gcd; omega
theorem Sm.gcd_r (a : Int) {b : Int} (h : b ≠ 0) (s : Sm b) : Sm (gcd a b) := s.le (gcd_le_r a h)
theorem den_ne (x : Rat) : (x.den : Int) ≠ 0 := by have := x.den_nz; omega
/-! ### a Fraction's attributes -/
theorem tb : ¬ (("top" : Str) = "bottom") := by decide +kernel
def ff (t b : Int) : List (Str × V) := [("top", .int t), ("bottom", .int b)]
theorem ff_T (t b : Int) : (ff t b).lookup ("top" : Str) = some (.int t) := rfl
theorem ff_B (t b : Int) : (ff t b).lookup ("bottom" : Str) = some (.int b) := by
  have h : (("bottom" : Str) == "top") = false := by decide +kernel
  show List.lookup ("bottom" : Str) [(("top" : Str), V.int t), ("bottom", V.int b)] = _
  rw [List.lookup_cons, h]
  rfl
theorem ff_no (t b : Int) {m : Str} (h1 : (m == "top") = false) (h2 : (m == "bottom") = false) : (ff t b).lookup m = none := by
  show List.lookup m [(("top" : Str), V.int t), ("bottom", V.int b)] = _
  rw [List.lookup_cons, h1, List.lookup_cons, h2]
  rfl
theorem ff_new (t b : Int) : putF "bottom" (.int b) (putF "top" (.int t) []) = ff t b := by
  show (if ("top" : Str) = "bottom" then _ else (("top" : Str), V.int t) :: [(("bottom" : Str), V.int b)]) = ff t b
  rw [if_neg tb]
  rfl
/-- a Fraction of the value x stands at p -/
def FrAt (C : Addr) (H : Hp) (p : Addr) (x : Rat) : Prop := ∃ dx, H p = some (.ins C dx (ff x.num x.den))
theorem FrAt.mono {C : Addr} {H H' : Hp} {p : Addr} {x : Rat} (h : FrAt C H p x) (s : Same H H') : FrAt C H' p x := let ⟨dx, e⟩ := h; ⟨dx, s _ _ e⟩
theorem FrAt.up {C : Addr} {H H' : Hp} {p : Addr} {x : Rat} (s : Same H H') (h : FrAt C H p x) : FrAt C H' p x := h.mono s
/-! ### what the program's own rules say of Fractions -/
/-- the class of Fractions -/
structure FrC (K : PySem.W.Frag) (C : Addr) : Prop where
  cl : Cls K C
  nT : NoAttr K C "top"
  nB : NoAttr K C "bottom"
  c1 : PySem.W.findIn K (.ref C) "__class__" = some (some (.builtin "object.__class__"))
  c2 : PySem.W.specialIn K (.builtin "object.__class__") "__get__" = some (some (.builtin "getset_descriptor.__get__"))
  c3 : PySem.W.takesIn K (.builtin "object.__class__") = some true
  c4 : PySem.W.mroIn K C (.type "object") = some true
theorem FrAt.ty {K : PySem.W.Frag} {C : Addr} {H : Hp} {p : Addr} {x : Rat} (F : FrC K C) (h : FrAt C H p x) : TyOf K H (.ref p) (.ref C) := let ⟨_, e⟩ := h; TyOf.ins e F.cl F.c1 F.c2 F.c3 F.c4
def tTop (C : Addr) (ta : TE) : TE := fun σ H Q => ta σ H fun v H1 => ∃ p x, v = .ref p ∧ FrAt C H1 p x ∧ Q (.int x.num) H1
def tBot (C : Addr) (ta : TE) : TE := fun σ H Q => ta σ H fun v H1 => ∃ p x, v = .ref p ∧ FrAt C H1 p x ∧ Q (.int x.den) H1
section
variable {X : Cx} {C : Addr} {e o : Expr} {ta : TE} {pos : Pos}
/-- readings may be weakened -/
def Mono (t : TE) : Prop := ∀ σ H Q Q', (∀ v H1, Q v H1 → Q' v H1) → t σ H Q → t σ H Q'
theorem pe_top (F : FrC X.K C) (he : PE X e ta) (hb : attributeBase e "top" X.env (eval e X.env) = eval e X.env := by rfl) : PE X (.Attribute e "top" pos) (tTop C ta) := by
  intro pins s σ H Q I h
  refine attr_of hb (thn (he pins s σ H _ I h) fun u s1 ⟨v, H1, I1, r, p, x, e, ⟨dx, hp⟩, q⟩ => ?_)
  subst e
  obtain rfl : u = Value.ref p := r
  exact getattr_ok I1 hp F.cl F.nT (ff_T _ _) fun u' s' I' r' => ⟨_, H1, I', r', q⟩
theorem pe_bot (F : FrC X.K C) (he : PE X e ta) (hb : attributeBase e "bottom" X.env (eval e X.env) = eval e X.env := by rfl) : PE X (.Attribute e "bottom" pos) (tBot C ta) := by
  intro pins s σ H Q I h
  refine attr_of hb (thn (he pins s σ H _ I h) fun u s1 ⟨v, H1, I1, r, p, x, e, ⟨dx, hp⟩, q⟩ => ?_)
  subst e
  obtain rfl : u = Value.ref p := r
  exact getattr_ok I1 hp F.cl F.nB (ff_B _ _) fun u' s' I' r' => ⟨_, H1, I', r', q⟩
/-- x.m(..) of a Fraction -/
def tFrM (C : Addr) (sp : Sp) (E : XK) (ta : TE) (t : TA) : TE := fun σ H Q => ta σ H fun v H1 => ∃ p x, v = .ref p ∧ FrAt C H1 p x ∧ t σ H1 fun vs H2 => sp (v :: vs) H2 Q E
variable {CX : CXT} {k j : Nat} {ps : List Str} {sp : Sp} {E : XK} {m : Str} {p apos : Pos} {es : List Expr} {t : TA}
theorem pe_frm {pl : Sem Bool} (F : FrC X.K C) (he : PE X o ta) (M : MtB X.prog X.w X.K X.mg X.base CX C m k ps sp) (hr : Room j X.A) (hx : Passes CX X E) (ha : PA X (e :: es) t) (hj : k ≤ j := by decide) (h1 : (m == "top") = false := by decide +kernel) (h2 : (m == "bottom") = false := by decide +kernel)
    (hst : starEach (e :: es) X.env = (false, eval e X.env) :: starEach es X.env := by rfl) (hpl : (backTo pos (starEach es X.env)).any (·.1) = false := by rfl)
    (ht : eval (.Call (.Attribute o m apos) (e :: es) [] pos) X.env = (do
      let ov ← eval o X.env
      standAt apos.atName
      let (f, first) ← holding [ov] (getMethod ov m pl)
      callWith pos f first (backTo pos (starEach (e :: es) X.env)) (backToKw pos (keywordEach [] X.env))) := by rfl) : PE X (.Call (.Attribute o m apos) (e :: es) [] pos) (tFrM C sp E ta t) := by
  obtain ⟨f, fd, hm, b, d⟩ := M
  intro pins s σ H Q I h
  refine PySem.W.methodCall_KW (pl := pl) (thn (he pins s σ H _ I h) fun u s1 ⟨v, H1, I1, rx, a, x, ex, ⟨dx, ea⟩, q⟩ => ?_) ht
  subst ex
  obtain rfl : u = Value.ref a := rx
  refine getmeth_ok I1 ea F.cl hm (ff_no _ _ h1 h2) ?_
  refine PySem.W.callWith_K (first := [.ref a]) (h₀ := X.base) I.ok.mod.kin hm.kp (thn (ha pos pins s1 σ H1 _ I1 q) fun us s2 ⟨vs, H2, I2, r, q2⟩ => ⟨I2.kIn, ?_⟩) hst hpl
  exact run_fn (us := .ref a :: us) (vs := .ref a :: vs) (dvs := []) d (hr.mono hj) b .nil hx I2 (.cons rfl r) (by simpa using q2)
theorem pe_frm0 {pl : Sem Bool} (F : FrC X.K C) (he : PE X o ta) (M : MtB X.prog X.w X.K X.mg X.base CX C m k ps sp) (hr : Room j X.A) (hx : Passes CX X E) (hj : k ≤ j := by decide) (h1 : (m == "top") = false := by decide +kernel) (h2 : (m == "bottom") = false := by decide +kernel)
    (ht : eval (.Call (.Attribute o m apos) [] [] pos) X.env = (do
      let ov ← eval o X.env
      standAt apos.atName
      let (f, first) ← holding [ov] (getMethod ov m pl)
      callWith pos f first (backTo pos (starEach [] X.env)) (backToKw pos (keywordEach [] X.env))) := by rfl) : PE X (.Call (.Attribute o m apos) [] [] pos) (tFrM C sp E ta tNil) := by
  obtain ⟨f, fd, hm, b, d⟩ := M
  intro pins s σ H Q I h
  refine PySem.W.methodCall_KW (pl := pl) (thn (he pins s σ H _ I h) fun u s1 ⟨v, H1, I1, rx, a, x, ex, ⟨dx, ea⟩, q⟩ => ?_) ht
  subst ex
  obtain rfl : u = Value.ref a := rx
  refine getmeth_ok I1 ea F.cl hm (ff_no _ _ h1 h2) ?_
  exact PySem.W.callWith_K0 (first := [.ref a]) I1.kIn hm.kp (run_fn (us := [.ref a]) (vs := [.ref a]) (dvs := []) d (hr.mono hj) b .nil hx I1 (.cons rfl .nil) q)
/-! ### promises -/
def spDiv : Sp := fun vs H Q _ => ∃ a b : Int, vs = [.int a, .int b] ∧ Q (.int (gcd a b)) H
def spInit (C : Addr) : Sp := fun vs H Q _ => ∃ (p dx : Addr) (a b : Int), vs = [.ref p, .int a, .int b] ∧ H p = some (.ins C dx []) ∧ b ≠ 0 ∧ Sm b ∧ ∀ H', H' = upd H p (.ins C dx (ff (Rat.divInt a b).num (Rat.divInt a b).den)) → Q .non H'
/-- a new Fraction of the value x comes -/
def NewFr (C : Addr) (H : Hp) (Q : VK) (x : Rat) : Prop := ∀ (r : Addr) (H' : Hp), H r = none → Same H H' → FrAt C H' r x → Q (.ref r) H'
def spLow (C : Addr) : Sp := fun vs H Q _ => ∃ t b : Int, vs = [.int t, .int b] ∧ ∀ (r dx : Addr) (H' : Hp), H r = none → Same H H' → H' r = some (.ins C dx (ff t b)) → Q (.ref r) H'
def spR2 (C : Addr) (f : Rat → Rat → Rat) (pre : Rat → Rat → Prop) : Sp := fun vs H Q _ => ∃ (p q : Addr) (x y : Rat), vs = [.ref p, .ref q] ∧ FrAt C H p x ∧ FrAt C H q y ∧ SmR x ∧ SmR y ∧ pre x y ∧ NewFr C H Q (f x y)
/-- a Fraction made -/
theorem mk_fr {H : Hp} {a b : Int} {Q : VK} {E : XK} {x dx : Addr} (nx : H x = none) (nd : H dx = none) (hb : b ≠ 0) (hs : Sm b) (k : ∀ H' : Hp, Same H H' → FrAt C H' x (Rat.divInt a b) → Q .non H') :
    spInit C [.ref x, .int a, .int b] (upd (upd H dx (.own x)) x (.ins C dx [])) Q E := by
  refine ⟨x, dx, a, b, rfl, upd_same, hb, hs, fun H' e => ?_⟩
  subst e
  refine k _ (fun c o e => ?_) ⟨dx, upd_same⟩
  rw [upd_ne (ne_of_none e nx), upd_ne (ne_of_none e nx), upd_ne (ne_of_none e nd)]
  exact e
/-- Fraction(a, b) -/
def tMkFr (C : Addr) (dvs : List V) (t : TA) : TE := fun σ H Q => t σ H fun vs H1 => ∃ a b : Int, vs ++ dvs = [.int a, .int b] ∧ b ≠ 0 ∧ Sm b ∧ NewFr C H1 Q (Rat.divInt a b)
theorem pe_mkfr {dvs : List V} {x : Str} (F : MkB X.prog X.w X.K X.mg X.base CX C k ["self", "top", "bottom"] dvs (spInit C)) (hr : Room j X.A) (hm : X.mg x = some (.ref C)) (hx : Passes CX X E) (ha : PA X (e :: es) t) (hj : k + 1 ≤ j := by decide) (hg : Gl X x := by rfl) (hdb : (x == ("__debug__" : Str)) = false := by decide)
    (he : starEach (e :: es) X.env = (false, eval e X.env) :: starEach es X.env := by rfl) (hpl : (backTo pos (starEach es X.env)).any (·.1) = false := by rfl) : PE X (.Call (.Name x p) (e :: es) [] pos) (tMkFr C dvs t) := by
  obtain ⟨f, fd, ds, M, b, c, d⟩ := F
  intro pins s σ H Q I h
  refine wpAny_Call_Name_kw (ld_glob I hg hm ?_ hdb)
  refine PySem.W.callWith_K (h₀ := X.base) I.ok.mod.kin M.kp (thn (ha pos pins s σ H _ I h) fun us s1 ⟨vs, H1, I1, r, a', b', ev, hb, hs, q⟩ => ⟨I1.kIn, ?_⟩) he hpl
  refine run_make M d (hr.mono hj) b c hx I1 r fun y dx n1 n2 _ => ?_
  rw [ev]
  exact mk_fr n1 n2 hb hs fun H' s' f' => ⟨rfl, q y H' n1 s' f'⟩
/-- isinstance(e, Fraction) of a Fraction -/
def tIsFr (C : Addr) (ta : TE) : TE := fun σ H Q => ta σ H fun v H1 => ∃ p x, v = .ref p ∧ FrAt C H1 p x ∧ Q (.bl true) H1
end
end G
namespace G
open PySem L2
def topS (i : Nat) : Stmt := PySem.Challenge.pw_gainstream_k09_ways_of_a_turn.main.body.getD i (.Pass ⟨0, 0, 0, 0⟩)
abbrev s_divisor : Stmt := topS 6
abbrev s_name_at : Stmt := topS 9
abbrev s_law_cell_at : Stmt := topS 15
abbrev s_law_whole : Stmt := topS 16
abbrev s_law_divisor : Stmt := topS 17
abbrev s_law_is : Stmt := topS 18
abbrev s_law_name : Stmt := topS 19
abbrev s_law_pair : Stmt := topS 20
abbrev s_law_made : Stmt := topS 21
abbrev s_law_maybe : Stmt := topS 22
abbrev s_law_is_way : Stmt := topS 23
abbrev s_law_behind : Stmt := topS 24
abbrev s_law : Stmt := topS 25
abbrev s_Fraction_init : Stmt := inClass (topS 7) 0
abbrev s_Fraction_under : Stmt := inClass (topS 7) 5
abbrev s_Fraction_sign : Stmt := inClass (topS 7) 7
abbrev s_Way_init : Stmt := inClass (topS 10) 0
abbrev s_Way_may_stay : Stmt := inClass (topS 10) 1
abbrev s_Way_at_turn : Stmt := inClass (topS 10) 4
abbrev s_Growing_init : Stmt := inClass (topS 11) 0
abbrev s_Growing_at_turn : Stmt := inClass (topS 11) 2
abbrev s_Leaking_init : Stmt := inClass (topS 12) 0
abbrev s_Leaking_at_turn : Stmt := inClass (topS 12) 2
abbrev s_Store_init : Stmt := inClass (topS 13) 0
abbrev s_Store_may_stay : Stmt := inClass (topS 13) 1
abbrev s_Store_at_turn : Stmt := inClass (topS 13) 2
abbrev s_NoWay_init : Stmt := inClass (topS 4) 0
/-- where the classes lie -/
structure Ad where
  Fraction : Addr
  Way : Addr
  Growing : Addr
  Leaking : Addr
  Store : Addr
  GainError : Addr
  NoNumber : Addr
  NoWay : Addr
/-- what the walk asks of the text as the top has made it -/
structure TX (K : PySem.W.Frag) (mg : Str → Option Value) (a : Ad) : Prop where
  d_divisor : FDe K mg "divisor" s_divisor ["one", "other"]
  d_name_at : FDe K mg "name_at" s_name_at ["name", "turn"]
  d_law_cell_at : FDe K mg "_law_cell_at" s_law_cell_at ["_law_script", "_law_k"]
  d_law_whole : FDe K mg "_law_whole" s_law_whole ["_law_found"]
  d_law_divisor : FDe K mg "_law_divisor" s_law_divisor ["_law_one", "_law_other"]
  d_law_is : FDe K mg "_law_is" s_law_is ["_law_found", "_law_top", "_law_bottom"]
  d_law_name : FDe K mg "_law_name" s_law_name ["_law_k", "_law_cell"]
  d_law_pair : FDe K mg "_law_pair" s_law_pair ["_law_cell"]
  d_law_made : FDe K mg "_law_made" s_law_made ["_law_kind", "_law_names", "_law_part", "_law_high", "_law_cost"]
  d_law_maybe : FDe K mg "_law_maybe" s_law_maybe ["_law_pair_here"]
  d_law_is_way : FDe K mg "_law_is_way" s_law_is_way ["_law_way", "_law_kind", "_law_names", "_law_part", "_law_high", "_law_cost"]
  d_law_behind : FDe K mg "_law_behind" s_law_behind ["_law_kind", "_law_names", "_law_turn"]
  d_law : FDe K mg "law" s_law ["_law_script"]
  cl_Fraction : Cls K a.Fraction
  mg_Fraction : mg "Fraction" = some (.ref a.Fraction)
  na_Fraction_top : NoAttr K a.Fraction "top"
  na_Fraction_bottom : NoAttr K a.Fraction "bottom"
  i_Fraction : IDe K a.Fraction "Fraction.__init__" s_Fraction_init ["self", "top", "bottom"] [[], [V.int 1]]
  m_Fraction_under : MDe K a.Fraction "under" "Fraction.under" s_Fraction_under ["self", "other"]
  m_Fraction_sign : MDe K a.Fraction "sign" "Fraction.sign" s_Fraction_sign ["self"]
  c1_Fraction : PySem.W.findIn K (.ref a.Fraction) "__class__" = some (some (.builtin "object.__class__"))
  c4_Fraction : PySem.W.mroIn K a.Fraction (.type "object") = some true
  cl_Way : Cls K a.Way
  mg_Way : mg "Way" = some (.ref a.Way)
  na_Way_name : NoAttr K a.Way "name"
  na_Way_start : NoAttr K a.Way "start"
  na_Way_goal : NoAttr K a.Way "goal"
  na_Way_high : NoAttr K a.Way "high"
  na_Way_cost : NoAttr K a.Way "cost"
  i_Way : IDe K a.Way "Way.__init__" s_Way_init ["self", "name", "start", "goal", "high", "cost"] [[]]
  c_Way : CDe K a.Way "Way.__init__" s_Way_init ["self", "name", "start", "goal", "high", "cost"]
  m_Way_may_stay : MDe K a.Way "may_stay" "Way.may_stay" s_Way_may_stay ["self"]
  m_Way_at_turn : MDe K a.Way "at_turn" "Way.at_turn" s_Way_at_turn ["self", "turn"]
  c1_Way : PySem.W.findIn K (.ref a.Way) "__class__" = some (some (.builtin "object.__class__"))
  c4_Way : PySem.W.mroIn K a.Way (.type "object") = some true
  cl_Growing : Cls K a.Growing
  mg_Growing : mg "Growing" = some (.ref a.Growing)
  na_Growing_rate : NoAttr K a.Growing "rate"
  na_Growing_name : NoAttr K a.Growing "name"
  na_Growing_start : NoAttr K a.Growing "start"
  na_Growing_goal : NoAttr K a.Growing "goal"
  na_Growing_high : NoAttr K a.Growing "high"
  na_Growing_cost : NoAttr K a.Growing "cost"
  i_Growing : IDe K a.Growing "Growing.__init__" s_Growing_init ["self", "name", "start", "goal", "rate", "high", "cost"] [[]]
  m_Growing_at_turn : MDe K a.Growing "at_turn" "Growing.at_turn" s_Growing_at_turn ["self", "turn"]
  m_Growing_may_stay : MDe K a.Growing "may_stay" "Way.may_stay" s_Way_may_stay ["self"]
  c1_Growing : PySem.W.findIn K (.ref a.Growing) "__class__" = some (some (.builtin "object.__class__"))
  c4_Growing : PySem.W.mroIn K a.Growing (.type "object") = some true
  cl_Leaking : Cls K a.Leaking
  mg_Leaking : mg "Leaking" = some (.ref a.Leaking)
  na_Leaking_loss : NoAttr K a.Leaking "loss"
  na_Leaking_name : NoAttr K a.Leaking "name"
  na_Leaking_start : NoAttr K a.Leaking "start"
  na_Leaking_goal : NoAttr K a.Leaking "goal"
  na_Leaking_high : NoAttr K a.Leaking "high"
  na_Leaking_cost : NoAttr K a.Leaking "cost"
  i_Leaking : IDe K a.Leaking "Leaking.__init__" s_Leaking_init ["self", "name", "start", "goal", "loss", "high", "cost"] [[]]
  c_Leaking : CDe K a.Leaking "Leaking.__init__" s_Leaking_init ["self", "name", "start", "goal", "loss", "high", "cost"]
  m_Leaking_at_turn : MDe K a.Leaking "at_turn" "Leaking.at_turn" s_Leaking_at_turn ["self", "turn"]
  m_Leaking_may_stay : MDe K a.Leaking "may_stay" "Way.may_stay" s_Way_may_stay ["self"]
  c1_Leaking : PySem.W.findIn K (.ref a.Leaking) "__class__" = some (some (.builtin "object.__class__"))
  c4_Leaking : PySem.W.mroIn K a.Leaking (.type "object") = some true
  cl_Store : Cls K a.Store
  mg_Store : mg "Store" = some (.ref a.Store)
  na_Store_loss : NoAttr K a.Store "loss"
  na_Store_name : NoAttr K a.Store "name"
  na_Store_start : NoAttr K a.Store "start"
  na_Store_goal : NoAttr K a.Store "goal"
  na_Store_high : NoAttr K a.Store "high"
  na_Store_cost : NoAttr K a.Store "cost"
  i_Store : IDe K a.Store "Store.__init__" s_Store_init ["self", "name", "place", "loss", "high", "cost"] [[]]
  m_Store_may_stay : MDe K a.Store "may_stay" "Store.may_stay" s_Store_may_stay ["self"]
  m_Store_at_turn : MDe K a.Store "at_turn" "Store.at_turn" s_Store_at_turn ["self", "turn"]
  c1_Store : PySem.W.findIn K (.ref a.Store) "__class__" = some (some (.builtin "object.__class__"))
  c4_Store : PySem.W.mroIn K a.Store (.type "object") = some true
  c2 : PySem.W.specialIn K (.builtin "object.__class__") "__get__" = some (some (.builtin "getset_descriptor.__get__"))
  c3 : PySem.W.takesIn K (.builtin "object.__class__") = some true
  mg_GainError : mg "GainError" = some (.ref a.GainError)
  mg_NoNumber : mg "NoNumber" = some (.ref a.NoNumber)
  ex_NoNumber : PySem.W.excIn K a.NoNumber bmV "ValueError.__new__" = true
  mg_NoWay : mg "NoWay" = some (.ref a.NoWay)
  k_int_Fraction : PySem.W.kitOne K (.type "int") (.ref a.Fraction) = some false
  k_str_Fraction : PySem.W.kitOne K (.type "str") (.ref a.Fraction) = some false
  k_bool_Fraction : PySem.W.kitOne K (.type "bool") (.ref a.Fraction) = some false
  k_none_Fraction : PySem.W.kitOne K (.type "NoneType") (.ref a.Fraction) = some false
  k_list_Fraction : PySem.W.kitOne K (.type "list") (.ref a.Fraction) = some false
  k_dict_Fraction : PySem.W.kitOne K (.type "dict") (.ref a.Fraction) = some false
  k_tuple_Fraction : PySem.W.kitOne K (.type "tuple") (.ref a.Fraction) = some false
  k_Fraction_Fraction : PySem.W.kitOne K (.ref a.Fraction) (.ref a.Fraction) = some true
  k_Way_Fraction : PySem.W.kitOne K (.ref a.Way) (.ref a.Fraction) = some false
  k_Growing_Fraction : PySem.W.kitOne K (.ref a.Growing) (.ref a.Fraction) = some false
  k_Leaking_Fraction : PySem.W.kitOne K (.ref a.Leaking) (.ref a.Fraction) = some false
  k_Store_Fraction : PySem.W.kitOne K (.ref a.Store) (.ref a.Fraction) = some false
  k_int_Growing : PySem.W.kitOne K (.type "int") (.ref a.Growing) = some false
  k_str_Growing : PySem.W.kitOne K (.type "str") (.ref a.Growing) = some false
  k_bool_Growing : PySem.W.kitOne K (.type "bool") (.ref a.Growing) = some false
  k_none_Growing : PySem.W.kitOne K (.type "NoneType") (.ref a.Growing) = some false
  k_list_Growing : PySem.W.kitOne K (.type "list") (.ref a.Growing) = some false
  k_dict_Growing : PySem.W.kitOne K (.type "dict") (.ref a.Growing) = some false
  k_tuple_Growing : PySem.W.kitOne K (.type "tuple") (.ref a.Growing) = some false
  k_Fraction_Growing : PySem.W.kitOne K (.ref a.Fraction) (.ref a.Growing) = some false
  k_Way_Growing : PySem.W.kitOne K (.ref a.Way) (.ref a.Growing) = some false
  k_Growing_Growing : PySem.W.kitOne K (.ref a.Growing) (.ref a.Growing) = some true
  k_Leaking_Growing : PySem.W.kitOne K (.ref a.Leaking) (.ref a.Growing) = some false
  k_Store_Growing : PySem.W.kitOne K (.ref a.Store) (.ref a.Growing) = some false
  k_int_Leaking : PySem.W.kitOne K (.type "int") (.ref a.Leaking) = some false
  k_str_Leaking : PySem.W.kitOne K (.type "str") (.ref a.Leaking) = some false
  k_bool_Leaking : PySem.W.kitOne K (.type "bool") (.ref a.Leaking) = some false
  k_none_Leaking : PySem.W.kitOne K (.type "NoneType") (.ref a.Leaking) = some false
  k_list_Leaking : PySem.W.kitOne K (.type "list") (.ref a.Leaking) = some false
  k_dict_Leaking : PySem.W.kitOne K (.type "dict") (.ref a.Leaking) = some false
  k_tuple_Leaking : PySem.W.kitOne K (.type "tuple") (.ref a.Leaking) = some false
  k_Fraction_Leaking : PySem.W.kitOne K (.ref a.Fraction) (.ref a.Leaking) = some false
  k_Way_Leaking : PySem.W.kitOne K (.ref a.Way) (.ref a.Leaking) = some false
  k_Growing_Leaking : PySem.W.kitOne K (.ref a.Growing) (.ref a.Leaking) = some false
  k_Leaking_Leaking : PySem.W.kitOne K (.ref a.Leaking) (.ref a.Leaking) = some true
  k_Store_Leaking : PySem.W.kitOne K (.ref a.Store) (.ref a.Leaking) = some true
  k_int_Store : PySem.W.kitOne K (.type "int") (.ref a.Store) = some false
  k_str_Store : PySem.W.kitOne K (.type "str") (.ref a.Store) = some false
  k_bool_Store : PySem.W.kitOne K (.type "bool") (.ref a.Store) = some false
  k_none_Store : PySem.W.kitOne K (.type "NoneType") (.ref a.Store) = some false
  k_list_Store : PySem.W.kitOne K (.type "list") (.ref a.Store) = some false
  k_dict_Store : PySem.W.kitOne K (.type "dict") (.ref a.Store) = some false
  k_tuple_Store : PySem.W.kitOne K (.type "tuple") (.ref a.Store) = some false
  k_Fraction_Store : PySem.W.kitOne K (.ref a.Fraction) (.ref a.Store) = some false
  k_Way_Store : PySem.W.kitOne K (.ref a.Way) (.ref a.Store) = some false
  k_Growing_Store : PySem.W.kitOne K (.ref a.Growing) (.ref a.Store) = some false
  k_Leaking_Store : PySem.W.kitOne K (.ref a.Leaking) (.ref a.Store) = some false
  k_Store_Store : PySem.W.kitOne K (.ref a.Store) (.ref a.Store) = some true
  k_int_Way : PySem.W.kitOne K (.type "int") (.ref a.Way) = some false
  k_str_Way : PySem.W.kitOne K (.type "str") (.ref a.Way) = some false
  k_bool_Way : PySem.W.kitOne K (.type "bool") (.ref a.Way) = some false
  k_none_Way : PySem.W.kitOne K (.type "NoneType") (.ref a.Way) = some false
  k_list_Way : PySem.W.kitOne K (.type "list") (.ref a.Way) = some false
  k_dict_Way : PySem.W.kitOne K (.type "dict") (.ref a.Way) = some false
  k_tuple_Way : PySem.W.kitOne K (.type "tuple") (.ref a.Way) = some false
  k_Fraction_Way : PySem.W.kitOne K (.ref a.Fraction) (.ref a.Way) = some false
  k_Way_Way : PySem.W.kitOne K (.ref a.Way) (.ref a.Way) = some true
  k_Growing_Way : PySem.W.kitOne K (.ref a.Growing) (.ref a.Way) = some true
  k_Leaking_Way : PySem.W.kitOne K (.ref a.Leaking) (.ref a.Way) = some true
  k_Store_Way : PySem.W.kitOne K (.ref a.Store) (.ref a.Way) = some true
  k_int_bool : PySem.W.kitOne K (.type "int") (.type "bool") = some false
  k_str_bool : PySem.W.kitOne K (.type "str") (.type "bool") = some false
  k_bool_bool : PySem.W.kitOne K (.type "bool") (.type "bool") = some true
  k_none_bool : PySem.W.kitOne K (.type "NoneType") (.type "bool") = some false
  k_list_bool : PySem.W.kitOne K (.type "list") (.type "bool") = some false
  k_dict_bool : PySem.W.kitOne K (.type "dict") (.type "bool") = some false
  k_tuple_bool : PySem.W.kitOne K (.type "tuple") (.type "bool") = some false
  k_Fraction_bool : PySem.W.kitOne K (.ref a.Fraction) (.type "bool") = some false
  k_Way_bool : PySem.W.kitOne K (.ref a.Way) (.type "bool") = some false
  k_Growing_bool : PySem.W.kitOne K (.ref a.Growing) (.type "bool") = some false
  k_Leaking_bool : PySem.W.kitOne K (.ref a.Leaking) (.type "bool") = some false
  k_Store_bool : PySem.W.kitOne K (.ref a.Store) (.type "bool") = some false
  k_int_int : PySem.W.kitOne K (.type "int") (.type "int") = some true
  k_str_int : PySem.W.kitOne K (.type "str") (.type "int") = some false
  k_bool_int : PySem.W.kitOne K (.type "bool") (.type "int") = some true
  k_none_int : PySem.W.kitOne K (.type "NoneType") (.type "int") = some false
  k_list_int : PySem.W.kitOne K (.type "list") (.type "int") = some false
  k_dict_int : PySem.W.kitOne K (.type "dict") (.type "int") = some false
  k_tuple_int : PySem.W.kitOne K (.type "tuple") (.type "int") = some false
  k_Fraction_int : PySem.W.kitOne K (.ref a.Fraction) (.type "int") = some false
  k_Way_int : PySem.W.kitOne K (.ref a.Way) (.type "int") = some false
  k_Growing_int : PySem.W.kitOne K (.ref a.Growing) (.type "int") = some false
  k_Leaking_int : PySem.W.kitOne K (.ref a.Leaking) (.type "int") = some false
  k_Store_int : PySem.W.kitOne K (.ref a.Store) (.type "int") = some false
  k_int_str : PySem.W.kitOne K (.type "int") (.type "str") = some false
  k_str_str : PySem.W.kitOne K (.type "str") (.type "str") = some true
  k_bool_str : PySem.W.kitOne K (.type "bool") (.type "str") = some false
  k_none_str : PySem.W.kitOne K (.type "NoneType") (.type "str") = some false
  k_list_str : PySem.W.kitOne K (.type "list") (.type "str") = some false
  k_dict_str : PySem.W.kitOne K (.type "dict") (.type "str") = some false
  k_tuple_str : PySem.W.kitOne K (.type "tuple") (.type "str") = some false
  k_Fraction_str : PySem.W.kitOne K (.ref a.Fraction) (.type "str") = some false
  k_Way_str : PySem.W.kitOne K (.ref a.Way) (.type "str") = some false
  k_Growing_str : PySem.W.kitOne K (.ref a.Growing) (.type "str") = some false
  k_Leaking_str : PySem.W.kitOne K (.ref a.Leaking) (.type "str") = some false
  k_Store_str : PySem.W.kitOne K (.ref a.Store) (.type "str") = some false
  z_abs : mg "abs" = none
  z_bool : mg "bool" = none
  z_int : mg "int" = none
  z_isinstance : mg "isinstance" = none
  z_len : mg "len" = none
  z_min : mg "min" = none
  z_range : mg "range" = none
  z_str : mg "str" = none
section
variable {P : Program} {w : World} {K : PySem.W.Frag} {mg : Str → Option Value} {base : Heap} {a : Ad}
theorem sc_divisor : FnScope ["one", "other", "rest"] ["one", "other"] (defScope s_divisor) := ⟨rfl, rfl, rfl, by decide +kernel, rfl, by decide +kernel, by decide +kernel⟩
theorem sc_name_at : FnScope ["name", "turn"] ["name", "turn"] (defScope s_name_at) := ⟨rfl, rfl, rfl, by decide +kernel, rfl, by decide +kernel, by decide +kernel⟩
theorem sc_law_cell_at : FnScope ["_law_script", "_law_k"] ["_law_script", "_law_k"] (defScope s_law_cell_at) := ⟨rfl, rfl, rfl, by decide +kernel, rfl, by decide +kernel, by decide +kernel⟩
theorem sc_law_whole : FnScope ["_law_found"] ["_law_found"] (defScope s_law_whole) := ⟨rfl, rfl, rfl, by decide +kernel, rfl, by decide +kernel, by decide +kernel⟩
theorem sc_law_divisor : FnScope ["_law_one", "_law_other", "_law_rest"] ["_law_one", "_law_other"] (defScope s_law_divisor) := ⟨rfl, rfl, rfl, by decide +kernel, rfl, by decide +kernel, by decide +kernel⟩
theorem sc_law_is : FnScope ["_law_found", "_law_top", "_law_bottom"] ["_law_found", "_law_top", "_law_bottom"] (defScope s_law_is) := ⟨rfl, rfl, rfl, by decide +kernel, rfl, by decide +kernel, by decide +kernel⟩
theorem sc_law_name : FnScope ["_law_k", "_law_cell", "_law_signs"] ["_law_k", "_law_cell"] (defScope s_law_name) := ⟨rfl, rfl, rfl, by decide +kernel, rfl, by decide +kernel, by decide +kernel⟩
theorem sc_law_pair : FnScope ["_law_cell"] ["_law_cell"] (defScope s_law_pair) := ⟨rfl, rfl, rfl, by decide +kernel, rfl, by decide +kernel, by decide +kernel⟩
theorem sc_law_made : FnScope ["_law_kind", "_law_names", "_law_part", "_law_high", "_law_cost", "_law_name_here", "_law_start", "_law_goal"] ["_law_kind", "_law_names", "_law_part", "_law_high", "_law_cost"] (defScope s_law_made) := ⟨rfl, rfl, rfl, by decide +kernel, rfl, by decide +kernel, by decide +kernel⟩
theorem sc_law_maybe : FnScope ["_law_pair_here"] ["_law_pair_here"] (defScope s_law_maybe) := ⟨rfl, rfl, rfl, by decide +kernel, rfl, by decide +kernel, by decide +kernel⟩
theorem sc_law_is_way : FnScope ["_law_way", "_law_kind", "_law_names", "_law_part", "_law_high", "_law_cost", "_law_told", "_law_k", "_law_classes"] ["_law_way", "_law_kind", "_law_names", "_law_part", "_law_high", "_law_cost"] (defScope s_law_is_way) := ⟨rfl, rfl, rfl, by decide +kernel, rfl, by decide +kernel, by decide +kernel⟩
theorem sc_law_behind : FnScope ["_law_kind", "_law_names", "_law_turn", "_law_name_here", "_law_start", "_law_goal", "_law_further"] ["_law_kind", "_law_names", "_law_turn"] (defScope s_law_behind) := ⟨rfl, rfl, rfl, by decide +kernel, rfl, by decide +kernel, by decide +kernel⟩
theorem sc_law : FnScope ["_law_script", "_law_kind", "_law_shape", "_law_k", "_law_names", "_law_part", "_law_high", "_law_cost", "_law_way", "_law_far", "_law_turn", "_law_found", "_law_now", "_law_after"] ["_law_script"] (defScope s_law) := ⟨rfl, rfl, rfl, by decide +kernel, rfl, by decide +kernel, by decide +kernel⟩
theorem sc_Fraction_init : FnScope ["self", "top", "bottom", "common"] ["self", "top", "bottom"] (defScope s_Fraction_init) := ⟨rfl, rfl, rfl, by decide +kernel, rfl, by decide +kernel, by decide +kernel⟩
theorem sc_Fraction_under : FnScope ["self", "other"] ["self", "other"] (defScope s_Fraction_under) := ⟨rfl, rfl, rfl, by decide +kernel, rfl, by decide +kernel, by decide +kernel⟩
theorem sc_Fraction_sign : FnScope ["self"] ["self"] (defScope s_Fraction_sign) := ⟨rfl, rfl, rfl, by decide +kernel, rfl, by decide +kernel, by decide +kernel⟩
theorem sc_Way_init : FnScope ["self", "name", "start", "goal", "high", "cost"] ["self", "name", "start", "goal", "high", "cost"] (defScope s_Way_init) := ⟨rfl, rfl, rfl, by decide +kernel, rfl, by decide +kernel, by decide +kernel⟩
theorem sc_Way_at_turn : FnScope ["self", "turn", "start", "goal"] ["self", "turn"] (defScope s_Way_at_turn) := ⟨rfl, rfl, rfl, by decide +kernel, rfl, by decide +kernel, by decide +kernel⟩
theorem sc_Growing_init : FnScope ["self", "name", "start", "goal", "rate", "high", "cost"] ["self", "name", "start", "goal", "rate", "high", "cost"] (defScope s_Growing_init) := ⟨rfl, rfl, rfl, by decide +kernel, rfl, by decide +kernel, by decide +kernel⟩
theorem sc_Growing_at_turn : FnScope ["self", "turn", "start", "goal"] ["self", "turn"] (defScope s_Growing_at_turn) := ⟨rfl, rfl, rfl, by decide +kernel, rfl, by decide +kernel, by decide +kernel⟩
theorem sc_Leaking_init : FnScope ["self", "name", "start", "goal", "loss", "high", "cost"] ["self", "name", "start", "goal", "loss", "high", "cost"] (defScope s_Leaking_init) := ⟨rfl, rfl, rfl, by decide +kernel, rfl, by decide +kernel, by decide +kernel⟩
theorem sc_Leaking_at_turn : FnScope ["self", "turn", "start", "goal"] ["self", "turn"] (defScope s_Leaking_at_turn) := ⟨rfl, rfl, rfl, by decide +kernel, rfl, by decide +kernel, by decide +kernel⟩
theorem sc_Store_init : FnScope ["self", "name", "place", "loss", "high", "cost"] ["self", "name", "place", "loss", "high", "cost"] (defScope s_Store_init) := ⟨rfl, rfl, rfl, by decide +kernel, rfl, by decide +kernel, by decide +kernel⟩
theorem sc_Store_may_stay : FnScope ["self"] ["self"] (defScope s_Store_may_stay) := ⟨rfl, rfl, rfl, by decide +kernel, rfl, by decide +kernel, by decide +kernel⟩
theorem sc_Store_at_turn : FnScope ["self", "turn", "start", "goal"] ["self", "turn"] (defScope s_Store_at_turn) := ⟨rfl, rfl, rfl, by decide +kernel, rfl, by decide +kernel, by decide +kernel⟩
end
end G
open PySem L2 in
local macro_rules | `(tactic| walk_at "kit") => `(tactic| first | exact G.TX.k_int_Fraction (by assumption) | exact G.TX.k_str_Fraction (by assumption) | exact G.TX.k_bool_Fraction (by assumption) | exact G.TX.k_none_Fraction (by assumption) | exact G.TX.k_list_Fraction (by assumption) | exact G.TX.k_dict_Fraction (by assumption) | exact G.TX.k_tuple_Fraction (by assumption) | exact G.TX.k_Fraction_Fraction (by assumption) | exact G.TX.k_Way_Fraction (by assumption) | exact G.TX.k_Growing_Fraction (by assumption) | exact G.TX.k_Leaking_Fraction (by assumption) | exact G.TX.k_Store_Fraction (by assumption) | exact G.TX.k_int_Growing (by assumption) | exact G.TX.k_str_Growing (by assumption) | exact G.TX.k_bool_Growing (by assumption) | exact G.TX.k_none_Growing (by assumption) | exact G.TX.k_list_Growing (by assumption) | exact G.TX.k_dict_Growing (by assumption) | exact G.TX.k_tuple_Growing (by assumption) | exact G.TX.k_Fraction_Growing (by assumption) | exact G.TX.k_Way_Growing (by assumption) | exact G.TX.k_Growing_Growing (by assumption) | exact G.TX.k_Leaking_Growing (by assumption) | exact G.TX.k_Store_Growing (by assumption) | exact G.TX.k_int_Leaking (by assumption) | exact G.TX.k_str_Leaking (by assumption) | exact G.TX.k_bool_Leaking (by assumption) | exact G.TX.k_none_Leaking (by assumption) | exact G.TX.k_list_Leaking (by assumption) | exact G.TX.k_dict_Leaking (by assumption) | exact G.TX.k_tuple_Leaking (by assumption) | exact G.TX.k_Fraction_Leaking (by assumption) | exact G.TX.k_Way_Leaking (by assumption) | exact G.TX.k_Growing_Leaking (by assumption) | exact G.TX.k_Leaking_Leaking (by assumption) | exact G.TX.k_Store_Leaking (by assumption) | exact G.TX.k_int_Store (by assumption) | exact G.TX.k_str_Store (by assumption) | exact G.TX.k_bool_Store (by assumption) | exact G.TX.k_none_Store (by assumption) | exact G.TX.k_list_Store (by assumption) | exact G.TX.k_dict_Store (by assumption) | exact G.TX.k_tuple_Store (by assumption) | exact G.TX.k_Fraction_Store (by assumption) | exact G.TX.k_Way_Store (by assumption) | exact G.TX.k_Growing_Store (by assumption) | exact G.TX.k_Leaking_Store (by assumption) | exact G.TX.k_Store_Store (by assumption) | exact G.TX.k_int_Way (by assumption) | exact G.TX.k_str_Way (by assumption) | exact G.TX.k_bool_Way (by assumption) | exact G.TX.k_none_Way (by assumption) | exact G.TX.k_list_Way (by assumption) | exact G.TX.k_dict_Way (by assumption) | exact G.TX.k_tuple_Way (by assumption) | exact G.TX.k_Fraction_Way (by assumption) | exact G.TX.k_Way_Way (by assumption) | exact G.TX.k_Growing_Way (by assumption) | exact G.TX.k_Leaking_Way (by assumption) | exact G.TX.k_Store_Way (by assumption) | exact G.TX.k_int_bool (by assumption) | exact G.TX.k_str_bool (by assumption) | exact G.TX.k_bool_bool (by assumption) | exact G.TX.k_none_bool (by assumption) | exact G.TX.k_list_bool (by assumption) | exact G.TX.k_dict_bool (by assumption) | exact G.TX.k_tuple_bool (by assumption) | exact G.TX.k_Fraction_bool (by assumption) | exact G.TX.k_Way_bool (by assumption) | exact G.TX.k_Growing_bool (by assumption) | exact G.TX.k_Leaking_bool (by assumption) | exact G.TX.k_Store_bool (by assumption) | exact G.TX.k_int_int (by assumption) | exact G.TX.k_str_int (by assumption) | exact G.TX.k_bool_int (by assumption) | exact G.TX.k_none_int (by assumption) | exact G.TX.k_list_int (by assumption) | exact G.TX.k_dict_int (by assumption) | exact G.TX.k_tuple_int (by assumption) | exact G.TX.k_Fraction_int (by assumption) | exact G.TX.k_Way_int (by assumption) | exact G.TX.k_Growing_int (by assumption) | exact G.TX.k_Leaking_int (by assumption) | exact G.TX.k_Store_int (by assumption) | exact G.TX.k_int_str (by assumption) | exact G.TX.k_str_str (by assumption) | exact G.TX.k_bool_str (by assumption) | exact G.TX.k_none_str (by assumption) | exact G.TX.k_list_str (by assumption) | exact G.TX.k_dict_str (by assumption) | exact G.TX.k_tuple_str (by assumption) | exact G.TX.k_Fraction_str (by assumption) | exact G.TX.k_Way_str (by assumption) | exact G.TX.k_Growing_str (by assumption) | exact G.TX.k_Leaking_str (by assumption) | exact G.TX.k_Store_str (by assumption))
open PySem L2 in
local macro_rules | `(tactic| walk_at "sm") => `(tactic| first | assumption | (refine And.left (?_ : G.SmR _); assumption) | (refine And.right (?_ : G.SmR _); assumption))
open PySem L2 in
local macro_rules | `(tactic| walk_at "fa") => `(tactic| first | rfl | assumption | exact True.intro | exact (fun _ h => h) | ((with_reducible show L2.TyOf _ _ _ _); first | exact TyOf.int _ | exact TyOf.str _ | exact TyOf.bl _ | exact TyOf.non | exact G.FrAt.ty (G.TX.fr (by assumption)) (by walk_at "fa")) | ((with_reducible show PySem.W.kitOne _ _ _ = _); walk_at "kit") | ((with_reducible show G.FrAt _ _ _ _); apply G.FrAt.up; assumption; walk_at "fa") | ((with_reducible show L2.SqL _ _ _ _); apply Same.seq; assumption; walk_at "fa") | (show (0 : Int) < _; decide) | (refine (And.intro ?_ ?_ : CDiv _ _) <;> decide) | (refine (And.intro ?_ (And.intro ?_ ?_) : CPow _ _) <;> decide) | exact (PySem.IntMulOk.of_right (by decide)) | exact (PySem.IntMulOk.of_left (by decide)) | (refine (And.intro ?_ ?_ : CMulB _ _) <;> walk_at "sm"))
open PySem L2 in
local macro_rules | `(tactic| walk_at "rd") => `(tactic| repeat (first | apply @Exists.intro V | apply @Exists.intro Int | apply @Exists.intro Addr | apply @Exists.intro Rat | apply @Exists.intro Bool | apply @Exists.intro Value | apply @Exists.intro (List V) | apply @Exists.intro (List (Str × V)) | apply @Exists.intro Str | apply @Exists.intro (List Int) | refine And.intro (by walk_at "fa") ?_ | refine L2.iteT ?_ | refine L2.iteF ?_))
namespace G
open PySem L2
section
variable {P : Program} {w : World} {K : PySem.W.Frag} {mg : Str → Option Value} {base : Heap} {a : Ad}
theorem TX.fr (T : TX K mg a) : FrC K a.Fraction := ⟨T.cl_Fraction, T.na_Fraction_top, T.na_Fraction_bottom, T.c1_Fraction, T.c2, T.c3, T.c4_Fraction⟩
theorem gcd_turn {a b n m : Int} (h : gcd n m = gcd a b) (hm : 0 ≤ m) (p : m ≠ 0) : 0 ≤ n % m ∧ n % m < m ∧ gcd m (n % m) = gcd a b :=
  ⟨Int.emod_nonneg n p, Int.emod_lt_of_pos n (by omega), by rw [gcd_step n m (by omega), h]⟩
theorem ok_divisor (T : TX K mg a) : FnB P w K mg base CX0 "divisor" 1 ["one", "other"] spDiv := by
  refine T.d_divisor.ok sc_divisor (fun vs H Q E h => ?_) (fun f cdv A outer s H vs Q E hr h => ?_)
  · obtain ⟨a, b, rfl, _⟩ := h
    rfl
  · obtain ⟨a, b, rfl, k⟩ := h
    refine ⟨_, (pss_cons (ps_set (i := 0) sc_divisor.nd rfl (Or.inl rfl) (pe_callB call_abs (by rfl) T.z_abs PyProof.Rows.boot_abs (pa_cons (pv 0) pa_nil)))
      (pss_cons (ps_set (i := 1) sc_divisor.nd rfl (Or.inl rfl) (pe_callB call_abs (by rfl) T.z_abs PyProof.Rows.boot_abs (pa_cons (pv 1) pa_nil)))
      (pss_cons (ps_while PassesOwn.never (pt_cmpR op_ne (pv 1) pe_int (nomark _)) (pss_cons (ps_set (i := 2) sc_divisor.nd rfl (Or.inl rfl) (pe_op op_mod (pv 0) (pv 1)))
      (pss_cons (ps_set (i := 0) sc_divisor.nd rfl (Or.inl rfl) (pv 1))
      (pss_one (ps_set (i := 1) sc_divisor.nd rfl (Or.inl rfl) (pv 2))))))
      (pss_one (ps_ret (pv 0)))))), ?_⟩
    refine ⟨_, rfl, _, rfl, _, rfl, _, rfl, ?_⟩
    refine while_by (fun σ H' => ∃ (n m : Int) (r : Option V), σ = [some (.int n), some (.int m), r] ∧ H' = H ∧ 0 ≤ n ∧ 0 ≤ m ∧ gcd n m = gcd a b) (fun σ _ => match σ with | [_, some (.int m), _] => m.toNat | _ => 0) ?_ ?_ ?_
    · refine ⟨_, _, _, rfl, rfl, ?_, ?_, gcd_abs a b⟩ <;> split <;> omega
    · rintro σ H' ⟨n, m, r, rfl, rfl, hn, hm, hg⟩
      refine ⟨_, rfl, rfl, _, rfl, ?_⟩
      by_cases z : m = 0
      · subst z
        refine iteNS rfl ?_
        refine ⟨_, rfl, ?_⟩
        rw [gcd_zero n hn] at hg
        rw [hg]
        exact k
      · refine iteC (by rw [neV z]; rfl) ?_
        obtain ⟨g1, g2, g3⟩ := gcd_turn hg hm z
        refine ⟨_, rfl, _, rfl, _, _, rfl, rfl, (by show (0 : Int) < m; omega), _, rfl, _, rfl, ⟨_, _, _, rfl, rfl, hm, g1, g3⟩, ?_⟩
        show (n % m).toNat < m.toNat
        omega
    · rintro σ H' Q1 Q2 hq ⟨v, e, s1, c, ec, q⟩
      exact ⟨v, e, s1, c, ec, hq _ _ q⟩
theorem ok_init (T : TX K mg a) : ∀ dvs ∈ [[], [V.int 1]], MkB P w K mg base CX0 a.Fraction 2 ["self", "top", "bottom"] dvs (spInit a.Fraction) := by
  refine T.i_Fraction.ok sc_Fraction_init (fun vs H Q E h => ?_) (fun f cdv A outer s H vs Q E hr h => ?_)
  · obtain ⟨p, dx, n, b, rfl, _⟩ := h
    rfl
  · obtain ⟨p, dx, n, b, rfl, hp, hb, sb, k⟩ := h
    refine ⟨_, (pss_cons (ps_if (pt_cmpR op_eq (pv 2) pe_int (nomark _)) (pss_one ps_never) pss_nil)
      (pss_cons (ps_set (i := 3) sc_Fraction_init.nd rfl (Or.inl rfl) (pe_fn (ok_divisor T) hr pass0 (pa_cons (pv 1) (pa_cons (pv 2) pa_nil))))
      (pss_cons (ps_if (pt_cmpR op_lt (pv 2) pe_int (nomark _)) (pss_one (ps_set (i := 3) sc_Fraction_init.nd rfl (Or.inl rfl) (pe_un un_neg (pv 3)))) pss_nil)
      (pss_cons (ps_fld (pv 0) (pe_op op_fdivB (pv 1) (pv 3)) rfl)
      (pss_one (ps_fld (pv 0) (pe_op op_fdivB (pv 2) (pv 3)) rfl)))))), ?_⟩
    refine ⟨_, rfl, rfl, _, rfl, ?_⟩
    refine iteD (neV hb) ?_
    refine ⟨_, rfl, _, rfl, n, b, rfl, ?_⟩
    refine ⟨_, rfl, _, _, rfl, rfl, _, rfl, ?_⟩
    obtain ⟨i1, i2⟩ := init_spec n b hb
    have gp := gcd_pos_r n hb
    have gs := Sm.gcd_r n hb sb
    have fin : ∀ c : Int, c ≠ 0 → Sm c → n.fdiv c = (Rat.divInt n b).num → b.fdiv c = ((Rat.divInt n b).den : Int) →
        tSeq (sFld K (tVar 0) (tOp (rI CDivB fun i j => .int (i.fdiv j)) (tVar 1) (tVar 3)) "top") (sFld K (tVar 0) (tOp (rI CDivB fun i j => .int (i.fdiv j)) (tVar 2) (tVar 3)) "bottom") { nx := fun _ H' => Q .non H', rt := Q } [some (.ref p), some (.int n), some (.int b), some (.int c)] H := by
      intro c hc hs e1 e2
      refine ⟨_, rfl, _, rfl, _, _, rfl, rfl, ⟨hc, hs⟩, _, rfl, p, a.Fraction, dx, _, rfl, hp, T.cl_Fraction, T.na_Fraction_top, (by show 0 < 1000; decide), ?_⟩
      refine ⟨_, rfl, _, rfl, _, _, rfl, rfl, ⟨hc, hs⟩, _, rfl, p, a.Fraction, dx, _, rfl, upd_same, T.cl_Fraction, T.na_Fraction_bottom, (by show 1 < 1000; decide), ?_⟩
      refine k _ ?_
      rw [upd_upd]
      dsimp only
      rw [e1, e2, ff_new]
    refine ifB (fun hn => ?_) (fun hn => ?_)
    · rw [if_pos hn] at i1 i2
      refine ⟨_, rfl, _, rfl, ?_⟩
      exact fin _ (by omega) (gs.le (by omega)) i1 i2
    · rw [if_neg hn] at i1 i2
      exact fin _ (by omega) gs i1 i2
theorem sm1 : Sm 1 := Nat.one_lt_two_pow (by decide)
theorem mk2 (T : TX K mg a) : MkB P w K mg base CX0 a.Fraction 2 ["self", "top", "bottom"] [] (spInit a.Fraction) := ok_init T _ (by simp)
theorem mk1 (T : TX K mg a) : MkB P w K mg base CX0 a.Fraction 2 ["self", "top", "bottom"] [.int 1] (spInit a.Fraction) := ok_init T _ (by simp)
end
end G
namespace G
open PySem L2
section
variable {P : Program} {w : World} {K : PySem.W.Frag} {mg : Str → Option Value} {base : Heap} {a : Ad}
def spB2 (C : Addr) (f : Rat → Rat → Bool) : Sp := fun vs H Q _ => ∃ (p q : Addr) (x y : Rat), vs = [.ref p, .ref q] ∧ FrAt C H p x ∧ FrAt C H q y ∧ SmR x ∧ SmR y ∧ Q (.bl (f x y)) H
theorem ok_under (T : TX K mg a) : MtB P w K mg base CX0 a.Fraction "under" 1 ["self", "other"] (spB2 a.Fraction fun x y => decide (x < y)) := by
  refine T.m_Fraction_under.ok sc_Fraction_under (fun vs H Q E h => ?_) (fun f cdv A outer s H vs Q E hr h => ?_)
  · obtain ⟨p, q, x, y, rfl, _⟩ := h
    rfl
  · obtain ⟨p, q, x, y, rfl, hp, hq, sx, sy, k⟩ := h
    refine ⟨_, (pss_one (ps_ret (pe_cmpR op_lt (pe_op op_mulB (pe_top T.fr (pv 0)) (pe_bot T.fr (pv 1))) (pe_op op_mulB (pe_top T.fr (pv 1)) (pe_bot T.fr (pv 0))) (nomark _)))), ?_⟩
    walk_at "rd"
    show Q (.bl (decide (x.num * ↑y.den < y.num * ↑x.den))) H
    rw [decide_eq_decide.mpr (Rat.lt_iff x y).symm]
    exact k
def sgn (x : Rat) : Int := if 0 < x.num then 1 else if x.num < 0 then -1 else 0
theorem ok_sign (T : TX K mg a) : MtB P w K mg base CX0 a.Fraction "sign" 1 ["self"] (fun vs H Q _ => ∃ (p : Addr) (x : Rat), vs = [.ref p] ∧ FrAt a.Fraction H p x ∧ Q (.int (sgn x)) H) := by
  refine T.m_Fraction_sign.ok sc_Fraction_sign (fun vs H Q E h => ?_) (fun f cdv A outer s H vs Q E hr h => ?_)
  · obtain ⟨p, x, rfl, _⟩ := h
    rfl
  · obtain ⟨p, x, rfl, hp, k⟩ := h
    refine ⟨_, (pss_cons (ps_if (pt_cmpR op_gt (pe_top T.fr (pv 0)) pe_int (nomark _)) (pss_one (ps_ret pe_int)) pss_nil)
      (pss_cons (ps_if (pt_cmpR op_lt (pe_top T.fr (pv 0)) pe_int (nomark _)) (pss_one (ps_ret (pe_un un_neg pe_int))) pss_nil)
      (pss_one (ps_ret pe_int)))), ?_⟩
    walk_at "rd"
    refine ifB (fun h1 => ?_) (fun h1 => ?_)
    · rw [show sgn x = 1 from if_pos h1] at k
      exact k
    · walk_at "rd"
      refine ifB (fun h2 => ?_) (fun h2 => ?_)
      · rw [show sgn x = -1 from (if_neg h1).trans (if_pos h2)] at k
        walk_at "rd"
        exact k
      · rw [show sgn x = 0 from (if_neg h1).trans (if_neg h2)] at k
        exact k
end
end G
namespace G
open PySem L2
section
variable {P : Program} {w : World} {K : PySem.W.Frag} {mg : Str → Option Value} {base : Heap} {a : Ad}
def cellOf (ns : List Int) (k : Nat) : Int := ns.getD k 0
def spCell (K : PySem.W.Frag) : Sp := fun vs H Q _ => ∃ (l : Addr) (ns : List Int) (k : Nat), vs = [.ref l, .int (k : Int)] ∧ SqL K H l (ns.map V.int) ∧ Q (.int (cellOf ns k)) H
theorem ok_law_cell_at (T : TX K mg a) : FnB P w K mg base CX0 "_law_cell_at" 1 ["_law_script", "_law_k"] (spCell K) := by
  refine T.d_law_cell_at.ok sc_law_cell_at (fun vs H Q E h => ?_) (fun f cdv A outer s H vs Q E hr h => ?_)
  · obtain ⟨l, ns, i, rfl, _⟩ := h
    rfl
  · obtain ⟨l, ns, i, rfl, hS, k⟩ := h
    refine ⟨_, (pss_cons (ps_if (pt_cmpR op_lt (pv 1) (pe_callB call_lenK (by rfl) T.z_len PySem.boot_len (pa_cons (pv 0) pa_nil)) (nomark _)) (pss_one (ps_ret (pe_ix ix_list (pv 0) (pv 1) (fun _ _ => rfl)))) pss_nil)
      (pss_one (ps_ret pe_int))), ?_⟩
    refine ⟨_, rfl, _, rfl, _, _, rfl, .inl hS, _, _, rfl, rfl, _, rfl, ?_⟩
    rw [List.length_map]
    refine ite2 (fun hlt => ?_) (fun hge => ?_)
    · have hlt' : (i : Int) < (ns.length : Int) := of_decide_eq_true hlt
      have hl : i < ns.length := by omega
      refine ⟨_, rfl, _, rfl, _, _, _, _, rfl, rfl, hS, atI_nat (v := .int (ns[i])) ?_, ?_⟩
      · rw [List.getElem?_map, List.getElem?_eq_getElem hl]
        rfl
      · have e : cellOf ns i = ns[i] := by unfold cellOf; rw [List.getD_eq_getElem?_getD, List.getElem?_eq_getElem hl]; rfl
        rw [e] at k
        exact k
    · have hge' : ¬ (i : Int) < (ns.length : Int) := fun z => hge (decide_eq_true z)
      have e : cellOf ns i = 0 := by unfold cellOf; rw [List.getD_eq_getElem?_getD, List.getElem?_eq_none (by omega)]; rfl
      rw [e] at k
      exact k
def spWhole : Sp := fun vs H Q _ => ∃ i : Int, vs = [.int i] ∧ Q (.bl true) H
theorem ok_law_whole (T : TX K mg a) : FnB P w K mg base CX0 "_law_whole" 1 ["_law_found"] spWhole := by
  refine T.d_law_whole.ok sc_law_whole (fun vs H Q E h => ?_) (fun f cdv A outer s H vs Q E hr h => ?_)
  · obtain ⟨i, rfl, _⟩ := h
    rfl
  · obtain ⟨i, rfl, k⟩ := h
    refine ⟨_, (pss_one (ps_ret (pe_and (pe_callB (call_isI (c := .type "int")) (by rfl) T.z_isinstance PyProof.Rows.boot_isinstance (pa_cons (pv 0) (pa_cons (pe_bltn (v := .ty "int") (by rfl) T.z_int PyProof.Rows.boot_int rfl) pa_nil))) (pe_one (pe_not (pe_callB (call_isI (c := .type "bool")) (by rfl) T.z_isinstance PyProof.Rows.boot_isinstance (pa_cons (pv 0) (pa_cons (pe_bltn (v := .ty "bool") (by rfl) T.z_bool PyProof.Rows.boot_bool rfl) pa_nil)))))))), ?_⟩
    refine ⟨_, rfl, _, _, _, _, rfl, (fun u h => h), TyOf.int i, T.k_int_int, _, rfl, ?_⟩
    refine iteT ?_
    refine ⟨_, rfl, _, _, _, _, rfl, (fun u h => h), TyOf.int i, T.k_int_bool, _, rfl, ?_⟩
    exact k
theorem ok_law_divisor (T : TX K mg a) : FnB P w K mg base CX0 "_law_divisor" 1 ["_law_one", "_law_other"] spDiv := by
  refine T.d_law_divisor.ok sc_law_divisor (fun vs H Q E h => ?_) (fun f cdv A outer s H vs Q E hr h => ?_)
  · obtain ⟨n, b, rfl, _⟩ := h
    rfl
  · obtain ⟨n', b, rfl, k⟩ := h
    refine ⟨_, (pss_cons (ps_set (i := 0) sc_law_divisor.nd rfl (Or.inl rfl) (pe_callB call_abs (by rfl) T.z_abs PyProof.Rows.boot_abs (pa_cons (pv 0) pa_nil)))
      (pss_cons (ps_set (i := 1) sc_law_divisor.nd rfl (Or.inl rfl) (pe_callB call_abs (by rfl) T.z_abs PyProof.Rows.boot_abs (pa_cons (pv 1) pa_nil)))
      (pss_cons (ps_while PassesOwn.never (pt_cmpR op_gt (pv 1) pe_int (nomark _)) (pss_cons (ps_set (i := 2) sc_law_divisor.nd rfl (Or.inl rfl) (pe_op op_mod (pv 0) (pv 1)))
      (pss_cons (ps_set (i := 0) sc_law_divisor.nd rfl (Or.inl rfl) (pv 1))
      (pss_one (ps_set (i := 1) sc_law_divisor.nd rfl (Or.inl rfl) (pv 2))))))
      (pss_one (ps_ret (pv 0)))))), ?_⟩
    refine ⟨_, rfl, _, rfl, _, rfl, _, rfl, ?_⟩
    refine while_by (fun σ H' => ∃ (n m : Int) (r : Option V), σ = [some (.int n), some (.int m), r] ∧ H' = H ∧ 0 ≤ n ∧ 0 ≤ m ∧ gcd n m = gcd n' b) (fun σ _ => match σ with | [_, some (.int m), _] => m.toNat | _ => 0) ?_ ?_ ?_
    · refine ⟨_, _, _, rfl, rfl, ?_, ?_, gcd_abs n' b⟩ <;> split <;> omega
    · rintro σ H' ⟨n, m, r, rfl, rfl, hn, hm, hg⟩
      refine ⟨_, rfl, _, _, rfl, rfl, _, rfl, ?_⟩
      by_cases z : m = 0
      · subst z
        refine iteF ?_
        refine ⟨_, rfl, ?_⟩
        rw [gcd_zero n hn] at hg
        rw [hg]
        exact k
      · refine iteC (decide_eq_true (show (0 : Int) < m by omega)) ?_
        obtain ⟨g1, g2, g3⟩ := gcd_turn hg hm z
        refine ⟨_, rfl, _, rfl, _, _, rfl, rfl, (by show (0 : Int) < m; omega), _, rfl, _, rfl, ⟨_, _, _, rfl, rfl, hm, g1, g3⟩, ?_⟩
        show (n % m).toNat < m.toNat
        omega
    · rintro σ H' Q1 Q2 hq ⟨v, e, i, j, e1, e2, c, ec, q⟩
      exact ⟨v, e, i, j, e1, e2, c, ec, hq _ _ q⟩
def spIs (C : Addr) : Sp := fun vs H Q _ => ∃ (p : Addr) (x : Rat) (n d : Int), vs = [.ref p, .int n, .int d] ∧ FrAt C H p x ∧ SmR x ∧ Sm n ∧ Sm d ∧ d ≠ 0 ∧ x = Rat.divInt n d ∧ Q (.bl true) H
theorem cross {x : Rat} {n d : Int} (h : d ≠ 0) (e : x = Rat.divInt n d) : x.num * d = n * x.den := by
  have h1 := Rat.num_divInt_den x
  rw [e] at h1 ⊢
  exact (Rat.divInt_eq_divInt_iff (den_ne _) h).mp h1
theorem ok_law_is (T : TX K mg a) : FnB P w K mg base CX0 "_law_is" 2 ["_law_found", "_law_top", "_law_bottom"] (spIs a.Fraction) := by
  refine T.d_law_is.ok sc_law_is (fun vs H Q E h => ?_) (fun f cdv A outer s H vs Q E hr h => ?_)
  · obtain ⟨p, x, n, d, rfl, _⟩ := h
    rfl
  · obtain ⟨p, x, n, d, rfl, hp, sx, sn, sd, hd, ex, k⟩ := h
    refine ⟨_, (pss_cons (ps_if (PW.pt (pw_or (pt_not (pt_val (pe_callB (call_isI (c := .ref a.Fraction)) (by rfl) T.z_isinstance PyProof.Rows.boot_isinstance (pa_cons (pv 0) (pa_cons (pe_glob (v := .ref a.Fraction) (by rfl) T.mg_Fraction rfl) pa_nil))))) (pw_or (pt_not (pt_val (pe_fn (ok_law_whole T) hr pass0 (pa_cons (pe_top T.fr (pv 0)) pa_nil)))) (pw_or1 (pt_not (pt_val (pe_fn (ok_law_whole T) hr pass0 (pa_cons (pe_bot T.fr (pv 0)) pa_nil)))))))) (pss_one (ps_ret pe_bl)) pss_nil)
      (pss_cons (ps_if (PW.pt (pw_or (pt_cmpR op_lt (pe_bot T.fr (pv 0)) pe_int (nomark _)) (pw_or1 (pt_cmpR op_ne (pe_fn (ok_law_divisor T) hr pass0 (pa_cons (pe_top T.fr (pv 0)) (pa_cons (pe_bot T.fr (pv 0)) pa_nil))) pe_int (nomark _))))) (pss_one (ps_ret pe_bl)) pss_nil)
      (pss_one (ps_ret (pe_cmpR op_eq (pe_op op_mulB (pe_top T.fr (pv 0)) (pv 2)) (pe_op op_mulB (pv 1) (pe_bot T.fr (pv 0))) (nomark _)))))), ?_⟩
    refine ⟨_, rfl, _, _, _, _, rfl, (fun u h => h), hp.ty T.fr, T.k_Fraction_Fraction, _, rfl, ?_⟩
    walk_at "rd"
    have xp := den_pos x
    refine iteD (decide_eq_false (show ¬ (x.den : Int) < 1 by omega)) ?_
    walk_at "rd"
    rw [gcd_den x]
    walk_at "rd"
    show Q (.bl (decide (V.int (x.num * d) = V.int (n * x.den)))) H
    rw [cross hd ex, decide_eq_true rfl]
    exact k
end
end G
namespace G
open PySem L2
theorem Sm.of_le {a : Int} {n : Nat} (h : a.natAbs ≤ 2 ^ n) (hn : n < 9000) : Sm a := Nat.lt_of_le_of_lt h (Nat.pow_lt_pow_right (by decide) hn)
theorem Bd.smr {n : Nat} {x : Rat} (b : Bd n x) (hn : n < 9000) : SmR x := ⟨Sm.of_le b.1 hn, Sm.of_le (by rw [Int.natAbs_natCast]; exact b.2) hn⟩
section
variable {P : Program} {w : World} {K : PySem.W.Frag} {mg : Str → Option Value} {base : Heap} {a : Ad}
structure Bt (c : Int) : Prop where
  le : Builtin.Int.intBits c ≤ 2 ^ 20
theorem cell_bt {ns : List Int} (h : ∀ i ∈ ns, Bt i) (k : Nat) : Bt (cellOf ns k) := by
  unfold cellOf
  rw [List.getD_eq_getElem?_getD]
  cases e : ns[k]? with
  | none => exact ⟨by decide⟩
  | some i => exact h i (List.mem_of_getElem? e)
/-- two fractions and the numbers that they were made of -/
structure Six (C : Addr) (H : Hp) (p q : Addr) (i j m n : Int) : Prop where
  fp : FrAt C H p (Rat.divInt i j)
  fq : FrAt C H q (Rat.divInt m n)
  bj : 0 < j
  bn : 0 < n
  li : i.natAbs ≤ 2 ^ 600
  lj : j.natAbs ≤ 2 ^ 600
  lm : m.natAbs ≤ 2 ^ 600
  ln : n.natAbs ≤ 2 ^ 600
theorem l600 {i : Int} (h : i.natAbs ≤ 2 ^ 600) : Sm i := Sm.of_le h (by decide)
theorem bd600 {i j : Int} (h : i.natAbs ≤ 2 ^ 600) (g : j.natAbs ≤ 2 ^ 600) : Bd 600 (Rat.divInt i j) := Bd.divInt h g
theorem sr600 {i j : Int} (h : i.natAbs ≤ 2 ^ 600) (g : j.natAbs ≤ 2 ^ 600) : SmR (Rat.divInt i j) := (bd600 h g).smr (by decide)
def sp6 (C : Addr) : Sp := fun vs H Q _ => ∃ (p q : Addr) (i j m n : Int), vs = [.ref p, .ref q, .int i, .int j, .int m, .int n] ∧ Six C H p q i j m n ∧ ∀ H', Same H H' → Q (.bl true) H'
end
end G
namespace G
open PySem L2
section
variable {P : Program} {w : World} {K : PySem.W.Frag} {mg : Str → Option Value} {base : Heap} {a : Ad}
/-- a turn -/
structure Tn (i : Int) : Prop where
  nn : 0 ≤ i
  lt : i.natAbs < 2 ^ 200
theorem Tn.log {i : Int} (h : Tn i) : i.natAbs.log2 < 1920 := by
  by_cases z : i.natAbs = 0
  · rw [z]; decide
  · exact (Nat.log2_lt z).mpr (Nat.lt_of_lt_of_le h.lt (Nat.pow_le_pow_right (by decide) (by decide)))
theorem Tn.len {i : Int} (h : Tn i) : (Str.ofString (toString i)).length ≤ 201 := by
  rw [PySem.ofString_length]
  refine PySem.int_text_length_le (k := 200) (by decide) ?_
  by_cases z : i.natAbs = 0
  · rw [z]; decide
  · exact (Nat.log2_lt z).mpr h.lt
def atT (x : Str) (t : Int) : Str := (x ++ ".") ++ Str.ofString (toString t)
theorem atT_len {x : Str} {t : Int} {n : Nat} (hx : x.length ≤ n) (h : Tn t) : (atT x t).length ≤ n + 202 := by
  have := h.len
  unfold atT
  rw [PySem.strLen_append, PySem.strLen_append, show ("." : Str).length = 1 from rfl]
  omega
theorem atT_ne {x y : Str} {t : Int} (h : x ≠ y) : atT x t ≠ atT y t := fun e => h (app_right (app_right e))
theorem atT_next {x : Str} {t : Int} (h : Tn t) : atT x t ≠ atT x (t + 1) := by
  intro e
  obtain ⟨n, rfl⟩ := Int.eq_ofNat_of_zero_le h.nn
  exact text_next (app_left e)
def spNameAt : Sp := fun vs H Q _ => ∃ (x : Str) (t : Int), vs = [.str x, .int t] ∧ x.length ≤ 1000 ∧ Tn t ∧ Q (.str (atT x t)) H
theorem ok_name_at (T : TX K mg a) : FnB P w K mg base CX0 "name_at" 1 ["name", "turn"] spNameAt := by
  refine T.d_name_at.ok sc_name_at (fun vs H Q E h => ?_) (fun f cdv A outer s H vs Q E hr h => ?_)
  · obtain ⟨x, t, rfl, _⟩ := h
    rfl
  · obtain ⟨x, t, rfl, hx, ht, k⟩ := h
    refine ⟨_, (pss_one (ps_ret (pe_op op_add_str (pe_op op_add_str (pv 0) pe_str) (pe_callTy call_str_int (by rfl) T.z_str PyProof.Rows.boot_str (pa_cons (pv 1) pa_nil))))), ?_⟩
    have hl := ht.len
    walk_at "rd"
    refine ⟨by rw [show ("." : Str).length = 1 from rfl, PySem.sizeLine_eq]; omega, ?_⟩
    walk_at "rd"
    refine ⟨ht.log, ?_⟩
    walk_at "rd"
    refine ⟨by rw [PySem.strLen_append, show ("." : Str).length = 1 from rfl, PySem.sizeLine_eq]; omega, ?_⟩
    exact k
def spYes : Sp := fun vs H Q _ => ∃ p : Addr, vs = [.ref p] ∧ Q (.bl true) H
theorem ok_may_stay (T : TX K mg a) : MtB P w K mg base CX0 a.Store "may_stay" 1 ["self"] spYes := by
  refine T.m_Store_may_stay.ok sc_Store_may_stay (fun vs H Q E h => ?_) (fun f cdv A outer s H vs Q E hr h => ?_)
  · obtain ⟨p, rfl, _⟩ := h
    rfl
  · obtain ⟨p, rfl, k⟩ := h
    refine ⟨_, (pss_one (ps_ret pe_bl)), ?_⟩
    exact k
/-- the classes of ways -/
structure WayC (K : PySem.W.Frag) (C : Addr) : Prop where
  cl : Cls K C
  n1 : NoAttr K C "name"
  n2 : NoAttr K C "start"
  n3 : NoAttr K C "goal"
  n4 : NoAttr K C "high"
  n5 : NoAttr K C "cost"
theorem TX.wW (T : TX K mg a) : WayC K a.Way := ⟨T.cl_Way, T.na_Way_name, T.na_Way_start, T.na_Way_goal, T.na_Way_high, T.na_Way_cost⟩
theorem TX.wG (T : TX K mg a) : WayC K a.Growing := ⟨T.cl_Growing, T.na_Growing_name, T.na_Growing_start, T.na_Growing_goal, T.na_Growing_high, T.na_Growing_cost⟩
theorem TX.wL (T : TX K mg a) : WayC K a.Leaking := ⟨T.cl_Leaking, T.na_Leaking_name, T.na_Leaking_start, T.na_Leaking_goal, T.na_Leaking_high, T.na_Leaking_cost⟩
theorem TX.wS (T : TX K mg a) : WayC K a.Store := ⟨T.cl_Store, T.na_Store_name, T.na_Store_start, T.na_Store_goal, T.na_Store_high, T.na_Store_cost⟩
/-- what a way tells -/
structure W5 (fs : List (Str × V)) (n s g : Str) (vh vc : V) : Prop where
  nm : fs.lookup ("name" : Str) = some (.str n)
  st : fs.lookup ("start" : Str) = some (.str s)
  go : fs.lookup ("goal" : Str) = some (.str g)
  hi : fs.lookup ("high" : Str) = some vh
  co : fs.lookup ("cost" : Str) = some vc
  at_ : fs.lookup ("at_turn" : Str) = none
  len : fs.length ≤ 10
theorem W5.new {n s g : Str} {vh vc : V} : W5 (putF "cost" vc (putF "high" vh (putF "goal" (.str g) (putF "start" (.str s) (putF "name" (.str n) []))))) n s g vh vc := by
  refine ⟨?_, ?_, ?_, ?_, ?_, ?_, ?_⟩
  iterate 6
    simp only [lookup_putF]
    (repeat rw [if_neg (by decide +kernel)])
    try rw [if_pos rfl]
    try rfl
  · have h1 := length_putF "cost" vc (putF "high" vh (putF "goal" (.str g) (putF "start" (.str s) (putF "name" (.str n) []))))
    have h2 := length_putF "high" vh (putF "goal" (.str g) (putF "start" (.str s) (putF "name" (.str n) [])))
    have h3 := length_putF "goal" (.str g) (putF "start" (.str s) (putF "name" (.str n) []))
    have h4 := length_putF "start" (.str s) (putF "name" (.str n) [])
    have h5 := length_putF "name" (.str n) []
    simp only [List.length_nil] at h5
    omega
theorem W5.put {fs : List (Str × V)} {n s g : Str} {vh vc v : V} {f : Str} (h : W5 fs n s g vh vc) (hf : f ∈ (["rate", "loss"] : List Str)) (hl : fs.length ≤ 5) : W5 (putF f v fs) n s g vh vc := by
  have e : ∀ x ∈ (["name", "start", "goal", "high", "cost", "at_turn"] : List Str), x ≠ f := by
    intro x hx z
    subst z
    revert hx hf
    simp only [List.mem_cons, List.not_mem_nil, or_false]
    rintro (rfl | rfl | rfl | rfl | rfl | rfl) (h | h) <;> exact absurd h (by decide +kernel)
  have l := length_putF f v fs
  refine ⟨?_, ?_, ?_, ?_, ?_, ?_, by omega⟩ <;> rw [lookup_putF, if_neg (e _ (by simp))]
  · exact h.nm
  · exact h.st
  · exact h.go
  · exact h.hi
  · exact h.co
  · exact h.at_
theorem le_put {f : Str} {v : V} {fs : List (Str × V)} {m : Nat} (h : fs.length ≤ m) : (putF f v fs).length ≤ m + 1 := Nat.le_trans (length_putF f v fs) (Nat.succ_le_succ h)
theorem sgn_nn {x : Rat} (h : 0 ≤ x.num) : ¬ sgn x < 0 := by
  unfold sgn
  repeat' split
  all_goals omega
theorem sgn_p {x : Rat} (h : 0 < x.num) : ¬ sgn x ≤ 0 := by
  unfold sgn
  rw [if_pos h]
  decide
/-- no bound above, or one that is nought or more -/
def HiOk (C : Addr) (H : Hp) (v : V) : Prop := v = .non ∨ ∃ (q : Addr) (x : Rat), v = .ref q ∧ FrAt C H q x ∧ 0 ≤ x.num
theorem HiOk.mono {C : Addr} {H H' : Hp} {v : V} (h : HiOk C H v) (s : Same H H') : HiOk C H' v := h.imp id fun ⟨q, x, e, f, z⟩ => ⟨q, x, e, f.mono s, z⟩
def spWayI (P : Program) (w : World) (K : PySem.W.Frag) (mg : Str → Option Value) (base : Heap) (a : Ad) : Sp := fun vs H Q _ => ∃ (p C dx : Addr) (n s g : Str) (vh vc : V), vs = [.ref p, .str n, .str s, .str g, vh, vc] ∧ H p = some (.ins C dx []) ∧ WayC K C ∧
  (s = g → MtB P w K mg base CX0 C "may_stay" 1 ["self"] spYes) ∧ HiOk a.Fraction H vh ∧ vc ≠ .non ∧ ∀ fs, W5 fs n s g vh vc → fs.length ≤ 5 → Q .non (upd H p (.ins C dx fs))
theorem b_Way (T : TX K mg a) : BodyOk P w K mg base "Way.__init__" s_Way_init ["self", "name", "start", "goal", "high", "cost"] 3 (spWayI P w K mg base a) := by
  intro f cdv A outer s₀ H vs Q E hr h
  obtain ⟨p, C, dx, n, s, g, vh, vc, rfl, hp, c, hms, hh, hc, k⟩ := h
  refine ⟨_, (pss_cut (ps_if (PW.pt (pw_and (pt_cmpR op_eq (pv 2) (pv 3) (nomark _)) (pw_and1 (pt_not (pt_val (pe_mtD0 (CX := CX0) (pv 0) hr pass0)))))) (pss_one ps_never) pss_nil)
      (pss_cut (ps_if (PW.pt (pw_and (pt_cmpR op_notN (pv 4) pe_non (nomark _)) (pw_and1 (pt_cmpR op_lt (pe_frm0 T.fr (pv 4) (ok_sign T) hr pass0) pe_int (nomark _))))) (pss_one ps_never) pss_nil)
      (pss_cons (ps_fld (pv 0) (pv 1) rfl)
      (pss_cons (ps_fld (pv 0) (pv 2) rfl)
      (pss_cons (ps_fld (pv 0) (pv 3) rfl)
      (pss_cons (ps_fld (pv 0) (pv 4) rfl)
      (pss_one (ps_fld (pv 0) (pe_ifExp (pt_cmpR op_isN (pv 5) pe_non (nomark _)) (pe_mkfr (mk1 T) hr T.mg_Fraction pass0 (pa_cons pe_int pa_nil)) (pv 5)) rfl)))))))), ?_⟩
  refine ⟨fun σ' H' => σ' = [some (.ref p), some (.str n), some (.str s), some (.str g), some vh, some vc] ∧ H' = H, ?_, ?_⟩
  · walk_at "rd"
    by_cases e : s = g
    · refine iteC (decide_eq_true (congrArg V.str e)) ?_
      refine ⟨_, rfl, p, C, dx, [], 1, ["self"], spYes, rfl, hp, rfl, c.cl, by decide, hms e, ⟨p, rfl, ?_⟩⟩
      walk_at "rd"
      first | exact ⟨rfl, rfl⟩ | exact rfl
    · refine iteD (decide_eq_false fun z => e (V.str.inj z)) ?_
      walk_at "rd"
      first | exact ⟨rfl, rfl⟩ | exact rfl
  rintro σ' H' ⟨rfl, rfl⟩
  refine ⟨fun σ' H'' => σ' = [some (.ref p), some (.str n), some (.str s), some (.str g), some vh, some vc] ∧ H'' = H', ?_, ?_⟩
  · rcases hh with rfl | ⟨q, x, rfl, fq, hx⟩
    · walk_at "rd"
      first | exact ⟨rfl, rfl⟩ | exact rfl
    · walk_at "rd"
      refine iteD (decide_eq_false (sgn_nn hx)) ?_
      first | exact ⟨rfl, rfl⟩ | exact rfl
  rintro σ' H'' ⟨rfl, rfl⟩
  refine ⟨_, rfl, _, rfl, p, C, dx, [], rfl, hp, c.cl, c.n1, by decide, ?_⟩
  refine ⟨_, rfl, _, rfl, p, C, dx, _, rfl, upd_same, c.cl, c.n2, Nat.lt_of_le_of_lt (le_put (Nat.le_refl 0)) (by decide), ?_⟩
  refine ⟨_, rfl, _, rfl, p, C, dx, _, rfl, upd_same, c.cl, c.n3, Nat.lt_of_le_of_lt (le_put (le_put (Nat.le_refl 0))) (by decide), ?_⟩
  refine ⟨_, rfl, _, rfl, p, C, dx, _, rfl, upd_same, c.cl, c.n4, Nat.lt_of_le_of_lt (le_put (le_put (le_put (Nat.le_refl 0)))) (by decide), ?_⟩
  walk_at "rd"
  refine iteD (decide_eq_false hc) ?_
  refine ⟨_, rfl, _, rfl, p, C, dx, _, rfl, upd_same, c.cl, c.n5, Nat.lt_of_le_of_lt (le_put (le_put (le_put (le_put (Nat.le_refl 0))))) (by decide), ?_⟩
  simp only [upd_upd]
  exact k _ W5.new (le_put (le_put (le_put (le_put (le_put (Nat.le_refl 0))))))
theorem mk_Way (T : TX K mg a) : MkB P w K mg base CX0 a.Way 4 ["self", "name", "start", "goal", "high", "cost"] [] (spWayI P w K mg base a) :=
  T.i_Way.ok sc_Way_init (fun vs H Q E h => by obtain ⟨_, _, _, _, _, _, _, _, rfl, _⟩ := h; rfl) (b_Way T) _ (by simp)
theorem cf_Way (T : TX K mg a) : CfB P w K mg base CX0 a.Way "__init__" 4 ["self", "name", "start", "goal", "high", "cost"] (spWayI P w K mg base a) :=
  T.c_Way.ok sc_Way_init (fun vs H Q E h => by obtain ⟨_, _, _, _, _, _, _, _, rfl, _⟩ := h; rfl) (b_Way T)
/-- a way made of name, start, goal, the part, the bound, the cost -/
def spPartI (P : Program) (w : World) (K : PySem.W.Frag) (mg : Str → Option Value) (base : Heap) (a : Ad) (f : Str) (ok : Rat → Prop) : Sp := fun vs H Q _ => ∃ (p C dx : Addr) (n s g : Str) (vh vc : V) (q : Addr) (x : Rat), vs = [.ref p, .str n, .str s, .str g, .ref q, vh, vc] ∧ H p = some (.ins C dx []) ∧ WayC K C ∧ NoAttr K C f ∧
  (s = g → MtB P w K mg base CX0 C "may_stay" 1 ["self"] spYes) ∧ FrAt a.Fraction H q x ∧ ok x ∧ HiOk a.Fraction H vh ∧ vc ≠ .non ∧
  ∀ H' fs, W5 fs n s g vh vc → fs.lookup f = some (.ref q) → (∀ b o, H b = some o → b ≠ p → H' b = some o) → H' p = some (.ins C dx fs) → Q .non H'
theorem ok_Growing_init (T : TX K mg a) : ∀ dvs ∈ [[]], MkB P w K mg base CX0 a.Growing 5 ["self", "name", "start", "goal", "rate", "high", "cost"] dvs (spPartI P w K mg base a "rate" fun x => 0 < x.num) := by
  refine T.i_Growing.ok sc_Growing_init (fun vs H Q E h => ?_) (fun f cdv A outer s₀ H vs Q E hr h => ?_)
  · obtain ⟨_, _, _, _, _, _, _, _, _, _, rfl, _⟩ := h
    rfl
  · obtain ⟨p, C, dx, n, s, g, vh, vc, q, x, rfl, hp, c, nf, hms, fq, hx, hh, hc, k⟩ := h
    refine ⟨_, (pss_cons (ps_if (pt_cmpR op_le (pe_frm0 T.fr (pv 4) (ok_sign T) hr pass0) pe_int (nomark _)) (pss_one ps_never) pss_nil)
      (pss_cons (ps_expr (pe_cf (cf_Way T) hr T.mg_Way pass0 (pa_cons (pv 0) (pa_cons (pv 1) (pa_cons (pv 2) (pa_cons (pv 3) (pa_cons (pv 5) (pa_cons (pv 6) pa_nil))))))))
      (pss_one (ps_fld (pv 0) (pv 4) rfl)))), ?_⟩
    walk_at "rd"
    refine iteD (decide_eq_false (sgn_p hx)) ?_
    refine ⟨_, rfl, _, rfl, _, rfl, _, rfl, _, rfl, _, rfl, p, C, dx, n, s, g, vh, vc, rfl, hp, c, hms, hh, hc, fun fs h5 hl => ?_⟩
    refine ⟨_, rfl, _, rfl, p, C, dx, fs, rfl, upd_same, c.cl, nf, Nat.lt_of_le_of_lt hl (by decide), ?_⟩
    rw [upd_upd]
    refine k _ _ (h5.put (by simp) hl) ?_ (fun b o e ne => ?_) upd_same
    · rw [lookup_putF, if_pos rfl]
    · rw [upd_ne ne]
      exact e
theorem mk_Growing (T : TX K mg a) : MkB P w K mg base CX0 a.Growing 5 ["self", "name", "start", "goal", "rate", "high", "cost"] [] (spPartI P w K mg base a "rate" fun x => 0 < x.num) := ok_Growing_init T _ (by simp)
theorem b_Leaking (T : TX K mg a) : BodyOk P w K mg base "Leaking.__init__" s_Leaking_init ["self", "name", "start", "goal", "loss", "high", "cost"] 4 (spPartI P w K mg base a "loss" fun x => 0 ≤ x.num ∧ x < 1 ∧ SmR x) := by
  intro f cdv A outer s₀ H vs Q E hr h
  obtain ⟨p, C, dx, n, s, g, vh, vc, q, x, rfl, hp, c, nf, hms, fq, ⟨hx, hx1, sx⟩, hh, hc, k⟩ := h
  refine ⟨_, (pss_cut (ps_if (PW.pt (pw_or (pt_cmpR op_lt (pe_frm0 T.fr (pv 4) (ok_sign T) hr pass0) pe_int (nomark _)) (pw_or1 (pt_not (pt_val (pe_frm T.fr (pv 4) (ok_under T) hr pass0 (pa_cons (pe_mkfr (mk1 T) hr T.mg_Fraction pass0 (pa_cons pe_int pa_nil)) pa_nil))))))) (pss_one ps_never) pss_nil)
      (pss_cons (ps_expr (pe_cf (cf_Way T) hr T.mg_Way pass0 (pa_cons (pv 0) (pa_cons (pv 1) (pa_cons (pv 2) (pa_cons (pv 3) (pa_cons (pv 5) (pa_cons (pv 6) pa_nil))))))))
      (pss_one (ps_fld (pv 0) (pv 4) rfl)))), ?_⟩
  refine ⟨fun σ' H' => σ' = [some (.ref p), some (.str n), some (.str s), some (.str g), some (.ref q), some vh, some vc] ∧ Same H H', ?_, ?_⟩
  · walk_at "rd"
    refine iteD (decide_eq_false (sgn_nn hx)) ?_
    walk_at "rd"
    refine ⟨by decide, sm1, fun r H1 nr s1 f1 => ?_⟩
    have e1 : Rat.divInt 1 1 = 1 := rfl
    rw [e1] at f1
    have s2 : SmR (1 : Rat) := ⟨sm1, sm1⟩
    walk_at "rd"
    refine iteD (by dsimp only; rw [decide_eq_true hx1]; rfl) ?_
    exact ⟨rfl, s1⟩
  rintro σ' H' ⟨rfl, ss⟩
  refine ⟨_, rfl, _, rfl, _, rfl, _, rfl, _, rfl, _, rfl, p, C, dx, n, s, g, vh, vc, rfl, ss _ _ hp, c, hms, hh.mono ss, hc, fun fs h5 hl => ?_⟩
  refine ⟨_, rfl, _, rfl, p, C, dx, fs, rfl, upd_same, c.cl, nf, Nat.lt_of_le_of_lt hl (by decide), ?_⟩
  rw [upd_upd]
  refine k _ _ (h5.put (by simp) hl) ?_ (fun b o e ne => ?_) upd_same
  · rw [lookup_putF, if_pos rfl]
  · rw [upd_ne ne]
    exact ss _ _ e
abbrev leakOk : Rat → Prop := fun x => 0 ≤ x.num ∧ x < 1 ∧ SmR x
theorem mk_Leaking (T : TX K mg a) : MkB P w K mg base CX0 a.Leaking 5 ["self", "name", "start", "goal", "loss", "high", "cost"] [] (spPartI P w K mg base a "loss" leakOk) :=
  T.i_Leaking.ok sc_Leaking_init (fun vs H Q E h => by obtain ⟨_, _, _, _, _, _, _, _, _, _, rfl, _⟩ := h; rfl) (b_Leaking T) _ (by simp)
theorem cf_Leaking (T : TX K mg a) : CfB P w K mg base CX0 a.Leaking "__init__" 5 ["self", "name", "start", "goal", "loss", "high", "cost"] (spPartI P w K mg base a "loss" leakOk) :=
  T.c_Leaking.ok sc_Leaking_init (fun vs H Q E h => by obtain ⟨_, _, _, _, _, _, _, _, _, _, rfl, _⟩ := h; rfl) (b_Leaking T)
def spStoreI (a : Ad) : Sp := fun vs H Q _ => ∃ (p dx : Addr) (n s : Str) (vh vc : V) (q : Addr) (x : Rat), vs = [.ref p, .str n, .str s, .ref q, vh, vc] ∧ H p = some (.ins a.Store dx []) ∧
  FrAt a.Fraction H q x ∧ leakOk x ∧ HiOk a.Fraction H vh ∧ vc ≠ .non ∧
  ∀ H' fs, W5 fs n s s vh vc → fs.lookup ("loss" : Str) = some (.ref q) → (∀ b o, H b = some o → b ≠ p → H' b = some o) → H' p = some (.ins a.Store dx fs) → Q .non H'
theorem mk_Store (T : TX K mg a) : MkB P w K mg base CX0 a.Store 6 ["self", "name", "place", "loss", "high", "cost"] [] (spStoreI a) := by
  refine T.i_Store.ok sc_Store_init (fun vs H Q E h => ?_) (fun f cdv A outer s₀ H vs Q E hr h => ?_) _ (by simp)
  · obtain ⟨_, _, _, _, _, _, _, _, rfl, _⟩ := h
    rfl
  · obtain ⟨p, dx, n, s, vh, vc, q, x, rfl, hp, fq, hx, hh, hc, k⟩ := h
    refine ⟨_, (pss_one (ps_expr (pe_cf (cf_Leaking T) hr T.mg_Leaking pass0 (pa_cons (pv 0) (pa_cons (pv 1) (pa_cons (pv 2) (pa_cons (pv 2) (pa_cons (pv 3) (pa_cons (pv 4) (pa_cons (pv 5) pa_nil)))))))))), ?_⟩
    refine ⟨_, rfl, _, rfl, _, rfl, _, rfl, _, rfl, _, rfl, _, rfl, p, a.Store, dx, n, s, s, vh, vc, q, x, rfl, hp, T.wS, T.na_Store_loss, fun _ => ok_may_stay T, fq, hx, hh, hc, fun H' fs h5 hl hs ho => ?_⟩
    exact k H' fs h5 hl hs ho
inductive Kd where
  | way
  | gro
  | lea
  | sto
def Kd.n : Kd → Int
  | .way => 0
  | .gro => 1
  | .lea => 2
  | .sto => 3
def Kd.C (a : Ad) : Kd → Addr
  | .way => a.Way
  | .gro => a.Growing
  | .lea => a.Leaking
  | .sto => a.Store
def Kd.f : Kd → Str
  | .gro => "rate"
  | _ => "loss"
def Kd.ok : Kd → Rat → Prop
  | .way => fun _ => True
  | .gro => fun x => 0 < x.num
  | _ => leakOk
def Kd.next : Kd → Kd
  | .sto => .lea
  | k => k
/-- a way stands at p -/
structure WayAt (a : Ad) (H : Hp) (p : Addr) (kd : Kd) (n s g : Str) (vh vc : V) (q : Addr) (x : Rat) : Prop where
  ob : ∃ dx fs, H p = some (.ins (kd.C a) dx fs) ∧ W5 fs n s g vh vc ∧ (kd ≠ .way → fs.lookup kd.f = some (.ref q))
  fq : FrAt a.Fraction H q x
  px : kd.ok x
  hh : HiOk a.Fraction H vh
  hc : vc ≠ .non
theorem WayAt.mono {a : Ad} {H H' : Hp} {p : Addr} {kd : Kd} {n s g : Str} {vh vc : V} {q : Addr} {x : Rat} (h : WayAt a H p kd n s g vh vc q x) (ss : Same H H') : WayAt a H' p kd n s g vh vc q x :=
  ⟨let ⟨dx, fs, e, r⟩ := h.ob; ⟨dx, fs, ss _ _ e, r⟩, h.fq.mono ss, h.px, h.hh.mono ss, h.hc⟩
def NewWay (a : Ad) (H : Hp) (Q : VK) (kd : Kd) (n s g : Str) (vh vc : V) (q : Addr) (x : Rat) : Prop := ∀ p H', H p = none → Same H H' → WayAt a H' p kd n s g vh vc q x → Q (.ref p) H'
theorem same_new {H H' : Hp} {x dx C : Addr} (h1 : H x = none) (h2 : H dx = none) (h : ∀ b o, (upd (upd H dx (.own x)) x (.ins C dx [])) b = some o → b ≠ x → H' b = some o) : Same H H' := by
  intro b o e
  have n1 := ne_of_none e h1
  refine h b o ?_ n1
  rw [upd_ne n1, upd_ne (ne_of_none e h2)]
  exact e
theorem same_two {H : Hp} {x dx C : Addr} (h1 : H x = none) (h2 : H dx = none) : Same H (upd (upd H dx (.own x)) x (.ins C dx [])) := by
  intro b o e
  rw [upd_ne (ne_of_none e h1), upd_ne (ne_of_none e h2)]
  exact e
theorem mkW {H : Hp} {Q : VK} {n s g : Str} {vh vc : V} {q : Addr} {x : Rat} (T : TX K mg a) (sg : s ≠ g) (fq : FrAt a.Fraction H q x) (hh : HiOk a.Fraction H vh) (hc : vc ≠ .non) (k : NewWay a H Q .way n s g vh vc q x) (p dx : Addr) (h1 : H p = none) (h2 : H dx = none) (_ : dx ≠ p) :
    spWayI P w K mg base a [.ref p, .str n, .str s, .str g, vh, vc] (upd (upd H dx (.own p)) p (.ins a.Way dx [])) (fun v H2 => v = .non ∧ Q (.ref p) H2) E0 := by
  have ss := same_two (C := a.Way) h1 h2
  refine ⟨p, _, dx, n, s, g, vh, vc, rfl, upd_same, T.wW, fun z => absurd z sg, hh.mono ss, hc, fun fs h5 _ => ⟨rfl, ?_⟩⟩
  rw [upd_upd]
  have s2 : Same H (upd (upd H dx (.own p)) p (.ins a.Way dx fs)) := by
    intro b o e
    rw [upd_ne (ne_of_none e h1), upd_ne (ne_of_none e h2)]
    exact e
  exact k p _ h1 s2 ⟨⟨dx, fs, upd_same, h5, fun z => absurd rfl z⟩, fq.mono s2, trivial, hh.mono s2, hc⟩
theorem mkG {H : Hp} {Q : VK} {n s g : Str} {vh vc : V} {q : Addr} {x : Rat} (T : TX K mg a) (sg : s ≠ g) (fq : FrAt a.Fraction H q x) (hx : 0 < x.num) (hh : HiOk a.Fraction H vh) (hc : vc ≠ .non) (k : NewWay a H Q .gro n s g vh vc q x) (p dx : Addr) (h1 : H p = none) (h2 : H dx = none) (_ : dx ≠ p) :
    spPartI P w K mg base a "rate" (fun x => 0 < x.num) [.ref p, .str n, .str s, .str g, .ref q, vh, vc] (upd (upd H dx (.own p)) p (.ins a.Growing dx [])) (fun v H2 => v = .non ∧ Q (.ref p) H2) E0 := by
  have ss := same_two (C := a.Growing) h1 h2
  refine ⟨p, _, dx, n, s, g, vh, vc, q, x, rfl, upd_same, T.wG, T.na_Growing_rate, fun z => absurd z sg, fq.mono ss, hx, hh.mono ss, hc, fun H' fs h5 hl hs ho => ⟨rfl, ?_⟩⟩
  have s2 := same_new h1 h2 hs
  exact k p _ h1 s2 ⟨⟨dx, fs, ho, h5, fun _ => hl⟩, fq.mono s2, hx, hh.mono s2, hc⟩
theorem mkL {H : Hp} {Q : VK} {n s g : Str} {vh vc : V} {q : Addr} {x : Rat} (T : TX K mg a) (sg : s ≠ g) (fq : FrAt a.Fraction H q x) (hx : leakOk x) (hh : HiOk a.Fraction H vh) (hc : vc ≠ .non) (k : NewWay a H Q .lea n s g vh vc q x) (p dx : Addr) (h1 : H p = none) (h2 : H dx = none) (_ : dx ≠ p) :
    spPartI P w K mg base a "loss" leakOk [.ref p, .str n, .str s, .str g, .ref q, vh, vc] (upd (upd H dx (.own p)) p (.ins a.Leaking dx [])) (fun v H2 => v = .non ∧ Q (.ref p) H2) E0 := by
  have ss := same_two (C := a.Leaking) h1 h2
  refine ⟨p, _, dx, n, s, g, vh, vc, q, x, rfl, upd_same, T.wL, T.na_Leaking_loss, fun z => absurd z sg, fq.mono ss, hx, hh.mono ss, hc, fun H' fs h5 hl hs ho => ⟨rfl, ?_⟩⟩
  have s2 := same_new h1 h2 hs
  exact k p _ h1 s2 ⟨⟨dx, fs, ho, h5, fun _ => hl⟩, fq.mono s2, hx, hh.mono s2, hc⟩
theorem mkS {H : Hp} {Q : VK} {n s : Str} {vh vc : V} {q : Addr} {x : Rat} (fq : FrAt a.Fraction H q x) (hx : leakOk x) (hh : HiOk a.Fraction H vh) (hc : vc ≠ .non) (k : NewWay a H Q .sto n s s vh vc q x) (p dx : Addr) (h1 : H p = none) (h2 : H dx = none) (_ : dx ≠ p) :
    spStoreI a [.ref p, .str n, .str s, .ref q, vh, vc] (upd (upd H dx (.own p)) p (.ins a.Store dx [])) (fun v H2 => v = .non ∧ Q (.ref p) H2) E0 := by
  have ss := same_two (C := a.Store) h1 h2
  refine ⟨p, dx, n, s, vh, vc, q, x, rfl, upd_same, fq.mono ss, hx, hh.mono ss, hc, fun H' fs h5 hl hs ho => ⟨rfl, ?_⟩⟩
  have s2 := same_new h1 h2 hs
  exact k p _ h1 s2 ⟨⟨dx, fs, ho, h5, fun _ => hl⟩, fq.mono s2, hx, hh.mono s2, hc⟩
def spTurn (a : Ad) (kd : Kd) : Sp := fun vs H Q _ => ∃ (p : Addr) (t : Int) (n s g : Str) (vh vc : V) (q : Addr) (x : Rat), vs = [.ref p, .int t] ∧ WayAt a H p kd n s g vh vc q x ∧ (kd ≠ .sto → s ≠ g) ∧ (kd = .sto → s = g) ∧ n.length ≤ 700 ∧ s.length ≤ 700 ∧ g.length ≤ 700 ∧ Tn t ∧ Tn (t + 1) ∧
  NewWay a H Q kd.next (atT n t) (atT s t) (atT g (match kd with | .sto => t + 1 | _ => t)) vh vc q x
theorem turn_Way (T : TX K mg a) : MtB P w K mg base CX0 a.Way "at_turn" 7 ["self", "turn"] (spTurn a .way) := by
  refine T.m_Way_at_turn.ok sc_Way_at_turn (fun vs H Q E h => ?_) (fun f cdv A outer s₀ H vs Q E hr h => ?_)
  · obtain ⟨_, _, _, _, _, _, _, _, _, rfl, _⟩ := h
    rfl
  · obtain ⟨p, t, n, s, g, vh, vc, q, x, rfl, W, sg, _, ln, ls, lg, ht, _, k⟩ := h
    refine ⟨_, (pss_cons (ps_set (i := 2) sc_Way_at_turn.nd rfl (Or.inl rfl) (pe_fn (ok_name_at T) hr pass0 (pa_cons (pe_fld (pv 0) rfl) (pa_cons (pv 1) pa_nil))))
      (pss_cons (ps_set (i := 3) sc_Way_at_turn.nd rfl (Or.inl rfl) (pe_fn (ok_name_at T) hr pass0 (pa_cons (pe_fld (pv 0) rfl) (pa_cons (pv 1) pa_nil))))
      (pss_one (ps_ret (pe_mk (mk_Way T) hr T.mg_Way pass0 (pa_cons (pe_fn (ok_name_at T) hr pass0 (pa_cons (pe_fld (pv 0) rfl) (pa_cons (pv 1) pa_nil))) (pa_cons (pv 2) (pa_cons (pv 3) (pa_cons (pe_fld (pv 0) rfl) (pa_cons (pe_fld (pv 0) rfl) pa_nil)))))))))), ?_⟩
    obtain ⟨dx, fs, ho, h5, _⟩ := W.ob
    have c := T.wW
    refine ⟨_, rfl, p, _, dx, fs, _, rfl, ho, c.cl, c.n2, h5.st, _, rfl, s, t, rfl, by omega, ht, ?_⟩
    refine ⟨_, rfl, p, _, dx, fs, _, rfl, ho, c.cl, c.n3, h5.go, _, rfl, g, t, rfl, by omega, ht, ?_⟩
    refine ⟨_, rfl, p, _, dx, fs, _, rfl, ho, c.cl, c.n1, h5.nm, _, rfl, n, t, rfl, by omega, ht, _, rfl, _, rfl, _, rfl, p, _, dx, fs, _, rfl, ho, c.cl, c.n4, h5.hi, _, rfl, p, _, dx, fs, _, rfl, ho, c.cl, c.n5, h5.co, ?_⟩
    exact mkW T (atT_ne (sg (by nofun))) W.fq W.hh W.hc k
theorem turn_Growing (T : TX K mg a) : MtB P w K mg base CX0 a.Growing "at_turn" 7 ["self", "turn"] (spTurn a .gro) := by
  refine T.m_Growing_at_turn.ok sc_Growing_at_turn (fun vs H Q E h => ?_) (fun f cdv A outer s₀ H vs Q E hr h => ?_)
  · obtain ⟨_, _, _, _, _, _, _, _, _, rfl, _⟩ := h
    rfl
  · obtain ⟨p, t, n, s, g, vh, vc, q, x, rfl, W, sg, _, ln, ls, lg, ht, _, k⟩ := h
    refine ⟨_, (pss_cons (ps_set (i := 2) sc_Growing_at_turn.nd rfl (Or.inl rfl) (pe_fn (ok_name_at T) hr pass0 (pa_cons (pe_fld (pv 0) rfl) (pa_cons (pv 1) pa_nil))))
      (pss_cons (ps_set (i := 3) sc_Growing_at_turn.nd rfl (Or.inl rfl) (pe_fn (ok_name_at T) hr pass0 (pa_cons (pe_fld (pv 0) rfl) (pa_cons (pv 1) pa_nil))))
      (pss_one (ps_ret (pe_mk (mk_Growing T) hr T.mg_Growing pass0 (pa_cons (pe_fn (ok_name_at T) hr pass0 (pa_cons (pe_fld (pv 0) rfl) (pa_cons (pv 1) pa_nil))) (pa_cons (pv 2) (pa_cons (pv 3) (pa_cons (pe_fld (pv 0) rfl) (pa_cons (pe_fld (pv 0) rfl) (pa_cons (pe_fld (pv 0) rfl) pa_nil))))))))))), ?_⟩
    obtain ⟨dx, fs, ho, h5, hl⟩ := W.ob
    have c := T.wG
    refine ⟨_, rfl, p, _, dx, fs, _, rfl, ho, c.cl, c.n2, h5.st, _, rfl, s, t, rfl, by omega, ht, ?_⟩
    refine ⟨_, rfl, p, _, dx, fs, _, rfl, ho, c.cl, c.n3, h5.go, _, rfl, g, t, rfl, by omega, ht, ?_⟩
    refine ⟨_, rfl, p, _, dx, fs, _, rfl, ho, c.cl, c.n1, h5.nm, _, rfl, n, t, rfl, by omega, ht, _, rfl, _, rfl, _, rfl, p, _, dx, fs, _, rfl, ho, c.cl, T.na_Growing_rate, hl (by nofun), _, rfl, p, _, dx, fs, _, rfl, ho, c.cl, c.n4, h5.hi, _, rfl, p, _, dx, fs, _, rfl, ho, c.cl, c.n5, h5.co, ?_⟩
    exact mkG T (atT_ne (sg (by nofun))) W.fq W.px W.hh W.hc k
theorem turn_Leaking (T : TX K mg a) : MtB P w K mg base CX0 a.Leaking "at_turn" 7 ["self", "turn"] (spTurn a .lea) := by
  refine T.m_Leaking_at_turn.ok sc_Leaking_at_turn (fun vs H Q E h => ?_) (fun f cdv A outer s₀ H vs Q E hr h => ?_)
  · obtain ⟨_, _, _, _, _, _, _, _, _, rfl, _⟩ := h
    rfl
  · obtain ⟨p, t, n, s, g, vh, vc, q, x, rfl, W, sg, _, ln, ls, lg, ht, _, k⟩ := h
    refine ⟨_, (pss_cons (ps_set (i := 2) sc_Leaking_at_turn.nd rfl (Or.inl rfl) (pe_fn (ok_name_at T) hr pass0 (pa_cons (pe_fld (pv 0) rfl) (pa_cons (pv 1) pa_nil))))
      (pss_cons (ps_set (i := 3) sc_Leaking_at_turn.nd rfl (Or.inl rfl) (pe_fn (ok_name_at T) hr pass0 (pa_cons (pe_fld (pv 0) rfl) (pa_cons (pv 1) pa_nil))))
      (pss_one (ps_ret (pe_mk (mk_Leaking T) hr T.mg_Leaking pass0 (pa_cons (pe_fn (ok_name_at T) hr pass0 (pa_cons (pe_fld (pv 0) rfl) (pa_cons (pv 1) pa_nil))) (pa_cons (pv 2) (pa_cons (pv 3) (pa_cons (pe_fld (pv 0) rfl) (pa_cons (pe_fld (pv 0) rfl) (pa_cons (pe_fld (pv 0) rfl) pa_nil))))))))))), ?_⟩
    obtain ⟨dx, fs, ho, h5, hl⟩ := W.ob
    have c := T.wL
    refine ⟨_, rfl, p, _, dx, fs, _, rfl, ho, c.cl, c.n2, h5.st, _, rfl, s, t, rfl, by omega, ht, ?_⟩
    refine ⟨_, rfl, p, _, dx, fs, _, rfl, ho, c.cl, c.n3, h5.go, _, rfl, g, t, rfl, by omega, ht, ?_⟩
    refine ⟨_, rfl, p, _, dx, fs, _, rfl, ho, c.cl, c.n1, h5.nm, _, rfl, n, t, rfl, by omega, ht, _, rfl, _, rfl, _, rfl, p, _, dx, fs, _, rfl, ho, c.cl, T.na_Leaking_loss, hl (by nofun), _, rfl, p, _, dx, fs, _, rfl, ho, c.cl, c.n4, h5.hi, _, rfl, p, _, dx, fs, _, rfl, ho, c.cl, c.n5, h5.co, ?_⟩
    exact mkL T (atT_ne (sg (by nofun))) W.fq W.px W.hh W.hc k
theorem turn_Store (T : TX K mg a) : MtB P w K mg base CX0 a.Store "at_turn" 7 ["self", "turn"] (spTurn a .sto) := by
  refine T.m_Store_at_turn.ok sc_Store_at_turn (fun vs H Q E h => ?_) (fun f cdv A outer s₀ H vs Q E hr h => ?_)
  · obtain ⟨_, _, _, _, _, _, _, _, _, rfl, _⟩ := h
    rfl
  · obtain ⟨p, t, n, s, g, vh, vc, q, x, rfl, W, _, sg, ln, ls, lg, ht, ht1, k⟩ := h
    refine ⟨_, (pss_cons (ps_set (i := 2) sc_Store_at_turn.nd rfl (Or.inl rfl) (pe_fn (ok_name_at T) hr pass0 (pa_cons (pe_fld (pv 0) rfl) (pa_cons (pv 1) pa_nil))))
      (pss_cons (ps_set (i := 3) sc_Store_at_turn.nd rfl (Or.inl rfl) (pe_fn (ok_name_at T) hr pass0 (pa_cons (pe_fld (pv 0) rfl) (pa_cons (pe_op op_add (pv 1) pe_int) pa_nil))))
      (pss_one (ps_ret (pe_mk (mk_Leaking T) hr T.mg_Leaking pass0 (pa_cons (pe_fn (ok_name_at T) hr pass0 (pa_cons (pe_fld (pv 0) rfl) (pa_cons (pv 1) pa_nil))) (pa_cons (pv 2) (pa_cons (pv 3) (pa_cons (pe_fld (pv 0) rfl) (pa_cons (pe_fld (pv 0) rfl) (pa_cons (pe_fld (pv 0) rfl) pa_nil))))))))))), ?_⟩
    obtain ⟨dx, fs, ho, h5, hl⟩ := W.ob
    have c := T.wS
    refine ⟨_, rfl, p, _, dx, fs, _, rfl, ho, c.cl, c.n2, h5.st, _, rfl, s, t, rfl, by omega, ht, ?_⟩
    refine ⟨_, rfl, p, _, dx, fs, _, rfl, ho, c.cl, c.n3, h5.go, _, rfl, _, _, rfl, rfl, g, t + 1, rfl, by omega, ht1, ?_⟩
    refine ⟨_, rfl, p, _, dx, fs, _, rfl, ho, c.cl, c.n1, h5.nm, _, rfl, n, t, rfl, by omega, ht, _, rfl, _, rfl, _, rfl, p, _, dx, fs, _, rfl, ho, c.cl, T.na_Store_loss, hl (by nofun), _, rfl, p, _, dx, fs, _, rfl, ho, c.cl, c.n4, h5.hi, _, rfl, p, _, dx, fs, _, rfl, ho, c.cl, c.n5, h5.co, ?_⟩
    refine mkL T ?_ W.fq W.px W.hh W.hc k
    rw [sg rfl]
    exact atT_next ht
theorem turn_any (T : TX K mg a) (kd : Kd) : MtB P w K mg base CX0 (kd.C a) "at_turn" 7 ["self", "turn"] (spTurn a kd) := by
  cases kd
  · exact turn_Way T
  · exact turn_Growing T
  · exact turn_Leaking T
  · exact turn_Store T
theorem cls_any (T : TX K mg a) (kd : Kd) : WayC K (kd.C a) := by
  cases kd
  · exact T.wW
  · exact T.wG
  · exact T.wL
  · exact T.wS
end
end G
namespace G
open PySem L2
section
variable {P : Program} {w : World} {K : PySem.W.Frag} {mg : Str → Option Value} {base : Heap} {a : Ad}
def spName : Sp := fun vs H Q _ => ∃ k c : Int, vs = [.int k, .int c] ∧ 0 ≤ k ∧ k < 37 ∧ Q (.str (nameOf k c)) H
theorem le_line {n : Nat} (h : n ≤ 1000) : n ≤ sizeLine := by rw [PySem.sizeLine_eq]; omega
theorem one_len {c : Nat} : (⟨#[c]⟩ : Str).length = 1 := rfl
theorem sm_lt {z : Int} {n : Nat} (h : z.natAbs < 1000) : Sm z := Sm.of_le (n := 10) (by omega) (by decide)
theorem ok_law_name (T : TX K mg a) : FnB P w K mg base CX0 "_law_name" 1 ["_law_k", "_law_cell"] spName := by
  refine T.d_law_name.ok sc_law_name (fun vs H Q E h => ?_) (fun f cdv A outer s H vs Q E hr h => ?_)
  · obtain ⟨k, c, rfl, _⟩ := h
    rfl
  · obtain ⟨i, c, rfl, h0, h1, k⟩ := h
    refine ⟨_, (pss_cons (ps_set (i := 2) sc_law_name.nd rfl (Or.inl rfl) pe_str)
      (pss_cons (ps_set (i := 0) sc_law_name.nd rfl (Or.inl rfl) (pe_op op_mod (pe_op op_add (pe_op op_mulB (pv 0) (pe_op op_add pe_int (pe_op op_mod (pe_op op_fdiv (pv 1) pe_int) pe_int))) (pe_op op_fdiv (pv 1) pe_int)) pe_int))
      (pss_cons (ps_if (pt_cmpR op_eq (pe_op op_mod (pv 1) pe_int) pe_int (nomark _)) (pss_one (ps_ret (pe_op op_rep_str (pe_ix ix_str (pv 2) (pe_op op_mod (pe_op op_fdiv (pv 1) pe_int) pe_int) (fun _ _ => rfl)) (pe_op op_add (pv 0) pe_int)))) pss_nil)
      (pss_one (ps_ret (pe_op op_add_str (pe_op op_add_str (pe_op op_rep_str pe_str (pe_op op_mod (pe_op op_fdiv (pv 1) pe_int) pe_int)) (pe_ix ix_str (pv 2) (pv 0) (fun _ _ => rfl))) (pe_op op_rep_str pe_str (pe_op op_mod (pe_op op_fdiv (pv 1) pe_int) pe_int)))))))), ?_⟩
    have m1 := Int.emod_nonneg (c / 5) (show (36 : Int) ≠ 0 by decide)
    have m2 := Int.emod_lt_of_pos (c / 5) (show (0 : Int) < 36 by decide)
    have q1 := Int.emod_nonneg (c / 3) (show (25 : Int) ≠ 0 by decide)
    have q2 := Int.emod_lt_of_pos (c / 3) (show (0 : Int) < 25 by decide)
    have r1 := Int.emod_nonneg (c / 75) (show (25 : Int) ≠ 0 by decide)
    have r2 := Int.emod_lt_of_pos (c / 75) (show (0 : Int) < 25 by decide)
    have p1 := Int.emod_nonneg (c / 3) (show (37 : Int) ≠ 0 by decide)
    have p2 := Int.emod_lt_of_pos (c / 3) (show (0 : Int) < 37 by decide)
    obtain ⟨t1, t2⟩ := turnK_lt i c
    walk_at "rd"
    refine ⟨⟨sm_lt (n := 0) (by omega), sm_lt (n := 0) (by omega)⟩, ?_⟩
    walk_at "rd"
    refine ifV (fun h2 => ?_) (fun h2 => ?_)
    · unfold nameOf at k
      rw [if_pos h2] at k
      walk_at "rd"
      refine ⟨by rw [PySem.sizeLine_eq]; decide, sgAt_some p1 p2, ?_⟩
      walk_at "rd"
      have t2' : turnK i c + 1 < 1000 := by omega
      refine ⟨show (turnK i c + 1).natAbs < 1000 by omega, ?_⟩
      exact k
    · unfold nameOf at k
      rw [if_neg h2] at k
      have l := nameOf_len i c
      have x1 : ("x" : Str) = ⟨#[120]⟩ := by decide +kernel
      have l1 : (Txt.mul ("x" : Str) (c / 3 % 25)).length ≤ 25 := by rw [x1, len_cps, mul_cps, List.length_replicate]; omega
      have l2 : (Txt.mul ("x" : Str) (c / 75 % 25)).length ≤ 25 := by rw [x1, len_cps, mul_cps, List.length_replicate]; omega
      walk_at "rd"
      refine ⟨by omega, ?_⟩
      walk_at "rd"
      refine ⟨by rw [PySem.sizeLine_eq]; decide, sgAt_some t1 t2, ?_⟩
      walk_at "rd"
      refine ⟨by rw [PySem.sizeLine_eq, one_len]; omega, ?_⟩
      walk_at "rd"
      refine ⟨by omega, ?_⟩
      walk_at "rd"
      refine ⟨by rw [PySem.sizeLine_eq, PySem.strLen_append, one_len]; omega, ?_⟩
      exact k
theorem bt_mul {c k : Int} (h : Bt c) (hk : Builtin.Int.intBits k ≤ 200) : IntMulOk (c / 5 * 982451653) k := by
  have h1 := bits_pos h.le
  have h2 : (c / 5 * 982451653).natAbs < 2 ^ (2 ^ 20 + 30) := by
    rw [Int.natAbs_mul, Nat.pow_add]
    have h3 : (c / 5).natAbs ≤ c.natAbs := natAbs_ediv_le c 5
    have h4 : (982451653 : Int).natAbs < 2 ^ 30 := by decide
    exact Nat.mul_lt_mul_of_le_of_lt (Nat.le_of_lt (Nat.lt_of_le_of_lt h3 h1)) h4 (Nat.two_pow_pos _)
  refine mulOk_bits ?_
  have h5 := bits_le h2
  generalize Builtin.Int.intBits (c / 5 * 982451653) = u at *
  have : 2 ^ 20 + 30 + 200 ≤ 2 ^ 27 := by decide
  omega
theorem Bt.ediv {c : Int} (h : Bt c) (d : Nat) : Bt (c / d) := by
  refine ⟨bits_le (Nat.lt_of_le_of_lt ?_ (bits_pos h.le))⟩
  exact natAbs_ediv_le c d
structure PairOk (t b : Int) : Prop where
  t0 : 0 ≤ t
  b0 : 0 < b
  tl : t.natAbs ≤ 2 ^ 200
  bl : b.natAbs ≤ 2 ^ 200
structure PairAt (H : Hp) (p : Addr) (t b : Int) : Prop where
  ob : H p = some (.tup [.int t, .int b])
  ok : PairOk t b
theorem PairAt.mono {H H' : Hp} {p : Addr} {t b : Int} (h : PairAt H p t b) (s : Same H H') : PairAt H' p t b := ⟨s _ _ h.ob, h.ok⟩
def spPair : Sp := fun vs H Q _ => ∃ c : Int, vs = [.int c] ∧ Bt c ∧ ∀ p H' t b, Same H H' → PairAt H' p t b → t.natAbs ≤ 2 ^ 199 → Q (.ref p) H'
theorem ok_law_pair (T : TX K mg a) : FnB P w K mg base CX0 "_law_pair" 1 ["_law_cell"] spPair := by
  refine T.d_law_pair.ok sc_law_pair (fun vs H Q E h => ?_) (fun f cdv A outer s H vs Q E hr h => ?_)
  · obtain ⟨c, rfl, _⟩ := h
    rfl
  · obtain ⟨c, rfl, hb, k⟩ := h
    refine ⟨_, (pss_cons (ps_if (pt_cmpR op_eq (pe_op op_mod (pv 0) pe_int) pe_int (nomark _)) (pss_one (ps_ret (pe_tup (pa_cons (pe_op op_mod (pe_op op_mulG (pe_op op_mulG (pe_op op_fdiv (pv 0) pe_int) pe_int) (pe_op op_pow pe_int pe_int)) (pe_op op_add (pe_op op_pow pe_int pe_int) pe_int)) (pa_cons (pe_op op_add pe_int (pe_op op_mod (pe_op op_mulG (pv 0) pe_int) (pe_op op_add (pe_op op_pow pe_int pe_int) pe_int))) pa_nil))))) pss_nil)
      (pss_one (ps_ret (pe_tup (pa_cons (pe_op op_mod (pe_op op_fdiv (pv 0) pe_int) pe_int) (pa_cons (pe_op op_add pe_int (pe_op op_mod (pe_op op_fdiv (pv 0) pe_int) pe_int)) pa_nil)))))), ?_⟩
    walk_at "rd"
    refine ifV (fun h2 => ?_) (fun h2 => ?_)
    · walk_at "rd"
      refine ⟨bt_mul hb (by decide +kernel), ?_⟩
      walk_at "rd"
      have big : (c / 5 * 982451653 * 10 ^ (41 : Int).toNat % (10 ^ (50 : Int).toNat + 1)).natAbs ≤ 2 ^ 199 := by
        have e1 := Int.emod_nonneg (c / 5 * 982451653 * 10 ^ (41 : Int).toNat) (show (10 ^ (50 : Int).toNat + 1 : Int) ≠ 0 by decide)
        have e2 := Int.emod_lt_of_pos (c / 5 * 982451653 * 10 ^ (41 : Int).toNat) (show (0 : Int) < 10 ^ (50 : Int).toNat + 1 by decide)
        refine Nat.le_trans (m := 10 ^ 50) ?_ (by decide)
        generalize c / 5 * 982451653 * 10 ^ (41 : Int).toNat % (10 ^ (50 : Int).toNat + 1) = z at *
        have e3 : (10 ^ (50 : Int).toNat : Int) = ((10 ^ 50 : Nat) : Int) := by decide
        rw [e3] at e2
        generalize (10 ^ 50 : Nat) = y at *
        omega
      refine ⟨le_line (show 2 ≤ 1000 by decide), fun p np => k p _ _ _ (fun b o e => by rw [upd_ne (ne_of_none e np)]; exact e) ⟨upd_same, ⟨?_, ?_, Nat.le_trans big (pow_le (by decide)), ?_⟩⟩ big⟩
      · exact Int.emod_nonneg _ (by decide)
      · have e1 := Int.emod_nonneg (c * 48271) (show (10 ^ (40 : Int).toNat + 121 : Int) ≠ 0 by decide)
        show 0 < 1 + c * 48271 % (10 ^ (40 : Int).toNat + 121)
        omega
      · have e1 := Int.emod_nonneg (c * 48271) (show (10 ^ (40 : Int).toNat + 121 : Int) ≠ 0 by decide)
        have e2 := Int.emod_lt_of_pos (c * 48271) (show (0 : Int) < 10 ^ (40 : Int).toNat + 121 by decide)
        refine Nat.le_trans (m := 10 ^ 40 + 121) ?_ (by decide)
        show (1 + c * 48271 % (10 ^ (40 : Int).toNat + 121)).natAbs ≤ 10 ^ 40 + 121
        generalize c * 48271 % (10 ^ (40 : Int).toNat + 121) = z at *
        have e3 : (10 ^ (40 : Int).toNat : Int) = ((10 ^ 40 : Nat) : Int) := by decide
        rw [e3] at e2
        generalize (10 ^ 40 : Nat) = y at *
        omega
    · walk_at "rd"
      have e1 := Int.emod_nonneg (c / 5) (show (25 : Int) ≠ 0 by decide)
      have e2 := Int.emod_lt_of_pos (c / 5) (show (0 : Int) < 25 by decide)
      have e3 := Int.emod_nonneg (c / 125) (show (12 : Int) ≠ 0 by decide)
      have e4 := Int.emod_lt_of_pos (c / 125) (show (0 : Int) < 12 by decide)
      refine ⟨le_line (show 2 ≤ 1000 by decide), fun p np => k p _ _ _ (fun b o e => by rw [upd_ne (ne_of_none e np)]; exact e) ⟨upd_same, ⟨e1, ?_, ?_, ?_⟩⟩ ?_⟩
      · show 0 < 1 + c / 125 % 12
        omega
      · exact Nat.le_trans (m := 25) (show (c / 5 % 25).natAbs ≤ 25 by omega) (by decide)
      · exact Nat.le_trans (m := 25) (show (1 + c / 125 % 12).natAbs ≤ 25 by omega) (by decide)
      · exact Nat.le_trans (m := 25) (show (c / 5 % 25).natAbs ≤ 25 by omega) (by decide)
def spMaybe (C : Addr) : Sp := fun vs H Q _ => ∃ v : V, vs = [v] ∧ (v ≠ .non → ∃ p t b, v = .ref p ∧ PairAt H p t b ∧ NewFr C H Q (Rat.divInt t b)) ∧ (v = .non → Q .non H)
theorem ok_law_maybe (T : TX K mg a) : FnB P w K mg base CX0 "_law_maybe" 4 ["_law_pair_here"] (spMaybe a.Fraction) := by
  refine T.d_law_maybe.ok sc_law_maybe (fun vs H Q E h => ?_) (fun f cdv A outer s H vs Q E hr h => ?_)
  · obtain ⟨c, rfl, _⟩ := h
    rfl
  · obtain ⟨v, rfl, k2, k1⟩ := h
    refine ⟨_, (pss_cons (ps_if (pt_cmpR op_isN (pv 0) pe_non (nomark _)) (pss_one (ps_ret pe_non)) pss_nil)
      (pss_one (ps_ret (pe_mkfr (mk2 T) hr T.mg_Fraction pass0 (pa_cons (pe_ix ix_tup (pv 0) pe_int (fun _ _ => rfl)) (pa_cons (pe_ix ix_tup (pv 0) pe_int (fun _ _ => rfl)) pa_nil)))))), ?_⟩
    walk_at "rd"
    by_cases hv : v = .non
    · refine iteC (decide_eq_true hv) ?_
      exact k1 hv
    · refine iteD (decide_eq_false hv) ?_
      obtain ⟨p, t, b, rfl, hp, k⟩ := k2 hv
      have sb : Sm b := Sm.of_le hp.ok.bl (by decide)
      refine ⟨_, rfl, p, _, _, _, rfl, rfl, SqT.of hp.ob, rfl, _, rfl, p, _, _, _, rfl, rfl, SqT.of hp.ob, rfl, ?_⟩
      refine ⟨t, b, rfl, by have := hp.ok.b0; omega, sb, k⟩
def behindT (kd : Kd) (t : Int) : Int := match kd with | .sto => t + 1 | _ => t
structure Nm (H : Hp) (l : Addr) (n s g : Str) : Prop where
  ob : H l = some (.lst [.str n, .str s, .str g])
  ln : n.length ≤ 700
  ls : s.length ≤ 700
  lg : g.length ≤ 700
theorem Nm.mono {H H' : Hp} {l : Addr} {n s g : Str} (h : Nm H l n s g) (ss : Same H H') : Nm H' l n s g := { h with ob := ss _ _ h.ob }
def spBehind : Sp := fun vs H Q _ => ∃ (kd : Kd) (l : Addr) (n s g : Str) (t : Int), vs = [.int kd.n, .ref l, .int t] ∧ Nm H l n s g ∧ Tn t ∧ Tn (t + 1) ∧ ∀ l' H', H l' = none → Same H H' → H' l' = some (.lst [.str (atT n t), .str (atT s t), .str (atT g (behindT kd t))]) → Q (.ref l') H'
theorem ok_law_behind (T : TX K mg a) : FnB P w K mg base CX0 "_law_behind" 1 ["_law_kind", "_law_names", "_law_turn"] spBehind := by
  refine T.d_law_behind.ok sc_law_behind (fun vs H Q E h => ?_) (fun f cdv A outer s H vs Q E hr h => ?_)
  · obtain ⟨_, _, _, _, _, _, rfl, _⟩ := h
    rfl
  · obtain ⟨kd, l, n, s', g, t, rfl, hn, ht, ht1, k⟩ := h
    refine ⟨_, (pss_cons (ps_asg (pv 1) (pg_lst rfl (pgs_cons (pg_name (i := 3) sc_law_behind.nd rfl (Or.inl rfl)) (pgs_cons (pg_name (i := 4) sc_law_behind.nd rfl (Or.inl rfl)) (pgs_cons (pg_name (i := 5) sc_law_behind.nd rfl (Or.inl rfl)) pgs_nil)))))
      (pss_cons (ps_set (i := 6) sc_law_behind.nd rfl (Or.inl rfl) (pv 2))
      (pss_cut (ps_if (pt_cmpR op_eq (pv 0) pe_int (nomark _)) (pss_one (ps_set (i := 6) sc_law_behind.nd rfl (Or.inl rfl) (pe_op op_add (pv 2) pe_int))) pss_nil)
      (pss_one (ps_ret (pe_lst (pa_cons (pe_op op_add_str (pe_op op_add_str (pv 3) pe_str) (pe_callTy call_str_int (by rfl) T.z_str PyProof.Rows.boot_str (pa_cons (pv 2) pa_nil))) (pa_cons (pe_op op_add_str (pe_op op_add_str (pv 4) pe_str) (pe_callTy call_str_int (by rfl) T.z_str PyProof.Rows.boot_str (pa_cons (pv 2) pa_nil))) (pa_cons (pe_op op_add_str (pe_op op_add_str (pv 5) pe_str) (pe_callTy call_str_int (by rfl) T.z_str PyProof.Rows.boot_str (pa_cons (pv 6) pa_nil))) pa_nil))))))))), ?_⟩
    walk_at "rd"
    refine ⟨SqL.of hn.ob, rfl, _, _, rfl, _, _, rfl, _, _, rfl, rfl, _, rfl, ?_⟩
    refine ⟨fun σ' H' => σ' = [some (.int kd.n), some (.ref l), some (.int t), some (.str n), some (.str s'), some (.str g), some (.int (behindT kd t))] ∧ H' = H, ?_, ?_⟩
    · walk_at "rd"
      cases kd
      · exact ifV (fun h => absurd h (by decide)) fun _ => ⟨rfl, rfl⟩
      · exact ifV (fun h => absurd h (by decide)) fun _ => ⟨rfl, rfl⟩
      · exact ifV (fun h => absurd h (by decide)) fun _ => ⟨rfl, rfl⟩
      · refine ifV (fun _ => ?_) fun h => absurd rfl h
        exact ⟨_, rfl, _, _, rfl, rfl, rfl, rfl⟩
    rintro σ' H' ⟨rfl, rfl⟩
    have hb : Tn (behindT kd t) := by cases kd <;> first | exact ht | exact ht1
    generalize behindT kd t = t' at *
    have h1 := hn.ln
    have h2 := hn.ls
    have h3 := hn.lg
    have h4 := ht.len
    have h5 := hb.len
    have d1 : ("." : Str).length = 1 := rfl
    walk_at "rd"
    refine ⟨le_line (by rw [d1]; omega), ?_⟩
    walk_at "rd"
    refine ⟨ht.log, ?_⟩
    walk_at "rd"
    refine ⟨le_line (by rw [PySem.strLen_append, d1]; omega), ?_⟩
    walk_at "rd"
    refine ⟨le_line (by rw [d1]; omega), ?_⟩
    walk_at "rd"
    refine ⟨ht.log, ?_⟩
    walk_at "rd"
    refine ⟨le_line (by rw [PySem.strLen_append, d1]; omega), ?_⟩
    walk_at "rd"
    refine ⟨le_line (by rw [d1]; omega), ?_⟩
    walk_at "rd"
    refine ⟨hb.log, ?_⟩
    walk_at "rd"
    refine ⟨le_line (by rw [PySem.strLen_append, d1]; omega), ?_⟩
    refine ⟨le_line (show 3 ≤ 1000 by decide), fun p np => k p _ np (fun b o e => by rw [upd_ne (ne_of_none e np)]; exact e) upd_same⟩
def spMade (a : Ad) : Sp := fun vs H Q _ => ∃ (kd : Kd) (l q : Addr) (n s g : Str) (vh vc : V) (x : Rat), vs = [.int kd.n, .ref l, .ref q, vh, vc] ∧ Nm H l n s g ∧ FrAt a.Fraction H q x ∧ kd.ok x ∧ HiOk a.Fraction H vh ∧ vc ≠ .non ∧ (kd ≠ .sto → s ≠ g) ∧ (kd = .sto → s = g) ∧ NewWay a H Q kd n s g vh vc q x
theorem ok_law_made (T : TX K mg a) : FnB P w K mg base CX0 "_law_made" 8 ["_law_kind", "_law_names", "_law_part", "_law_high", "_law_cost"] (spMade a) := by
  refine T.d_law_made.ok sc_law_made (fun vs H Q E h => ?_) (fun f cdv A outer s H vs Q E hr h => ?_)
  · obtain ⟨_, _, _, _, _, _, _, _, _, rfl, _⟩ := h
    rfl
  · obtain ⟨kd, l, q, n, s', g, vh, vc, x, rfl, hn, fq, px, hh, hc, sg, se, k⟩ := h
    refine ⟨_, (pss_cons (ps_asg (pv 1) (pg_lst rfl (pgs_cons (pg_name (i := 5) sc_law_made.nd rfl (Or.inl rfl)) (pgs_cons (pg_name (i := 6) sc_law_made.nd rfl (Or.inl rfl)) (pgs_cons (pg_name (i := 7) sc_law_made.nd rfl (Or.inl rfl)) pgs_nil)))))
      (pss_cons (ps_if (pt_cmpR op_eq (pv 0) pe_int (nomark _)) (pss_one (ps_ret (pe_mk (mk_Way T) hr T.mg_Way pass0 (pa_cons (pv 5) (pa_cons (pv 6) (pa_cons (pv 7) (pa_cons (pv 3) (pa_cons (pv 4) pa_nil)))))))) pss_nil)
      (pss_cons (ps_if (pt_cmpR op_eq (pv 0) pe_int (nomark _)) (pss_one (ps_ret (pe_mk (mk_Growing T) hr T.mg_Growing pass0 (pa_cons (pv 5) (pa_cons (pv 6) (pa_cons (pv 7) (pa_cons (pv 2) (pa_cons (pv 3) (pa_cons (pv 4) pa_nil))))))))) pss_nil)
      (pss_cons (ps_if (pt_cmpR op_eq (pv 0) pe_int (nomark _)) (pss_one (ps_ret (pe_mk (mk_Leaking T) hr T.mg_Leaking pass0 (pa_cons (pv 5) (pa_cons (pv 6) (pa_cons (pv 7) (pa_cons (pv 2) (pa_cons (pv 3) (pa_cons (pv 4) pa_nil))))))))) pss_nil)
      (pss_one (ps_ret (pe_mk (mk_Store T) hr T.mg_Store pass0 (pa_cons (pv 5) (pa_cons (pv 6) (pa_cons (pv 2) (pa_cons (pv 3) (pa_cons (pv 4) pa_nil)))))))))))), ?_⟩
    walk_at "rd"
    refine ⟨SqL.of hn.ob, rfl, _, _, rfl, _, _, rfl, _, _, rfl, rfl, ?_⟩
    walk_at "rd"
    cases kd
    · walk_at "rd"
      exact mkW T (sg (by nofun)) fq hh hc k
    · walk_at "rd"
      exact mkG T (sg (by nofun)) fq px hh hc k
    · walk_at "rd"
      exact mkL T (sg (by nofun)) fq px hh hc k
    · walk_at "rd"
      cases se rfl
      exact mkS fq px hh hc k
/-- the bound above, and what it was made of -/
def HiEq (a : Ad) (H : Hp) (vh hv : V) : Prop := (vh = .non ∧ hv = .non) ∨ ∃ (q p : Addr) (t b : Int), vh = .ref q ∧ hv = .ref p ∧ FrAt a.Fraction H q (Rat.divInt t b) ∧ PairAt H p t b
def spIsWay (a : Ad) : Sp := fun vs H Q _ => ∃ (kd : Kd) (p l lp lc q qc : Addr) (n s g : Str) (vh hv : V) (t b tc bc : Int), vs = [.ref p, .int kd.n, .ref l, .ref lp, hv, .ref lc] ∧ WayAt a H p kd n s g vh (.ref qc) q (Rat.divInt t b) ∧ Nm H l n s g ∧ PairAt H lp t b ∧ HiEq a H vh hv ∧ PairAt H lc tc bc ∧ FrAt a.Fraction H qc (Rat.divInt tc bc) ∧ ∀ H', Same H H' → Q (.bl true) H'
theorem ty_way {H : Hp} {p : Addr} {kd : Kd} {n s g : Str} {vh vc : V} {q : Addr} {x : Rat} (T : TX K mg a) (W : WayAt a H p kd n s g vh vc q x) : TyOf K H (.ref p) (.ref (kd.C a)) := by
  obtain ⟨dx, fs, ho, _⟩ := W.ob
  cases kd
  · exact .ins ho T.cl_Way T.c1_Way T.c2 T.c3 T.c4_Way
  · exact .ins ho T.cl_Growing T.c1_Growing T.c2 T.c3 T.c4_Growing
  · exact .ins ho T.cl_Leaking T.c1_Leaking T.c2 T.c3 T.c4_Leaking
  · exact .ins ho T.cl_Store T.c1_Store T.c2 T.c3 T.c4_Store
theorem kit_W (T : TX K mg a) (kd : Kd) : PySem.W.kitOne K (.ref (kd.C a)) (.ref a.Way) = some true := by
  cases kd
  · exact T.k_Way_Way
  · exact T.k_Growing_Way
  · exact T.k_Leaking_Way
  · exact T.k_Store_Way
theorem kit_G (T : TX K mg a) (kd : Kd) : PySem.W.kitOne K (.ref (kd.C a)) (.ref a.Growing) = some (decide (kd.n = 1)) := by
  cases kd
  · exact T.k_Way_Growing
  · exact T.k_Growing_Growing
  · exact T.k_Leaking_Growing
  · exact T.k_Store_Growing
theorem kit_L (T : TX K mg a) (kd : Kd) : PySem.W.kitOne K (.ref (kd.C a)) (.ref a.Leaking) = some (decide (1 < kd.n)) := by
  cases kd
  · exact T.k_Way_Leaking
  · exact T.k_Growing_Leaking
  · exact T.k_Leaking_Leaking
  · exact T.k_Store_Leaking
theorem kit_S (T : TX K mg a) (kd : Kd) : PySem.W.kitOne K (.ref (kd.C a)) (.ref a.Store) = some (decide (kd.n = 3)) := by
  cases kd
  · exact T.k_Way_Store
  · exact T.k_Growing_Store
  · exact T.k_Leaking_Store
  · exact T.k_Store_Store
theorem PairOk.facts {t b : Int} (h : PairOk t b) : SmR (Rat.divInt t b) ∧ Sm t ∧ Sm b ∧ b ≠ 0 := by
  have l1 : t.natAbs ≤ 2 ^ 600 := Nat.le_trans h.tl (pow_le (by decide))
  have l2 : b.natAbs ≤ 2 ^ 600 := Nat.le_trans h.bl (pow_le (by decide))
  exact ⟨sr600 l1 l2, l600 l1, l600 l2, by have := h.b0; omega⟩
theorem ok_law_is_way (T : TX K mg a) : FnB P w K mg base CX0 "_law_is_way" 3 ["_law_way", "_law_kind", "_law_names", "_law_part", "_law_high", "_law_cost"] (spIsWay a) := by
  refine T.d_law_is_way.ok sc_law_is_way (fun vs H Q E h => ?_) (fun f cdv A outer s H vs Q E hr h => ?_)
  · obtain ⟨_, _, _, _, _, _, _, _, _, _, _, _, _, _, _, _, rfl, _⟩ := h
    rfl
  · obtain ⟨kd, p, l, lp, lc, q, qc, n, s', g, vh, hv, t, b, tc, bc, rfl, W, hn, hp, hq, hc, fc, k⟩ := h
    refine ⟨_, (pss_cons (ps_set (i := 6) sc_law_is_way.nd rfl (Or.inl rfl) (pe_lst (pa_cons (pe_fld (pv 0) rfl) (pa_cons (pe_fld (pv 0) rfl) (pa_cons (pe_fld (pv 0) rfl) pa_nil)))))
      (pss_cons (ps_for PassesOwn.never rfl (pi_range1 rfl T.z_range (pa_cons pe_int pa_nil)) (pg_name (i := 7) sc_law_is_way.nd rfl (Or.inl rfl)) (pss_one (ps_if (PW.pt (pw_or (pt_not (pt_val (pe_callB (call_isI (c := .type "str")) (by rfl) T.z_isinstance PyProof.Rows.boot_isinstance (pa_cons (pe_ix ix_list (pv 6) (pv 7) (fun _ _ => rfl)) (pa_cons (pe_bltn (v := .ty "str") (by rfl) T.z_str PyProof.Rows.boot_str rfl) pa_nil))))) (pw_or1 (pt_cmpR op_ne (pe_ix ix_list (pv 6) (pv 7) (fun _ _ => rfl)) (pe_ix ix_list (pv 2) (pv 7) (fun _ _ => rfl)) (nomark _))))) (pss_one (ps_ret pe_bl)) pss_nil)))
      (pss_cut (ps_if (PW.pt (pw_and (pt_cmpR op_isN (pv 4) pe_non (nomark _)) (pw_and1 (pt_cmpR op_notN (pe_fld (pv 0) rfl) pe_non (nomark _))))) (pss_one (ps_ret pe_bl)) pss_nil)
      (pss_cut (ps_if (PW.pt (pw_and (pt_cmpR op_notN (pv 4) pe_non (nomark _)) (pw_and1 (pt_not (pt_val (pe_fn (ok_law_is T) hr pass0 (pa_cons (pe_fld (pv 0) rfl) (pa_cons (pe_ix ix_tup (pv 4) pe_int (fun _ _ => rfl)) (pa_cons (pe_ix ix_tup (pv 4) pe_int (fun _ _ => rfl)) pa_nil))))))))) (pss_one (ps_ret pe_bl)) pss_nil)
      (pss_cut (ps_if (PW.pt (pw_and (pt_cmpR op_eq (pv 1) pe_int (nomark _)) (pw_and1 (pt_not (pt_val (pe_fn (ok_law_is T) hr pass0 (pa_cons (pe_fld (pv 0) rfl) (pa_cons (pe_ix ix_tup (pv 3) pe_int (fun _ _ => rfl)) (pa_cons (pe_ix ix_tup (pv 3) pe_int (fun _ _ => rfl)) pa_nil))))))))) (pss_one (ps_ret pe_bl)) pss_nil)
      (pss_cut (ps_if (PW.pt (pw_and (pt_cmpR op_gt (pv 1) pe_int (nomark _)) (pw_and1 (pt_not (pt_val (pe_fn (ok_law_is T) hr pass0 (pa_cons (pe_fld (pv 0) rfl) (pa_cons (pe_ix ix_tup (pv 3) pe_int (fun _ _ => rfl)) (pa_cons (pe_ix ix_tup (pv 3) pe_int (fun _ _ => rfl)) pa_nil))))))))) (pss_one (ps_ret pe_bl)) pss_nil)
      (pss_cons (ps_set (i := 8) sc_law_is_way.nd rfl (Or.inl rfl) (pe_lst (pa_cons (pe_callB (call_isI (c := .ref a.Way)) (by rfl) T.z_isinstance PyProof.Rows.boot_isinstance (pa_cons (pv 0) (pa_cons (pe_glob (v := .ref a.Way) (by rfl) T.mg_Way rfl) pa_nil))) (pa_cons (pe_callB (call_isI (c := .ref a.Growing)) (by rfl) T.z_isinstance PyProof.Rows.boot_isinstance (pa_cons (pv 0) (pa_cons (pe_glob (v := .ref a.Growing) (by rfl) T.mg_Growing rfl) pa_nil))) (pa_cons (pe_callB (call_isI (c := .ref a.Leaking)) (by rfl) T.z_isinstance PyProof.Rows.boot_isinstance (pa_cons (pv 0) (pa_cons (pe_glob (v := .ref a.Leaking) (by rfl) T.mg_Leaking rfl) pa_nil))) (pa_cons (pe_callB (call_isI (c := .ref a.Store)) (by rfl) T.z_isinstance PyProof.Rows.boot_isinstance (pa_cons (pv 0) (pa_cons (pe_glob (v := .ref a.Store) (by rfl) T.mg_Store rfl) pa_nil))) pa_nil))))))
      (pss_one (ps_ret (pe_and (pe_cmpR (op_eqL hr.units0) (pv 8) (pe_lst (pa_cons pe_bl (pa_cons (pe_cmpR op_eq (pv 1) pe_int (nomark _)) (pa_cons (pe_cmpR op_gt (pv 1) pe_int (nomark _)) (pa_cons (pe_cmpR op_eq (pv 1) pe_int (nomark _)) pa_nil))))) (nomark _)) (pe_one (pe_fn (ok_law_is T) hr pass0 (pa_cons (pe_fld (pv 0) rfl) (pa_cons (pe_ix ix_tup (pv 5) pe_int (fun _ _ => rfl)) (pa_cons (pe_ix ix_tup (pv 5) pe_int (fun _ _ => rfl)) pa_nil))))))))))))))), ?_⟩
    obtain ⟨dx, fs, ho, h5, hf⟩ := W.ob
    have c := cls_any T kd
    refine ⟨_, rfl, p, _, dx, fs, _, rfl, ho, c.cl, c.n1, h5.nm, _, rfl, p, _, dx, fs, _, rfl, ho, c.cl, c.n2, h5.st, _, rfl, p, _, dx, fs, _, rfl, ho, c.cl, c.n3, h5.go, ?_⟩
    refine ⟨le_line (show 3 ≤ 1000 by decide), fun l2 n2 => ?_⟩
    have s2 : Same H (upd H l2 (.lst [.str n, .str s', .str g])) := fun b o e => by rw [upd_ne (ne_of_none e n2)]; exact e
    have hl2 : (upd H l2 (.lst [.str n, .str s', .str g])) l2 = some (.lst [.str n, .str s', .str g]) := upd_same
    have ho := s2 _ _ ho
    have hn := hn.mono s2
    have hp := hp.mono s2
    have hq : HiEq a _ vh hv := hq.imp id fun ⟨x1, x2, x3, x4, e1, e2, e3, e4⟩ => ⟨x1, x2, x3, x4, e1, e2, e3.mono s2, e4.mono s2⟩
    have hc := hc.mono s2
    have fc := fc.mono s2
    have W := W.mono s2
    have k : ∀ H', Same (upd H l2 (.lst [.str n, .str s', .str g])) H' → Q (.bl true) H' := fun H' ss => k H' (s2.trans ss)
    generalize upd H l2 (.lst [.str n, .str s', .str g]) = H2 at *
    have S1 : SqL K H2 l2 [.str n, .str s', .str g] := SqL.of hl2
    have S2 : SqL K H2 l [.str n, .str s', .str g] := SqL.of hn.ob
    have S3 : SqT K H2 lp [.int t, .int b] := SqT.of hp.ob
    have S4 : SqT K H2 lc [.int tc, .int bc] := SqT.of hc.ob
    have ccl := c.cl
    have cn4 := c.n4
    have cn5 := c.n5
    have h5hi := h5.hi
    have h5co := h5.co
    have fq := W.fq
    obtain ⟨a1, a2, a3, a4⟩ := hp.ok.facts
    obtain ⟨b1, b2, b3, b4⟩ := hc.ok.facts
    refine ⟨3, rfl, by decide, by decide, for_range (n := 3) (fun _ σ H4 => ∃ z : Option V, σ = [some (.ref p), some (.int kd.n), some (.ref l), some (.ref lp), some hv, some (.ref lc), some (.ref l2), z, none] ∧ H4 = H2) ⟨_, rfl, rfl⟩ ?_ ?_⟩
    · rintro k' σ H4 hk ⟨z, rfl, rfl⟩
      obtain ⟨v, hv1⟩ : ∃ v : Str, ([.str n, .str s', .str g] : List V)[k']? = some (.str v) := by
        match k', hk with
        | 0, _ => exact ⟨n, rfl⟩
        | 1, _ => exact ⟨s', rfl⟩
        | 2, _ => exact ⟨g, rfl⟩
      have A1 : atI ([.str n, .str s', .str g] : List V) (0 + (k' : Int)) = some (.str v) := by rw [Int.zero_add]; exact atI_nat hv1
      walk_at "rd"
      refine iteNS rfl ?_
      exact ⟨_, rfl, rfl⟩
    rintro σ H4 ⟨z, rfl, rfl⟩
    refine ⟨fun σ' H' => σ' = [some (.ref p), some (.int kd.n), some (.ref l), some (.ref lp), some hv, some (.ref lc), some (.ref l2), z, none] ∧ H' = H4, ?_, ?_⟩
    · rcases hq with ⟨rfl, rfl⟩ | ⟨qh, ph, th, bh, rfl, rfl, fh, hh⟩
      · walk_at "rd"
        first | exact ⟨rfl, rfl⟩ | exact rfl
      · walk_at "rd"
        first | exact ⟨rfl, rfl⟩ | exact rfl
    rintro σ' H' ⟨rfl, rfl⟩
    refine ⟨fun σ' H'' => σ' = [some (.ref p), some (.int kd.n), some (.ref l), some (.ref lp), some hv, some (.ref lc), some (.ref l2), z, none] ∧ H'' = H', ?_, ?_⟩
    · rcases hq with ⟨rfl, rfl⟩ | ⟨qh, ph, th, bh, rfl, rfl, fh, hh⟩
      · walk_at "rd"
        first | exact ⟨rfl, rfl⟩ | exact rfl
      · have S5 : SqT K H' ph [.int th, .int bh] := SqT.of hh.ob
        obtain ⟨c1, c2, c3, c4⟩ := hh.ok.facts
        walk_at "rd"
        first | exact ⟨rfl, rfl⟩ | exact rfl
    rintro σ' H'' ⟨rfl, rfl⟩
    refine ⟨fun σ' H' => σ' = [some (.ref p), some (.int kd.n), some (.ref l), some (.ref lp), some hv, some (.ref lc), some (.ref l2), z, none] ∧ H' = H'', ?_, ?_⟩
    · cases kd
      · walk_at "rd"
        first | exact ⟨rfl, rfl⟩ | exact rfl
      · have nr : NoAttr K (Kd.C a .gro) "rate" := T.na_Growing_rate
        have hf' : fs.lookup ("rate" : Str) = some (.ref q) := hf (by nofun)
        walk_at "rd"
        first | exact ⟨rfl, rfl⟩ | exact rfl
      · walk_at "rd"
        first | exact ⟨rfl, rfl⟩ | exact rfl
      · walk_at "rd"
        first | exact ⟨rfl, rfl⟩ | exact rfl
    rintro σ' H' ⟨rfl, rfl⟩
    refine ⟨fun σ' H'' => σ' = [some (.ref p), some (.int kd.n), some (.ref l), some (.ref lp), some hv, some (.ref lc), some (.ref l2), z, none] ∧ H'' = H', ?_, ?_⟩
    · cases kd
      · walk_at "rd"
        first | exact ⟨rfl, rfl⟩ | exact rfl
      · walk_at "rd"
        first | exact ⟨rfl, rfl⟩ | exact rfl
      · have nr : NoAttr K (Kd.C a .lea) "loss" := T.na_Leaking_loss
        have hf' : fs.lookup ("loss" : Str) = some (.ref q) := hf (by nofun)
        walk_at "rd"
        first | exact ⟨rfl, rfl⟩ | exact rfl
      · have nr : NoAttr K (Kd.C a .sto) "loss" := T.na_Store_loss
        have hf' : fs.lookup ("loss" : Str) = some (.ref q) := hf (by nofun)
        walk_at "rd"
        first | exact ⟨rfl, rfl⟩ | exact rfl
    rintro σ' H'' ⟨rfl, rfl⟩
    have ty := ty_way T W
    have k1 := kit_W T kd
    have k2 := kit_G T kd
    have k3 := kit_L T kd
    have k4 := kit_S T kd
    walk_at "rd"
    refine ⟨le_line (show 4 ≤ 1000 by decide), fun l3 n3 => ?_⟩
    walk_at "rd"
    refine ⟨le_line (show 4 ≤ 1000 by decide), fun l4 n4 => ?_⟩
    have s3 : ∀ {o : HO}, Same H'' (upd H'' l3 o) := fun b o e => by rw [upd_ne (ne_of_none e n3)]; exact e
    have s4 : ∀ {o o' : HO}, Same H'' (upd (upd H'' l3 o) l4 o') := fun b o e => by rw [upd_ne (ne_of_none (s3 _ _ e) n4)]; exact s3 _ _ e
    refine ⟨l3, l4, _, _, rfl, rfl, SqL.of (by rw [upd_ne (ne_of_none upd_same n4)]; exact upd_same), SqL.of upd_same, rfl, rfl, ?_⟩
    refine ⟨_, rfl, ?_⟩
    refine iteC (by cases kd <;> decide) ?_
    generalize hH : upd (upd H'' l3 _) l4 _ = H3
    have s5 : Same H'' H3 := hH ▸ s4
    have ho3 := s5 _ _ ho
    have S43 : SqT K H3 lc [.int tc, .int bc] := SqT.of (s5 _ _ hc.ob)
    have fc3 := fc.mono s5
    clear hH
    walk_at "rd"
    exact k _ s5
/-- a way, and all that it was made of -/
structure Sn (a : Ad) (H : Hp) (p l lp lc q qc : Addr) (kd : Kd) (n s g : Str) (vh hv : V) (t b tc bc : Int) : Prop where
  W : WayAt a H p kd n s g vh (.ref qc) q (Rat.divInt t b)
  nm : Nm H l n s g
  pp : PairAt H lp t b
  hq : HiEq a H vh hv
  hc : PairAt H lc tc bc
  fc : FrAt a.Fraction H qc (Rat.divInt tc bc)
theorem HiEq.mono {a : Ad} {H H' : Hp} {vh hv : V} (h : HiEq a H vh hv) (s2 : Same H H') : HiEq a H' vh hv := h.imp id fun ⟨x1, x2, x3, x4, e1, e2, e3, e4⟩ => ⟨x1, x2, x3, x4, e1, e2, e3.mono s2, e4.mono s2⟩
theorem Sn.mono {a : Ad} {H H' : Hp} {p l lp lc q qc : Addr} {kd : Kd} {n s g : Str} {vh hv : V} {t b tc bc : Int} (h : Sn a H p l lp lc q qc kd n s g vh hv t b tc bc) (s2 : Same H H') : Sn a H' p l lp lc q qc kd n s g vh hv t b tc bc :=
  ⟨h.W.mono s2, h.nm.mono s2, h.pp.mono s2, h.hq.mono s2, h.hc.mono s2, h.fc.mono s2⟩
theorem isw {H : Hp} {p l lp lc q qc : Addr} {kd : Kd} {n s g : Str} {vh hv : V} {t b tc bc : Int} {Q : VK} (S : Sn a H p l lp lc q qc kd n s g vh hv t b tc bc) (k : ∀ H', Same H H' → Q (.bl true) H') : spIsWay a [.ref p, .int kd.n, .ref l, .ref lp, hv, .ref lc] H Q E0 :=
  ⟨kd, p, l, lp, lc, q, qc, n, s, g, vh, hv, t, b, tc, bc, rfl, S.W, S.nm, S.pp, S.hq, S.hc, S.fc, k⟩
theorem HiEq.hi {a : Ad} {H : Hp} {vh hv : V} (h : HiEq a H vh hv) : HiOk a.Fraction H vh := by
  rcases h with ⟨rfl, _⟩ | ⟨q, p, t, b, rfl, _, f, hp⟩
  · exact .inl rfl
  · refine .inr ⟨q, _, rfl, f, ?_⟩
    have h1 := num_neg_div (a := t) hp.ok.b0
    have h2 := hp.ok.t0
    omega
theorem maybe_mk {H : Hp} {hv : V} {Q : VK} (h : hv = .non ∨ ∃ ph th bh, hv = .ref ph ∧ PairAt H ph th bh) (k : ∀ vh H2, Same H H2 → HiEq a H2 vh hv → Q vh H2) : (hv ≠ .non → ∃ p t b, hv = .ref p ∧ PairAt H p t b ∧ NewFr a.Fraction H Q (Rat.divInt t b)) ∧ (hv = .non → Q .non H) := by
  refine ⟨fun e => ?_, fun e => k _ _ (Same.refl _) (.inl ⟨rfl, e⟩)⟩
  rcases h with h | ⟨ph, th, bh, rfl, hp⟩
  · exact absurd h e
  · exact ⟨ph, th, bh, rfl, hp, fun q H2 _ s2 f => k _ _ s2 (.inr ⟨q, ph, th, bh, rfl, rfl, f, hp.mono s2⟩)⟩
def turnsL (ns : List Int) : List V := [.int (cellOf ns 7 % 10 ^ (40 : Int).toNat), .int (cellOf ns 8 % 10), .int (cellOf ns 7 % 3)]
theorem far_ok (m : Nat) (h0 : (0 : Int) < m) (hm : m ≤ 10 ^ 40) (c : Int) : Tn (c % m) ∧ Tn (c % m + 1) := by
  have e1 := Int.emod_nonneg c (show (m : Int) ≠ 0 by omega)
  have e2 := Int.emod_lt_of_pos c h0
  have e3 : (10 : Nat) ^ 40 + 2 < 2 ^ 200 := by decide
  generalize (10 : Nat) ^ 40 = y at *
  generalize c % (m : Int) = z at *
  generalize hq : (2 : Nat) ^ 200 = q at *
  refine ⟨⟨e1, ?_⟩, ⟨by omega, ?_⟩⟩ <;> rw [hq] <;> omega
theorem turns_ok {ns : List Int} {i : Nat} {x : V} (e : (turnsL ns)[i]? = some x) : ∃ t, x = .int t ∧ Tn t ∧ Tn (t + 1) := by
  match i, e with
  | 0, e =>
    cases e
    refine ⟨_, rfl, ?_⟩
    rw [show (10 ^ (40 : Int).toNat : Int) = ((10 ^ 40 : Nat) : Int) from by decide]
    exact far_ok _ (by decide) (Nat.le_refl _) _
  | 1, e => cases e; exact ⟨_, rfl, far_ok 10 (by decide) (by decide) _⟩
  | 2, e => cases e; exact ⟨_, rfl, far_ok 3 (by decide) (by decide) _⟩
theorem min_next (kd : Kd) : (if (2 : Int) < kd.n then (2 : Int) else kd.n) = kd.next.n := by cases kd <;> rfl
theorem next_next (kd : Kd) : kd.next.next = kd.next := by cases kd <;> rfl
theorem next_ne (kd : Kd) : kd.next ≠ .sto := by cases kd <;> nofun
theorem behind_tn {t : Int} {kd : Kd} (h : Tn t) (h1 : Tn (t + 1)) : Tn (behindT kd t) := by cases kd <;> first | exact h | exact h1
theorem tn4 : Tn 4 := ⟨by decide, by decide⟩
theorem tn5 : Tn (4 + 1) := ⟨by decide, by decide⟩
theorem turned_ne {kd : Kd} {s g : Str} {t : Int} (sg : kd ≠ .sto → s ≠ g) (se : kd = .sto → s = g) (ht : Tn t) : atT s t ≠ atT g (behindT kd t) := by
  cases kd
  · exact atT_ne (sg (by nofun))
  · exact atT_ne (sg (by nofun))
  · exact atT_ne (sg (by nofun))
  · rw [se rfl]
    exact atT_next ht
theorem kd_of {c : Int} : ∃ kd : Kd, c % 4 = kd.n := by
  have h1 := Int.emod_nonneg c (show (4 : Int) ≠ 0 by decide)
  have h2 := Int.emod_lt_of_pos c (show (0 : Int) < 4 by decide)
  generalize c % 4 = z at *
  rcases (show z = 0 ∨ z = 1 ∨ z = 2 ∨ z = 3 by omega) with rfl | rfl | rfl | rfl
  · exact ⟨.way, rfl⟩
  · exact ⟨.gro, rfl⟩
  · exact ⟨.lea, rfl⟩
  · exact ⟨.sto, rfl⟩
def spLaw (K : PySem.W.Frag) : Sp := fun vs H Q _ => ∃ (l : Addr) (ns : List Int), vs = [.ref l] ∧ SqL K H l (ns.map V.int) ∧ ns.length ≤ 63 ∧ (∀ i ∈ ns, Bt i) ∧ ∀ H', Q (.bl true) H'
theorem ok_law {f : Addr} {fd : FuncData} (N : Fun K "law" "law" s_law f fd) (T : TX K mg a) : FnOk P w K mg base CX0 10 f fd ["_law_script"] (spLaw K) := by
  refine N.ok sc_law (fun vs H Q E h => ?_) (fun cdv A outer s₀ H vs Q E hr h => ?_)
  · obtain ⟨l, ns, rfl, _⟩ := h
    rfl
  · obtain ⟨l0, ns, rfl, hS, hlen, hbt, k⟩ := h
    refine ⟨_, (pss_cons (ps_set (i := 1) sc_law.nd rfl (Or.inl rfl) (pe_op op_mod (pe_fn (ok_law_cell_at T) hr pass0 (pa_cons (pv 0) (pa_cons pe_int pa_nil))) pe_int))
      (pss_cons (ps_set (i := 2) sc_law.nd rfl (Or.inl rfl) (pe_fn (ok_law_cell_at T) hr pass0 (pa_cons (pv 0) (pa_cons pe_int pa_nil))))
      (pss_cut (ps_set (i := 3) sc_law.nd rfl (Or.inl rfl) (pe_op op_mod (pe_fn (ok_law_cell_at T) hr pass0 (pa_cons (pv 0) (pa_cons pe_int pa_nil))) pe_int))
      (pss_cons (ps_set (i := 4) sc_law.nd rfl (Or.inl rfl) (pe_lst (pa_cons (pe_fn (ok_law_name T) hr pass0 (pa_cons (pe_op op_mod (pe_fn (ok_law_cell_at T) hr pass0 (pa_cons (pv 0) (pa_cons pe_int pa_nil))) pe_int) (pa_cons (pv 2) pa_nil))) (pa_cons (pe_fn (ok_law_name T) hr pass0 (pa_cons (pv 3) (pa_cons (pe_op op_fdiv (pv 2) pe_int) pa_nil))) pa_nil))))
      (pss_cons (ps_expr (pe_bm PySem.F.plainAttrs_list PySem.F.slot_list_append PySem.F.type_list_append mt_append (pv 4) (pa_cons (pe_fn (ok_law_name T) hr pass0 (pa_cons (pe_op op_mod (pe_op op_add (pv 3) pe_int) pe_int) (pa_cons (pe_op op_fdiv (pv 2) pe_int) pa_nil))) pa_nil)))
      (pss_cut (ps_if (pt_cmpR op_eq (pv 1) pe_int (nomark _)) (pss_one (ps_asg (pe_ix ix_list (pv 4) pe_int (fun _ _ => rfl)) (pg_sub (pv 4) pe_int set_list))) pss_nil)
      (pss_cons (ps_set (i := 5) sc_law.nd rfl (Or.inl rfl) (pe_fn (ok_law_pair T) hr pass0 (pa_cons (pe_fn (ok_law_cell_at T) hr pass0 (pa_cons (pv 0) (pa_cons pe_int pa_nil))) pa_nil)))
      (pss_cut (ps_if (pt_cmpR op_eq (pv 1) pe_int (nomark _)) (pss_one (ps_set (i := 5) sc_law.nd rfl (Or.inl rfl) (pe_tup (pa_cons (pe_op op_add pe_int (pe_ix ix_tup (pv 5) pe_int (fun _ _ => rfl))) (pa_cons (pe_ix ix_tup (pv 5) pe_int (fun _ _ => rfl)) pa_nil))))) pss_nil)
      (pss_cut (ps_if (pt_cmpR op_gt (pv 1) pe_int (nomark _)) (pss_one (ps_set (i := 5) sc_law.nd rfl (Or.inl rfl) (pe_tup (pa_cons (pe_op op_mod (pe_ix ix_tup (pv 5) pe_int (fun _ _ => rfl)) (pe_ix ix_tup (pv 5) pe_int (fun _ _ => rfl))) (pa_cons (pe_ix ix_tup (pv 5) pe_int (fun _ _ => rfl)) pa_nil))))) pss_nil)
      (pss_cons (ps_set (i := 6) sc_law.nd rfl (Or.inl rfl) pe_non)
      (pss_cut (ps_if (pt_cmpR op_gt (pe_op op_mod (pe_fn (ok_law_cell_at T) hr pass0 (pa_cons (pv 0) (pa_cons pe_int pa_nil))) pe_int) pe_int (nomark _)) (pss_one (ps_set (i := 6) sc_law.nd rfl (Or.inl rfl) (pe_fn (ok_law_pair T) hr pass0 (pa_cons (pe_op op_fdiv (pe_fn (ok_law_cell_at T) hr pass0 (pa_cons (pv 0) (pa_cons pe_int pa_nil))) pe_int) pa_nil)))) pss_nil)
      (pss_cons (ps_set (i := 7) sc_law.nd rfl (Or.inl rfl) (pe_fn (ok_law_pair T) hr pass0 (pa_cons (pe_fn (ok_law_cell_at T) hr pass0 (pa_cons (pv 0) (pa_cons pe_int pa_nil))) pa_nil)))
      (pss_cut (ps_set (i := 8) sc_law.nd rfl (Or.inl rfl) (pe_fn (ok_law_made T) hr pass0 (pa_cons (pv 1) (pa_cons (pv 4) (pa_cons (pe_mkfr (mk2 T) hr T.mg_Fraction pass0 (pa_cons (pe_ix ix_tup (pv 5) pe_int (fun _ _ => rfl)) (pa_cons (pe_ix ix_tup (pv 5) pe_int (fun _ _ => rfl)) pa_nil))) (pa_cons (pe_fn (ok_law_maybe T) hr pass0 (pa_cons (pv 6) pa_nil)) (pa_cons (pe_mkfr (mk2 T) hr T.mg_Fraction pass0 (pa_cons (pe_ix ix_tup (pv 7) pe_int (fun _ _ => rfl)) (pa_cons (pe_ix ix_tup (pv 7) pe_int (fun _ _ => rfl)) pa_nil))) pa_nil)))))))
      (pss_cons (ps_set (i := 9) sc_law.nd rfl (Or.inl rfl) (pe_op op_mod (pe_fn (ok_law_cell_at T) hr pass0 (pa_cons (pv 0) (pa_cons pe_int pa_nil))) (pe_op op_pow pe_int pe_int)))
      (pss_cons (ps_for PassesOwn.never rfl (pi_list (pe_lst (pa_cons (pv 9) (pa_cons (pe_op op_mod (pe_fn (ok_law_cell_at T) hr pass0 (pa_cons (pv 0) (pa_cons pe_int pa_nil))) pe_int) (pa_cons (pe_op op_mod (pe_fn (ok_law_cell_at T) hr pass0 (pa_cons (pv 0) (pa_cons pe_int pa_nil))) pe_int) pa_nil))))) (pg_name (i := 10) sc_law.nd rfl (Or.inl rfl)) (pss_cons (ps_set (i := 11) sc_law.nd rfl (Or.inl rfl) (pe_mtD (CX := CX0) (pv 8) hr pass0 (pa_cons (pv 10) pa_nil)))
      (pss_cons (ps_set (i := 12) sc_law.nd rfl (Or.inl rfl) (pe_fn (ok_law_behind T) hr pass0 (pa_cons (pv 1) (pa_cons (pv 4) (pa_cons (pv 10) pa_nil)))))
      (pss_cons (ps_set (i := 13) sc_law.nd rfl (Or.inl rfl) (pe_callB (call_min2 rfl) (by rfl) T.z_min PyProof.Rows.boot_min (pa_cons (pv 1) (pa_cons pe_int pa_nil))))
      (pss_cons (ps_if (pt_not (pt_val (pe_fn (ok_law_is_way T) hr pass0 (pa_cons (pv 11) (pa_cons (pv 13) (pa_cons (pv 12) (pa_cons (pv 5) (pa_cons (pv 6) (pa_cons (pv 7) pa_nil))))))))) (pss_one (ps_ret pe_bl)) pss_nil)
      (pss_one (ps_if (pt_not (pt_val (pe_fn (ok_law_is_way T) hr pass0 (pa_cons (pe_mtD (CX := CX0) (pv 11) hr pass0 (pa_cons pe_int pa_nil)) (pa_cons (pv 13) (pa_cons (pe_fn (ok_law_behind T) hr pass0 (pa_cons (pv 13) (pa_cons (pv 12) (pa_cons pe_int pa_nil)))) (pa_cons (pv 5) (pa_cons (pv 6) (pa_cons (pv 7) pa_nil))))))))) (pss_one (ps_ret pe_bl)) pss_nil)))))))
      (pss_one (ps_ret (pe_fn (ok_law_is_way T) hr pass0 (pa_cons (pv 8) (pa_cons (pv 1) (pa_cons (pv 4) (pa_cons (pv 5) (pa_cons (pv 6) (pa_cons (pv 7) pa_nil)))))))))))))))))))))))), ?_⟩
    obtain ⟨kd, hkd⟩ := kd_of (c := cellOf ns 0)
    walk_at "rd"
    refine ⟨fun σ' H' => ∃ sh k : Int, σ' = [some (.ref l0), some (.int kd.n), some (.int sh), some (.int k), none, none, none, none, none, none, none, none, none, none] ∧ H' = H ∧ 0 ≤ k ∧ k < 37, ?_, ?_⟩
    · walk_at "rd"
      refine ⟨(by rw [← hkd]; exact rfl : _ = [some (V.ref l0), some (V.int kd.n), some (V.int (cellOf ns 1)), some (V.int (cellOf ns 3 % 37)), none, none, none, none, none, none, none, none, none, none]), rfl, ?_, ?_⟩
      · exact Int.emod_nonneg _ (by decide)
      · exact Int.emod_lt_of_pos _ (by decide)
    rintro σ' H' ⟨sh, kk, rfl, rfl, k0, k1⟩
    walk_at "rd"
    refine ⟨Int.emod_nonneg _ (by decide), Int.emod_lt_of_pos _ (by decide), ?_⟩
    walk_at "rd"
    refine ⟨le_line (show 2 ≤ 1000 by decide), fun l nl => ?_⟩
    refine ⟨_, rfl, .inl ⟨rfl, _, SqL.of upd_same⟩, ?_⟩
    walk_at "rd"
    refine ⟨Int.emod_nonneg _ (by decide), Int.emod_lt_of_pos _ (by decide), ?_⟩
    refine ⟨l, _, _, rfl, rfl, upd_same, by rw [PySem.sizeLine_eq]; show 2 < 16777216; decide, ?_⟩
    rw [upd_upd]
    have hne := nameOf_ne (c := sh / 7) k0 k1
    have n1 := nameOf_len (cellOf ns 2 % 37) sh
    have n2 := nameOf_len kk (sh / 7)
    have n3 := nameOf_len ((kk + 1) % 37) (sh / 7)
    have ss : ∀ {o : HO}, Same H' (upd H' l o) := fun b o e => by rw [upd_ne (ne_of_none e nl)]; exact e
    refine ⟨fun σ' H'' => ∃ n s g : Str, σ' = [some (.ref l0), some (.int kd.n), some (.int sh), some (.int kk), some (.ref l), none, none, none, none, none, none, none, none, none] ∧ Same H' H'' ∧ H'' l = some (.lst [.str n, .str s, .str g]) ∧ (n.length ≤ 60 ∧ s.length ≤ 60 ∧ g.length ≤ 60) ∧ (kd ≠ .sto → s ≠ g) ∧ (kd = .sto → s = g), ?_, ?_⟩
    · walk_at "rd"
      cases kd
      · exact ifV (fun h => absurd h (by decide)) fun _ => ⟨_, _, _, rfl, ss, upd_same, ⟨n1, n2, n3⟩, fun _ => hne, fun z => nomatch z⟩
      · exact ifV (fun h => absurd h (by decide)) fun _ => ⟨_, _, _, rfl, ss, upd_same, ⟨n1, n2, n3⟩, fun _ => hne, fun z => nomatch z⟩
      · exact ifV (fun h => absurd h (by decide)) fun _ => ⟨_, _, _, rfl, ss, upd_same, ⟨n1, n2, n3⟩, fun _ => hne, fun z => nomatch z⟩
      · refine ifV (fun _ => ?_) fun h => absurd rfl h
        refine ⟨_, rfl, l, _, _, _, rfl, rfl, SqL.of upd_same, rfl, _, rfl, l, _, _, _, rfl, rfl, upd_same, rfl, ?_⟩
        rw [upd_upd]
        exact ⟨_, _, _, rfl, ss, upd_same, ⟨n1, n2, n2⟩, fun z => absurd rfl z, fun _ => rfl⟩
    rintro σ' H5 ⟨n, s, g, rfl, s5, hl, ⟨ln, ls, lg⟩, sg, se⟩
    have hS := s5.seq hS
    clear n1 n2 n3 hne ss nl s5
    walk_at "rd"
    refine ⟨cell_bt hbt _, fun lp H6 t b s6 hp ht => ?_⟩
    have hS := s6.seq hS
    have hl := s6 _ _ hl
    clear s6
    refine ⟨fun σ' H' => ∃ (lp : Addr) (t b : Int), σ' = [some (.ref l0), some (.int kd.n), some (.int sh), some (.int kk), some (.ref l), some (.ref lp), none, none, none, none, none, none, none, none] ∧ Same H6 H' ∧ PairAt H' lp t b ∧ (kd = .gro → 0 < t), ?_, ?_⟩
    · have S1 : SqT K H6 lp [.int t, .int b] := SqT.of hp.ob
      cases kd
      · walk_at "rd"
        exact ⟨Same.refl _, hp, fun z => nomatch z⟩
      · walk_at "rd"
        refine ⟨le_line (show 2 ≤ 1000 by decide), fun lq nq => ⟨lq, 1 + t, b, rfl, fun b o e => by rw [upd_ne (ne_of_none e nq)]; exact e, ⟨upd_same, ⟨?_, hp.ok.b0, ?_, hp.ok.bl⟩⟩, fun _ => ?_⟩⟩
        · have := hp.ok.t0
          omega
        · have e : (2 : Nat) ^ 200 = 2 * 2 ^ 199 := by decide
          have e2 : (1 : Nat) ≤ 2 ^ 199 := by decide
          rw [e]
          generalize (2 : Nat) ^ 199 = y at *
          omega
        · have := hp.ok.t0
          omega
      · walk_at "rd"
        exact ⟨Same.refl _, hp, fun z => nomatch z⟩
      · walk_at "rd"
        exact ⟨Same.refl _, hp, fun z => nomatch z⟩
    rintro σ' H7 ⟨lp, t, b, rfl, s7, hp, hg⟩
    have hS := s7.seq hS
    have hl := s7 _ _ hl
    clear s7 ht
    refine ⟨fun σ' H' => ∃ (lp : Addr) (t b : Int), σ' = [some (.ref l0), some (.int kd.n), some (.int sh), some (.int kk), some (.ref l), some (.ref lp), none, none, none, none, none, none, none, none] ∧ Same H7 H' ∧ PairAt H' lp t b ∧ kd.ok (Rat.divInt t b), ?_, ?_⟩
    · have S1 : SqT K H7 lp [.int t, .int b] := SqT.of hp.ob
      have b0 := hp.ok.b0
      have lea : ∀ lq, H7 lq = none → Same H7 (upd H7 lq (.tup [.int (t % b), .int b])) ∧ PairAt (upd H7 lq (.tup [.int (t % b), .int b])) lq (t % b) b ∧ leakOk (Rat.divInt (t % b) b) := by
        intro lq nq
        have m1 := Int.emod_nonneg t (show b ≠ 0 by omega)
        have m2 := Int.emod_lt_of_pos t b0
        have ok : PairOk (t % b) b := ⟨m1, b0, by have := hp.ok.bl; generalize (2 : Nat) ^ 200 = y at *; omega, hp.ok.bl⟩
        refine ⟨fun b o e => by rw [upd_ne (ne_of_none e nq)]; exact e, ⟨upd_same, ok⟩, ?_, ?_, ok.facts.1⟩
        · have := num_neg_div (a := t % b) b0
          omega
        · rw [show (1 : Rat) = Rat.divInt 1 1 from rfl, lt_div b0 (by decide)]
          omega
      cases kd
      · walk_at "rd"
        exact ⟨Same.refl _, hp, trivial⟩
      · walk_at "rd"
        exact ⟨Same.refl _, hp, (num_pos_div b0).mpr (hg rfl)⟩
      · walk_at "rd"
        exact ⟨le_line (show 2 ≤ 1000 by decide), fun lq nq => ⟨lq, t % b, b, rfl, lea lq nq⟩⟩
      · walk_at "rd"
        exact ⟨le_line (show 2 ≤ 1000 by decide), fun lq nq => ⟨lq, t % b, b, rfl, lea lq nq⟩⟩
    clear hp hg
    rintro σ' H8 ⟨lp, t, b, rfl, s8, hp, hok⟩
    have hS := s8.seq hS
    have hl := s8 _ _ hl
    clear s8
    walk_at "rd"
    refine ⟨fun σ' H' => ∃ hv : V, σ' = [some (.ref l0), some (.int kd.n), some (.int sh), some (.int kk), some (.ref l), some (.ref lp), some hv, none, none, none, none, none, none, none] ∧ Same H8 H' ∧ (hv = .non ∨ ∃ ph th bh, hv = .ref ph ∧ PairAt H' ph th bh), ?_, ?_⟩
    · walk_at "rd"
      refine ifB (fun h => ?_) (fun h => ⟨_, rfl, Same.refl _, .inl rfl⟩)
      walk_at "rd"
      refine ⟨(cell_bt hbt _).ediv 3, fun ph H' th bh s9 hp' _ => ⟨_, rfl, s9, .inr ⟨ph, th, bh, rfl, hp'⟩⟩⟩
    rintro σ' H9 ⟨hv, rfl, s9, hhv⟩
    have hS := s9.seq hS
    have hl := s9 _ _ hl
    have hp := hp.mono s9
    clear s9
    walk_at "rd"
    refine ⟨cell_bt hbt _, fun lc Ha tc bc sa hc _ => ?_⟩
    have hS := sa.seq hS
    have hl := sa _ _ hl
    have hp := hp.mono sa
    have hhv : hv = .non ∨ ∃ ph th bh, hv = .ref ph ∧ PairAt Ha ph th bh := hhv.imp id fun ⟨x, y, z, e, h⟩ => ⟨x, y, z, e, h.mono sa⟩
    clear sa
    refine ⟨fun σ' H' => ∃ (p q qc : Addr) (vh : V), σ' = [some (.ref l0), some (.int kd.n), some (.int sh), some (.int kk), some (.ref l), some (.ref lp), some hv, some (.ref lc), some (.ref p), none, none, none, none, none] ∧ SqL K H' l0 (ns.map V.int) ∧ Sn a H' p l lp lc q qc kd n s g vh hv t b tc bc, ?_, ?_⟩
    · have S1 : SqT K Ha lp [.int t, .int b] := SqT.of hp.ob
      obtain ⟨a1, a2, a3, a4⟩ := hp.ok.facts
      obtain ⟨b1, b2, b3, b4⟩ := hc.ok.facts
      walk_at "rd"
      intro q H1 nq s1 f1
      refine ⟨_, rfl, ?_⟩
      have hh1 : hv = .non ∨ ∃ ph th bh, hv = .ref ph ∧ PairAt H1 ph th bh := hhv.imp id fun ⟨x, y, z, e, h⟩ => ⟨x, y, z, e, h.mono s1⟩
      refine ⟨hv, rfl, ?_⟩
      refine maybe_mk hh1 fun vh H2 s2 hq => ?_
      have S2 : SqT K H2 lc [.int tc, .int bc] := SqT.of (s2 _ _ (s1 _ _ hc.ob))
      walk_at "rd"
      intro qc H3 nqc s3 f3
      have s13 := (s1.trans s2).trans s3
      refine ⟨kd, l, q, n, s, g, vh, .ref qc, _, rfl, ⟨s13 _ _ hl, by omega, by omega, by omega⟩, f1.mono (s2.trans s3), hok, (hq.mono s3).hi, (by nofun), sg, se, fun p H4 np s4 W => ?_⟩
      have s14 := s13.trans s4
      exact ⟨p, q, qc, vh, rfl, s14.seq hS, ⟨W, ⟨s14 _ _ hl, by omega, by omega, by omega⟩, hp.mono s14, hq.mono (s3.trans s4), hc.mono s14, f3.mono s4⟩⟩
    clear hS hl hp hhv hc
    rintro σ' Hb ⟨p, q, qc, vh, rfl, hS, S⟩
    walk_at "rd"
    refine ⟨le_line (show 3 ≤ 1000 by decide), fun l3 n3 => ?_⟩
    have s3 : ∀ {o : HO}, Same Hb (upd Hb l3 o) := fun b o e => by rw [upd_ne (ne_of_none e n3)]; exact e
    refine ⟨l3, rfl, ⟨_, SqL.of upd_same⟩, ?_⟩
    have S := S.mono (s3 (o := .lst (turnsL ns)))
    refine for_list (K := K) (a := l3) (xs := (turnsL ns))
      (fun _ σ H' => ∃ (v9 : V) (z1 z2 z3 z4 : Option V), σ = [some (.ref l0), some (.int kd.n), some (.int sh), some (.int kk), some (.ref l), some (.ref lp), some hv, some (.ref lc), some (.ref p), some v9, z1, z2, z3, z4] ∧ SqL K H' l3 (turnsL ns) ∧ Sn a H' p l lp lc q qc kd n s g vh hv t b tc bc)
      ⟨_, _, _, _, _, rfl, SqL.of upd_same, S⟩ (fun i σ H' _ ⟨_, _, _, _, _, _, h, _⟩ => h) ?_ ?_
    · rintro i x σ H1 hx ⟨v9, z1, z2, z3, z4, rfl, hl3, S⟩
      obtain ⟨tn, rfl, ht, ht1⟩ := turns_ok hx
      obtain ⟨dx, fs, ho, h5, _⟩ := S.W.ob
      refine ⟨_, rfl, p, kd.C a, dx, fs, 7, ["self", "turn"], spTurn a kd, rfl, ho, h5.at_, (cls_any T kd).cl, by decide, turn_any T kd, _, rfl, p, tn, n, s, g, vh, .ref qc, q, _, rfl, S.W, sg, se, by omega, by omega, by omega, ht, ht1, fun p1 H2 np1 s2 W1 => ?_⟩
      have W1 : WayAt a H2 p1 kd.next (atT n tn) (atT s tn) (atT g (behindT kd tn)) vh (.ref qc) q (Rat.divInt t b) := W1
      refine ⟨_, rfl, _, rfl, _, rfl, kd, l, n, s, g, tn, rfl, S.nm.mono s2, ht, ht1, fun l1 H3 nl1 s3 hl1 => ?_⟩
      refine ⟨_, rfl, kd.n, 2, rfl, ?_⟩
      rw [min_next kd]
      have hb := behind_tn ht ht1 (kd := kd)
      have L1 := atT_len ln ht
      have L2 := atT_len ls ht
      have L3 := atT_len lg hb
      have S1 : Sn a H3 p1 l1 lp lc q qc kd.next (atT n tn) (atT s tn) (atT g (behindT kd tn)) vh hv t b tc bc :=
        ⟨W1.mono s3, ⟨hl1, by omega, by omega, by omega⟩, S.pp.mono (s2.trans s3), S.hq.mono (s2.trans s3), S.hc.mono (s2.trans s3), S.fc.mono (s2.trans s3)⟩
      refine ⟨_, rfl, _, rfl, _, rfl, _, rfl, _, rfl, _, rfl, ?_⟩
      refine ⟨kd.next, p1, l1, lp, lc, q, qc, _, _, _, vh, hv, t, b, tc, bc, rfl, S1.W, S1.nm, S1.pp, S1.hq, S1.hc, S1.fc, fun H4 s4 => ?_⟩
      refine ⟨_, rfl, iteF ?_⟩
      have S2 := S1.mono s4
      obtain ⟨dx2, fs2, ho2, h52, _⟩ := S2.W.ob
      refine ⟨_, rfl, p1, kd.next.C a, dx2, fs2, 7, ["self", "turn"], spTurn a kd.next, rfl, ho2, h52.at_, (cls_any T kd.next).cl, by decide, turn_any T kd.next, p1, 4, _, _, _, vh, .ref qc, q, _, rfl, S2.W, fun _ => turned_ne sg se ht, fun z => absurd z (next_ne kd), by omega, by omega, by omega, tn4, tn5, fun p2 H5 np2 s5 W2 => ?_⟩
      have W2 : WayAt a H5 p2 kd.next.next (atT (atT n tn) 4) (atT (atT s tn) 4) (atT (atT g (behindT kd tn)) (behindT kd.next 4)) vh (.ref qc) q (Rat.divInt t b) := W2
      rw [next_next] at W2
      refine ⟨_, rfl, _, rfl, _, rfl, kd.next, l1, _, _, _, 4, rfl, S2.nm.mono s5, tn4, tn5, fun l4 H6 nl4 s6 hl4 => ?_⟩
      have M1 := atT_len L1 tn4
      have M2 := atT_len L2 tn4
      have M3 := atT_len L3 (behind_tn tn4 tn5 (kd := kd.next))
      have s56 := s5.trans s6
      have S3 : Sn a H6 p2 l4 lp lc q qc kd.next (atT (atT n tn) 4) (atT (atT s tn) 4) (atT (atT g (behindT kd tn)) (behindT kd.next 4)) vh hv t b tc bc :=
        ⟨W2.mono s6, ⟨hl4, by omega, by omega, by omega⟩, S2.pp.mono s56, S2.hq.mono s56, S2.hc.mono s56, S2.fc.mono s56⟩
      refine ⟨_, rfl, _, rfl, _, rfl, ?_⟩
      refine ⟨kd.next, p2, l4, lp, lc, q, qc, _, _, _, vh, hv, t, b, tc, bc, rfl, S3.W, S3.nm, S3.pp, S3.hq, S3.hc, S3.fc, fun H7 s7 => ?_⟩
      refine ⟨_, rfl, iteF ?_⟩
      have sall := ((s2.trans s3).trans s4).trans (s56.trans s7)
      exact ⟨_, _, _, _, _, rfl, sall.seq hl3, S.mono sall⟩
    · rintro σ H1 ⟨v9, z1, z2, z3, z4, rfl, _, S⟩
      refine ⟨_, rfl, _, rfl, _, rfl, _, rfl, _, rfl, _, rfl, ?_⟩
      exact isw S fun H2 _ => k H2
end
end G
namespace G
open PySem L2
theorem all_mk {l : PySem.W.OpenLaw} {w : World} {K : PySem.W.Frag} {h : Heap} {mg : Str → Option Value} {fa A_Fraction A_Way A_Growing A_Leaking A_Store A_GainError A_NoNumber A_NoWay : Addr} (X : K.In h) (G : h.Ns mainGlobals mg) (hfa : mg "law" = some (.ref fa))
    {fDdivisor : Addr} {odDdivisor anDdivisor : Option Addr} {slDdivisor : Array (Option Value)} {ocDdivisor kVDdivisor dcDdivisor pmDdivisor cdDdivisor ctDdivisor : Value}
    {fDname_at : Addr} {odDname_at anDname_at : Option Addr} {slDname_at : Array (Option Value)} {ocDname_at kVDname_at dcDname_at pmDname_at cdDname_at ctDname_at : Value}
    {fDlaw_cell_at : Addr} {odDlaw_cell_at anDlaw_cell_at : Option Addr} {slDlaw_cell_at : Array (Option Value)} {ocDlaw_cell_at kVDlaw_cell_at dcDlaw_cell_at pmDlaw_cell_at cdDlaw_cell_at ctDlaw_cell_at : Value}
    {fDlaw_whole : Addr} {odDlaw_whole anDlaw_whole : Option Addr} {slDlaw_whole : Array (Option Value)} {ocDlaw_whole kVDlaw_whole dcDlaw_whole pmDlaw_whole cdDlaw_whole ctDlaw_whole : Value}
    {fDlaw_divisor : Addr} {odDlaw_divisor anDlaw_divisor : Option Addr} {slDlaw_divisor : Array (Option Value)} {ocDlaw_divisor kVDlaw_divisor dcDlaw_divisor pmDlaw_divisor cdDlaw_divisor ctDlaw_divisor : Value}
    {fDlaw_is : Addr} {odDlaw_is anDlaw_is : Option Addr} {slDlaw_is : Array (Option Value)} {ocDlaw_is kVDlaw_is dcDlaw_is pmDlaw_is cdDlaw_is ctDlaw_is : Value}
    {fDlaw_name : Addr} {odDlaw_name anDlaw_name : Option Addr} {slDlaw_name : Array (Option Value)} {ocDlaw_name kVDlaw_name dcDlaw_name pmDlaw_name cdDlaw_name ctDlaw_name : Value}
    {fDlaw_pair : Addr} {odDlaw_pair anDlaw_pair : Option Addr} {slDlaw_pair : Array (Option Value)} {ocDlaw_pair kVDlaw_pair dcDlaw_pair pmDlaw_pair cdDlaw_pair ctDlaw_pair : Value}
    {fDlaw_made : Addr} {odDlaw_made anDlaw_made : Option Addr} {slDlaw_made : Array (Option Value)} {ocDlaw_made kVDlaw_made dcDlaw_made pmDlaw_made cdDlaw_made ctDlaw_made : Value}
    {fDlaw_maybe : Addr} {odDlaw_maybe anDlaw_maybe : Option Addr} {slDlaw_maybe : Array (Option Value)} {ocDlaw_maybe kVDlaw_maybe dcDlaw_maybe pmDlaw_maybe cdDlaw_maybe ctDlaw_maybe : Value}
    {fDlaw_is_way : Addr} {odDlaw_is_way anDlaw_is_way : Option Addr} {slDlaw_is_way : Array (Option Value)} {ocDlaw_is_way kVDlaw_is_way dcDlaw_is_way pmDlaw_is_way cdDlaw_is_way ctDlaw_is_way : Value}
    {fDlaw_behind : Addr} {odDlaw_behind anDlaw_behind : Option Addr} {slDlaw_behind : Array (Option Value)} {ocDlaw_behind kVDlaw_behind dcDlaw_behind pmDlaw_behind cdDlaw_behind ctDlaw_behind : Value}
    {fDlaw : Addr} {odDlaw anDlaw : Option Addr} {slDlaw : Array (Option Value)} {ocDlaw kVDlaw dcDlaw pmDlaw cdDlaw ctDlaw : Value}
    {fIFraction TIFraction : Addr} {oIFraction : Obj} {nIFraction : Nat} {tkIFraction0 : Tok} {odIFraction anIFraction : Option Addr} {slIFraction : Array (Option Value)} {ocIFraction kVIFraction dcIFraction pmIFraction cdIFraction ctIFraction : Value}
    {fMFractionunder : Addr} {odMFractionunder anMFractionunder : Option Addr} {slMFractionunder : Array (Option Value)} {ocMFractionunder kVMFractionunder dcMFractionunder pmMFractionunder cdMFractionunder ctMFractionunder : Value}
    {fMFractionsign : Addr} {odMFractionsign anMFractionsign : Option Addr} {slMFractionsign : Array (Option Value)} {ocMFractionsign kVMFractionsign dcMFractionsign pmMFractionsign cdMFractionsign ctMFractionsign : Value}
    {fIWay TIWay : Addr} {oIWay : Obj} {nIWay : Nat}  {odIWay anIWay : Option Addr} {slIWay : Array (Option Value)} {ocIWay kVIWay dcIWay pmIWay cdIWay ctIWay : Value}
    {fMWaymay_stay : Addr} {odMWaymay_stay anMWaymay_stay : Option Addr} {slMWaymay_stay : Array (Option Value)} {ocMWaymay_stay kVMWaymay_stay dcMWaymay_stay pmMWaymay_stay cdMWaymay_stay ctMWaymay_stay : Value}
    {fMWayat_turn : Addr} {odMWayat_turn anMWayat_turn : Option Addr} {slMWayat_turn : Array (Option Value)} {ocMWayat_turn kVMWayat_turn dcMWayat_turn pmMWayat_turn cdMWayat_turn ctMWayat_turn : Value}
    {fIGrowing TIGrowing : Addr} {oIGrowing : Obj} {nIGrowing : Nat}  {odIGrowing anIGrowing : Option Addr} {slIGrowing : Array (Option Value)} {ocIGrowing kVIGrowing dcIGrowing pmIGrowing cdIGrowing ctIGrowing : Value}
    {fMGrowingat_turn : Addr} {odMGrowingat_turn anMGrowingat_turn : Option Addr} {slMGrowingat_turn : Array (Option Value)} {ocMGrowingat_turn kVMGrowingat_turn dcMGrowingat_turn pmMGrowingat_turn cdMGrowingat_turn ctMGrowingat_turn : Value}
    {fILeaking TILeaking : Addr} {oILeaking : Obj} {nILeaking : Nat}  {odILeaking anILeaking : Option Addr} {slILeaking : Array (Option Value)} {ocILeaking kVILeaking dcILeaking pmILeaking cdILeaking ctILeaking : Value}
    {fMLeakingat_turn : Addr} {odMLeakingat_turn anMLeakingat_turn : Option Addr} {slMLeakingat_turn : Array (Option Value)} {ocMLeakingat_turn kVMLeakingat_turn dcMLeakingat_turn pmMLeakingat_turn cdMLeakingat_turn ctMLeakingat_turn : Value}
    {fIStore TIStore : Addr} {oIStore : Obj} {nIStore : Nat}  {odIStore anIStore : Option Addr} {slIStore : Array (Option Value)} {ocIStore kVIStore dcIStore pmIStore cdIStore ctIStore : Value}
    {fMStoremay_stay : Addr} {odMStoremay_stay anMStoremay_stay : Option Addr} {slMStoremay_stay : Array (Option Value)} {ocMStoremay_stay kVMStoremay_stay dcMStoremay_stay pmMStoremay_stay cdMStoremay_stay ctMStoremay_stay : Value}
    {fMStoreat_turn : Addr} {odMStoreat_turn anMStoreat_turn : Option Addr} {slMStoreat_turn : Array (Option Value)} {ocMStoreat_turn kVMStoreat_turn dcMStoreat_turn pmMStoreat_turn cdMStoreat_turn ctMStoreat_turn : Value}
    (n_Fraction : PySem.W.nsIn K mainGlobals "Fraction" = some (some (.ref A_Fraction)))
    (n_Way : PySem.W.nsIn K mainGlobals "Way" = some (some (.ref A_Way)))
    (n_Growing : PySem.W.nsIn K mainGlobals "Growing" = some (some (.ref A_Growing)))
    (n_Leaking : PySem.W.nsIn K mainGlobals "Leaking" = some (some (.ref A_Leaking)))
    (n_Store : PySem.W.nsIn K mainGlobals "Store" = some (some (.ref A_Store)))
    (n_GainError : PySem.W.nsIn K mainGlobals "GainError" = some (some (.ref A_GainError)))
    (n_NoNumber : PySem.W.nsIn K mainGlobals "NoNumber" = some (some (.ref A_NoNumber)))
    (n_NoWay : PySem.W.nsIn K mainGlobals "NoWay" = some (some (.ref A_NoWay)))
    (aDdivisor : PySem.W.nsIn K mainGlobals "divisor" = some (some (.ref fDdivisor)))
    (lDdivisor : K.lookup fDdivisor = some ⟨ocDdivisor, odDdivisor, .func (PySem.W.fnOf "divisor" "divisor" (defArgs s_divisor) (defBody s_divisor) (defScope s_divisor) .none kVDdivisor dcDdivisor pmDdivisor anDdivisor cdDdivisor ctDdivisor), slDdivisor⟩)
    (cDdivisor : PySem.W.codeIn K cdDdivisor "divisor" = true)
    (kDdivisor : PySem.W.keepIn K (.ref fDdivisor) = true)
    (aDname_at : PySem.W.nsIn K mainGlobals "name_at" = some (some (.ref fDname_at)))
    (lDname_at : K.lookup fDname_at = some ⟨ocDname_at, odDname_at, .func (PySem.W.fnOf "name_at" "name_at" (defArgs s_name_at) (defBody s_name_at) (defScope s_name_at) .none kVDname_at dcDname_at pmDname_at anDname_at cdDname_at ctDname_at), slDname_at⟩)
    (cDname_at : PySem.W.codeIn K cdDname_at "name_at" = true)
    (kDname_at : PySem.W.keepIn K (.ref fDname_at) = true)
    (aDlaw_cell_at : PySem.W.nsIn K mainGlobals "_law_cell_at" = some (some (.ref fDlaw_cell_at)))
    (lDlaw_cell_at : K.lookup fDlaw_cell_at = some ⟨ocDlaw_cell_at, odDlaw_cell_at, .func (PySem.W.fnOf "_law_cell_at" "_law_cell_at" (defArgs s_law_cell_at) (defBody s_law_cell_at) (defScope s_law_cell_at) .none kVDlaw_cell_at dcDlaw_cell_at pmDlaw_cell_at anDlaw_cell_at cdDlaw_cell_at ctDlaw_cell_at), slDlaw_cell_at⟩)
    (cDlaw_cell_at : PySem.W.codeIn K cdDlaw_cell_at "_law_cell_at" = true)
    (kDlaw_cell_at : PySem.W.keepIn K (.ref fDlaw_cell_at) = true)
    (aDlaw_whole : PySem.W.nsIn K mainGlobals "_law_whole" = some (some (.ref fDlaw_whole)))
    (lDlaw_whole : K.lookup fDlaw_whole = some ⟨ocDlaw_whole, odDlaw_whole, .func (PySem.W.fnOf "_law_whole" "_law_whole" (defArgs s_law_whole) (defBody s_law_whole) (defScope s_law_whole) .none kVDlaw_whole dcDlaw_whole pmDlaw_whole anDlaw_whole cdDlaw_whole ctDlaw_whole), slDlaw_whole⟩)
    (cDlaw_whole : PySem.W.codeIn K cdDlaw_whole "_law_whole" = true)
    (kDlaw_whole : PySem.W.keepIn K (.ref fDlaw_whole) = true)
    (aDlaw_divisor : PySem.W.nsIn K mainGlobals "_law_divisor" = some (some (.ref fDlaw_divisor)))
    (lDlaw_divisor : K.lookup fDlaw_divisor = some ⟨ocDlaw_divisor, odDlaw_divisor, .func (PySem.W.fnOf "_law_divisor" "_law_divisor" (defArgs s_law_divisor) (defBody s_law_divisor) (defScope s_law_divisor) .none kVDlaw_divisor dcDlaw_divisor pmDlaw_divisor anDlaw_divisor cdDlaw_divisor ctDlaw_divisor), slDlaw_divisor⟩)
    (cDlaw_divisor : PySem.W.codeIn K cdDlaw_divisor "_law_divisor" = true)
    (kDlaw_divisor : PySem.W.keepIn K (.ref fDlaw_divisor) = true)
    (aDlaw_is : PySem.W.nsIn K mainGlobals "_law_is" = some (some (.ref fDlaw_is)))
    (lDlaw_is : K.lookup fDlaw_is = some ⟨ocDlaw_is, odDlaw_is, .func (PySem.W.fnOf "_law_is" "_law_is" (defArgs s_law_is) (defBody s_law_is) (defScope s_law_is) .none kVDlaw_is dcDlaw_is pmDlaw_is anDlaw_is cdDlaw_is ctDlaw_is), slDlaw_is⟩)
    (cDlaw_is : PySem.W.codeIn K cdDlaw_is "_law_is" = true)
    (kDlaw_is : PySem.W.keepIn K (.ref fDlaw_is) = true)
    (aDlaw_name : PySem.W.nsIn K mainGlobals "_law_name" = some (some (.ref fDlaw_name)))
    (lDlaw_name : K.lookup fDlaw_name = some ⟨ocDlaw_name, odDlaw_name, .func (PySem.W.fnOf "_law_name" "_law_name" (defArgs s_law_name) (defBody s_law_name) (defScope s_law_name) .none kVDlaw_name dcDlaw_name pmDlaw_name anDlaw_name cdDlaw_name ctDlaw_name), slDlaw_name⟩)
    (cDlaw_name : PySem.W.codeIn K cdDlaw_name "_law_name" = true)
    (kDlaw_name : PySem.W.keepIn K (.ref fDlaw_name) = true)
    (aDlaw_pair : PySem.W.nsIn K mainGlobals "_law_pair" = some (some (.ref fDlaw_pair)))
    (lDlaw_pair : K.lookup fDlaw_pair = some ⟨ocDlaw_pair, odDlaw_pair, .func (PySem.W.fnOf "_law_pair" "_law_pair" (defArgs s_law_pair) (defBody s_law_pair) (defScope s_law_pair) .none kVDlaw_pair dcDlaw_pair pmDlaw_pair anDlaw_pair cdDlaw_pair ctDlaw_pair), slDlaw_pair⟩)
    (cDlaw_pair : PySem.W.codeIn K cdDlaw_pair "_law_pair" = true)
    (kDlaw_pair : PySem.W.keepIn K (.ref fDlaw_pair) = true)
    (aDlaw_made : PySem.W.nsIn K mainGlobals "_law_made" = some (some (.ref fDlaw_made)))
    (lDlaw_made : K.lookup fDlaw_made = some ⟨ocDlaw_made, odDlaw_made, .func (PySem.W.fnOf "_law_made" "_law_made" (defArgs s_law_made) (defBody s_law_made) (defScope s_law_made) .none kVDlaw_made dcDlaw_made pmDlaw_made anDlaw_made cdDlaw_made ctDlaw_made), slDlaw_made⟩)
    (cDlaw_made : PySem.W.codeIn K cdDlaw_made "_law_made" = true)
    (kDlaw_made : PySem.W.keepIn K (.ref fDlaw_made) = true)
    (aDlaw_maybe : PySem.W.nsIn K mainGlobals "_law_maybe" = some (some (.ref fDlaw_maybe)))
    (lDlaw_maybe : K.lookup fDlaw_maybe = some ⟨ocDlaw_maybe, odDlaw_maybe, .func (PySem.W.fnOf "_law_maybe" "_law_maybe" (defArgs s_law_maybe) (defBody s_law_maybe) (defScope s_law_maybe) .none kVDlaw_maybe dcDlaw_maybe pmDlaw_maybe anDlaw_maybe cdDlaw_maybe ctDlaw_maybe), slDlaw_maybe⟩)
    (cDlaw_maybe : PySem.W.codeIn K cdDlaw_maybe "_law_maybe" = true)
    (kDlaw_maybe : PySem.W.keepIn K (.ref fDlaw_maybe) = true)
    (aDlaw_is_way : PySem.W.nsIn K mainGlobals "_law_is_way" = some (some (.ref fDlaw_is_way)))
    (lDlaw_is_way : K.lookup fDlaw_is_way = some ⟨ocDlaw_is_way, odDlaw_is_way, .func (PySem.W.fnOf "_law_is_way" "_law_is_way" (defArgs s_law_is_way) (defBody s_law_is_way) (defScope s_law_is_way) .none kVDlaw_is_way dcDlaw_is_way pmDlaw_is_way anDlaw_is_way cdDlaw_is_way ctDlaw_is_way), slDlaw_is_way⟩)
    (cDlaw_is_way : PySem.W.codeIn K cdDlaw_is_way "_law_is_way" = true)
    (kDlaw_is_way : PySem.W.keepIn K (.ref fDlaw_is_way) = true)
    (aDlaw_behind : PySem.W.nsIn K mainGlobals "_law_behind" = some (some (.ref fDlaw_behind)))
    (lDlaw_behind : K.lookup fDlaw_behind = some ⟨ocDlaw_behind, odDlaw_behind, .func (PySem.W.fnOf "_law_behind" "_law_behind" (defArgs s_law_behind) (defBody s_law_behind) (defScope s_law_behind) .none kVDlaw_behind dcDlaw_behind pmDlaw_behind anDlaw_behind cdDlaw_behind ctDlaw_behind), slDlaw_behind⟩)
    (cDlaw_behind : PySem.W.codeIn K cdDlaw_behind "_law_behind" = true)
    (kDlaw_behind : PySem.W.keepIn K (.ref fDlaw_behind) = true)
    (aDlaw : PySem.W.nsIn K mainGlobals "law" = some (some (.ref fDlaw)))
    (lDlaw : K.lookup fDlaw = some ⟨ocDlaw, odDlaw, .func (PySem.W.fnOf "law" "law" (defArgs s_law) (defBody s_law) (defScope s_law) .none kVDlaw dcDlaw pmDlaw anDlaw cdDlaw ctDlaw), slDlaw⟩)
    (cDlaw : PySem.W.codeIn K cdDlaw "law" = true)
    (kDlaw : PySem.W.keepIn K (.ref fDlaw) = true)
    (pg_Fraction : PySem.W.plainGet K A_Fraction Str.empty = true)
    (hd_Fraction : PySem.W.hasDictIn K A_Fraction = true)
    (po_Fraction : PySem.W.plainOver K A_Fraction = true)
    (sa_Fraction : PySem.W.findIn K (.ref A_Fraction) "__setattr__" = some (some (.builtin "object.__setattr__")))
    (na_Fraction_top : PySem.W.findIn K (.ref A_Fraction) "top" = some none)
    (na_Fraction_bottom : PySem.W.findIn K (.ref A_Fraction) "bottom" = some none)
    (mk_Fraction : PySem.W.makesIn K A_Fraction = true)
    (ka_Fraction : PySem.W.keepIn K (.ref A_Fraction) = true)
    (a_Fraction_init : PySem.W.findIn K (.ref A_Fraction) "__init__" = some (some (.ref fIFraction)))
    (iIFraction : PySem.W.isFn K (.ref fIFraction) = true)
    (lIFraction : K.lookup fIFraction = some ⟨ocIFraction, odIFraction, .func (PySem.W.fnOf "__init__" "Fraction.__init__" (defArgs s_Fraction_init) (defBody s_Fraction_init) (defScope s_Fraction_init) (.ref TIFraction) kVIFraction dcIFraction pmIFraction anIFraction cdIFraction ctIFraction), slIFraction⟩)
    (cIFraction : PySem.W.codeIn K cdIFraction "Fraction.__init__" = true)
    (tIFraction : K.lookup TIFraction = some oIFraction)
    (dIFraction : oIFraction.data = .seq #[.int 1 tkIFraction0] nIFraction)
    (a_Fraction_under : PySem.W.findIn K (.ref A_Fraction) "under" = some (some (.ref fMFractionunder)))
    (lMFractionunder : K.lookup fMFractionunder = some ⟨ocMFractionunder, odMFractionunder, .func (PySem.W.fnOf "under" "Fraction.under" (defArgs s_Fraction_under) (defBody s_Fraction_under) (defScope s_Fraction_under) .none kVMFractionunder dcMFractionunder pmMFractionunder anMFractionunder cdMFractionunder ctMFractionunder), slMFractionunder⟩)
    (cMFractionunder : PySem.W.codeIn K cdMFractionunder "Fraction.under" = true)
    (kMFractionunder : PySem.W.keepIn K (.ref fMFractionunder) = true)
    (iMFractionunder : PySem.W.isFn K (.ref fMFractionunder) = true)
    (a_Fraction_sign : PySem.W.findIn K (.ref A_Fraction) "sign" = some (some (.ref fMFractionsign)))
    (lMFractionsign : K.lookup fMFractionsign = some ⟨ocMFractionsign, odMFractionsign, .func (PySem.W.fnOf "sign" "Fraction.sign" (defArgs s_Fraction_sign) (defBody s_Fraction_sign) (defScope s_Fraction_sign) .none kVMFractionsign dcMFractionsign pmMFractionsign anMFractionsign cdMFractionsign ctMFractionsign), slMFractionsign⟩)
    (cMFractionsign : PySem.W.codeIn K cdMFractionsign "Fraction.sign" = true)
    (kMFractionsign : PySem.W.keepIn K (.ref fMFractionsign) = true)
    (iMFractionsign : PySem.W.isFn K (.ref fMFractionsign) = true)
    (c1_Fraction : PySem.W.findIn K (.ref A_Fraction) "__class__" = some (some (.builtin "object.__class__")))
    (c4_Fraction : PySem.W.mroIn K A_Fraction (.type "object") = some true)
    (pg_Way : PySem.W.plainGet K A_Way Str.empty = true)
    (hd_Way : PySem.W.hasDictIn K A_Way = true)
    (po_Way : PySem.W.plainOver K A_Way = true)
    (sa_Way : PySem.W.findIn K (.ref A_Way) "__setattr__" = some (some (.builtin "object.__setattr__")))
    (na_Way_name : PySem.W.findIn K (.ref A_Way) "name" = some none)
    (na_Way_start : PySem.W.findIn K (.ref A_Way) "start" = some none)
    (na_Way_goal : PySem.W.findIn K (.ref A_Way) "goal" = some none)
    (na_Way_high : PySem.W.findIn K (.ref A_Way) "high" = some none)
    (na_Way_cost : PySem.W.findIn K (.ref A_Way) "cost" = some none)
    (mk_Way : PySem.W.makesIn K A_Way = true)
    (ka_Way : PySem.W.keepIn K (.ref A_Way) = true)
    (a_Way_init : PySem.W.findIn K (.ref A_Way) "__init__" = some (some (.ref fIWay)))
    (iIWay : PySem.W.isFn K (.ref fIWay) = true)
    (lIWay : K.lookup fIWay = some ⟨ocIWay, odIWay, .func (PySem.W.fnOf "__init__" "Way.__init__" (defArgs s_Way_init) (defBody s_Way_init) (defScope s_Way_init) (.ref TIWay) kVIWay dcIWay pmIWay anIWay cdIWay ctIWay), slIWay⟩)
    (cIWay : PySem.W.codeIn K cdIWay "Way.__init__" = true)
    (tIWay : K.lookup TIWay = some oIWay)
    (dIWay : oIWay.data = .seq #[.none, .none] nIWay)
    (rd_Way : PySem.W.readsIn K A_Way (.type "type") = true)
    (sg_Way : PySem.W.specialIn K (.ref A_Way) "__getattribute__" = some (some (.builtin "type.__getattribute__")))
    (fc_Way : PySem.W.findCls K (.ref A_Way) (.type "type") "__init__" = some (.val (.ref fIWay)))
    (kc_Way : PySem.W.keepIn K (.ref fIWay) = true)
    (a_Way_may_stay : PySem.W.findIn K (.ref A_Way) "may_stay" = some (some (.ref fMWaymay_stay)))
    (lMWaymay_stay : K.lookup fMWaymay_stay = some ⟨ocMWaymay_stay, odMWaymay_stay, .func (PySem.W.fnOf "may_stay" "Way.may_stay" (defArgs s_Way_may_stay) (defBody s_Way_may_stay) (defScope s_Way_may_stay) .none kVMWaymay_stay dcMWaymay_stay pmMWaymay_stay anMWaymay_stay cdMWaymay_stay ctMWaymay_stay), slMWaymay_stay⟩)
    (cMWaymay_stay : PySem.W.codeIn K cdMWaymay_stay "Way.may_stay" = true)
    (kMWaymay_stay : PySem.W.keepIn K (.ref fMWaymay_stay) = true)
    (iMWaymay_stay : PySem.W.isFn K (.ref fMWaymay_stay) = true)
    (a_Way_at_turn : PySem.W.findIn K (.ref A_Way) "at_turn" = some (some (.ref fMWayat_turn)))
    (lMWayat_turn : K.lookup fMWayat_turn = some ⟨ocMWayat_turn, odMWayat_turn, .func (PySem.W.fnOf "at_turn" "Way.at_turn" (defArgs s_Way_at_turn) (defBody s_Way_at_turn) (defScope s_Way_at_turn) .none kVMWayat_turn dcMWayat_turn pmMWayat_turn anMWayat_turn cdMWayat_turn ctMWayat_turn), slMWayat_turn⟩)
    (cMWayat_turn : PySem.W.codeIn K cdMWayat_turn "Way.at_turn" = true)
    (kMWayat_turn : PySem.W.keepIn K (.ref fMWayat_turn) = true)
    (iMWayat_turn : PySem.W.isFn K (.ref fMWayat_turn) = true)
    (c1_Way : PySem.W.findIn K (.ref A_Way) "__class__" = some (some (.builtin "object.__class__")))
    (c4_Way : PySem.W.mroIn K A_Way (.type "object") = some true)
    (pg_Growing : PySem.W.plainGet K A_Growing Str.empty = true)
    (hd_Growing : PySem.W.hasDictIn K A_Growing = true)
    (po_Growing : PySem.W.plainOver K A_Growing = true)
    (sa_Growing : PySem.W.findIn K (.ref A_Growing) "__setattr__" = some (some (.builtin "object.__setattr__")))
    (na_Growing_rate : PySem.W.findIn K (.ref A_Growing) "rate" = some none)
    (na_Growing_name : PySem.W.findIn K (.ref A_Growing) "name" = some none)
    (na_Growing_start : PySem.W.findIn K (.ref A_Growing) "start" = some none)
    (na_Growing_goal : PySem.W.findIn K (.ref A_Growing) "goal" = some none)
    (na_Growing_high : PySem.W.findIn K (.ref A_Growing) "high" = some none)
    (na_Growing_cost : PySem.W.findIn K (.ref A_Growing) "cost" = some none)
    (mk_Growing : PySem.W.makesIn K A_Growing = true)
    (ka_Growing : PySem.W.keepIn K (.ref A_Growing) = true)
    (a_Growing_init : PySem.W.findIn K (.ref A_Growing) "__init__" = some (some (.ref fIGrowing)))
    (iIGrowing : PySem.W.isFn K (.ref fIGrowing) = true)
    (lIGrowing : K.lookup fIGrowing = some ⟨ocIGrowing, odIGrowing, .func (PySem.W.fnOf "__init__" "Growing.__init__" (defArgs s_Growing_init) (defBody s_Growing_init) (defScope s_Growing_init) (.ref TIGrowing) kVIGrowing dcIGrowing pmIGrowing anIGrowing cdIGrowing ctIGrowing), slIGrowing⟩)
    (cIGrowing : PySem.W.codeIn K cdIGrowing "Growing.__init__" = true)
    (tIGrowing : K.lookup TIGrowing = some oIGrowing)
    (dIGrowing : oIGrowing.data = .seq #[.none, .none] nIGrowing)
    (a_Growing_at_turn : PySem.W.findIn K (.ref A_Growing) "at_turn" = some (some (.ref fMGrowingat_turn)))
    (lMGrowingat_turn : K.lookup fMGrowingat_turn = some ⟨ocMGrowingat_turn, odMGrowingat_turn, .func (PySem.W.fnOf "at_turn" "Growing.at_turn" (defArgs s_Growing_at_turn) (defBody s_Growing_at_turn) (defScope s_Growing_at_turn) .none kVMGrowingat_turn dcMGrowingat_turn pmMGrowingat_turn anMGrowingat_turn cdMGrowingat_turn ctMGrowingat_turn), slMGrowingat_turn⟩)
    (cMGrowingat_turn : PySem.W.codeIn K cdMGrowingat_turn "Growing.at_turn" = true)
    (kMGrowingat_turn : PySem.W.keepIn K (.ref fMGrowingat_turn) = true)
    (iMGrowingat_turn : PySem.W.isFn K (.ref fMGrowingat_turn) = true)
    (a_Growing_may_stay : PySem.W.findIn K (.ref A_Growing) "may_stay" = some (some (.ref fMWaymay_stay)))
    (c1_Growing : PySem.W.findIn K (.ref A_Growing) "__class__" = some (some (.builtin "object.__class__")))
    (c4_Growing : PySem.W.mroIn K A_Growing (.type "object") = some true)
    (pg_Leaking : PySem.W.plainGet K A_Leaking Str.empty = true)
    (hd_Leaking : PySem.W.hasDictIn K A_Leaking = true)
    (po_Leaking : PySem.W.plainOver K A_Leaking = true)
    (sa_Leaking : PySem.W.findIn K (.ref A_Leaking) "__setattr__" = some (some (.builtin "object.__setattr__")))
    (na_Leaking_loss : PySem.W.findIn K (.ref A_Leaking) "loss" = some none)
    (na_Leaking_name : PySem.W.findIn K (.ref A_Leaking) "name" = some none)
    (na_Leaking_start : PySem.W.findIn K (.ref A_Leaking) "start" = some none)
    (na_Leaking_goal : PySem.W.findIn K (.ref A_Leaking) "goal" = some none)
    (na_Leaking_high : PySem.W.findIn K (.ref A_Leaking) "high" = some none)
    (na_Leaking_cost : PySem.W.findIn K (.ref A_Leaking) "cost" = some none)
    (mk_Leaking : PySem.W.makesIn K A_Leaking = true)
    (ka_Leaking : PySem.W.keepIn K (.ref A_Leaking) = true)
    (a_Leaking_init : PySem.W.findIn K (.ref A_Leaking) "__init__" = some (some (.ref fILeaking)))
    (iILeaking : PySem.W.isFn K (.ref fILeaking) = true)
    (lILeaking : K.lookup fILeaking = some ⟨ocILeaking, odILeaking, .func (PySem.W.fnOf "__init__" "Leaking.__init__" (defArgs s_Leaking_init) (defBody s_Leaking_init) (defScope s_Leaking_init) (.ref TILeaking) kVILeaking dcILeaking pmILeaking anILeaking cdILeaking ctILeaking), slILeaking⟩)
    (cILeaking : PySem.W.codeIn K cdILeaking "Leaking.__init__" = true)
    (tILeaking : K.lookup TILeaking = some oILeaking)
    (dILeaking : oILeaking.data = .seq #[.none, .none] nILeaking)
    (rd_Leaking : PySem.W.readsIn K A_Leaking (.type "type") = true)
    (sg_Leaking : PySem.W.specialIn K (.ref A_Leaking) "__getattribute__" = some (some (.builtin "type.__getattribute__")))
    (fc_Leaking : PySem.W.findCls K (.ref A_Leaking) (.type "type") "__init__" = some (.val (.ref fILeaking)))
    (kc_Leaking : PySem.W.keepIn K (.ref fILeaking) = true)
    (a_Leaking_at_turn : PySem.W.findIn K (.ref A_Leaking) "at_turn" = some (some (.ref fMLeakingat_turn)))
    (lMLeakingat_turn : K.lookup fMLeakingat_turn = some ⟨ocMLeakingat_turn, odMLeakingat_turn, .func (PySem.W.fnOf "at_turn" "Leaking.at_turn" (defArgs s_Leaking_at_turn) (defBody s_Leaking_at_turn) (defScope s_Leaking_at_turn) .none kVMLeakingat_turn dcMLeakingat_turn pmMLeakingat_turn anMLeakingat_turn cdMLeakingat_turn ctMLeakingat_turn), slMLeakingat_turn⟩)
    (cMLeakingat_turn : PySem.W.codeIn K cdMLeakingat_turn "Leaking.at_turn" = true)
    (kMLeakingat_turn : PySem.W.keepIn K (.ref fMLeakingat_turn) = true)
    (iMLeakingat_turn : PySem.W.isFn K (.ref fMLeakingat_turn) = true)
    (a_Leaking_may_stay : PySem.W.findIn K (.ref A_Leaking) "may_stay" = some (some (.ref fMWaymay_stay)))
    (c1_Leaking : PySem.W.findIn K (.ref A_Leaking) "__class__" = some (some (.builtin "object.__class__")))
    (c4_Leaking : PySem.W.mroIn K A_Leaking (.type "object") = some true)
    (pg_Store : PySem.W.plainGet K A_Store Str.empty = true)
    (hd_Store : PySem.W.hasDictIn K A_Store = true)
    (po_Store : PySem.W.plainOver K A_Store = true)
    (sa_Store : PySem.W.findIn K (.ref A_Store) "__setattr__" = some (some (.builtin "object.__setattr__")))
    (na_Store_loss : PySem.W.findIn K (.ref A_Store) "loss" = some none)
    (na_Store_name : PySem.W.findIn K (.ref A_Store) "name" = some none)
    (na_Store_start : PySem.W.findIn K (.ref A_Store) "start" = some none)
    (na_Store_goal : PySem.W.findIn K (.ref A_Store) "goal" = some none)
    (na_Store_high : PySem.W.findIn K (.ref A_Store) "high" = some none)
    (na_Store_cost : PySem.W.findIn K (.ref A_Store) "cost" = some none)
    (mk_Store : PySem.W.makesIn K A_Store = true)
    (ka_Store : PySem.W.keepIn K (.ref A_Store) = true)
    (a_Store_init : PySem.W.findIn K (.ref A_Store) "__init__" = some (some (.ref fIStore)))
    (iIStore : PySem.W.isFn K (.ref fIStore) = true)
    (lIStore : K.lookup fIStore = some ⟨ocIStore, odIStore, .func (PySem.W.fnOf "__init__" "Store.__init__" (defArgs s_Store_init) (defBody s_Store_init) (defScope s_Store_init) (.ref TIStore) kVIStore dcIStore pmIStore anIStore cdIStore ctIStore), slIStore⟩)
    (cIStore : PySem.W.codeIn K cdIStore "Store.__init__" = true)
    (tIStore : K.lookup TIStore = some oIStore)
    (dIStore : oIStore.data = .seq #[.none, .none] nIStore)
    (a_Store_may_stay : PySem.W.findIn K (.ref A_Store) "may_stay" = some (some (.ref fMStoremay_stay)))
    (lMStoremay_stay : K.lookup fMStoremay_stay = some ⟨ocMStoremay_stay, odMStoremay_stay, .func (PySem.W.fnOf "may_stay" "Store.may_stay" (defArgs s_Store_may_stay) (defBody s_Store_may_stay) (defScope s_Store_may_stay) .none kVMStoremay_stay dcMStoremay_stay pmMStoremay_stay anMStoremay_stay cdMStoremay_stay ctMStoremay_stay), slMStoremay_stay⟩)
    (cMStoremay_stay : PySem.W.codeIn K cdMStoremay_stay "Store.may_stay" = true)
    (kMStoremay_stay : PySem.W.keepIn K (.ref fMStoremay_stay) = true)
    (iMStoremay_stay : PySem.W.isFn K (.ref fMStoremay_stay) = true)
    (a_Store_at_turn : PySem.W.findIn K (.ref A_Store) "at_turn" = some (some (.ref fMStoreat_turn)))
    (lMStoreat_turn : K.lookup fMStoreat_turn = some ⟨ocMStoreat_turn, odMStoreat_turn, .func (PySem.W.fnOf "at_turn" "Store.at_turn" (defArgs s_Store_at_turn) (defBody s_Store_at_turn) (defScope s_Store_at_turn) .none kVMStoreat_turn dcMStoreat_turn pmMStoreat_turn anMStoreat_turn cdMStoreat_turn ctMStoreat_turn), slMStoreat_turn⟩)
    (cMStoreat_turn : PySem.W.codeIn K cdMStoreat_turn "Store.at_turn" = true)
    (kMStoreat_turn : PySem.W.keepIn K (.ref fMStoreat_turn) = true)
    (iMStoreat_turn : PySem.W.isFn K (.ref fMStoreat_turn) = true)
    (c1_Store : PySem.W.findIn K (.ref A_Store) "__class__" = some (some (.builtin "object.__class__")))
    (c4_Store : PySem.W.mroIn K A_Store (.type "object") = some true)
    (c2 : PySem.W.specialIn K (.builtin "object.__class__") "__get__" = some (some (.builtin "getset_descriptor.__get__")))
    (c3 : PySem.W.takesIn K (.builtin "object.__class__") = some true)
    (ex_NoNumber : PySem.W.excIn K A_NoNumber bmV "ValueError.__new__" = true)
    (k_int_Fraction : PySem.W.kitOne K (.type "int") (.ref A_Fraction) = some false)
    (k_str_Fraction : PySem.W.kitOne K (.type "str") (.ref A_Fraction) = some false)
    (k_bool_Fraction : PySem.W.kitOne K (.type "bool") (.ref A_Fraction) = some false)
    (k_none_Fraction : PySem.W.kitOne K (.type "NoneType") (.ref A_Fraction) = some false)
    (k_list_Fraction : PySem.W.kitOne K (.type "list") (.ref A_Fraction) = some false)
    (k_dict_Fraction : PySem.W.kitOne K (.type "dict") (.ref A_Fraction) = some false)
    (k_tuple_Fraction : PySem.W.kitOne K (.type "tuple") (.ref A_Fraction) = some false)
    (k_Fraction_Fraction : PySem.W.kitOne K (.ref A_Fraction) (.ref A_Fraction) = some true)
    (k_Way_Fraction : PySem.W.kitOne K (.ref A_Way) (.ref A_Fraction) = some false)
    (k_Growing_Fraction : PySem.W.kitOne K (.ref A_Growing) (.ref A_Fraction) = some false)
    (k_Leaking_Fraction : PySem.W.kitOne K (.ref A_Leaking) (.ref A_Fraction) = some false)
    (k_Store_Fraction : PySem.W.kitOne K (.ref A_Store) (.ref A_Fraction) = some false)
    (k_int_Growing : PySem.W.kitOne K (.type "int") (.ref A_Growing) = some false)
    (k_str_Growing : PySem.W.kitOne K (.type "str") (.ref A_Growing) = some false)
    (k_bool_Growing : PySem.W.kitOne K (.type "bool") (.ref A_Growing) = some false)
    (k_none_Growing : PySem.W.kitOne K (.type "NoneType") (.ref A_Growing) = some false)
    (k_list_Growing : PySem.W.kitOne K (.type "list") (.ref A_Growing) = some false)
    (k_dict_Growing : PySem.W.kitOne K (.type "dict") (.ref A_Growing) = some false)
    (k_tuple_Growing : PySem.W.kitOne K (.type "tuple") (.ref A_Growing) = some false)
    (k_Fraction_Growing : PySem.W.kitOne K (.ref A_Fraction) (.ref A_Growing) = some false)
    (k_Way_Growing : PySem.W.kitOne K (.ref A_Way) (.ref A_Growing) = some false)
    (k_Growing_Growing : PySem.W.kitOne K (.ref A_Growing) (.ref A_Growing) = some true)
    (k_Leaking_Growing : PySem.W.kitOne K (.ref A_Leaking) (.ref A_Growing) = some false)
    (k_Store_Growing : PySem.W.kitOne K (.ref A_Store) (.ref A_Growing) = some false)
    (k_int_Leaking : PySem.W.kitOne K (.type "int") (.ref A_Leaking) = some false)
    (k_str_Leaking : PySem.W.kitOne K (.type "str") (.ref A_Leaking) = some false)
    (k_bool_Leaking : PySem.W.kitOne K (.type "bool") (.ref A_Leaking) = some false)
    (k_none_Leaking : PySem.W.kitOne K (.type "NoneType") (.ref A_Leaking) = some false)
    (k_list_Leaking : PySem.W.kitOne K (.type "list") (.ref A_Leaking) = some false)
    (k_dict_Leaking : PySem.W.kitOne K (.type "dict") (.ref A_Leaking) = some false)
    (k_tuple_Leaking : PySem.W.kitOne K (.type "tuple") (.ref A_Leaking) = some false)
    (k_Fraction_Leaking : PySem.W.kitOne K (.ref A_Fraction) (.ref A_Leaking) = some false)
    (k_Way_Leaking : PySem.W.kitOne K (.ref A_Way) (.ref A_Leaking) = some false)
    (k_Growing_Leaking : PySem.W.kitOne K (.ref A_Growing) (.ref A_Leaking) = some false)
    (k_Leaking_Leaking : PySem.W.kitOne K (.ref A_Leaking) (.ref A_Leaking) = some true)
    (k_Store_Leaking : PySem.W.kitOne K (.ref A_Store) (.ref A_Leaking) = some true)
    (k_int_Store : PySem.W.kitOne K (.type "int") (.ref A_Store) = some false)
    (k_str_Store : PySem.W.kitOne K (.type "str") (.ref A_Store) = some false)
    (k_bool_Store : PySem.W.kitOne K (.type "bool") (.ref A_Store) = some false)
    (k_none_Store : PySem.W.kitOne K (.type "NoneType") (.ref A_Store) = some false)
    (k_list_Store : PySem.W.kitOne K (.type "list") (.ref A_Store) = some false)
    (k_dict_Store : PySem.W.kitOne K (.type "dict") (.ref A_Store) = some false)
    (k_tuple_Store : PySem.W.kitOne K (.type "tuple") (.ref A_Store) = some false)
    (k_Fraction_Store : PySem.W.kitOne K (.ref A_Fraction) (.ref A_Store) = some false)
    (k_Way_Store : PySem.W.kitOne K (.ref A_Way) (.ref A_Store) = some false)
    (k_Growing_Store : PySem.W.kitOne K (.ref A_Growing) (.ref A_Store) = some false)
    (k_Leaking_Store : PySem.W.kitOne K (.ref A_Leaking) (.ref A_Store) = some false)
    (k_Store_Store : PySem.W.kitOne K (.ref A_Store) (.ref A_Store) = some true)
    (k_int_Way : PySem.W.kitOne K (.type "int") (.ref A_Way) = some false)
    (k_str_Way : PySem.W.kitOne K (.type "str") (.ref A_Way) = some false)
    (k_bool_Way : PySem.W.kitOne K (.type "bool") (.ref A_Way) = some false)
    (k_none_Way : PySem.W.kitOne K (.type "NoneType") (.ref A_Way) = some false)
    (k_list_Way : PySem.W.kitOne K (.type "list") (.ref A_Way) = some false)
    (k_dict_Way : PySem.W.kitOne K (.type "dict") (.ref A_Way) = some false)
    (k_tuple_Way : PySem.W.kitOne K (.type "tuple") (.ref A_Way) = some false)
    (k_Fraction_Way : PySem.W.kitOne K (.ref A_Fraction) (.ref A_Way) = some false)
    (k_Way_Way : PySem.W.kitOne K (.ref A_Way) (.ref A_Way) = some true)
    (k_Growing_Way : PySem.W.kitOne K (.ref A_Growing) (.ref A_Way) = some true)
    (k_Leaking_Way : PySem.W.kitOne K (.ref A_Leaking) (.ref A_Way) = some true)
    (k_Store_Way : PySem.W.kitOne K (.ref A_Store) (.ref A_Way) = some true)
    (k_int_bool : PySem.W.kitOne K (.type "int") (.type "bool") = some false)
    (k_str_bool : PySem.W.kitOne K (.type "str") (.type "bool") = some false)
    (k_bool_bool : PySem.W.kitOne K (.type "bool") (.type "bool") = some true)
    (k_none_bool : PySem.W.kitOne K (.type "NoneType") (.type "bool") = some false)
    (k_list_bool : PySem.W.kitOne K (.type "list") (.type "bool") = some false)
    (k_dict_bool : PySem.W.kitOne K (.type "dict") (.type "bool") = some false)
    (k_tuple_bool : PySem.W.kitOne K (.type "tuple") (.type "bool") = some false)
    (k_Fraction_bool : PySem.W.kitOne K (.ref A_Fraction) (.type "bool") = some false)
    (k_Way_bool : PySem.W.kitOne K (.ref A_Way) (.type "bool") = some false)
    (k_Growing_bool : PySem.W.kitOne K (.ref A_Growing) (.type "bool") = some false)
    (k_Leaking_bool : PySem.W.kitOne K (.ref A_Leaking) (.type "bool") = some false)
    (k_Store_bool : PySem.W.kitOne K (.ref A_Store) (.type "bool") = some false)
    (k_int_int : PySem.W.kitOne K (.type "int") (.type "int") = some true)
    (k_str_int : PySem.W.kitOne K (.type "str") (.type "int") = some false)
    (k_bool_int : PySem.W.kitOne K (.type "bool") (.type "int") = some true)
    (k_none_int : PySem.W.kitOne K (.type "NoneType") (.type "int") = some false)
    (k_list_int : PySem.W.kitOne K (.type "list") (.type "int") = some false)
    (k_dict_int : PySem.W.kitOne K (.type "dict") (.type "int") = some false)
    (k_tuple_int : PySem.W.kitOne K (.type "tuple") (.type "int") = some false)
    (k_Fraction_int : PySem.W.kitOne K (.ref A_Fraction) (.type "int") = some false)
    (k_Way_int : PySem.W.kitOne K (.ref A_Way) (.type "int") = some false)
    (k_Growing_int : PySem.W.kitOne K (.ref A_Growing) (.type "int") = some false)
    (k_Leaking_int : PySem.W.kitOne K (.ref A_Leaking) (.type "int") = some false)
    (k_Store_int : PySem.W.kitOne K (.ref A_Store) (.type "int") = some false)
    (k_int_str : PySem.W.kitOne K (.type "int") (.type "str") = some false)
    (k_str_str : PySem.W.kitOne K (.type "str") (.type "str") = some true)
    (k_bool_str : PySem.W.kitOne K (.type "bool") (.type "str") = some false)
    (k_none_str : PySem.W.kitOne K (.type "NoneType") (.type "str") = some false)
    (k_list_str : PySem.W.kitOne K (.type "list") (.type "str") = some false)
    (k_dict_str : PySem.W.kitOne K (.type "dict") (.type "str") = some false)
    (k_tuple_str : PySem.W.kitOne K (.type "tuple") (.type "str") = some false)
    (k_Fraction_str : PySem.W.kitOne K (.ref A_Fraction) (.type "str") = some false)
    (k_Way_str : PySem.W.kitOne K (.ref A_Way) (.type "str") = some false)
    (k_Growing_str : PySem.W.kitOne K (.ref A_Growing) (.type "str") = some false)
    (k_Leaking_str : PySem.W.kitOne K (.ref A_Leaking) (.type "str") = some false)
    (k_Store_str : PySem.W.kitOne K (.ref A_Store) (.type "str") = some false)
    (z_abs : PySem.W.nsIn K mainGlobals "abs" = some none)
    (z_bool : PySem.W.nsIn K mainGlobals "bool" = some none)
    (z_int : PySem.W.nsIn K mainGlobals "int" = some none)
    (z_isinstance : PySem.W.nsIn K mainGlobals "isinstance" = some none)
    (z_len : PySem.W.nsIn K mainGlobals "len" = some none)
    (z_min : PySem.W.nsIn K mainGlobals "min" = some none)
    (z_range : PySem.W.nsIn K mainGlobals "range" = some none)
    (z_str : PySem.W.nsIn K mainGlobals "str" = some none) :
    ∃ fd : FuncData, (∀ (s : Shared) (v : Value), BindsTo s fd ⟨[v], []⟩ [("_law_script", v)]) ∧ ∀ base : Heap, K.In base → base.Ns mainGlobals mg → FnOk l.prog w K mg base CX0 10 fa fd ["_law_script"] (spLaw K) := by
  have e := hfa.symm.trans (PySem.W.mg_of X G aDlaw)
  cases e
  have N_Ddivisor := fun_mk (st := s_divisor) lDdivisor cDdivisor kDdivisor
  have N_Dname_at := fun_mk (st := s_name_at) lDname_at cDname_at kDname_at
  have N_Dlaw_cell_at := fun_mk (st := s_law_cell_at) lDlaw_cell_at cDlaw_cell_at kDlaw_cell_at
  have N_Dlaw_whole := fun_mk (st := s_law_whole) lDlaw_whole cDlaw_whole kDlaw_whole
  have N_Dlaw_divisor := fun_mk (st := s_law_divisor) lDlaw_divisor cDlaw_divisor kDlaw_divisor
  have N_Dlaw_is := fun_mk (st := s_law_is) lDlaw_is cDlaw_is kDlaw_is
  have N_Dlaw_name := fun_mk (st := s_law_name) lDlaw_name cDlaw_name kDlaw_name
  have N_Dlaw_pair := fun_mk (st := s_law_pair) lDlaw_pair cDlaw_pair kDlaw_pair
  have N_Dlaw_made := fun_mk (st := s_law_made) lDlaw_made cDlaw_made kDlaw_made
  have N_Dlaw_maybe := fun_mk (st := s_law_maybe) lDlaw_maybe cDlaw_maybe kDlaw_maybe
  have N_Dlaw_is_way := fun_mk (st := s_law_is_way) lDlaw_is_way cDlaw_is_way kDlaw_is_way
  have N_Dlaw_behind := fun_mk (st := s_law_behind) lDlaw_behind cDlaw_behind kDlaw_behind
  have N_Dlaw := fun_mk (st := s_law) lDlaw cDlaw kDlaw
  have N_IFraction := funD_mk (st := s_Fraction_init) lIFraction cIFraction tIFraction dIFraction
  have N_MFractionunder := fun_mk (st := s_Fraction_under) lMFractionunder cMFractionunder kMFractionunder
  have N_MFractionsign := fun_mk (st := s_Fraction_sign) lMFractionsign cMFractionsign kMFractionsign
  have N_IWay := funD_mk (st := s_Way_init) lIWay cIWay tIWay dIWay
  have N_MWaymay_stay := fun_mk (st := s_Way_may_stay) lMWaymay_stay cMWaymay_stay kMWaymay_stay
  have N_MWayat_turn := fun_mk (st := s_Way_at_turn) lMWayat_turn cMWayat_turn kMWayat_turn
  have N_IGrowing := funD_mk (st := s_Growing_init) lIGrowing cIGrowing tIGrowing dIGrowing
  have N_MGrowingat_turn := fun_mk (st := s_Growing_at_turn) lMGrowingat_turn cMGrowingat_turn kMGrowingat_turn
  have N_ILeaking := funD_mk (st := s_Leaking_init) lILeaking cILeaking tILeaking dILeaking
  have N_MLeakingat_turn := fun_mk (st := s_Leaking_at_turn) lMLeakingat_turn cMLeakingat_turn kMLeakingat_turn
  have N_IStore := funD_mk (st := s_Store_init) lIStore cIStore tIStore dIStore
  have N_MStoremay_stay := fun_mk (st := s_Store_may_stay) lMStoremay_stay cMStoremay_stay kMStoremay_stay
  have N_MStoreat_turn := fun_mk (st := s_Store_at_turn) lMStoreat_turn cMStoreat_turn kMStoreat_turn
  have T : TX K mg ⟨A_Fraction, A_Way, A_Growing, A_Leaking, A_Store, A_GainError, A_NoNumber, A_NoWay⟩ := {
    d_divisor := ⟨_, _, N_Ddivisor, PySem.W.mg_of X G aDdivisor, N_Ddivisor.binds (ps := ["one", "other"]) fun _ _ _ _ _ _ us hl => match us, hl with | [_, _], _ => rfl⟩
    d_name_at := ⟨_, _, N_Dname_at, PySem.W.mg_of X G aDname_at, N_Dname_at.binds (ps := ["name", "turn"]) fun _ _ _ _ _ _ us hl => match us, hl with | [_, _], _ => rfl⟩
    d_law_cell_at := ⟨_, _, N_Dlaw_cell_at, PySem.W.mg_of X G aDlaw_cell_at, N_Dlaw_cell_at.binds (ps := ["_law_script", "_law_k"]) fun _ _ _ _ _ _ us hl => match us, hl with | [_, _], _ => rfl⟩
    d_law_whole := ⟨_, _, N_Dlaw_whole, PySem.W.mg_of X G aDlaw_whole, N_Dlaw_whole.binds (ps := ["_law_found"]) fun _ _ _ _ _ _ us hl => match us, hl with | [_], _ => rfl⟩
    d_law_divisor := ⟨_, _, N_Dlaw_divisor, PySem.W.mg_of X G aDlaw_divisor, N_Dlaw_divisor.binds (ps := ["_law_one", "_law_other"]) fun _ _ _ _ _ _ us hl => match us, hl with | [_, _], _ => rfl⟩
    d_law_is := ⟨_, _, N_Dlaw_is, PySem.W.mg_of X G aDlaw_is, N_Dlaw_is.binds (ps := ["_law_found", "_law_top", "_law_bottom"]) fun _ _ _ _ _ _ us hl => match us, hl with | [_, _, _], _ => rfl⟩
    d_law_name := ⟨_, _, N_Dlaw_name, PySem.W.mg_of X G aDlaw_name, N_Dlaw_name.binds (ps := ["_law_k", "_law_cell"]) fun _ _ _ _ _ _ us hl => match us, hl with | [_, _], _ => rfl⟩
    d_law_pair := ⟨_, _, N_Dlaw_pair, PySem.W.mg_of X G aDlaw_pair, N_Dlaw_pair.binds (ps := ["_law_cell"]) fun _ _ _ _ _ _ us hl => match us, hl with | [_], _ => rfl⟩
    d_law_made := ⟨_, _, N_Dlaw_made, PySem.W.mg_of X G aDlaw_made, N_Dlaw_made.binds (ps := ["_law_kind", "_law_names", "_law_part", "_law_high", "_law_cost"]) fun _ _ _ _ _ _ us hl => match us, hl with | [_, _, _, _, _], _ => rfl⟩
    d_law_maybe := ⟨_, _, N_Dlaw_maybe, PySem.W.mg_of X G aDlaw_maybe, N_Dlaw_maybe.binds (ps := ["_law_pair_here"]) fun _ _ _ _ _ _ us hl => match us, hl with | [_], _ => rfl⟩
    d_law_is_way := ⟨_, _, N_Dlaw_is_way, PySem.W.mg_of X G aDlaw_is_way, N_Dlaw_is_way.binds (ps := ["_law_way", "_law_kind", "_law_names", "_law_part", "_law_high", "_law_cost"]) fun _ _ _ _ _ _ us hl => match us, hl with | [_, _, _, _, _, _], _ => rfl⟩
    d_law_behind := ⟨_, _, N_Dlaw_behind, PySem.W.mg_of X G aDlaw_behind, N_Dlaw_behind.binds (ps := ["_law_kind", "_law_names", "_law_turn"]) fun _ _ _ _ _ _ us hl => match us, hl with | [_, _, _], _ => rfl⟩
    d_law := ⟨_, _, N_Dlaw, PySem.W.mg_of X G aDlaw, N_Dlaw.binds (ps := ["_law_script"]) fun _ _ _ _ _ _ us hl => match us, hl with | [_], _ => rfl⟩
    cl_Fraction := ⟨pg_Fraction, hd_Fraction, po_Fraction, sa_Fraction⟩
    mg_Fraction := PySem.W.mg_of X G n_Fraction
    na_Fraction_top := na_Fraction_top
    na_Fraction_bottom := na_Fraction_bottom
    i_Fraction := ⟨fIFraction, _, N_IFraction.gen, ⟨mk_Fraction, a_Fraction_init, iIFraction, ka_Fraction⟩, fun dvs hd => by
      simp only [List.mem_cons, List.not_mem_nil, or_false] at hd
      rcases hd with rfl | rfl
      · exact ⟨[], .nil, N_IFraction.binds (es := []) fun T kV doc pm an cdv ct us hl => match us, hl with | [_, _, _], _ => ⟨_, rfl, rfl⟩ | [], hl => by simp at hl | [_], hl => by simp at hl | [_, _], hl => by simp at hl | _ :: _ :: _ :: _ :: _, hl => by simp at hl⟩
      · exact ⟨[.int 1 tkIFraction0], (.cons ⟨_, rfl⟩ (.nil)), N_IFraction.binds (es := [.int 1 tkIFraction0]) fun T kV doc pm an cdv ct us hl => match us, hl with | [_, _], _ => ⟨_, rfl, rfl⟩ | [], hl => by simp at hl | [_], hl => by simp at hl | _ :: _ :: _ :: _, hl => by simp at hl⟩⟩
    m_Fraction_under := ⟨fMFractionunder, _, N_MFractionunder, ⟨a_Fraction_under, iMFractionunder, kMFractionunder⟩, N_MFractionunder.binds (ps := ["self", "other"]) fun _ _ _ _ _ _ us hl => match us, hl with | [_, _], _ => rfl⟩
    m_Fraction_sign := ⟨fMFractionsign, _, N_MFractionsign, ⟨a_Fraction_sign, iMFractionsign, kMFractionsign⟩, N_MFractionsign.binds (ps := ["self"]) fun _ _ _ _ _ _ us hl => match us, hl with | [_], _ => rfl⟩
    c1_Fraction := c1_Fraction
    c4_Fraction := c4_Fraction
    cl_Way := ⟨pg_Way, hd_Way, po_Way, sa_Way⟩
    mg_Way := PySem.W.mg_of X G n_Way
    na_Way_name := na_Way_name
    na_Way_start := na_Way_start
    na_Way_goal := na_Way_goal
    na_Way_high := na_Way_high
    na_Way_cost := na_Way_cost
    i_Way := ⟨fIWay, _, N_IWay.gen, ⟨mk_Way, a_Way_init, iIWay, ka_Way⟩, fun dvs hd => by
      simp only [List.mem_cons, List.not_mem_nil, or_false] at hd
      subst hd
      exact ⟨[], .nil, N_IWay.binds (es := []) fun T kV doc pm an cdv ct us hl => match us, hl with | [_, _, _, _, _, _], _ => ⟨_, rfl, rfl⟩ | [], hl => by simp at hl | [_], hl => by simp at hl | [_, _], hl => by simp at hl | [_, _, _], hl => by simp at hl | [_, _, _, _], hl => by simp at hl | [_, _, _, _, _], hl => by simp at hl | _ :: _ :: _ :: _ :: _ :: _ :: _ :: _, hl => by simp at hl⟩⟩
    c_Way := ⟨fIWay, _, N_IWay.gen, ⟨rd_Way, sg_Way⟩, fc_Way, kc_Way, N_IWay.binds (es := []) fun T kV doc pm an cdv ct us hl => match us, hl with | [_, _, _, _, _, _], _ => ⟨_, rfl, rfl⟩ | [], hl => by simp at hl | [_], hl => by simp at hl | [_, _], hl => by simp at hl | [_, _, _], hl => by simp at hl | [_, _, _, _], hl => by simp at hl | [_, _, _, _, _], hl => by simp at hl | _ :: _ :: _ :: _ :: _ :: _ :: _ :: _, hl => by simp at hl⟩
    m_Way_may_stay := ⟨fMWaymay_stay, _, N_MWaymay_stay, ⟨a_Way_may_stay, iMWaymay_stay, kMWaymay_stay⟩, N_MWaymay_stay.binds (ps := ["self"]) fun _ _ _ _ _ _ us hl => match us, hl with | [_], _ => rfl⟩
    m_Way_at_turn := ⟨fMWayat_turn, _, N_MWayat_turn, ⟨a_Way_at_turn, iMWayat_turn, kMWayat_turn⟩, N_MWayat_turn.binds (ps := ["self", "turn"]) fun _ _ _ _ _ _ us hl => match us, hl with | [_, _], _ => rfl⟩
    c1_Way := c1_Way
    c4_Way := c4_Way
    cl_Growing := ⟨pg_Growing, hd_Growing, po_Growing, sa_Growing⟩
    mg_Growing := PySem.W.mg_of X G n_Growing
    na_Growing_rate := na_Growing_rate
    na_Growing_name := na_Growing_name
    na_Growing_start := na_Growing_start
    na_Growing_goal := na_Growing_goal
    na_Growing_high := na_Growing_high
    na_Growing_cost := na_Growing_cost
    i_Growing := ⟨fIGrowing, _, N_IGrowing.gen, ⟨mk_Growing, a_Growing_init, iIGrowing, ka_Growing⟩, fun dvs hd => by
      simp only [List.mem_cons, List.not_mem_nil, or_false] at hd
      subst hd
      exact ⟨[], .nil, N_IGrowing.binds (es := []) fun T kV doc pm an cdv ct us hl => match us, hl with | [_, _, _, _, _, _, _], _ => ⟨_, rfl, rfl⟩ | [], hl => by simp at hl | [_], hl => by simp at hl | [_, _], hl => by simp at hl | [_, _, _], hl => by simp at hl | [_, _, _, _], hl => by simp at hl | [_, _, _, _, _], hl => by simp at hl | [_, _, _, _, _, _], hl => by simp at hl | _ :: _ :: _ :: _ :: _ :: _ :: _ :: _ :: _, hl => by simp at hl⟩⟩
    m_Growing_at_turn := ⟨fMGrowingat_turn, _, N_MGrowingat_turn, ⟨a_Growing_at_turn, iMGrowingat_turn, kMGrowingat_turn⟩, N_MGrowingat_turn.binds (ps := ["self", "turn"]) fun _ _ _ _ _ _ us hl => match us, hl with | [_, _], _ => rfl⟩
    m_Growing_may_stay := ⟨fMWaymay_stay, _, N_MWaymay_stay, ⟨a_Growing_may_stay, iMWaymay_stay, kMWaymay_stay⟩, N_MWaymay_stay.binds (ps := ["self"]) fun _ _ _ _ _ _ us hl => match us, hl with | [_], _ => rfl⟩
    c1_Growing := c1_Growing
    c4_Growing := c4_Growing
    cl_Leaking := ⟨pg_Leaking, hd_Leaking, po_Leaking, sa_Leaking⟩
    mg_Leaking := PySem.W.mg_of X G n_Leaking
    na_Leaking_loss := na_Leaking_loss
    na_Leaking_name := na_Leaking_name
    na_Leaking_start := na_Leaking_start
    na_Leaking_goal := na_Leaking_goal
    na_Leaking_high := na_Leaking_high
    na_Leaking_cost := na_Leaking_cost
    i_Leaking := ⟨fILeaking, _, N_ILeaking.gen, ⟨mk_Leaking, a_Leaking_init, iILeaking, ka_Leaking⟩, fun dvs hd => by
      simp only [List.mem_cons, List.not_mem_nil, or_false] at hd
      subst hd
      exact ⟨[], .nil, N_ILeaking.binds (es := []) fun T kV doc pm an cdv ct us hl => match us, hl with | [_, _, _, _, _, _, _], _ => ⟨_, rfl, rfl⟩ | [], hl => by simp at hl | [_], hl => by simp at hl | [_, _], hl => by simp at hl | [_, _, _], hl => by simp at hl | [_, _, _, _], hl => by simp at hl | [_, _, _, _, _], hl => by simp at hl | [_, _, _, _, _, _], hl => by simp at hl | _ :: _ :: _ :: _ :: _ :: _ :: _ :: _ :: _, hl => by simp at hl⟩⟩
    c_Leaking := ⟨fILeaking, _, N_ILeaking.gen, ⟨rd_Leaking, sg_Leaking⟩, fc_Leaking, kc_Leaking, N_ILeaking.binds (es := []) fun T kV doc pm an cdv ct us hl => match us, hl with | [_, _, _, _, _, _, _], _ => ⟨_, rfl, rfl⟩ | [], hl => by simp at hl | [_], hl => by simp at hl | [_, _], hl => by simp at hl | [_, _, _], hl => by simp at hl | [_, _, _, _], hl => by simp at hl | [_, _, _, _, _], hl => by simp at hl | [_, _, _, _, _, _], hl => by simp at hl | _ :: _ :: _ :: _ :: _ :: _ :: _ :: _ :: _, hl => by simp at hl⟩
    m_Leaking_at_turn := ⟨fMLeakingat_turn, _, N_MLeakingat_turn, ⟨a_Leaking_at_turn, iMLeakingat_turn, kMLeakingat_turn⟩, N_MLeakingat_turn.binds (ps := ["self", "turn"]) fun _ _ _ _ _ _ us hl => match us, hl with | [_, _], _ => rfl⟩
    m_Leaking_may_stay := ⟨fMWaymay_stay, _, N_MWaymay_stay, ⟨a_Leaking_may_stay, iMWaymay_stay, kMWaymay_stay⟩, N_MWaymay_stay.binds (ps := ["self"]) fun _ _ _ _ _ _ us hl => match us, hl with | [_], _ => rfl⟩
    c1_Leaking := c1_Leaking
    c4_Leaking := c4_Leaking
    cl_Store := ⟨pg_Store, hd_Store, po_Store, sa_Store⟩
    mg_Store := PySem.W.mg_of X G n_Store
    na_Store_loss := na_Store_loss
    na_Store_name := na_Store_name
    na_Store_start := na_Store_start
    na_Store_goal := na_Store_goal
    na_Store_high := na_Store_high
    na_Store_cost := na_Store_cost
    i_Store := ⟨fIStore, _, N_IStore.gen, ⟨mk_Store, a_Store_init, iIStore, ka_Store⟩, fun dvs hd => by
      simp only [List.mem_cons, List.not_mem_nil, or_false] at hd
      subst hd
      exact ⟨[], .nil, N_IStore.binds (es := []) fun T kV doc pm an cdv ct us hl => match us, hl with | [_, _, _, _, _, _], _ => ⟨_, rfl, rfl⟩ | [], hl => by simp at hl | [_], hl => by simp at hl | [_, _], hl => by simp at hl | [_, _, _], hl => by simp at hl | [_, _, _, _], hl => by simp at hl | [_, _, _, _, _], hl => by simp at hl | _ :: _ :: _ :: _ :: _ :: _ :: _ :: _, hl => by simp at hl⟩⟩
    m_Store_may_stay := ⟨fMStoremay_stay, _, N_MStoremay_stay, ⟨a_Store_may_stay, iMStoremay_stay, kMStoremay_stay⟩, N_MStoremay_stay.binds (ps := ["self"]) fun _ _ _ _ _ _ us hl => match us, hl with | [_], _ => rfl⟩
    m_Store_at_turn := ⟨fMStoreat_turn, _, N_MStoreat_turn, ⟨a_Store_at_turn, iMStoreat_turn, kMStoreat_turn⟩, N_MStoreat_turn.binds (ps := ["self", "turn"]) fun _ _ _ _ _ _ us hl => match us, hl with | [_, _], _ => rfl⟩
    c1_Store := c1_Store
    c4_Store := c4_Store
    c2 := c2
    c3 := c3
    mg_GainError := PySem.W.mg_of X G n_GainError
    mg_NoNumber := PySem.W.mg_of X G n_NoNumber
    ex_NoNumber := ex_NoNumber
    mg_NoWay := PySem.W.mg_of X G n_NoWay
    k_int_Fraction := k_int_Fraction
    k_str_Fraction := k_str_Fraction
    k_bool_Fraction := k_bool_Fraction
    k_none_Fraction := k_none_Fraction
    k_list_Fraction := k_list_Fraction
    k_dict_Fraction := k_dict_Fraction
    k_tuple_Fraction := k_tuple_Fraction
    k_Fraction_Fraction := k_Fraction_Fraction
    k_Way_Fraction := k_Way_Fraction
    k_Growing_Fraction := k_Growing_Fraction
    k_Leaking_Fraction := k_Leaking_Fraction
    k_Store_Fraction := k_Store_Fraction
    k_int_Growing := k_int_Growing
    k_str_Growing := k_str_Growing
    k_bool_Growing := k_bool_Growing
    k_none_Growing := k_none_Growing
    k_list_Growing := k_list_Growing
    k_dict_Growing := k_dict_Growing
    k_tuple_Growing := k_tuple_Growing
    k_Fraction_Growing := k_Fraction_Growing
    k_Way_Growing := k_Way_Growing
    k_Growing_Growing := k_Growing_Growing
    k_Leaking_Growing := k_Leaking_Growing
    k_Store_Growing := k_Store_Growing
    k_int_Leaking := k_int_Leaking
    k_str_Leaking := k_str_Leaking
    k_bool_Leaking := k_bool_Leaking
    k_none_Leaking := k_none_Leaking
    k_list_Leaking := k_list_Leaking
    k_dict_Leaking := k_dict_Leaking
    k_tuple_Leaking := k_tuple_Leaking
    k_Fraction_Leaking := k_Fraction_Leaking
    k_Way_Leaking := k_Way_Leaking
    k_Growing_Leaking := k_Growing_Leaking
    k_Leaking_Leaking := k_Leaking_Leaking
    k_Store_Leaking := k_Store_Leaking
    k_int_Store := k_int_Store
    k_str_Store := k_str_Store
    k_bool_Store := k_bool_Store
    k_none_Store := k_none_Store
    k_list_Store := k_list_Store
    k_dict_Store := k_dict_Store
    k_tuple_Store := k_tuple_Store
    k_Fraction_Store := k_Fraction_Store
    k_Way_Store := k_Way_Store
    k_Growing_Store := k_Growing_Store
    k_Leaking_Store := k_Leaking_Store
    k_Store_Store := k_Store_Store
    k_int_Way := k_int_Way
    k_str_Way := k_str_Way
    k_bool_Way := k_bool_Way
    k_none_Way := k_none_Way
    k_list_Way := k_list_Way
    k_dict_Way := k_dict_Way
    k_tuple_Way := k_tuple_Way
    k_Fraction_Way := k_Fraction_Way
    k_Way_Way := k_Way_Way
    k_Growing_Way := k_Growing_Way
    k_Leaking_Way := k_Leaking_Way
    k_Store_Way := k_Store_Way
    k_int_bool := k_int_bool
    k_str_bool := k_str_bool
    k_bool_bool := k_bool_bool
    k_none_bool := k_none_bool
    k_list_bool := k_list_bool
    k_dict_bool := k_dict_bool
    k_tuple_bool := k_tuple_bool
    k_Fraction_bool := k_Fraction_bool
    k_Way_bool := k_Way_bool
    k_Growing_bool := k_Growing_bool
    k_Leaking_bool := k_Leaking_bool
    k_Store_bool := k_Store_bool
    k_int_int := k_int_int
    k_str_int := k_str_int
    k_bool_int := k_bool_int
    k_none_int := k_none_int
    k_list_int := k_list_int
    k_dict_int := k_dict_int
    k_tuple_int := k_tuple_int
    k_Fraction_int := k_Fraction_int
    k_Way_int := k_Way_int
    k_Growing_int := k_Growing_int
    k_Leaking_int := k_Leaking_int
    k_Store_int := k_Store_int
    k_int_str := k_int_str
    k_str_str := k_str_str
    k_bool_str := k_bool_str
    k_none_str := k_none_str
    k_list_str := k_list_str
    k_dict_str := k_dict_str
    k_tuple_str := k_tuple_str
    k_Fraction_str := k_Fraction_str
    k_Way_str := k_Way_str
    k_Growing_str := k_Growing_str
    k_Leaking_str := k_Leaking_str
    k_Store_str := k_Store_str
    z_abs := PySem.W.mg_none_of X G z_abs
    z_bool := PySem.W.mg_none_of X G z_bool
    z_int := PySem.W.mg_none_of X G z_int
    z_isinstance := PySem.W.mg_none_of X G z_isinstance
    z_len := PySem.W.mg_none_of X G z_len
    z_min := PySem.W.mg_none_of X G z_min
    z_range := PySem.W.mg_none_of X G z_range
    z_str := PySem.W.mg_none_of X G z_str
  }
  exact ⟨PySem.W.fnOf "law" "law" (defArgs s_law) (defBody s_law) (defScope s_law) .none kVDlaw dcDlaw pmDlaw anDlaw cdDlaw ctDlaw, fun s v => .of_eq rfl, fun base _ _ => ok_law N_Dlaw T⟩
theorem walkL {l : PySem.W.OpenLaw} {q : Program} {loose : List Str} {XP : (Str → Option Value) → Heap → Prop} {YP : World → Heap → Prop} {d : DefRec} {K : Params → PySem.W.Frag} (hn : l.most = some 63) (hdf : d.params.defaults = [])
    (hY : ∀ (w : World) (h : Heap), YP w h → (K w.params).In h)
    (F : ∀ (w : World) (mg : Str → Option Value) (fa : Addr) (h : Heap), (K w.params).In h → h.Ns mainGlobals mg → mg d.name = some (.ref fa) →
      ∃ fd : FuncData, (∀ (s : Shared) (u : Value), BindsTo s fd ⟨[u], []⟩ [("_law_script", u)]) ∧ ∀ base : Heap, (K w.params).In base → base.Ns mainGlobals mg → FnOk l.prog w (K w.params) mg base CX0 10 fa fd ["_law_script"] (spLaw (K w.params))) :
    PySem.W.WalkO q loose XP YP l.row.toRowW d [] (fun f vs => PySem.call f vs) :=
  L2.walk_ofB (n := 63) (k := 10) (x := "_law_script") (CX := fun _ => CX0) (sp := fun w => spLaw (K w.params)) hn (by decide) hdf ⟨rfl, by decide, by decide⟩ hY F (fun _ _ a ns hl hb _ hS => ⟨a, ns, rfl, hS, hl, fun i hi => ⟨hb i hi⟩, fun _ => rfl⟩) fun _ _ _ _ _ z => z
end G
open PySem PySem.W PyProof.Rows
set_option maxRecDepth 100000 in
set_option maxHeartbeats 0 in
theorem PySem.Challenge.cw_gainstream_k09_ways_of_a_turn_holds : PySem.Challenge.rw_gainstream_k09_ways_of_a_turn.Holds := by
  w_on; o_law; k_head; (case hw => w_witness2)
  k_fill
  refine G.walkL (l := PySem.Challenge.rw_gainstream_k09_ways_of_a_turn) rfl rfl (fun w h Y => PySem.W.kIn_of Y) ?F
  case F =>
    intro w mg fa h KX GN hmg
    refine' G.all_mk KX GN hmg ?hole0 ?hole1 ?hole2 ?hole3 ?hole4 ?hole5 ?hole6 ?hole7 ?hole8 ?hole9 ?hole10 ?hole11 ?hole12 ?hole13 ?hole14 ?hole15 ?hole16 ?hole17 ?hole18 ?hole19 ?hole20 ?hole21 ?hole22 ?hole23 ?hole24 ?hole25 ?hole26 ?hole27 ?hole28 ?hole29 ?hole30 ?hole31 ?hole32 ?hole33 ?hole34 ?hole35 ?hole36 ?hole37 ?hole38 ?hole39 ?hole40 ?hole41 ?hole42 ?hole43 ?hole44 ?hole45 ?hole46 ?hole47 ?hole48 ?hole49 ?hole50 ?hole51 ?hole52 ?hole53 ?hole54 ?hole55 ?hole56 ?hole57 ?hole58 ?hole59 ?hole60 ?hole61 ?hole62 ?hole63 ?hole64 ?hole65 ?hole66 ?hole67 ?hole68 ?hole69 ?hole70 ?hole71 ?hole72 ?hole73 ?hole74 ?hole75 ?hole76 ?hole77 ?hole78 ?hole79 ?hole80 ?hole81 ?hole82 ?hole83 ?hole84 ?hole85 ?hole86 ?hole87 ?hole88 ?hole89 ?hole90 ?hole91 ?hole92 ?hole93 ?hole94 ?hole95 ?hole96 ?hole97 ?hole98 ?hole99 ?hole100 ?hole101 ?hole102 ?hole103 ?hole104 ?hole105 ?hole106 ?hole107 ?hole108 ?hole109 ?hole110 ?hole111 ?hole112 ?hole113 ?hole114 ?hole115 ?hole116 ?hole117 ?hole118 ?hole119 ?hole120 ?hole121 ?hole122 ?hole123 ?hole124 ?hole125 ?hole126 ?hole127 ?hole128 ?hole129 ?hole130 ?hole131 ?hole132 ?hole133 ?hole134 ?hole135 ?hole136 ?hole137 ?hole138 ?hole139 ?hole140 ?hole141 ?hole142 ?hole143 ?hole144 ?hole145 ?hole146 ?hole147 ?hole148 ?hole149 ?hole150 ?hole151 ?hole152 ?hole153 ?hole154 ?hole155 ?hole156 ?hole157 ?hole158 ?hole159 ?hole160 ?hole161 ?hole162 ?hole163 ?hole164 ?hole165 ?hole166 ?hole167 ?hole168 ?hole169 ?hole170 ?hole171 ?hole172 ?hole173 ?hole174 ?hole175 ?hole176 ?hole177 ?hole178 ?hole179 ?hole180 ?hole181 ?hole182 ?hole183 ?hole184 ?hole185 ?hole186 ?hole187 ?hole188 ?hole189 ?hole190 ?hole191 ?hole192 ?hole193 ?hole194 ?hole195 ?hole196 ?hole197 ?hole198 ?hole199 ?hole200 ?hole201 ?hole202 ?hole203 ?hole204 ?hole205 ?hole206 ?hole207 ?hole208 ?hole209 ?hole210 ?hole211 ?hole212 ?hole213 ?hole214 ?hole215 ?hole216 ?hole217 ?hole218 ?hole219 ?hole220 ?hole221 ?hole222 ?hole223 ?hole224 ?hole225 ?hole226 ?hole227 ?hole228 ?hole229 ?hole230 ?hole231 ?hole232 ?hole233 ?hole234 ?hole235 ?hole236 ?hole237 ?hole238 ?hole239 ?hole240 ?hole241 ?hole242 ?hole243 ?hole244 ?hole245 ?hole246 ?hole247 ?hole248 ?hole249 ?hole250 ?hole251 ?hole252 ?hole253 ?hole254 ?hole255 ?hole256 ?hole257 ?hole258 ?hole259 ?hole260 ?hole261 ?hole262 ?hole263 ?hole264 ?hole265 ?hole266 ?hole267 ?hole268 ?hole269 ?hole270 ?hole271 ?hole272 ?hole273 ?hole274 ?hole275 ?hole276 ?hole277 ?hole278 ?hole279 ?hole280 ?hole281 ?hole282 ?hole283 ?hole284 ?hole285 ?hole286 ?hole287 ?hole288 ?hole289 ?hole290 ?hole291 ?hole292 ?hole293 ?hole294 ?hole295 ?hole296 ?hole297 ?hole298 ?hole299 ?hole300 ?hole301 ?hole302 ?hole303 ?hole304 ?hole305 ?hole306 ?hole307 ?hole308 ?hole309 ?hole310 ?hole311
    (case hole0 => k_is)
    (case hole1 => k_is)
    (case hole2 => k_is)
    (case hole3 => k_is)
    (case hole4 => k_is)
    (case hole5 => k_is)
    (case hole6 => k_is)
    (case hole7 => k_is)
    (case hole8 => k_is)
    (case hole9 => k_is)
    (case hole10 => k_is)
    (case hole11 => k_is)
    (case hole12 => k_is)
    (case hole13 => k_is)
    (case hole14 => k_is)
    (case hole15 => k_is)
    (case hole16 => k_is)
    (case hole17 => k_is)
    (case hole18 => k_is)
    (case hole19 => k_is)
    (case hole20 => k_is)
    (case hole21 => k_is)
    (case hole22 => k_is)
    (case hole23 => k_is)
    (case hole24 => k_is)
    (case hole25 => k_is)
    (case hole26 => k_is)
    (case hole27 => k_is)
    (case hole28 => k_is)
    (case hole29 => k_is)
    (case hole30 => k_is)
    (case hole31 => k_is)
    (case hole32 => k_is)
    (case hole33 => k_is)
    (case hole34 => k_is)
    (case hole35 => k_is)
    (case hole36 => k_is)
    (case hole37 => k_is)
    (case hole38 => k_is)
    (case hole39 => k_is)
    (case hole40 => k_is)
    (case hole41 => k_is)
    (case hole42 => k_is)
    (case hole43 => k_is)
    (case hole44 => k_is)
    (case hole45 => k_is)
    (case hole46 => k_is)
    (case hole47 => k_is)
    (case hole48 => k_is)
    (case hole49 => k_is)
    (case hole50 => k_is)
    (case hole51 => k_is)
    (case hole52 => k_is)
    (case hole53 => k_is)
    (case hole54 => k_is)
    (case hole55 => k_is)
    (case hole56 => k_is)
    (case hole57 => k_is)
    (case hole58 => k_is)
    (case hole59 => k_is)
    (case hole60 => k_is)
    (case hole61 => k_is)
    (case hole62 => k_is)
    (case hole63 => k_is)
    (case hole64 => k_is)
    (case hole65 => k_is)
    (case hole66 => k_is)
    (case hole67 => k_is)
    (case hole68 => k_is)
    (case hole69 => k_is)
    (case hole70 => k_is)
    (case hole71 => k_is)
    (case hole72 => k_is)
    (case hole73 => rfl)
    (case hole74 => k_is)
    (case hole75 => k_is)
    (case hole76 => k_is)
    (case hole77 => k_is)
    (case hole78 => k_is)
    (case hole79 => k_is)
    (case hole80 => k_is)
    (case hole81 => k_is)
    (case hole82 => k_is)
    (case hole83 => k_is)
    (case hole84 => k_is)
    (case hole85 => k_is)
    (case hole86 => k_is)
    (case hole87 => k_is)
    (case hole88 => k_is)
    (case hole89 => k_is)
    (case hole90 => k_is)
    (case hole91 => k_is)
    (case hole92 => k_is)
    (case hole93 => k_is)
    (case hole94 => k_is)
    (case hole95 => k_is)
    (case hole96 => k_is)
    (case hole97 => k_is)
    (case hole98 => k_is)
    (case hole99 => k_is)
    (case hole100 => k_is)
    (case hole101 => k_is)
    (case hole102 => rfl)
    (case hole103 => k_is)
    (case hole104 => k_is)
    (case hole105 => k_is)
    (case hole106 => k_is)
    (case hole107 => k_is)
    (case hole108 => k_is)
    (case hole109 => k_is)
    (case hole110 => k_is)
    (case hole111 => k_is)
    (case hole112 => k_is)
    (case hole113 => k_is)
    (case hole114 => k_is)
    (case hole115 => k_is)
    (case hole116 => k_is)
    (case hole117 => k_is)
    (case hole118 => k_is)
    (case hole119 => k_is)
    (case hole120 => k_is)
    (case hole121 => k_is)
    (case hole122 => k_is)
    (case hole123 => k_is)
    (case hole124 => k_is)
    (case hole125 => k_is)
    (case hole126 => k_is)
    (case hole127 => k_is)
    (case hole128 => k_is)
    (case hole129 => k_is)
    (case hole130 => k_is)
    (case hole131 => k_is)
    (case hole132 => k_is)
    (case hole133 => k_is)
    (case hole134 => k_is)
    (case hole135 => k_is)
    (case hole136 => rfl)
    (case hole137 => k_is)
    (case hole138 => k_is)
    (case hole139 => k_is)
    (case hole140 => k_is)
    (case hole141 => k_is)
    (case hole142 => k_is)
    (case hole143 => k_is)
    (case hole144 => k_is)
    (case hole145 => k_is)
    (case hole146 => k_is)
    (case hole147 => k_is)
    (case hole148 => k_is)
    (case hole149 => k_is)
    (case hole150 => k_is)
    (case hole151 => k_is)
    (case hole152 => k_is)
    (case hole153 => k_is)
    (case hole154 => k_is)
    (case hole155 => k_is)
    (case hole156 => k_is)
    (case hole157 => k_is)
    (case hole158 => k_is)
    (case hole159 => k_is)
    (case hole160 => k_is)
    (case hole161 => k_is)
    (case hole162 => rfl)
    (case hole163 => k_is)
    (case hole164 => k_is)
    (case hole165 => k_is)
    (case hole166 => k_is)
    (case hole167 => k_is)
    (case hole168 => k_is)
    (case hole169 => k_is)
    (case hole170 => k_is)
    (case hole171 => k_is)
    (case hole172 => k_is)
    (case hole173 => k_is)
    (case hole174 => k_is)
    (case hole175 => k_is)
    (case hole176 => k_is)
    (case hole177 => k_is)
    (case hole178 => k_is)
    (case hole179 => k_is)
    (case hole180 => k_is)
    (case hole181 => k_is)
    (case hole182 => k_is)
    (case hole183 => k_is)
    (case hole184 => k_is)
    (case hole185 => k_is)
    (case hole186 => k_is)
    (case hole187 => k_is)
    (case hole188 => k_is)
    (case hole189 => k_is)
    (case hole190 => k_is)
    (case hole191 => k_is)
    (case hole192 => rfl)
    (case hole193 => k_is)
    (case hole194 => k_is)
    (case hole195 => k_is)
    (case hole196 => k_is)
    (case hole197 => k_is)
    (case hole198 => k_is)
    (case hole199 => k_is)
    (case hole200 => k_is)
    (case hole201 => k_is)
    (case hole202 => k_is)
    (case hole203 => k_is)
    (case hole204 => k_is)
    (case hole205 => k_is)
    (case hole206 => k_is)
    (case hole207 => k_exc)
    (case hole208 => kit_is)
    (case hole209 => kit_is)
    (case hole210 => kit_is)
    (case hole211 => kit_is)
    (case hole212 => kit_is)
    (case hole213 => kit_is)
    (case hole214 => kit_is)
    (case hole215 => kit_is)
    (case hole216 => kit_is)
    (case hole217 => kit_is)
    (case hole218 => kit_is)
    (case hole219 => kit_is)
    (case hole220 => kit_is)
    (case hole221 => kit_is)
    (case hole222 => kit_is)
    (case hole223 => kit_is)
    (case hole224 => kit_is)
    (case hole225 => kit_is)
    (case hole226 => kit_is)
    (case hole227 => kit_is)
    (case hole228 => kit_is)
    (case hole229 => kit_is)
    (case hole230 => kit_is)
    (case hole231 => kit_is)
    (case hole232 => kit_is)
    (case hole233 => kit_is)
    (case hole234 => kit_is)
    (case hole235 => kit_is)
    (case hole236 => kit_is)
    (case hole237 => kit_is)
    (case hole238 => kit_is)
    (case hole239 => kit_is)
    (case hole240 => kit_is)
    (case hole241 => kit_is)
    (case hole242 => kit_is)
    (case hole243 => kit_is)
    (case hole244 => kit_is)
    (case hole245 => kit_is)
    (case hole246 => kit_is)
    (case hole247 => kit_is)
    (case hole248 => kit_is)
    (case hole249 => kit_is)
    (case hole250 => kit_is)
    (case hole251 => kit_is)
    (case hole252 => kit_is)
    (case hole253 => kit_is)
    (case hole254 => kit_is)
    (case hole255 => kit_is)
    (case hole256 => kit_is)
    (case hole257 => kit_is)
    (case hole258 => kit_is)
    (case hole259 => kit_is)
    (case hole260 => kit_is)
    (case hole261 => kit_is)
    (case hole262 => kit_is)
    (case hole263 => kit_is)
    (case hole264 => kit_is)
    (case hole265 => kit_is)
    (case hole266 => kit_is)
    (case hole267 => kit_is)
    (case hole268 => kit_is)
    (case hole269 => kit_is)
    (case hole270 => kit_is)
    (case hole271 => kit_is)
    (case hole272 => kit_is)
    (case hole273 => kit_is)
    (case hole274 => kit_is)
    (case hole275 => kit_is)
    (case hole276 => kit_is)
    (case hole277 => kit_is)
    (case hole278 => kit_is)
    (case hole279 => kit_is)
    (case hole280 => kit_is)
    (case hole281 => kit_is)
    (case hole282 => kit_is)
    (case hole283 => kit_is)
    (case hole284 => kit_is)
    (case hole285 => kit_is)
    (case hole286 => kit_is)
    (case hole287 => kit_is)
    (case hole288 => kit_is)
    (case hole289 => kit_is)
    (case hole290 => kit_is)
    (case hole291 => kit_is)
    (case hole292 => kit_is)
    (case hole293 => kit_is)
    (case hole294 => kit_is)
    (case hole295 => kit_is)
    (case hole296 => kit_is)
    (case hole297 => kit_is)
    (case hole298 => kit_is)
    (case hole299 => kit_is)
    (case hole300 => kit_is)
    (case hole301 => kit_is)
    (case hole302 => kit_is)
    (case hole303 => kit_is)
    (case hole304 => k_is)
    (case hole305 => k_is)
    (case hole306 => k_is)
    (case hole307 => k_is)
    (case hole308 => k_is)
    (case hole309 => k_is)
    (case hole310 => k_is)
    (case hole311 => k_is)
#print axioms PySem.Challenge.cw_gainstream_k09_ways_of_a_turn_holds
