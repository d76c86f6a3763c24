import PyProof.Rows.All
import Wide.All
import OpenK.AllK
import Wide.FinOn
import Lean
import PyProof.EqAt
import PyProof.EqKinds
import PyProof.TupleCall
import PySem.Challenge.RW_gainstream_k30_rings_that_were_built
set_option Elab.async false
set_option linter.all false
set_option maxRecDepth 100000
/-! THE HAND LAYER, for ints, bools, texts, own classes, LISTS and tuples (index, slices, in, append, pop ..), calls, loops. Paste it whole ahead of your own text; what your proof does not reach may be deleted. -/
namespace L2
open PySem PySem.Spec PyProof.Rows

/-- a key: an int or a str -/
abbrev Key := Sum Int Str
def keyIs : Key → Value → Bool
  | .inl k, v => Value.isInt k v
  | .inr x, v => Value.isStrOf x v
def keyH (w : World) : Key → Int
  | .inl k => hashInt k
  | .inr x => hashStr w x
theorem keyIs_shape : ∀ {k : Key} {v : Value}, keyIs k v = true → (∃ i t, k = Sum.inl i ∧ v = Value.int i t) ∨ (∃ x t, k = Sum.inr x ∧ v = Value.str x t)
  | .inl i, v, h => by
    obtain ⟨t, e⟩ := Value.isInt_shape (k := i) (v := v) h
    exact .inl ⟨i, t, rfl, e⟩
  | .inr x, v, h => by
    obtain ⟨t, e⟩ := Value.isStrOf_shape (x := x) (v := v) h
    exact .inr ⟨x, t, rfl, e⟩
theorem keyIs_int (i : Int) (t : Tok) : keyIs (.inl i) (.int i t) = true := by simp [keyIs, Value.isInt]
theorem keyIs_str (x : Str) (t : Tok) : keyIs (.inr x) (.str x t) = true := by simp [keyIs, Value.isStrOf]
theorem key_ll (a b : Int) : decide ((Sum.inl a : Key) = Sum.inl b) = (a == b) := by
  by_cases e : a = b
  · subst e; simp
  · have h : ¬ (Sum.inl a : Key) = Sum.inl b := fun q => e (Sum.inl.inj q)
    rw [decide_eq_false h]
    exact (beq_eq_false_iff_ne.mpr e).symm
theorem key_rr (a b : Str) : decide ((Sum.inr a : Key) = Sum.inr b) = decide (a = b) := by
  by_cases e : a = b
  · subst e; simp
  · have h : ¬ (Sum.inr a : Key) = Sum.inr b := fun q => e (Sum.inr.inj q)
    rw [decide_eq_false h, decide_eq_false e]
theorem key_lr (a : Int) (b : Str) : decide ((Sum.inl a : Key) = Sum.inr b) = false := decide_eq_false (fun q => nomatch q)
theorem key_rl (a : Str) (b : Int) : decide ((Sum.inr a : Key) = Sum.inl b) = false := decide_eq_false (fun q => nomatch q)

def mixKind (prog : Program) (w : World) : PySem.KeyKind prog w Key where
  is := keyIs
  hash := keyH w
  inj := fun v a b ha hb => by
    rcases keyIs_shape ha with ⟨i, t, rfl, rfl⟩ | ⟨x, t, rfl, rfl⟩
    · rcases keyIs_shape hb with ⟨j, u, rfl, e⟩ | ⟨y, u, rfl, e⟩
      · injection e with e1 _; rw [e1]
      · exact nomatch e
    · rcases keyIs_shape hb with ⟨j, u, rfl, e⟩ | ⟨y, u, rfl, e⟩
      · exact nomatch e
      · injection e with e1 _; rw [e1]
  byValue := fun k v h => by
    rcases keyIs_shape h with ⟨i, t, rfl, rfl⟩ | ⟨x, t, rfl, rfl⟩ <;> rfl
  pyHash := fun hv h => by
    rcases keyIs_shape hv with ⟨i, t, rfl, rfl⟩ | ⟨x, t, rfl, rfl⟩
    · exact wpAny_pyHash_int h
    · exact wpAny_pyHash_str h
  eqBool := fun hu hv h => by
    rcases keyIs_shape hu with ⟨i, t, rfl, rfl⟩ | ⟨x, t, rfl, rfl⟩
    · rcases keyIs_shape hv with ⟨j, u, rfl, rfl⟩ | ⟨y, u, rfl, rfl⟩
      · rw [key_ll] at h; exact wpAny_eqBool_int h
      · rw [key_lr] at h; exact SeqAt.EqAt.int_str i t y u _ _ _ _ h
    · rcases keyIs_shape hv with ⟨j, u, rfl, rfl⟩ | ⟨y, u, rfl, rfl⟩
      · rw [key_rl] at h; exact SeqAt.EqAt.str_int x t j u _ _ _ _ h
      · rw [key_rr] at h; exact wpAny_eqBool_str h
  «strs» := fun k x t v h => by
    rcases keyIs_shape h with ⟨i, u, rfl, e⟩ | ⟨y, u, rfl, e⟩
    · exact nomatch e
    · injection e with e1 _
      subst e1
      cases v <;> rfl

theorem mixKind_int (prog : Program) (w : World) (i : Int) (t : Tok) : (mixKind prog w).is (.inl i) (.int i t) = true := keyIs_int i t
theorem mixKind_str (prog : Program) (w : World) (x : Str) (t : Tok) : (mixKind prog w).is (.inr x) (.str x t) = true := keyIs_str x t
end L2

namespace L2
open PySem PySem.Spec PyProof.Rows

/-- a value, without the heap -/
inductive V where
  | non | bl (b : Bool) | int (i : Int) | str (x : Str) | byt (b : Array UInt8) | flt (b : UInt64) | ref (a : Addr) | ty (n : String)
  deriving DecidableEq

def RelV : V → Value → Prop
  | .non, u => u = Value.none
  | .bl b, u => u = Value.bool b
  | .int i, u => ∃ t, u = Value.int i t
  | .str x, u => ∃ t, u = Value.str x t
  | .byt b, u => ∃ t, u = Value.bytes b t
  | .flt b, u => ∃ t, u = Value.float b t
  | .ref a, u => u = Value.ref a
  | .ty n, u => u = Value.type n

abbrev Vals : List V → List Value → Prop := Paired RelV
theorem Vals.length {xs : List V} {us : List Value} (r : Vals xs us) : xs.length = us.length := Paired.length r
theorem Vals.get : ∀ {xs : List V} {us : List Value} {i : Nat} {x : V}, Vals xs us → xs[i]? = some x → ∃ u, us[i]? = some u ∧ RelV x u
  | _, _, _, _, .nil, e => by simp at e
  | _, _, 0, _, .cons r _, e => by simp at e; subst e; exact ⟨_, rfl, r⟩
  | _, _, i + 1, x, .cons _ t, e => by
    obtain ⟨u, h1, h2⟩ := Vals.get (i := i) (x := x) t (by simpa using e)
    exact ⟨u, by simpa using h1, h2⟩
theorem Vals.append : ∀ {xs ys : List V} {us ws : List Value}, Vals xs us → Vals ys ws → Vals (xs ++ ys) (us ++ ws)
  | _, _, _, _, .nil, s => s
  | _, _, _, _, .cons r t, s => .cons r (Vals.append t s)
theorem Vals.take : ∀ {xs : List V} {us : List Value} (n : Nat), Vals xs us → Vals (xs.take n) (us.take n)
  | _, _, 0, _ => .nil
  | _, _, _ + 1, .nil => .nil
  | _, _, n + 1, .cons r t => .cons r (Vals.take n t)
theorem Vals.drop : ∀ {xs : List V} {us : List Value} (n : Nat), Vals xs us → Vals (xs.drop n) (us.drop n)
  | _, _, 0, r => r
  | _, _, _ + 1, .nil => .nil
  | _, _, n + 1, .cons _ t => Vals.drop n t

def RelO : Option V → Option Value → Prop
  | some v, some u => RelV v u
  | none, none => True
  | _, _ => False
def KV {κ : Type} : List (κ × V) → List (κ × Value) → Prop := Paired fun (p : κ × V) (q : κ × Value) => p.1 = q.1 ∧ RelV p.2 q.2

/-- a key of a dict (00_mix): an int or a text -/
def kV : Key → V
  | .inl i => .int i
  | .inr x => .str x

/-- what stands at a tracked address -/
inductive HO where
  /-- a list -/
  | lst (xs : List V)
  /-- a tuple (never changes) -/
  | tup (xs : List V)
  /-- a dict whose keys are ints and texts; one whose keys are tuples of ints and texts (the empty one is both) -/
  | dK (kvs : List (Key × V)) | dT (kvs : List (List Key × V))
  /-- a set of ints: its members, its size -/
  | set (S : Int → Bool) (n : Nat)
  /-- an instance of the class at C, its dict at dx, its attributes -/
  | ins (C dx : Addr) (fs : List (Str × V))
  /-- the dict of the instance at x -/
  | own (x : Addr)
  /-- the dict of an exception -/
  | xd (fs : List (Str × V))
  /-- a bound method, f of x -/
  | met (f x : Addr)
  /-- a range object lo, lo + 1, .. below hi -/
  | rng (lo hi : Int)
  /-- a thing that is known to the object (the script; a dict while a loop walks it): read, never written while it is so -/
  | frz (o : Obj) (u : HO)
  /-- a code object's table -/
  | tbl (ps : Array Value)
  /-- any other thing, by what is true of its one object (a def of one's own: SetO a S n := HO.ext fun h => ..) -/
  | ext (φ : Heap → Prop)

abbrev Hp := Addr → Option HO
def upd (H : Hp) (a : Addr) (o : HO) : Hp := fun b => if b = a then some o else H b
theorem upd_same {H : Hp} {a : Addr} {o : HO} : upd H a o a = some o := by unfold upd; rw [if_pos rfl]
theorem upd_ne {H : Hp} {a b : Addr} {o : HO} (h : b ≠ a) : upd H a o b = H b := by unfold upd; rw [if_neg h]
theorem upd_upd {H : Hp} {a : Addr} {o u : HO} : upd (upd H a o) a u = upd H a u := by
  funext b; unfold upd; split <;> rfl
/-- two objects of different content stand apart -/
theorem ne_of {H : Hp} {a b : Addr} {o u : HO} (h : H a = some o) (h' : H b = some u) (d : o ≠ u) : a ≠ b := by
  intro e; subst e; rw [h] at h'; exact d (Option.some.inj h')
theorem ne_of_none {H : Hp} {a b : Addr} {o : HO} (h : H a = some o) (h' : H b = none) : a ≠ b := by
  intro e; subst e; rw [h] at h'; cases h'

section
variable (P : Program) (w : World)
def ObjOk (H : Hp) (h : Heap) (a : Addr) : HO → Prop
  | .lst xs => xs.length ≤ sizeLine ∧ ∃ (its : List Value) (n : Nat), Vals xs its ∧ h.get? a = some { cls := .type "list", data := .seq its.toArray n }
  | .tup xs => xs.length ≤ sizeLine ∧ ∃ its : List Value, Vals xs its ∧ IsTup h a its.toArray
  | .dK kvs => kvs.length ≤ sizeLine ∧ (a == sysModules) = false ∧ ∃ vs, KV kvs vs ∧ h.DictOf (mixKind P w) a vs
  | .dT kvs => kvs.length ≤ sizeLine ∧ (a == sysModules) = false ∧ ∃ xs : List (List Key × Addr × Value),
      Paired (fun (p : List Key × V) (q : List Key × Addr × Value) => p.1 = q.1 ∧ H q.2.1 = some (.tup (p.1.map kV)) ∧ RelV p.2 q.2.2) kvs xs ∧
      ∃ o es ep, h.get? a = some o ∧ o.ExactDict ∧ o.data = .dict es ep ∧ es.toList = xs.map (entryOfKey (tupleKind (mixKind P w))) ∧ (xs.map (·.1)).Nodup
  | .set S n => h.SetOf (intKind P w) a S n
  | .ins C dx fs => H dx = some (.own a) ∧ fs.length ≤ 1000 ∧ dx ≠ a ∧ h.get? a = some (PySem.W.instObj C dx) ∧
      ∃ mA, h.Ns1 dx mA ∧ (∀ f, RelO (fs.lookup f) (mA f)) ∧ PySem.Within mA (fs.map (·.1))
  | .own _ => ∃ o, h.get? a = some o
  | .xd fs => ∃ mA, h.Ns1 a mA ∧ ∀ f, RelO (fs.lookup f) (mA f)
  | .rng lo hi => ∃ t u v, h.get? a = some { cls := .type "range", data := .fields #[.int lo t, .int hi u, .int 1 v] }
  | .frz o u => h.get? a = some o ∧ ObjOk H h a u
  | .tbl ps => h.get? a = some { cls := .none, data := .fields ps }
  | .met f x => h.get? a = some (PySem.W.methodObj (.ref f) (.ref x))
  | .ext φ => φ h ∧ (∃ o, h.get? a = some o) ∧ ∀ h1 h2 : Heap, φ h1 → (∀ o, h1.get? a = some o → h2.get? a = some o) → φ h2
/-- the abstract heap is held -/
def HOk (H : Hp) (h : Heap) : Prop := ∀ a o, H a = some o → ObjOk P w H h a o
end

section
variable {P : Program} {w : World} {H H' : Hp} {h h' : Heap} {a : Addr} {o : HO}
theorem ObjOk.lt (x : ObjOk P w H h a o) : a < h.objs.size := by
  cases o with
  | lst xs => obtain ⟨_, _, _, _, e⟩ := x; exact Heap.lt_size e
  | tup xs => obtain ⟨_, _, _, p⟩ := x; exact p.lt
  | dK kvs => obtain ⟨_, _, _, _, o, _, _, e, _⟩ := x; exact Heap.lt_size e
  | dT kvs => obtain ⟨_, _, _, _, o, _, _, e, _⟩ := x; exact Heap.lt_size e
  | set S n => obtain ⟨o, _, _, _, e, _⟩ := x; exact Heap.lt_size e
  | ins C dx fs => obtain ⟨_, _, _, e, _⟩ := x; exact Heap.lt_size e
  | own y => obtain ⟨_, e⟩ := x; exact Heap.lt_size e
  | xd fs => obtain ⟨_, ⟨_, _, _, e, _⟩, _⟩ := x; exact Heap.lt_size e
  | rng lo hi => obtain ⟨_, _, _, e⟩ := x; exact Heap.lt_size e
  | frz ob u => obtain ⟨e, _⟩ := x; exact Heap.lt_size e
  | tbl ps => exact Heap.lt_size (show h.get? a = some _ from x)
  | met f y => exact Heap.lt_size (show h.get? a = some _ from x)
  | ext φ => obtain ⟨_, ⟨_, e⟩, _⟩ := x; exact Heap.lt_size e
theorem Paired.mapP {α β : Type} {F G : α → β → Prop} : ∀ {l₁ : List α} {l₂ : List β}, Paired F l₁ l₂ → (∀ a b, F a b → G a b) → Paired G l₁ l₂
  | _, _, .nil, _ => .nil
  | _, _, .cons r t, f => .cons (f _ _ r) (Paired.mapP t f)
/-- what an object's description leans on: its own object, its own dict, the tuples -/
theorem ObjOk.stay (x : ObjOk P w H h a o) (k : ∀ b u, (b = a ∨ H b = some (.own a)) → h.get? b = some u → h'.get? b = some u)
    (ho : ∀ b, H b = some (.own a) → H' b = some (.own a)) (ht : ∀ b xs, H b = some (.tup xs) → H' b = some (.tup xs)) : ObjOk P w H' h' a o := by
  induction o with
  | lst xs => obtain ⟨z, its, n, r, e⟩ := x; exact ⟨z, its, n, r, k _ _ (.inl rfl) e⟩
  | tup xs => obtain ⟨z, its, r, ob, e, c⟩ := x; exact ⟨z, its, r, ob, k _ _ (.inl rfl) e, c⟩
  | dK kvs => obtain ⟨z, y, vs, r, ob, es, ep, e, c⟩ := x; exact ⟨z, y, vs, r, ob, es, ep, k _ _ (.inl rfl) e, c⟩
  | dT kvs =>
    obtain ⟨z, y, xs, r, ob, es, ep, e, c⟩ := x
    exact ⟨z, y, xs, Paired.mapP r fun p q z => ⟨z.1, ht _ _ z.2.1, z.2.2⟩, ob, es, ep, k _ _ (.inl rfl) e, c⟩
  | set S n => obtain ⟨ob, es, ep, t, e, c⟩ := x; exact ⟨ob, es, ep, t, k _ _ (.inl rfl) e, c⟩
  | ins C dx fs =>
    obtain ⟨d, z, ne, e, mA, ⟨od, es, ep, e2, c⟩, r⟩ := x
    exact ⟨ho _ d, z, ne, k _ _ (.inl rfl) e, mA, ⟨od, es, ep, k _ _ (.inr d) e2, c⟩, r⟩
  | own y => obtain ⟨ob, e⟩ := x; exact ⟨ob, k _ _ (.inl rfl) e⟩
  | xd fs => obtain ⟨mA, ⟨od, es, ep, e, c⟩, r⟩ := x; exact ⟨mA, ⟨od, es, ep, k _ _ (.inl rfl) e, c⟩, r⟩
  | rng lo hi => obtain ⟨t, u, v, e⟩ := x; exact ⟨t, u, v, k _ _ (.inl rfl) e⟩
  | frz ob u ih => obtain ⟨e, q⟩ := x; exact ⟨k _ _ (.inl rfl) e, ih q⟩
  | tbl ps =>
    have e : h.get? a = some { cls := .none, data := .fields ps } := x
    show h'.get? a = some { cls := .none, data := .fields ps }
    exact k a _ (.inl rfl) e
  | met f y =>
    have e : h.get? a = some (PySem.W.methodObj (.ref f) (.ref y)) := x
    show h'.get? a = some (PySem.W.methodObj (.ref f) (.ref y))
    exact k a _ (.inl rfl) e
  | ext φ => obtain ⟨p, ⟨o, e⟩, st⟩ := x; exact ⟨st _ _ p fun o q => k _ _ (.inl rfl) q, ⟨o, k _ _ (.inl rfl) e⟩, st⟩
theorem HOk.lt (x : HOk P w H h) (e : H a = some o) : a < h.objs.size := (x a o e).lt
theorem HOk.fresh (x : HOk P w H h) (e : h.objs.size ≤ a) : H a = none := by
  cases q : H a with
  | none => rfl
  | some u => exact absurd (Nat.lt_of_lt_of_le (x.lt q) e) (Nat.lt_irrefl _)
/-- every object of the heap is kept -/
theorem HOk.kept (x : HOk P w H h) (k : ∀ b u, h.get? b = some u → h'.get? b = some u) : HOk P w H h' := fun a o e =>
  (x a o e).stay (fun b u _ q => k b u q) (fun _ q => q) fun _ _ q => q
/-- a new object is laid and tracked -/
theorem HOk.laid (x : HOk P w H h) (k : ∀ b u, h.get? b = some u → h'.get? b = some u) (hp : h.objs.size ≤ a) (new : ObjOk P w (upd H a o) h' a o) : HOk P w (upd H a o) h' := fun b u e => by
  have hn := x.fresh hp
  by_cases hb : b = a
  · subst hb; rw [upd_same] at e; cases e; exact new
  · rw [upd_ne hb] at e
    exact (x b u e).stay (fun c v _ q => k c v q) (fun c q => by rw [upd_ne (ne_of_none q hn)]; exact q) fun c xs q => by rw [upd_ne (ne_of_none q hn)]; exact q
end

/-- what may be read as u: it is u, or a known u -/
def Rd (H : Hp) (a : Addr) (u : HO) : Prop := H a = some u ∨ ∃ o, H a = some (.frz o u)
theorem Rd.ok {P : Program} {w : World} {H : Hp} {h : Heap} {a : Addr} {u : HO} (r : Rd H a u) (x : HOk P w H h) : ObjOk P w H h a u := by
  rcases r with r | ⟨o, r⟩
  · exact x a u r
  · obtain ⟨_, q⟩ := x a _ r
    exact q
/-- what may be written -/
def Mut : Option HO → Prop
  | some (.lst _) => True
  | some (.dK _) => True
  | some (.dT _) => True
  | some (.set _ _) => True
  | some (.ins _ _ _) => True
  | some (.ext _) => True
  | _ => False
section
variable {P : Program} {w : World} {H : Hp} {h h' : Heap} {x e : Addr} {o' : HO}
/-- the object at e is changed: x itself, or the dict of the instance x -/
theorem HOk.write (ok : HOk P w H h) (mu : Mut (H x)) (he : e = x ∨ H e = some (.own x)) (k : ∀ b u, b ≠ e → h.get? b = some u → h'.get? b = some u) (heo : ∃ u, h'.get? e = some u)
    (new : ObjOk P w (upd H x o') h' x o') : HOk P w (upd H x o') h' := fun b u q => by
  have nown : ∀ c y, H c = some (.own y) → c ≠ x := fun c y r z => by subst z; rw [r] at mu; exact mu
  have ntup : ∀ c xs, H c = some (.tup xs) → c ≠ x := fun c xs r z => by subst z; rw [r] at mu; exact mu
  by_cases hb : b = x
  · subst hb; rw [upd_same] at q; cases q; exact new
  · rw [upd_ne hb] at q
    by_cases hbe : b = e
    · have q' : H b = some (.own x) := by
        rcases he with z | z
        · exact absurd (hbe.trans z) hb
        · rw [hbe]; exact z
      rw [q] at q'; cases q'
      obtain ⟨v, hv⟩ := heo
      exact ⟨v, by rw [hbe]; exact hv⟩
    · refine (ok b u q).stay (fun c v hc r => k c v ?_ r) (fun c r => by rw [upd_ne (nown c b r)]; exact r) fun c xs r => by rw [upd_ne (ntup c xs r)]; exact r
      rcases hc with rfl | hc
      · exact hbe
      · rintro rfl
        rcases he with z | z
        · exact nown c b hc z
        · rw [hc] at z; cases z; exact hb rfl
end

/-! ### kept unless tracked; of the frames at fs (the callers') the slots may change (an exception that passes writes there); of the records at ex (iterators) nothing is said -/
structure Un (fs ex : List Addr) (H H' : Hp) (h h' : Heap) : Prop where
  keep : ∀ b o, h.get? b = some o → H b = none → b ∉ fs → b ∉ ex → h'.get? b = some o
  slot : ∀ b o, h.get? b = some o → H b = none → b ∈ fs → b ∉ ex → ∃ sl, h'.get? b = some { o with slots := sl }
  free : ∀ b o, h.get? b = some o → H b = none → b ∉ ex → H' b = none
  there : ∀ b o, h.get? b = some o → b ∉ ex → ∃ o', h'.get? b = some o'
  tups : ∀ b xs, H b = some (.tup xs) → H' b = some (.tup xs)
  frzs : ∀ b o u, H b = some (.frz o u) → H' b = some (.frz o u)
  tbls : ∀ b ps, H b = some (.tbl ps) → ∃ more, H' b = some (.tbl (ps ++ more))
section
variable {fs fs' ex ex' : List Addr} {H H1 H2 : Hp} {h h1 h2 h' : Heap} {a x e : Addr} {o : HO}
theorem Un.any (u : Un fs ex H H1 h h1) {b : Addr} {ob : Obj} (q : h.get? b = some ob) (n : H b = none) (hx : b ∉ ex) : ∃ sl, h1.get? b = some { ob with slots := sl } := by
  by_cases hb : b ∈ fs
  · exact u.slot b ob q n hb hx
  · exact ⟨ob.slots, u.keep b ob q n hb hx⟩
theorem Un.kept (k : ∀ b u, h.get? b = some u → h'.get? b = some u) : Un fs ex H H h h' :=
  ⟨fun b ob q _ _ _ => k b ob q, fun b ob q _ _ _ => ⟨ob.slots, k b ob q⟩, fun _ _ _ n _ => n, fun b ob q _ => ⟨ob, k b ob q⟩, fun _ _ q => q, fun _ _ _ q => q, fun _ ps q => ⟨#[], by rw [q]; simp⟩⟩
theorem Un.refl : Un fs ex H H h h := Un.kept fun _ _ q => q
theorem Un.laid (k : ∀ b u, h.get? b = some u → h'.get? b = some u) (hp : h.objs.size ≤ a) (hn : H a = none) : Un fs ex H (upd H a o) h h' where
  keep := fun b u q _ _ _ => k b u q
  slot := fun b u q _ _ _ => ⟨u.slots, k b u q⟩
  free := fun b u q n _ => by rw [upd_ne (Nat.ne_of_lt (Nat.lt_of_lt_of_le (Heap.lt_size q) hp))]; exact n
  there := fun b u q _ => ⟨u, k b u q⟩
  tups := fun b xs q => by rw [upd_ne (ne_of_none q hn)]; exact q
  frzs := fun b u xs q => by rw [upd_ne (ne_of_none q hn)]; exact q
  tbls := fun b ps q => ⟨#[], by rw [upd_ne (ne_of_none q hn), q]; simp⟩
theorem Un.write (mu : Mut (H x)) (he : e = x ∨ H e = some (.own x)) (k : ∀ b u, b ≠ e → h.get? b = some u → h'.get? b = some u) (heo : ∃ u, h'.get? e = some u) : Un fs ex H (upd H x o) h h' := by
  have hx : ∀ b, H b = none → b ≠ x := fun b n z => by subst z; rw [n] at mu; exact mu
  have hb : ∀ b, H b = none → b ≠ e := fun b n z => by
    subst z
    rcases he with r | r
    · exact hx b n r
    · rw [n] at r; cases r
  have hm : ∀ b u, H b = some u → ¬ Mut (some u) → b ≠ x := fun b u q nm z => by subst z; rw [q] at mu; exact nm mu
  refine ⟨fun b u q n _ _ => k b u (hb b n) q, fun b u q n _ _ => ⟨u.slots, k b u (hb b n) q⟩, fun b u q n _ => by rw [upd_ne (hx b n)]; exact n, fun b u q _ => ?_,
    fun b xs q => by rw [upd_ne (hm b _ q fun z => z)]; exact q, fun b u xs q => by rw [upd_ne (hm b _ q fun z => z)]; exact q, fun b ps q => ⟨#[], by rw [upd_ne (hm b _ q fun z => z), q]; simp⟩⟩
  by_cases hbe : b = e
  · subst hbe; exact heo
  · exact ⟨u, k b u hbe q⟩
end

/-! ### the heap without what is tracked -/
def trk (h : Heap) (H : Hp) : List Addr := (List.range h.objs.size).filter fun a => (H a).isSome
def hidT (h : Heap) (H : Hp) : Heap := PySem.W.hideAll h (trk h H)
theorem hidT_size (h : Heap) (H : Hp) : (hidT h H).objs.size = h.objs.size := PySem.W.hideAll_size _ _
theorem hidT_get {h : Heap} {H : Hp} {b : Addr} {o : Obj} (e : h.get? b = some o) (n : H b = none) : (hidT h H).get? b = some o :=
  PySem.W.hideAll_get _ e fun hm => by
    have q : (H b).isSome = true := (List.mem_filter.mp hm).2
    rw [n] at q; simp at q
theorem of_hidT {h : Heap} {H : Hp} {b : Addr} {o : Obj} (e : (hidT h H).get? b = some o) : h.get? b = some o ∧ H b = none := by
  have e' : h.get? b = some o := PySem.W.of_hideAll (trk h H) e
  refine ⟨e', ?_⟩
  cases q : H b with
  | none => rfl
  | some x =>
    have hm : b ∈ trk h H := List.mem_filter.mpr ⟨List.mem_range.mpr (Heap.lt_size e'), by simp [q]⟩
    have z : (hidT h H).get? b = none := PySem.W.hideAll_none (trk h H) hm
    rw [z] at e; cases e

/-! ### OpenK's ledger, filled with every new object but one -/
def allNews (g h : Heap) (L : Addr) : List (Addr × Obj) := (List.range h.objs.size).filterMap fun a => if a = L ∨ (g.get? a).isSome = true then none else (h.get? a).map fun o => (a, o)
def rest (g h : Heap) (L d : Addr) : List (Addr × Obj) := (allNews g h L).filter fun p => decide (p.1 ≠ d)
end L2

namespace L2
open PySem PySem.Spec PyProof.Rows

/-- the module's facts, over the base: the heap at the law's entry without what is tracked there -/
structure Mod (K : PySem.W.Frag) (mg : Str → Option Value) (base : Heap) : Prop where
  kin : K.In base
  glob : base.Ns mainGlobals mg
  blt : ∃ mb, base.Ns builtinsNs mb ∧ ∀ x : Str, x ≠ "__name__" → mb x = bootBuiltins x
  nolimit : base.NoLimit

/-- the context: a def's body (or a comprehension's block) running. base: fixed through the whole law; s₀, H₀: the entry; outer: the frames whose slots others may change (a def's callers); stack: all frames that run;
   ex: iterators that were made ahead of the entry and are walked here (a comprehension's); fn: the names whose cells were made at the entry (a def: all; a comprehension's block: its own); calm: not within an except suite; pn: pins that every state bears; xe: what is wanted of an exception that leaves the code -/
structure Cx where
  prog : Program
  w : World
  K : PySem.W.Frag
  mg : Str → Option Value
  base : Heap
  A : Around
  N : List Str
  s₀ : Shared
  H₀ : Hp
  env : Env
  outer : List Env
  stack : List Env
  ex : List Addr
  fn : Str → Bool
  calm : Bool
  pn : List (Addr × Obj)
  xe : Value → Shared → Prop
/-- the callers' frames -/
def frs (l : List Env) : List Addr := l.filterMap (·.frame)
abbrev Cx.fs (X : Cx) : List Addr := frs X.outer

def Vis (sc : Scope) (x : Str) : Prop := sc.names.lookup x = some .local ∨ sc.names.lookup x = some .cell ∨ sc.names.lookup x = some .free
def Loc (sc : Scope) (x : Str) : Prop := sc.names.lookup x = some .local ∨ sc.names.lookup x = some .cell
def Look (env : Env) (h : Heap) (m : Str → Option Value) (x : Str) (u : Value) : Prop :=
  (env.kindOf x = some .local ∧ m x = some u) ∨ ((env.kindOf x = some .cell ∨ env.kindOf x = some .free) ∧ ∃ c, env.cells.lookup x = some c ∧ h.IsCell c (some u))

structure Cx.Ok (X : Cx) : Prop where
  mod : Mod X.K X.mg X.base
  kind : X.env.scope.kind = .function
  glob : X.env.globals = mainGlobals
  blt : X.env.builtins = builtinsNs
  above : X.s₀.heap.objs.size ≤ X.env.locals
  inj : ∀ x y c, X.env.cells.lookup x = some c → X.env.cells.lookup y = some c → x = y
  has : ∀ x, (X.env.kindOf x = some .cell ∨ X.env.kindOf x = some .free) → ∃ c, X.env.cells.lookup x = some c
  cab : ∀ x c, X.fn x = true → X.env.cells.lookup x = some c → X.s₀.heap.objs.size ≤ c
  hd : X.calm = true → X.A.handled = none
  frames : X.A.frames = some X.stack
  stk : X.stack = X.outer ∨ (X.stack = X.env :: X.outer ∧ X.env.frame = some X.env.locals)
  exf : ∀ b ∈ X.ex, b ≠ X.env.locals ∧ ∀ x c, X.env.cells.lookup x = some c → c ≠ b
  bs : ∀ b o, X.base.get? b = some o → X.s₀.heap.get? b = some o ∧ X.H₀ b = none
  bsz : X.base.objs.size ≤ X.s₀.heap.objs.size
  noex : ∀ b o, X.base.get? b = some o → b ∉ X.ex
  exfs : ∀ b ∈ X.ex, b ∉ X.fs
  funs : X.s₀.heap.FunFrames X.base X.outer
  frf : ∀ b ∈ X.fs, X.H₀ b = none

structure Inv (X : Cx) (pins : List (Addr × Obj)) (σ : List (Option V)) (H : Hp) (s : Shared) : Prop where
  ok : X.Ok
  os : s.os = X.s₀.os
  bare : AllBare s.gens
  base : Un X.fs X.ex X.H₀ H X.s₀.heap s.heap
  loc : ∃ m, s.heap.Ns X.env.locals m ∧ ∀ (i : Nat) (x : Str) (v : V), X.N[i]? = some x → σ[i]? = some (some v) → Vis X.env.scope x → ∃ u, RelV v u ∧ Look X.env s.heap m x u
  cell : ∀ x c, X.env.cells.lookup x = some c → ∃ v, s.heap.IsCell c v
  free : H X.env.locals = none
  freeC : ∀ x c, X.env.cells.lookup x = some c → H c = none
  pin : ∀ p ∈ X.pn ++ pins, s.heap.get? p.1 = some p.2 ∧ H p.1 = none ∧ p.1 ≠ X.env.locals ∧ p.1 ∉ X.fs ∧ ∀ v, p.2.data ≠ .cell v
  hok : HOk X.prog X.w H s.heap
  len : σ.length = X.N.length

section
variable {X : Cx} {pins : List (Addr × Obj)} {σ : List (Option V)} {H H' : Hp} {s : Shared} {h' : Heap}

theorem Cx.Ok.nofr (ok : X.Ok) {b : Addr} {o : Obj} (e : X.base.get? b = some o) : b ∉ X.fs := fun hb => by
  have := (ok.funs.mem hb).1
  rw [e] at this; cases this
theorem Inv.bs (I : Inv X pins σ H s) : ∀ b o, X.base.get? b = some o → s.heap.get? b = some o ∧ H b = none := fun b o e =>
  ⟨I.base.keep b o (I.ok.bs b o e).1 (I.ok.bs b o e).2 (I.ok.nofr e) (I.ok.noex b o e), I.base.free b o (I.ok.bs b o e).1 (I.ok.bs b o e).2 (I.ok.noex b o e)⟩
theorem Inv.bk (I : Inv X pins σ H s) : ∀ b o, X.base.get? b = some o → s.heap.get? b = some o := fun b o e => (I.bs b o e).1
theorem Inv.mod (I : Inv X pins σ H s) : Mod X.K X.mg X.base := I.ok.mod
theorem Inv.kIn (I : Inv X pins σ H s) : X.K.In s.heap := I.ok.mod.kin.keeps I.bk
theorem Inv.lt (I : Inv X pins σ H s) : X.env.locals < s.heap.objs.size := let ⟨_, hn, _⟩ := I.loc; hn.lt
theorem Inv.sz (I : Inv X pins σ H s) : X.s₀.heap.objs.size ≤ s.heap.objs.size := Nat.le_trans I.ok.above (Nat.le_of_lt I.lt)
theorem Inv.nofs (I : Inv X pins σ H s) {a : Addr} (h : s.heap.objs.size ≤ a) : a ∉ X.fs := fun hb => by
  obtain ⟨_, o, ho, _⟩ := I.ok.funs.mem hb
  exact absurd (Nat.lt_of_lt_of_le (Heap.lt_size ho) (Nat.le_trans I.sz h)) (Nat.lt_irrefl _)
theorem Inv.cne (I : Inv X pins σ H s) : ∀ x c, X.env.cells.lookup x = some c → c ≠ X.env.locals := fun x c e z => by
  obtain ⟨v, o, ho, hd⟩ := I.cell x c e
  obtain ⟨m, ⟨o', es, ep, ho', hd', _⟩, _⟩ := I.loc
  rw [z, ho'] at ho; cases ho; rw [hd'] at hd; cases hd
theorem Inv.funs (I : Inv X pins σ H s) : s.heap.FunFrames X.base X.outer := by
  have all : ∀ (l : List Env), (∀ b ∈ frs l, b ∈ X.fs) → X.s₀.heap.FunFrames X.base l → s.heap.FunFrames X.base l := by
    intro l
    induction l with
    | nil => intro _ _; trivial
    | cons env r ih =>
      intro hs hl
      obtain ⟨hk, ⟨L, o, hf, hn, ho, hd⟩, hr⟩ := hl
      have hL : L ∈ X.fs := hs L (by unfold frs; rw [List.filterMap_cons, hf]; exact List.mem_cons_self)
      obtain ⟨sl, e⟩ := I.base.slot L o ho (I.ok.frf L hL) hL fun z => I.ok.exfs L z hL
      exact ⟨hk, ⟨L, _, hf, hn, e, hd⟩, ih (fun b hb => hs b (by unfold frs; rw [List.filterMap_cons, hf]; exact List.mem_cons_of_mem _ hb)) hr⟩
  exact all X.outer (fun _ hb => hb) I.ok.funs

/-- the frames that run, for a call -/
theorem Inv.stack (I : Inv X pins σ H s) : s.heap.FunFrames X.base X.stack := by
  rcases I.ok.stk with e | ⟨e, hf⟩
  · rw [e]; exact I.funs
  · rw [e]
    obtain ⟨m, hn, _⟩ := I.loc
    refine .cons (by rw [I.ok.kind]; decide) hf hn ?_ I.funs
    exact Heap.get?_none_of_le (Nat.le_trans I.ok.bsz I.ok.above)
theorem Inv.stkSub (I : Inv X pins σ H s) : ∀ b ∈ frs X.stack, b ∈ X.env.locals :: X.fs := fun b hb => by
  rcases I.ok.stk with e | ⟨e, hf⟩
  · rw [e] at hb; exact List.mem_cons_of_mem _ hb
  · rw [e] at hb
    unfold frs at hb
    rw [List.filterMap_cons, hf] at hb
    exact hb
theorem Inv.stkFree (I : Inv X pins σ H s) : ∀ b ∈ frs X.stack, H b = none := fun b hb => by
  rcases List.mem_cons.mp (I.stkSub b hb) with e | hb
  · rw [e]; exact I.free
  · obtain ⟨_, o, ho, _⟩ := I.ok.funs.mem hb
    exact I.base.free b o ho (I.ok.frf b hb) fun z => I.ok.exfs b z hb

/-- THE STEP: the untracked objects but the frame and the records at ch are kept (the callers' frames up to slots), the frame's map is kept, the new abstract heap is held -/
theorem Inv.step {g' : Array GenState} {t' : Nat} {d' : Drawn} {ch : List Addr} (I : Inv X pins σ H s)
    (hch : ∀ b ∈ ch, (b ∈ X.ex ∨ X.s₀.heap.objs.size ≤ b) ∧ b ≠ X.env.locals ∧ (∀ x c, X.env.cells.lookup x = some c → c ≠ b) ∧ ∀ p ∈ X.pn ++ pins, p.1 ≠ b)
    (keep : ∀ b o, b ≠ X.env.locals → b ∉ X.fs → b ∉ ch → s.heap.get? b = some o → H b = none → h'.get? b = some o)
    (slot : ∀ b o, b ≠ X.env.locals → b ∈ X.fs → b ∉ ch → s.heap.get? b = some o → H b = none → ∃ sl, h'.get? b = some { o with slots := sl }) (free : ∀ b o, b ∉ ch → s.heap.get? b = some o → H b = none → H' b = none)
    (there : ∀ b o, b ∉ ch → s.heap.get? b = some o → ∃ o', h'.get? b = some o')
    (tups : ∀ b xs, H b = some (.tup xs) → H' b = some (.tup xs)) (frzs : ∀ b o u, H b = some (.frz o u) → H' b = some (.frz o u)) (tbls : ∀ b ps, H b = some (.tbl ps) → ∃ more, H' b = some (.tbl (ps ++ more)))
    (ns : ∀ m, s.heap.Ns X.env.locals m → h'.Ns X.env.locals m) (hok : HOk X.prog X.w H' h') (hg : AllBare g') :
    Inv X pins σ H' { s with heap := h', gens := g', drawn := d', toks := t' } := by
  have neL : ∀ b o, X.s₀.heap.get? b = some o → b ≠ X.env.locals := fun b o e => Nat.ne_of_lt (Nat.lt_of_lt_of_le (Heap.lt_size e) I.ok.above)
  have neC : ∀ b o, X.s₀.heap.get? b = some o → b ∉ X.ex → b ∉ ch := fun b o e hx hb => by
    rcases (hch b hb).1 with z | z
    · exact hx z
    · exact absurd (Nat.lt_of_lt_of_le (Heap.lt_size e) z) (Nat.lt_irrefl _)
  have cellK : ∀ x c, X.env.cells.lookup x = some c → ∀ v, s.heap.IsCell c v → h'.IsCell c v := fun x c e v ⟨o, ho, hd⟩ => by
    have nch : c ∉ ch := fun z => (hch c z).2.2.1 x c e rfl
    by_cases hc : c ∈ X.fs
    · obtain ⟨sl, q⟩ := slot c o (I.cne x c e) hc nch ho (I.freeC x c e)
      exact ⟨_, q, hd⟩
    · exact ⟨o, keep c o (I.cne x c e) hc nch ho (I.freeC x c e), hd⟩
  refine ⟨I.ok, I.os, hg, ⟨fun b o e n hb hx => ?_, fun b o e n hb hx => ?_, fun b o e n hx => ?_, fun b o e hx => ?_, fun b xs e => tups b xs (I.base.tups b xs e), fun b o xs e => frzs b o xs (I.base.frzs b o xs e), fun b ps e => ?_⟩, ?_, fun x c e => ?_, ?_, fun x c e => ?_, fun p hp => ?_, hok, I.len⟩
  · exact keep b o (neL b o e) hb (neC b o e hx) (I.base.keep b o e n hb hx) (I.base.free b o e n hx)
  · obtain ⟨sl, e1⟩ := I.base.slot b o e n hb hx
    obtain ⟨sl', e2⟩ := slot b _ (neL b o e) hb (neC b o e hx) e1 (I.base.free b o e n hx)
    exact ⟨sl', e2⟩
  · obtain ⟨o', e1⟩ := I.base.there b o e hx
    exact free b o' (neC b o e hx) e1 (I.base.free b o e n hx)
  · obtain ⟨o', e1⟩ := I.base.there b o e hx
    exact there b o' (neC b o e hx) e1
  · obtain ⟨m1, e1⟩ := I.base.tbls b ps e
    obtain ⟨m2, e2⟩ := tbls b _ e1
    exact ⟨m1 ++ m2, by rw [e2, Array.append_assoc]⟩
  · obtain ⟨m, hn, hl⟩ := I.loc
    refine ⟨m, ns m hn, fun i x v e1 e2 e3 => ?_⟩
    obtain ⟨u, r, l⟩ := hl i x v e1 e2 e3
    refine ⟨u, r, ?_⟩
    rcases l with l | ⟨k, c, e, z⟩
    · exact .inl l
    · exact .inr ⟨k, c, e, cellK x c e _ z⟩
  · obtain ⟨v, z⟩ := I.cell x c e
    exact ⟨v, cellK x c e v z⟩
  · obtain ⟨m, ⟨o, _, _, ho, _⟩, _⟩ := I.loc
    exact free _ o (fun z => (hch _ z).2.1 rfl) ho I.free
  · obtain ⟨v, o, ho, hd⟩ := I.cell x c e
    exact free c o (fun z => (hch c z).2.2.1 x c e rfl) ho (I.freeC x c e)
  · obtain ⟨e, n, ne, nf, d⟩ := I.pin p hp
    have nch : p.1 ∉ ch := fun z => (hch p.1 z).2.2.2 p hp rfl
    exact ⟨keep p.1 p.2 ne nf nch e n, free p.1 p.2 nch e n, ne, nf, d⟩
/-- .. where the frame's own object is kept too -/
theorem Inv.un {t' : Nat} (I : Inv X pins σ H s) (u : Un X.fs [] H H' s.heap h') (hok : HOk X.prog X.w H' h') : Inv X pins σ H' { s with heap := h', toks := t' } := by
  obtain ⟨m, ⟨o, es, ep, ho, r⟩, _⟩ := id I.loc
  obtain ⟨sl, hL⟩ := u.any ho I.free (by simp)
  exact I.step (g' := s.gens) (d' := s.drawn) (ch := []) (fun _ z => nomatch z) (fun b o _ hb _ e n => u.keep b o e n hb (by simp)) (fun b o _ hb _ e n => u.slot b o e n hb (by simp)) (fun b o _ e n => u.free b o e n (by simp)) (fun b o _ e => u.there b o e (by simp)) u.tups u.frzs u.tbls (fun m' hm => by
    obtain ⟨o', es', ep', ho', r'⟩ := hm
    rw [ho] at ho'; cases ho'
    exact ⟨_, es', ep', hL, r'⟩) hok I.bare
/-- behind a call (or a comprehension's block): the slots of this frame may have changed too, the records at ch may have turned -/
theorem Inv.call {g' : Array GenState} {t' : Nat} {d' : Drawn} {ch : List Addr} (I : Inv X pins σ H s) (u : Un (frs X.stack) ch H H' s.heap h') (hok : HOk X.prog X.w H' h') (hg : AllBare g')
    (hch : ∀ b ∈ ch, (b ∈ X.ex ∨ X.s₀.heap.objs.size ≤ b) ∧ b ≠ X.env.locals ∧ (∀ x c, X.env.cells.lookup x = some c → c ≠ b) ∧ ∀ p ∈ X.pn ++ pins, p.1 ≠ b) :
    Inv X pins σ H' { s with heap := h', gens := g', drawn := d', toks := t' } := by
  obtain ⟨m, ⟨o, es, ep, ho, r⟩, _⟩ := id I.loc
  obtain ⟨sl, hL⟩ := u.any ho I.free fun z => (hch _ z).2.1 rfl
  exact I.step (ch := ch) hch (fun b o hL hb hc e n => u.keep b o e n (fun z => (List.mem_cons.mp (I.stkSub b z)).elim hL hb) hc) (fun b o _ _ hc e n => u.any e n hc) (fun b o hc e n => u.free b o e n hc) (fun b o hc e => u.there b o e hc) u.tups u.frzs u.tbls (fun m' hm => by
    obtain ⟨o', es', ep', ho', r'⟩ := hm
    rw [ho] at ho'; cases ho'
    exact ⟨_, es', ep', hL, r'⟩) hok hg
/-- an untracked record of ours (an iterator) has turned -/
theorem Inv.turned {t' : Nat} {it : Addr} (I : Inv X pins σ H s) (k : ∀ b o, b ≠ it → s.heap.get? b = some o → h'.get? b = some o) (hn : H it = none) (hL : it ≠ X.env.locals)
    (h1 : it ∈ X.ex ∨ X.s₀.heap.objs.size ≤ it) (h2 : ∀ x c, X.env.cells.lookup x = some c → c ≠ it) (h3 : ∀ p ∈ X.pn ++ pins, p.1 ≠ it) : Inv X pins σ H { s with heap := h', toks := t' } := by
  have nit : ∀ b u, H b = some u → b ≠ it := fun b u e z => by rw [z, hn] at e; cases e
  refine I.step (g' := s.gens) (d' := s.drawn) (ch := [it]) (fun b hb => ?_) (fun b o _ _ hc e _ => k b o (fun z => hc (by simp [z])) e) (fun b o _ _ hc e _ => ⟨o.slots, k b o (fun z => hc (by simp [z])) e⟩) (fun _ _ _ _ n => n)
    (fun b o hc e => ⟨o, k b o (fun z => hc (by simp [z])) e⟩) (fun _ _ e => e) (fun _ _ _ e => e) (fun b ps e => ⟨#[], by rw [e]; simp⟩) (fun m hm => ?_) (fun b u e => ?_) I.bare
  · have e : b = it := by simpa using hb
    subst e
    exact ⟨h1, hL, h2, h3⟩
  · obtain ⟨o, es, ep, ho, r⟩ := hm
    exact ⟨o, es, ep, k _ o (Ne.symm hL) ho, r⟩
  · refine (I.hok b u e).stay (fun c v hc q => k c v ?_ q) (fun _ q => q) fun _ _ q => q
    rcases hc with z | z
    · rw [z]; exact nit b u e
    · exact nit c _ z
theorem Inv.tok (I : Inv X pins σ H s) (t : Nat) : Inv X pins σ H { s with toks := t } := I.un (h' := s.heap) (t' := t) Un.refl I.hok
/-- all objects kept -/
theorem Inv.kept {t' : Nat} (I : Inv X pins σ H s) (k : ∀ b u, s.heap.get? b = some u → h'.get? b = some u) : Inv X pins σ H { s with heap := h', toks := t' } := I.un (Un.kept k) (I.hok.kept k)
/-- a new object laid and tracked -/
theorem Inv.laid {a : Addr} {o : HO} {t' : Nat} (I : Inv X pins σ H s) (k : ∀ b u, s.heap.get? b = some u → h'.get? b = some u) (hp : s.heap.objs.size ≤ a) (new : ObjOk X.prog X.w (upd H a o) h' a o) :
    Inv X pins σ (upd H a o) { s with heap := h', toks := t' } := I.un (Un.laid k hp (I.hok.fresh hp)) (I.hok.laid k hp new)
/-- an object written -/
theorem Inv.write {x e : Addr} {o : HO} {t' : Nat} (I : Inv X pins σ H s) (mu : Mut (H x)) (he : e = x ∨ H e = some (.own x)) (k : ∀ b u, b ≠ e → s.heap.get? b = some u → h'.get? b = some u) (heo : ∃ u, h'.get? e = some u)
    (new : ObjOk X.prog X.w (upd H x o) h' x o) : Inv X pins σ (upd H x o) { s with heap := h', toks := t' } := I.un (Un.write mu he k heo) (I.hok.write mu he k heo new)
theorem Inv.pins_of {pins' : List (Addr × Obj)} (I : Inv X pins σ H s) (h : ∀ p ∈ pins', s.heap.get? p.1 = some p.2 ∧ H p.1 = none ∧ p.1 ≠ X.env.locals ∧ p.1 ∉ X.fs ∧ ∀ v, p.2.data ≠ .cell v) : Inv X pins' σ H s :=
  ⟨I.ok, I.os, I.bare, I.base, I.loc, I.cell, I.free, I.freeC, fun p hp => (List.mem_append.mp hp).elim (fun z => I.pin p (List.mem_append_left _ z)) (h p), I.hok, I.len⟩

theorem nodup_ix {N : List Str} (hN : N.Nodup) {i j : Nat} {x : Str} (a : N[i]? = some x) (b : N[j]? = some x) : i = j := by
  obtain ⟨h1, e1⟩ := List.getElem?_eq_some_iff.mp a
  obtain ⟨h2, e2⟩ := List.getElem?_eq_some_iff.mp b
  exact (List.getElem_inj hN).mp (e1.trans e2.symm)

/-- a name is stored; what changed -/
theorem store_ok2 {M : Model} {A : Around} {E : Value → Shared → Prop} {i : Nat} {x : Str} {v : V} {u : Value} {Q : Unit → Shared → Prop} (I : Inv X pins σ H s) (hN : X.N.Nodup) (hi : X.N[i]? = some x) (hx : Loc X.env.scope x) (r : RelV v u)
    (h : ∀ s', Inv X pins (σ.set i (some v)) H s' → (∃ a, Heap.SameBut a s.heap s'.heap ∧ (a = X.env.locals ∨ X.env.cells.lookup x = some a)) → Q () s') (hf : X.fn x = true ∨ X.env.scope.names.lookup x = some .local := by first | exact .inl rfl | exact .inr rfl | assumption) : wpAny M A (storeName X.env x u) Q E s := by
  obtain ⟨m, hn, hl⟩ := id I.loc
  have hcls : (X.env.scope.kind == .class || (X.env.scope.kind == .module && X.env.locals != X.env.globals)) = false := by rw [I.ok.kind]; rfl
  have hiσ : i < σ.length := by rw [I.len]; exact (List.getElem?_eq_some_iff.mp hi).1
  have cne := I.cne
  have tracked : ∀ {a : Addr} {h' : Heap}, (∃ o, s.heap.get? a = some o ∧ H a = none) → Heap.SameBut a s.heap h' → HOk X.prog X.w H h' := fun {a h'} ha hs b ob e => by
    obtain ⟨_, _, hfree⟩ := ha
    refine (I.hok b ob e).stay (fun c w' hc q => (hs.2 c ?_).trans q) (fun _ q => q) fun _ _ q => q
    rintro rfl
    rcases hc with rfl | hc
    · rw [hfree] at e; cases e
    · rw [hfree] at hc; cases hc
  rcases hx with hk | hk
  · refine wpAny_storeName_local hk hn (fun h' hn' hs => ?_) hcls
    obtain ⟨oL, _, _, hoL, _⟩ := id hn
    refine h _ ⟨I.ok, I.os, I.bare, ⟨fun b o e n hb hx => ?_, fun b o e n hb hx => ?_, I.base.free, fun b o e hx => ?_, I.base.tups, I.base.frzs, I.base.tbls⟩, ⟨_, hn', fun j y v' e1 e2 e3 => ?_⟩, fun y c e => ?_, I.free, I.freeC, fun p hp => ?_, tracked ⟨oL, hoL, I.free⟩ hs, by simpa using I.len⟩ ⟨_, hs, .inl rfl⟩
    · exact (hs.2 b (Nat.ne_of_lt (Nat.lt_of_lt_of_le (Heap.lt_size e) I.ok.above))).trans (I.base.keep b o e n hb hx)
    · obtain ⟨sl, e1⟩ := I.base.slot b o e n hb hx
      exact ⟨sl, (hs.2 b (Nat.ne_of_lt (Nat.lt_of_lt_of_le (Heap.lt_size e) I.ok.above))).trans e1⟩
    · obtain ⟨o', e1⟩ := I.base.there b o e hx
      exact ⟨o', (hs.2 b (Nat.ne_of_lt (Nat.lt_of_lt_of_le (Heap.lt_size e) I.ok.above))).trans e1⟩
    · by_cases hj : j = i
      · subst hj
        rw [hi] at e1; cases e1
        rw [List.getElem?_set_self hiσ] at e2
        cases e2
        exact ⟨u, r, .inl ⟨hk, by simp⟩⟩
      · rw [List.getElem?_set_ne (Ne.symm hj)] at e2
        obtain ⟨u', r', q⟩ := hl j y v' e1 e2 e3
        refine ⟨u', r', ?_⟩
        rcases q with ⟨k, e⟩ | ⟨k, c, e, z⟩
        · refine .inl ⟨k, ?_⟩
          have : y ≠ x := fun e => hj (nodup_ix hN e1 (e ▸ hi))
          simp [this, e]
        · exact .inr ⟨k, c, e, z.sameBut hs (cne y c e)⟩
    · obtain ⟨w', z⟩ := I.cell y c e
      exact ⟨w', z.sameBut hs (cne y c e)⟩
    · obtain ⟨e, n, ne, nf, d⟩ := I.pin p hp
      exact ⟨(hs.2 p.1 ne).trans e, n, ne, nf, d⟩
  · have hfn : X.fn x = true := by
      rcases hf with z | z
      · exact z
      · rw [z] at hk; cases hk
    obtain ⟨c, hc⟩ := I.ok.has x (.inl hk)
    obtain ⟨w', z⟩ := I.cell x c hc
    refine wpAny_storeName_cell I.ok.kind hk hc z (fun h' hc' hs => ?_)
    obtain ⟨oc, hoc, hocd⟩ := id z
    refine h { s with heap := h' } ⟨I.ok, I.os, I.bare, ⟨fun b o e n hb hx => ?_, fun b o e n hb hx => ?_, I.base.free, fun b o e hx => ?_, I.base.tups, I.base.frzs, I.base.tbls⟩, ⟨m, hn.sameBut hs (Ne.symm (cne x c hc)), fun j y v' e1 e2 e3 => ?_⟩, fun y c' e => ?_, I.free, I.freeC, fun p hp => ?_, tracked ⟨oc, hoc, I.freeC x c hc⟩ hs, by simpa using I.len⟩ ⟨c, hs, .inr hc⟩
    · exact (hs.2 b (Nat.ne_of_lt (Nat.lt_of_lt_of_le (Heap.lt_size e) (I.ok.cab x c hfn hc)))).trans (I.base.keep b o e n hb hx)
    · obtain ⟨sl, e1⟩ := I.base.slot b o e n hb hx
      exact ⟨sl, (hs.2 b (Nat.ne_of_lt (Nat.lt_of_lt_of_le (Heap.lt_size e) (I.ok.cab x c hfn hc)))).trans e1⟩
    · obtain ⟨o', e1⟩ := I.base.there b o e hx
      exact ⟨o', (hs.2 b (Nat.ne_of_lt (Nat.lt_of_lt_of_le (Heap.lt_size e) (I.ok.cab x c hfn hc)))).trans e1⟩
    · by_cases hj : j = i
      · subst hj
        rw [hi] at e1; cases e1
        rw [List.getElem?_set_self hiσ] at e2
        cases e2
        exact ⟨u, r, .inr ⟨.inl hk, c, hc, hc'⟩⟩
      · rw [List.getElem?_set_ne (Ne.symm hj)] at e2
        obtain ⟨u', r', q⟩ := hl j y v' e1 e2 e3
        refine ⟨u', r', ?_⟩
        rcases q with q | ⟨k, c', e, z'⟩
        · exact .inl q
        · refine .inr ⟨k, c', e, z'.sameBut hs ?_⟩
          rintro rfl
          exact hj (nodup_ix hN e1 (I.ok.inj _ _ _ e hc ▸ hi))
    · by_cases hcc : c' = c
      · subst hcc; exact ⟨_, hc'⟩
      · obtain ⟨w2, z2⟩ := I.cell y c' e
        exact ⟨w2, z2.sameBut hs hcc⟩
    · obtain ⟨e, n, ne, nf, d⟩ := I.pin p hp
      refine ⟨(hs.2 p.1 ?_).trans e, n, ne, nf, d⟩
      intro q
      rw [q, hoc] at e
      have q' : oc = p.2 := Option.some.inj e
      exact d w' (by rw [← q']; exact hocd)
theorem store_ok {M : Model} {A : Around} {E : Value → Shared → Prop} {i : Nat} {x : Str} {v : V} {u : Value} {Q : Unit → Shared → Prop} (I : Inv X pins σ H s) (hN : X.N.Nodup) (hi : X.N[i]? = some x) (hx : Loc X.env.scope x) (r : RelV v u)
    (h : ∀ s', Inv X pins (σ.set i (some v)) H s' → Q () s') (hf : X.fn x = true ∨ X.env.scope.names.lookup x = some .local := by first | exact .inl rfl | exact .inr rfl | assumption) : wpAny M A (storeName X.env x u) Q E s :=
  store_ok2 I hN hi hx r (fun s' I' _ => h s' I') hf
/-- behind a call or a block, the state as it is -/
theorem Inv.call' {s' : Shared} {ch : List Addr} (I : Inv X pins σ H s) (ho : s'.os = s.os) (u : Un (frs X.stack) ch H H' s.heap s'.heap) (hok : HOk X.prog X.w H' s'.heap) (hg : AllBare s'.gens)
    (hch : ∀ b ∈ ch, (b ∈ X.ex ∨ X.s₀.heap.objs.size ≤ b) ∧ b ≠ X.env.locals ∧ (∀ x c, X.env.cells.lookup x = some c → c ≠ b) ∧ ∀ p ∈ X.pn ++ pins, p.1 ≠ b) : Inv X pins σ H' s' := by
  obtain ⟨h', g', d', t', o'⟩ := s'
  have e : o' = s.os := ho
  subst e
  exact I.call (g' := g') (t' := t') (d' := d') u hok hg hch
end

/-! ### the judgements -/
/-- an exception: its class, its own dict's address (where it has one), the abstract heap behind it -/
abbrev XK := Value → Option Addr → Hp → Prop
abbrev St := List (Option V)
abbrev VK := V → Hp → Prop
/-- an expression's reading; a test's; an argument list's -/
abbrev TE := St → Hp → VK → Prop
abbrev TT := St → Hp → (Bool → Hp → Prop) → Prop
abbrev TA := St → Hp → (List V → Hp → Prop) → Prop
/-- what is wanted behind a statement -/
structure Ends where
  nx : St → Hp → Prop
  rt : VK
  bk : St → Hp → Prop := fun _ _ => False
  ct : St → Hp → Prop := fun _ _ => False
abbrev TS := Ends → St → Hp → Prop

def EP (X : Cx) (pins : List (Addr × Obj)) (σ : St) (Q : VK) (u : Value) (s' : Shared) : Prop := ∃ v H', Inv X pins σ H' s' ∧ RelV v u ∧ Q v H'
def TP (X : Cx) (pins : List (Addr × Obj)) (σ : St) (Q : Bool → Hp → Prop) (b : Bool) (s' : Shared) : Prop := ∃ H', Inv X pins σ H' s' ∧ Q b H'
def AP (X : Cx) (pins : List (Addr × Obj)) (σ : St) (Q : List V → Hp → Prop) (us : List Value) (s' : Shared) : Prop := ∃ vs H', Inv X pins σ H' s' ∧ Vals vs us ∧ Q vs H'
def SP (X : Cx) (pins : List (Addr × Obj)) (D : Ends) (f : Flow) (s' : Shared) : Prop :=
  match f with
  | .next => ∃ σ' H', Inv X pins σ' H' s' ∧ D.nx σ' H'
  | .brk => ∃ σ' H', Inv X pins σ' H' s' ∧ D.bk σ' H'
  | .cont => ∃ σ' H', Inv X pins σ' H' s' ∧ D.ct σ' H'
  | .ret u => ∃ v σ' H', Inv X pins σ' H' s' ∧ RelV v u ∧ D.rt v H'

def PE (X : Cx) (e : Expr) (t : TE) : Prop :=
  ∀ (pins : List (Addr × Obj)) (s : Shared) (σ : St) (H : Hp) (Q : VK), Inv X pins σ H s → t σ H Q → wpAny (model X.prog X.w) X.A (eval e X.env) (EP X pins σ Q) X.xe s
def PT (X : Cx) (e : Expr) (t : TT) : Prop :=
  ∀ (pins : List (Addr × Obj)) (s : Shared) (σ : St) (H : Hp) (Q : Bool → Hp → Prop), Inv X pins σ H s → t σ H Q → wpAny (model X.prog X.w) X.A (isTrue e X.env (eval e X.env)) (TP X pins σ Q) X.xe s
/-- a test whatever its 'whole' is (and, or) -/
def PW (X : Cx) (e : Expr) (t : TT) : Prop :=
  ∀ (whole : Sem Value) (pins : List (Addr × Obj)) (s : Shared) (σ : St) (H : Hp) (Q : Bool → Hp → Prop), Inv X pins σ H s → t σ H Q → wpAny (model X.prog X.w) X.A (isTrue e X.env whole) (TP X pins σ Q) X.xe s
theorem PW.pt {X : Cx} {e : Expr} {t : TT} (h : PW X e t) : PT X e t := h _
/-- an argument list (no star), from the left -/
def PA (X : Cx) (es : List Expr) (t : TA) : Prop :=
  ∀ (pos : Pos) (pins : List (Addr × Obj)) (s : Shared) (σ : St) (H : Hp) (Q : List V → Hp → Prop), Inv X pins σ H s → t σ H Q → wpAny (model X.prog X.w) X.A (spliced (backTo pos (starEach es X.env))) (AP X pins σ Q) X.xe s
def PS (X : Cx) (st : Stmt) (t : TS) : Prop :=
  ∀ (pins : List (Addr × Obj)) (s : Shared) (σ : St) (H : Hp) (D : Ends), Inv X pins σ H s → t D σ H → wpAny (model X.prog X.w) X.A (exec st X.env) (SP X pins D) X.xe s
def PSs (X : Cx) (st : List Stmt) (t : TS) : Prop :=
  ∀ (pins : List (Addr × Obj)) (s : Shared) (σ : St) (H : Hp) (D : Ends), Inv X pins σ H s → t D σ H → wpAny (model X.prog X.w) X.A (execs st X.env) (SP X pins D) X.xe s
/-- weaken the end -/
theorem thn {α : Type} {t : Sem α} {Q Q' : α → Shared → Prop} {M : Model} {A : Around} {E : Value → Shared → Prop} {s : Shared} (h : wpAny M A t Q E s) (hQ : ∀ a s, Q a s → Q' a s) : wpAny M A t Q' E s := wpAny_mono h hQ fun _ _ x => x
end L2

namespace L2
open PySem PySem.Spec PyProof.Rows
section
variable {X : Cx}


/-! ### names and constants -/
inductive ItVar (i : Nat) (σ : St) (H : Hp) (Q : VK) : Prop
  | mk (v : _) (h1 : σ[i]? = some (some v)) (h2 : Q v H) : ItVar i σ H Q
def tVar (i : Nat) : TE := fun σ H Q => ItVar i σ H Q
def tC (v : V) : TE := fun _ H Q => Q v H
theorem pe_var {i : Nat} {x : Str} {pos : Pos} (hN : X.N[i]? = some x) (hv : Vis X.env.scope x) (hd : (x == ("__debug__" : Str)) = false := by decide) (hcd : (x == ("__classdict__" : Str)) = false := by decide) : PE X (.Name x pos) (tVar i) := by
  intro pins s σ H Q I h
  obtain ⟨v, e, h⟩ := h
  obtain ⟨m, hn, hl⟩ := I.loc
  obtain ⟨u, r, l⟩ := hl i x v hN e hv
  have fin : EP X pins σ Q u s := ⟨v, H, I, r, h⟩
  rcases l with ⟨hk, hm⟩ | ⟨hk, c, hc, hcell⟩
  · exact wpAny_Name (wpAny_loadName_local I.ok.kind hk hn hm fin) hd
  · rcases hk with hk | hk
    · exact wpAny_Name (wpAny_loadName_cell I.ok.kind hk hc hcell fin) hd
    · exact wpAny_Name (wpAny_loadName_free I.ok.kind hk hc hcell fin hcd) hd
theorem pe_int {i j pos} : PE X (.Constant (.int i) j pos) (tC (.int i)) := fun _ _ _ H _ I h => wpAny_Constant_int ⟨.int i, H, I.tok _, ⟨_, rfl⟩, h⟩
theorem pe_bl {b j pos} : PE X (.Constant (.bool b) j pos) (tC (.bl b)) := fun _ _ _ H _ I h => Constant_bool ⟨.bl b, H, I, rfl, h⟩
theorem pe_non {j pos} : PE X (.Constant .none j pos) (tC .non) := fun _ _ _ H _ I h => Constant_none ⟨.non, H, I, rfl, h⟩
theorem pe_str {x j pos} : PE X (.Constant (.str x) j pos) (tC (.str x)) := fun _ _ _ H _ I h => Calls.Constant_str ⟨.str x, H, I.tok _, ⟨_, rfl⟩, h⟩

/-- a global name of the def -/
def Gl (X : Cx) (x : Str) : Prop := X.env.kindOf x = some .globalImplicit
theorem ld_glob {E : Value → Shared → Prop} {pins : List (Addr × Obj)} {s : Shared} {σ : St} {H : Hp} {x : Str} {u : Value} {pos : Pos} {Q : Value → Shared → Prop} (I : Inv X pins σ H s) (hg : Gl X x) (hm : X.mg x = some u) (h : Q u s)
    (hd : (x == ("__debug__" : Str)) = false := by decide) : wpAny (model X.prog X.w) X.A (eval (.Name x pos) X.env) Q E s :=
  Calls.Name_function_global I.ok.kind hg (Calls.loadGlobal_global (by rw [I.ok.glob]; exact I.mod.glob.keeps I.bk) hm h) hd
theorem ld_blt {E : Value → Shared → Prop} {pins : List (Addr × Obj)} {s : Shared} {σ : St} {H : Hp} {x : Str} {u : Value} {pos : Pos} {Q : Value → Shared → Prop} (I : Inv X pins σ H s) (hg : Gl X x) (hm : X.mg x = none) (hv : bootBuiltins x = some u) (h : Q u s)
    (hn : x ≠ "__name__" := by decide) (hd : (x == ("__debug__" : Str)) = false := by decide) : wpAny (model X.prog X.w) X.A (eval (.Name x pos) X.env) Q E s := by
  obtain ⟨mb, h1, h2⟩ := I.mod.blt
  exact Calls.Name_function_global I.ok.kind hg (Calls.loadGlobal_builtin (by rw [I.ok.glob]; exact I.mod.glob.keeps I.bk) hm (by rw [I.ok.blt]; exact h1.keeps I.bk) ((h2 x hn).trans hv) h) hd
/-- a module's constant, a class, a function, as a value -/
theorem pe_glob {x : Str} {v : V} {u : Value} {pos : Pos} (hg : Gl X x) (hm : X.mg x = some u) (r : RelV v u) (hd : (x == ("__debug__" : Str)) = false := by decide) : PE X (.Name x pos) (tC v) :=
  fun _ _ _ H _ I h => ld_glob I hg hm ⟨v, H, I, r, h⟩ hd
theorem pe_bltn {x : Str} {v : V} {u : Value} {pos : Pos} (hg : Gl X x) (hm : X.mg x = none) (hv : bootBuiltins x = some u) (r : RelV v u) (hn : x ≠ "__name__" := by decide) (hd : (x == ("__debug__" : Str)) = false := by decide) : PE X (.Name x pos) (tC v) :=
  fun _ _ _ H _ I h => ld_blt I hg hm hv ⟨v, H, I, r, h⟩ hn hd

/-! ### arithmetic -/
/-- two ints -/
def t2I (ta tb : TE) (k : Int → Int → Hp → Prop) : St → Hp → Prop := fun σ H => ta σ H fun x H1 => tb σ H1 fun y H2 => ∃ i j, x = .int i ∧ y = .int j ∧ k i j H2
def tAdd (ta tb : TE) : TE := fun σ H Q => t2I ta tb (fun i j H2 => Q (.int (i + j)) H2) σ H
def tSub (ta tb : TE) : TE := fun σ H Q => t2I ta tb (fun i j H2 => Q (.int (i - j)) H2) σ H
/-- the left factor below 2^64 -/
def tMul (ta tb : TE) : TE := fun σ H Q => t2I ta tb (fun i j H2 => (-(2 ^ 64) < i ∧ i < 2 ^ 64) ∧ Q (.int (i * j)) H2) σ H
variable {a b : Expr} {ta tb : TE} {pos : Pos}

/-! ### comparisons -/
def PC (X : Cx) (op : CmpOp) (a b : Expr) (t : TE) : Prop :=
  ∀ (pins : List (Addr × Obj)) (s : Shared) (σ : St) (H : Hp) (Q : VK), Inv X pins σ H s → t σ H Q →
    wpAny (model X.prog X.w) X.A (eval a X.env) (fun v s₁ => wpAny (model X.prog X.w) X.A (eval b X.env) (fun u s₂ => wpAny (model X.prog X.w) X.A (compareOp op v u) (EP X pins σ Q) X.xe s₂) X.xe s₁) X.xe s
def tCmp (p : Int → Int → Bool) (ta tb : TE) : TE := fun σ H Q => t2I ta tb (fun i j H2 => Q (.bl (p i j)) H2) σ H
abbrev tLt : TE → TE → TE := tCmp fun i j => decide (i < j)
abbrev tLe : TE → TE → TE := tCmp fun i j => decide (i ≤ j)
abbrev tGt : TE → TE → TE := tCmp fun i j => decide (j < i)
abbrev tGe : TE → TE → TE := tCmp fun i j => decide (j ≤ i)
abbrev tEqI : TE → TE → TE := tCmp fun i j => decide (i = j)
abbrev tNeI : TE → TE → TE := tCmp fun i j => !decide (i = j)
/-- is None -/
def tIsN (ta : TE) : TE := fun σ H Q => ta σ H fun x H1 => Q (.bl (decide (x = .non))) H1
def tNotN (ta : TE) : TE := fun σ H Q => ta σ H fun x H1 => Q (.bl (!decide (x = .non))) H1
/-- a comparison as a value, as a test -/
inductive ItB (Q : Bool → Hp → Prop) (x : V) (H1 : Hp) : Prop
  | mk (c : _) (h1 : x = .bl c) (h2 : Q c H1) : ItB Q x H1
def tB (t : TE) : TT := fun σ H Q => t σ H fun x H1 => ItB Q x H1
theorem pt_cmp {op : CmpOp} {t : TE} (h : PC X op a b t) (h1 : behindInMarks op b = false := by first | exact nobehind _ (by decide) (by decide) | rfl) : PT X (.Compare a [op] [b] pos) (tB t) := by
  intro pins s σ H Q I hw
  refine wpAny_isTrue_Compare1 (thn (h pins s σ H _ I hw) fun v s1 h1 => thn h1 fun u s2 h2 => thn h2 fun c s3 ⟨x, H1, I1, r1, q1⟩ => ?_) h1
  obtain ⟨d, rfl, q⟩ := q1
  cases r1
  exact wpAny_truthy_bool ⟨H1, I1, q⟩
/-- an expression whose value is a bool, as a test -/
theorem pt_val {e : Expr} {t : TE} (h : PE X e t) (he : ∀ whole, isTrue e X.env whole = (do let v ← whole; standAt e.pos; holding [v] (truthy v)) := by intro _; rfl) : PT X e (tB t) := by
  intro pins s σ H Q I hw
  refine isTrue_plain (thn (h pins s σ H _ I hw) fun v s1 ⟨x, H1, I1, r1, q1⟩ => ?_) (he _)
  obtain ⟨d, rfl, q⟩ := q1
  cases r1
  exact wpAny_truthy_bool ⟨H1, I1, q⟩

/-! ### and, or, not -/
variable {tA tB' : TT} {rest : List Expr}
def tAnd (t u : TT) : TT := fun σ H Q => t σ H fun c H1 => if c = true then u σ H1 Q else Q false H1
def tOr (t u : TT) : TT := fun σ H Q => t σ H fun c H1 => if c = true then Q true H1 else u σ H1 Q
def tNot (t : TT) : TT := fun σ H Q => t σ H fun c H1 => Q (!c) H1
theorem pw_and1 (ha : PT X a tA) : PW X (.BoolOp .And [a] pos) tA := by
  intro wh pins s σ H Q I h
  refine isTrue_and (thn (ha pins s σ H Q I h) fun c s1 e => ?_)
  cases c with
  | true => exact isTrue_and_nil e
  | false => exact e
theorem pw_or1 (ha : PT X a tA) : PW X (.BoolOp .Or [a] pos) tA := by
  intro wh pins s σ H Q I h
  refine isTrue_or (thn (ha pins s σ H Q I h) fun c s1 e => ?_)
  cases c with
  | false => exact isTrue_or_nil e
  | true => exact e
theorem pw_and (ha : PT X a tA) (hb : PW X (.BoolOp .And (b :: rest) pos) tB') : PW X (.BoolOp .And (a :: b :: rest) pos) (tAnd tA tB') := by
  intro wh pins s σ H Q I h
  refine isTrue_and (thn (ha pins s σ H _ I h) fun c s1 ⟨H1, I1, q1⟩ => ?_)
  cases c with
  | true => exact hb wh pins s1 σ H1 Q I1 q1
  | false => exact ⟨H1, I1, q1⟩
theorem pw_or (ha : PT X a tA) (hb : PW X (.BoolOp .Or (b :: rest) pos) tB') : PW X (.BoolOp .Or (a :: b :: rest) pos) (tOr tA tB') := by
  intro wh pins s σ H Q I h
  refine isTrue_or (thn (ha pins s σ H _ I h) fun c s1 ⟨H1, I1, q1⟩ => ?_)
  cases c with
  | true => exact ⟨H1, I1, q1⟩
  | false => exact hb wh pins s1 σ H1 Q I1 q1
theorem pt_not (ha : PT X a tA) : PT X (.UnaryOp .Not a pos) (tNot tA) := by
  intro pins s σ H Q I h
  exact isTrue_not (ha pins s σ H (fun c H1 => Q (!c) H1) I h)
/-- .. as values (bools) -/
def tAndV (ta tb : TE) : TE := fun σ H Q => ta σ H fun x H1 => ∃ c, x = .bl c ∧ if c = true then tb σ H1 Q else Q (.bl false) H1
def tOrV (ta tb : TE) : TE := fun σ H Q => ta σ H fun x H1 => ∃ c, x = .bl c ∧ if c = true then Q (.bl true) H1 else tb σ H1 Q
def tNotV (ta : TE) : TE := fun σ H Q => ta σ H fun x H1 => ∃ c, x = .bl c ∧ Q (.bl (!c)) H1
theorem pe_one {op} {t : TE} (h : PE X a t) : PE X (.BoolOp op [a] pos) t := fun pins s σ H Q I hw => BoolOp_one (h pins s σ H Q I hw)
theorem pe_and (ha : PE X a ta) (hb : PE X (.BoolOp .And (b :: rest) pos) tb) : PE X (.BoolOp .And (a :: b :: rest) pos) (tAndV ta tb) := by
  intro pins s σ H Q I h
  refine BoolOp_and (thn (ha pins s σ H _ I h) fun v s1 ⟨x, H1, I1, r1, q1⟩ => ?_)
  obtain ⟨c, rfl, q1⟩ := q1
  cases r1
  refine wpAny_truthy_bool ?_
  cases c with
  | true => exact hb pins s1 σ H1 Q I1 q1
  | false => exact ⟨.bl false, H1, I1, rfl, q1⟩
theorem pe_not (ha : PE X a ta) : PE X (.UnaryOp .Not a pos) (tNotV ta) := by
  intro pins s σ H Q I h
  refine UnaryOp_ (thn (ha pins s σ H _ I h) fun v s1 ⟨x, H1, I1, r1, q1⟩ => ?_)
  obtain ⟨c, rfl, q1⟩ := q1
  cases r1
  exact not_of (wpAny_truthy_bool ⟨.bl (!c), H1, I1, rfl, q1⟩)
/-- a if t else b -/
def tIf (t : TT) (ta tb : TE) : TE := fun σ H Q => t σ H fun c H1 => if c = true then ta σ H1 Q else tb σ H1 Q
theorem pe_ifExp {c : Expr} (hc : PT X c tA) (ha : PE X a ta) (hb : PE X b tb) : PE X (.IfExp c a b pos) (tIf tA ta tb) := by
  intro pins s σ H Q I h
  refine wpAny_IfExp (thn (hc pins s σ H _ I h) fun d s1 ⟨H1, I1, q1⟩ => ?_)
  cases d with
  | true => exact ha pins s1 σ H1 Q I1 q1
  | false => exact hb pins s1 σ H1 Q I1 q1
end
end L2

namespace L2
open PySem PySem.Spec PyProof.Rows

/-! ### a list, a tuple that is read: tracked, frozen, or an object of the module -/
def SqL (K : PySem.W.Frag) (H : Hp) (a : Addr) (xs : List V) : Prop :=
  Rd H a (.lst xs) ∨
    ∃ (o : Obj) (its : Array Value) (n : Nat), K.lookup a = some o ∧ o.cls = .type "list" ∧ o.dict = none ∧ o.data = .seq its n ∧ its.size ≤ sizeLine ∧ Vals xs its.toList
def SqT (K : PySem.W.Frag) (H : Hp) (a : Addr) (xs : List V) : Prop :=
  Rd H a (.tup xs) ∨
    ∃ (o : Obj) (its : Array Value) (n : Nat), K.lookup a = some o ∧ o.cls = .type "tuple" ∧ o.data = .seq its n ∧ its.size ≤ sizeLine ∧ Vals xs its.toList
def absV : Value → Option V
  | .none => some .non
  | .bool b => some (.bl b)
  | .int i _ => some (.int i)
  | .str x _ => some (.str x)
  | .bytes b _ => some (.byt b)
  | .float b _ => some (.flt b)
  | .ref a => some (.ref a)
  | .type n => some (.ty n)
  | _ => none
theorem RelV.abs {x : V} {u : Value} (r : RelV x u) : absV u = some x := by
  cases x with
  | non => cases r; rfl
  | bl _ => cases r; rfl
  | int _ => obtain ⟨t, rfl⟩ := r; rfl
  | str _ => obtain ⟨t, rfl⟩ := r; rfl
  | byt _ => obtain ⟨t, rfl⟩ := r; rfl
  | flt _ => obtain ⟨t, rfl⟩ := r; rfl
  | ref _ => cases r; rfl
  | ty _ => cases r; rfl
theorem RelV.inj {x y : V} {u : Value} (r : RelV x u) (q : RelV y u) : x = y := Option.some.inj (r.abs.symm.trans q.abs)
theorem Vals.inj : ∀ {xs ys : List V} {us : List Value}, Vals xs us → Vals ys us → xs = ys
  | _, _, _, .nil, .nil => rfl
  | _, _, _, .cons r t, .cons r' t' => by rw [r.inj r', Vals.inj t t']
section
variable {X : Cx} {pins : List (Addr × Obj)} {σ : St} {H : Hp} {s : Shared} {a : Addr} {xs ys : List V}
theorem SqL.of {K : PySem.W.Frag} (h : H a = some (.lst xs)) : SqL K H a xs := .inl (.inl h)
theorem SqT.of {K : PySem.W.Frag} (h : H a = some (.tup xs)) : SqT K H a xs := .inl (.inl h)
theorem Inv.list (I : Inv X pins σ H s) (h : SqL X.K H a xs) : ∃ its : List Value, Vals xs its ∧ PlainL s.heap a its.toArray ∧ xs.length ≤ sizeLine := by
  rcases h with h | ⟨o, its, n, hk, hc, hd, hs, hz, r⟩
  · obtain ⟨z, its, n, r, e⟩ := h.ok I.hok
    exact ⟨its, r, ⟨_, n, e, rfl, rfl, rfl⟩, z⟩
  · refine ⟨its.toList, r, ⟨o, n, I.kIn a o hk, hc, hd, by simpa using hs⟩, ?_⟩
    have e := r.length
    simp only [Array.length_toList] at e
    omega
theorem Inv.tuple (I : Inv X pins σ H s) (h : SqT X.K H a xs) : ∃ its : List Value, Vals xs its ∧ IsTup s.heap a its.toArray ∧ xs.length ≤ sizeLine := by
  rcases h with h | ⟨o, its, n, hk, hc, hs, hz, r⟩
  · obtain ⟨z, its, r, p⟩ := h.ok I.hok
    exact ⟨its, r, p, z⟩
  · refine ⟨its.toList, r, ⟨o, I.kIn a o hk, hc, n, by simpa using hs⟩, ?_⟩
    have e := r.length
    simp only [Array.length_toList] at e
    omega
theorem Inv.list_inj (I : Inv X pins σ H s) (h : SqL X.K H a xs) (h' : SqL X.K H a ys) : xs = ys := by
  obtain ⟨its, r, ⟨o, n, e, _, _, d⟩, _⟩ := I.list h
  obtain ⟨its', r', ⟨o', n', e', _, _, d'⟩, _⟩ := I.list h'
  rw [e] at e'; cases e'
  rw [d] at d'
  injection d' with d1 _
  have : its = its' := by simpa using congrArg Array.toList d1
  subst this
  exact r.inj r'
theorem Inv.tuple_inj (I : Inv X pins σ H s) (h : SqT X.K H a xs) (h' : SqT X.K H a ys) : xs = ys := by
  obtain ⟨its, r, ⟨o, e, _, n, d⟩, _⟩ := I.tuple h
  obtain ⟨its', r', ⟨o', e', _, n', d'⟩, _⟩ := I.tuple h'
  rw [e] at e'; cases e'
  rw [d] at d'
  injection d' with d1 _
  have : its = its' := by simpa using congrArg Array.toList d1
  subst this
  exact r.inj r'
end

/-! ### another wish about exceptions -/
abbrev Cx.wish (X : Cx) (E : Value → Shared → Prop) : Cx := { X with xe := E }
/-- no exception leaves -/
abbrev Cx.nox (X : Cx) : Cx := X.wish fun _ _ => False
theorem Cx.Ok.wish {X : Cx} (ok : X.Ok) (E : Value → Shared → Prop) : (X.wish E).Ok :=
  ⟨ok.mod, ok.kind, ok.glob, ok.blt, ok.above, ok.inj, ok.has, ok.cab, ok.hd, ok.frames, ok.stk, ok.exf, ok.bs, ok.bsz, ok.noex, ok.exfs, ok.funs, ok.frf⟩
theorem Cx.Ok.unwish {X : Cx} {E : Value → Shared → Prop} (ok : (X.wish E).Ok) : X.Ok :=
  ⟨ok.mod, ok.kind, ok.glob, ok.blt, ok.above, ok.inj, ok.has, ok.cab, ok.hd, ok.frames, ok.stk, ok.exf, ok.bs, ok.bsz, ok.noex, ok.exfs, ok.funs, ok.frf⟩
section
variable {X : Cx} {pins : List (Addr × Obj)} {σ : St} {H : Hp} {s : Shared} {E : Value → Shared → Prop}
theorem Inv.wish (I : Inv X pins σ H s) (E : Value → Shared → Prop) : Inv (X.wish E) pins σ H s := ⟨I.ok.wish E, I.os, I.bare, I.base, I.loc, I.cell, I.free, I.freeC, I.pin, I.hok, I.len⟩
theorem Inv.unwish (I : Inv (X.wish E) pins σ H s) : Inv X pins σ H s := ⟨I.ok.unwish, I.os, I.bare, I.base, I.loc, I.cell, I.free, I.freeC, I.pin, I.hok, I.len⟩
theorem SP.unwish {D : Ends} {f : Flow} {s' : Shared} (h : SP (X.wish E) pins D f s') : SP X pins D f s' := by
  cases f with
  | next => obtain ⟨σ', H', I, q⟩ := h; exact ⟨σ', H', I.unwish, q⟩
  | brk => obtain ⟨σ', H', I, q⟩ := h; exact ⟨σ', H', I.unwish, q⟩
  | cont => obtain ⟨σ', H', I, q⟩ := h; exact ⟨σ', H', I.unwish, q⟩
  | ret u => obtain ⟨v, σ', H', I, r, q⟩ := h; exact ⟨v, σ', H', I.unwish, r, q⟩
theorem PSs.nox {st : List Stmt} {t : TS} (h : PSs X.nox st t) : PSs X st t := fun pins s σ H D I hw =>
  wpAny_mono (h pins s σ H D (I.wish _) hw) (fun _ _ q => q.unwish) fun _ _ z => False.elim z
end

/-! ### blocks and small statements -/
section
variable {X : Cx} {st : Stmt} {rest : List Stmt} {t u : TS} {e : Expr} {te : TE} {pos : Pos}
def tNext : TS := fun D σ H => D.nx σ H
def tSeq (t u : TS) : TS := fun D σ H => t { D with nx := u D } σ H
theorem pss_nil : PSs X [] tNext := fun _ _ σ H _ I h => wpAny_execs_nil ⟨σ, H, I, h⟩
theorem pss_cons (h1 : PS X st t) (h2 : PSs X rest u) : PSs X (st :: rest) (tSeq t u) := by
  intro pins s σ H D I h
  refine wpAny_execs_cons (thn (h1 pins s σ H { D with nx := u D } I h) fun f s1 q => ?_)
  cases f with
  | next =>
    obtain ⟨σ', H', I', q⟩ := q
    exact h2 pins s1 σ' H' D I' q
  | ret v => exact q
  | brk => exact q
  | cont => exact q
theorem pss_one (h1 : PS X st t) : PSs X [st] t := by
  intro pins s σ H D I h
  refine wpAny_execs_cons (thn (h1 pins s σ H D I h) fun f s1 q => ?_)
  cases f with
  | next => exact wpAny_execs_nil q
  | ret v => exact q
  | brk => exact q
  | cont => exact q
def tBreak : TS := fun D σ H => D.bk σ H
def tCont : TS := fun D σ H => D.ct σ H
/-- in a def's body nothing is shown -/
theorem Inv.quiet {pins : List (Addr × Obj)} {σ : St} {H : Hp} {s : Shared} (I : Inv X pins σ H s) : interactive X.env = false := by simp [interactive, I.ok.kind]
/-- an expression whose value is dropped -/
def tDrop (te : TE) : TS := fun D σ H => te σ H fun _ H1 => D.nx σ H1
theorem ps_expr (he : PE X e te) (hs : swapsWith e none pos.line X.env = pure false := by rfl) : PS X (.Expr e pos) (tDrop te) := by
  intro pins s σ H D I h
  exact wpAny_Expr_any (thn (he pins s σ H _ I h) fun v s1 ⟨x, H1, I1, r1, q1⟩ => ⟨σ, H1, I1, q1⟩) I.quiet hs
def tRet (te : TE) : TS := fun D σ H => te σ H D.rt
theorem ps_ret (he : PE X e te) : PS X (.Return (some e) pos) (tRet te) := by
  intro pins s σ H D I h
  exact wpAny_Return_some (thn (he pins s σ H _ I h) fun v s1 ⟨x, H1, I1, r1, q1⟩ => ⟨x, σ, H1, I1, r1, q1⟩)
def tRetN : TS := fun D _ H => D.rt .non H
def tIfS (c : TT) (t u : TS) : TS := fun D σ H => c σ H fun b H1 => if b = true then t D σ H1 else u D σ H1
theorem ps_if {c : Expr} {a b : List Stmt} {tc : TT} (hc : PT X c tc) (ha : PSs X a t) (hb : PSs X b u) : PS X (.If c a b pos) (tIfS tc t u) := by
  intro pins s σ H D I h
  refine wpAny_If (thn (hc pins s σ H _ I h) fun d s1 ⟨H1, I1, q1⟩ => ?_)
  cases d with
  | true => exact ha pins s1 σ H1 D I1 q1
  | false => exact hb pins s1 σ H1 D I1 q1
/-- code that the proof never comes to -/
def tNever : TS := fun _ _ _ => False
theorem ps_never : PS X st tNever := fun _ _ _ _ _ _ h => h.elim
end

/-! ### targets -/
abbrev TG := V → St → Hp → (St → Hp → Prop) → Prop
abbrev TGs := List V → St → Hp → (St → Hp → Prop) → Prop
def PG (X : Cx) (target : Expr) (t : TG) : Prop :=
  ∀ (pins : List (Addr × Obj)) (s : Shared) (σ : St) (H : Hp) (v : V) (u : Value) (Q : St → Hp → Prop), Inv X pins σ H s → RelV v u → t v σ H Q →
    wpAny (model X.prog X.w) X.A (assign target X.env u) (fun _ s' => ∃ σ' H', Inv X pins σ' H' s' ∧ Q σ' H') X.xe s
/-- several targets, one after another -/
def PGs (X : Cx) (ts : List Expr) (t : TGs) : Prop :=
  ∀ (pins : List (Addr × Obj)) (s : Shared) (σ : St) (H : Hp) (vs : List V) (us : List Value) (Q : St → Hp → Prop), Inv X pins σ H s → Vals vs us → t vs σ H Q →
    wpAny (model X.prog X.w) X.A (assignInOrder ((assignEach ts X.env).map (·.2)) us) (fun _ s' => ∃ σ' H', Inv X pins σ' H' s' ∧ Q σ' H') X.xe s
/-- o[i] = v, by values -/
abbrev TSet := V → V → V → Hp → (Hp → Prop) → Prop
def PSet (X : Cx) (t : TSet) : Prop :=
  ∀ (pins : List (Addr × Obj)) (s : Shared) (σ : St) (H : Hp) (o i v : V) (ov iv u : Value) (Q : Hp → Prop), Inv X pins σ H s → RelV o ov → RelV i iv → RelV v u → t o i v H Q →
    wpAny (model X.prog X.w) X.A (setItem ov iv u) (fun _ s' => ∃ H', Inv X pins σ H' s' ∧ Q H') X.xe s
/-- a op= b, by values -/
abbrev TIp := V → V → Hp → VK → Prop
def PIp (X : Cx) (op : Operator) (t : TIp) : Prop :=
  ∀ (pins : List (Addr × Obj)) (s : Shared) (σ : St) (H : Hp) (x y : V) (v u : Value) (Q : VK), Inv X pins σ H s → RelV x v → RelV y u → t x y H Q →
    wpAny (model X.prog X.w) X.A (inplaceOp op v u) (EP X pins σ Q) X.xe s
section
variable {X : Cx} {pos : Pos}
def gName (i : Nat) : TG := fun v σ H Q => Q (σ.set i (some v)) H
theorem pg_name {i : Nat} {x : Str} (hN : X.N.Nodup) (hi : X.N[i]? = some x) (hx : Loc X.env.scope x) (hf : X.fn x = true ∨ X.env.scope.names.lookup x = some .local := by first | exact .inl rfl | exact .inr rfl | assumption) : PG X (.Name x pos) (gName i) := by
  intro pins s σ H v u Q I r h
  exact wpAny_assign_Name (store_ok I hN hi hx r (fun s' I' => ⟨_, H, I', h⟩) hf)
def gNil : TGs := fun vs σ H Q => vs = [] ∧ Q σ H
inductive IgCons (t : TG) (u : TGs) (vs : List V) (σ : St) (H : Hp) (Q : St → Hp → Prop) : Prop
  | mk (v : _) (r : _) (h1 : vs = v :: r) (h2 : t v σ H fun σ' H' => u r σ' H' Q) : IgCons t u vs σ H Q
def gCons (t : TG) (u : TGs) : TGs := fun vs σ H Q => IgCons t u vs σ H Q
theorem pgs_nil : PGs X [] gNil := by
  intro pins s σ H vs us Q I r h
  obtain ⟨e, h⟩ := h
  subst e
  cases r
  exact assignInOrder_nil ⟨σ, H, I, h⟩
theorem pgs_cons {e : Expr} {es : List Expr} {t : TG} {u : TGs} (h1 : PG X e t) (h2 : PGs X es u)
    (hs : (assignEach (e :: es) X.env).map (·.2) = assign e X.env :: (assignEach es X.env).map (·.2) := by rfl) : PGs X (e :: es) (gCons t u) := by
  intro pins s σ H vs us Q I r h
  obtain ⟨v, vr, e1, h⟩ := h
  subst e1
  cases r with
  | cons r rr =>
    rw [hs]
    refine assignInOrder_cons (thn (h1 pins s σ H _ _ _ I r h) fun _ s1 ⟨σ1, H1, I1, q1⟩ => ?_)
    exact h2 pins s1 σ1 H1 _ _ Q I1 rr q1
/-- (a, b, ..) = a tuple of that length -/
inductive IgTup (K : PySem.W.Frag) (n : Nat) (t : TGs) (v : V) (σ : St) (H : Hp) (Q : St → Hp → Prop) : Prop
  | mk (a : _) (xs : _) (h1 : v = .ref a) (h2 : SqT K H a xs) (h3 : xs.length = n) (h4 : t xs σ H Q) : IgTup K n t v σ H Q
def gTup (K : PySem.W.Frag) (n : Nat) (t : TGs) : TG := fun v σ H Q => IgTup K n t v σ H Q
theorem pg_tup {es : List Expr} {k : Nat} {t : TGs} {n : Nat} (hc : X.calm = true) (h : PGs X es t)
    (hn : (assignEach es X.env).length = n := by rfl) (hst : (assignEach es X.env).findIdx? (·.1) = none := by rfl) : PG X (.Tuple es k pos) (gTup X.K n t) := by
  intro pins s σ H v u Q I r hw
  obtain ⟨a, xs, e1, hq, hl, hw⟩ := hw
  subst e1
  cases r
  obtain ⟨its, rv, ht, hz⟩ := I.tuple hq
  refine assign_Tuple_tuple (I.ok.hd hc) ht (by simp [hn, ← hl, rv.length]) hst fun h' hx => ?_
  have I1 : Inv X pins σ H { s with heap := h' } := I.kept (t' := s.toks) fun b o e => hx b o (Nat.ne_of_lt (Heap.lt_size e)) e
  exact h pins _ σ H xs _ Q I1 (by simpa using rv) hw
/-- o[i] = .. -/
def gSub (to ti : TE) (t : TSet) : TG := fun v σ H Q => to σ H fun o H1 => ti σ H1 fun i H2 => t o i v H2 fun H3 => Q σ H3
/-- target = value -/
def tAsg (te : TE) (g : TG) : TS := fun D σ H => te σ H fun x H1 => g x σ H1 D.nx
/-- name = value -/
theorem ps_set {i : Nat} {x : Str} {e : Expr} {te : TE} {pos' : Pos} (hN : X.N.Nodup) (hi : X.N[i]? = some x) (hx : Loc X.env.scope x) (he : PE X e te) (hs : swapsWith e (some (.Name x pos')) pos.line X.env = pure false := by rfl) (hf : X.fn x = true ∨ X.env.scope.names.lookup x = some .local := by first | exact .inl rfl | exact .inr rfl | assumption) :
    PS X (.Assign [.Name x pos'] e pos) (tAsg te (gName i)) := by
  intro pins s σ H D I h
  refine wpAny_Assign_Name (thn (he pins s σ H _ I h) fun v s1 ⟨y, H1, I1, r1, q1⟩ => ?_) hs
  exact store_ok I1 hN hi hx r1 (fun s2 I2 => ⟨_, H1, I2, q1⟩) hf
/-- a, b = x, y with plain local names: stored from the right; the pair itself is not tracked (the opening rows as in PyProof/Rows/TupAssign.lean:23) -/
inductive ItPar (i : Nat) (j : Nat) (D : Ends) (σ : St) (vs : List V) (H1 : Hp) : Prop
  | mk (v : _) (w : _) (h1 : vs = [v, w]) (h2 : D.nx ((σ.set i (some v)).set j (some w)) H1) : ItPar i j D σ vs H1
def tPar (i j : Nat) (ta : TA) : TS := fun D σ H => ta σ H fun vs H1 => ItPar i j D σ vs H1
/-- name op= e -/
def tAug (i : Nat) (te : TE) (ti : TIp) : TS := fun D σ H => ∃ x, σ[i]? = some (some x) ∧ te σ H fun y H1 => ti x y H1 fun z H2 => D.nx (σ.set i (some z)) H2
/-- o[i] op= e -/
def tAugS (to ti te : TE) (tget : V → V → Hp → VK → Prop) (tip : TIp) (tset : TSet) : TS := fun D σ H => to σ H fun o H1 => ti σ H1 fun i H2 => tget o i H2 fun x H3 => te σ H3 fun y H4 => tip x y H4 fun z H5 => tset o i z H5 fun H6 => D.nx σ H6
/-- o[i], by values -/
def PGet (X : Cx) (t : V → V → Hp → VK → Prop) : Prop :=
  ∀ (pins : List (Addr × Obj)) (s : Shared) (σ : St) (H : Hp) (o i : V) (ov iv : Value) (Q : VK), Inv X pins σ H s → RelV o ov → RelV i iv → t o i H Q →
    wpAny (model X.prog X.w) X.A (getItem ov iv) (EP X pins σ Q) X.xe s
/-- ints -/
def ipI (f : Int → Int → Int) : TIp := fun x y H Q => ∃ i j, x = .int i ∧ y = .int j ∧ Q (.int (f i j)) H
end

/-! ### while -/
section
variable {X : Cx} {pos : Pos}
/-- the invariant W with its measure -/
def tWhile (c : TT) (tb : TS) : TS := fun D σ H => ∃ W : Nat → St → Hp → Prop, (∃ m, W m σ H) ∧ ∀ m σ H, W m σ H →
  c σ H fun b H1 => if b = true then ∃ N : St → Hp → Prop, (∀ σ' H', N σ' H' → ∃ m', m' < m ∧ W m' σ' H') ∧ tb { D with nx := N, ct := N, bk := D.nx } σ H1 else D.nx σ H1
theorem ps_while {c : Expr} {body : List Stmt} {tc : TT} {tb : TS} (hp : PassesOwn (model X.prog X.w) X.A X.env X.xe) (hc : PT X c tc) (hb : PSs X body tb) : PS X (.While c body [] pos) (tWhile tc tb) := by
  intro pins s σ H D I h
  obtain ⟨W, ⟨m0, w0⟩, turn⟩ := h
  refine wpAny_While (codeAny_whileLoop (fun n s' => ∃ σ' H', Inv X pins σ' H' s' ∧ W n σ' H') ?_ m0 ⟨σ, H, I, w0⟩)
  rintro n s1 ⟨σ1, H1, I1, w1⟩
  refine wpAny_passesOwn hp (thn (hc pins s1 σ1 H1 _ I1 (turn n σ1 H1 w1)) fun b s2 ⟨H2, I2, q2⟩ => ?_)
  cases b with
  | true =>
    obtain ⟨N, hN, q2⟩ := q2
    rw [if_pos rfl]
    refine wpAny_passesOwn hp (thn (hb pins s2 σ1 H2 _ I2 q2) fun f s3 q3 => ?_)
    cases f with
    | next =>
      obtain ⟨σ3, H3, I3, n3⟩ := q3
      obtain ⟨m', hm, w3⟩ := hN σ3 H3 n3
      exact ⟨m', hm, σ3, H3, I3, w3⟩
    | cont =>
      obtain ⟨σ3, H3, I3, n3⟩ := q3
      obtain ⟨m', hm, w3⟩ := hN σ3 H3 n3
      exact ⟨m', hm, σ3, H3, I3, w3⟩
    | brk => exact q3
    | ret v => exact q3
  | false =>
    rw [if_neg Bool.false_ne_true]
    exact wpAny_execs_nil ⟨σ1, H2, I2, q2⟩
end

/-! ### what a loop or a comprehension walks -/
/-- at turn i: it yields x (the heap may grow), or it stops -/
structure It where
  go : Nat → Hp → Prop
  yld : Nat → Hp → V → Hp → Prop
  stop : Nat → Hp → Prop
/-- the iterator's own objects may turn: they are not the frame's, not pinned, younger than the entry (or a comprehension's own) -/
def FpOk (X : Cx) (pins : List (Addr × Obj)) (H : Hp) (b : Addr) : Prop :=
  H b = none ∧ b ≠ X.env.locals ∧ b ∉ X.fs ∧ (b ∈ X.ex ∨ X.s₀.heap.objs.size ≤ b) ∧ (∀ x c, X.env.cells.lookup x = some c → c ≠ b) ∧ ∀ p ∈ X.pn ++ pins, p.1 ≠ b
theorem Inv.fpOk {X : Cx} {pins : List (Addr × Obj)} {σ : St} {H H' : Hp} {s : Shared} {b : Addr} (I : Inv X pins σ H s) (hb : s.heap.objs.size ≤ b) (hn : H' b = none) : FpOk X pins H' b := by
  refine ⟨hn, Nat.ne_of_gt (Nat.lt_of_lt_of_le I.lt hb), I.nofs hb, .inr (Nat.le_trans I.sz hb), fun x c e z => ?_, fun p hp z => ?_⟩
  · obtain ⟨v, q⟩ := I.cell x c e
    exact absurd (Nat.lt_of_lt_of_le q.lt (by rw [z]; exact hb)) (Nat.lt_irrefl _)
  · exact absurd (Nat.lt_of_lt_of_le (Heap.lt_size (I.pin p hp).1) (by rw [z]; exact hb)) (Nat.lt_irrefl _)
structure Turn (P : Program) (w : World) (K : PySem.W.Frag) (tg : Expr) (J : It) (fp : List Addr) (it : Addr) (tn : Nat → Heap → Prop) : Prop where
  mem : it ∈ fp
  obj : ∀ i h, tn i h → ∀ b ∈ fp, ∃ o, h.get? b = some o ∧ ∀ v, o.data ≠ .cell v
  keep : ∀ i h h', tn i h → (∀ b ∈ fp, ∀ o, h.get? b = some o → h'.get? b = some o) → tn i h'
  item : ∀ (X : Cx), X.prog = P → X.w = w → X.K = K → X.calm = true → ∀ (i : Nat) (pins : List (Addr × Obj)) (s : Shared) (σ : St) (H : Hp) (E : Value → Shared → Prop), Inv X pins σ H s → (∀ b ∈ fp, FpOk X pins H b) → tn i s.heap → J.go i H →
    wpAny (model P w) X.A (pyNext (.ref it)) (fun r s1 => ∃ u, r = some u ∧
      wpAny (model P w) X.A (letOwnedTupleGo tg (.ref it) u) (fun _ s2 => ∃ x H', Inv X pins σ H' s2 ∧ RelV x u ∧ J.yld i H x H' ∧ tn (i + 1) s2.heap ∧ ∀ b ∈ fp, H' b = none) E s1) E s
  done : ∀ (X : Cx), X.prog = P → X.w = w → X.K = K → X.calm = true → ∀ (i : Nat) (pins : List (Addr × Obj)) (s : Shared) (σ : St) (H : Hp) (E : Value → Shared → Prop), Inv X pins σ H s → (∀ b ∈ fp, FpOk X pins H b) → tn i s.heap → J.stop i H →
    wpAny (model P w) X.A (pyNext (.ref it)) (fun r s1 => r = none ∧ Inv X pins σ H s1) E s
  self : ∀ (A : Around) (i : Nat) (s : Shared) (Q : Value → Shared → Prop) (E : Value → Shared → Prop), tn i s.heap → Q (.ref it) s → wpAny (model P w) A (pyIter (.ref it)) Q E s
abbrev TI := St → Hp → (It → Hp → Prop) → Prop
/-- an iterator has come -/
def PIE (X : Cx) (pins : List (Addr × Obj)) (σ : St) (tg : Expr) (R : It → Hp → Prop) (itv : Value) (s2 : Shared) : Prop :=
  ∃ (it : Addr) (fp : List Addr) (tn : Nat → Heap → Prop) (J : It) (H' : Hp), itv = .ref it ∧ Inv X pins σ H' s2 ∧ Turn X.prog X.w X.K tg J fp it tn ∧ tn 0 s2.heap ∧ (∀ b ∈ fp, FpOk X pins H' b) ∧ R J H'
def PI (X : Cx) (tg iter : Expr) (wi : TI) : Prop :=
  ∀ (pins : List (Addr × Obj)) (s : Shared) (σ : St) (H : Hp) (R : It → Hp → Prop), Inv X pins σ H s → wi σ H R →
    wpAny (model X.prog X.w) X.A (eval iter X.env) (fun v s1 => wpAny (model X.prog X.w) X.A (pyIter v) (PIE X pins σ tg R) X.xe s1) X.xe s

/-- the step ahead of the store is nothing for an iterator that keeps no tuple -/
theorem go_of {M : Model} {A : Around} {E : Value → Shared → Prop} {s : Shared} {tg : Expr} {it : Addr} {u : Value} {o : Obj} {n : String} {vs : Array Value} {Q : Unit → Shared → Prop} (ho : s.heap.get? it = some o) (hc : o.cls = .type n) (hd : o.data = .fields vs)
    (hn : ["enumerate", "zip", "dict_itemiterator", "dict_reverseitemiterator", "odict_iterator", "itertools.zip_longest", "itertools.pairwise"].contains n = false) (hQ : Q () s) : wpAny M A (letOwnedTupleGo tg (.ref it) u) Q E s := by
  unfold letOwnedTupleGo
  cases tg <;> first
    | exact wpAny_pure hQ
    | (cases u <;> first
        | exact wpAny_pure hQ
        | (refine wpAny_bind (wpAny_load ho ?_)
           rw [hc, hd]
           show wpAny M A (if (["enumerate", "zip", "dict_itemiterator", "dict_reverseitemiterator", "odict_iterator", "itertools.zip_longest", "itertools.pairwise"].contains n && vs[0]? == some (rawInt _)) = true then _ else _) Q E s
           rw [if_neg (by intro h; rw [hn, Bool.false_and] at h; cases h)]
           exact wpAny_pure hQ))

/-- the list at a, as it stands at each turn (a loop may append to it) -/
def Itl (K : PySem.W.Frag) (a : Addr) : It :=
  ⟨fun i H => ∃ xs x, SqL K H a xs ∧ xs[i]? = some x, fun i H x H' => H' = H ∧ ∀ xs, SqL K H a xs → xs[i]? = some x, fun i H => ∃ xs, SqL K H a xs ∧ xs.length ≤ i⟩
def Itt (K : PySem.W.Frag) (a : Addr) : It :=
  ⟨fun i H => ∃ xs x, SqT K H a xs ∧ xs[i]? = some x, fun i H x H' => H' = H ∧ ∀ xs, SqT K H a xs → xs[i]? = some x, fun i H => ∃ xs, SqT K H a xs ∧ xs.length ≤ i⟩
/-- lo, lo + 1, .. (n of them) -/
def Itr (lo : Int) (n : Nat) : It := ⟨fun i _ => i < n, fun i H x H' => H' = H ∧ x = .int (lo + i), fun i _ => n ≤ i⟩
theorem turn_list {P : Program} {w : World} {K : PySem.W.Frag} {tg : Expr} (a it : Addr) : Turn P w K tg (Itl K a) [it] it (fun i h => h.IsListIter it a i) where
  mem := by simp
  obj := fun i h st b hb => by
    have e : b = it := by simpa using hb
    subst e
    obtain ⟨o, e, c, d⟩ := st
    exact ⟨o, e, fun v z => by rw [d] at z; cases z⟩
  keep := fun i h h' st k => st.at fun o e => k it (by simp) o e
  item := by
    intro X hP hw hK hc i pins s σ H E I hf st hg
    subst hP hw hK
    obtain ⟨xs, x, hq, hx⟩ := hg
    obtain ⟨its, rv, p, hz⟩ := I.list hq
    obtain ⟨u, hu, ru⟩ := rv.get hx
    obtain ⟨f0, f1, f2, f3, f4, f5⟩ := hf it (by simp)
    refine wpAny_pyNext_list_item st p.isList (x := u) (by simpa using hu) fun h' st' sb => ?_
    have I1 : Inv X pins σ H { s with heap := h' } := I.turned (t' := s.toks) (fun b o hb e => (sb.2 b hb).trans e) f0 f1 f3 f4 f5
    obtain ⟨o, e, c, d⟩ := id st'
    exact ⟨u, rfl, go_of (s := { s with heap := h' }) e c d (by decide) ⟨x, H, I1, ru, ⟨rfl, fun ys hy => by rw [I.list_inj hy hq]; exact hx⟩, st', fun b hb => (hf b hb).1⟩⟩
  done := by
    intro X hP hw hK hc i pins s σ H E I hf st hg
    subst hP hw hK
    obtain ⟨xs, hq, hx⟩ := hg
    obtain ⟨its, rv, p, hz⟩ := I.list hq
    obtain ⟨f0, f1, f2, f3, f4, f5⟩ := hf it (by simp)
    have hl := rv.length
    exact wpAny_pyNext_list_end (I.ok.hd hc) st p.isList (by simp; omega) fun h' eb => ⟨rfl, I.turned (t' := s.toks) (fun b o hb e => eb b o hb e) f0 f1 f3 f4 f5⟩
  self := fun _ _ _ _ _ st h => wpAny_pyIter_listiter st h
theorem turn_tuple {P : Program} {w : World} {K : PySem.W.Frag} {tg : Expr} (a it : Addr) : Turn P w K tg (Itt K a) [it] it (fun i h => h.IsTupleIter it a i) where
  mem := by simp
  obj := fun i h st b hb => by
    have e : b = it := by simpa using hb
    subst e
    obtain ⟨o, e, c, d⟩ := st
    exact ⟨o, e, fun v z => by rw [d] at z; cases z⟩
  keep := fun i h h' st k => st.at fun o e => k it (by simp) o e
  item := by
    intro X hP hw hK hc i pins s σ H E I hf st hg
    subst hP hw hK
    obtain ⟨xs, x, hq, hx⟩ := hg
    obtain ⟨its, rv, p, hz⟩ := I.tuple hq
    obtain ⟨u, hu, ru⟩ := rv.get hx
    obtain ⟨f0, f1, f2, f3, f4, f5⟩ := hf it (by simp)
    refine wpAny_pyNext_tuple_item st (show s.heap.IsTuple a its.toArray from p) (x := u) (by simpa using hu) fun h' st' sb => ?_
    have I1 : Inv X pins σ H { s with heap := h' } := I.turned (t' := s.toks) (fun b o hb e => (sb.2 b hb).trans e) f0 f1 f3 f4 f5
    obtain ⟨o, e, c, d⟩ := id st'
    exact ⟨u, rfl, go_of (s := { s with heap := h' }) e c d (by decide) ⟨x, H, I1, ru, ⟨rfl, fun ys hy => by rw [I.tuple_inj hy hq]; exact hx⟩, st', fun b hb => (hf b hb).1⟩⟩
  done := by
    intro X hP hw hK hc i pins s σ H E I hf st hg
    subst hP hw hK
    obtain ⟨xs, hq, hx⟩ := hg
    obtain ⟨its, rv, p, hz⟩ := I.tuple hq
    obtain ⟨f0, f1, f2, f3, f4, f5⟩ := hf it (by simp)
    have hl := rv.length
    exact wpAny_pyNext_tuple_end (I.ok.hd hc) st (show s.heap.IsTuple a its.toArray from p) (by simp; omega) fun h' eb => ⟨rfl, I.turned (t' := s.toks) (fun b o hb e => eb b o hb e) f0 f1 f3 f4 f5⟩
  self := fun _ _ _ _ _ st h => wpAny_pyIter_tupleiter st h
theorem turn_range {P : Program} {w : World} {K : PySem.W.Frag} {tg : Expr} (it : Addr) (lo : Int) (n : Nat) : Turn P w K tg (Itr lo n) [it] it (fun i h => IsRangeIter h it (lo + (i : Nat) * 1) ((n : Int) - (i : Nat)) 1) where
  mem := by simp
  obj := fun i h st b hb => by
    have e : b = it := by simpa using hb
    subst e
    exact ⟨_, st, fun v z => by
      have z' : Data.fields _ = Data.cell v := z
      cases z'⟩
  keep := fun i h h' st k => k it (by simp) _ st
  item := by
    intro X hP hw hK hc i pins s σ H E I hf st hg
    subst hP hw hK
    obtain ⟨f0, f1, f2, f3, f4, f5⟩ := hf it (by simp)
    have W := Walks.range (prog := X.prog) (w := X.w) (I.ok.hd hc) it lo 1 n
    refine W.item i s _ _ hg st fun v h' tk hv st' kk => ?_
    obtain ⟨t, rfl⟩ := hv
    have I1 : Inv X pins σ H { s with heap := h', toks := tk } := I.turned (fun b o hb e => kk b o (by simpa using hb) e) f0 f1 f3 f4 f5
    refine ⟨_, rfl, go_of (s := { s with heap := h', toks := tk }) (n := "range_iterator") st' rfl rfl (by decide) ⟨.int (lo + i), H, I1, ⟨t, ?_⟩, ⟨rfl, rfl⟩, st', fun b hb => (hf b hb).1⟩⟩
    rw [Int.mul_one]
  done := by
    intro X hP hw hK hc i pins s σ H E I hf st hg
    subst hP hw hK
    obtain ⟨f0, f1, f2, f3, f4, f5⟩ := hf it (by simp)
    exact wpAny_pyNext_range_end (I.ok.hd hc) st (by have : n ≤ i := hg; omega) fun h' eb => ⟨rfl, I.turned (t' := s.toks) (fun b o hb e => eb b o hb e) f0 f1 f3 f4 f5⟩
  self := fun _ _ _ _ _ st h => wpAny_pyIter_rangeiter st h
end L2

namespace L2
open PySem PySem.Spec PyProof.Rows
section
variable {X : Cx} {tg : Expr}
inductive IiList (K : PySem.W.Frag) (R : It → Hp → Prop) (x : V) (H1 : Hp) : Prop
  | mk (a : _) (h1 : x = .ref a) (h2 : (∃ xs, SqL K H1 a xs)) (h3 : R (Itl K a) H1) : IiList K R x H1
def iList (K : PySem.W.Frag) (tl : TE) : TI := fun σ H R => tl σ H fun x H1 => IiList K R x H1
inductive IiTup (K : PySem.W.Frag) (R : It → Hp → Prop) (x : V) (H1 : Hp) : Prop
  | mk (a : _) (h1 : x = .ref a) (h2 : (∃ xs, SqT K H1 a xs)) (h3 : R (Itt K a) H1) : IiTup K R x H1
def iTup (K : PySem.W.Frag) (tl : TE) : TI := fun σ H R => tl σ H fun x H1 => IiTup K R x H1
theorem pi_list {l : Expr} {tl : TE} (hl : PE X l tl) : PI X tg l (iList X.K tl) := by
  intro pins s σ H R I h
  refine thn (hl pins s σ H _ I h) fun v s1 ⟨x, H1, I1, r1, q1⟩ => ?_
  obtain ⟨a, e, ⟨xs, hq⟩, q⟩ := q1
  subst e
  cases r1
  obtain ⟨its, rv, p, hz⟩ := I1.list hq
  refine wpAny_pyIter_list p.isList ?_
  refine ⟨s1.heap.objs.size, [s1.heap.objs.size], _, _, H1, rfl, I1.kept (t' := s1.toks) fun b o e => Heap.get?_push_of_some _ e, turn_list a _, ⟨_, Heap.get?_push_size _ rfl, rfl, rfl⟩, fun b hb => ?_, q⟩
  have e : b = s1.heap.objs.size := by simpa using hb
  subst e
  exact I1.fpOk (Nat.le_refl _) (I1.hok.fresh (Nat.le_refl _))
theorem pi_tup {l : Expr} {tl : TE} (hl : PE X l tl) : PI X tg l (iTup X.K tl) := by
  intro pins s σ H R I h
  refine thn (hl pins s σ H _ I h) fun v s1 ⟨x, H1, I1, r1, q1⟩ => ?_
  obtain ⟨a, e, ⟨xs, hq⟩, q⟩ := q1
  subst e
  cases r1
  obtain ⟨its, rv, p, hz⟩ := I1.tuple hq
  refine wpAny_pyIter_tuple (show s1.heap.IsTuple a its.toArray from p) ?_
  refine ⟨s1.heap.objs.size, [s1.heap.objs.size], _, _, H1, rfl, I1.kept (t' := s1.toks) fun b o e => Heap.get?_push_of_some _ e, turn_tuple a _, ⟨_, Heap.get?_push_size _ rfl, rfl, rfl⟩, fun b hb => ?_, q⟩
  have e : b = s1.heap.objs.size := by simpa using hb
  subst e
  exact I1.fpOk (Nat.le_refl _) (I1.hok.fresh (Nat.le_refl _))
/-- a range object just made, walked -/
theorem range_it {pins : List (Addr × Obj)} {σ : St} {H : Hp} {s : Shared} {R : It → Hp → Prop} {E : Value → Shared → Prop} {lo hi : Int} {t u v : Tok} {tk : Nat} (I : Inv X pins σ H s) (h1 : -(2 ^ 62) ≤ lo) (h2 : lo < 2 ^ 62) (h3 : -(2 ^ 62) ≤ hi) (h4 : hi < 2 ^ 62)
    (q : R (Itr lo (hi - lo).toNat) H) : wpAny (model X.prog X.w) X.A (pyIter (.ref s.heap.objs.size)) (PIE X pins σ tg R) E { s with heap := s.heap.push { cls := .type "range", data := .fields #[.int lo t, .int hi u, .int 1 v] }, toks := tk } := by
  refine wpAny_pyIter_range (IsRange.new ..) (small_one h1 h2 h3 h4) ?_
  have I1 : Inv X pins σ H { s with heap := s.heap.push { cls := .type "range", data := .fields #[.int lo t, .int hi u, .int 1 v] }, toks := tk } := I.kept fun b o e => Heap.get?_push_of_some _ e
  refine ⟨(s.heap.push { cls := .type "range", data := .fields #[.int lo t, .int hi u, .int 1 v] }).objs.size, [(s.heap.push { cls := .type "range", data := .fields #[.int lo t, .int hi u, .int 1 v] }).objs.size], _, _, H, rfl,
    I1.kept (t' := tk) fun b o e => Heap.get?_push_of_some _ e, turn_range _ lo (hi - lo).toNat, ?_, fun b hb => ?_, q⟩
  · have e1 : lo + ((0 : Nat) : Int) * 1 = lo := by simp
    have e2 : (((hi - lo).toNat : Nat) : Int) - ((0 : Nat) : Int) = Builtin.Range.rangeSize lo hi 1 := by rw [rangeSize_one]; split <;> omega
    show IsRangeIter _ _ (lo + ((0 : Nat) : Int) * 1) ((((hi - lo).toNat : Nat) : Int) - ((0 : Nat) : Int)) 1
    rw [e1, e2]
    exact Heap.get?_push_size _ rfl
  · have e : b = (s.heap.push { cls := .type "range", data := .fields #[.int lo t, .int hi u, .int 1 v] }).objs.size := by simpa using hb
    subst e
    exact I1.fpOk (Nat.le_refl _) (I1.hok.fresh (Nat.le_refl _))
def iRng1 (ta : TA) : TI := fun σ H R => ta σ H fun vs H1 => ∃ j : Int, vs = [.int j] ∧ -(2 ^ 62) ≤ j ∧ j < 2 ^ 62 ∧ R (Itr 0 j.toNat) H1
def iRng2 (ta : TA) : TI := fun σ H R => ta σ H fun vs H1 => ∃ i j : Int, vs = [.int i, .int j] ∧ (-(2 ^ 62) ≤ i ∧ i < 2 ^ 62 ∧ -(2 ^ 62) ≤ j ∧ j < 2 ^ 62) ∧ R (Itr i (j - i).toNat) H1
theorem pi_range1 {a : Expr} {ta : TA} {p pos : Pos} (hg : Gl X "range") (hm : X.mg "range" = none) (ha : PA X [a] ta) (hs : starEach [a] X.env = [(false, eval a X.env)] := by rfl) : PI X tg (.Call (.Name "range" p) [a] [] pos) (iRng1 ta) := by
  intro pins s σ H R I h
  refine Call_ (ld_blt I hg hm boot_range (PyProof.Rows.callWith_type1 (thn (ha pos pins s σ H _ I h) fun us s1 ⟨vs, H1, I1, r1, q1⟩ => ?_) hs rfl))
  obtain ⟨j, e, q1, q2, q⟩ := q1
  subst e
  cases r1 with
  | cons r rr =>
    cases rr
    obtain ⟨t, rfl⟩ := r
    exact call_range_1 (range_it I1 (by omega) (by omega) q1 q2 (by simpa using q))

/-! ### for -/
/-- W: the invariant by the turn and a measure; N: what the body is to reach -/
def tFor (wi : TI) (g : TG) (tb : TS) : TS := fun D σ H => wi σ H fun J H1 => ∃ W : Nat → Nat → St → Hp → Prop, (∃ m, W 0 m σ H1) ∧ ∀ i m σ H, W i m σ H →
  (J.stop i H ∧ D.nx σ H) ∨ (J.go i H ∧ ∃ N : St → Hp → Prop, (∀ σ' H', N σ' H' → ∃ m', m' < m ∧ W (i + 1) m' σ' H') ∧ ∀ x H', J.yld i H x H' → g x σ H' fun σ2 H2 => tb { D with nx := N, ct := N, bk := D.nx } σ2 H2)
/-- the records at fp as they stand -/
def pinsAt (fp : List Addr) (h : Heap) : List (Addr × Obj) := fp.filterMap fun b => (h.get? b).map fun o => (b, o)
theorem mem_pinsAt {fp : List Addr} {h : Heap} {b : Addr} {o : Obj} (hb : b ∈ fp) (e : h.get? b = some o) : (b, o) ∈ pinsAt fp h := List.mem_filterMap.mpr ⟨b, hb, by rw [e]; rfl⟩
theorem of_pinsAt {fp : List Addr} {h : Heap} {p : Addr × Obj} (hp : p ∈ pinsAt fp h) : p.1 ∈ fp ∧ h.get? p.1 = some p.2 := by
  obtain ⟨b, hb, e⟩ := List.mem_filterMap.mp hp
  cases q : h.get? b with
  | none => rw [q] at e; cases e
  | some o =>
    rw [q] at e
    have e' : (b, o) = p := Option.some.inj e
    subst e'
    exact ⟨hb, q⟩
theorem Inv.pinned {pins : List (Addr × Obj)} {σ : St} {H : Hp} {s : Shared} {fp : List Addr} (I : Inv X pins σ H s) (hf : ∀ b ∈ fp, FpOk X pins H b) (ho : ∀ b ∈ fp, ∃ o, s.heap.get? b = some o ∧ ∀ v, o.data ≠ .cell v) : Inv X (pins ++ pinsAt fp s.heap) σ H s :=
  I.pins_of fun p hp => (List.mem_append.mp hp).elim (fun z => I.pin p (List.mem_append_right _ z)) fun z => by
    obtain ⟨hb, e⟩ := of_pinsAt z
    obtain ⟨f0, f1, f2, _⟩ := hf p.1 hb
    obtain ⟨o, e', d⟩ := ho p.1 hb
    rw [e] at e'; cases e'
    exact ⟨e, f0, f1, f2, d⟩
theorem Inv.unpinned {pins pl : List (Addr × Obj)} {σ : St} {H : Hp} {s : Shared} (I : Inv X (pins ++ pl) σ H s) : Inv X pins σ H s := I.pins_of fun p hp => I.pin p (List.mem_append_right _ (List.mem_append_left _ hp))
theorem ps_for {iter : Expr} {body : List Stmt} {wi : TI} {g : TG} {tb : TS} {pos : Pos} (hp : PassesOwn (model X.prog X.w) X.A X.env X.xe) (hc : X.calm = true) (hi : PI X tg iter wi) (hg : PG X tg g) (hb : PSs X body tb)
    (hs : ∀ x, foldedSetIterable iter X.env x = pure x := by intro _; rfl) : PS X (.For tg iter body [] pos) (tFor wi g tb) := by
  intro pins s σ H D I h
  refine wpAny_For (thn (hi pins s σ H _ I h) fun v s1 h1 => thn h1 fun itv s2 h2 => ?_) hs
  obtain ⟨it, fp, tn, J, H2, e, I2, T, st2, f2, W, ⟨m0, w0⟩, turn⟩ := h2
  subst e
  -- what stays true of the iterator's objects through the loop
  have stat : ∀ {H' : Hp}, (∀ b ∈ fp, H' b = none) → ∀ b ∈ fp, FpOk X pins H' b := fun hn b hb => ⟨hn b hb, (f2 b hb).2⟩
  refine codeAny_forLoop_any (fun n s' => ∃ i σ' H', Inv X pins σ' H' s' ∧ tn i s'.heap ∧ (∀ b ∈ fp, H' b = none) ∧ W i n σ' H') ?_ m0 ⟨0, σ, H2, I2, st2, fun b hb => (f2 b hb).1, w0⟩
  rintro n s3 ⟨i, σ3, H3, I3, st3, fr3, w3⟩
  rcases turn i n σ3 H3 w3 with ⟨stop, qn⟩ | ⟨go, N, hN, step⟩
  · refine wpAny_passesOwn hp (thn (T.done X rfl rfl rfl hc i pins s3 σ3 H3 X.xe I3 (stat fr3) st3 stop) fun r s4 ⟨hr, I4⟩ => ?_)
    subst hr
    exact wpAny_execs_nil ⟨σ3, H3, I4, qn⟩
  · refine wpAny_passesOwn hp (thn (T.item X rfl rfl rfl hc i pins s3 σ3 H3 X.xe I3 (stat fr3) st3 go) fun r s4 ⟨u, hr, h4⟩ => ?_)
    subst hr
    refine wpAny_passesOwn hp (thn h4 fun _ s5 ⟨x, H5, I5, r5, y5, st5, fr5⟩ => ?_)
    have I5' := I5.pinned (stat fr5) (T.obj _ _ st5)
    refine wpAny_passesOwn hp (thn (hg _ s5 σ3 H5 x u _ I5' r5 (step x H5 y5)) fun _ s6 ⟨σ6, H6, I6, q6⟩ => ?_)
    refine wpAny_passesOwn hp (thn (hb _ s6 σ6 H6 _ I6 q6) fun f s7 q7 => ?_)
    have again : ∀ {σ7 : St} {H7 : Hp}, Inv X (pins ++ pinsAt fp s5.heap) σ7 H7 s7 → N σ7 H7 → ∃ m, m < n ∧ ∃ i σ' H', Inv X pins σ' H' s7 ∧ tn i s7.heap ∧ (∀ b ∈ fp, H' b = none) ∧ W i m σ' H' := fun {σ7 H7} I7 n7 => by
      obtain ⟨m', hm, w7⟩ := hN σ7 H7 n7
      refine ⟨m', hm, i + 1, σ7, H7, I7.unpinned, T.keep _ _ _ st5 fun b hb o e => (I7.pin (b, o) (List.mem_append_right _ (List.mem_append_right _ (mem_pinsAt hb e)))).1, fun b hb => ?_, w7⟩
      obtain ⟨o, e, d⟩ := T.obj _ _ st5 b hb
      exact (I7.pin (b, o) (List.mem_append_right _ (List.mem_append_right _ (mem_pinsAt hb e)))).2.1
    cases f with
    | next => obtain ⟨σ7, H7, I7, n7⟩ := q7; exact again I7 n7
    | cont => obtain ⟨σ7, H7, I7, n7⟩ := q7; exact again I7 n7
    | brk => obtain ⟨σ7, H7, I7, q7⟩ := q7; exact ⟨σ7, H7, I7.unpinned, q7⟩
    | ret v => obtain ⟨x7, σ7, H7, I7, r7, q7⟩ := q7; exact ⟨x7, σ7, H7, I7.unpinned, r7, q7⟩
end

/-! ### the forms one uses -/
/-- over a list that the body leaves as it is -/
theorem for_list {K : PySem.W.Frag} {a : Addr} {xs : List V} {g : TG} {tb : TS} {D : Ends} {σ : St} {H : Hp} (Pv : Nat → St → Hp → Prop) (h0 : Pv 0 σ H) (hl : ∀ i σ H, i ≤ xs.length → Pv i σ H → SqL K H a xs)
    (hs : ∀ i x σ H, xs[i]? = some x → Pv i σ H → g x σ H fun σ2 H2 => tb { D with nx := Pv (i + 1), ct := Pv (i + 1), bk := D.nx } σ2 H2) (hd : ∀ σ H, Pv xs.length σ H → D.nx σ H) :
    ∃ W : Nat → Nat → St → Hp → Prop, (∃ m, W 0 m σ H) ∧ ∀ i m σ H, W i m σ H →
      ((Itl K a).stop i H ∧ D.nx σ H) ∨ ((Itl K a).go i H ∧ ∃ N : St → Hp → Prop, (∀ σ' H', N σ' H' → ∃ m', m' < m ∧ W (i + 1) m' σ' H') ∧ ∀ x H', (Itl K a).yld i H x H' → g x σ H' fun σ2 H2 => tb { D with nx := N, ct := N, bk := D.nx } σ2 H2) := by
  refine ⟨fun i m σ H => m = xs.length - i ∧ i ≤ xs.length ∧ Pv i σ H, ⟨xs.length, by simp, Nat.zero_le _, h0⟩, ?_⟩
  rintro i m σ H ⟨rfl, hi, p⟩
  have q := hl i σ H hi p
  by_cases hlt : i < xs.length
  · refine .inr ⟨⟨xs, xs[i], q, by simp [hlt]⟩, Pv (i + 1), fun σ' H' p' => ⟨xs.length - (i + 1), by omega, rfl, hlt, p'⟩, fun x H' y => ?_⟩
    obtain ⟨e, y⟩ := y
    subst e
    exact hs i x σ _ (y xs q) p
  · have e : i = xs.length := by omega
    subst e
    exact .inl ⟨⟨xs, q, Nat.le_refl _⟩, hd σ H p⟩
theorem for_tup {K : PySem.W.Frag} {a : Addr} {xs : List V} {g : TG} {tb : TS} {D : Ends} {σ : St} {H : Hp} (Pv : Nat → St → Hp → Prop) (h0 : Pv 0 σ H) (hl : ∀ i σ H, i ≤ xs.length → Pv i σ H → SqT K H a xs)
    (hs : ∀ i x σ H, xs[i]? = some x → Pv i σ H → g x σ H fun σ2 H2 => tb { D with nx := Pv (i + 1), ct := Pv (i + 1), bk := D.nx } σ2 H2) (hd : ∀ σ H, Pv xs.length σ H → D.nx σ H) :
    ∃ W : Nat → Nat → St → Hp → Prop, (∃ m, W 0 m σ H) ∧ ∀ i m σ H, W i m σ H →
      ((Itt K a).stop i H ∧ D.nx σ H) ∨ ((Itt K a).go i H ∧ ∃ N : St → Hp → Prop, (∀ σ' H', N σ' H' → ∃ m', m' < m ∧ W (i + 1) m' σ' H') ∧ ∀ x H', (Itt K a).yld i H x H' → g x σ H' fun σ2 H2 => tb { D with nx := N, ct := N, bk := D.nx } σ2 H2) := by
  refine ⟨fun i m σ H => m = xs.length - i ∧ i ≤ xs.length ∧ Pv i σ H, ⟨xs.length, by simp, Nat.zero_le _, h0⟩, ?_⟩
  rintro i m σ H ⟨rfl, hi, p⟩
  have q := hl i σ H hi p
  by_cases hlt : i < xs.length
  · refine .inr ⟨⟨xs, xs[i], q, by simp [hlt]⟩, Pv (i + 1), fun σ' H' p' => ⟨xs.length - (i + 1), by omega, rfl, hlt, p'⟩, fun x H' y => ?_⟩
    obtain ⟨e, y⟩ := y
    subst e
    exact hs i x σ _ (y xs q) p
  · have e : i = xs.length := by omega
    subst e
    exact .inl ⟨⟨xs, q, Nat.le_refl _⟩, hd σ H p⟩
theorem for_range {lo : Int} {n : Nat} {g : TG} {tb : TS} {D : Ends} {σ : St} {H : Hp} (Pv : Nat → St → Hp → Prop) (h0 : Pv 0 σ H)
    (hs : ∀ i σ H, i < n → Pv i σ H → g (.int (lo + i)) σ H fun σ2 H2 => tb { D with nx := Pv (i + 1), ct := Pv (i + 1), bk := D.nx } σ2 H2) (hd : ∀ σ H, Pv n σ H → D.nx σ H) :
    ∃ W : Nat → Nat → St → Hp → Prop, (∃ m, W 0 m σ H) ∧ ∀ i m σ H, W i m σ H →
      ((Itr lo n).stop i H ∧ D.nx σ H) ∨ ((Itr lo n).go i H ∧ ∃ N : St → Hp → Prop, (∀ σ' H', N σ' H' → ∃ m', m' < m ∧ W (i + 1) m' σ' H') ∧ ∀ x H', (Itr lo n).yld i H x H' → g x σ H' fun σ2 H2 => tb { D with nx := N, ct := N, bk := D.nx } σ2 H2) := by
  refine ⟨fun i m σ H => m = n - i ∧ i ≤ n ∧ Pv i σ H, ⟨n, by simp, Nat.zero_le _, h0⟩, ?_⟩
  rintro i m σ H ⟨rfl, hi, p⟩
  by_cases hlt : i < n
  · refine .inr ⟨hlt, Pv (i + 1), fun σ' H' p' => ⟨n - (i + 1), by omega, rfl, hlt, p'⟩, fun x H' y => ?_⟩
    obtain ⟨e, y⟩ := y
    subst e y
    exact hs i σ _ hlt p
  · have e : i = n := by omega
    subst e
    exact .inl ⟨Nat.le_refl _, hd σ H p⟩
/-- while, by a word and a measure of the state -/
theorem while_by {c : TT} {tb : TS} {D : Ends} {σ : St} {H : Hp} (Pv : St → Hp → Prop) (μ : St → Hp → Nat) (h0 : Pv σ H)
    (hs : ∀ σ H, Pv σ H → c σ H fun b H1 => if b = true then tb { D with nx := fun σ' H' => Pv σ' H' ∧ μ σ' H' < μ σ H, ct := fun σ' H' => Pv σ' H' ∧ μ σ' H' < μ σ H, bk := D.nx } σ H1 else D.nx σ H1)
    (mono : ∀ σ H Q Q', (∀ b H1, Q b H1 → Q' b H1) → c σ H Q → c σ H Q') : tWhile c tb D σ H := by
  refine ⟨fun m σ H => m = μ σ H ∧ Pv σ H, ⟨_, rfl, h0⟩, ?_⟩
  rintro m σ H ⟨rfl, p⟩
  refine mono σ H _ _ (fun b H1 q => ?_) (hs σ H p)
  cases b with
  | true => exact ⟨_, fun σ' H' ⟨p', l⟩ => ⟨_, l, rfl, p'⟩, q⟩
  | false => exact q
end L2

namespace L2
open PySem PySem.Spec PyProof.Rows

abbrev R2 := V → V → Hp → VK → Prop
/-- a two-place operation on values: f is binaryOp op, inplaceOp op or compareOp op -/
def OpR (X : Cx) (f : Value → Value → Sem Value) (r : R2) : Prop :=
  ∀ (pins : List (Addr × Obj)) (s : Shared) (σ : St) (H : Hp) (x y : V) (v u : Value) (Q : VK), Inv X pins σ H s → RelV x v → RelV y u → r x y H Q →
    wpAny (model X.prog X.w) X.A (f v u) (EP X pins σ Q) X.xe s
/-- a one-place operation -/
def UnR (X : Cx) (f : Value → Sem Value) (r : V → Hp → VK → Prop) : Prop :=
  ∀ (pins : List (Addr × Obj)) (s : Shared) (σ : St) (H : Hp) (x : V) (v : Value) (Q : VK), Inv X pins σ H s → RelV x v → r x H Q →
    wpAny (model X.prog X.w) X.A (f v) (EP X pins σ Q) X.xe s
/-- a call of a value that is known (a builtin, a type) with values -/
def CallR (X : Cx) (f : Value) (r : List V → Hp → VK → Prop) : Prop :=
  ∀ (pins : List (Addr × Obj)) (s : Shared) (σ : St) (H : Hp) (xs : List V) (us : List Value) (Q : VK), Inv X pins σ H s → Vals xs us → r xs H Q →
    wpAny (model X.prog X.w) X.A (call f us) (EP X pins σ Q) X.xe s
/-- a value's truth -/
def TruR (X : Cx) (r : V → Hp → (Bool → Hp → Prop) → Prop) : Prop :=
  ∀ (pins : List (Addr × Obj)) (s : Shared) (σ : St) (H : Hp) (x : V) (v : Value) (Q : Bool → Hp → Prop), Inv X pins σ H s → RelV x v → r x H Q →
    wpAny (model X.prog X.w) X.A (truthy v) (TP X pins σ Q) X.xe s

def tOp (r : R2) (ta tb : TE) : TE := fun σ H Q => ta σ H fun x H1 => tb σ H1 fun y H2 => r x y H2 Q
def tUn (r : V → Hp → VK → Prop) (ta : TE) : TE := fun σ H Q => ta σ H fun x H1 => r x H1 Q
/-- ints in, under C, and a value out -/
def rI (C : Int → Int → Prop) (g : Int → Int → V) : R2 := fun x y H Q => ∃ i j, x = .int i ∧ y = .int j ∧ C i j ∧ Q (g i j) H
inductive IrI0 (g : Int → Int → V) (x : V) (y : V) (H : Hp) (Q : VK) : Prop
  | mk (i : _) (j : _) (h1 : x = .int i) (h2 : y = .int j) (h3 : Q (g i j) H) : IrI0 g x y H Q
def rI0 (g : Int → Int → V) : R2 := fun x y H Q => IrI0 g x y H Q
inductive IrU (g : Int → V) (x : V) (H : Hp) (Q : VK) : Prop
  | mk (i : _) (h1 : x = .int i) (h2 : Q (g i) H) : IrU g x H Q
def rU (g : Int → V) : V → Hp → VK → Prop := fun x H Q => IrU g x H Q

section
variable {X : Cx} {a b c : Expr} {ta tb tc : TE} {pos : Pos}

theorem binT (ha : PE X a ta) (hb : PE X b tb) {pins : List (Addr × Obj)} {s : Shared} {σ : St} {H : Hp} {R : V → V → Hp → Prop} (I : Inv X pins σ H s)
    (h : ta σ H fun x H1 => tb σ H1 fun y H2 => R x y H2) {Q : Value → Shared → Prop} {f : Value → Value → Sem Value}
    (hf : ∀ v u s2 x y H2, Inv X pins σ H2 s2 → RelV x v → RelV y u → R x y H2 → wpAny (model X.prog X.w) X.A (f v u) Q X.xe s2) :
    wpAny (model X.prog X.w) X.A (eval a X.env) (fun v s₁ => wpAny (model X.prog X.w) X.A (eval b X.env) (fun u s₂ => wpAny (model X.prog X.w) X.A (f v u) Q X.xe s₂) X.xe s₁) X.xe s := by
  refine thn (ha pins s σ H _ I h) fun v s1 ⟨x, H1, I1, r1, q1⟩ => ?_
  refine thn (hb pins s1 σ H1 _ I1 q1) fun u s2 ⟨y, H2, I2, r2, q2⟩ => ?_
  exact hf v u s2 x y H2 I2 r1 r2 q2

theorem pe_op {op : Operator} {r : R2} (ho : OpR X (binaryOp op) r) (ha : PE X a ta) (hb : PE X b tb) : PE X (.BinOp a op b pos) (tOp r ta tb) := by
  intro pins s σ H Q I h
  exact wpAny_BinOp (binT ha hb I h fun v u s2 x y H2 I2 rx ry q => ho pins s2 σ H2 x y v u Q I2 rx ry q)
theorem pe_un {op : UnaryOp} {r : V → Hp → VK → Prop} (ho : UnR X (unaryOp op) r) (ha : PE X a ta) : PE X (.UnaryOp op a pos) (tUn r ta) := by
  intro pins s σ H Q I h
  exact UnaryOp_ (thn (ha pins s σ H _ I h) fun v s1 ⟨x, H1, I1, r1, q1⟩ => ho pins s1 σ H1 x v Q I1 r1 q1)

/-! ### ints -/
theorem opI {f : Value → Value → Sem Value} {C : Int → Int → Prop} {g : Int → Int → Int}
    (rule : ∀ (i j : Int) (t u : Tok) (s : Shared) (Q : Value → Shared → Prop) (E : Value → Shared → Prop), C i j → Q (.int (g i j) s.toks) { s with toks := s.toks + 1 } → wpAny (model X.prog X.w) X.A (f (.int i t) (.int j u)) Q E s) :
    OpR X f (rI C fun i j => .int (g i j)) := by
  intro pins s σ H x y v u Q I rx ry h
  obtain ⟨i, j, rfl, rfl, hc, q⟩ := h
  obtain ⟨t, rfl⟩ := rx
  obtain ⟨t', rfl⟩ := ry
  exact rule i j t t' s _ _ hc ⟨.int (g i j), H, I.tok _, ⟨_, rfl⟩, q⟩
theorem opI0 {f : Value → Value → Sem Value} {g : Int → Int → Int}
    (rule : ∀ (i j : Int) (t u : Tok) (s : Shared) (Q : Value → Shared → Prop) (E : Value → Shared → Prop), Q (.int (g i j) s.toks) { s with toks := s.toks + 1 } → wpAny (model X.prog X.w) X.A (f (.int i t) (.int j u)) Q E s) :
    OpR X f (rI0 fun i j => .int (g i j)) := by
  intro pins s σ H x y v u Q I rx ry h
  obtain ⟨i, j, rfl, rfl, q⟩ := h
  obtain ⟨t, rfl⟩ := rx
  obtain ⟨t', rfl⟩ := ry
  exact rule i j t t' s _ _ ⟨.int (g i j), H, I.tok _, ⟨_, rfl⟩, q⟩
theorem opB0 {f : Value → Value → Sem Value} {g : Int → Int → Bool}
    (rule : ∀ (i j : Int) (t u : Tok) (s : Shared) (Q : Value → Shared → Prop) (E : Value → Shared → Prop), Q (.bool (g i j)) s → wpAny (model X.prog X.w) X.A (f (.int i t) (.int j u)) Q E s) :
    OpR X f (rI0 fun i j => .bl (g i j)) := by
  intro pins s σ H x y v u Q I rx ry h
  obtain ⟨i, j, rfl, rfl, q⟩ := h
  obtain ⟨t, rfl⟩ := rx
  obtain ⟨t', rfl⟩ := ry
  exact rule i j t t' s _ _ ⟨.bl (g i j), H, I, rfl, q⟩

def CDiv (i j : Int) : Prop := 0 < j ∧ j < 1073741824
def CDivN (i j : Int) : Prop := j ≠ 0 ∧ j.natAbs < 1073741824
def CPow (i j : Int) : Prop := 0 ≤ j ∧ j ≤ 1000000 ∧ i.natAbs < 2 ^ 64
def CMul (i j : Int) : Prop := (-(2 ^ 64) < i ∧ i < 2 ^ 64) ∨ (-(2 ^ 64) < j ∧ j < 2 ^ 64)
theorem CMul.ok {i j : Int} (h : CMul i j) : IntMulOk i j := by
  rcases h with ⟨h1, h2⟩ | ⟨h1, h2⟩
  · exact .of_left (intBits_le_64 h1 h2)
  · exact .of_right (intBits_le_64 h1 h2)

theorem op_add : OpR X (binaryOp .Add) (rI0 fun i j => .int (i + j)) := opI0 fun _ _ _ _ _ _ _ q => add_int q
theorem op_sub : OpR X (binaryOp .Sub) (rI0 fun i j => .int (i - j)) := opI0 fun _ _ _ _ _ _ _ q => sub_int q
theorem op_mul : OpR X (binaryOp .Mult) (rI CMul fun i j => .int (i * j)) := opI fun _ _ _ _ _ _ _ hc q => mul_int q hc.ok
/-- // by a positive divisor -/
theorem op_fdiv : OpR X (binaryOp .FloorDiv) (rI CDiv fun i j => .int (i / j)) := opI fun i j _ _ _ _ _ hc q => by
  have h1 : (0 : Int) < j := hc.1
  have h2 : j < 1073741824 := hc.2
  exact floordiv_int (by omega) (by rw [Int.fdiv_eq_ediv_of_nonneg i (by omega)]; exact q) (.inl (PyProof.noPylong_small (by omega)))
/-- % by a positive divisor of any size -/
theorem op_mod : OpR X (binaryOp .Mod) (rI (fun _ j => 0 < j) fun i j => .int (i % j)) := opI fun i j _ _ _ _ _ hc q => by
  have h1 : (0 : Int) < j := hc
  exact mod_int' (by omega) (by rw [Int.fmod_eq_emod_of_nonneg i (by omega)]; exact q)
theorem op_pow : OpR X (binaryOp .Pow) (rI CPow fun i j => .int (i ^ j.toNat)) := opI fun _ _ _ _ _ _ _ hc q => pow_int_small hc.1 hc.2.1 hc.2.2 q


theorem unI {f : Value → Sem Value} {g : Int → Int}
    (rule : ∀ (i : Int) (t : Tok) (s : Shared) (Q : Value → Shared → Prop) (E : Value → Shared → Prop), Q (.int (g i) s.toks) { s with toks := s.toks + 1 } → wpAny (model X.prog X.w) X.A (f (.int i t)) Q E s) :
    UnR X f (rU fun i => .int (g i)) := by
  intro pins s σ H x v Q I rx h
  obtain ⟨i, rfl, q⟩ := h
  obtain ⟨t, rfl⟩ := rx
  exact rule i t s _ _ ⟨.int (g i), H, I.tok _, ⟨_, rfl⟩, q⟩
theorem un_neg : UnR X (unaryOp .USub) (rU fun i => .int (-i)) := unI fun _ _ _ _ _ q => neg_int q

/-! ### bools among ints: n += (a < b) -/
end

/-! ### comparisons -/
/-- the scalars that == tells apart as data does -/
def scal : V → V → Bool
  | .non, .non => true | .non, .int _ => true | .int _, .non => true | .non, .bl _ => true | .bl _, .non => true | .non, .str _ => true | .str _, .non => true
  | .int _, .int _ => true | .bl _, .bl _ => true | .str _, .str _ => true | .byt _, .byt _ => true
  | .int _, .str _ => true | .str _, .int _ => true | .bl _, .str _ => true | .str _, .bl _ => true
  | _, _ => false
def rEq : R2 := fun x y H Q => scal x y = true ∧ Q (.bl (decide (x = y))) H
def rNe : R2 := fun x y H Q => scal x y = true ∧ Q (.bl (!decide (x = y))) H

theorem dec_int {i j : Int} : decide (V.int i = V.int j) = (i == j) := by
  rw [Bool.eq_iff_iff]
  simp
theorem dec_bl {i j : Bool} : decide (V.bl i = V.bl j) = (i == j) := by
  rw [Bool.eq_iff_iff]
  simp
theorem dec_str {i j : Str} : decide (V.str i = V.str j) = (i == j) := by
  rw [Bool.eq_iff_iff]
  simp
theorem dec_byt {i j : Array UInt8} : decide (V.byt i = V.byt j) = (i.toList == j.toList) := by
  rw [Bool.eq_iff_iff]
  cases i
  cases j
  simp

section
variable {X : Cx} {a b c : Expr} {ta tb tc : TE} {pos : Pos}
theorem fin_bl {pins : List (Addr × Obj)} {σ : St} {H : Hp} {s : Shared} {Q : VK} {k k' : Bool} (I : Inv X pins σ H s) (q : Q (.bl k) H) (e : k = k') : EP X pins σ Q (.bool k') s := by
  subst e
  exact ⟨.bl k, H, I, rfl, q⟩
theorem op_eq : OpR X (compareOp .Eq) rEq := by
  intro pins s σ H x y v u Q I rx ry h
  obtain ⟨hs, q⟩ := h
  cases x with
  | non =>
    cases rx
    cases y with
    | non => cases ry; exact PySem.EqNone.eq_none_none (fin_bl I q (by simp))
    | bl j => cases ry; exact PySem.EqNone.eq_none_bool (fin_bl I q (by simp))
    | int j => obtain ⟨t', rfl⟩ := ry; exact PySem.EqNone.eq_none_int (fin_bl I q (by simp))
    | str j => obtain ⟨t', rfl⟩ := ry; exact PySem.EqNone.eq_none_str (fin_bl I q (by simp))
    | _ => exact absurd (show false = true from hs) Bool.false_ne_true
  | bl i =>
    cases rx
    cases y with
    | non => cases ry; exact PySem.EqNone.eq_bool_none (fin_bl I q (by simp))
    | bl j => cases ry; exact eq_bool (fin_bl I q dec_bl)
    | str j => obtain ⟨t', rfl⟩ := ry; exact PySem.EqMixed.eq_bool_str (fin_bl I q (by simp))
    | _ => exact absurd (show false = true from hs) Bool.false_ne_true
  | int i =>
    obtain ⟨t, rfl⟩ := rx
    cases y with
    | non => cases ry; exact PySem.EqNone.eq_int_none (fin_bl I q (by simp))
    | int j => obtain ⟨t', rfl⟩ := ry; exact eq_int (fin_bl I q dec_int)
    | str j => obtain ⟨t', rfl⟩ := ry; exact PySem.EqMixed.eq_int_str (fin_bl I q (by simp))
    | _ => exact absurd (show false = true from hs) Bool.false_ne_true
  | str i =>
    obtain ⟨t, rfl⟩ := rx
    cases y with
    | non => cases ry; exact PySem.EqNone.eq_str_none (fin_bl I q (by simp))
    | bl j => cases ry; exact PySem.EqMixed.eq_str_bool (fin_bl I q (by simp))
    | int j => obtain ⟨t', rfl⟩ := ry; exact PySem.EqMixed.eq_str_int (fin_bl I q (by simp))
    | str j => obtain ⟨t', rfl⟩ := ry; exact eq_str (fin_bl I q dec_str)
    | _ => exact absurd (show false = true from hs) Bool.false_ne_true
  | byt i =>
    obtain ⟨t, rfl⟩ := rx
    cases y with
    | byt j => obtain ⟨t', rfl⟩ := ry; exact PySem.W.eq_bytes (fin_bl I q dec_byt)
    | _ => exact absurd (show false = true from hs) Bool.false_ne_true
  | _ => cases y <;> exact absurd (show false = true from hs) Bool.false_ne_true
theorem op_ne : OpR X (compareOp .NotEq) rNe := by
  intro pins s σ H x y v u Q I rx ry h
  obtain ⟨hs, q⟩ := h
  cases x with
  | non =>
    cases rx
    cases y with
    | non => cases ry; exact PySem.EqNone.ne_none_none (fin_bl I q (by simp))
    | bl j => cases ry; exact PySem.EqNone.ne_none_bool (fin_bl I q (by simp))
    | int j => obtain ⟨t', rfl⟩ := ry; exact PySem.EqNone.ne_none_int (fin_bl I q (by simp))
    | str j => obtain ⟨t', rfl⟩ := ry; exact PySem.EqNone.ne_none_str (fin_bl I q (by simp))
    | _ => exact absurd (show false = true from hs) Bool.false_ne_true
  | bl i =>
    cases rx
    cases y with
    | non => cases ry; exact PySem.EqNone.ne_bool_none (fin_bl I q (by simp))
    | bl j => cases ry; exact ne_bool (fin_bl I q (congrArg not dec_bl))
    | str j => obtain ⟨t', rfl⟩ := ry; exact PySem.EqMixed.ne_bool_str (fin_bl I q (by simp))
    | _ => exact absurd (show false = true from hs) Bool.false_ne_true
  | int i =>
    obtain ⟨t, rfl⟩ := rx
    cases y with
    | non => cases ry; exact PySem.EqNone.ne_int_none (fin_bl I q (by simp))
    | int j => obtain ⟨t', rfl⟩ := ry; exact ne_int (fin_bl I q (congrArg not dec_int))
    | str j => obtain ⟨t', rfl⟩ := ry; exact PySem.EqMixed.ne_int_str (fin_bl I q (by simp))
    | _ => exact absurd (show false = true from hs) Bool.false_ne_true
  | str i =>
    obtain ⟨t, rfl⟩ := rx
    cases y with
    | non => cases ry; exact PySem.EqNone.ne_str_none (fin_bl I q (by simp))
    | bl j => cases ry; exact PySem.EqMixed.ne_str_bool (fin_bl I q (by simp))
    | int j => obtain ⟨t', rfl⟩ := ry; exact PySem.EqMixed.ne_str_int (fin_bl I q (by simp))
    | str j => obtain ⟨t', rfl⟩ := ry; exact ne_str (fin_bl I q (congrArg not dec_str))
    | _ => exact absurd (show false = true from hs) Bool.false_ne_true
  | byt i =>
    obtain ⟨t, rfl⟩ := rx
    cases y with
    | byt j => obtain ⟨t', rfl⟩ := ry; exact PySem.W.ne_bytes (fin_bl I q (congrArg not dec_byt))
    | _ => exact absurd (show false = true from hs) Bool.false_ne_true
  | _ => cases y <;> exact absurd (show false = true from hs) Bool.false_ne_true

theorem op_lt : OpR X (compareOp .Lt) (rI0 fun i j => .bl (decide (i < j))) := opB0 fun _ _ _ _ _ _ _ q => lt_int q
theorem op_le : OpR X (compareOp .LtE) (rI0 fun i j => .bl (decide (i ≤ j))) := opB0 fun _ _ _ _ _ _ _ q => le_int q
theorem op_gt : OpR X (compareOp .Gt) (rI0 fun i j => .bl (decide (j < i))) := opB0 fun _ _ _ _ _ _ _ q => gt_int q
theorem op_ge : OpR X (compareOp .GtE) (rI0 fun i j => .bl (decide (j ≤ i))) := opB0 fun _ _ _ _ _ _ _ q => ge_int q

/-- is None, is not None: the right side a value none -/
theorem op_isN : OpR X (compareOp .Is) (fun x y H Q => y = .non ∧ Q (.bl (decide (x = .non))) H) := by
  intro pins s σ H x y v u Q I rx ry h
  obtain ⟨rfl, q⟩ := h
  cases ry
  refine is_none_gen (fin_bl I q ?_)
  cases x <;> first
    | (cases rx; rfl)
    | (obtain ⟨t, rfl⟩ := rx; rfl)
theorem op_notN : OpR X (compareOp .IsNot) (fun x y H Q => y = .non ∧ Q (.bl (!decide (x = .non))) H) := by
  intro pins s σ H x y v u Q I rx ry h
  obtain ⟨rfl, q⟩ := h
  cases ry
  refine isnot_none_gen (fin_bl I q ?_)
  cases x <;> first
    | (cases rx; rfl)
    | (obtain ⟨t, rfl⟩ := rx; rfl)

/-- is, is not of two objects that are tracked lists or instances -/
def isObj : HO → Bool
  | .lst _ => true
  | .ins _ _ _ => true
  | _ => false


theorem nomark (b : Expr) {op : CmpOp} (h : op ≠ .In := by decide) (h2 : op ≠ .NotIn := by decide) : behindInMarks op b = false := by
  have e1 : (op == CmpOp.In) = false := by cases op <;> first | rfl | exact absurd rfl h
  have e2 : (op == CmpOp.NotIn) = false := by cases op <;> first | rfl | exact absurd rfl h2
  cases b <;> simp [behindInMarks, e1, e2]
/-- a comparison as a value; hm: nomark b, or (for in, not in) by with_unfolding_all rfl -/
theorem pe_cmpR {op : CmpOp} {r : R2} (ho : OpR X (compareOp op) r) (ha : PE X a ta) (hb : PE X b tb) (hm : behindInMarks op b = false) : PE X (.Compare a [op] [b] pos) (tOp r ta tb) := by
  intro pins s σ H Q I h
  exact wpAny_Compare1 (binT ha hb I h fun v u s2 x y H2 I2 rx ry q => ho pins s2 σ H2 x y v u Q I2 rx ry q) hm
/-- a reading of a value as a test -/
inductive ItTest (Q : Bool → Hp → Prop) (x : V) (H' : Hp) : Prop
  | mk (k : _) (h1 : x = .bl k) (h2 : Q k H') : ItTest Q x H'
def tTest (t : TE) : TT := fun σ H Q => t σ H fun x H' => ItTest Q x H'
theorem pt_cmpR {op : CmpOp} {r : R2} (ho : OpR X (compareOp op) r) (ha : PE X a ta) (hb : PE X b tb) (hm : behindInMarks op b = false) : PT X (.Compare a [op] [b] pos) (tTest (tOp r ta tb)) := by
  intro pins s σ H Q I h
  refine wpAny_isTrue_Compare1 (thn (ha pins s σ H _ I h) fun v s1 ⟨x, H1, I1, r1, q1⟩ => thn (hb pins s1 σ H1 _ I1 q1) fun u s2 ⟨y, H2, I2, r2, q2⟩ =>
    thn (ho pins s2 σ H2 x y v u _ I2 r1 r2 q2) fun c s3 ⟨z, H3, I3, r3, k, e, q3⟩ => ?_) hm
  subst e
  cases r3
  exact wpAny_truthy_bool ⟨H3, I3, q3⟩
/-- a op1 b op2 c -/
def tChain (r r' : R2) (ta tb tc : TE) : TE := fun σ H Q => ta σ H fun x H1 => tb σ H1 fun y H2 => r x y H2 fun z H3 => ∃ k, z = .bl k ∧
  (if k = true then tc σ H3 fun w' H4 => r' y w' H4 Q else Q (.bl false) H3)

/-! ### truth -/
/-- a value's truth by the abstract heap -/
def TruV (K : PySem.W.Frag) (x : V) (H : Hp) (k : Bool) : Prop :=
  match x with
  | .non => k = false
  | .bl b => k = b
  | .int i => k = (i != 0)
  | .str y => y.length ≤ sizeLine ∧ k = ((y.length : Int) != 0)
  | .byt y => y.size ≤ sizeLine ∧ k = ((y.size : Int) != 0)
  | .ref p => (∃ xs, SqL K H p xs ∧ k = !xs.isEmpty) ∨ (∃ xs, SqT K H p xs ∧ k = !xs.isEmpty) ∨ ∃ kvs, H p = some (.dK kvs) ∧ k = !kvs.isEmpty
  | _ => False
theorem line63 : (sizeLine : Nat) < 2 ^ 63 := by rw [sizeLine_eq]; decide

/-! ### strs and bytes -/
theorem op_add_str : OpR X (binaryOp .Add) (fun x y H Q => ∃ i j, x = .str i ∧ y = .str j ∧ i.length + j.length ≤ sizeLine ∧ Q (.str (i ++ j)) H) := by
  intro pins s σ H x y v u Q I rx ry h
  obtain ⟨i, j, rfl, rfl, hz, q⟩ := h
  obtain ⟨t, rfl⟩ := rx
  obtain ⟨t', rfl⟩ := ry
  exact add_str (fun t' tk => ⟨.str (i ++ j), H, I.tok _, ⟨_, rfl⟩, q⟩) hz

def PlainIxT (b : Expr) : Prop := ∀ o i, subscripted b false o i = operate [o, i] (getItem o i)

/-! ### scalar builtins, by CallR -/
theorem vals1 {x : V} {us : List Value} (r : Vals [x] us) : ∃ u, us = [u] ∧ RelV x u := by
  cases r with
  | cons r1 r2 => cases r2; exact ⟨_, rfl, r1⟩
theorem call_abs : CallR X (.builtin "abs") (fun xs H Q => ∃ i, xs = [.int i] ∧ Q (.int (if i < 0 then -i else i)) H) := by
  intro pins s σ H xs us Q I r h
  obtain ⟨i, rfl, q⟩ := h
  obtain ⟨u, rfl, t, rfl⟩ := vals1 r
  exact call_abs_int fun u tk => ⟨.int (if i < 0 then -i else i), H, I.tok _, ⟨_, rfl⟩, q⟩
/-- len of a str, a bytes, a list, a tuple -/
def LenV (K : PySem.W.Frag) (x : V) (H : Hp) (n : Nat) : Prop :=
  match x with
  | .str y => y.length ≤ sizeLine ∧ n = y.length
  | .byt y => y.size ≤ sizeLine ∧ n = y.size
  | .ref p => (∃ xs, SqL K H p xs ∧ n = xs.length) ∨ ∃ xs, SqT K H p xs ∧ n = xs.length
  | _ => False
end
end L2

namespace L2
open PySem PySem.Spec PyProof.Rows

/-! ### an instance, its attributes a map -/
structure ObjM (h : Heap) (x dx C : Addr) (mA : Str → Option Value) : Prop where
  obj : h.get? x = some (PySem.W.instObj C dx)
  ns : h.Ns1 dx mA
  ne : dx ≠ x

theorem lookIn_ns {h : Heap} {dx : Addr} {mA : Str → Option Value} (n : h.Ns1 dx mA) : ∃ od, h.get? dx = some od ∧ ∀ name, PySem.W.lookIn name od = some (mA name) := by
  obtain ⟨o, es, ep, ho, hd, hk, _, hm⟩ := n
  refine ⟨o, ho, fun name => ?_⟩
  have e := hm name
  unfold nsFind findBy at e
  rw [← Array.find?_toList] at e
  unfold PySem.W.lookIn
  rw [hd]
  dsimp only
  split
  · rename_i y q
    rw [q] at e
    exact congrArg some e
  · rename_i q
    rw [q] at e
    have a : es.toList.any (·.refKey) = false := by
      rw [List.any_eq_false]
      intro y hy
      obtain ⟨z, t, hkey⟩ := hk y (Array.mem_toList_iff.mp hy)
      simp [DictEntry.refKey, hkey]
    have a' : ¬ es.toList.any (·.refKey) = true := by rw [a]; exact Bool.false_ne_true
    rw [if_neg a']
    exact congrArg some e

theorem ObjM.look {h : Heap} {x dx C : Addr} {mA : Str → Option Value} (I : ObjM h x dx C mA) : ∃ od, PySem.W.InstAt h x (PySem.W.instObj C dx) C (some od) ∧ ∀ name, PySem.W.lookIn name od = some (mA name) :=
  let ⟨od, ho, hl⟩ := lookIn_ns I.ns
  ⟨od, ⟨I.obj, rfl, rfl, ho⟩, hl⟩

section
variable {prog : Program} {w : World} {A : Around} {E : Value → Shared → Prop} {s : Shared} {K : PySem.W.Frag} {x dx C f : Addr} {mA : Str → Option Value} {name : Str} {v : Value}

theorem get_map {expr : Bool} {Q : Value → Shared → Prop} (X : K.In s.heap) (I : ObjM s.heap x dx C mA) (hg : PySem.W.plainGet K C name = true) (hh : PySem.W.hasDictIn K C = true)
    (ha : PySem.W.findIn K (.ref C) name = some none) (hv : mA name = some v) (hv' : PySem.W.handedIn v = true) (h : Q v { s with toks := s.toks + 1 }) :
    wpAny (model prog w) A (getAttr (.ref x) name expr) Q E s := by
  obtain ⟨od, J, hl⟩ := I.look
  exact PySem.W.get_value X J (PySem.W.plainGet_of hg).1 (PySem.W.findObj_own hh ha rfl (by rw [hl, hv])) hv' h


theorem get_meth {pl : Sem Bool} {Q : Value × List Value → Shared → Prop} (X : K.In s.heap) (I : ObjM s.heap x dx C mA) (hg : PySem.W.plainGet K C name = true)
    (hf : PySem.W.findIn K (.ref C) name = some (some (.ref f))) (ht : PySem.W.isFn K (.ref f) = true) (hv : mA name = none) (h : Q (.ref f, [.ref x]) s) :
    wpAny (model prog w) A (getMethod (.ref x) name pl) Q E s := by
  obtain ⟨od, J, hl⟩ := I.look
  exact PySem.W.method_fn X J (PySem.W.plainGet_of hg).1 (PySem.W.plainGet_of hg).2 hf (beq_iff_eq.mp ht) (by show (PySem.W.lookIn name od).map (·.isSome) = some false; rw [hl, hv]; rfl) h

theorem set_map {ns : List Str} {Q : Unit → Shared → Prop} (X : K.In s.heap) (I : ObjM s.heap x dx C mA)
    (hs : PySem.W.findIn K (.ref C) "__setattr__" = some (some (.builtin "object.__setattr__"))) (hp : PySem.W.plainOver K C = true) (ht : PySem.W.takerIn K C name = some none) (hh : PySem.W.hasDictIn K C = true)
    (hw : PySem.Within mA ns) (hsz : ns.length ≤ sizeLine)
    (h : ∀ h', ObjM h' x dx C (fun y => if y = name then some v else mA y) → Heap.SameBut dx s.heap h' → Q () { s with heap := h', toks := s.toks + 2 }) :
    wpAny (model prog w) A (setAttr (.ref x) name v) Q E s := by
  obtain ⟨od, J, hl⟩ := I.look
  refine PySem.W.set_plain X J hs (PySem.W.osa_open (s := { s with toks := s.toks + 1 }) (r := none) X J hp ht fun b => ?_)
  obtain ⟨cd, hc, hd'⟩ := PySem.W.any_some hh
  have hx : s.heap.get? x = some ⟨.ref C, some dx, .plain, #[]⟩ := I.obj
  refine wpAny_bind (wpAny_pure (wpAny_bind (wpAny_bind (wpAny_loadPart hx (wpAny_bind (PySem.W.Looks.here (s := { s with toks := s.toks + 1 }) (PySem.W.looks_clsIn X hc) ?_))))))
  rw [hd']
  refine wpAny_pure (a := some dx) (wpAny_bind (wpAny_pure (wpAny_bind ?_)))
  refine wpAny_nsSet1 (s := { s with toks := s.toks + 1 }) I.ns fun h' hn2 hs2 => ?_
  obtain ⟨oD, esD, epD, hoD, hdD, hcD⟩ := hn2.count (PySem.Within.cons name v hw)
  refine wpAny_bind (wpAny_lookBehind hoD (by rw [hdD]; exact pastItsLine_dict (Nat.le_trans hcD (by rw [List.length_cons]; omega))) ?_)
  exact wpAny_pure (h _ ⟨(hs2.2 _ (Ne.symm I.ne)).trans I.obj, hn2, I.ne⟩ hs2)

/-- C(..): the dict at the heap's end, the instance behind it; then its __init__ -/
theorem make_map {R : Result → Shared → Prop} {vs : List Value} {kw : List (Str × Value)} (X : K.In s.heap) (hm : PySem.W.makesIn K C = true)
    (hi : PySem.W.findIn K (.ref C) "__init__" = some (some (.ref f))) (hf : PySem.W.typeIn K (.ref f) = some (.type "function"))
    (h : codeAny (model prog w) (A.under (.builtin "type.__call__" ⟨.ref C :: vs, kw⟩)) (.call (.ref f) ⟨.ref (s.heap.objs.size + 1) :: vs, kw⟩) (PySem.W.InitBack (s.heap.objs.size + 1) R)
      { s with heap := (s.heap.push PySem.W.emptyDict).push (PySem.W.instObj C s.heap.objs.size) }) :
    codeAny (model prog w) A (.call (.ref C) ⟨vs, kw⟩) R s := by
  obtain ⟨hh, g, d, t, os⟩ := s
  exact PySem.W.make_core (PySem.W.makes_of X hm) (PySem.W.looks_findIn X hi) (fun self => PySem.W.bind_fn X self hf) (.inl rfl) h
end

/-! ### the attributes as a list of pairs -/
def putF (f : Str) (v : V) : List (Str × V) → List (Str × V)
  | [] => [(f, v)]
  | (g, x) :: r => if g = f then (g, v) :: r else (g, x) :: putF f v r
theorem lookup_putF (f g : Str) (v : V) : ∀ fs : List (Str × V), (putF f v fs).lookup g = if g = f then some v else fs.lookup g
  | [] => by
    show List.lookup g [(f, v)] = _
    by_cases h : g = f
    · have hb : (g == f) = true := beq_iff_eq.mpr h
      simp only [List.lookup, hb, if_pos h]
    · have hb : (g == f) = false := beq_eq_false_iff_ne.mpr h
      simp only [List.lookup, hb, if_neg h]
  | (k, x) :: r => by
    have ih := lookup_putF f g v r
    rw [show putF f v ((k, x) :: r) = (if k = f then (k, v) :: r else (k, x) :: putF f v r) from rfl]
    by_cases hk : k = f
    · rw [if_pos hk]
      by_cases h : g = k
      · have hb : (g == k) = true := beq_iff_eq.mpr h
        simp only [List.lookup, hb, if_pos (h.trans hk)]
      · have hb : (g == k) = false := beq_eq_false_iff_ne.mpr h
        simp only [List.lookup, hb, if_neg (fun e : g = f => h (e.trans hk.symm))]
    · rw [if_neg hk]
      by_cases h : g = k
      · have hb : (g == k) = true := beq_iff_eq.mpr h
        simp only [List.lookup, hb, if_neg (fun e : g = f => hk (h.symm.trans e))]
      · have hb : (g == k) = false := beq_eq_false_iff_ne.mpr h
        simp only [List.lookup, hb]
        exact ih
theorem keys_putF (f : Str) (v : V) : ∀ fs : List (Str × V), f ∈ (putF f v fs).map (·.1) ∧ ∀ g, g ∈ fs.map (·.1) → g ∈ (putF f v fs).map (·.1)
  | [] => ⟨by simp [putF], fun g h => by simp at h⟩
  | (k, x) :: r => by
    obtain ⟨i1, i2⟩ := keys_putF f v r
    rw [show putF f v ((k, x) :: r) = (if k = f then (k, v) :: r else (k, x) :: putF f v r) from rfl]
    by_cases hk : k = f
    · rw [if_pos hk]
      subst hk
      exact ⟨by simp, fun g h => by simpa using h⟩
    · rw [if_neg hk]
      refine ⟨?_, fun g h => ?_⟩
      · rw [List.map_cons]
        exact List.mem_cons_of_mem _ i1
      · rw [List.map_cons] at h ⊢
        rcases List.mem_cons.mp h with e | e
        · exact List.mem_cons.mpr (.inl e)
        · exact List.mem_cons_of_mem _ (i2 g e)
theorem length_putF (f : Str) (v : V) : ∀ fs : List (Str × V), (putF f v fs).length ≤ fs.length + 1
  | [] => by simp [putF]
  | (k, x) :: r => by
    have ih := length_putF f v r
    rw [show putF f v ((k, x) :: r) = (if k = f then (k, v) :: r else (k, x) :: putF f v r) from rfl]
    by_cases hk : k = f
    · rw [if_pos hk, List.length_cons, List.length_cons]; omega
    · rw [if_neg hk, List.length_cons, List.length_cons]; omega

theorem RelO.some_of {v : V} {o : Option Value} (r : RelO (some v) o) : ∃ u, o = some u ∧ RelV v u := by
  cases o with
  | none => exact (show False from r).elim
  | some u => exact ⟨u, rfl, r⟩
theorem RelO.none_of {o : Option Value} (r : RelO none o) : o = none := by
  cases o with
  | none => rfl
  | some u => exact (show False from r).elim
theorem handed_of {v : V} {u : Value} (r : RelV v u) : PySem.W.handedIn u = true := by
  cases v with
  | non => cases (show u = Value.none from r); rfl
  | bl b => cases (show u = Value.bool b from r); rfl
  | int i => obtain ⟨t, e⟩ := (show ∃ t, u = Value.int i t from r); cases e; rfl
  | str x => obtain ⟨t, e⟩ := (show ∃ t, u = Value.str x t from r); cases e; rfl
  | byt b => obtain ⟨t, e⟩ := (show ∃ t, u = Value.bytes b t from r); cases e; rfl
  | flt b => obtain ⟨t, e⟩ := (show ∃ t, u = Value.float b t from r); cases e; rfl
  | ref a => cases (show u = Value.ref a from r); rfl
  | ty n => cases (show u = Value.type n from r); rfl

section
variable {P : Program} {w : World} {H H' : Hp} {h h' : Heap} {a C dx : Addr} {fs fs' : List (Str × V)}
theorem ins_get (hok : HOk P w H h) (e : H a = some (.ins C dx fs)) : ∃ mA, ObjM h a dx C mA ∧ (∀ f, RelO (fs.lookup f) (mA f)) ∧ PySem.Within mA (fs.map (·.1)) ∧ fs.length ≤ 1000 ∧ H dx = some (.own a) := by
  obtain ⟨d, z, ne, ob, mA, n, r, q⟩ := (show ObjOk P w H h a (.ins C dx fs) from hok a _ e)
  exact ⟨mA, ⟨ob, n, ne⟩, r, q, z, d⟩
end

/-! ### what of the text a class must have -/
structure Cls (K : PySem.W.Frag) (C : Addr) : Prop where
  pg : PySem.W.plainGet K C Str.empty = true
  hd : PySem.W.hasDictIn K C = true
  po : PySem.W.plainOver K C = true
  sa : PySem.W.findIn K (.ref C) "__setattr__" = some (some (.builtin "object.__setattr__"))
theorem Cls.get {K : PySem.W.Frag} {C : Addr} (c : Cls K C) (f : Str) : PySem.W.plainGet K C f = true := c.pg
/-- no class of it has the name -/
def NoAttr (K : PySem.W.Frag) (C : Addr) (f : Str) : Prop := PySem.W.findIn K (.ref C) f = some none
theorem NoAttr.taker {K : PySem.W.Frag} {C : Addr} {f : Str} (n : NoAttr K C f) : PySem.W.takerIn K C f = some none := by
  unfold PySem.W.takerIn
  rw [show PySem.W.findIn K (.ref C) f = some none from n]
  rfl
/-- a constant of the class -/
structure Con (K : PySem.W.Frag) (C : Addr) (f : Str) (v : V) (u : Value) : Prop where
  at_ : PySem.W.findIn K (.ref C) f = some (some u)
  rel : RelV v u
  get : PySem.W.specialIn K u "__get__" = some none
  cp : PySem.W.copiedNames.contains f = false
/-- a method: a plain def of the class or of one above it -/
structure Meth (K : PySem.W.Frag) (C : Addr) (m : Str) (f : Addr) : Prop where
  at_ : PySem.W.findIn K (.ref C) m = some (some (.ref f))
  fn : PySem.W.isFn K (.ref f) = true
  kp : PySem.W.keepIn K (.ref f) = true

section
variable {X : Cx} {pins : List (Addr × Obj)} {σ : St} {H : Hp} {s : Shared} {a C dx : Addr} {fs : List (Str × V)} {f : Str} {v : V} {A : Around} {E : Value → Shared → Prop}

theorem getattr_ok {b : Bool} {Q : Value → Shared → Prop} (I : Inv X pins σ H s) (e : H a = some (.ins C dx fs)) (c : Cls X.K C) (n : NoAttr X.K C f) (l : fs.lookup f = some v)
    (h : ∀ u s', Inv X pins σ H s' → RelV v u → Q u s') : wpAny (model X.prog X.w) A (getAttr (.ref a) f b) Q E s := by
  obtain ⟨mA, O, r, _, _, _⟩ := ins_get I.hok e
  obtain ⟨u, hu, ru⟩ := RelO.some_of (v := v) (o := mA f) (by rw [← l]; exact r f)
  exact get_map I.kIn O (c.get f) c.hd n hu (handed_of ru) (h u _ (I.tok _) ru)


theorem getmeth_ok {m : Str} {g : Addr} {pl : Sem Bool} {Q : Value × List Value → Shared → Prop} (I : Inv X pins σ H s) (e : H a = some (.ins C dx fs)) (c : Cls X.K C) (k : Meth X.K C m g) (l : fs.lookup m = none)
    (h : Q (.ref g, [.ref a]) s) : wpAny (model X.prog X.w) A (getMethod (.ref a) m pl) Q E s := by
  obtain ⟨mA, O, r, _, _, _⟩ := ins_get I.hok e
  have hn : mA m = none := RelO.none_of (by rw [← l]; exact r m)
  exact get_meth I.kIn O (c.get m) k.at_ k.fn hn h

theorem setattr_ok {y : V} {u : Value} {Q : Unit → Shared → Prop} (I : Inv X pins σ H s) (e : H a = some (.ins C dx fs)) (c : Cls X.K C) (n : NoAttr X.K C f) (hl : fs.length < 1000) (ry : RelV y u)
    (h : ∀ s', Inv X pins σ (upd H a (.ins C dx (putF f y fs))) s' → Q () s') : wpAny (model X.prog X.w) A (setAttr (.ref a) f u) Q E s := by
  obtain ⟨mA, O, r, wi, _, ho⟩ := ins_get I.hok e
  have hz : (fs.map (·.1)).length ≤ sizeLine := by rw [List.length_map, sizeLine_eq]; omega
  refine set_map I.kIn O c.sa c.po n.taker c.hd wi hz fun h' O' sb => h _ ?_
  have hd : ∃ o, h'.get? dx = some o := let ⟨o, _, _, e', _⟩ := O'.ns; ⟨o, e'⟩
  refine I.write (x := a) (e := dx) (by rw [e]; exact True.intro) (.inr ho) (fun b q hb z => (sb.2 b hb).trans z) hd ?_
  refine ⟨by rw [upd_ne O.ne]; exact ho, ?_, O.ne, O'.obj, _, O'.ns, fun g => ?_, fun g hg => ?_⟩
  · have := length_putF f y fs; omega
  · show RelO ((putF f y fs).lookup g) (if g = f then some u else mA g)
    rw [lookup_putF]
    by_cases q : g = f
    · rw [if_pos q, if_pos q]; exact ry
    · rw [if_neg q, if_neg q]; exact r g
  · by_cases q : g = f
    · rw [q]; exact (keys_putF f y fs).1
    · refine (keys_putF f y fs).2 g (wi g fun z => hg ?_)
      show (if g = f then some u else mA g) = none
      rw [if_neg q]; exact z

/-- a new instance, tracked, without attributes -/
theorem Inv.made (I : Inv X pins σ H s) : Inv X pins σ (upd (upd H s.heap.objs.size (.own (s.heap.objs.size + 1))) (s.heap.objs.size + 1) (.ins C s.heap.objs.size []))
    { s with heap := (s.heap.push PySem.W.emptyDict).push (PySem.W.instObj C s.heap.objs.size) } := by
  have e1 : (s.heap.push PySem.W.emptyDict).get? s.heap.objs.size = some PySem.W.emptyDict := Heap.get?_push_size s.heap rfl
  have e2 : ((s.heap.push PySem.W.emptyDict).push (PySem.W.instObj C s.heap.objs.size)).get? (s.heap.objs.size + 1) = some (PySem.W.instObj C s.heap.objs.size) := by
    have := Heap.get?_push_size (s.heap.push PySem.W.emptyDict) (o := PySem.W.instObj C s.heap.objs.size) rfl
    rwa [Heap.size_push] at this
  have e3 : (s.heap.push PySem.W.emptyDict).Ns s.heap.objs.size (fun _ => none) := ⟨PySem.W.emptyDict, #[], _, e1, rfl, (fun e he => absurd he (by simp)), fun _ => rfl⟩
  have I1 := I.laid (a := s.heap.objs.size) (o := .own (s.heap.objs.size + 1)) (h' := s.heap.push PySem.W.emptyDict) (t' := s.toks) (fun b u q => Heap.get?_push_of_some _ q) (Nat.le_refl _) ⟨_, e1⟩
  refine I1.laid (a := s.heap.objs.size + 1) (o := .ins C s.heap.objs.size []) (t' := s.toks) (fun b u q => Heap.get?_push_of_some _ q) (Nat.le_of_eq (Heap.size_push _ _)) ?_
  have ne : s.heap.objs.size ≠ s.heap.objs.size + 1 := Nat.ne_of_lt (Nat.lt_succ_self _)
  refine ⟨by rw [upd_ne ne, upd_same], Nat.zero_le _, ne, e2, fun _ => none, (Heap.Ns1.of_empty e3).at fun o q => Heap.get?_push_of_some _ q, fun _ => True.intro, fun y hy => absurd rfl hy⟩

/-- e.f where nothing but the object is asked: through attributeBase (super) and the last hold -/
theorem attr_of {prog : Program} {w : World} {env : Env} {e : Expr} {f : Str} {pos : Pos} {s : Shared} {Q : Value → Shared → Prop} (hb : attributeBase e f env (eval e env) = eval e env)
    (h : wpAny (model prog w) A (eval e env) (fun o s₁ => wpAny (model prog w) A (getAttr o f true) Q E s₁) E s) : wpAny (model prog w) A (eval (.Attribute e f pos) env) Q E s :=
  Attribute_any_ h (by rw [arm_eval_Attribute, hb])
end

/-! ### readings and rules -/
/-- e.f, an attribute of the instance -/
inductive ItFld (K : PySem.W.Frag) (f : Str) (Q : VK) (x : V) (H1 : Hp) : Prop
  | mk (a : _) (C : _) (dx : _) (fs : _) (v : _) (h1 : x = .ref a) (h2 : H1 a = some (.ins C dx fs)) (h3 : Cls K C) (h4 : NoAttr K C f) (h5 : fs.lookup f = some v) (h6 : Q v H1) : ItFld K f Q x H1
def tFld (K : PySem.W.Frag) (ta : TE) (f : Str) : TE := fun σ H Q => ta σ H fun x H1 => ItFld K f Q x H1
/-- e.f, a constant of the class -/
def tCon (K : PySem.W.Frag) (ta : TE) (f : Str) : TE := fun σ H Q => ta σ H fun x H1 => ∃ a C dx fs v u, x = .ref a ∧ H1 a = some (.ins C dx fs) ∧ Cls K C ∧ Con K C f v u ∧ fs.lookup f = none ∧ Q v H1
/-- e.f = value -/
def sFld (K : PySem.W.Frag) (ta tv : TE) (f : Str) : TS := fun D σ H => tv σ H fun y H1 => ta σ H1 fun x H2 => ∃ a C dx fs, x = .ref a ∧ H2 a = some (.ins C dx fs) ∧ Cls K C ∧ NoAttr K C f ∧ fs.length < 1000 ∧
  D.nx σ (upd H2 a (.ins C dx (putF f y fs)))
/-- an augmented operator on two values -/
def InOp (X : Cx) (op : Operator) (rd : V → V → Hp → VK → Prop) : Prop :=
  ∀ (pins : List (Addr × Obj)) (s : Shared) (σ : St) (H : Hp) (x y : V) (u v : Value) (Q : VK), Inv X pins σ H s → RelV x u → RelV y v → rd x y H Q → wpAny (model X.prog X.w) X.A (inplaceOp op u v) (EP X pins σ Q) X.xe s
/-- e.f op= value -/
def sFldAug (K : PySem.W.Frag) (ta tv : TE) (rd : V → V → Hp → VK → Prop) (f : Str) : TS := fun D σ H => ta σ H fun x H1 => ∃ a C dx fs v, x = .ref a ∧ H1 a = some (.ins C dx fs) ∧ Cls K C ∧ NoAttr K C f ∧ fs.lookup f = some v ∧
  tv σ H1 fun y H2 => rd v y H2 fun z H3 => ∃ dx' fs', H3 a = some (.ins C dx' fs') ∧ fs'.length < 1000 ∧ D.nx σ (upd H3 a (.ins C dx' (putF f z fs')))

section
variable {X : Cx} {o e value : Expr} {f : Str} {pos pos' tpos : Pos} {ta tv : TE}
theorem pe_fld (he : PE X e ta) (hb : attributeBase e f X.env (eval e X.env) = eval e X.env) : PE X (.Attribute e f pos) (tFld X.K ta f) := by
  intro pins s σ H Q I h
  refine attr_of hb (thn (he pins s σ H _ I h) fun u s1 ⟨x, H1, I1, rx, a, C, dx, fs, v, ex, ea, c, n, l, q⟩ => ?_)
  subst ex
  obtain rfl : u = Value.ref a := rx
  exact getattr_ok I1 ea c n l fun u' s2 I2 ru => ⟨v, H1, I2, ru, q⟩
theorem ps_fld (ha : PE X o ta) (hv : PE X value tv) (hs : swapsWith value (some (.Attribute o f pos')) pos.line X.env = pure false) : PS X (.Assign [.Attribute o f pos'] value pos) (sFld X.K ta tv f) := by
  intro pins s σ H D I h
  refine plainObj_wpAny_Assign_Attribute (thn (hv pins s σ H _ I h) fun u s1 ⟨y, H1, I1, ry, q⟩ => thn (ha pins s1 σ H1 _ I1 q) fun ov s2 ⟨x, H2, I2, rx, a, C, dx, fs, ex, ea, c, n, l, q2⟩ => ?_) hs
  subst ex
  obtain rfl : ov = Value.ref a := rx
  exact setattr_ok I2 ea c n l ry fun s3 I3 => ⟨σ, _, I3, q2⟩
def rAdd : V → V → Hp → VK → Prop := fun x y H Q => ∃ i j, x = .int i ∧ y = .int j ∧ Q (.int (i + j)) H
def rSub : V → V → Hp → VK → Prop := fun x y H Q => ∃ i j, x = .int i ∧ y = .int j ∧ Q (.int (i - j)) H

end

/-! ### isinstance -/
section
variable {X : Cx} {pins : List (Addr × Obj)} {σ : St} {H : Hp} {s : Shared} {A : Around} {E : Value → Shared → Prop} {Q : Value → Shared → Prop} {c : Value} {b : Bool}
/-- the type of a value, as the fragment's deciders take it; for an instance its class -/
inductive TyOf (K : PySem.W.Frag) (H : Hp) : V → Value → Prop where
  | non : TyOf K H .non (.type "NoneType")
  | bl (x : Bool) : TyOf K H (.bl x) (.type "bool")
  | int (i : Int) : TyOf K H (.int i) (.type "int")
  | str (x : Str) : TyOf K H (.str x) (.type "str")
  | flt (x : UInt64) : TyOf K H (.flt x) (.type "float")
  | lst {a : Addr} {xs : List V} (e : H a = some (.lst xs)) : TyOf K H (.ref a) (.type "list")
  | frz {a : Addr} {o : Obj} {xs : List V} (e : H a = some (.frz o (.lst xs))) : TyOf K H (.ref a) (.type "list")
  | tup {a : Addr} {xs : List V} (e : H a = some (.tup xs)) : TyOf K H (.ref a) (.type "tuple")
  | dK {a : Addr} {kvs : List (Key × V)} (e : H a = some (.dK kvs)) : TyOf K H (.ref a) (.type "dict")
  | dT {a : Addr} {kvs : List (List Key × V)} (e : H a = some (.dT kvs)) : TyOf K H (.ref a) (.type "dict")
  | ins {a C dx : Addr} {fs : List (Str × V)} (e : H a = some (.ins C dx fs)) (cl : Cls K C) (ha : PySem.W.findIn K (.ref C) "__class__" = some (some (.builtin "object.__class__")))
      (hn : PySem.W.specialIn K (.builtin "object.__class__") "__get__" = some (some (.builtin "getset_descriptor.__get__"))) (htk : PySem.W.takesIn K (.builtin "object.__class__") = some true)
      (hm : PySem.W.mroIn K C (.type "object") = some true) : TyOf K H (.ref a) (.ref C)
/-- isinstance(x, c) for one class c, a built-in or an own one: kitOne's answer -/
theorem isinst_ok {x : V} {u t : Value} (I : Inv X pins σ H s) (rx : RelV x u) (ty : TyOf X.K H x t) (e : PySem.W.kitOne X.K t c = some b) (h : ∀ tk, Q (.bool b) { s with toks := tk }) :
    wpAny (model X.prog X.w) A (call (.builtin "isinstance") [u, c]) Q E s := by
  cases ty with
  | non => cases (show u = Value.none from rx); exact PySem.W.kia_one PySem.W.kitx_none I.kIn True.intro e (fun z => nomatch z) h
  | bl y => cases (show u = Value.bool y from rx); exact PySem.W.kia_one PySem.W.kitx_bool I.kIn True.intro e (fun z => nomatch z) h
  | int i => obtain ⟨t, q⟩ := (show ∃ t, u = Value.int i t from rx); cases q; exact PySem.W.kia_one PySem.W.kitx_int I.kIn True.intro e (fun z => nomatch z) h
  | str y => obtain ⟨t, q⟩ := (show ∃ t, u = Value.str y t from rx); cases q; exact PySem.W.kia_one PySem.W.kitx_str I.kIn True.intro e (fun z => nomatch z) h
  | flt y => obtain ⟨t, q⟩ := (show ∃ t, u = Value.float y t from rx); cases q; exact PySem.W.kia_one PySem.W.kitx_float I.kIn True.intro e (fun z => nomatch z) h
  | @lst a xs ea =>
    cases (show u = Value.ref a from rx)
    obtain ⟨_, _, n, _, h1⟩ := (show ObjOk X.prog X.w H s.heap a (.lst xs) from I.hok a _ ea)
    exact PySem.W.kia_one PySem.W.kitx_list I.kIn ⟨_, h1, rfl⟩ e (fun z => nomatch z) h
  | @frz a ob xs ea =>
    cases (show u = Value.ref a from rx)
    obtain ⟨_, _, _, n, _, h1⟩ := (show ObjOk X.prog X.w H s.heap a (.frz ob (.lst xs)) from I.hok a _ ea)
    exact PySem.W.kia_one PySem.W.kitx_list I.kIn ⟨_, h1, rfl⟩ e (fun z => nomatch z) h
  | @tup a xs ea =>
    cases (show u = Value.ref a from rx)
    obtain ⟨_, _, _, p⟩ := (show ObjOk X.prog X.w H s.heap a (.tup xs) from I.hok a _ ea)
    obtain ⟨o, h1, h2, _⟩ := p
    exact PySem.W.kia_one PySem.W.kitx_tuple I.kIn ⟨o, h1, h2⟩ e (fun z => nomatch z) h
  | @dK a kvs ea =>
    cases (show u = Value.ref a from rx)
    obtain ⟨_, _, vs, _, p⟩ := (show ObjOk X.prog X.w H s.heap a (.dK kvs) from I.hok a _ ea)
    obtain ⟨o, es, ep, h1, h2, _⟩ := p
    exact PySem.W.kia_one PySem.W.kitx_dict I.kIn ⟨o, h1, h2.1⟩ e (fun z => nomatch z) h
  | @dT a kvs ea =>
    cases (show u = Value.ref a from rx)
    obtain ⟨_, _, xs, _, o, es, ep, h1, h2, _⟩ := (show ObjOk X.prog X.w H s.heap a (.dT kvs) from I.hok a _ ea)
    exact PySem.W.kia_one PySem.W.kitx_dict I.kIn ⟨o, h1, h2.1⟩ e (fun z => nomatch z) h
  | @ins a C dx fs ea cl ha hn htk hm =>
    cases (show u = Value.ref a from rx)
    obtain ⟨mA, O, _⟩ := ins_get I.hok ea
    obtain ⟨od, J, _⟩ := O.look
    exact PySem.W.kia_one (PySem.W.kitx_own (cl.get _) cl.hd ha hn htk hm) I.kIn J e (fun z => nomatch z) h
end
end L2

namespace L2
open PySem PySem.Spec PyProof.Rows

/-! ### room -/
structure Room (k : Nat) (A : Around) : Prop where
  hd : A.handled = none
  dp : A.depth + 3 * k + 5 < recursionLimit
  un : A.units + 16 * k + 200 < cLine
theorem Room.mono {j k : Nat} {A : Around} (r : Room k A) (h : j ≤ k) : Room j A := ⟨r.hd, by have := r.dp; omega, by have := r.un; omega⟩
theorem Room.deeper {k : Nat} {A : Around} (r : Room (k + 1) A) (env : Env) : Room k (A.deeper env) :=
  ⟨r.hd, by have := r.dp; show A.depth + 1 + 3 * k + 5 < _; omega, by have := r.un; show A.units + 3 + 16 * k + 200 < _; omega⟩
theorem make_depth {A : Around} {C : Addr} {us : List Value} {kw : List (Str × Value)} : (A.under (.builtin "type.__call__" ⟨.ref C :: us, kw⟩)).depth = A.depth + 1 := by
  first | rfl | simp [Around.under, Code.weight, Code.isCreation, Code.isGuard, Code.isCaller, Code.frames, Code.isFrame, guardIds]
theorem make_units {A : Around} {C : Addr} {us : List Value} {kw : List (Str × Value)} : (A.under (.builtin "type.__call__" ⟨.ref C :: us, kw⟩)).units = A.units + 1 := by
  first | rfl | simp [Around.under, Code.cUnits, Code.frames, Code.isFrame]
theorem Room.make {k : Nat} {A : Around} (r : Room (k + 1) A) (C : Addr) (us : List Value) (kw : List (Str × Value)) : Room k (A.under (.builtin "type.__call__" ⟨.ref C :: us, kw⟩)) :=
  ⟨r.hd, by have := r.dp; rw [make_depth]; omega, by have := r.un; rw [make_units]; omega⟩
theorem Room.depth {k : Nat} {A : Around} (r : Room k A) : A.depth < recursionLimit := by have := r.dp; omega
theorem Room.units {k : Nat} {A : Around} (r : Room k A) : A.units + 64 < cLine := by have := r.un; omega
theorem Room.units0 {k : Nat} {A : Around} (r : Room k A) : A.units < cLine := by have := r.un; omega

/-! ### argument lists and displays -/
def tNil : TA := fun _ H Q => Q [] H
def tCons (ta : TE) (tr : TA) : TA := fun σ H Q => ta σ H fun x H1 => tr σ H1 fun xs H2 => Q (x :: xs) H2
section
variable {X : Cx} {e : Expr} {es : List Expr} {te : TE} {t : TA} {pos : Pos}
theorem pa_nil : PA X [] tNil := fun _ _ _ _ H Q I h => Calls.spliced_nil ⟨[], H, I, .nil, h⟩
theorem pa_cons (ha : PE X e te) (hr : PA X es t) (hs : starEach (e :: es) X.env = (false, eval e X.env) :: starEach es X.env := by rfl) : PA X (e :: es) (tCons te t) := by
  intro pos pins s σ H Q I h
  rw [hs]
  show wpAny _ _ (spliced ((false, eval e X.env) :: backTo pos (starEach es X.env))) _ _ s
  refine Calls.spliced_cons (thn (ha pins s σ H _ I h) fun u s1 ⟨x, H1, I1, r1, q1⟩ => ?_)
  exact thn (hr pos pins s1 σ H1 _ I1 q1) fun us s2 ⟨xs, H2, I2, r2, q2⟩ => ⟨x :: xs, H2, I2, .cons r1 r2, q2⟩

/-- a tuple, a list of written items -/
def tTup (t : TA) : TE := fun σ H Q => t σ H fun xs H1 => xs.length ≤ sizeLine ∧ ∀ p, H1 p = none → Q (.ref p) (upd H1 p (.tup xs))
def tLst (t : TA) : TE := fun σ H Q => t σ H fun xs H1 => xs.length ≤ sizeLine ∧ ∀ p, H1 p = none → Q (.ref p) (upd H1 p (.lst xs))
theorem pe_tup {x1} (h : PA X es t) : PE X (.Tuple es x1 pos) (tTup t) := by
  intro pins s σ H Q I hq
  refine wpAny_Tuple_spliced (thn (h pos pins s σ H _ I hq) fun us s1 ⟨xs, H1, I1, r, z, q⟩ => ⟨by rw [← r.length]; exact z, ?_⟩)
  have hf : H1 s1.heap.objs.size = none := I1.hok.fresh (Nat.le_refl _)
  refine ⟨.ref s1.heap.objs.size, upd H1 s1.heap.objs.size (.tup xs), I1.laid (t' := s1.toks) (fun b u e => Heap.get?_push_of_some _ e) (Nat.le_refl _) ?_, rfl, q _ hf⟩
  exact ⟨z, us, r, ⟨_, Heap.get?_push_size _ rfl, rfl, _, rfl⟩⟩
theorem pe_lst (h : PA X es t) : PE X (.List es pos) (tLst t) := by
  intro pins s σ H Q I hq
  refine wpAny_List_spliced (thn (h pos pins s σ H _ I hq) fun us s1 ⟨xs, H1, I1, r, z, q⟩ => ⟨by rw [← r.length]; exact z, ?_⟩)
  have hf : H1 s1.heap.objs.size = none := I1.hok.fresh (Nat.le_refl _)
  refine ⟨.ref s1.heap.objs.size, upd H1 s1.heap.objs.size (.lst xs), I1.laid (t' := s1.toks) (fun b u e => Heap.get?_push_of_some _ e) (Nat.le_refl _) ?_, rfl, q _ hf⟩
  exact ⟨z, us, 0, r, Heap.get?_push_size _ rfl⟩
end

/-! ### what a def promises -/
/-- a def's promise: the bound arguments in the parameters' order, the heap, the wanted end, the wanted exception -/
abbrev Sp := List V → Hp → VK → XK → Prop
/-- how an exception lies behind a call (file 08 gives it): the callers' frames, abstract heap and state ahead of the call, the wish, the exception, the state -/
abbrev CXT := List Env → Hp → Shared → XK → Value → Shared → Prop

/-- the state at a call -/
structure Env0 (P : Program) (w : World) (K : PySem.W.Frag) (mg : Str → Option Value) (base : Heap) (A : Around) (outer : List Env) (s : Shared) (H : Hp) : Prop where
  frames : A.frames = some outer
  mod : Mod K mg base
  bs : ∀ b o, base.get? b = some o → s.heap.get? b = some o ∧ H b = none
  bsz : base.objs.size ≤ s.heap.objs.size
  funs : s.heap.FunFrames base outer
  frf : ∀ b ∈ frs outer, H b = none
  hok : HOk P w H s.heap
  bare : AllBare s.gens
/-- a call's end -/
def CE (outer : List Env) (P : Program) (w : World) (H : Hp) (s : Shared) (Q : VK) (u : Value) (s' : Shared) : Prop :=
  ∃ v H', s'.os = s.os ∧ AllBare s'.gens ∧ Un (frs outer) [] H H' s.heap s'.heap ∧ HOk P w H' s'.heap ∧ RelV v u ∧ Q v H'
def CR (CX : CXT) (outer : List Env) (P : Program) (w : World) (H : Hp) (s : Shared) (Q : VK) (E : XK) (r : Result) (s' : Shared) : Prop :=
  match r with
  | .ok (.ret u) => CE outer P w H s Q u s'
  | .ok _ => False
  | .error e => CX outer H s E e s'
structure FnOk (P : Program) (w : World) (K : PySem.W.Frag) (mg : Str → Option Value) (base : Heap) (CX : CXT) (k : Nat) (f : Addr) (fd : FuncData) (ps : List Str) (sp : Sp) : Prop where
  len : ∀ vs H Q E, sp vs H Q E → vs.length = ps.length
  run : ∀ (A : Around) (outer : List Env) (s : Shared) (H : Hp) (args : Args) (us : List Value) (vs : List V) (Q : VK) (E : XK), Room k A → Env0 P w K mg base A outer s H → BindsTo s fd args (ps.zip us) → Vals vs us → sp vs H Q E →
    codeAny (model P w) A (.call (.ref f) args) (CR CX outer P w H s Q E) s

theorem Env0.make {P : Program} {w : World} {K : PySem.W.Frag} {mg : Str → Option Value} {base : Heap} {A : Around} {outer : List Env} {s : Shared} {H : Hp} (e : Env0 P w K mg base A outer s H) (C : Addr) (us : List Value) (kw : List (Str × Value)) :
    Env0 P w K mg base (A.under (.builtin "type.__call__" ⟨.ref C :: us, kw⟩)) outer s H := ⟨by first | exact e.frames | (simpa [Around.under, Code.envs, Code.isFrame, pushEnvs] using e.frames), e.mod, e.bs, e.bsz, e.funs, e.frf, e.hok, e.bare⟩

section
variable {X : Cx} {pins : List (Addr × Obj)} {σ : St} {H : Hp} {s s' : Shared}
/-- from a body: what a callee wants -/
theorem Inv.env0 (I : Inv X pins σ H s) : Env0 X.prog X.w X.K X.mg X.base X.A X.stack s H :=
  ⟨I.ok.frames, I.ok.mod, I.bs, Nat.le_trans I.ok.bsz I.sz, I.stack, I.stkFree, I.hok, I.bare⟩
/-- behind a call -/
theorem Inv.after {Q : VK} {u : Value} (I : Inv X pins σ H s) (h : CE X.stack X.prog X.w H s Q u s') : EP X pins σ Q u s' := by
  obtain ⟨v, H', os, bare, un, hok, r, q⟩ := h
  obtain ⟨hh, g, d, t, os'⟩ := s'
  obtain rfl : os' = s.os := os
  exact ⟨v, H', I.call (h' := hh) (g' := g) (d' := d) (t' := t) (ch := []) un hok bare (fun b z => absurd z (by simp)), r, q⟩
end

/-! ### calls -/
/-- f(..): the written arguments, then the defaults dvs; E: what is wanted of an exception -/
def tCall (sp : Sp) (dvs : List V) (E : XK) (t : TA) : TE := fun σ H Q => t σ H fun vs H1 => sp (vs ++ dvs) H1 Q E
/-- o.m(..) of an instance of the class at C -/
inductive ItMeth (C : Addr) (m : Str) (sp : Sp) (dvs : List V) (E : XK) (t : TA) (σ : St) (Q : VK) (x : V) (H1 : Hp) : Prop
  | mk (a : _) (dx : _) (fs : _) (h1 : x = .ref a) (h2 : H1 a = some (.ins C dx fs)) (h3 : fs.lookup m = none) (h4 : t σ H1 fun vs H2 => sp (x :: (vs ++ dvs)) H2 Q E) : ItMeth C m sp dvs E t σ Q x H1
def tMeth (C : Addr) (m : Str) (sp : Sp) (dvs : List V) (E : XK) (ta : TE) (t : TA) : TE := fun σ H Q => ta σ H fun x H1 => ItMeth C m sp dvs E t σ Q x H1
/-- C(..): a new instance and its dict, then __init__ -/
def tMake (C : Addr) (sp : Sp) (dvs : List V) (E : XK) (t : TA) : TE := fun σ H Q => t σ H fun vs H1 => ∀ x dx, H1 x = none → H1 dx = none → dx ≠ x →
  sp (.ref x :: (vs ++ dvs)) (upd (upd H1 dx (.own x)) x (.ins C dx [])) (fun v H2 => v = .non ∧ Q (.ref x) H2) E

/-- how the parameters are bound: us the positional arguments, kw the keywords' values by name, ds the defaults that fill up -/
def Binds (K : PySem.W.Frag) (fd : FuncData) (ps : List Str) (ds : List Value) : Prop :=
  ∀ (s : Shared) (us : List Value), K.In s.heap → (us ++ ds).length = ps.length → BindsTo s fd ⟨us, []⟩ (ps.zip (us ++ ds))
/-- every parameter is given -/
theorem Binds.all {K : PySem.W.Frag} {fd : FuncData} {ps : List Str} (h : ∀ us : List Value, us.length = ps.length → bindArgs fd ⟨us, []⟩ = pure (ps.zip us)) : Binds K fd ps [] := fun s us _ hl => by
  rw [List.append_nil] at hl ⊢
  exact .of_eq (h us hl)

/-- an exception of a callee reaches what this body wants of exceptions -/
def Passes (CX : CXT) (X : Cx) (E : XK) : Prop := ∀ (pins : List (Addr × Obj)) (σ : St) (H : Hp) (s : Shared) (e : Value) (s' : Shared), Inv X pins σ H s → CX X.stack H s E e s' → X.xe e s'

section
variable {X : Cx} {CX : CXT} {k : Nat} {f C : Addr} {fd : FuncData} {ps : List Str} {sp : Sp} {dvs : List V} {ds : List Value} {E : XK} {x m : Str} {p pos apos : Pos} {e o : Expr} {es : List Expr} {ta : TE} {t : TA}

/-- the callee runs -/
theorem run_fn {pins : List (Addr × Obj)} {σ : St} {H : Hp} {s : Shared} {Q : VK} {us : List Value} {vs : List V} (F : FnOk X.prog X.w X.K X.mg X.base CX k f fd ps sp) (hr : Room k X.A) (hb : Binds X.K fd ps ds) (hd : Vals dvs ds) (hx : Passes CX X E)
    (I : Inv X pins σ H s) (r : Vals vs us) (h : sp (vs ++ dvs) H Q E) : wpAny (model X.prog X.w) X.A (call (.ref f) us) (EP X pins σ Q) X.xe s := by
  have r2 : Vals (vs ++ dvs) (us ++ ds) := r.append hd
  have hl : (us ++ ds).length = ps.length := by rw [← r2.length]; exact F.len _ _ _ _ h
  refine wpAny_call (codeAny_mono (F.run X.A X.stack s H ⟨us, []⟩ (us ++ ds) (vs ++ dvs) Q E hr I.env0 (hb s us I.kIn hl) r2 h) fun r s' hq => ?_)
  cases r with
  | error e => exact hx pins σ H s e s' I hq
  | ok fl =>
    cases fl with
    | ret u => exact I.after hq
    | next => exact False.elim hq
    | brk => exact False.elim hq
    | cont => exact False.elim hq

theorem pe_call (F : FnOk X.prog X.w X.K X.mg X.base CX k f fd ps sp) (hr : Room k X.A) (hg : Gl X x) (hm : X.mg x = some (.ref f)) (hk : PySem.W.keepIn X.K (.ref f) = true) (hb : Binds X.K fd ps ds) (hd : Vals dvs ds) (hx : Passes CX X E)
    (ha : PA X (e :: es) t) (hdb : (x == ("__debug__" : Str)) = false := by decide) (he : starEach (e :: es) X.env = (false, eval e X.env) :: starEach es X.env := by rfl) (hpl : (backTo pos (starEach es X.env)).any (·.1) = false := by rfl) :
    PE X (.Call (.Name x p) (e :: es) [] pos) (tCall sp dvs E t) := by
  intro pins s σ H Q I h
  refine wpAny_Call_Name_kw (ld_glob I hg hm ?_ hdb)
  refine PySem.W.callWith_K (h₀ := X.base) I.ok.mod.kin hk (thn (ha pos pins s σ H _ I h) fun us s1 ⟨vs, H1, I1, r, q⟩ => ⟨I1.kIn, ?_⟩) he hpl
  exact run_fn F hr hb hd hx I1 r q


/-- what a class must have to be made -/
structure Mk (K : PySem.W.Frag) (C f : Addr) : Prop where
  makes : PySem.W.makesIn K C = true
  init : PySem.W.findIn K (.ref C) "__init__" = some (some (.ref f))
  fn : PySem.W.isFn K (.ref f) = true
  kp : PySem.W.keepIn K (.ref C) = true

theorem run_make {pins : List (Addr × Obj)} {σ : St} {H : Hp} {s : Shared} {Q : VK} {us : List Value} {vs : List V} (M : Mk X.K C f) (F : FnOk X.prog X.w X.K X.mg X.base CX k f fd ps sp) (hr : Room (k + 1) X.A) (hb : Binds X.K fd ps ds) (hd : Vals dvs ds)
    (hx : Passes CX X E) (I : Inv X pins σ H s) (r : Vals vs us)
    (h : ∀ x dx, H x = none → H dx = none → dx ≠ x → sp (.ref x :: (vs ++ dvs)) (upd (upd H dx (.own x)) x (.ins C dx [])) (fun v H2 => v = .non ∧ Q (.ref x) H2) E) :
    wpAny (model X.prog X.w) X.A (call (.ref C) us) (EP X pins σ Q) X.xe s := by
  have hq := h (s.heap.objs.size + 1) s.heap.objs.size (I.hok.fresh (Nat.le_succ _)) (I.hok.fresh (Nat.le_refl _)) (Nat.ne_of_lt (Nat.lt_succ_self _))
  have I2 := Inv.made (C := C) I
  have r2 : Vals (V.ref (s.heap.objs.size + 1) :: (vs ++ dvs)) (Value.ref (s.heap.objs.size + 1) :: (us ++ ds)) := .cons rfl (r.append hd)
  have hl : (Value.ref (s.heap.objs.size + 1) :: us ++ ds).length = ps.length := by
    have e := r2.length
    rw [F.len _ _ _ _ hq] at e
    exact e.symm
  refine wpAny_call (make_map (f := f) I.kIn M.makes M.init (beq_iff_eq.mp M.fn) (codeAny_mono (F.run _ X.stack _ _ ⟨Value.ref (s.heap.objs.size + 1) :: us, []⟩ (Value.ref (s.heap.objs.size + 1) :: (us ++ ds)) _ _ E (hr.make C us [])
    (I2.env0.make C us []) (hb _ (Value.ref (s.heap.objs.size + 1) :: us) I2.kIn hl) r2 hq) fun r s' hq' => ?_))
  cases r with
  | error e => exact hx pins σ _ _ e s' I2 hq'
  | ok fl =>
    cases fl with
    | ret u =>
      obtain ⟨v, H', I3, rv, ev, q3⟩ := I2.after hq'
      subst ev
      exact ⟨rv, ⟨V.ref (s.heap.objs.size + 1), H', I3, rfl, q3⟩⟩
    | next => exact False.elim hq'
    | brk => exact False.elim hq'
    | cont => exact False.elim hq'
theorem pe_make (M : Mk X.K C f) (F : FnOk X.prog X.w X.K X.mg X.base CX k f fd ps sp) (hr : Room (k + 1) X.A) (hg : Gl X x) (hm : X.mg x = some (.ref C)) (hb : Binds X.K fd ps ds) (hd : Vals dvs ds) (hx : Passes CX X E)
    (ha : PA X (e :: es) t) (hdb : (x == ("__debug__" : Str)) = false := by decide) (he : starEach (e :: es) X.env = (false, eval e X.env) :: starEach es X.env := by rfl) (hpl : (backTo pos (starEach es X.env)).any (·.1) = false := by rfl) :
    PE X (.Call (.Name x p) (e :: es) [] pos) (tMake C sp dvs E t) := by
  intro pins s σ H Q I h
  refine wpAny_Call_Name_kw (ld_glob I hg hm ?_ hdb)
  refine PySem.W.callWith_K (h₀ := X.base) I.ok.mod.kin M.kp (thn (ha pos pins s σ H _ I h) fun us s1 ⟨vs, H1, I1, r, q⟩ => ⟨I1.kIn, ?_⟩) he hpl
  exact run_make M F hr hb hd hx I1 r q
end

/-! ### keywords -/
/-- the values of the keywords, from the left -/
def PK (X : Cx) (kws : List Keyword) (t : TA) : Prop :=
  ∀ (pos : Pos) (pins : List (Addr × Obj)) (s : Shared) (σ : St) (H : Hp) (Q : List V → Hp → Prop), Inv X pins σ H s → t σ H Q → wpAny (model X.prog X.w) X.A (evalAll ((backToKw pos (keywordEach kws X.env)).map (·.2))) (AP X pins σ Q) X.xe s
section
variable {X : Cx} {CX : CXT} {k : Nat} {f C : Addr} {fd : FuncData} {ps ks : List Str} {sp : Sp} {E : XK} {x m : Str} {p pos apos kpos : Pos} {e o : Expr} {es : List Expr} {kws : List Keyword} {te ta : TE} {t tk : TA} {nm : Option Str}

/-- how a call with keywords binds: g puts the positional values us and the keywords' values ws (names ks) in the parameters' order, defaults among them -/
structure KBinds (K : PySem.W.Frag) (fd : FuncData) (ps ks : List Str) (g : List Value → List Value → List Value) (gV : List V → List V → List V) : Prop where
  to : ∀ (s : Shared) (us ws : List Value), K.In s.heap → (g us ws).length = ps.length → BindsTo s fd ⟨us, ks.zip ws⟩ (ps.zip (g us ws))
  rel : ∀ {vs : List V} {us : List Value} {zs : List V} {ws : List Value}, Vals vs us → Vals zs ws → Vals (gV vs zs) (g us ws)
def tCallK (sp : Sp) (gV : List V → List V → List V) (E : XK) (t tk : TA) : TE := fun σ H Q => t σ H fun vs H1 => tk σ H1 fun zs H2 => sp (gV vs zs) H2 Q E
variable {g : List Value → List Value → List Value} {gV : List V → List V → List V}
end

/-! ### a def's body keeps its promise -/
/-- names: the parameters first -/
structure FnScope (N P : List Str) (sc : Scope) : Prop where
  kind : sc.kind = .function
  co : sc.isCoroutine = false
  gen : sc.isGenerator = false
  nd : N.Nodup
  pre : N.take P.length = P
  par : ∀ x ∈ P, sc.names.lookup x = some .local ∨ sc.names.lookup x = some .cell
  nofree : ∀ y ∈ sc.names, y.2 ≠ .free

theorem bindL_out {kindOf : Str → Option NameKind} {x : Str} : ∀ {binds : List (Str × Value)} {m : Str → Option Value}, (∀ v, (x, v) ∉ binds) → bindL kindOf binds m x = m x
  | [], _, _ => rfl
  | (n, v) :: r, m, h => by
    unfold bindL
    rw [bindL_out fun w hw => h w (List.mem_cons_of_mem _ hw)]
    split
    · have : x ≠ n := by rintro rfl; exact h v List.mem_cons_self
      simp [this]
    · rfl
theorem bindC_out {kindOf : Str → Option NameKind} {x : Str} : ∀ {binds : List (Str × Value)} {m : Str → Option Value}, (∀ v, (x, v) ∉ binds) → bindC kindOf binds m x = m x
  | [], _, _ => rfl
  | (n, v) :: r, m, h => by
    unfold bindC
    rw [bindC_out fun w hw => h w (List.mem_cons_of_mem _ hw)]
    split
    · rfl
    · have : x ≠ n := by rintro rfl; exact h v List.mem_cons_self
      simp [this]
theorem bindL_get {kindOf : Str → Option NameKind} {x : Str} {v : Value} : ∀ {P : List Str} {vs : List Value} {i : Nat} {m : Str → Option Value}, P.Nodup → P[i]? = some x → vs[i]? = some v → kindOf x = some .local →
    bindL kindOf (P.zip vs) m x = some v
  | [], _, _, _, _, h, _, _ => by simp at h
  | _ :: _, [], _, _, _, _, h, _ => by simp at h
  | p :: P, w :: vs, 0, m, nd, h1, h2, hk => by
    simp at h1 h2; subst h1; subst h2
    show bindL kindOf ((p, w) :: P.zip vs) m p = _
    unfold bindL
    rw [bindL_out fun v hv => (List.nodup_cons.mp nd).1 (List.of_mem_zip hv).1, if_pos hk]
    simp
  | p :: P, w :: vs, i + 1, m, nd, h1, h2, hk => by
    show bindL kindOf ((p, w) :: P.zip vs) m x = _
    unfold bindL
    exact bindL_get (i := i) (List.nodup_cons.mp nd).2 (by simpa using h1) (by simpa using h2) hk
theorem bindC_get {kindOf : Str → Option NameKind} {x : Str} {v : Value} : ∀ {P : List Str} {vs : List Value} {i : Nat} {m : Str → Option Value}, P.Nodup → P[i]? = some x → vs[i]? = some v → kindOf x ≠ some .local →
    bindC kindOf (P.zip vs) m x = some v
  | [], _, _, _, _, h, _, _ => by simp at h
  | _ :: _, [], _, _, _, _, h, _ => by simp at h
  | p :: P, w :: vs, 0, m, nd, h1, h2, hk => by
    simp at h1 h2; subst h1; subst h2
    show bindC kindOf ((p, w) :: P.zip vs) m p = _
    unfold bindC
    rw [bindC_out fun v hv => (List.nodup_cons.mp nd).1 (List.of_mem_zip hv).1, if_neg hk]
    simp
  | p :: P, w :: vs, i + 1, m, nd, h1, h2, hk => by
    show bindC kindOf ((p, w) :: P.zip vs) m x = _
    unfold bindC
    exact bindC_get (i := i) (List.nodup_cons.mp nd).2 (by simpa using h1) (by simpa using h2) hk

/-- the names' values at the entry -/
def start (N : List Str) (vs : List V) : St := vs.map some ++ List.replicate (N.length - vs.length) none

/-- the context of a def's body, at its entry; an exception leaves the frame, then lies as CX says -/
def cxOf (CX : CXT) (P : Program) (w : World) (K : PySem.W.Frag) (mg : Str → Option Value) (base : Heap) (N : List Str) (qual : Str) (scope : Scope) (f : Addr) (cd : Value) (A : Around) (outer : List Env) (s : Shared) (H : Hp) (E : XK) : Cx where
  prog := P
  w := w
  K := K
  mg := mg
  base := base
  A := A.deeper (envOfC qual scope s.heap.objs.size f cd)
  N := N
  s₀ := s
  H₀ := H
  env := envOfC qual scope s.heap.objs.size f cd
  outer := outer
  stack := envOfC qual scope s.heap.objs.size f cd :: outer
  ex := []
  calm := true
  fn := fun _ => true
  pn := []
  xe := fun e s' => wpAny (model P w) (A.deeper (envOfC qual scope s.heap.objs.size f cd)) (leaving (envOfC qual scope s.heap.objs.size f cd) e) (fun _ s'' => CX outer H s E e s'') (fun e' s'' => CX outer H s E e' s'') s'

theorem cell_has {sc : Scope} {n : Nat} {x : Str} (h : sc.names.lookup x = some .cell) : ∃ c, (cellsFrom n sc.names []).lookup x = some c := by
  have q := PySem.W.cellsFrom_some sc.names n [] (.inl h)
  exact Option.isSome_iff_exists.mp q

theorem inv_start {CX : CXT} {P : Program} {w : World} {K : PySem.W.Frag} {mg : Str → Option Value} {base : Heap} {N ps : List Str} {qual : Str} {scope : Scope} {f : Addr} {cd : Value} {A : Around} {outer : List Env} {s s1 : Shared} {H : Hp} {E : XK} {us : List Value} {vs : List V}
    (S : FnScope N ps scope) (hd : A.handled = none) (e0 : Env0 P w K mg base A outer s H) (hl : vs.length = ps.length) (r : Vals vs us)
    (x : InCallC s s.heap.objs.size (bindL (envOfC qual scope s.heap.objs.size f cd).kindOf (ps.zip us) fun _ => none) (cellsFrom (s.heap.objs.size + 1) scope.names []) (bindC (envOfC qual scope s.heap.objs.size f cd).kindOf (ps.zip us) fun _ => none) s1) :
    Inv (cxOf CX P w K mg base N qual scope f cd A outer s H E) [] (start N vs) H s1 := by
  have hpl : ps.length ≤ N.length := by have := congrArg List.length S.pre; rw [List.length_take] at this; omega
  obtain ⟨h1, tk, rfl, hk⟩ := x.done
  have noA : ∀ b : Addr, b ∉ (cxOf CX P w K mg base N qual scope f cd A outer s H E).ex := fun b z => absurd (show b ∈ ([] : List Addr) from z) (by simp)
  refine ⟨⟨e0.mod, S.kind, rfl, rfl, Nat.le_refl _, fun y z c h1 h2 => ?_, fun y hy => ?_, fun y c _ h => ?_, fun _ => hd, Around.frames_deeper e0.frames, .inr ⟨rfl, rfl⟩, fun b z => absurd z (noA b), e0.bs, e0.bsz, fun b _ _ => noA b, fun b z => absurd z (noA b), e0.funs, e0.frf⟩,
    rfl, e0.bare, Un.kept hk, ⟨_, x.toInCall.ns, fun i y v h1 h2 h3 => ?_⟩, fun y c h => ⟨_, x.cell y c h⟩, e0.hok.fresh (Nat.le_refl _), fun y c h => ?_, fun p hp => absurd (show p ∈ ([] : List (Addr × Obj)) from hp) (by simp), e0.hok.kept hk, ?_⟩
  · exact name_of_addr x.apart (PySem.mem_of_lookup h1) (PySem.mem_of_lookup h2)
  · have hy : scope.names.lookup y = some .cell ∨ scope.names.lookup y = some .free := hy
    rcases hy with hy | hy
    · exact cell_has hy
    · exact absurd rfl (S.nofree _ (PySem.mem_of_lookup hy))
  · exact Nat.le_of_lt (x.above y c (PySem.mem_of_lookup h))
  · have hi : i < vs.length := by
      unfold start at h2
      by_cases hi : i < vs.length
      · exact hi
      · rw [List.getElem?_append_right (by simpa using hi)] at h2
        rw [List.getElem?_replicate] at h2
        split at h2 <;> cases h2
    have ha : vs[i]? = some v := by
      unfold start at h2
      rw [List.getElem?_append_left (by simpa using hi), List.getElem?_map] at h2
      cases e : vs[i]? with
      | none => rw [e] at h2; cases h2
      | some a => rw [e] at h2; cases h2; rfl
    obtain ⟨u, hu, rv⟩ := r.get ha
    have hp : ps[i]? = some y := by
      rw [← S.pre, List.getElem?_take_of_lt (by omega)]; exact h1
    have ndP : ps.Nodup := by rw [← S.pre]; exact S.nd.sublist (List.take_sublist _ _)
    refine ⟨u, rv, ?_⟩
    rcases S.par y (List.mem_of_getElem? hp) with k | k
    · exact .inl ⟨k, bindL_get ndP hp hu k⟩
    · obtain ⟨c, e⟩ := cell_has (n := s.heap.objs.size + 1) k
      refine .inr ⟨.inl k, c, e, ?_⟩
      have q := x.cell y c e
      rw [bindC_get ndP hp hu (by show scope.names.lookup y ≠ _; rw [k]; decide)] at q
      exact q
  · exact e0.hok.fresh (Nat.le_of_lt (x.above y c (PySem.mem_of_lookup h)))
  · unfold start
    show _ = N.length
    rw [List.length_append, List.length_map, List.length_replicate]
    omega

/-- THE RULE: a def (or a method) of the text, by its body. The body's reading t is chosen for each entry; it is run at the parameters' values -/
theorem fn_of {CX : CXT} {P : Program} {w : World} {K : PySem.W.Frag} {mg : Str → Option Value} {base : Heap} {k : Nat} {f : Addr} {name qual : Str} {params : Arguments} {body : List Stmt} {scope : Scope} {dV kV doc pm cdv ct oc : Value} {an od : Option Addr}
    {osl : Array (Option Value)} {N ps : List Str} {sp : Sp} (lk : K.lookup f = some ⟨oc, od, .func (PySem.W.fnOf name qual params body scope dV kV doc pm an cdv ct), osl⟩) (hcd : PySem.W.codeIn K cdv qual = true) (S : FnScope N ps scope)
    (len : ∀ vs H Q E, sp vs H Q E → vs.length = ps.length)
    (hbody : ∀ (A : Around) (outer : List Env) (s : Shared) (H : Hp) (vs : List V) (Q : VK) (E : XK), Room k (A.deeper (envOfC qual scope s.heap.objs.size f cdv)) → sp vs H Q E →
      ∃ t, PSs (cxOf CX P w K mg base N qual scope f cdv A outer s H E) body t ∧ t { nx := fun _ H' => Q .non H', rt := Q } (start N vs) H) :
    FnOk P w K mg base CX (k + 1) f (PySem.W.fnOf name qual params body scope dV kV doc pm an cdv ct) ps sp := by
  refine ⟨len, fun A outer s H args us vs Q E hr e0 hb r hsp => ?_⟩
  have hl := len _ _ _ _ hsp
  have KX : K.In s.heap := e0.mod.kin.keeps fun b o e => (e0.bs b o e).1
  have lim : s.heap.NoLimit := e0.mod.nolimit.keeps fun b o e => (e0.bs b o e).1
  have hkind : ∀ y ∈ ps.zip us, scope.names.lookup y.1 = some .local ∨ (scope.names.lookup y.1 = some .cell ∧ ((cellsFrom (s.heap.objs.size + 1) scope.names []).lookup y.1).isSome = true) := fun ⟨n, v⟩ hy => by
    rcases S.par n (List.of_mem_zip hy).1 with q | q
    · exact .inl q
    · exact .inr ⟨q, PySem.W.cellsFrom_some _ _ _ (.inl q)⟩
  refine codeAny_call_function hr.depth (KX _ _ lk) rfl S.co S.gen rfl (PySem.W.codeRec_of KX hcd) (hb _ _ _ _ ?_)
  refine wpAny_newFunctionEnv_cells S.kind hkind fun env he s1 x => ?_
  subst he
  refine ⟨lim.keeps x.toInCall.keep, codeAny_func ?_⟩
  obtain ⟨t, ht, hq⟩ := hbody A outer s H vs Q E (hr.deeper _) hsp
  have I : Inv (cxOf CX P w K mg base N qual scope f cdv A outer s H E) [] (start N vs) H s1 := inv_start S hr.hd e0 hl r x
  refine wpAny_mono (ht [] s1 (start N vs) H _ I hq) (fun fl s' hs => ?_) fun e s' hs => hs
  have fin : ∀ {σ' : St} {H' : Hp} {v : V} {u : Value}, Inv (cxOf CX P w K mg base N qual scope f cdv A outer s H E) [] σ' H' s' → RelV v u → Q v H' → CE outer P w H s Q u s' :=
    fun {σ' H' v u} J rv q => ⟨v, H', J.os, J.bare, J.base, J.hok, rv, q⟩
  cases fl with
  | ret u =>
    obtain ⟨v, σ', H', J, rv, q⟩ := hs
    exact fin J rv q
  | next =>
    obtain ⟨σ', H', J, q⟩ := hs
    exact fin (v := V.non) (u := Value.none) J rfl q
  | brk =>
    obtain ⟨_, _, _, q⟩ := hs
    exact False.elim q
  | cont =>
    obtain ⟨_, _, _, q⟩ := hs
    exact False.elim q
end L2

namespace L2
open PySem PySem.Spec PyProof.Rows
section
variable {X : Cx} {x : Str} {p pos : Pos} {e : Expr} {es : List Expr} {t : TA} {id T : String} {r : List V → Hp → VK → Prop}

def tCB (r : List V → Hp → VK → Prop) (t : TA) : TE := fun σ H Q => t σ H fun vs H1 => r vs H1 Q
/-- f(e, ..), f a built-in function -/
theorem pe_callB (hc : CallR X (.builtin id) r) (hg : Gl X x) (hm : X.mg x = none) (hv : bootBuiltins x = some (.builtin id)) (ha : PA X (e :: es) t) (hn : x ≠ "__name__" := by decide) (hdb : (x == ("__debug__" : Str)) = false := by decide)
    (he : starEach (e :: es) X.env = (false, eval e X.env) :: starEach es X.env := by rfl) (hpl : (backTo pos (starEach es X.env)).any (·.1) = false := by rfl) : PE X (.Call (.Name x p) (e :: es) [] pos) (tCB r t) := by
  intro pins s σ H Q I h
  refine wpAny_Call_Name_kw (ld_blt I hg hm hv ?_ hn hdb)
  exact PyProof.Rows.callWith_builtin1 (thn (ha pos pins s σ H _ I h) fun us s1 ⟨vs, H1, I1, r1, q1⟩ => hc pins s1 σ H1 vs us Q I1 r1 q1) he hpl
/-- T(e, ..), T a built-in type -/
theorem pe_callTy (hc : CallR X (.type T) r) (hg : Gl X x) (hm : X.mg x = none) (hv : bootBuiltins x = some (.type T)) (ha : PA X (e :: es) t) (hn : x ≠ "__name__" := by decide) (hdb : (x == ("__debug__" : Str)) = false := by decide)
    (he : starEach (e :: es) X.env = (false, eval e X.env) :: starEach es X.env := by rfl) (hpl : (backTo pos (starEach es X.env)).any (·.1) = false := by rfl) : PE X (.Call (.Name x p) (e :: es) [] pos) (tCB r t) := by
  intro pins s σ H Q I h
  refine wpAny_Call_Name_kw (ld_blt I hg hm hv ?_ hn hdb)
  exact PyProof.Rows.callWith_type1 (thn (ha pos pins s σ H _ I h) fun us s1 ⟨vs, H1, I1, r1, q1⟩ => hc pins s1 σ H1 vs us Q I1 r1 q1) he hpl
end
end L2

namespace HT
open PySem PyProof.Rows

/-- t < u of tuples of ints -/
def lexLt : List Int → List Int → Bool
  | [], [] => false
  | [], _ :: _ => true
  | _ :: _, [] => false
  | x :: xs, y :: ys => if x = y then lexLt xs ys else decide (x < y)


section
open PySem.SeqAt
open PySem.AutoSeq1 (wpAny_loadPart')
open PySem.MeetsSeq PySem.MeetsSeq2 PySem.MeetsSeq3

end

section
variable {prog : Program} {w : World} {A : Around} {E : Value → Shared → Prop} {s : Shared}



/-! ### t[a:b], not the whole -/
/-- a slice's bound as a place among n (d where it is left out) -/
def sIx (n d : Nat) : Option Int → Nat
  | none => d
  | some v => if v < 0 then (v + (n : Int)).toNat else min v.toNat n
theorem sIx_none (n d : Nat) : sIx n d none = d := rfl
theorem sIx_nat (n d k : Nat) : sIx n d (some (k : Int)) = min k n := by
  show (if (k : Int) < 0 then ((k : Int) + (n : Int)).toNat else min (k : Int).toNat n) = min k n
  rw [if_neg (by omega), Int.toNat_natCast]

end
end HT

namespace L2
open PySem PySem.Spec PyProof.Rows

/-! ### the parts of a slice -/
abbrev TO := St → Hp → (Option Int → Hp → Prop) → Prop
/-- a slice's part (left out, or an int) -/
def PO (X : Cx) (e : Option Expr) (t : TO) : Prop :=
  ∀ (pins : List (Addr × Obj)) (s : Shared) (σ : St) (H : Hp) (Q : Option Int → Hp → Prop), Inv X pins σ H s → t σ H Q →
    wpAny (model X.prog X.w) X.A (evalPart e X.env) (fun u s' => ∃ o H', Inv X pins σ H' s' ∧ IsPart u o ∧ Q o H') X.xe s
def tNoPart : TO := fun _ H Q => Q none H
def tPart (t : TE) : TO := fun σ H Q => t σ H fun x H1 => ∃ i, x = .int i ∧ Q (some i) H1


section
variable {X : Cx} {e : Expr} {te : TE} {lo hi : Option Expr} {tl th : TO} {pos p2 : Pos}

theorem po_none : PO X none tNoPart := by
  intro pins s σ H Q I h
  rw [evalPart_none]
  exact wpAny_pure ⟨none, H, I, .none, h⟩
theorem po_some (h : PE X e te) : PO X (some e) (tPart te) := by
  intro pins s σ H Q I hw
  rw [evalPart_some]
  refine thn (h pins s σ H _ I hw) fun u s1 ⟨x, H1, I1, r1, q1⟩ => ?_
  obtain ⟨i, rfl, q⟩ := q1
  obtain ⟨t, rfl⟩ := r1
  exact ⟨some i, H1, I1, .int i t, q⟩

/-- what a slice of a value is, by values: the slice object stands at sl -/
def SlR (X : Cx) (r : V → Option Int → Option Int → Hp → VK → Prop) : Prop :=
  ∀ (pins : List (Addr × Obj)) (s : Shared) (σ : St) (H : Hp) (x : V) (v vl vu : Value) (lo hi : Option Int) (sl : Addr) (Q : VK), Inv X pins σ H s → RelV x v → s.heap.IsSliceOf sl vl vu .none → IsPart vl lo → IsPart vu hi → r x lo hi H Q →
    ∃ T id, typeLookup (.type T) "__getitem__" = pure (some (.builtin id)) ∧ s.TypeIs v T ∧ wpAny (model X.prog X.w) X.A (getItem v (.ref sl)) (EP X pins σ Q) X.xe s
def tSl (r : V → Option Int → Option Int → Hp → VK → Prop) (te : TE) (tl th : TO) : TE := fun σ H Q => te σ H fun x H1 => tl σ H1 fun l H2 => th σ H2 fun u H3 => r x l u H3 Q
/-- a[lo:hi], any a -/
theorem pe_slice {r : V → Option Int → Option Int → Hp → VK → Prop} (hr : SlR X r) (he : PE X e te) (hl : PO X lo tl) (hu : PO X hi th) : PE X (.Subscript e (.Slice lo hi none p2) pos) (tSl r te tl th) := by
  intro pins s σ H Q I h
  refine Subscript_ (thn (he pins s σ H _ I h) fun v s1 ⟨x, H1, I1, r1, q1⟩ => ?_)
  refine wpAny_Slice (thn (hl pins s1 σ H1 _ I1 q1) fun vl s2 ⟨l, H2, I2, pl, q2⟩ => thn (hu pins s2 σ H2 _ I2 q2) fun vu s3 ⟨u, H3, I3, pu, q3⟩ => ?_)
  rw [evalPart_none]
  refine wpAny_pure ?_
  have I4 : Inv X pins σ H3 { s3 with heap := s3.heap.push { cls := .type "slice", data := .fields #[vl, vu, .none] } } := I3.kept (t' := s3.toks) fun b ob q => Heap.get?_push_of_some _ q
  obtain ⟨T, id, hT, ht, hg⟩ := hr pins { s3 with heap := s3.heap.push { cls := .type "slice", data := .fields #[vl, vu, .none] } } σ H3 x v vl vu l u s3.heap.objs.size Q I4 r1 (Heap.IsSliceOf.new ..) pl pu q3
  show wpAny (model X.prog X.w) X.A (subscriptTail e (.Slice lo hi none p2) v (.ref s3.heap.objs.size)) (EP X pins σ Q) X.xe { s3 with heap := s3.heap.push { cls := .type "slice", data := .fields #[vl, vu, .none] } }
  exact tail_any (ops := [.ref s3.heap.objs.size, v]) ht hT hg (by with_unfolding_all rfl)

/-- the items of xs[lo:hi] -/
def cutV (xs : List V) (lo hi : Option Int) : List V := (xs.drop (HT.sIx xs.length 0 lo)).take (HT.sIx xs.length xs.length hi - HT.sIx xs.length 0 lo)
theorem cutV_length (xs : List V) (lo hi : Option Int) : (cutV xs lo hi).length ≤ xs.length := by
  unfold cutV
  rw [List.length_take, List.length_drop]
  omega
/-- t[lo:hi], not the whole of it (the whole would be t itself) -/
def rSlT (K : PySem.W.Frag) : V → Option Int → Option Int → Hp → VK → Prop := fun x lo hi H Q => ∃ a xs, x = .ref a ∧ SqT K H a xs ∧
  ¬ (HT.sIx xs.length 0 lo = 0 ∧ HT.sIx xs.length xs.length hi = xs.length) ∧ ∀ p, H p = none → Q (.ref p) (upd H p (.tup (cutV xs lo hi)))

/-! ### t < u, t + u -/
def rLtT (K : PySem.W.Frag) : R2 := fun x y H Q => ∃ a b ns ms, x = .ref a ∧ y = .ref b ∧ SqT K H a (ns.map V.int) ∧ SqT K H b (ms.map V.int) ∧ Q (.bl (HT.lexLt ns ms)) H
/-- t + u, t not empty: u empty gives t itself -/
def rCatT (K : PySem.W.Frag) : R2 := fun x y H Q => ∃ a b xs ys, x = .ref a ∧ y = .ref b ∧ SqT K H a xs ∧ SqT K H b ys ∧ xs ≠ [] ∧ xs.length + ys.length ≤ sizeLine ∧
  (ys = [] → Q (.ref a) H) ∧ (ys ≠ [] → ∀ p, H p = none → Q (.ref p) (upd H p (.tup (xs ++ ys))))
end
end L2

namespace L2
open PySem PySem.Spec PyProof.Rows

/-! ### places -/
/-- the place that an index of any sign means -/
def ixN (n : Nat) (i : Int) : Option Nat := if 0 ≤ i then (if i < n then some i.toNat else none) else if -(n : Int) ≤ i then some (i + n).toNat else none
def atI {α : Type} (xs : List α) (i : Int) : Option α := (ixN xs.length i).bind fun j => xs[j]?
theorem ixN_seq {n : Nat} {i : Int} {j : Nat} (h : ixN n i = some j) : seqIndex? i n = some j ∧ j < n ∧ -(n : Int) ≤ i ∧ i < n := by
  unfold ixN at h
  by_cases h0 : 0 ≤ i
  · rw [if_pos h0] at h
    by_cases h1 : i < n
    · rw [if_pos h1] at h
      have e : i.toNat = j := Option.some.inj h
      exact ⟨by rw [seqIndex_of h0 h1, e], by omega, by omega, h1⟩
    · rw [if_neg h1] at h; cases h
  · rw [if_neg h0] at h
    by_cases h1 : -(n : Int) ≤ i
    · rw [if_pos h1] at h
      have e : (i + n).toNat = j := Option.some.inj h
      exact ⟨by rw [seqIndex_neg (by omega) h1, e], by omega, h1, by omega⟩
    · rw [if_neg h1] at h; cases h
theorem atI_get {α : Type} {xs : List α} {i : Int} {v : α} (h : atI xs i = some v) : ∃ j, seqIndex? i xs.length = some j ∧ xs[j]? = some v ∧ j < xs.length ∧ -(xs.length : Int) ≤ i ∧ i < xs.length := by
  unfold atI at h
  cases e : ixN xs.length i with
  | none => rw [e] at h; cases h
  | some j =>
    rw [e] at h
    obtain ⟨h1, h2, h3, h4⟩ := ixN_seq e
    exact ⟨j, h1, h, h2, h3, h4⟩
theorem atI_nat {α : Type} {xs : List α} {j : Nat} {v : α} (h : xs[j]? = some v) : atI xs (j : Int) = some v := by
  have hj : j < xs.length := (List.getElem?_eq_some_iff.mp h).1
  have e : ixN xs.length (j : Int) = some j := by
    unfold ixN
    rw [if_pos (by omega), if_pos (by omega)]; simp
  unfold atI; rw [e]; exact h

/-! ### what may be subscripted -/
/-- what stands as an index of a plain subscript -/
def PlainIx (b : Expr) : Prop := ∀ o i, subscripted b false o i = operate [o, i] (getItem o i)
/-- a subscript by values -/
def IxR (X : Cx) (r : R2) : Prop :=
  ∀ (value slice : Expr) (pins : List (Addr × Obj)) (s : Shared) (σ : St) (H : Hp) (x y : V) (v u : Value) (Q : VK), Inv X pins σ H s → RelV x v → RelV y u → r x y H Q →
    subscripted slice false v u = operate [v, u] (getItem v u) → wpAny (model X.prog X.w) X.A (subscriptTail value slice v u) (EP X pins σ Q) X.xe s
/-- a call of a builtin's method by values: the receiver, the arguments -/
def MtR (X : Cx) (id : String) (r : V → List V → Hp → VK → Prop) : Prop :=
  ∀ (pins : List (Addr × Obj)) (s : Shared) (σ : St) (H : Hp) (x : V) (xs : List V) (v : Value) (us : List Value) (Q : VK), Inv X pins σ H s → RelV x v → Vals xs us → r x xs H Q →
    wpAny (model X.prog X.w) X.A (call (.builtin id) (v :: us)) (EP X pins σ Q) X.xe s
section
variable {X : Cx} {a b : Expr} {ta tb : TE} {pos : Pos}
/-- a[b] -/
theorem pe_ix {r : R2} (hr : IxR X r) (ha : PE X a ta) (hb : PE X b tb) (hs : PlainIx b) : PE X (.Subscript a b pos) (tOp r ta tb) := by
  intro pins s σ H Q I h
  exact Subscript_ (binT ha hb I h fun v u s2 x y H2 I2 rx ry q => hr a b pins s2 σ H2 x y v u Q I2 rx ry q (hs _ _))

def rIxL (K : PySem.W.Frag) : R2 := fun x y H Q => ∃ p xs i v, x = .ref p ∧ y = .int i ∧ SqL K H p xs ∧ atI xs i = some v ∧ Q v H
def rIxT (K : PySem.W.Frag) : R2 := fun x y H Q => ∃ p xs i v, x = .ref p ∧ y = .int i ∧ SqT K H p xs ∧ atI xs i = some v ∧ Q v H
def rIxS : R2 := fun x y H Q => ∃ z i c, x = .str z ∧ y = .int i ∧ z.length ≤ sizeLine ∧ atI z.cps.toList i = some c ∧ Q (.str ⟨#[c]⟩) H
theorem ix_list : IxR X (rIxL X.K) := by
  intro value slice pins s σ H x y v u Q I rx ry h hs
  obtain ⟨p, xs, i, z, rfl, rfl, hq, he, q⟩ := h
  cases rx
  obtain ⟨t, rfl⟩ := ry
  obtain ⟨its, r, pl, hz⟩ := I.list hq
  obtain ⟨j, h1, h2, h3, h4, h5⟩ := atI_get he
  obtain ⟨w, ew, rw'⟩ := r.get h2
  have hl := r.length
  have hn := line63
  have fin : EP X pins σ Q w s := ⟨z, H, I, rw', q⟩
  by_cases h0 : 0 ≤ i
  · have hj : i.toNat = j := by
      rw [seqIndex_of h0 h5] at h1
      exact Option.some.inj h1
    exact item_listR pl.isList h0 (by omega) (by rw [hj]; simpa using ew) fin hs
  · have hj : (i + (its.toArray.size : Int)).toNat = j := by
      rw [seqIndex_neg (by omega) h4] at h1
      rw [List.size_toArray, ← hl]
      exact Option.some.inj h1
    exact subscriptTail_builtinR (x := w) pl.isList.typeIs slot_list_getitem.lookup
      (wpAny_getItem_list_neg (Q := fun r s' => r = w ∧ EP X pins σ Q r s') pl.isList (by omega) (by rw [List.size_toArray] <;> omega) (by omega) (by rw [hj]; simpa using ew) ⟨rfl, fin⟩) hs
theorem ix_tup : IxR X (rIxT X.K) := by
  intro value slice pins s σ H x y v u Q I rx ry h hs
  obtain ⟨p, xs, i, z, rfl, rfl, hq, he, q⟩ := h
  cases rx
  obtain ⟨t, rfl⟩ := ry
  obtain ⟨its, r, pl, hz⟩ := I.tuple hq
  obtain ⟨j, h1, h2, h3, h4, h5⟩ := atI_get he
  obtain ⟨w, ew, rw'⟩ := r.get h2
  have hl := r.length
  have hn := line63
  have fin : EP X pins σ Q w s := ⟨z, H, I, rw', q⟩
  exact subscriptTail_builtinR (x := w) pl.typeIs slot_tuple_getitem.lookup
    (getItem_tuple (j := j) (Q := fun r s' => r = w ∧ EP X pins σ Q r s') pl (by omega) (by omega) (by rw [List.size_toArray, ← hl]; exact h1) (by simpa using ew) ⟨rfl, fin⟩) hs
theorem ix_str : IxR X rIxS := by
  intro value slice pins s σ H x y v u Q I rx ry h hs
  obtain ⟨z, i, c, rfl, rfl, hz, he, q⟩ := h
  obtain ⟨t, rfl⟩ := rx
  obtain ⟨t', rfl⟩ := ry
  obtain ⟨j, h1, h2, h3, h4, h5⟩ := atI_get he
  have hl : z.cps.toList.length = z.length := by simp [Str.length]
  rw [hl] at h1 h4 h5
  have hn := line63
  exact tail_any (typeIs_str s z t) slot_str_getitem.lookup (getItem_str (c := c) (by
    have e1 : decide (i < -(2 ^ 63 : Int)) = false := decide_eq_false (by omega)
    have e2 : decide (i ≥ 2 ^ 63) = false := decide_eq_false (by omega)
    rw [e1, e2, Bool.or_false]) (by rw [h1]; simpa using h2) ⟨.str ⟨#[c]⟩, H, I.tok _, ⟨_, rfl⟩, q⟩) hs
/-- list, tuple or str -/
def rIx (K : PySem.W.Frag) : R2 := fun x y H Q => rIxL K x y H Q ∨ rIxT K x y H Q ∨ rIxS x y H Q

/-! ### xs[i] = v, any sign -/
def rSetL : V → V → V → Hp → (Hp → Prop) → Prop := fun o i v H Q => ∃ p xs k j, o = .ref p ∧ i = .int k ∧ H p = some (.lst xs) ∧ ixN xs.length k = some j ∧ Q (upd H p (.lst (xs.set j v)))

/-! ### slices -/
theorem slice_bounds (lo hi : Option Int) (n : Nat) : (sliceBounds lo hi none n).1 = ((HT.sIx n 0 lo : Nat) : Int) ∧ (sliceBounds lo hi none n).2.1 = ((HT.sIx n n hi : Nat) : Int) ∧ (sliceBounds lo hi none n).2.2 = 1 := by
  refine ⟨?_, ?_, rfl⟩
  · cases lo with
    | none => simp [sliceBounds, HT.sIx]
    | some i =>
      simp only [sliceBounds, HT.sIx, Option.getD_none, show (1 : Int) > 0 by decide, if_true]
      by_cases h : i < 0
      · simp only [h, if_true] <;> omega
      · simp only [h, if_false] <;> omega
  · cases hi with
    | none => simp [sliceBounds, HT.sIx]
    | some i =>
      simp only [sliceBounds, HT.sIx, Option.getD_none, show (1 : Int) > 0 by decide, if_true]
      by_cases h : i < 0
      · simp only [h, if_true] <;> omega
      · simp only [h, if_false] <;> omega
theorem slicePick_cut (its : List Value) (lo hi : Option Int) : slicePick its.toArray lo hi none = ((its.drop (HT.sIx its.length 0 lo)).take (HT.sIx its.length its.length hi - HT.sIx its.length 0 lo)).toArray := by
  obtain ⟨h1, h2, h3⟩ := slice_bounds lo hi its.toArray.size
  unfold slicePick
  rw [h1, h2, h3]
  simp only [sliceRange_one, pick_run, List.size_toArray] <;> rfl
/-- xs[lo:hi] of a list: a new list -/
def rSlL (K : PySem.W.Frag) : V → Option Int → Option Int → Hp → VK → Prop := fun x lo hi H Q => ∃ a xs, x = .ref a ∧ SqL K H a xs ∧ ∀ p, H p = none → Q (.ref p) (upd H p (.lst (cutV xs lo hi)))
theorem sl_list : SlR X (rSlL X.K) := by
  intro pins s σ H x v vl vu lo hi sl Q I rx hs pl pu h
  obtain ⟨a, xs, rfl, hx, q⟩ := h
  cases rx
  obtain ⟨its, r, ht, hz⟩ := I.list hx
  have hlen := r.length
  refine ⟨"list", _, slot_list_getitem.lookup, ht.isList.typeIs, ?_⟩
  refine wpAny_getItem_list_slice ht.isList hs pl pu .none (by simp) ?_ (by rw [List.size_toArray] <;> omega)
  rw [slicePick_cut, ← hlen]
  refine ⟨.ref s.heap.objs.size, _, I.laid (t' := s.toks) (o := .lst (cutV xs lo hi)) (fun b ob q => Heap.get?_push_of_some _ q) (Nat.le_refl _) ?_, rfl, q _ (I.hok.fresh (Nat.le_refl _))⟩
  exact ⟨Nat.le_trans (cutV_length xs lo hi) hz, _, 0, (r.drop (HT.sIx xs.length 0 lo)).take (HT.sIx xs.length xs.length hi - HT.sIx xs.length 0 lo), Heap.get?_push_size _ rfl⟩

/-! ### in, not in: flat items -/
def flatV : V → Bool
  | .non => true
  | .bl _ => true
  | .int _ => true
  | .str _ => true
  | _ => false
/-- == of flat values -/
def eqV : V → V → Bool
  | .non, .non => true
  | .bl a, .bl b => a == b
  | .bl a, .int b => (if a then 1 else 0) == b
  | .int a, .bl b => a == (if b then 1 else 0)
  | .int a, .int b => a == b
  | .str a, .str b => a == b
  | _, _ => false
theorem eqAt_V {A : Around} {s : Shared} {y x : V} {u v : Value} (ry : RelV y u) (rx : RelV x v) (fy : flatV y = true) (fx : flatV x = true) : SeqAt.EqAt A s u v (eqV y x) := by
  cases y with
  | non =>
    cases ry
    cases x with
    | non => cases rx; exact SeqAt.EqAt.same _
    | bl b => cases rx; exact SeqAt.EqAt.none_bool b
    | int b => obtain ⟨t, rfl⟩ := rx; exact SeqAt.EqAt.none_int b t
    | str b => obtain ⟨t, rfl⟩ := rx; exact SeqAt.EqAt.none_str b t
    | _ => exact absurd (show false = true from fx) Bool.false_ne_true
  | bl a =>
    cases ry
    cases x with
    | non => cases rx; exact SeqAt.EqAt.bool_none a
    | bl b => cases rx; exact SeqAt.EqAt.bool_bool a b
    | int b => obtain ⟨t, rfl⟩ := rx; exact SeqAt.EqAt.bool_int a b t
    | str b => obtain ⟨t, rfl⟩ := rx; exact SeqAt.EqAt.bool_str a b t
    | _ => exact absurd (show false = true from fx) Bool.false_ne_true
  | int a =>
    obtain ⟨t', rfl⟩ := ry
    cases x with
    | non => cases rx; exact SeqAt.EqAt.int_none a t'
    | bl b => cases rx; exact SeqAt.EqAt.int_bool a t' b
    | int b => obtain ⟨t, rfl⟩ := rx; exact SeqAt.EqAt.int_int a t' b t
    | str b => obtain ⟨t, rfl⟩ := rx; exact SeqAt.EqAt.int_str a t' b t
    | _ => exact absurd (show false = true from fx) Bool.false_ne_true
  | str a =>
    obtain ⟨t', rfl⟩ := ry
    cases x with
    | non => cases rx; exact SeqAt.EqAt.str_none a t'
    | bl b => cases rx; exact SeqAt.EqAt.str_bool a t' b
    | int b => obtain ⟨t, rfl⟩ := rx; exact SeqAt.EqAt.str_int a t' b t
    | str b => obtain ⟨t, rfl⟩ := rx; exact SeqAt.EqAt.str_str a t' b t
    | _ => exact absurd (show false = true from fx) Bool.false_ne_true
  | _ => exact absurd (show false = true from fy) Bool.false_ne_true
/-- the items' answers, read off the values (a value's own answer does not lean on its token) -/
def eqU (x : V) (u : Value) : Bool := match u with
  | .none => eqV .non x
  | .bool b => eqV (.bl b) x
  | .int i _ => eqV (.int i) x
  | .str z _ => eqV (.str z) x
  | _ => false
theorem eqU_of {x y : V} {u : Value} (r : RelV y u) (f : flatV y = true) : eqU x u = eqV y x := by
  cases y with
  | non => cases r; rfl
  | bl b => cases r; rfl
  | int i => obtain ⟨t, rfl⟩ := r; rfl
  | str z => obtain ⟨t, rfl⟩ := r; rfl
  | _ => exact absurd (show false = true from f) Bool.false_ne_true
theorem any_eqU {x : V} : ∀ {xs : List V} {us : List Value}, Vals xs us → xs.all flatV = true → us.any (eqU x) = xs.any fun y => eqV y x
  | _, _, .nil, _ => rfl
  | y :: xs, u :: us, .cons r t, f => by
    rw [List.all_cons, Bool.and_eq_true] at f
    rw [List.any_cons, List.any_cons, eqU_of r f.1, any_eqU t f.2]
theorem mem_eqAt {A : Around} {s : Shared} {x : V} {v : Value} (rx : RelV x v) (fx : flatV x = true) : ∀ {xs : List V} {us : List Value}, Vals xs us → xs.all flatV = true → ∀ u ∈ us, SeqAt.EqAt A s u v (eqU x u)
  | _, _, .nil, _ => fun u hu => by cases hu
  | y :: xs, u :: us, .cons r t, f => fun u' hu => by
    rw [List.all_cons, Bool.and_eq_true] at f
    rcases List.mem_cons.mp hu with rfl | hu
    · rw [eqU_of r f.1]; exact eqAt_V r rx f.1 fx
    · exact mem_eqAt rx fx t f.2 u' hu
def inV (x : V) (xs : List V) : Bool := xs.any fun y => eqV y x
/-- x in a list or tuple of flat items -/
def rIn (K : PySem.W.Frag) (neg : Bool) : R2 := fun x y H Q => ∃ p xs, y = .ref p ∧ (SqL K H p xs ∨ SqT K H p xs) ∧ flatV x = true ∧ xs.all flatV = true ∧ Q (.bl (if neg then !inV x xs else inV x xs)) H
theorem op_in_seq : OpR X (compareOp .In) (rIn X.K false) := by
  intro pins s σ H x y v u Q I rx ry h
  obtain ⟨p, xs, rfl, hq, fx, fs, q⟩ := h
  cases ry
  rcases hq with hq | hq
  · obtain ⟨its, r, pl, hz⟩ := I.list hq
    refine SeqAt.in_listAt (eqU x) pl.isList (fun w hw => mem_eqAt rx fx r fs w (by simpa using hw)) ⟨.bl _, H, I, rfl, ?_⟩
    rw [show its.toArray.any (eqU x) = its.any (eqU x) by simp, any_eqU r fs]
    exact q
  · obtain ⟨its, r, pl, hz⟩ := I.tuple hq
    refine SeqAt.in_tupleAt (eqU x) pl (fun w hw => mem_eqAt rx fx r fs w (by simpa using hw)) ⟨.bl _, H, I, rfl, ?_⟩
    rw [show its.toArray.any (eqU x) = its.any (eqU x) by simp, any_eqU r fs]
    exact q

/-! ### len, list(x), tuple(x) of any list or tuple that is read -/
theorem call_len_seq : CallR X (.builtin "len") (fun xs H Q => ∃ p ys, xs = [.ref p] ∧ (SqL X.K H p ys ∨ SqT X.K H p ys) ∧ Q (.int ys.length) H) := by
  intro pins s σ H xs us Q I r h
  obtain ⟨p, ys, rfl, hq, q⟩ := h
  obtain ⟨u, rfl, rx⟩ := vals1 r
  cases rx
  have hn := line63
  rcases hq with hq | hq
  · obtain ⟨its, r', pl, hz⟩ := I.list hq
    have hlen := r'.length
    exact Calls.call_len_list pl.isList (by simp only [List.size_toArray] <;> omega) ⟨.int ys.length, H, I.tok _, ⟨s.toks + 1, by rw [List.size_toArray, hlen]⟩, q⟩
  · obtain ⟨its, r', pl, hz⟩ := I.tuple hq
    have hlen := r'.length
    exact len_tuple pl (by simp only [List.size_toArray] <;> omega) ⟨.int ys.length, H, I.tok _, ⟨s.toks + 1, by rw [List.size_toArray, hlen]⟩, q⟩
theorem call_len_str : CallR X (.builtin "len") (fun xs H Q => ∃ z, xs = [.str z] ∧ z.length ≤ sizeLine ∧ Q (.int z.length) H) := by
  intro pins s σ H xs us Q I r h
  obtain ⟨z, rfl, hz, q⟩ := h
  obtain ⟨u, rfl, t, rfl⟩ := vals1 r
  have hn := line63
  exact len_str (by omega) ⟨.int z.length, H, I.tok _, ⟨_, rfl⟩, q⟩
theorem call_list_of : CallR X (.type "list") (fun xs H Q => ∃ p ys, xs = [.ref p] ∧ (SqL X.K H p ys ∨ SqT X.K H p ys) ∧ ∀ l, H l = none → Q (.ref l) (upd H l (.lst ys))) := by
  intro pins s σ H xs us Q I r h
  obtain ⟨p, ys, rfl, hq, q⟩ := h
  obtain ⟨u, rfl, rx⟩ := vals1 r
  cases rx
  have fin : ∀ (its : List Value), Vals ys its → ys.length ≤ sizeLine → ∀ (h' : Heap) (c' : Nat), (∀ b o', s.heap.get? b = some o' → h'.get? b = some o') →
      h'.get? s.heap.objs.size = some { cls := .type "list", dict := none, data := .seq its.toArray c', slots := #[] } → EP X pins σ Q (.ref s.heap.objs.size) { s with heap := h' } := fun its r' hz h' c' kp e =>
    ⟨.ref s.heap.objs.size, _, I.laid (t' := s.toks) kp (Nat.le_refl _) (show ObjOk X.prog X.w _ h' _ (.lst ys) from ⟨hz, its, c', r', e⟩), rfl, q _ (I.hok.fresh (Nat.le_refl _))⟩
  rcases hq with hq | hq
  · obtain ⟨its, r', pl, hz⟩ := I.list hq
    have hlen := r'.length
    obtain ⟨o, ho, hc, n, hd⟩ := pl.isList
    exact call_list_seq p (.inl rfl) ho hc hd (fun h' c' kp e => fin its r' hz h' c' kp e) (by simp only [List.size_toArray] <;> omega)
  · obtain ⟨its, r', pl, hz⟩ := I.tuple hq
    have hlen := r'.length
    obtain ⟨o, ho, hc, n, hd⟩ := pl
    exact call_list_seq p (.inr rfl) ho hc hd (fun h' c' kp e => fin its r' hz h' c' kp e) (by simp only [List.size_toArray] <;> omega)

/-! ### the call of a builtin's method: o.m(..) -/
/-- the value is of that builtin type -/
def tyV (K : PySem.W.Frag) (T : String) (x : V) (H : Hp) : Prop := match x with
  | .str _ => T = "str"
  | .int _ => T = "int"
  | .ref p => (T = "list" ∧ ∃ xs, SqL K H p xs) ∨ (T = "tuple" ∧ ∃ o, K.lookup p = some o ∧ o.cls = .type "tuple" ∧ o.dict = none) ∨
      (T = "dict" ∧ ((∃ kvs, H p = some (.dK kvs)) ∨ ∃ kvs, H p = some (.dT kvs))) ∨ (T = "set" ∧ ∃ S n, H p = some (.set S n))
  | _ => False
theorem tyV_is {pins : List (Addr × Obj)} {σ : St} {H : Hp} {s : Shared} {T : String} {x : V} {v : Value} (I : Inv X pins σ H s) (r : RelV x v) (ty : tyV X.K T x H) :
    s.TypeIs v T ∧ ∀ a, v = .ref a → ∃ ob, s.heap.get? a = some ob ∧ ob.dict = none := by
  cases x with
  | str z =>
    obtain ⟨t, rfl⟩ := r
    cases (show T = "str" from ty)
    exact ⟨typeIs_str s z t, fun _ e => nomatch e⟩
  | int i =>
    obtain ⟨t, rfl⟩ := r
    cases (show T = "int" from ty)
    exact ⟨typeIs_int s i t, fun _ e => nomatch e⟩
  | ref p =>
    cases r
    rcases ty with ⟨rfl, xs, hq⟩ | ⟨rfl, o, hk, hc, hd⟩ | ⟨rfl, hk⟩ | ⟨rfl, S, n, hk⟩
    · obtain ⟨its, _, pl, _⟩ := I.list hq
      refine ⟨pl.isList.typeIs, fun a e => ?_⟩
      cases e
      obtain ⟨o, n, e, c, hd, _⟩ := pl
      exact ⟨o, e, hd⟩
    · refine ⟨⟨o, I.kIn p o hk, hc⟩, fun a e => ?_⟩
      cases e
      exact ⟨o, I.kIn _ o hk, hd⟩
    · have z : ∃ o, s.heap.get? p = some o ∧ o.ExactDict := by
        rcases hk with ⟨kvs, hk⟩ | ⟨kvs, hk⟩
        · obtain ⟨_, _, _, _, o, _, _, e, ex, _⟩ := I.hok p _ hk
          exact ⟨o, e, ex⟩
        · obtain ⟨_, _, _, _, o, _, _, e, ex, _⟩ := I.hok p _ hk
          exact ⟨o, e, ex⟩
      obtain ⟨o, e, ex⟩ := z
      refine ⟨⟨o, e, ex.1⟩, fun a e2 => ?_⟩
      cases e2
      exact ⟨o, e, ex.2.1⟩
    · obtain ⟨o, _, _, _, e, ex, _⟩ := I.hok p _ hk
      refine ⟨⟨o, e, ex.1⟩, fun a e2 => ?_⟩
      cases e2
      exact ⟨o, e, ex.2.1⟩
  | _ => exact False.elim ty
def tBM0 (K : PySem.W.Frag) (T : String) (r : V → List V → Hp → VK → Prop) (to : TE) : TE := fun σ H Q => to σ H fun x H1 => tyV K T x H1 ∧ r x [] H1 Q
def tBM (K : PySem.W.Frag) (T : String) (r : V → List V → Hp → VK → Prop) (to : TE) (t : TA) : TE := fun σ H Q => to σ H fun x H1 => tyV K T x H1 ∧ t σ H1 fun xs H2 => r x xs H2 Q
variable {o e : Expr} {es : List Expr} {to : TE} {t : TA} {name : Str} {apos cpos : Pos} {T id : String} {r : V → List V → Hp → VK → Prop}
theorem pe_bm (pa : PlainAttrs T) (slot : Slot T name id) (hty : typeOf (.builtin id) = pure (.type "method_descriptor")) (hm : MtR X id r) (ho : PE X o to) (ha : PA X (e :: es) t)
    (hbase : attributeBase o name X.env (eval o X.env) = eval o X.env := by rfl)
    (hfew : ((backTo cpos (starEach (e :: es) X.env)).all (fun x => !x.1) && (backToKw cpos (keywordEach [] X.env)).all (fun x => x.1.isSome)
      && decide ((e :: es).length + ([] : List Keyword).length + (if ([] : List Keyword).isEmpty then 0 else 1) < 30)) = true := by rfl)
    (hline : (apos.endLine == cpos.line) = true := by rfl) (hs : starEach (e :: es) X.env = (false, eval e X.env) :: starEach es X.env := by rfl) (hplain : (backTo cpos (starEach es X.env)).any (·.1) = false := by rfl) :
    PE X (.Call (.Attribute o name apos) (e :: es) [] cpos) (tBM X.K T r to t) := by
  intro pins s σ H Q I h
  refine wpAny_Call_method_late hbase hfew hline rfl (thn (ho pins s σ H _ I h) fun v s1 ⟨x, H1, I1, r1, ty, q1⟩ => ?_)
  obtain ⟨h1, h2⟩ := tyV_is I1 r1 ty
  refine ⟨T, id, pa, slot, hty, h1, h2, ?_⟩
  have hA := ha cpos pins s1 σ H1 _ I1 q1
  rw [hs] at hA ⊢
  refine Calls.callWith_builtin (by show (false || (backTo cpos (starEach es X.env)).any (·.1)) = false; rw [hplain] <;> rfl) (Calls.evalArgs_plain ?_)
  exact thn hA fun us s2 ⟨vs, H2, I2, r2, q2⟩ => hm pins s2 σ H2 x vs v us Q I2 r1 r2 q2
/- xs.append(e), list.index on a module's tuple .. are MtR facts of 06m -/
end
end L2

namespace L2
open PySem PySem.Spec PyProof.Rows

def MtM (X : Cx) (id : String) (r : V → List V → Hp → VK → Prop) : Prop :=
  ∀ (pins : List (Addr × Obj)) (s : Shared) (σ : St) (H : Hp) (x : V) (xs : List V) (v : Value) (us : List Value) (Q : VK), Inv X pins σ H s → RelV x v → Vals xs us → r x xs H Q →
    wpAny (model X.prog X.w) X.A (call (.builtin id) (v :: us)) (EP X pins σ Q) X.xe s

/-! ### lists of values -/
theorem Vals.one : ∀ {x : V} {us : List Value}, Vals [x] us → ∃ u, us = [u] ∧ RelV x u
  | _, _, .cons r .nil => ⟨_, rfl, r⟩
theorem Vals.two : ∀ {x y : V} {us : List Value}, Vals [x, y] us → ∃ u v, us = [u, v] ∧ RelV x u ∧ RelV y v
  | _, _, _, .cons r (.cons q .nil) => ⟨_, _, rfl, r, q⟩

section
variable {X : Cx} {pins : List (Addr × Obj)} {σ : St} {H : Hp} {s : Shared} {l b : Addr} {xs ys zs : List V}

/-! ### the two steps: a tracked list is rewritten, a new list is laid -/
theorem Inv.lset {its its' : List Value} {n : Nat} {f : Array Value → Array Value} {t' : Nat} (I : Inv X pins σ H s) (hH : H l = some (.lst xs))
    (e : s.heap.get? l = some { cls := .type "list", data := .seq its.toArray n }) (hf : f its.toArray = its'.toArray) (hv : Vals ys its') (hz : ys.length ≤ sizeLine) :
    Inv X pins σ (upd H l (.lst ys)) { s with heap := s.heap.update l (Obj.mapSeq f), toks := t' } := by
  have q := PySem.IsL.update e f
  rw [hf] at q
  refine I.write (x := l) (e := l) (by rw [hH]; exact trivial) (.inl rfl) (fun b' u hb hu => (Heap.get?_update_other s.heap (Obj.mapSeq f) (Ne.symm hb)).trans hu) ⟨_, q⟩ ?_
  exact ⟨hz, its', _, hv, q⟩
theorem Inv.lnew {its : List Value} {t' : Nat} (I : Inv X pins σ H s) (hv : Vals ys its) (hz : ys.length ≤ sizeLine) :
    Inv X pins σ (upd H s.heap.objs.size (.lst ys)) { s with heap := s.heap.push { cls := .type "list", data := .seq its.toArray }, toks := t' } :=
  I.laid (fun _ _ q => Heap.get?_push_of_some _ q) (Nat.le_refl _) ⟨hz, its, 0, hv, Heap.get?_push_size _ rfl⟩
theorem Inv.fresh (I : Inv X pins σ H s) : H s.heap.objs.size = none := I.hok.fresh (Nat.le_refl _)
theorem Inv.lstM (I : Inv X pins σ H s) (hH : H l = some (.lst xs)) : xs.length ≤ sizeLine ∧ ∃ (its : List Value) (n : Nat), Vals xs its ∧ xs.length = its.length ∧ s.heap.get? l = some { cls := .type "list", data := .seq its.toArray n } := by
  obtain ⟨z, its, n, r, e⟩ := I.hok l _ hH
  exact ⟨z, its, n, r, r.length, e⟩

end

section
variable {X : Cx}

/-! ### methods -/
def rAppend : V → List V → Hp → VK → Prop := fun x vs H Q => ∃ l xs y, x = .ref l ∧ vs = [y] ∧ H l = some (.lst xs) ∧ xs.length < sizeLine ∧ Q .non (upd H l (.lst (xs ++ [y])))
theorem mt_append : MtM X "list.append" rAppend := by
  intro pins s σ H x vs v us Q I rx rv h
  obtain ⟨l, xs, y, rfl, rfl, hH, hz, q⟩ := h
  cases rx
  obtain ⟨u, rfl, ru⟩ := rv.one
  obtain ⟨z, its, n, r, hl, e⟩ := I.lstM hH
  refine call_meets F.slot_list_append ⟨_, e, rfl⟩ F.entry_list_append (F.args_list_append_2 _ _) (PySem.list_append l its.toArray n u (by rw [List.size_toArray]; omega)) ⟨e, ?_⟩
  refine ⟨.non, _, I.lset (its' := its ++ [u]) hH e (by simp) (r.append (.cons ru .nil)) ?_, rfl, q⟩
  rw [List.length_append, List.length_singleton]
  omega

def rExtend : V → List V → Hp → VK → Prop := fun x vs H Q => ∃ l b xs zs, x = .ref l ∧ vs = [.ref b] ∧ H l = some (.lst xs) ∧ H b = some (.lst zs) ∧ xs.length + zs.length ≤ sizeLine ∧ Q .non (upd H l (.lst (xs ++ zs)))

def rPop : V → List V → Hp → VK → Prop := fun x vs H Q => ∃ l xs y, x = .ref l ∧ vs = [] ∧ H l = some (.lst xs) ∧ xs[xs.length - 1]? = some y ∧ Q y (upd H l (.lst xs.dropLast))

def rPopAt : V → List V → Hp → VK → Prop := fun x vs H Q => ∃ l xs i k y, x = .ref l ∧ vs = [.int i] ∧ H l = some (.lst xs) ∧ -(2 ^ 63) ≤ i ∧ i < 2 ^ 63 ∧ seqIndex? i xs.length = some k ∧ xs[k]? = some y ∧ Q y (upd H l (.lst (xs.eraseIdx k)))

def rReverse : V → List V → Hp → VK → Prop := fun x vs H Q => ∃ l xs, x = .ref l ∧ vs = [] ∧ H l = some (.lst xs) ∧ Q .non (upd H l (.lst xs.reverse))

def rClear : V → List V → Hp → VK → Prop := fun x vs H Q => ∃ l xs, x = .ref l ∧ vs = [] ∧ H l = some (.lst xs) ∧ Q .non (upd H l (.lst []))

/-! ### list + list, list += list, list * int -/
def rCat : R2 := fun x y H Q => ∃ l b xs zs, x = .ref l ∧ y = .ref b ∧ H l = some (.lst xs) ∧ H b = some (.lst zs) ∧ xs.length + zs.length ≤ sizeLine ∧ ∀ p, H p = none → Q (.ref p) (upd H p (.lst (xs ++ zs)))
theorem op_cat : OpR X (binaryOp .Add) rCat := by
  intro pins s σ H x y v u Q I rx ry h
  obtain ⟨l, b, xs, zs, rfl, rfl, hH, hB, hz, q⟩ := h
  cases rx
  cases ry
  obtain ⟨z, its, n, r, hl, e⟩ := I.lstM hH
  obtain ⟨z2, its2, n2, r2, hl2, e2⟩ := I.lstM hB
  refine PySem.P.add_list e e2 ?_ (by rw [List.size_toArray, List.size_toArray]; omega)
  have ea : its.toArray ++ its2.toArray = (its ++ its2).toArray := by simp
  rw [ea]
  exact ⟨.ref _, _, I.lnew (t' := s.toks) (r.append r2) (by rw [List.length_append]; omega), rfl, q _ I.fresh⟩
/-- a list times an int (a negative one is nothing) -/
def rRep : R2 := fun x y H Q => ∃ l k xs, x = .ref l ∧ y = .int k ∧ H l = some (.lst xs) ∧ -(2 ^ 63) ≤ k ∧ k < 2 ^ 63 ∧ xs.length * k.toNat ≤ sizeLine ∧
  ∀ p, H p = none → Q (.ref p) (upd H p (.lst (List.replicate k.toNat xs).flatten))

/-! ### del xs[i] -/
end

/-! ### xs[a:b] = ys -/
section
variable {prog : Program} {w : World} {A : Around} {E : Value → Shared → Prop} {s : Shared}
end

section
variable {X : Cx}
end
end L2

namespace Att
open PySem PySem.W PySem.Calls PyProof.Rows

/-! ### the script -/
theorem ints_of_wellAll {P : Params} {h : Heap} : ∀ (ns : List Int) (vs : List Value), WellAll P h vs (ns.map WData.int) → IntsAre vs ns := by
  intro ns
  induction ns with
  | nil =>
    intro vs w
    rw [List.map_nil] at w
    cases w
    exact .nil
  | cons n ns ih =>
    intro vs w
    rw [List.map_cons] at w
    cases w with
    | cons a b =>
      cases a
      exact .cons _ _ (ih _ b)

theorem script_of {l : OpenLaw} {n : Nat} (hn : l.most = some n) {P : Params} {h : Heap} {args : List WData} {vals : List Value}
    (hpre : l.row.toRowW.claim.pre args = true) (hwl : WellAll P h vals args) :
    ∃ a vs ns, vals = [Value.ref a] ∧ args = [WData.list (ns.map WData.int)] ∧ h.get? a = some { cls := .type "list", data := .seq vs.toArray } ∧ IntsAre vs ns ∧ ns.length ≤ n := by
  have hsh : WShape.hasAll [] args [.list .int] = true := (pre_splitW hpre).1
  have hc : l.pre.holds [] { args := args } = true := (pre_splitW hpre).2
  obtain ⟨d, r, rfl, h1, h2⟩ := hasAllW_cons hsh
  obtain rfl := hasAllW_nil h2
  obtain ⟨xs, rfl, h3⟩ := hasW_list h1
  obtain ⟨ns, rfl⟩ := items_int h3
  have hlen : ns.length ≤ n := by
    unfold OpenLaw.pre at hc
    have h4 : (WTm.not (.lt (.lit (.int (n : Int))) (.len (.arg 0)))).holds [] { args := [.list (ns.map .int)] } = true := by
      have h4 := (holds_andW hc).1
      rw [hn] at h4
      exact h4
    have h5 := condW_of h4 (w_not (w_lt w_lit (w_len_list (w_arg rfl))))
    rw [List.length_map] at h5
    refine Nat.le_of_not_lt fun q => ?_
    have q' : (n : Int) < ((ns.length : Nat) : Int) := by omega
    first
      | (rw [decide_eq_true q'] at h5; exact absurd h5 (by decide))
      | (simp at h5; omega)
  cases hwl with
  | cons w1 w2 =>
    cases w2
    cases w1 with
    | list ho hall => exact ⟨_, _, ns, rfl, rfl, ho, ints_of_wellAll ns _ hall, hlen⟩

theorem post_true (l : OpenLaw) (args : List WData) : l.row.toRowW.claim.post args (.bool true) args = true :=
  postW_of (r := l.row.toRowW) (X := (true == true))
    (show WShape.has [] (.bool true) .bool = true by first | rfl | decide | simp [WShape.has, WShape.arms, WShape.armsAll])
    (show (WTm.eq .res (.lit (.bool true))).value [] { args := args, res := some (.bool true), after := args } = some (.bool (true == true)) from w_eq_bool (w_res rfl) w_lit) rfl

/-! ### the attachment: holds_open's last premise (the goal 'hc' behind k_head) from a wpAny of the law's body -/



/-! ### rules over ANY heap (no ledger) from facts about the written part K: the library's own take a ledger (News) for what they write -/
section
variable {prog : Program} {w : World} {A : Around} {E : Value → Shared → Prop} {s : Shared} {K : Frag}





/-! the whole heap as the ledger: makes every rule that writes through a ledger a rule over any heap -/
def noObjs (h : Heap) : Heap := { h with objs := #[] }
def ledger (h : Heap) (L d : Addr) : List (Addr × Obj) := (List.range h.objs.size).filterMap fun a => if a = L ∨ a = d then none else (h.get? a).map fun o => (a, o)

end
end Att

namespace L2
open PySem PySem.Spec PyProof.Rows

theorem vals_ints : ∀ {vs : List Value} {ns : List Int}, IntsAre vs ns → Vals (ns.map V.int) vs
  | _, _, .nil => .nil
  | _, _, .cons n t h => .cons ⟨t, rfl⟩ (vals_ints h)

/-- nothing is tracked but the script, known to the object (or it is an object of the module) -/
def Only (H : Hp) : Prop := ∀ b, H b = none ∨ ∃ o xs, H b = some (.frz o (.lst xs))

/-- THE HEAD: the law's promise, at the heap behind the top. F, the promise of the law's def, may use that base is part of the heap (so K.In base, base.Ns mainGlobals mg stand in Mod) -/
theorem law_call {P : Program} {w : World} {K : PySem.W.Frag} {mg mb : Str → Option Value} {CX : CXT} {k : Nat} {fa a : Addr} {fd : FuncData} {x : Str} {sp : Sp} {s₁ : Shared} {vs : List Value} {ns : List Int}
    (KX : K.In s₁.heap) (hns : s₁.heap.Ns mainGlobals mg) (hb : s₁.heap.Ns builtinsNs mb) (hbb : ∀ x : Str, x ≠ "__name__" → mb x = bootBuiltins x) (hlim : s₁.heap.NoLimit) (hg : s₁.gens = #[])
    (ha : s₁.heap.get? a = some { cls := .type "list", data := .seq vs.toArray }) (hi : IntsAre vs ns) (hl : ns.length ≤ sizeLine) (hr : Room k callerA)
    (F : ∀ base : Heap, K.In base → base.Ns mainGlobals mg → FnOk P w K mg base CX k fa fd [x] sp) (hbind : ∀ (s : Shared) (u : Value), BindsTo s fd ⟨[u], []⟩ [(x, u)])
    (hsp : ∀ H : Hp, Only H → SqL K H a (ns.map V.int) → sp [.ref a] H (fun v _ => v = .bl true) fun _ _ _ => False)
    (hCX : ∀ H e s', CX [] H s₁ (fun _ _ _ => False) e s' → False) :
    codeAny (model P w) callerA (.call (.ref fa) ⟨[.ref a], []⟩) (fun r s' => r = .ok (.ret (.bool true)) ∧ OldK s₁.heap s'.heap ∧ s'.os = s₁.os ∧ AllBare s'.gens) s₁ := by
  have rv := vals_ints hi
  have lenV := hi.length
  -- from an abstract heap in which nothing but the script may be tracked
  have core : ∀ H : Hp, Only H → SqL K H a (ns.map V.int) → HOk P w H s₁.heap → (∀ b, H b ≠ none → b = a) → (H a ≠ none → K.lookup a = none) →
      codeAny (model P w) callerA (.call (.ref fa) ⟨[.ref a], []⟩) (fun r s' => r = .ok (.ret (.bool true)) ∧ OldK s₁.heap s'.heap ∧ s'.os = s₁.os ∧ AllBare s'.gens) s₁ := by
    intro H hO hS hok hA hK
    have base_of : ∀ {b : Addr} {o : Obj}, s₁.heap.get? b = some o → H b = none → (hidT s₁.heap H).get? b = some o := fun e n => hidT_get e n
    have noA : ∀ {b : Addr} {o : Obj} {es : Array DictEntry} {ep : Nat}, s₁.heap.get? b = some o → o.data = .dict es ep → H b = none := fun {b o es ep} e d => by
      cases q : H b with
      | none => rfl
      | some u =>
        have e' : b = a := hA b (by rw [q]; simp)
        subst e'
        rw [ha] at e; cases e
        have d' : Data.seq vs.toArray _ = Data.dict es ep := d
        cases d'
    have nsK : ∀ {b : Addr} {m : Str → Option Value}, s₁.heap.Ns b m → (hidT s₁.heap H).Ns b m := fun {b m} ⟨o, es, ep, e, d, r⟩ => ⟨o, es, ep, base_of e (noA e d), d, r⟩
    have hKb : K.In (hidT s₁.heap H) := fun b o e => base_of (KX b o e) (by
      cases q : H b with
      | none => rfl
      | some u =>
        have e' : b = a := hA b (by rw [q]; simp)
        subst e'
        rw [hK (by rw [q]; simp)] at e; cases e)
    have hM : Mod K mg (hidT s₁.heap H) := ⟨hKb, nsK hns, ⟨mb, nsK hb, hbb⟩, let ⟨mc, h1, h2⟩ := hlim; ⟨mc, nsK h1, h2⟩⟩
    have e0 : Env0 P w K mg (hidT s₁.heap H) callerA [] s₁ H := ⟨rfl, hM, fun b o e => of_hidT e, Nat.le_of_eq (hidT_size _ _), trivial, fun b hb => absurd (show b ∈ ([] : List Addr) from hb) (by simp), hok, .of_eq hg⟩
    refine codeAny_mono ((F _ hKb (nsK hns)).run callerA [] s₁ H ⟨[.ref a], []⟩ [.ref a] [.ref a] _ _ hr e0 (hbind s₁ (.ref a)) (.cons rfl .nil) (hsp H hO hS)) fun r s' h => ?_
    cases r with
    | error e => exact (hCX H e s' h).elim
    | ok fl =>
      cases fl with
      | next => exact False.elim h
      | brk => exact False.elim h
      | cont => exact False.elim h
      | ret u =>
        obtain ⟨v, H', os, bare, un, hok', r', q⟩ := h
        have q' : v = .bl true := q
        subst q'
        obtain rfl : u = Value.bool true := r'
        refine ⟨rfl, OldK.of_keep fun b o e => ?_, os, bare⟩
        cases q : H b with
        | none => exact un.keep b o e q (by intro z; exact absurd (show b ∈ ([] : List Addr) from z) (by simp)) (by simp)
        | some u =>
          rcases hO b with z | ⟨ob, xs, z⟩
          · rw [q] at z; cases z
          · have z2 := un.frzs b ob _ z
            obtain ⟨e1, _⟩ := hok b _ z
            obtain ⟨e2, _⟩ := hok' b _ z2
            rw [e] at e1; cases e1
            exact e2
  cases hk : K.lookup a with
  | some o =>
    -- the script is one of the module's own objects
    have e := KX a o hk
    rw [ha] at e
    cases e
    refine core (fun _ => none) (fun _ => .inl rfl) (.inr ⟨_, vs.toArray, _, hk, rfl, rfl, rfl, by rw [List.size_toArray, lenV]; exact hl, by simpa using rv⟩) (fun b u z => by have z' : (none : Option HO) = some u := z; cases z') (fun b z => absurd rfl z) fun z => absurd rfl z
  | none =>
    refine core (fun b => if b = a then some (.frz { cls := .type "list", data := .seq vs.toArray } (.lst (ns.map V.int))) else none) (fun b => ?_) (.inl (.inr ⟨{ cls := .type "list", data := .seq vs.toArray }, if_pos rfl⟩)) (fun b u z => ?_) (fun b z => ?_) fun _ => hk
    · by_cases hb : b = a
      · exact .inr ⟨_, _, if_pos hb⟩
      · exact .inl (if_neg hb)
    · by_cases hb : b = a
      · have z' := (if_pos hb).symm.trans z
        cases z'
        subst hb
        exact ⟨ha, by rw [List.length_map]; exact hl, vs, _, rv, ha⟩
      · have z' := (if_neg hb).symm.trans z
        cases z'
    · by_cases hb : b = a
      · exact hb
      · exact absurd (if_neg hb) z
end L2

namespace L2
open PySem PySem.Spec PyProof.Rows

abbrev KOf {K : PySem.W.Frag} {h : Heap} (_ : K.In h) : PySem.W.Frag := K

end L2

/- THE LAST THEOREM (shape; LID, My.* are yours):
   My.Adr: a structure of the addresses that your layer names (classes, functions); My.Txt K t: a structure (Prop) of the equations over K;
   My.txt_mk : {K} {implicit addresses ..} (e1 : nsIn K mainGlobals "law" = some (some (.ref f))) (e2 : K.lookup f = some ⟨oc, od, .func (fnOf "law" "law" params body scope dV kV doc pm an cdv ct), sl⟩) (e3 : codeIn K cdv "law" = true) .. : ∃ t, My.Txt K t

(the tactic k_is has no namespace: write k_is) -/

/-! SHORT WORDS over the layer: a def of the text, its body, what a loop and a test want. -/
namespace L2
open PySem PySem.Spec PyProof.Rows

/-! ### the text by places -/
/-- the j-th statement of a class's body -/
def inClass (s : Stmt) (j : Nat) : Stmt := match s with
  | .ClassDef _ _ _ body _ _ _ _ _ _ _ => body.getD j (.Pass ⟨0, 0, 0, 0⟩)
  | _ => .Pass ⟨0, 0, 0, 0⟩
def defArgs (s : Stmt) : Arguments := match s with
  | .FunctionDef _ a _ _ _ _ _ _ _ _ => a
  | _ => { posonlyargs := [], args := [], vararg := none, kwonlyargs := [], kw_defaults := [], kwarg := none, defaults := [] }
def defBody (s : Stmt) : List Stmt := match s with
  | .FunctionDef _ _ b _ _ _ _ _ _ _ => b
  | _ => []
def defScope (s : Stmt) : Scope := match s with
  | .FunctionDef _ _ _ _ _ _ sc _ _ _ => sc
  | _ => { kind := .function, names := [], isGenerator := false, isCoroutine := false }

/-! ### no exception leaves a def -/
abbrev CX0 : CXT := fun _ _ _ _ _ _ => False
abbrev E0 : XK := fun _ _ _ => False
theorem pass0 {X : Cx} : Passes CX0 X E0 := fun _ _ _ _ _ _ _ h => h.elim

/-! ### a def (or method) of the text as it stands behind the top -/
structure Fun (K : PySem.W.Frag) (x qual : Str) (st : Stmt) (f : Addr) (fd : FuncData) : Prop where
  ex : ∃ (oc : Value) (od : Option Addr) (kV doc pm : Value) (an : Option Addr) (cdv ct : Value) (osl : Array (Option Value)),
    fd = PySem.W.fnOf x qual (defArgs st) (defBody st) (defScope st) .none kV doc pm an cdv ct ∧ K.lookup f = some ⟨oc, od, .func fd, osl⟩ ∧ PySem.W.codeIn K cdv qual = true
  kp : PySem.W.keepIn K (.ref f) = true
section
variable {P : Program} {w : World} {K : PySem.W.Frag} {mg : Str → Option Value} {base : Heap}
/-- THE RULE for a def: its body as a term of rules, and the reading of that term -/
theorem Fun.ok {x qual : Str} {st : Stmt} {f : Addr} {fd : FuncData} {N ps : List Str} {k : Nat} {sp : Sp} (F : Fun K x qual st f fd) (S : FnScope N ps (defScope st)) (len : ∀ vs H Q E, sp vs H Q E → vs.length = ps.length)
    (hbody : ∀ (cdv : Value) (A : Around) (outer : List Env) (s : Shared) (H : Hp) (vs : List V) (Q : VK) (E : XK), Room k (A.deeper (envOfC qual (defScope st) s.heap.objs.size f cdv)) → sp vs H Q E →
      ∃ t, PSs (cxOf CX0 P w K mg base N qual (defScope st) f cdv A outer s H E).nox (defBody st) t ∧ t { nx := fun _ H' => Q .non H', rt := Q } (start N vs) H) : FnOk P w K mg base CX0 (k + 1) f fd ps sp := by
  obtain ⟨oc, od, kV, doc, pm, an, cdv, ct, osl, rfl, lk, hcd⟩ := F.ex
  refine fn_of lk hcd S len fun A outer s H vs Q E hr hsp => ?_
  obtain ⟨t, h, q⟩ := hbody cdv A outer s H vs Q E hr hsp
  exact ⟨t, h.nox, q⟩
/-- how its arguments bind (no defaults): h is «fun _ _ _ _ _ _ us hl => match us, hl with | [_, _], _ => rfl», one _ a parameter -/
theorem Fun.binds {x qual : Str} {st : Stmt} {f : Addr} {fd : FuncData} {ps : List Str} (F : Fun K x qual st f fd)
    (h : ∀ (kV doc pm : Value) (an : Option Addr) (cdv ct : Value) (us : List Value), us.length = ps.length → bindArgs (PySem.W.fnOf x qual (defArgs st) (defBody st) (defScope st) .none kV doc pm an cdv ct) ⟨us, []⟩ = pure (ps.zip us)) : Binds K fd ps [] := by
  obtain ⟨oc, od, kV, doc, pm, an, cdv, ct, osl, rfl, lk, hcd⟩ := F.ex
  exact .all (h kV doc pm an cdv ct)
theorem fun_mk {x qual : Str} {st : Stmt} {f : Addr} {oc : Value} {od an : Option Addr} {osl : Array (Option Value)} {kV doc pm cdv ct : Value} (l : K.lookup f = some ⟨oc, od, .func (PySem.W.fnOf x qual (defArgs st) (defBody st) (defScope st) .none kV doc pm an cdv ct), osl⟩)
    (c : PySem.W.codeIn K cdv qual = true) (k : PySem.W.keepIn K (.ref f) = true) : Fun K x qual st f (PySem.W.fnOf x qual (defArgs st) (defBody st) (defScope st) .none kV doc pm an cdv ct) := ⟨⟨oc, od, kV, doc, pm, an, cdv, ct, osl, rfl, l, c⟩, k⟩
end
theorem hu_of {A : Around} {k : Nat} (hr : Room k A) : A.units + 1 < cLine := Nat.lt_of_le_of_lt (Nat.add_le_add_left (by decide : 1 ≤ 64) _) hr.units
theorem small1000 {n : Nat} (h : n ≤ 1000) : n < sizeLine := Nat.lt_of_le_of_lt h (by decide)

/-! ### expressions in short: the name that stands in the i-th slot -/
section
variable {X : Cx}
theorem pv (i : Nat) {x : Str} {pos : Pos} (hN : X.N[i]? = some x := by rfl) (hv : Vis X.env.scope x := by first | exact Or.inl rfl | exact Or.inr (Or.inl rfl) | exact Or.inr (Or.inr rfl)) (hd : (x == ("__debug__" : Str)) = false := by decide)
    (hcd : (x == ("__classdict__" : Str)) = false := by decide) : PE X (.Name x pos) (tVar i) := pe_var hN hv hd hcd
end

/-! ### tests -/
theorem iteF {A B : Prop} (h : B) : if false = true then A else B := by
  rw [if_neg Bool.false_ne_true]
  exact h
theorem iteT {A B : Prop} (h : A) : if true = true then A else B := by
  rw [if_pos rfl]
  exact h
theorem iteNS {c A B : Prop} [Decidable c] (hc : c) (h : B) : if (!decide c) = true then A else B := by
  rw [decide_eq_true hc]
  exact iteF h

/-! ### heaps -/
/-- all that was tracked is as it was -/
def Same (H H' : Hp) : Prop := ∀ b o, H b = some o → H' b = some o
theorem Same.refl (H : Hp) : Same H H := fun _ _ h => h
theorem Same.trans {H H1 H2 : Hp} (a : Same H H1) (b : Same H1 H2) : Same H H2 := fun c o h => b c o (a c o h)
theorem Same.free {H H' : Hp} (e : Same H H') {l : Addr} (h : H' l = Option.none) : H l = Option.none := by
  cases q : H l with
  | none => rfl
  | some o =>
    rw [e l o q] at h
    cases h
theorem Same.seq {K : PySem.W.Frag} {H H' : Hp} {a : Addr} {xs : List V} (e : Same H H') (h : SqL K H a xs) : SqL K H' a xs := by
  rcases h with (h | ⟨o, h⟩) | h
  · exact .inl (.inl (e _ _ h))
  · exact .inl (.inr ⟨o, e _ _ h⟩)
  · exact .inr h

end L2

set_option maxHeartbeats 4000000
set_option exponentiation.threshold 300
/-! ### MORE RULES: products and quotients of long numbers, isinstance, a list comprehension of one clause -/
namespace L2
open PySem PySem.Spec PyProof.Rows
section
variable {X : Cx}
theorem bits_le {k : Int} {n : Nat} (h : k.natAbs < 2 ^ n) : Builtin.Int.intBits k ≤ n := by
  unfold Builtin.Int.intBits
  split
  · exact Nat.zero_le _
  · rename_i h0
    have hz : k.natAbs ≠ 0 := by
      intro z
      apply h0
      have : k = 0 := by omega
      simp [this]
    have : k.natAbs.log2 < n := (Nat.log2_lt hz).mpr h
    omega
/-- both below 2 ^ 9000 -/
def CMulB (i j : Int) : Prop := i.natAbs < 2 ^ 9000 ∧ j.natAbs < 2 ^ 9000
theorem CMulB.ok {i j : Int} (h : CMulB i j) : IntMulOk i j := by
  refine IntMulOk.of_bits (Nat.le_trans (bits_le h.1) (by decide)) (Nat.le_trans (bits_le h.2) (by decide))
theorem op_mulB : OpR X (binaryOp .Mult) (rI CMulB fun i j => .int (i * j)) := opI fun _ _ _ _ _ _ _ hc q => mul_int q hc.ok
def CDivB (_ j : Int) : Prop := j ≠ 0 ∧ j.natAbs < 2 ^ 9000
theorem CDivB.ok {i j : Int} (h : CDivB i j) : Builtin.divisionGoesByPylong i j = false :=
  PyProof.noPylong_of_log2 ((Nat.log2_lt (by have := h.1; omega)).mpr h.2)
theorem op_fdivB : OpR X (binaryOp .FloorDiv) (rI CDivB fun i j => .int (i.fdiv j)) := opI fun _ _ _ _ _ _ _ hc q => floordiv_int hc.1 q (.inl hc.ok)

/-- isinstance(x, c), the class c a value of the text or of the machine -/
def rIsI (K : PySem.W.Frag) (c : Value) : List V → Hp → VK → Prop := fun vs H Q => ∃ x y t b, vs = [x, y] ∧ (∀ u, RelV y u → u = c) ∧ TyOf K H x t ∧ PySem.W.kitOne K t c = some b ∧ Q (.bl b) H
theorem call_isI {c : Value} : CallR X (.builtin "isinstance") (rIsI X.K c) := by
  intro pins s σ H xs us Q I r h
  obtain ⟨x, y, t, b, rfl, hc, ty, e, q⟩ := h
  cases r with
  | cons r1 r2 =>
    cases r2 with
    | cons r3 r4 =>
      cases r4
      have := hc _ r3
      subst this
      exact isinst_ok I r1 ty e fun tk => ⟨.bl b, H, I.tok tk, rfl, q⟩
end

/-! ### a list comprehension -/
section
variable {X : Cx}

/-- the block's context -/
def cxComp (X : Cx) (pins : List (Addr × Obj)) (N' : List Str) (scope : Scope) (cl : List (Str × Addr)) (C : Addr) (fp : List Addr) (s : Shared) (H : Hp) : Cx :=
  { X with N := N', s₀ := s, H₀ := H, env := compEnvC scope cl C X.env, outer := X.stack, stack := X.stack, ex := fp, fn := fun _ => false, pn := X.pn ++ pins, xe := fun _ _ => False }
/-- the cells that the block sees -/
structure Clos (X : Cx) (scope : Scope) (cl : List (Str × Addr)) : Prop where
  clos : closureFor scope X.env = pure cl
  sub : ∀ y c, cl.lookup y = some c → X.env.cells.lookup y = some c
  has : ∀ y, ((relabel scope X.env).names.lookup y = some .cell ∨ (relabel scope X.env).names.lookup y = some .free) → ∃ c, cl.lookup y = some c
theorem relabel_none {scope : Scope} {env : Env} (hf : ∀ x ∈ scope.names, x.2 ≠ .free) : relabel scope env = scope := by
  unfold relabel
  have : (scope.names.map fun (n, k) => if (k == NameKind.free && env.scope.kind == .function && env.kindOf n == some .cell) then (n, NameKind.cell) else (n, k)) = scope.names := by
    refine map_eq_self fun x hx => ?_
    obtain ⟨n, k⟩ := x
    have h1 : (k == NameKind.free) = false := by simpa using hf _ hx
    simp [h1]
  rw [this]
theorem Clos.none {scope : Scope} (hf : ∀ x ∈ scope.names, x.2 ≠ .free) (hc : ∀ x ∈ scope.names, x.2 ≠ .cell) : Clos X scope [] := by
  refine ⟨closureFor_none hf, fun y c h => by simp at h, fun y h => ?_⟩
  rw [relabel_none hf] at h
  rcases h with h | h
  · exact absurd rfl (hc _ (PySem.mem_of_lookup h))
  · exact absurd rfl (hf _ (PySem.mem_of_lookup h))

/-- what the block reads of the frame: the names behind the first are cells of the frame's -/
def Reads (X : Cx) (scope : Scope) (rest : List Str) (sel : St → St) : Prop :=
  ∀ σ, (sel σ).length = rest.length ∧ ∀ (i : Nat) (y : Str) (v : V), rest[i]? = some y → (sel σ)[i]? = some (some v) → ∃ j : Nat, X.N[j]? = some y ∧ σ[j]? = some (some v) ∧ X.env.scope.names.lookup y = some .cell ∧ (relabel scope X.env).names.lookup y = some .cell

/-- the reading: x, the clause's name, stands first -/
def tComp (wi : TI) (te : TE) (sel : St → St) : TE := fun σ H Q => wi σ H fun J H1 => ∀ l, H1 l = none → ∃ W : Nat → Nat → Hp → Prop, (∃ m, W 0 m (upd H1 l (.lst []))) ∧ ∀ i m H, W i m H →
  (J.stop i H ∧ Q (.ref l) H) ∨ (J.go i H ∧ ∀ x H', J.yld i H x H' → te (some x :: sel σ) H' fun y H2 => ∃ ys, H2 l = some (.lst ys) ∧ ys.length < sizeLine ∧ ∃ m', m' < m ∧ W (i + 1) m' (upd H2 l (.lst (ys ++ [y]))))



end
end L2
namespace L2
open PySem PySem.Spec PyProof.Rows
theorem ifV {k m : Int} {A B : Prop} (h1 : k = m → A) (h2 : k ≠ m → B) : if decide (V.int k = V.int m) = true then A else B := by
  by_cases h : k = m
  · rw [if_pos (by rw [h]; exact decide_eq_true rfl)]
    exact h1 h
  · rw [if_neg (by rw [decide_eq_false (by intro z; exact h (V.int.inj z))]; decide)]
    exact h2 h
theorem ifB {c A B : Prop} [Decidable c] (h1 : c → A) (h2 : ¬ c → B) : if decide c = true then A else B := by
  by_cases h : c
  · rw [if_pos (decide_eq_true h)]
    exact h1 h
  · rw [if_neg (by rw [decide_eq_false h]; decide)]
    exact h2 h
theorem iteC {c : Bool} {A B : Prop} (h : c = true) (a : A) : if c = true then A else B := by
  rw [if_pos h]
  exact a
theorem iteD {c : Bool} {A B : Prop} (h : c = false) (b : B) : if c = true then A else B := by
  rw [if_neg (by rw [h]; decide)]
  exact b
theorem neV {k m : Int} (h : k ≠ m) : decide (V.int k = V.int m) = false := decide_eq_false (by intro z; exact h (V.int.inj z))
end L2
namespace L2
open PySem PySem.Spec PyProof.Rows
section
variable {X : Cx} {st : Stmt} {rest : List Stmt} {t u : TS}
/-- a statement, what holds behind it, the rest -/
def tCut (t u : TS) : TS := fun D σ H => ∃ M : St → Hp → Prop, t { D with nx := M } σ H ∧ ∀ σ' H', M σ' H' → u D σ' H'
theorem pss_cut (h1 : PS X st t) (h2 : PSs X rest u) : PSs X (st :: rest) (tCut t u) := by
  intro pins s σ H D I ⟨M, h, hM⟩
  refine wpAny_execs_cons (thn (h1 pins s σ H { D with nx := M } I h) fun f s1 q => ?_)
  cases f with
  | next =>
    obtain ⟨σ', H', I', q⟩ := q
    exact h2 pins s1 σ' H' D I' (hM σ' H' q)
  | ret v => exact q
  | brk => exact q
  | cont => exact q
end
def rLen (K : PySem.W.Frag) : List V → Hp → VK → Prop := fun xs H Q => ∃ p ys, xs = [.ref p] ∧ (SqL K H p ys ∨ SqT K H p ys) ∧ Q (.int ys.length) H
theorem call_lenK {X : Cx} : CallR X (.builtin "len") (rLen X.K) := call_len_seq
end L2
/-! ### exceptions: how they leave a frame -/
namespace L2
open PySem
/-- the trail of an exception: none yet, or its record T, not in flight -/
def Trail (h : Heap) (e : Addr) (vs : Array Value) : Option Addr → Prop
  | none => vs[1]? = some .none
  | some T => vs[1]? = some (.ref T) ∧ T ≠ e ∧ ∃ oT ts, h.get? T = some oT ∧ oT.data = .fields ts ∧ ts[3]? = some .none
/-- what the passing of an exception changes: its own record, its trail, slots of frames -/
structure Noted (l : List Env) (e : Addr) (oe : Obj) (vs : Array Value) (tr : Option Addr) (h h' : Heap) : Prop where
  exc : ∃ vs' T, h'.get? e = some { oe with data := .fields vs' } ∧ vs'[0]? = vs[0]? ∧ h.objs.size ≤ T ∧ Trail h' e vs' (some T)
  keep : ∀ b o, b ≠ e → tr ≠ some b → b ∉ l.filterMap (·.frame) → h.get? b = some o → h'.get? b = some o
  slot : ∀ b o, b ≠ e → tr ≠ some b → b ∈ l.filterMap (·.frame) → h.get? b = some o → ∃ sl, h'.get? b = some { o with slots := sl }
section
variable {M : Model} {A : Around} {E : Value → Shared → Prop} {s : Shared} {base : Heap} {env : Env} {outer : List Env} {L e : Addr} {oe : Obj} {vs : Array Value} {Q : Unit → Shared → Prop}
theorem mapFields_eq {o : Obj} {ws : Array Value} (hd : o.data = .fields ws) (f : Array Value → Array Value) : Obj.mapFields f o = { o with data := .fields (f ws) } := by
  obtain ⟨c, d, dt, sl⟩ := o
  cases hd
  rfl
theorem entry_core {head : Value} {hadNext : Bool} (hfr : A.frames = some (env :: outer)) (hl : s.heap.FunFrames base (env :: outer)) (hf : env.frame = some L)
    (he : s.heap.get? e = some oe) (hd : oe.data = .fields vs) (hsz : 1 < vs.size) (h : ∀ h', Noted (env :: outer) e oe vs none s.heap h' → Q () { s with heap := h' }) :
    wpAny M A (do let a ← frameOf env; let pl ← entryPlaceOf L hadNext; let b ← EntryCells.newEntry head a .none (rawInt L) .none pl; setField (.ref e) 1 b) (fun _ s' => wpAny M A (setFlight (.ref e) none) Q E s') E s := by
  have ne : ∀ b ∈ (env :: outer).filterMap (·.frame), b ≠ e := fun b hm z => by
    obtain ⟨_, o, ho, hnf⟩ := hl.mem hm
    rw [z, he] at ho
    cases ho
    exact hnf vs hd
  refine wpAny_bind (wpAny_frameOf_fun hfr hl hf fun h₁ hs₁ => wpAny_bind (wpAny_entryPlaceOf fun pl hpl => ?_))
  unfold EntryCells.newEntry newFields
  refine wpAny_bind (wpAny_newObj_type ?_ (hpl.sizeOk5 _ _ _ _ _))
  have a₁ : h₁.get? e = some oe := (hs₁.2.1 e fun hm => ne e hm rfl).trans he
  generalize hot : ({ cls := .type "traceback", dict := none, data := .fields ([head, .ref L, .none, rawInt L, .none] ++ (if pl.isEmpty then List.replicate 6 Value.none else pl)).toArray } : Obj) = ot
  have fr : ot.isFreed = false := by rw [← hot]; rfl
  obtain ⟨ts, hts, h3⟩ : ∃ ts : Array Value, ot.data = .fields ts ∧ 3 < ts.size := by
    refine ⟨_, by rw [← hot], ?_⟩
    simp only [List.size_toArray, List.length_append, List.length_cons, List.length_nil]
    omega
  have a₂ := Heap.get?_push_of_some (h := h₁) ot a₁
  refine wpAny_setField a₂ hd hsz ?_
  have nT : h₁.objs.size ≠ e := Nat.ne_of_gt (Heap.lt_size a₁)
  have d₃ := Obj.data_mapFields hd (·.setIfInBounds 1 (Value.ref h₁.objs.size))
  have a₃ := Heap.get?_update_self (Obj.mapFields (·.setIfInBounds 1 (Value.ref h₁.objs.size))) a₂ (Obj.isFreed_of_fields d₃)
  have t₃ := (Heap.get?_update_other (h₁.push ot) (Obj.mapFields (·.setIfInBounds 1 (Value.ref h₁.objs.size))) (Ne.symm nT)).trans (Heap.get?_push_size h₁ fr)
  unfold setFlight
  refine wpAny_bind (wpAny_field a₃ d₃ (x := .ref h₁.objs.size) (by simp [hsz]) ?_)
  rw [if_pos (show (Value.ref h₁.objs.size != Value.none) = true from by simp)]
  refine wpAny_setField t₃ hts h3 (h _ ?_)
  have old : ∀ b o, b ≠ e → h₁.get? b = some o → (((h₁.push ot).update e (Obj.mapFields (·.setIfInBounds 1 (Value.ref h₁.objs.size)))).update h₁.objs.size (Obj.mapFields (·.setIfInBounds 3 Value.none))).get? b = some o := fun b o hb q => by
    rw [Heap.get?_update_other _ _ (Nat.ne_of_gt (Heap.lt_size q)), Heap.get?_update_other _ _ (Ne.symm hb)]
    exact Heap.get?_push_of_some _ q
  have e₄ := (Heap.get?_update_other ((h₁.push ot).update e (Obj.mapFields (·.setIfInBounds 1 (Value.ref h₁.objs.size)))) (Obj.mapFields (·.setIfInBounds 3 Value.none)) nT).trans a₃
  have t₄ := Heap.get?_update_self (Obj.mapFields (·.setIfInBounds 3 Value.none)) t₃ (Obj.isFreed_of_fields (Obj.data_mapFields hts _))
  refine ⟨⟨_, h₁.objs.size, by rw [mapFields_eq hd] at e₄; exact e₄, by rw [Array.getElem?_setIfInBounds_ne (by decide)], ?_, by simp [hsz], nT, _, _, t₄, Obj.data_mapFields hts _, by simp [h3]⟩, fun b o nb _ hb q => ?_, fun b o nb _ hb q => ?_⟩
  · exact Nat.le_of_eq hs₁.1.symm
  · exact old b o nb ((hs₁.2.1 b hb).trans q)
  · obtain ⟨sl, q₁⟩ := hs₁.2.2 b o q
    exact ⟨sl, old b _ nb q₁⟩
theorem noted_ok {tr : Option Addr} (hfr : A.frames = some (env :: outer)) (hl : s.heap.FunFrames base (env :: outer)) (hf : env.frame = some L)
    (he : s.heap.get? e = some oe) (hd : oe.data = .fields vs) (ht : Trail s.heap e vs tr) (h : ∀ h', Noted (env :: outer) e oe vs tr s.heap h' → Q () { s with heap := h' }) :
    wpAny M A (noteFrame (.ref e) env) (fun _ s' => wpAny M A (setFlight (.ref e) none) Q E s') E s := by
  unfold noteFrame
  simp only [hf]
  cases tr with
  | none =>
    have ht : vs[1]? = some .none := ht
    refine wpAny_bind (wpAny_field he hd ht ?_)
    rw [if_neg (by decide)]
    exact entry_core hfr hl hf he hd (Array.getElem?_eq_some_iff.mp ht).1 h
  | some T =>
    obtain ⟨h1, nT, oT, ts, gT, dT, h3⟩ := ht
    refine wpAny_bind (wpAny_field he hd h1 ?_)
    rw [if_pos (show (Value.ref T != Value.none) = true from by simp)]
    refine wpAny_bind (wpAny_field gT dT h3 ?_)
    rw [if_neg (show ¬ ((Value.none == rawInt L) = true) from by simp [rawInt])]
    refine wpAny_bind (wpAny_setField gT dT (Array.getElem?_eq_some_iff.mp h3).1 ?_)
    have oth : ∀ b, b ≠ T → (s.heap.update T (Obj.mapFields (·.setIfInBounds 3 Value.none))).get? b = s.heap.get? b := fun b hb => Heap.get?_update_other _ _ (Ne.symm hb)
    have nr : ∀ b o, s.heap.get? b = some o → (∀ ws, o.data ≠ .fields ws) → b ≠ T := fun b o hb hn q => by
      rw [q, gT] at hb
      cases hb
      exact hn ts dT
    refine entry_core hfr (hl.of_keeps fun b o hb hn => ⟨o, (oth b (nr b o hb hn)).trans hb, rfl⟩) hf ((oth e (Ne.symm nT)).trans he) hd (Array.getElem?_eq_some_iff.mp h1).1 fun h' N => h h' ⟨?_, ?_, ?_⟩
    · obtain ⟨vs', T', q1, q2, q3, q4⟩ := N.exc
      exact ⟨vs', T', q1, q2, by rw [Heap.size_after_update] at q3; exact q3, q4⟩
    · intro b o nb nt hb q
      exact N.keep b o nb (by intro z; cases z) hb ((oth b fun z => nt (by rw [z])).trans q)
    · intro b o nb nt hb q
      exact N.slot b o nb (by intro z; cases z) hb ((oth b fun z => nt (by rw [z])).trans q)
theorem leaving_ok {tr : Option Addr} (hfr : A.frames = some (env :: outer)) (hl : s.heap.FunFrames base (env :: outer)) (hf : env.frame = some L)
    (he : s.heap.get? e = some oe) (hd : oe.data = .fields vs) (ht : Trail s.heap e vs tr) (h : ∀ h', Noted (env :: outer) e oe vs tr s.heap h' → Q () { s with heap := h' }) :
    wpAny M A (leaving env (.ref e)) Q E s := by
  unfold leaving
  exact wpAny_bind (noted_ok hfr hl hf he hd ht h)
end
end L2
/-! ### exceptions: the state in which one is on its way -/
namespace L2
open PySem PySem.Spec PyProof.Rows
section
variable {P : Program} {w : World} {H : Hp} {h : Heap} {a : Addr} {o : HO}
theorem ObjOk.there (x : ObjOk P w H h a o) : ∃ ob, h.get? a = some ob := by
  cases o with
  | lst xs => obtain ⟨_, _, _, _, e⟩ := x; exact ⟨_, e⟩
  | tup xs => obtain ⟨_, _, _, ⟨_, e, _⟩⟩ := x; exact ⟨_, e⟩
  | dK kvs => obtain ⟨_, _, _, _, o, _, _, e, _⟩ := x; exact ⟨_, e⟩
  | dT kvs => obtain ⟨_, _, _, _, o, _, _, e, _⟩ := x; exact ⟨_, e⟩
  | set S n => obtain ⟨o, _, _, _, e, _⟩ := x; exact ⟨_, e⟩
  | ins C dx fs => obtain ⟨_, _, _, e, _⟩ := x; exact ⟨_, e⟩
  | own y => exact x
  | xd fs => obtain ⟨_, ⟨_, _, _, e, _⟩, _⟩ := x; exact ⟨_, e⟩
  | rng lo hi => obtain ⟨_, _, _, e⟩ := x; exact ⟨_, e⟩
  | frz ob u => obtain ⟨e, _⟩ := x; exact ⟨_, e⟩
  | tbl ps => exact ⟨_, (show h.get? a = some _ from x)⟩
  | met f y => exact ⟨_, (show h.get? a = some _ from x)⟩
  | ext φ => obtain ⟨_, e, _⟩ := x; exact e
theorem HOk.noObj (x : HOk P w H h) (e : h.get? a = none) : H a = none := by
  cases q : H a with
  | none => rfl
  | some o =>
    obtain ⟨ob, z⟩ := (x a o q).there
    rw [e] at z
    cases z
end
section
variable {X : Cx} {pins : List (Addr × Obj)} {σ : St} {H H' : Hp} {s s' : Shared} {h' : Heap}
/-- a record that is none of the frame's: not its names, not a caller's frame, no cell, not pinned; new since the entry -/
def Off (X : Cx) (pins : List (Addr × Obj)) (b : Addr) : Prop :=
  X.s₀.heap.get? b = none ∧ b ≠ X.env.locals ∧ b ∉ X.fs ∧ (∀ x c, X.env.cells.lookup x = some c → c ≠ b) ∧ ∀ p ∈ X.pn ++ pins, p.1 ≠ b
theorem Inv.off {b : Addr} (I : Inv X pins σ H s) (hex : X.ex = []) (hb : s.heap.get? b = none) : Off X pins b := by
  have no : ∀ {c : Addr} {o : Obj}, s.heap.get? c = some o → c ≠ b := fun e z => by rw [z, hb] at e; cases e
  refine ⟨?_, fun z => ?_, fun z => ?_, fun x c e => ?_, fun p hp => no (I.pin p hp).1⟩
  · cases q : X.s₀.heap.get? b with
    | none => rfl
    | some o =>
      obtain ⟨o', e⟩ := I.base.there b o q (by rw [hex]; simp)
      rw [hb] at e
      cases e
  · obtain ⟨m, ⟨o, _, _, e, _⟩, _⟩ := I.loc
    exact no e z.symm
  · obtain ⟨_, o, e, _⟩ := I.funs.mem z
    exact no e rfl
  · obtain ⟨v, o, q, _⟩ := I.cell x c e
    exact no q
/-- as Inv.step, with records that are new since the entry -/
theorem Inv.stepO {ch : List Addr} (I : Inv X pins σ H s) (hch : ∀ b ∈ ch, Off X pins b)
    (keep : ∀ b o, b ≠ X.env.locals → b ∉ X.fs → b ∉ ch → s.heap.get? b = some o → H b = none → h'.get? b = some o)
    (slot : ∀ b o, b ≠ X.env.locals → b ∈ X.fs → b ∉ ch → s.heap.get? b = some o → H b = none → ∃ sl, h'.get? b = some { o with slots := sl }) (free : ∀ b o, b ∉ ch → s.heap.get? b = some o → H b = none → H' b = none)
    (there : ∀ b o, b ∉ ch → s.heap.get? b = some o → ∃ o', h'.get? b = some o')
    (tups : ∀ b xs, H b = some (.tup xs) → H' b = some (.tup xs)) (frzs : ∀ b o u, H b = some (.frz o u) → H' b = some (.frz o u)) (tbls : ∀ b ps, H b = some (.tbl ps) → ∃ more, H' b = some (.tbl (ps ++ more)))
    (ns : ∀ m, s.heap.Ns X.env.locals m → h'.Ns X.env.locals m) (hok : HOk X.prog X.w H' h') :
    Inv X pins σ H' { s with heap := h' } := by
  have neL : ∀ b o, X.s₀.heap.get? b = some o → b ≠ X.env.locals := fun b o e => Nat.ne_of_lt (Nat.lt_of_lt_of_le (Heap.lt_size e) I.ok.above)
  have neC : ∀ b o, X.s₀.heap.get? b = some o → b ∉ ch := fun b o e hb => by rw [(hch b hb).1] at e; cases e
  have cellK : ∀ x c, X.env.cells.lookup x = some c → ∀ v, s.heap.IsCell c v → h'.IsCell c v := fun x c e v ⟨o, ho, hd⟩ => by
    have nch : c ∉ ch := fun z => (hch c z).2.2.2.1 x c e rfl
    by_cases hc : c ∈ X.fs
    · obtain ⟨sl, q⟩ := slot c o (I.cne x c e) hc nch ho (I.freeC x c e)
      exact ⟨_, q, hd⟩
    · exact ⟨o, keep c o (I.cne x c e) hc nch ho (I.freeC x c e), hd⟩
  refine ⟨I.ok, I.os, I.bare, ⟨fun b o e n hb hx => ?_, fun b o e n hb hx => ?_, fun b o e n hx => ?_, fun b o e hx => ?_, fun b xs e => tups b xs (I.base.tups b xs e), fun b o xs e => frzs b o xs (I.base.frzs b o xs e), fun b ps e => ?_⟩, ?_, fun x c e => ?_, ?_, fun x c e => ?_, fun p hp => ?_, hok, I.len⟩
  · exact keep b o (neL b o e) hb (neC b o e) (I.base.keep b o e n hb hx) (I.base.free b o e n hx)
  · obtain ⟨sl, e1⟩ := I.base.slot b o e n hb hx
    obtain ⟨sl', e2⟩ := slot b _ (neL b o e) hb (neC b o e) e1 (I.base.free b o e n hx)
    exact ⟨sl', e2⟩
  · obtain ⟨o', e1⟩ := I.base.there b o e hx
    exact free b o' (neC b o e) e1 (I.base.free b o e n hx)
  · obtain ⟨o', e1⟩ := I.base.there b o e hx
    exact there b o' (neC b o e) e1
  · obtain ⟨m1, e1⟩ := I.base.tbls b ps e
    obtain ⟨m2, e2⟩ := tbls b _ e1
    exact ⟨m1 ++ m2, by rw [e2, Array.append_assoc]⟩
  · obtain ⟨m, hn, hl⟩ := I.loc
    refine ⟨m, ns m hn, fun i x v e1 e2 e3 => ?_⟩
    obtain ⟨u, r, l⟩ := hl i x v e1 e2 e3
    refine ⟨u, r, ?_⟩
    rcases l with l | ⟨k, c, e, z⟩
    · exact .inl l
    · exact .inr ⟨k, c, e, cellK x c e _ z⟩
  · obtain ⟨v, z⟩ := I.cell x c e
    exact ⟨v, cellK x c e v z⟩
  · obtain ⟨m, ⟨o, _, _, ho, _⟩, _⟩ := I.loc
    exact free _ o (fun z => (hch _ z).2.1 rfl) ho I.free
  · obtain ⟨v, o, ho, hd⟩ := I.cell x c e
    exact free c o (fun z => (hch c z).2.2.2.1 x c e rfl) ho (I.freeC x c e)
  · obtain ⟨e, n, ne, nf, d⟩ := I.pin p hp
    have nch : p.1 ∉ ch := fun z => (hch p.1 z).2.2.2.2 p hp rfl
    exact ⟨keep p.1 p.2 ne nf nch e n, free p.1 p.2 nch e n, ne, nf, d⟩
/-- the passing of an exception is noted -/
theorem Inv.noted {e : Addr} {oe : Obj} {vs : Array Value} {tr : Option Addr} (I : Inv X pins σ H s) (hH : H e = none) (ho : Off X pins e) (ht : ∀ T, tr = some T → H T = none ∧ Off X pins T)
    (N : Noted X.stack e oe vs tr s.heap h') : Inv X pins σ H { s with heap := h' } := by
  have any : ∀ b o, b ∉ e :: tr.toList → s.heap.get? b = some o → ∃ sl, h'.get? b = some { o with slots := sl } := fun b o hb q => by
    have n1 : b ≠ e := fun z => hb (by rw [z]; exact List.mem_cons_self)
    have n2 : tr ≠ some b := fun z => hb (List.mem_cons_of_mem _ (by rw [z]; simp))
    by_cases hs : b ∈ frs X.stack
    · exact N.slot b o n1 n2 hs q
    · exact ⟨o.slots, N.keep b o n1 n2 hs q⟩
  have kp : ∀ b o, b ≠ X.env.locals → b ∉ X.fs → b ∉ e :: tr.toList → s.heap.get? b = some o → h'.get? b = some o := fun b o hL hb hc q =>
    N.keep b o (fun z => hc (by rw [z]; exact List.mem_cons_self)) (fun z => hc (List.mem_cons_of_mem _ (by rw [z]; simp))) (fun z => (List.mem_cons.mp (I.stkSub b z)).elim hL hb) q
  have offs : ∀ b ∈ e :: tr.toList, H b = none ∧ Off X pins b := fun b hb => by
    rcases List.mem_cons.mp hb with z | z
    · rw [z]; exact ⟨hH, ho⟩
    · exact ht b (by simpa using z)
  refine I.stepO (ch := e :: tr.toList) (fun b hb => (offs b hb).2) (fun b o hL hb hc q _ => kp b o hL hb hc q) (fun b o _ _ hc q _ => any b o hc q) (fun _ _ _ _ n => n)
    (fun b o hc q => let ⟨_, z⟩ := any b o hc q; ⟨_, z⟩) (fun _ _ q => q) (fun _ _ _ q => q) (fun b ps q => ⟨#[], by rw [q]; simp⟩) (fun m hm => ?_) (fun b u q => ?_)
  · obtain ⟨o, es, ep, g, r⟩ := hm
    obtain ⟨sl, g'⟩ := any _ o (fun z => (offs _ z).2.2.1 rfl) g
    exact ⟨_, es, ep, g', r⟩
  · refine (I.hok b u q).stay (fun c v hc g => ?_) (fun _ z => z) fun _ _ z => z
    have trk : H c ≠ none := by
      rcases hc with z | z
      · rw [z, q]; simp
      · rw [z]; simp
    refine N.keep c v (fun z => trk (by rw [z]; exact hH)) (fun z => trk (ht c z).1) (fun z => trk (I.stkFree c z)) g
/-- an exception on its way, in the frame at hand -/
def XFly (X : Cx) (pins : List (Addr × Obj)) (H : Hp) (h : Heap) (x : Addr) (cls : Value) (d : Option Addr) : Prop :=
  H x = none ∧ Off X pins x ∧ ∃ vs sl tr, h.get? x = some ⟨cls, d, .fields vs, sl⟩ ∧ Trail h x vs tr ∧ ∀ T, tr = some T → H T = none ∧ Off X pins T
def XP (X : Cx) (pins : List (Addr × Obj)) (σ : St) (E : XK) (e : Value) (s' : Shared) : Prop := ∃ x cls d H', e = .ref x ∧ Inv X pins σ H' s' ∧ XFly X pins H' s'.heap x cls d ∧ E cls d H'
/-- .. behind a call -/
def Fly (g : Heap) (H : Hp) (h : Heap) (x : Addr) (cls : Value) (d : Option Addr) : Prop :=
  g.get? x = none ∧ H x = none ∧ ∃ vs sl tr, h.get? x = some ⟨cls, d, .fields vs, sl⟩ ∧ Trail h x vs tr ∧ ∀ T, tr = some T → g.get? T = none ∧ H T = none
def CX1 (P : Program) (w : World) : CXT := fun outer H s E e s' => ∃ x cls d H', e = .ref x ∧ s'.os = s.os ∧ AllBare s'.gens ∧ Un (frs outer) [] H H' s.heap s'.heap ∧ HOk P w H' s'.heap ∧ Fly s.heap H' s'.heap x cls d ∧ E cls d H'
theorem XP.of_call {E : XK} {e : Value} (hex : X.ex = []) (I : Inv X pins σ H s) (h : CX1 X.prog X.w X.stack H s E e s') : XP X pins σ E e s' := by
  obtain ⟨x, cls, d, H', rfl, os, bare, un, hok, ⟨f1, f2, vs, sl, tr, f3, f4, f5⟩, q⟩ := h
  exact ⟨x, cls, d, H', rfl, I.call' os un hok bare (fun b z => absurd z (by simp)), ⟨f2, I.off hex f1, vs, sl, tr, f3, f4, fun T z => ⟨(f5 T z).2, I.off hex (f5 T z).1⟩⟩, q⟩
end
section
variable {P : Program} {w : World} {K : PySem.W.Frag} {mg : Str → Option Value} {base : Heap} {N : List Str} {qual : Str} {scope : Scope} {f : Addr} {cd : Value} {A : Around} {outer : List Env} {s₀ : Shared} {H₀ : Hp} {E : XK}
/-- an exception leaves a def's body -/
theorem xe_of {pins : List (Addr × Obj)} {σ : St} {e : Value} {s' : Shared} (h : XP (cxOf (CX1 P w) P w K mg base N qual scope f cd A outer s₀ H₀ E) pins σ E e s') :
    (cxOf (CX1 P w) P w K mg base N qual scope f cd A outer s₀ H₀ E).xe e s' := by
  obtain ⟨x, cls, d, H', rfl, I, ⟨f1, f2, vs, sl, tr, f3, f4, f5⟩, q⟩ := h
  refine leaving_ok (L := s₀.heap.objs.size) I.ok.frames I.stack rfl f3 rfl f4 fun h' Nt => ?_
  have J := I.noted f1 f2 f5 Nt
  obtain ⟨vs', T, g1, _, g2, g3⟩ := Nt.exc
  refine ⟨x, cls, d, H', rfl, J.os, J.bare, J.base, J.hok, ⟨f2.1, f1, vs', sl, some T, g1, g3, fun T' z => ?_⟩, q⟩
  cases z
  exact ⟨(I.off rfl (Heap.get?_none_of_le g2)).1, I.hok.fresh g2⟩
theorem pass1 : Passes (CX1 P w) (cxOf (CX1 P w) P w K mg base N qual scope f cd A outer s₀ H₀ E) E := fun _ _ _ _ _ _ I h => xe_of (XP.of_call rfl I h)
theorem owns1 : PassesOwn (model P w) (cxOf (CX1 P w) P w K mg base N qual scope f cd A outer s₀ H₀ E).A (cxOf (CX1 P w) P w K mg base N qual scope f cd A outer s₀ H₀ E).env (cxOf (CX1 P w) P w K mg base N qual scope f cd A outer s₀ H₀ E).xe := PassesOwn.leaving
/-- THE RULE for a def that may raise -/
theorem Fun.okX {x qual : Str} {st : Stmt} {f : Addr} {fd : FuncData} {N ps : List Str} {k : Nat} {sp : Sp} (F : Fun K x qual st f fd) (S : FnScope N ps (defScope st)) (len : ∀ vs H Q E, sp vs H Q E → vs.length = ps.length)
    (hbody : ∀ (cdv : Value) (A : Around) (outer : List Env) (s : Shared) (H : Hp) (vs : List V) (Q : VK) (E : XK), Room k (A.deeper (envOfC qual (defScope st) s.heap.objs.size f cdv)) → sp vs H Q E →
      ∃ t, PSs (cxOf (CX1 P w) P w K mg base N qual (defScope st) f cdv A outer s H E) (defBody st) t ∧ t { nx := fun _ H' => Q .non H', rt := Q } (start N vs) H) : FnOk P w K mg base (CX1 P w) (k + 1) f fd ps sp := by
  obtain ⟨oc, od, kV, doc, pm, an, cdv, ct, osl, rfl, lk, hcd⟩ := F.ex
  exact fn_of lk hcd S len fun A outer s H vs Q E hr hsp => hbody cdv A outer s H vs Q E hr hsp
end
end L2
/-! ### exceptions: raise, try, except -/
namespace L2
open PySem PySem.Spec PyProof.Rows
/-- ValueError's own classes above -/
abbrev bmV : List Value := [.type "ValueError", .type "Exception", .type "BaseException", .type "object"]
section
variable {X : Cx} {E : XK}
/-- what leaves this body as an exception is what is wanted of it -/
def XOut (X : Cx) (E : XK) : Prop := ∀ pins σ e s', XP X pins σ E e s' → X.xe e s'
theorem xout1 {P : Program} {w : World} {K : PySem.W.Frag} {mg : Str → Option Value} {base : Heap} {N : List Str} {qual : Str} {scope : Scope} {f : Addr} {cd : Value} {A : Around} {outer : List Env} {s₀ : Shared} {H₀ : Hp} :
    XOut (cxOf (CX1 P w) P w K mg base N qual scope f cd A outer s₀ H₀ E) E := fun _ _ _ _ h => xe_of h
def tRaise (C : Addr) (E : XK) (t : TA) : TS := fun _ σ H => t σ H fun vs H1 => vs.length ≤ sizeLine ∧ E (.ref C) none H1
/-! ### a body that is tried: the names are as they were when the exception comes -/
/-- an expression that may raise, from the names at hand -/
def PX (X : Cx) (e : Expr) (t : XK → TE) : Prop :=
  ∀ (pins : List (Addr × Obj)) (s : Shared) (σ : St) (H : Hp) (Q : VK) (E : XK), Inv X pins σ H s → t E σ H Q → wpAny (model X.prog X.w) X.A (eval e X.env) (EP X pins σ Q) (XP X pins σ E) s
def PSX (X : Cx) (st : List Stmt) (t : XK → TS) : Prop :=
  ∀ (pins : List (Addr × Obj)) (s : Shared) (σ : St) (H : Hp) (D : Ends) (E : XK), Inv X pins σ H s → t E D σ H → wpAny (model X.prog X.w) X.A (execs st X.env) (SP X pins D) (XP X pins σ E) s
variable {k : Nat} {f C : Addr} {fd : FuncData} {ps : List Str} {sp : Sp} {dvs : List V} {ds : List Value} {x m : Str} {p pos apos : Pos} {e o : Expr} {es : List Expr} {ta : TE} {t : TA}
theorem run_fnX {pins : List (Addr × Obj)} {σ : St} {H : Hp} {s : Shared} {Q : VK} {us : List Value} {vs : List V} (F : FnOk X.prog X.w X.K X.mg X.base (CX1 X.prog X.w) k f fd ps sp) (hr : Room k X.A) (hb : Binds X.K fd ps ds) (hd : Vals dvs ds) (hex : X.ex = [])
    (I : Inv X pins σ H s) (r : Vals vs us) (h : sp (vs ++ dvs) H Q E) : wpAny (model X.prog X.w) X.A (call (.ref f) us) (EP X pins σ Q) (XP X pins σ E) s := by
  have r2 : Vals (vs ++ dvs) (us ++ ds) := r.append hd
  have hl : (us ++ ds).length = ps.length := by rw [← r2.length]; exact F.len _ _ _ _ h
  refine wpAny_call (codeAny_mono (F.run X.A X.stack s H ⟨us, []⟩ (us ++ ds) (vs ++ dvs) Q E hr I.env0 (hb s us I.kIn hl) r2 h) fun r s' hq => ?_)
  cases r with
  | error e => exact XP.of_call hex I hq
  | ok fl =>
    cases fl with
    | ret u => exact I.after hq
    | next => exact False.elim hq
    | brk => exact False.elim hq
    | cont => exact False.elim hq
/-- f(e, ..), where f may raise and its arguments don't -/
theorem px_call (F : FnOk X.prog X.w X.K X.mg X.base (CX1 X.prog X.w) k f fd ps sp) (hr : Room k X.A) (hg : Gl X x) (hm : X.mg x = some (.ref f)) (hk : PySem.W.keepIn X.K (.ref f) = true) (hb : Binds X.K fd ps ds) (hd : Vals dvs ds) (hex : X.ex = [])
    (ha : PA X.nox (e :: es) t) (hdb : (x == ("__debug__" : Str)) = false := by decide) (he : starEach (e :: es) X.env = (false, eval e X.env) :: starEach es X.env := by rfl) (hpl : (backTo pos (starEach es X.env)).any (·.1) = false := by rfl) :
    PX X (.Call (.Name x p) (e :: es) [] pos) (fun E => tCall sp dvs E t) := by
  intro pins s σ H Q E I h
  refine wpAny_Call_Name_kw (ld_glob I hg hm ?_ hdb)
  refine PySem.W.callWith_K (h₀ := X.base) I.ok.mod.kin hk (wpAny_mono (ha pos pins s σ H _ (I.wish _) h) (fun us s1 ⟨vs, H1, I1, r, q⟩ => ⟨I1.kIn, ?_⟩) fun _ _ z => z.elim) he hpl
  exact run_fnX F hr hb hd hex I1.unwish r q
/-- a statement of a tried body -/
def PSx (X : Cx) (st : Stmt) (t : XK → TS) : Prop :=
  ∀ (pins : List (Addr × Obj)) (s : Shared) (σ : St) (H : Hp) (D : Ends) (E : XK), Inv X pins σ H s → t E D σ H → wpAny (model X.prog X.w) X.A (exec st X.env) (SP X pins D) (XP X pins σ E) s
theorem psx_expr {te : XK → TE} (he : PX X e te) (hs : swapsWith e none pos.line X.env = pure false := by rfl) : PSx X (.Expr e pos) (fun E => tDrop (te E)) := by
  intro pins s σ H D E I h
  exact wpAny_Expr_any (thn (he pins s σ H _ E I h) fun v s1 ⟨x, H1, I1, r1, q1⟩ => ⟨σ, H1, I1, q1⟩) I.quiet hs
theorem pssx_one {st : Stmt} {t : XK → TS} (h1 : PSx X st t) : PSX X [st] t := by
  intro pins s σ H D E I h
  refine wpAny_execs_cons (thn (h1 pins s σ H D E I h) fun f s1 q => ?_)
  cases f with
  | next => exact wpAny_execs_nil q
  | ret v => exact q
  | brk => exact q
  | cont => exact q
theorem psx_if {c : Expr} {a b : List Stmt} {tc : TT} {t u : XK → TS} (hc : PT X.nox c tc) (ha : PSX X a t) (hb : PSX X b u) : PSx X (.If c a b pos) (fun E => tIfS tc (t E) (u E)) := by
  intro pins s σ H D E I h
  refine wpAny_If (wpAny_mono (hc pins s σ H _ (I.wish _) h) (fun d s1 ⟨H1, I1, q1⟩ => ?_) fun _ _ z => z.elim)
  cases d with
  | true => exact ha pins s1 σ H1 D E I1.unwish q1
  | false => exact hb pins s1 σ H1 D E I1.unwish q1
end
/-! ### the clauses -/
section
variable {X : Cx}
/-- within a clause's suite -/
abbrev Cx.hnd (X : Cx) (x : Addr) : Cx := { X with A := X.A.mark (some (.ref x)), calm := false, xe := fun _ _ => False }
theorem Cx.Ok.hnd {x : Addr} (ok : X.Ok) : (X.hnd x).Ok := ⟨ok.mod, ok.kind, ok.glob, ok.blt, ok.above, ok.inj, ok.has, ok.cab, (fun z => nomatch z), ok.frames, ok.stk, ok.exf, ok.bs, ok.bsz, ok.noex, ok.exfs, ok.funs, ok.frf⟩
variable {pins : List (Addr × Obj)} {σ : St} {H : Hp} {s : Shared} {x : Addr}
theorem Inv.hnd (I : Inv X pins σ H s) : Inv (X.hnd x) pins σ H s := ⟨I.ok.hnd, I.os, I.bare, I.base, I.loc, I.cell, I.free, I.freeC, I.pin, I.hok, I.len⟩
theorem Inv.unhnd (ok : X.Ok) (I : Inv (X.hnd x) pins σ H s) : Inv X pins σ H s := ⟨ok, I.os, I.bare, I.base, I.loc, I.cell, I.free, I.freeC, I.pin, I.hok, I.len⟩
theorem SP.unhnd {D : Ends} {f : Flow} {s' : Shared} (ok : X.Ok) (h : SP (X.hnd x) pins D f s') : SP X pins D f s' := by
  cases f with
  | next => obtain ⟨σ', H', I, q⟩ := h; exact ⟨σ', H', I.unhnd ok, q⟩
  | brk => obtain ⟨σ', H', I, q⟩ := h; exact ⟨σ', H', I.unhnd ok, q⟩
  | cont => obtain ⟨σ', H', I, q⟩ := h; exact ⟨σ', H', I.unhnd ok, q⟩
  | ret u => obtain ⟨v, σ', H', I, r, q⟩ := h; exact ⟨v, σ', H', I.unhnd ok, r, q⟩
/-- an exception that was caught: its class, its dict -/
def XO (x C : Addr) (d : Option Addr) : HO := .ext fun h => ∃ vs sl, h.get? x = some ⟨.ref C, d, .fields vs, sl⟩
theorem Inv.track {o : HO} (I : Inv X pins σ H s) (hn : H x = none) (ho : Off X pins x) (new : ObjOk X.prog X.w (upd H x o) s.heap x o) : Inv X pins σ (upd H x o) s := by
  have ne : ∀ b u, H b = some u → b ≠ x := fun b u e z => by rw [z, hn] at e; cases e
  have nx : ∀ b, b ≠ x → H b = none → upd H x o b = none := fun b hb e => by rw [upd_ne hb]; exact e
  refine ⟨I.ok, I.os, I.bare, ⟨I.base.keep, I.base.slot, fun b u e n hx => nx b (fun z => by rw [z, ho.1] at e; cases e) (I.base.free b u e n hx), I.base.there, fun b xs e => ?_, fun b u v e => ?_, fun b ps e => ?_⟩,
    I.loc, I.cell, nx _ (Ne.symm ho.2.1) I.free, fun y c e => nx c (ho.2.2.2.1 y c e) (I.freeC y c e), fun p hp => ?_, fun b u e => ?_, I.len⟩
  · have q := I.base.tups b xs e
    rw [upd_ne (ne b _ q)]
    exact q
  · have q := I.base.frzs b u v e
    rw [upd_ne (ne b _ q)]
    exact q
  · obtain ⟨more, q⟩ := I.base.tbls b ps e
    exact ⟨more, by rw [upd_ne (ne b _ q)]; exact q⟩
  · obtain ⟨e, n, r⟩ := I.pin p hp
    exact ⟨e, nx p.1 (ho.2.2.2.2 p hp) n, r⟩
  · by_cases hb : b = x
    · subst hb
      rw [upd_same] at e
      cases e
      exact new
    · rw [upd_ne hb] at e
      exact (I.hok b u e).stay (fun _ _ _ q => q) (fun c q => by rw [upd_ne (ne c _ q)]; exact q) fun c xs q => by rw [upd_ne (ne c _ q)]; exact q
theorem excMatches_K {K : PySem.W.Frag} {M : Model} {A : Around} {E : Value → Shared → Prop} {s : Shared} {e C C' : Addr} {d : Option Addr} {dt : Data} {sl : Array (Option Value)} {b : Bool} {Q : Bool → Shared → Prop} (X : K.In s.heap) (he : s.heap.get? e = some ⟨.ref C, d, dt, sl⟩)
    (h1 : PySem.W.instIn K (.ref C') (.type "tuple") = some false) {cd : ClassData} (h2 : PySem.W.clsIn K C' = some cd) (h3 : PySem.W.subIn K (.ref C') (.type "BaseException") = some true) (h4 : PySem.W.subIn K (.ref C) (.ref C') = some b) (q : Q b s) :
    wpAny M A (excMatches (.ref e) (.ref C')) Q E s := by
  have it : PySem.W.Looks M s.heap (isExcClass (.ref C')) true := by
    unfold isExcClass
    refine PySem.W.Looks.andThen (a := true) ?_ (PySem.W.looks_subIn X h3)
    unfold PySem.W.clsIn at h2
    split at h2
    · rename_i ho
      intro A' Q' E' s' k q'
      unfold isType loadHead
      exact wpAny_bind (wpAny_loadPart (k _ _ (X _ _ ho)) (wpAny_pure q'))
    · cases h2
  have ty : PySem.W.Looks M s.heap (typeOf (.ref e)) (.ref C) := (PySem.W.Looks.ld he).andThen .now
  unfold excMatches
  refine wpAny_bind ((PySem.W.looks_instIn X h1).here ?_)
  simp only [Bool.false_eq_true, if_false]
  refine wpAny_bind (wpAny_pure ?_)
  simp only [List.forIn_cons, List.forIn_nil]
  refine wpAny_bind (wpAny_bind ?_)
  refine wpAny_bind (it.here ?_)
  simp only [Bool.not_true, Bool.false_eq_true, if_false]
  refine wpAny_pure (wpAny_pure (wpAny_bind (ty.here (wpAny_bind (wpAny_bind (wpAny_bind ((PySem.W.looks_subIn X h4).here ?_)))))))
  cases b with
  | true => exact wpAny_pure (wpAny_pure (wpAny_pure q))
  | false => exact wpAny_pure (wpAny_pure (wpAny_pure q))
theorem flight_same {M : Model} {A : Around} {E : Value → Shared → Prop} {vs : Array Value} {T : Addr} {c : Value} {d : Option Addr} {sl : Array (Option Value)} {Q : Unit → Shared → Prop} (he : s.heap.get? x = some ⟨c, d, .fields vs, sl⟩) (ht : Trail s.heap x vs (some T)) (q : Q () s) : wpAny M A (setFlight (.ref x) none) Q E s := by
  obtain ⟨h1, _, oT, ts, gT, dT, h3⟩ := ht
  refine wpAny_setFlight_none he rfl h1 gT dT (Array.getElem?_eq_some_iff.mp h3).1 ?_
  rw [Heap.update_setField_same s.heap T oT ts 3 .none gT dT h3]
  exact q
/-- the name of a clause goes -/
theorem unbind_ok {M : Model} {A : Around} {E : Value → Shared → Prop} {i : Nat} {n : Str} {pos : Pos} {Q : Unit → Shared → Prop} (I : Inv X pins σ H s) (hN : X.N.Nodup) (hi : X.N[i]? = some n) (hk : X.env.scope.names.lookup n = some .local)
    (h : ∀ s', Inv X pins (σ.set i none) H s' → Q () s') : wpAny M A (do bindName X.env n .none; unbindBehindTheSuite X.env n pos) Q E s := by
  obtain ⟨m, hn, hl⟩ := id I.loc
  have hcls : (X.env.scope.kind == .class || (X.env.scope.kind == .module && X.env.locals != X.env.globals)) = false := by rw [I.ok.kind]; rfl
  have hiσ : i < σ.length := by rw [I.len]; exact (List.getElem?_eq_some_iff.mp hi).1
  have cne := I.cne
  obtain ⟨oL, _, _, hoL, _⟩ := id hn
  have neL : ∀ b o, X.s₀.heap.get? b = some o → b ≠ X.env.locals := fun b o e => Nat.ne_of_lt (Nat.lt_of_lt_of_le (Heap.lt_size e) I.ok.above)
  refine wpAny_nameGoes_keeps hk hn hcls fun h' v hn' hs => h _ ⟨I.ok, I.os, I.bare, ⟨fun b o e n hb hx => ?_, fun b o e n hb hx => ?_, I.base.free, fun b o e hx => ?_, I.base.tups, I.base.frzs, I.base.tbls⟩, ⟨_, hn', fun j y v' e1 e2 e3 => ?_⟩, fun y c e => ?_, I.free, I.freeC, fun p hp => ?_, fun b u e => ?_, by simpa using I.len⟩
  · exact (hs.2 b (neL b o e)).trans (I.base.keep b o e n hb hx)
  · obtain ⟨sl, e1⟩ := I.base.slot b o e n hb hx
    exact ⟨sl, (hs.2 b (neL b o e)).trans e1⟩
  · obtain ⟨o', e1⟩ := I.base.there b o e hx
    exact ⟨o', (hs.2 b (neL b o e)).trans e1⟩
  · by_cases hj : j = i
    · subst hj
      rw [List.getElem?_set_self hiσ] at e2
      cases e2
    · rw [List.getElem?_set_ne (Ne.symm hj)] at e2
      obtain ⟨u', r', q⟩ := hl j y v' e1 e2 e3
      refine ⟨u', r', ?_⟩
      rcases q with ⟨k, e⟩ | ⟨k, c, e, z⟩
      · refine .inl ⟨k, ?_⟩
        have : y ≠ n := fun e => hj (nodup_ix hN e1 (e ▸ hi))
        simp [this, e]
      · exact .inr ⟨k, c, e, z.sameBut hs (cne y c e)⟩
  · obtain ⟨w', z⟩ := I.cell y c e
    exact ⟨w', z.sameBut hs (cne y c e)⟩
  · obtain ⟨e, n, ne, nf, d⟩ := I.pin p hp
    exact ⟨(hs.2 p.1 ne).trans e, n, ne, nf, d⟩
  · refine (I.hok b u e).stay (fun c w' hc q => (hs.2 c ?_).trans q) (fun _ q => q) fun _ _ q => q
    rintro rfl
    rcases hc with z | z
    · rw [← z, I.free] at e; cases e
    · rw [I.free] at z; cases z
/-- an exception that was noted here -/
def XHeld (X : Cx) (pins : List (Addr × Obj)) (H : Hp) (h : Heap) (x : Addr) (cls : Value) (d : Option Addr) : Prop :=
  H x = none ∧ Off X pins x ∧ ∃ vs sl T, h.get? x = some ⟨cls, d, .fields vs, sl⟩ ∧ Trail h x vs (some T) ∧ H T = none ∧ Off X pins T
abbrev TH := Ends → St → Value → Option Addr → Hp → Prop
def PH (X : Cx) (hs : List ExceptHandler) (t : TH) : Prop :=
  ∀ (pins : List (Addr × Obj)) (s : Shared) (σ : St) (H : Hp) (D : Ends) (x : Addr) (cls : Value) (d : Option Addr), Inv X pins σ H s → XHeld X pins H s.heap x cls d → t D σ cls d H →
    wpAny (model X.prog X.w) X.A (handleBy (.ref x) X.env hs) (SP X pins D) X.xe s
/-- a class of the text that is caught -/
structure Catches (K : PySem.W.Frag) (C : Addr) : Prop where
  tu : PySem.W.instIn K (.ref C) (.type "tuple") = some false
  cl : ∃ cd, PySem.W.clsIn K C = some cd
  ex : PySem.W.subIn K (.ref C) (.type "BaseException") = some true
def hNever : TH := fun _ _ _ _ _ => False
theorem ph_never {hs : List ExceptHandler} : PH X hs hNever := fun _ _ _ _ _ _ _ _ _ _ h => h.elim
def hBare (K : PySem.W.Frag) (C' : Addr) (t : TS) (tr : TH) : TH := fun D σ cls d H => ∃ C b, cls = .ref C ∧ PySem.W.subIn K (.ref C) (.ref C') = some b ∧ if b = true then t D σ H else tr D σ cls d H
def hAs (K : PySem.W.Frag) (C' : Addr) (i : Nat) (t : TS) (tr : TH) : TH := fun D σ cls d H => ∃ C b, cls = .ref C ∧ PySem.W.subIn K (.ref C) (.ref C') = some b ∧
  if b = true then ∀ x, H x = none → t { nx := fun σ' H' => D.nx (σ'.set i none) H', rt := D.rt, bk := fun σ' H' => D.bk (σ'.set i none) H', ct := fun σ' H' => D.ct (σ'.set i none) H' } (σ.set i (some (.ref x))) (upd H x (XO x C d)) else tr D σ cls d H
theorem ph_as {y n : Str} {i : Nat} {C' : Addr} {np pos : Pos} {b₀ : Stmt} {suite : List Stmt} {rest : List ExceptHandler} {t : TS} {tr : TH} (hg : Gl X y) (hm : X.mg y = some (.ref C')) (hc : Catches X.K C') (hN : X.N.Nodup) (hi : X.N[i]? = some n) (hk : X.env.scope.names.lookup n = some .local)
    (hsu : ∀ x, PSs (X.hnd x) (b₀ :: suite) t) (hr : PH X rest tr) (hd : (y == ("__debug__" : Str)) = false := by decide) : PH X (.ExceptHandler (some (.Name y np)) (some n) (b₀ :: suite) pos :: rest) (hAs X.K C' i t tr) := by
  intro pins s σ H D x cls d I hx h
  obtain ⟨C, b, rfl, hsub, q⟩ := h
  obtain ⟨f1, f2, vs, sl, T, f3, f4, f5⟩ := id hx
  obtain ⟨cd, hcd⟩ := hc.cl
  refine wpAny_handleBy_cons (codeAny_handlers_test (ld_glob (X := X.hnd x) I.hnd hg hm (excMatches_K I.kIn f3 hc.tu hcd hc.ex hsub ?_) hd)) (by intro z; cases z)
  cases b with
  | false => exact hr pins s σ H D x _ d I hx q
  | true =>
    have J : Inv X pins σ (upd H x (XO x C d)) s := I.track f1 f2 ⟨⟨vs, sl, f3⟩, ⟨_, f3⟩, fun h1 h2 ⟨vs', sl', e⟩ k => ⟨vs', sl', k _ e⟩⟩
    refine codeAny_handlers_suite_as (flight_same f3 f4 (store_ok (v := .ref x) J hN hi (.inl hk) rfl (fun s2 J2 => ?_) (.inr hk)))
    refine wpAny_mono (hsu x pins s2 _ _ _ J2.hnd (q x f1)) (fun f s3 z => ?_) fun _ _ z => z.elim
    have z := z.unhnd I.ok
    cases f with
    | next => obtain ⟨σ', H', I', q'⟩ := z; exact unbind_ok I' hN hi hk fun s4 I4 => ⟨_, H', I4, q'⟩
    | brk => obtain ⟨σ', H', I', q'⟩ := z; exact unbind_ok I' hN hi hk fun s4 I4 => ⟨_, H', I4, q'⟩
    | cont => obtain ⟨σ', H', I', q'⟩ := z; exact unbind_ok I' hN hi hk fun s4 I4 => ⟨_, H', I4, q'⟩
    | ret u => obtain ⟨v, σ', H', I', r', q'⟩ := z; exact unbind_ok I' hN hi hk fun s4 I4 => ⟨v, _, H', I4, r', q'⟩
def tTry (tb : XK → TS) (th : TH) : TS := fun D σ H => tb (fun cls d H' => th D σ cls d H') D σ H
theorem ps_try {body : List Stmt} {h₀ : ExceptHandler} {hs : List ExceptHandler} {pos : Pos} {tb : XK → TS} {th : TH} (hb : PSX X body tb) (hh : PH X (h₀ :: hs) th) (hex : X.ex = [] := by rfl) (hstk : X.stack = X.env :: X.outer := by rfl) (hfr : X.env.frame = some X.env.locals := by rfl) :
    PS X (.Try body (h₀ :: hs) [] [] pos) (tTry tb th) := by
  intro pins s σ H D I h
  refine wpAny_Try_except (wpAny_mono (hb pins s σ H D _ I h) (fun f s1 q => ?_) fun e s1 q => ?_)
  · cases f with
    | next => exact wpAny_execs_nil q
    | ret v => exact q
    | brk => exact q
    | cont => exact q
  · obtain ⟨x, cls, d, H', rfl, I', ⟨f1, f2, vs, sl, tr, f3, f4, f5⟩, q⟩ := q
    refine noted_ok (env := X.env) (outer := X.outer) (by rw [← hstk]; exact I'.ok.frames) (by rw [← hstk]; exact I'.stack) hfr f3 rfl f4 fun h' N => ?_
    have J := I'.noted f1 f2 f5 (by rw [hstk]; exact N)
    obtain ⟨vs', T, g1, _, g2, g3⟩ := N.exc
    exact hh pins _ σ H' D x cls d J ⟨f1, f2, vs', sl, T, g1, g3, I'.hok.fresh g2, I'.off hex (Heap.get?_none_of_le g2)⟩ q
end
end L2
/-! ### defs, methods and classes in bundles -/
namespace L2
open PySem PySem.Spec PyProof.Rows
/-- a def of the text under its name, and what it promises -/
def FnB (P : Program) (w : World) (K : PySem.W.Frag) (mg : Str → Option Value) (base : Heap) (CX : CXT) (x : Str) (k : Nat) (ps : List Str) (sp : Sp) : Prop :=
  ∃ f fd, mg x = some (.ref f) ∧ PySem.W.keepIn K (.ref f) = true ∧ Binds K fd ps [] ∧ FnOk P w K mg base CX k f fd ps sp
/-- a method m of the class at C -/
def MtB (P : Program) (w : World) (K : PySem.W.Frag) (mg : Str → Option Value) (base : Heap) (CX : CXT) (C : Addr) (m : Str) (k : Nat) (ps : List Str) (sp : Sp) : Prop :=
  ∃ f fd, Meth K C m f ∧ Binds K fd ps [] ∧ FnOk P w K mg base CX k f fd ps sp
/-- the making of an instance of the class at C, the last of the arguments left out -/
def MkB (P : Program) (w : World) (K : PySem.W.Frag) (mg : Str → Option Value) (base : Heap) (CX : CXT) (C : Addr) (k : Nat) (ps : List Str) (dvs : List V) (sp : Sp) : Prop :=
  ∃ f fd ds, Mk K C f ∧ Binds K fd ps ds ∧ Vals dvs ds ∧ FnOk P w K mg base CX k f fd ps sp
theorem FnOk.up {P : Program} {w : World} {K : PySem.W.Frag} {mg : Str → Option Value} {base : Heap} {CX : CXT} {k : Nat} {f : Addr} {fd : FuncData} {ps : List Str} {sp : Sp} (F : FnOk P w K mg base CX0 k f fd ps sp) : FnOk P w K mg base CX k f fd ps sp :=
  ⟨F.len, fun A outer s H args us vs Q E hr he hb hv hs => codeAny_mono (F.run A outer s H args us vs Q E hr he hb hv hs) fun r s' h => by
    cases r with
    | error e => exact False.elim h
    | ok fl => cases fl <;> exact h⟩
section
variable {P : Program} {w : World} {K : PySem.W.Frag} {mg : Str → Option Value} {base : Heap} {CX : CXT} {x m : Str} {C : Addr} {k : Nat} {ps : List Str} {sp : Sp} {dvs : List V}
theorem MtB.up (h : MtB P w K mg base CX0 C m k ps sp) : MtB P w K mg base CX C m k ps sp := let ⟨f, fd, a, b, d⟩ := h; ⟨f, fd, a, b, d.up⟩
end
section
variable {X : Cx} {CX : CXT} {k j : Nat} {C : Addr} {ps : List Str} {sp : Sp} {dvs : List V} {E : XK} {x m : Str} {p pos apos : Pos} {e o : Expr} {es : List Expr} {ta : TE} {t : TA}
theorem pe_fn (F : FnB X.prog X.w X.K X.mg X.base CX x k ps sp) (hr : Room j X.A) (hx : Passes CX X E) (ha : PA X (e :: es) t) (hj : k ≤ j := by decide) (hg : Gl X x := by rfl) (hdb : (x == ("__debug__" : Str)) = false := by decide)
    (he : starEach (e :: es) X.env = (false, eval e X.env) :: starEach es X.env := by rfl) (hpl : (backTo pos (starEach es X.env)).any (·.1) = false := by rfl) : PE X (.Call (.Name x p) (e :: es) [] pos) (tCall sp [] E t) := by
  obtain ⟨f, fd, a, b, c, d⟩ := F
  exact pe_call d (hr.mono hj) hg a b c .nil hx ha hdb he hpl
theorem pe_mk (F : MkB X.prog X.w X.K X.mg X.base CX C k ps dvs sp) (hr : Room j X.A) (hm : X.mg x = some (.ref C)) (hx : Passes CX X E) (ha : PA X (e :: es) t) (hj : k + 1 ≤ j := by decide) (hg : Gl X x := by rfl) (hdb : (x == ("__debug__" : Str)) = false := by decide)
    (he : starEach (e :: es) X.env = (false, eval e X.env) :: starEach es X.env := by rfl) (hpl : (backTo pos (starEach es X.env)).any (·.1) = false := by rfl) : PE X (.Call (.Name x p) (e :: es) [] pos) (tMake C sp dvs E t) := by
  obtain ⟨f, fd, ds, a, b, c, d⟩ := F
  exact pe_make a d (hr.mono hj) hg hm b c hx ha hdb he hpl
theorem px_fn (F : FnB X.prog X.w X.K X.mg X.base (CX1 X.prog X.w) x k ps sp) (hr : Room j X.A) (ha : PA X.nox (e :: es) t) (hj : k ≤ j := by decide) (hg : Gl X x := by rfl) (hex : X.ex = [] := by rfl) (hdb : (x == ("__debug__" : Str)) = false := by decide)
    (he : starEach (e :: es) X.env = (false, eval e X.env) :: starEach es X.env := by rfl) (hpl : (backTo pos (starEach es X.env)).any (·.1) = false := by rfl) : PX X (.Call (.Name x p) (e :: es) [] pos) (fun E => tCall sp [] E t) := by
  obtain ⟨f, fd, a, b, c, d⟩ := F
  exact px_call d (hr.mono hj) hg a b c .nil hex ha hdb he hpl
end
/-- a def as the top has made it: its text, its name, how it binds -/
def FDe (K : PySem.W.Frag) (mg : Str → Option Value) (x : Str) (st : Stmt) (ps : List Str) : Prop := ∃ f fd, Fun K x x st f fd ∧ mg x = some (.ref f) ∧ Binds K fd ps []
def MDe (K : PySem.W.Frag) (C : Addr) (x qual : Str) (st : Stmt) (ps : List Str) : Prop := ∃ f fd, Fun K x qual st f fd ∧ Meth K C x f ∧ Binds K fd ps []
section
variable {P : Program} {w : World} {K : PySem.W.Frag} {mg : Str → Option Value} {base : Heap} {x qual : Str} {C : Addr} {st : Stmt} {N ps : List Str} {k : Nat} {sp : Sp}
/-- no exception leaves it -/
theorem FDe.ok (F : FDe K mg x st ps) (S : FnScope N ps (defScope st)) (len : ∀ vs H Q E, sp vs H Q E → vs.length = ps.length)
    (hbody : ∀ (f : Addr) (cdv : Value) (A : Around) (outer : List Env) (s : Shared) (H : Hp) (vs : List V) (Q : VK) (E : XK), Room k (A.deeper (envOfC x (defScope st) s.heap.objs.size f cdv)) → sp vs H Q E →
      ∃ t, PSs (cxOf CX0 P w K mg base N x (defScope st) f cdv A outer s H E).nox (defBody st) t ∧ t { nx := fun _ H' => Q .non H', rt := Q } (start N vs) H) : FnB P w K mg base CX0 x (k + 1) ps sp :=
  let ⟨f, fd, a, b, c⟩ := F
  ⟨f, fd, b, a.kp, c, a.ok S len (hbody f)⟩
theorem MDe.ok (F : MDe K C x qual st ps) (S : FnScope N ps (defScope st)) (len : ∀ vs H Q E, sp vs H Q E → vs.length = ps.length)
    (hbody : ∀ (f : Addr) (cdv : Value) (A : Around) (outer : List Env) (s : Shared) (H : Hp) (vs : List V) (Q : VK) (E : XK), Room k (A.deeper (envOfC qual (defScope st) s.heap.objs.size f cdv)) → sp vs H Q E →
      ∃ t, PSs (cxOf CX0 P w K mg base N qual (defScope st) f cdv A outer s H E).nox (defBody st) t ∧ t { nx := fun _ H' => Q .non H', rt := Q } (start N vs) H) : MtB P w K mg base CX0 C x (k + 1) ps sp :=
  let ⟨f, fd, a, b, c⟩ := F
  ⟨f, fd, b, c, a.ok S len (hbody f)⟩
/-- it may raise -/
theorem FDe.okX (F : FDe K mg x st ps) (S : FnScope N ps (defScope st)) (len : ∀ vs H Q E, sp vs H Q E → vs.length = ps.length)
    (hbody : ∀ (f : Addr) (cdv : Value) (A : Around) (outer : List Env) (s : Shared) (H : Hp) (vs : List V) (Q : VK) (E : XK), Room k (A.deeper (envOfC x (defScope st) s.heap.objs.size f cdv)) → sp vs H Q E →
      ∃ t, PSs (cxOf (CX1 P w) P w K mg base N x (defScope st) f cdv A outer s H E) (defBody st) t ∧ t { nx := fun _ H' => Q .non H', rt := Q } (start N vs) H) : FnB P w K mg base (CX1 P w) x (k + 1) ps sp :=
  let ⟨f, fd, a, b, c⟩ := F
  ⟨f, fd, b, a.kp, c, a.okX S len (hbody f)⟩
theorem MDe.okX (F : MDe K C x qual st ps) (S : FnScope N ps (defScope st)) (len : ∀ vs H Q E, sp vs H Q E → vs.length = ps.length)
    (hbody : ∀ (f : Addr) (cdv : Value) (A : Around) (outer : List Env) (s : Shared) (H : Hp) (vs : List V) (Q : VK) (E : XK), Room k (A.deeper (envOfC qual (defScope st) s.heap.objs.size f cdv)) → sp vs H Q E →
      ∃ t, PSs (cxOf (CX1 P w) P w K mg base N qual (defScope st) f cdv A outer s H E) (defBody st) t ∧ t { nx := fun _ H' => Q .non H', rt := Q } (start N vs) H) : MtB P w K mg base (CX1 P w) C x (k + 1) ps sp :=
  let ⟨f, fd, a, b, c⟩ := F
  ⟨f, fd, b, c, a.okX S len (hbody f)⟩
end
/-- a def's text, whatever its defaults -/
def FunG (K : PySem.W.Frag) (x qual : Str) (st : Stmt) (f : Addr) (fd : FuncData) : Prop := ∃ (oc : Value) (od : Option Addr) (dV kV doc pm : Value) (an : Option Addr) (cdv ct : Value) (osl : Array (Option Value)),
    fd = PySem.W.fnOf x qual (defArgs st) (defBody st) (defScope st) dV kV doc pm an cdv ct ∧ K.lookup f = some ⟨oc, od, .func fd, osl⟩ ∧ PySem.W.codeIn K cdv qual = true
/-- a def with defaults -/
structure FunD (K : PySem.W.Frag) (x qual : Str) (st : Stmt) (f : Addr) (fd : FuncData) (ds : Array Value) : Prop where
  ex : ∃ (oc : Value) (od : Option Addr) (T : Addr) (kV doc pm : Value) (an : Option Addr) (cdv ct : Value) (osl : Array (Option Value)) (o : Obj) (n : Nat),
    fd = PySem.W.fnOf x qual (defArgs st) (defBody st) (defScope st) (.ref T) kV doc pm an cdv ct ∧ K.lookup f = some ⟨oc, od, .func fd, osl⟩ ∧ PySem.W.codeIn K cdv qual = true ∧ K.lookup T = some o ∧ o.data = .seq ds n
section
variable {P : Program} {w : World} {K : PySem.W.Frag} {mg : Str → Option Value} {base : Heap} {x qual : Str} {C : Addr} {st : Stmt} {f : Addr} {fd : FuncData} {ds : Array Value} {N ps : List Str} {k : Nat} {sp : Sp}
theorem FunD.gen (F : FunD K x qual st f fd ds) : FunG K x qual st f fd := let ⟨oc, od, T, kV, doc, pm, an, cdv, ct, osl, _, _, e, l, c, _⟩ := F.ex; ⟨oc, od, .ref T, kV, doc, pm, an, cdv, ct, osl, e, l, c⟩
theorem Fun.gen (F : Fun K x qual st f fd) : FunG K x qual st f fd := let ⟨oc, od, kV, doc, pm, an, cdv, ct, osl, e, l, c⟩ := F.ex; ⟨oc, od, .none, kV, doc, pm, an, cdv, ct, osl, e, l, c⟩
theorem FunD.binds {es : List Value} (F : FunD K x qual st f fd ds)
    (h : ∀ (T : Addr) (kV doc pm : Value) (an : Option Addr) (cdv ct : Value) (us : List Value), (us ++ es).length = ps.length → ∃ k, bindArgs (PySem.W.fnOf x qual (defArgs st) (defBody st) (defScope st) (.ref T) kV doc pm an cdv ct) ⟨us, []⟩ = seqItems? (.ref T) >>= k ∧ k (some ds) = pure (ps.zip (us ++ es))) : Binds K fd ps es := by
  obtain ⟨oc, od, T, kV, doc, pm, an, cdv, ct, osl, o, n, rfl, lk, hcd, lt, hd⟩ := F.ex
  intro s us KX hl
  obtain ⟨k, h1, h2⟩ := h T kV doc pm an cdv ct us hl
  exact PySem.W.binds_K KX rfl lt hd h1 h2
theorem funD_mk {T : Addr} {oc : Value} {od an : Option Addr} {osl : Array (Option Value)} {kV doc pm cdv ct : Value} {o : Obj} {n : Nat} (l : K.lookup f = some ⟨oc, od, .func (PySem.W.fnOf x qual (defArgs st) (defBody st) (defScope st) (.ref T) kV doc pm an cdv ct), osl⟩)
    (c : PySem.W.codeIn K cdv qual = true) (t : K.lookup T = some o) (hd : o.data = .seq ds n) : FunD K x qual st f (PySem.W.fnOf x qual (defArgs st) (defBody st) (defScope st) (.ref T) kV doc pm an cdv ct) ds := ⟨⟨oc, od, T, kV, doc, pm, an, cdv, ct, osl, o, n, rfl, l, c, t, hd⟩⟩
theorem FunG.ok (F : FunG K x qual st f fd) (S : FnScope N ps (defScope st)) (len : ∀ vs H Q E, sp vs H Q E → vs.length = ps.length)
    (hbody : ∀ (cdv : Value) (A : Around) (outer : List Env) (s : Shared) (H : Hp) (vs : List V) (Q : VK) (E : XK), Room k (A.deeper (envOfC qual (defScope st) s.heap.objs.size f cdv)) → sp vs H Q E →
      ∃ t, PSs (cxOf CX0 P w K mg base N qual (defScope st) f cdv A outer s H E).nox (defBody st) t ∧ t { nx := fun _ H' => Q .non H', rt := Q } (start N vs) H) : FnOk P w K mg base CX0 (k + 1) f fd ps sp := by
  obtain ⟨oc, od, dV, kV, doc, pm, an, cdv, ct, osl, rfl, lk, hcd⟩ := F
  refine fn_of lk hcd S len fun A outer s H vs Q E hr hsp => ?_
  obtain ⟨t, h, q⟩ := hbody cdv A outer s H vs Q E hr hsp
  exact ⟨t, h.nox, q⟩
/-- an __init__ as the top has made it, and the defaults that may fill up -/
def IDe (K : PySem.W.Frag) (C : Addr) (qual : Str) (st : Stmt) (ps : List Str) (dvss : List (List V)) : Prop := ∃ f fd, FunG K "__init__" qual st f fd ∧ Mk K C f ∧ ∀ dvs ∈ dvss, ∃ es, Vals dvs es ∧ Binds K fd ps es
theorem IDe.ok {dvss : List (List V)} (F : IDe K C qual st ps dvss) (S : FnScope N ps (defScope st)) (len : ∀ vs H Q E, sp vs H Q E → vs.length = ps.length)
    (hbody : ∀ (f : Addr) (cdv : Value) (A : Around) (outer : List Env) (s : Shared) (H : Hp) (vs : List V) (Q : VK) (E : XK), Room k (A.deeper (envOfC qual (defScope st) s.heap.objs.size f cdv)) → sp vs H Q E →
      ∃ t, PSs (cxOf CX0 P w K mg base N qual (defScope st) f cdv A outer s H E).nox (defBody st) t ∧ t { nx := fun _ H' => Q .non H', rt := Q } (start N vs) H) : ∀ dvs ∈ dvss, MkB P w K mg base CX0 C (k + 1) ps dvs sp := fun dvs hd =>
  let ⟨f, fd, a, b, c⟩ := F
  let ⟨es, v, d⟩ := c dvs hd
  ⟨f, fd, es, b, d, v, a.ok S len (hbody f)⟩
end
end L2
/-! ### the law's entry, with the size of the script's ints -/
namespace L2
open PySem PySem.Spec PyProof.Rows PySem.W PySem.Calls
theorem weight_mem : ∀ (ns : List Int) (n : Int), n ∈ ns → Builtin.Int.intBits n ≤ WData.weightAll (ns.map WData.int)
  | m :: r, n, h => by
    rw [List.map_cons]
    show Builtin.Int.intBits n ≤ WData.weight (.int m) + 1 + WData.weightAll (r.map WData.int)
    rcases List.mem_cons.mp h with z | z
    · subst z
      have : WData.weight (.int n) = Builtin.Int.intBits n := by
        simp only [WData.weight, Builtin.Int.intBits]
      omega
    · have := weight_mem r n z
      omega
theorem bits_of_lay {ns : List Int} (h : WData.layableAll [WData.list (ns.map WData.int)] = true) : ∀ n ∈ ns, Builtin.Int.intBits n ≤ 2 ^ 20 := fun n hn => by
  have h1 : (WData.list (ns.map WData.int)).layable = true := by
    unfold WData.layableAll at h
    simpa using h
  have h2 := (layableW_iff.mp h1).2.2
  have h3 := weight_mem ns n hn
  exact Nat.le_trans h3 h2
theorem walk_ofB {l : PySem.W.OpenLaw} {n k : Nat} {q : Program} {loose : List Str} {XP : (Str → Option Value) → Heap → Prop} {YP : World → Heap → Prop} {d : DefRec} {K : Params → PySem.W.Frag} {CX : World → CXT} {sp : World → Sp} {x : Str}
    (hn : l.most = some n) (hn2 : n ≤ sizeLine) (hdf : d.params.defaults = []) (hr : Room k callerA)
    (hY : ∀ (w : World) (h : Heap), YP w h → (K w.params).In h)
    (F : ∀ (w : World) (mg : Str → Option Value) (fa : Addr) (h : Heap), (K w.params).In h → h.Ns mainGlobals mg → mg d.name = some (.ref fa) →
      ∃ fd : FuncData, (∀ (s : Shared) (u : Value), BindsTo s fd ⟨[u], []⟩ [(x, u)]) ∧
        ∀ base : Heap, (K w.params).In base → base.Ns mainGlobals mg → FnOk l.prog w (K w.params) mg base (CX w) k fa fd [x] (sp w))
    (hsp : ∀ (w : World) (H : Hp) (a : Addr) (ns : List Int), ns.length ≤ n → (∀ i ∈ ns, Builtin.Int.intBits i ≤ 2 ^ 20) → Only H → SqL (K w.params) H a (ns.map V.int) → sp w [.ref a] H (fun v _ => v = .bl true) fun _ _ _ => False)
    (hCX : ∀ (w : World) (H : Hp) (s : Shared) (e : Value) (s' : Shared), CX w [] H s (fun _ _ _ => False) e s' → False) :
    PySem.W.WalkO q loose XP YP l.row.toRowW d [] (fun f vs => PySem.call f vs) := by
  intro w s₀ s₁ mg mb G Y fa o pm cd doc dV kV ho hd hcd hD hmg hg args vals as hpre hlay hrd hwl hlo
  obtain rfl : dV = .none := Dflts.none hD hdf
  obtain rfl : kV = .none := Dflts.noKw hD
  obtain ⟨a, vs, ns, rfl, rfl, hobj, hints, hlen⟩ := Att.script_of hn hpre hwl
  have hbits := bits_of_lay hlay
  have KX := hY w _ Y
  obtain ⟨fd, hb, hF⟩ := F w mg fa _ KX G.T.g hmg
  refine enter_call (codeAny_mono (law_call KX G.T.g G.T.b G.T.builtins G.T.nolimit hg hobj hints (Nat.le_trans hlen hn2) hr hF hb (fun H hO hS => hsp w H a ns hlen hbits hO hS) fun H e s' => hCX w H s₁ e s') fun r s' hq => ?_)
  obtain ⟨rfl, h2, h3, h4⟩ := hq
  exact ⟨.inl ⟨.bool true, .bool true, [], rfl, fun _ => rfl, .bool true, Att.post_true l _, fun _ => ⟨List.Pairwise.nil, fun _ hm => (nomatch hm)⟩⟩, h2, h3, h4⟩
section
variable {X : Cx}
end
end L2
/-! ### an exception that was caught: what it is, what it tells -/
namespace L2
open PySem PySem.Spec PyProof.Rows
section
variable {prog : Program} {w : World} {A : Around} {E : Value → Shared → Prop} {s : Shared} {K : PySem.W.Frag} {x D : Addr} {ox : Obj} {od : Option Obj} {name : Str}
/-- an exception class of the text, as its instances are asked -/
structure ExA (K : PySem.W.Frag) (D : Addr) : Prop where
  ga : PySem.W.findIn K (.ref D) "__getattribute__" = some (some (.builtin "BaseException.__getattribute__"))
  gh : PySem.W.findIn K (.ref D) "__getattr__" = some none
  be : PySem.W.mroIn K D (.type "BaseException") = some true
  ca : PySem.W.findIn K (.ref D) "__class__" = some (some (.builtin "object.__class__"))
  gs : PySem.W.specialIn K (.builtin "object.__class__") "__get__" = some (some (.builtin "getset_descriptor.__get__"))
  tk : PySem.W.takesIn K (.builtin "object.__class__") = some true
  ob : PySem.W.mroIn K D (.type "object") = some true
  cl : ∃ cd, PySem.W.clsIn K D = some cd
theorem exc_check {nameV : Value} {Q : Unit → Shared → Prop} (a : ExA K D) (X : K.In s.heap) (I : PySem.W.InstAt s.heap x ox D od) (hq : Q () s) : wpAny (model prog w) A (checkBuiltinCall "BaseException.__getattribute__" ⟨[.ref x, nameV], []⟩) Q E s := by
  have hk : builtinKind "BaseException.__getattribute__" = some .slot := by decide +kernel
  have hsplit : splitId "BaseException.__getattribute__" = some ("BaseException", "__getattribute__") := by decide +kernel
  have ha := F.args_bexc_ga (.ref x) nameV
  have LI : PySem.W.Looks (model prog w) s.heap (isInstance (.ref x) (.type "BaseException")) true := I.type.andThen (PySem.W.looks_mroIn X a.be)
  obtain ⟨hh, g, d, t, os⟩ := s
  simp only [checkBuiltinCall, hk, hsplit]
  refine wpAny_bind (LI.at ?_)
  repeat (first | assumption | wp_step)
theorem exc_call_val {tk : Tok} {v : Value} {R : Result → Shared → Prop} (a : ExA K D) (X : K.In s.heap) (I : PySem.W.InstAt s.heap x ox D od) (hf : PySem.W.findObj K D od name = some (.value v)) (hq : R (.ok (.ret v)) s) :
    codeAny (model prog w) A (.call (.builtin "BaseException.__getattribute__") ⟨[.ref x, .str name tk], []⟩) R s := by
  refine codeAny_call_builtin F.excAttr_ValueError.ga.plain F.entry_bexc_ga (exc_check a X I ?_)
  have L0 := I.type (M := model prog w)
  have L1 := PySem.W.looks_find (M := model prog w) X I hf
  obtain ⟨hh, g, d, t, os⟩ := s
  refine wpAny_bind (wpAny_pure ?_)
  refine wpAny_bind (wpAny_pure ?_)
  refine wpAny_bind (L0.at (wpAny_bind (L1.at ?_)))
  exact wpAny_pure hq
theorem exc_call_cls {tk : Tok} {R : Result → Shared → Prop} (a : ExA K D) (X : K.In s.heap) (I : PySem.W.InstAt s.heap x ox D od) (hq : R (.ok (.ret (.ref D))) s) :
    codeAny (model prog w) A (.call (.builtin "BaseException.__getattribute__") ⟨[.ref x, .str "__class__" tk], []⟩) R s := by
  refine codeAny_call_builtin F.excAttr_ValueError.ga.plain F.entry_bexc_ga (exc_check a X I ?_)
  have hf : PySem.W.findObj K D od "__class__" = some (.bind (.builtin "getset_descriptor.__get__") (.builtin "object.__class__")) := by
    obtain ⟨cd, hc⟩ := a.cl
    unfold PySem.W.findObj
    rw [hc, Option.bind_some, a.ca, Option.bind_some]
    simp [a.gs, a.tk]
  have L0 := I.type (M := model prog w)
  have L1 := PySem.W.looks_find (M := model prog w) X I hf
  obtain ⟨hh, g, d, t, os⟩ := s
  refine wpAny_bind (wpAny_pure ?_)
  refine wpAny_bind (wpAny_pure ?_)
  refine wpAny_bind (L0.at (wpAny_bind (L1.at ?_)))
  refine wpAny_bind (wpAny_holding (wpAny_call (PySem.W.class_get (s := ⟨hh, g, d, t, os⟩) X I a.ob ?_)))
  exact wpAny_pure hq
theorem exc_by {tk : Tok} {fill expr : Bool} {v : Value} {Q : Value → Shared → Prop} (a : ExA K D) (X : K.In s.heap) (I : PySem.W.InstAt s.heap x ox D od) (hv : PySem.W.handedIn v = true)
    (h : ∀ (A : Around) (R : Result → Shared → Prop), R (.ok (.ret v)) s → codeAny (model prog w) A (.call (.builtin "BaseException.__getattribute__") ⟨[.ref x, .str name tk], []⟩) R s) (q : Q v s) :
    wpAny (model prog w) A (getAttrBy (.ref x) (.str name tk) fill expr) Q E s := by
  have L0 := I.type (M := model prog w)
  have L1 := PySem.W.looks_findIn (M := model prog w) X a.ga
  have L2 := PySem.W.looks_findIn (M := model prog w) X a.gh
  have f3 := F.excAttr_ValueError.ga.bind (.ref x)
  obtain ⟨hh, g, d, t, os⟩ := s
  unfold getAttrBy
  refine wpAny_holding (wpAny_bind (L0.at (wpAny_bind (L1.at ?_))))
  have hx2 : (Value.builtin "BaseException.__getattribute__" == Value.builtin "object.__getattribute__") = false := by decide +kernel
  have hx0 : (expr && onTheHeap (Value.builtin "BaseException.__getattribute__")) = false := by cases expr <;> rfl
  dsimp only
  rw [hx2, Bool.and_false]
  simp only [Bool.false_eq_true, if_false]
  unfold getAttrByItsOwn hookBefore callGetattribute boundAndCalled
  rw [hx0]
  simp only [Bool.false_eq_true, if_false, onTheHeap, if_true]
  refine wpAny_bind (L2.at ?_)
  refine wpAny_bind (wpAny_attempt (wpAny_holding ?_))
  rw [f3]
  refine wpAny_bind (wpAny_pure ?_)
  refine wpAny_call (h _ _ ?_)
  exact PySem.W.handed_on hv q
theorem exc_cls {Q : Option Value → Shared → Prop} (a : ExA K D) (X : K.In s.heap) (I : PySem.W.InstAt s.heap x ox D od) (h : Q (some (.ref D)) { s with toks := s.toks + 1 }) : wpAny (model prog w) A (getAttr? (.ref x) "__class__") Q E s := by
  obtain ⟨hh, g, d, t, os⟩ := s
  unfold getAttr? getAttrBy?
  refine wpAny_bind (wpAny_mkText (wpAny_bind (wpAny_attempt ?_)))
  exact exc_by (s := ⟨hh, g, d, t + 1, os⟩) a X I rfl (fun A R q => exc_call_cls (s := ⟨hh, g, d, t + 1, os⟩) a X I q) (wpAny_pure h)
theorem kitx_exc (a : ExA K D) : PySem.W.KitX K (.ref x) (.ref D) (fun h => ∃ ox od, PySem.W.InstAt h x ox D od) where
  ty := fun _ _ _ ⟨_, _, I⟩ => I.type
  it := fun _ _ X _ => by
    obtain ⟨cdD, hcD⟩ := a.cl
    unfold PySem.W.clsIn at hcD
    split at hcD
    · rename_i c' d' cd' sl' ho
      intro A' Q' E' s' k q
      unfold isType loadHead
      exact wpAny_bind (wpAny_loadPart (k _ _ (X _ _ ho)) (wpAny_pure q))
    · cases hcD
  ne := fun h tp dd its n sl X htp => by
    obtain ⟨cdD, hcD⟩ := a.cl
    refine Bool.eq_false_iff.mpr fun q => ?_
    have e : D = tp := Value.ref.inj (beq_iff_eq.mp q)
    subst e
    unfold PySem.W.clsIn at hcD
    split at hcD
    · rename_i c' d' cd' sl' ho
      have z := (X _ _ ho).symm.trans htp
      cases z
    · cases hcD
  ca := fun X ⟨_, _, I⟩ k => exc_cls a X I k
end
section
variable {X : Cx}
/-- a caught exception without a dict -/
def XAt (H : Hp) (x D : Addr) : Prop := H x = some (XO x D none)
def rIsX (K : PySem.W.Frag) (c : Value) : List V → Hp → VK → Prop := fun vs H Q => ∃ x D y b, vs = [.ref x, y] ∧ (∀ u, RelV y u → u = c) ∧ XAt H x D ∧ ExA K D ∧ PySem.W.kitOne K (.ref D) c = some b ∧ Q (.bl b) H
/-! ### lists of flat items, one == the other -/
def eqVs : List V → List V → Bool
  | [], [] => true
  | x :: xs, y :: ys => eqV x y && eqVs xs ys
  | _, _ => false
theorem eqVs_len : ∀ {xs ys : List V}, xs.length ≠ ys.length → eqVs xs ys = false
  | [], [], h => absurd rfl h
  | [], _ :: _, _ => rfl
  | _ :: _, [], _ => rfl
  | x :: xs, y :: ys, h => by
    show (eqV x y && eqVs xs ys) = false
    rw [eqVs_len (fun z => h (congrArg (· + 1) z)), Bool.and_false]
def eqAtJ (xs ys : List V) (j : Nat) : Bool := match xs[j]?, ys[j]? with | some x, some y => eqV x y | _, _ => true
theorem eqVs_all : ∀ {xs ys : List V}, xs.length = ys.length → (List.range xs.length).all (eqAtJ xs ys) = eqVs xs ys
  | [], [], _ => rfl
  | x :: xs, y :: ys, h => by
    rw [List.length_cons, List.range_succ_eq_map, List.all_cons, List.all_map]
    show (eqV x y && _) = (eqV x y && eqVs xs ys)
    rw [← eqVs_all (Nat.succ.inj h)]
    rfl
theorem vals_at {xs : List V} {us : List Value} (r : Vals xs us) : ∀ {j : Nat} {x : V} {u : Value}, xs[j]? = some x → us[j]? = some u → RelV x u := by
  induction r with
  | nil => intro j x u h; cases h
  | cons r1 _ ih =>
    intro j x u h1 h2
    cases j with
    | zero => cases h1; cases h2; exact r1
    | succ j => exact ih h1 h2
def rEqL (K : PySem.W.Frag) : R2 := fun x y H Q => ∃ p q xs ys, x = .ref p ∧ y = .ref q ∧ SqL K H p xs ∧ SqL K H q ys ∧ xs.all flatV = true ∧ ys.all flatV = true ∧ Q (.bl (eqVs xs ys)) H
end
end L2
/-! ### methods of an object whose class only the walk knows; a def called by its class -/
namespace L2
open PySem PySem.Spec PyProof.Rows
inductive ItMethD (P : Program) (w : World) (K : PySem.W.Frag) (mg : Str → Option Value) (base : Heap) (CX : CXT) (m : Str) (j : Nat) (E : XK) (t : TA) (σ : St) (Q : VK) (x : V) (H1 : Hp) : Prop
  | mk (a : _) (C : _) (dx : _) (fs : _) (k : _) (ps : _) (sp : _) (h1 : x = .ref a) (h2 : H1 a = some (.ins C dx fs)) (h3 : fs.lookup m = none) (h4 : Cls K C) (h5 : k ≤ j) (h6 : MtB P w K mg base CX C m k ps sp) (h7 : t σ H1 fun vs H2 => sp ((.ref a :: vs) ++ []) H2 Q E) : ItMethD P w K mg base CX m j E t σ Q x H1
def tMethD (P : Program) (w : World) (K : PySem.W.Frag) (mg : Str → Option Value) (base : Heap) (CX : CXT) (m : Str) (j : Nat) (E : XK) (ta : TE) (t : TA) : TE := fun σ H Q => ta σ H fun x H1 => ItMethD P w K mg base CX m j E t σ Q x H1
/-- the class is one of the text, and its attributes are read plainly -/
structure ClsRd (K : PySem.W.Frag) (C : Addr) : Prop where
  rd : PySem.W.readsIn K C (.type "type") = true
  sg : PySem.W.specialIn K (.ref C) "__getattribute__" = some (some (.builtin "type.__getattribute__"))
/-- a def m of the class at C, as it is called by the class -/
def CfB (P : Program) (w : World) (K : PySem.W.Frag) (mg : Str → Option Value) (base : Heap) (CX : CXT) (C : Addr) (m : Str) (k : Nat) (ps : List Str) (sp : Sp) : Prop :=
  ∃ f fd, ClsRd K C ∧ PySem.W.findCls K (.ref C) (.type "type") m = some (.val (.ref f)) ∧ PySem.W.keepIn K (.ref f) = true ∧ Binds K fd ps [] ∧ FnOk P w K mg base CX k f fd ps sp
section
variable {X : Cx} {CX : CXT} {k j : Nat} {C : Addr} {ps : List Str} {sp : Sp} {E : XK} {x m : Str} {p pos apos : Pos} {e o : Expr} {es : List Expr} {ta : TE} {t : TA}
theorem pe_mtD {pl : Sem Bool} (he : PE X o ta) (hr : Room j X.A) (hx : Passes CX X E) (ha : PA X (e :: es) t)
    (hst : starEach (e :: es) X.env = (false, eval e X.env) :: starEach es X.env := by rfl) (hpl : (backTo pos (starEach es X.env)).any (·.1) = false := by rfl)
    (ht : eval (.Call (.Attribute o m apos) (e :: es) [] pos) X.env = (do
      let ov ← eval o X.env
      standAt apos.atName
      let (f, first) ← holding [ov] (getMethod ov m pl)
      callWith pos f first (backTo pos (starEach (e :: es) X.env)) (backToKw pos (keywordEach [] X.env))) := by rfl) : PE X (.Call (.Attribute o m apos) (e :: es) [] pos) (tMethD X.prog X.w X.K X.mg X.base CX m j E ta t) := by
  intro pins s σ H Q I h
  refine PySem.W.methodCall_KW (pl := pl) (thn (he pins s σ H _ I h) fun u s1 ⟨x, H1, I1, rx, a, C, dx, fs, k, ps, sp, ex, ea, l, c, hj, ⟨f, fd, hm, hb, F⟩, q⟩ => ?_) ht
  subst ex
  obtain rfl : u = Value.ref a := rx
  refine getmeth_ok I1 ea c hm l ?_
  refine PySem.W.callWith_K (first := [.ref a]) (h₀ := X.base) I.ok.mod.kin hm.kp (thn (ha pos pins s1 σ H1 _ I1 q) fun us s2 ⟨vs, H2, I2, r, q2⟩ => ⟨I2.kIn, ?_⟩) hst hpl
  exact run_fn (us := .ref a :: us) (vs := .ref a :: vs) F (hr.mono hj) hb .nil hx I2 (.cons rfl r) q2
theorem pe_mtD0 {pl : Sem Bool} (he : PE X o ta) (hr : Room j X.A) (hx : Passes CX X E)
    (ht : eval (.Call (.Attribute o m apos) [] [] pos) X.env = (do
      let ov ← eval o X.env
      standAt apos.atName
      let (f, first) ← holding [ov] (getMethod ov m pl)
      callWith pos f first (backTo pos (starEach [] X.env)) (backToKw pos (keywordEach [] X.env))) := by rfl) : PE X (.Call (.Attribute o m apos) [] [] pos) (tMethD X.prog X.w X.K X.mg X.base CX m j E ta tNil) := by
  intro pins s σ H Q I h
  refine PySem.W.methodCall_KW (pl := pl) (thn (he pins s σ H _ I h) fun u s1 ⟨x, H1, I1, rx, a, C, dx, fs, k, ps, sp, ex, ea, l, c, hj, ⟨f, fd, hm, hb, F⟩, q⟩ => ?_) ht
  subst ex
  obtain rfl : u = Value.ref a := rx
  refine getmeth_ok I1 ea c hm l ?_
  exact PySem.W.callWith_K0 (first := [.ref a]) I1.kIn hm.kp (run_fn (us := [.ref a]) (vs := [.ref a]) F (hr.mono hj) hb .nil hx I1 (.cons rfl .nil) q)
/-- C.m(e, ..) -/
theorem pe_cf {np : Pos} {pl : Sem Bool} (F : CfB X.prog X.w X.K X.mg X.base CX C m k ps sp) (hr : Room j X.A) (hm : X.mg x = some (.ref C)) (hx : Passes CX X E) (ha : PA X (e :: es) t) (hj : k ≤ j := by decide) (hg : Gl X x := by rfl) (hdb : (x == ("__debug__" : Str)) = false := by decide)
    (hst : starEach (e :: es) X.env = (false, eval e X.env) :: starEach es X.env := by rfl) (hpl : (backTo pos (starEach es X.env)).any (·.1) = false := by rfl)
    (ht : eval (.Call (.Attribute (.Name x np) m apos) (e :: es) [] pos) X.env = (do
      let ov ← eval (.Name x np) X.env
      standAt apos.atName
      let (f, first) ← holding [ov] (getMethod ov m pl)
      callWith pos f first (backTo pos (starEach (e :: es) X.env)) (backToKw pos (keywordEach [] X.env))) := by rfl) : PE X (.Call (.Attribute (.Name x np) m apos) (e :: es) [] pos) (tCall sp [] E t) := by
  intro pins s σ H Q I h
  obtain ⟨f, fd, c, hf, hk, hb, F⟩ := F
  refine PySem.W.methodCall_KW (pl := pl) (ld_glob I hg hm ?_ hdb) ht
  refine PySem.W.method_cls I.kIn c.sg (PySem.W.cls_value I.kIn c.rd hf rfl ?_)
  have I1 := I.tok (s.toks + 1)
  refine PySem.W.callWith_K (first := []) (h₀ := X.base) I.ok.mod.kin hk (thn (ha pos pins _ σ H _ I1 h) fun us s2 ⟨vs, H2, I2, r, q2⟩ => ⟨I2.kIn, ?_⟩) hst hpl
  exact run_fn (us := us) (vs := vs) F (hr.mono hj) hb .nil hx I2 r q2
/-- a text, so many times -/
def rRepS : R2 := fun x y H Q => ∃ z n, x = .str z ∧ y = .int n ∧ z.length = 1 ∧ n.natAbs < 1000 ∧ Q (.str (Txt.mul z n)) H
theorem op_rep_str : OpR X (binaryOp .Mult) rRepS := by
  intro pins s σ H x y v u Q I rx ry h
  obtain ⟨z, n, rfl, rfl, hz, hn, q⟩ := h
  obtain ⟨t, rfl⟩ := rx
  obtain ⟨t', rfl⟩ := ry
  refine SB.mul ⟨?_, fun h1 _ => ?_, fun h1 _ => ?_⟩ fun t' tk => ⟨.str _, H, I.tok _, ⟨_, rfl⟩, q⟩
  · simp; omega
  · rw [hz]
    have : (1 : Int) ≤ (2 ^ 63 - 1) / n := Int.le_ediv_of_mul_le (by omega) (by omega)
    omega
  · rw [hz]
    unfold Builtin.Str.tooLong
    simp only [PySem.sizeLine_eq, gt_iff_lt, decide_eq_false_iff_not]
    omega
end
section
variable {P : Program} {w : World} {K : PySem.W.Frag} {mg : Str → Option Value} {base : Heap} {x qual : Str} {C : Addr} {st : Stmt} {N ps : List Str} {k : Nat} {sp : Sp}
/-- an __init__ that is called by its class -/
def CDe (K : PySem.W.Frag) (C : Addr) (qual : Str) (st : Stmt) (ps : List Str) : Prop := ∃ f fd, FunG K "__init__" qual st f fd ∧ ClsRd K C ∧ PySem.W.findCls K (.ref C) (.type "type") "__init__" = some (.val (.ref f)) ∧ PySem.W.keepIn K (.ref f) = true ∧ Binds K fd ps []
theorem CDe.ok (F : CDe K C qual st ps) (S : FnScope N ps (defScope st)) (len : ∀ vs H Q E, sp vs H Q E → vs.length = ps.length)
    (hbody : ∀ (f : Addr) (cdv : Value) (A : Around) (outer : List Env) (s : Shared) (H : Hp) (vs : List V) (Q : VK) (E : XK), Room k (A.deeper (envOfC qual (defScope st) s.heap.objs.size f cdv)) → sp vs H Q E →
      ∃ t, PSs (cxOf CX0 P w K mg base N qual (defScope st) f cdv A outer s H E).nox (defBody st) t ∧ t { nx := fun _ H' => Q .non H', rt := Q } (start N vs) H) : CfB P w K mg base CX0 C "__init__" (k + 1) ps sp :=
  let ⟨f, fd, a, b, c, d, e⟩ := F
  ⟨f, fd, b, c, d, e, a.ok S len (hbody f)⟩
end
end L2
/-! ### a list taken apart -/
namespace L2
open PySem PySem.Spec PyProof.Rows
section
variable {prog : Program} {w : World} {A : Around} {E : Value → Shared → Prop} {s : Shared}
end
section
variable {X : Cx} {pos : Pos}
def gLst (K : PySem.W.Frag) (n : Nat) (t : TGs) : TG := fun v σ H Q => ∃ a xs, v = .ref a ∧ SqL K H a xs ∧ xs.length = n ∧ t xs σ H Q
end
end L2
namespace L2
open PySem PySem.Spec PyProof.Rows
/-- what is asked of a def's suite -/
def BodyOk (P : Program) (w : World) (K : PySem.W.Frag) (mg : Str → Option Value) (base : Heap) (qual : Str) (st : Stmt) (N : List Str) (k : Nat) (sp : Sp) : Prop :=
  ∀ (f : Addr) (cdv : Value) (A : Around) (outer : List Env) (s : Shared) (H : Hp) (vs : List V) (Q : VK) (E : XK), Room k (A.deeper (envOfC qual (defScope st) s.heap.objs.size f cdv)) → sp vs H Q E →
    ∃ t, PSs (cxOf CX0 P w K mg base N qual (defScope st) f cdv A outer s H E).nox (defBody st) t ∧ t { nx := fun _ H' => Q .non H', rt := Q } (start N vs) H
def BodyX (P : Program) (w : World) (K : PySem.W.Frag) (mg : Str → Option Value) (base : Heap) (qual : Str) (st : Stmt) (N : List Str) (k : Nat) (sp : Sp) : Prop :=
  ∀ (f : Addr) (cdv : Value) (A : Around) (outer : List Env) (s : Shared) (H : Hp) (vs : List V) (Q : VK) (E : XK), Room k (A.deeper (envOfC qual (defScope st) s.heap.objs.size f cdv)) → sp vs H Q E →
    ∃ t, PSs (cxOf (CX1 P w) P w K mg base N qual (defScope st) f cdv A outer s H E) (defBody st) t ∧ t { nx := fun _ H' => Q .non H', rt := Q } (start N vs) H
end L2
/-! ### an exception class with an __init__ of its own -/
namespace L2
open PySem PySem.Spec PyProof.Rows
section
variable {prog : Program} {w : World} {A : Around} {E : Value → Shared → Prop} {h : Heap} {g : Array GenState} {d : Drawn} {t : Nat} {os : OsState}
variable {nm q : Str} {C N : Addr} {bs bm bmB : List Value} {hdct : Bool} {sn : List Str} {sub : List Value} {ab : Bool} {col : Option Bool} {dd : Option Addr} {k0 k1 k2 k3 k5 : Option Value} {B newId initId : String}
theorem type_call_initT (F : ExcBaseFacts B newId initId bmB) (T : OwnTail h bmB bm) {mN : Str → Option Value} {rest : List Value} {fI : Addr} {oI : Obj} {Q : Fin → Shared → Prop}
    (hC : h.get? C = some (excClassObj nm q C N bs bm hdct sn sub ab col dd k0 k1 k2 k3 k5 newId)) (hn : h.Ns N mN) (hi : mN "__init__" = some (.ref fI))
    (hfI : h.get? fI = some oI) (hfc : oI.cls = .type "function")
    (hq : ∀ h' e, Heap.MadeExcOf h h' e (.ref C) rest →
      wpAny (model prog w) A (call (.ref fI) (.ref e :: rest)) (fun r s' => r = .none ∧ Q (.done (.ret (.ref e))) s') E ⟨h', g, d, t, os⟩) (hrest : rest.length ≤ sizeLine := by size_fits) :
    wpAny (model prog w) A (Builtin.«type.__call__» ⟨.ref C :: rest, []⟩) Q E ⟨h, g, d, t, os⟩ := by
  repeat (first | with_reducible refine wpAny_loadPart_at hC ?_ | with_reducible refine wpAny_madeBy_exc hC ?_ | wp_step)
  refine codeAny_call_builtin_code (Code.quiet_builtin _ F.quiet) (wpAny_check_new_subT F T hC ?_)
  refine codeAny_exc_new_subT F T hC ?_ hrest
  show wpAny _ _ _ _ _ _
  have hC₁ := Heap.get?_push_of_some { cls := .ref C, data := .fields #[.ref h.objs.size, .none, .none, .none, .bool false, .none] }
    (Heap.get?_push_of_some { cls := .type "tuple", data := .seq rest.toArray } hC)
  have hfI₁ := Heap.get?_push_of_some { cls := .ref C, data := .fields #[.ref h.objs.size, .none, .none, .none, .bool false, .none] }
    (Heap.get?_push_of_some { cls := .type "tuple", data := .seq rest.toArray } hfI)
  have hn₁ : ((h.push { cls := .type "tuple", data := .seq rest.toArray }).push { cls := .ref C, data := .fields #[.ref h.objs.size, .none, .none, .none, .bool false, .none] }).Ns N mN :=
    let ⟨o, es, ep, e, r⟩ := hn; ⟨o, es, ep, Heap.get?_push_of_some _ (Heap.get?_push_of_some _ e), r⟩
  have hget : ((h.push { cls := .type "tuple", data := .seq rest.toArray }).push
      { cls := .ref C, data := .fields #[.ref h.objs.size, .none, .none, .none, .bool false, .none] }).get? (h.objs.size + 1) = some
      { cls := .ref C, data := .fields #[.ref h.objs.size, .none, .none, .none, .bool false, .none] } := by heap_get
  have hcC : (Value.ref C :: bm).contains (.ref C) = true := by simp
  have T₁ := T.keeps (h' := (h.push { cls := .type "tuple", data := .seq rest.toArray }).push { cls := .ref C, data := .fields #[.ref h.objs.size, .none, .none, .none, .bool false, .none] })
    fun b o e => Heap.get?_push_of_some _ (Heap.get?_push_of_some _ e)
  unfold isInstance
  repeat (first | with_reducible refine wpAny_loadPart_at hget ?_ | (with_reducible refine wpAny_isSubtype_exc hC₁ ?_; rw [hcC]) | wp_step)
  show wpAny _ _ (typeLookup (.ref C) _) _ _ _
  refine wpAny_typeLookup_tail hC₁ hn₁ T₁ F.mroIs F.init.lookup ?_
  rw [hi]
  refine wpAny_holding (wpAny_bind ?_)
  unfold bindSpecial
  refine wpAny_bind (wpAny_typeOf (T := "function") ⟨_, hfI₁, hfc⟩ ?_)
  rw [if_pos (by decide)]
  refine wpAny_pure (wpAny_bind (wpAny_mono (hq _ (h.objs.size + 1) ⟨fun b o hb => Heap.get?_push_of_some _ (Heap.get?_push_of_some _ hb), Heap.get?_none_of_le (Nat.le_succ _), h.objs.size, hget, Heap.get?_none_of_le (Nat.le_refl _), ?_⟩) (fun r s' hr => ?_) fun _ _ x => x))
  · exact Heap.get?_push_of_some _ (Heap.get?_push_at rfl rfl)
  · obtain ⟨rfl, hQ⟩ := hr
    wp_walk
    exact hQ
theorem call_initT (F : ExcBaseFacts B newId initId bmB) (T : OwnTail h bmB bm) {mN : Str → Option Value} {rest : List Value} {fI : Addr} {oI : Obj} {Q : Value → Shared → Prop}
    (hC : h.get? C = some (excClassObj nm q C N bs bm hdct sn sub ab col dd k0 k1 k2 k3 k5 newId)) (hn : h.Ns N mN) (hi : mN "__init__" = some (.ref fI))
    (hfI : h.get? fI = some oI) (hfc : oI.cls = .type "function")
    (hq : ∀ h' e, Heap.MadeExcOf h h' e (.ref C) rest →
      wpAny (model prog w) (A.under (.builtin "type.__call__" ⟨.ref C :: rest, []⟩)) (call (.ref fI) (.ref e :: rest)) (fun r s' => r = .none ∧ Q (.ref e) s') E ⟨h', g, d, t, os⟩) (hrest : rest.length ≤ sizeLine := by size_fits) :
    wpAny (model prog w) A (call (.ref C) rest) Q E ⟨h, g, d, t, os⟩ := by
  have f1 := tc_lookup
  have f2 := tc_bind (.ref C)
  have hT : (⟨h, g, d, t, os⟩ : Shared).TypeIs (.ref C) "type" := ⟨_, hC, rfl⟩
  refine wpAny_call (codeAny_of_tree ?_)
  show wpAny _ _ (callAny (.ref C) _) _ _ _
  repeat (any_goals (first | assumption | with_reducible refine wpAny_loadPart_at hC ?_ | wp_step))
  refine ⟨rfl, ?_⟩
  refine codeAny_call_builtin_at (Code.quiet_builtin _ (by decide +kernel)) entry_typeCall (wpAny_check_type_call_sub hC (type_call_initT (hrest := hrest) F T hC hn hi hfI hfc fun h' e hm => ?_))
  exact hq h' e hm
end
end L2
/-! #### what is stored in an exception -/
namespace L2
open PySem PySem.Spec PyProof.Rows
open Builtin Builtin.ObjectAttr
section
theorem refuse_bmV (self : Value) : refuseLoop self "__setattr__" bmV = pure () := by kernel_rfl
/-- an exception class of the text with an __init__ of its own -/
structure ExI (K : PySem.W.Frag) (C : Addr) : Prop where
  cl : ∃ (cd : ClassData) (tl : List Addr), PySem.W.clsIn K C = some cd ∧ cd.mro = tl.map Value.ref ++ bmV ∧ cd.hasDict = true
  sa : PySem.W.findIn K (.ref C) "__setattr__" = some (some (.builtin "object.__setattr__"))
theorem refuse_tail (self : Value) : ∀ tl : List Addr, refuseLoop self "__setattr__" (tl.map Value.ref ++ bmV) = pure ()
  | [] => refuse_bmV self
  | a :: tl => by
    rw [List.map_cons, List.cons_append, refuseLoop_ref]
    exact refuse_tail self tl
variable {prog : Program} {w : World} {A : Around} {E : Value → Shared → Prop} {s : Shared} {K : PySem.W.Frag} {x C : Addr} {o : Obj} {od : Option Obj} {name : Str} {v : Value}
theorem exc_open {tk : Tok} {R : Result → Shared → Prop} (X : K.In s.heap) (I : PySem.W.InstAt s.heap x o C od) (F : ExI K C) (n : NoAttr K C name)
    (h : ∀ b, wpAny (model prog w) A.in1 (storeInOwnDict (.ref x) (.ref C) (.str name tk) name v b)
      (fun fin s' => match fin with | .done f => R (.ok f) s' | .again c' => c'.quiet = true ∧ codeAny (model prog w) A c' R s') (fun e s' => R (.error e) s') s) :
    codeAny (model prog w) A (.call (.builtin "object.__setattr__") ⟨[.ref x, .str name tk, v], []⟩) R s := by
  have SF := PySem.F.store_object
  obtain ⟨cd, tl, hc, hm, hd⟩ := F.cl
  have has : cd.mro.contains (.type "object") = true := by rw [hm]; simp
  have ne : cd.mro.isEmpty = false := by rw [hm]; simp
  have sub : PySem.W.Looks (model prog w) s.heap (isInstance (.ref x) (.type "object")) true := I.type.andThen (PySem.W.looks_mroIn X (by unfold PySem.W.mroIn; rw [hc, Option.bind_some, if_neg (by rw [ne]; decide), has]))
  refine codeAny_call_builtin SF.slot.plain SF.entry (@PySem.W.check_slot (model prog w) _ _ s "object.__setattr__" "object" "__setattr__" (.ref x) [.str name tk, v] [] _ SF.kind SF.split sub (SF.args (.ref x) (.str name tk) v) ?_)
  obtain ⟨attr, ha, hr⟩ := Option.bind_eq_some_iff.mp n.taker
  have hmr : PySem.W.Looks (model prog w) s.heap (mroOf (.ref C)) cd.mro := (PySem.W.looks_clsIn X hc).andThen .now
  have L3 : PySem.W.Looks (model prog w) s.heap (storeTaker? attr) none := by
    cases attr with
    | none => cases hr; exact .now
    | some a =>
      obtain ⟨b, hb, hr⟩ := Option.map_eq_some_iff.mp hr
      refine (PySem.W.looks_takesIn X hb).andThen ?_
      cases b with
      | true => cases hr
      | false => exact .now
  rw [PySem.W.osa_eq, refuse_eq]
  refine wpAny_bind (wpAny_bind (I.type.here (wpAny_bind (hmr.here ?_))))
  rw [hm, refuse_tail]
  refine wpAny_pure (wpAny_bind (I.type.here (wpAny_bind ((PySem.W.looks_findIn X ha).here (wpAny_bind (L3.here ?_))))))
  exact h _
/-- the first attribute: the dict is made -/
theorem exc_set0 {Q : Unit → Shared → Prop} (X : K.In s.heap) (F : ExI K C) (n : NoAttr K C name) (hx : s.heap.get? x = some o) (hc : o.cls = .ref C) (hnc : ∀ c, o.data ≠ .cls c) (hdn : o.dict = none)
    (hq : ∀ h' tk', h'.get? x = some { cls := o.cls, dict := some s.heap.objs.size, data := o.data, slots := o.slots } → h'.Ns1 s.heap.objs.size (fun y => if y = name then some v else none) →
      (∀ b ob, b ≠ x → s.heap.get? b = some ob → h'.get? b = some ob) → Q () { s with heap := h', toks := tk' }) :
    wpAny (model prog w) A (setAttr (.ref x) name v) Q E s := by
  have hno : PySem.W.notCls o = true := by
    unfold PySem.W.notCls
    split
    · rename_i c e
      exact absurd e (hnc c)
    · rfl
  have I : PySem.W.InstAt s.heap x o C none := ⟨hx, hc, hno, by rw [hdn]; trivial⟩
  refine PySem.W.set_plain X I F.sa (exc_open (s := { s with toks := s.toks + 1 }) X I F n fun b => ?_)
  obtain ⟨cd, tl, hcl, hm, hd⟩ := F.cl
  obtain ⟨h, g, d, t, os⟩ := s
  dsimp only at hx X hq
  have hx₁ : (h.push { cls := .type "dict", data := .dict #[] }).get? x = some o := Heap.get?_push_of_some _ hx
  have hxs : x ≠ h.objs.size := Nat.ne_of_lt (Heap.lt_size hx)
  unfold storeInOwnDict ownDictForStores instanceDict
  refine wpAny_bind (wpAny_pure (wpAny_bind (wpAny_bind (wpAny_loadPart hx ?_))))
  rw [hc]
  refine wpAny_bind ((PySem.W.looks_clsIn X hcl).at ?_)
  rw [hd, hdn]
  simp only [Bool.not_true, Bool.false_eq_true, if_false]
  have hth : typeHasDict (.ref C) = true := by simp [typeHasDict]
  rw [hth]
  simp only [Bool.not_true, Bool.or_self, Bool.false_eq_true, if_false]
  refine wpAny_bind (wpAny_alloc' (wpAny_bind (wpAny_update' hx₁ (wpAny_pure ?_))))
  have hgd : ((h.push { cls := .type "dict", data := .dict #[] }).update x fun o => { cls := o.cls, dict := some h.objs.size, data := o.data, slots := o.slots }).get? h.objs.size
      = some { cls := .type "dict", data := .dict #[] } :=
    (Heap.get?_update_ne _ _ _ _ hxs.symm).trans (Heap.get?_push_at rfl rfl)
  have hnd : ((h.push { cls := .type "dict", data := .dict #[] }).update x fun o => { cls := o.cls, dict := some h.objs.size, data := o.data, slots := o.slots }).Ns h.objs.size (fun _ => none) :=
    ⟨_, #[], _, hgd, rfl, fun e he => absurd he (by simp), fun _ => rfl⟩
  show wpAny _ _ (storeInDict h.objs.size (.str name t) name v) _ _ _
  unfold storeInDict newKeyGuard
  refine wpAny_bind (wpAny_pure (wpAny_bind (wpAny_nsSet1 (Heap.Ns1.of_empty hnd) fun h' hn' hs => ?_)))
  obtain ⟨oD, esD, epD, hoD, hdD, hcD⟩ := hn'.count (Within.cons name v Within.nil)
  refine wpAny_bind (wpAny_lookBehind hoD (by rw [hdD]; exact pastItsLine_dict (Nat.le_trans hcD (by rw [List.length_cons, List.length_nil, sizeLine_eq]; omega))) ?_)
  refine wpAny_pure (hq h' _ ?_ hn' (fun b ob hbx hb => ?_))
  · refine (hs.2 x hxs).trans (Heap.get?_update_self _ hx₁ ?_)
    have hfr := (Heap.get?_some_iff.mp hx).2
    obtain ⟨oc, od, odt, osl⟩ := o
    cases odt <;> first | rfl | exact hfr
  · exact (hs.2 b (Nat.ne_of_lt (Heap.lt_size hb))).trans ((Heap.get?_update_ne _ _ _ _ hbx).trans (Heap.get?_push_of_some _ hb))
/-- GainError.__init__(self, text): the args are laid anew -/
theorem exc_base_init {nm q : Str} {N : Addr} {bs bm bmB : List Value} {hdct : Bool} {sn : List Str} {sub : List Value} {ab : Bool} {col : Option Bool} {dd de : Option Addr} {k0 k1 k2 k3 k5 : Option Value} {B newId initId : String} {e t0 : Addr} {rest : List Value} {Q : Value → Shared → Prop}
    (F : ExcBaseFacts B newId initId bmB) (T : OwnTail s.heap bmB bm) (hC : s.heap.get? C = some (excClassObj nm q C N bs bm hdct sn sub ab col dd k0 k1 k2 k3 k5 newId)) (he : s.heap.get? e = some ⟨.ref C, de, .fields #[.ref t0, .none, .none, .none, .bool false, .none], #[]⟩)
    (hq : ∀ h' t1, h'.get? e = some ⟨.ref C, de, .fields #[.ref t1, .none, .none, .none, .bool false, .none], #[]⟩ → (∀ b ob, b ≠ e → s.heap.get? b = some ob → h'.get? b = some ob) → Q .none { s with heap := h' }) (hrest : rest.length ≤ sizeLine) :
    wpAny (model prog w) A (call (.builtin initId) (.ref e :: rest)) Q E s := by
  obtain ⟨h, g, d, t, os⟩ := s
  dsimp only at hC he hq T
  refine wpAny_call (codeAny_call_builtin F.init.plain F.initEntry (wpAny_check_init_subT F T hC he rfl ?_))
  wp_walk
  refine hq _ h.objs.size ?_ fun b ob hb e => ?_
  · rw [Heap.get?_update_self _ (Heap.get?_push_of_some _ he) rfl]
    rfl
  · rw [Heap.get?_update_other _ _ (Ne.symm hb)]
    exact Heap.get?_push_of_some _ e
/-- raise of an exception that is made -/
theorem raise_made {M : Model} {env : Env} {nm q : Str} {N : Addr} {bs bm : List Value} {hdct : Bool} {sn : List Str} {sub : List Value} {ab : Bool} {col : Option Bool} {dd : Option Addr} {k0 k1 k2 k3 k5 : Option Value} {newId : String} {y : Sem Value} {Q : Flow → Shared → Prop} (hbase : bm.contains (.type "BaseException") = true) (hh : A.handled = none)
    (h : wpAny M A y (fun v s₁ => ∃ e t de, v = .ref e ∧ s₁.heap.get? C = some (excClassObj nm q C N bs bm hdct sn sub ab col dd k0 k1 k2 k3 k5 newId) ∧
      s₁.heap.get? e = some ⟨.ref C, de, .fields #[.ref t, .none, .none, .none, .bool false, .none], #[]⟩ ∧ E (.ref e) s₁) E s) :
    wpAny M A (raiseStmt env (some y) none) Q E s := by
  have hcB : (Value.ref C :: bm).contains (.type "BaseException") = true := by rw [List.contains_cons, hbase, Bool.or_true]
  unfold raiseStmt
  refine wpAny_bind (wpAny_mono h (fun v s₁ h₁ => ?_) fun _ _ x => x)
  obtain ⟨e, t, de, rfl, hC, he, hE⟩ := h₁
  obtain ⟨hp, g, d, tk, os⟩ := s₁
  repeat (first | with_reducible refine wpAny_loadPart_at he ?_ | with_reducible refine wpAny_loadPart_at hC ?_ | (with_reducible refine wpAny_isSubtype_exc hC ?_; rw [hcB]) | wp_step)
  exact wpAny_raiseNew_none hh hE
/-- where the __init__ of an exception class of the text lies -/
def excFI (K : PySem.W.Frag) (C : Addr) (bmB : List Value) (newId : String) : Option Addr := match K.lookup C with
  | some ⟨.type "type", _, .cls cd, sl⟩ => (match cd.mro, sl.toList with
    | .ref C' :: bm, [_, _, _, _, some (.builtin n), _] => if (C' == C && n == newId && !cd.hasDel && PySem.W.tailIn K bmB bm && PySem.W.nsOkIn K cd.ns) = true then (match PySem.W.nsIn K cd.ns "__init__" with | some (some (.ref f)) => some f | _ => none) else none
    | _, _ => none)
  | _ => none
theorem ns_of {h : Heap} {N : Addr} {mg : Str → Option Value} {n : Str} {v : Value} (X : K.In h) (G : h.Ns N mg) (e : PySem.W.nsIn K N n = some (some v)) : mg n = some v := by
  obtain ⟨o, es, ep, ho, hd, _, hf⟩ := G
  unfold PySem.W.nsIn at e
  split at e
  · rename_i c d es' n' sl q
    have := X _ _ q
    rw [ho] at this
    cases this
    cases hd
    split at e
    · rename_i en he
      cases e
      rw [← hf]
      unfold nsFind findBy
      rw [← Array.find?_toList, he]
      rfl
    · split at e <;> cases e
  · cases e
theorem exc_objI {h : Heap} {bmB : List Value} {newId : String} {f : Addr} (X : K.In h) (q : excFI K C bmB newId = some f) :
    ∃ bm N nm qn bs hd sn sub ab col dd k0 k1 k2 k3 k5 mN, h.get? C = some (excClassObj nm qn C N bs bm hd sn sub ab col dd k0 k1 k2 k3 k5 newId) ∧ h.Ns N mN ∧ mN "__init__" = some (.ref f) ∧ OwnTail h bmB bm := by
  unfold excFI at q
  split at q
  case h_2 => cases q
  case h_1 dd cd sl lk =>
    split at q
    case h_2 => cases q
    case h_1 C' bm k0 k1 k2 k3 n k5 hm hs =>
      split at q
      case isFalse => cases q
      case isTrue hq =>
        simp only [Bool.and_eq_true, beq_iff_eq, Bool.not_eq_true'] at hq
        obtain ⟨⟨⟨⟨e1, e2⟩, hdel⟩, ht⟩, hok⟩ := hq
        subst e1 e2
        split at q
        case h_2 => cases q
        case h_1 f' hi =>
          cases q
          obtain ⟨nm, bs, mro, ns, qn, hd, sn, sub, ab, col, del⟩ := cd
          dsimp only at hm hdel hok hi
          subst hm hdel
          obtain ⟨l⟩ := sl
          have hs : l = _ := hs
          subst hs
          exact ⟨bm, ns, nm, qn, bs, hd, sn, sub, ab, col, dd, k0, k1, k2, k3, k5, _, X _ _ lk, .of_isNs (PySem.W.isNs_of_in X hok), ns_of X (.of_isNs (PySem.W.isNs_of_in X hok)) hi, PySem.W.tail_of_in X ht⟩
end
end L2
/-! #### raise C(..), C with an __init__ of its own -/
namespace L2
open PySem PySem.Spec PyProof.Rows
section
variable {prog : Program} {w : World} {A : Around} {E : Value → Shared → Prop} {s : Shared} {env : Env}
variable {nm q : Str} {C N : Addr} {bs bm bmB : List Value} {hdct : Bool} {sn : List Str} {sub : List Value} {ab : Bool} {col : Option Bool} {dd : Option Addr} {k0 k1 k2 k3 k5 : Option Value} {B newId initId : String}
theorem Raise_call_initT (F : ExcBaseFacts B newId initId bmB) {mN : Str → Option Value} {fI : Addr} {oI : Obj} {x : Str} {np cpos pos : Pos} {args : List Expr} {Q : Flow → Shared → Prop}
    (hbase : bm.contains (.type "BaseException") = true) (hh : A.handled = none) (hplain : (backTo cpos (starEach args env)).any (·.1) = false) (hi : mN "__init__" = some (.ref fI)) (hfc : oI.cls = .type "function")
    (h : wpAny (model prog w) A (eval (.Name x np) env) (fun f s₁ => f = .ref C ∧ wpAny (model prog w) A (evalArgs (.ref C) true (backTo cpos (starEach args env)) [])
      (fun a s₂ => a.kw = [] ∧ a.pos.length ≤ sizeLine ∧ s₂.heap.get? C = some (excClassObj nm q C N bs bm hdct sn sub ab col dd k0 k1 k2 k3 k5 newId) ∧ s₂.heap.Ns N mN ∧ OwnTail s₂.heap bmB bm ∧ s₂.heap.get? fI = some oI ∧
        ∀ h' e, Heap.MadeExcOf s₂.heap h' e (.ref C) a.pos → wpAny (model prog w) (A.under (.builtin "type.__call__" ⟨.ref C :: a.pos, []⟩)) (call (.ref fI) (.ref e :: a.pos))
          (fun r s' => r = .none ∧ (∃ t de, s'.heap.get? C = some (excClassObj nm q C N bs bm hdct sn sub ab col dd k0 k1 k2 k3 k5 newId) ∧ s'.heap.get? e = some ⟨.ref C, de, .fields #[.ref t, .none, .none, .none, .bool false, .none], #[]⟩) ∧ E (.ref e) s') E { s₂ with heap := h' }) E s₁) E s) :
    wpAny (model prog w) A (exec (.Raise (some (.Call (.Name x np) args [] cpos)) none pos) env) Q E s := by
  rw [arm_exec_Raise]
  first
    | refine wpAny_bind (wpAny_standAt (raise_made (C := C) (nm := nm) (q := q) (N := N) (bs := bs) (bm := bm) (hdct := hdct) (sn := sn) (sub := sub) (ab := ab) (col := col) (dd := dd) (k0 := k0) (k1 := k1) (k2 := k2) (k3 := k3) (k5 := k5) (newId := newId) hbase hh (wpAny_bind (wpAny_mono (wpAny_Call_ofName (wpAny_mono h (fun f s₁ h₁ => ?_) fun _ _ x => x)) (fun v s₃ h₃ => wpAny_bind (wpAny_standAt (wpAny_pure h₃))) fun _ _ x => x))))
    | (simp only [evalOpt, Option.map]; refine wpAny_bind (wpAny_standAt (raise_made (C := C) (nm := nm) (q := q) (N := N) (bs := bs) (bm := bm) (hdct := hdct) (sn := sn) (sub := sub) (ab := ab) (col := col) (dd := dd) (k0 := k0) (k1 := k1) (k2 := k2) (k3 := k3) (k5 := k5) (newId := newId) hbase hh (wpAny_bind (wpAny_mono (wpAny_Call_ofName (wpAny_mono h (fun f s₁ h₁ => ?_) fun _ _ x => x)) (fun v s₃ h₃ => wpAny_bind (wpAny_standAt (wpAny_pure h₃))) fun _ _ x => x)))))
    | (refine wpAny_bind (wpAny_standAt (raise_made (C := C) (nm := nm) (q := q) (N := N) (bs := bs) (bm := bm) (hdct := hdct) (sn := sn) (sub := sub) (ab := ab) (col := col) (dd := dd) (k0 := k0) (k1 := k1) (k2 := k2) (k3 := k3) (k5 := k5) (newId := newId) hbase hh ?_)); refine wpAny_bind (wpAny_mono (wpAny_Call_ofName (wpAny_mono h (fun f s₁ h₁ => ?_) fun _ _ x => x)) (fun v s₃ h₃ => wpAny_bind (wpAny_standAt (wpAny_pure h₃))) fun _ _ x => x))
  obtain ⟨rfl, h₁⟩ := h₁
  unfold callWith
  refine wpAny_bind (wpAny_holding (wpAny_mono h₁ (fun a s₂ h₂ => wpAny_bind (wpAny_standAt ?_)) fun _ _ x => x))
  obtain ⟨apos, akw⟩ := a
  obtain ⟨hkw, hlen, hC, hn, T, hf, h₂⟩ := h₂
  obtain rfl : akw = [] := hkw
  obtain ⟨hp, g, d, tk, os⟩ := s₂
  simp only [hplain]
  refine wpAny_bind (wpAny_keeperOf_exc hC ?_)
  refine wpAny_bind (call_initT (hrest := hlen) F T hC hn hi hf hfc fun h' e hm => wpAny_mono (h₂ h' e hm) (fun r s' z => ?_) fun _ _ z => z)
  obtain ⟨rfl, ⟨t, de, g1, g2⟩, z⟩ := z
  exact ⟨rfl, wpAny_bind (wpAny_holding (wpAny_point (wpAny_pure ⟨e, t, de, rfl, g1, g2, z⟩)))⟩
end
/-- an exception in the making -/
def XI (e C : Addr) (d : Option Addr) : HO := .ext fun h => ∃ t, h.get? e = some ⟨.ref C, d, .fields #[.ref t, .none, .none, .none, .bool false, .none], #[]⟩
def del (H : Hp) (e : Addr) : Hp := fun b => if b = e then none else H b
section
variable {X : Cx} {pins : List (Addr × Obj)} {σ : St} {H : Hp} {s : Shared} {x : Addr}
theorem XI.ok {P : Program} {w : World} {h : Heap} {C t : Addr} {d : Option Addr} (e : h.get? x = some ⟨.ref C, d, .fields #[.ref t, .none, .none, .none, .bool false, .none], #[]⟩) : ObjOk P w H h x (XI x C d) :=
  ⟨⟨t, e⟩, ⟨_, e⟩, fun _ _ ⟨t', e'⟩ k => ⟨t', k _ e'⟩⟩
theorem Inv.forget {φ : Heap → Prop} (I : Inv X pins σ H s) (hx : H x = some (.ext φ)) : Inv X pins σ (del H x) s := by
  have nn : ∀ b, H b = none → del H x b = none := fun b e => by unfold del; split; rfl; exact e
  have st : ∀ b u, H b = some u → (∀ φ, u ≠ .ext φ) → del H x b = some u := fun b u e ne => by
    unfold del
    rw [if_neg]
    · exact e
    · rintro rfl
      rw [hx] at e
      cases e
      exact ne _ rfl
  refine ⟨I.ok, I.os, I.bare, ⟨I.base.keep, I.base.slot, fun b u e n hx => nn b (I.base.free b u e n hx), I.base.there, fun b xs e => st b _ (I.base.tups b xs e) (by nofun), fun b u v e => st b _ (I.base.frzs b u v e) (by nofun), fun b ps e => ?_⟩,
    I.loc, I.cell, nn _ I.free, fun y c e => nn _ (I.freeC y c e), fun p hp => ?_, fun b u e => ?_, I.len⟩
  · obtain ⟨more, q⟩ := I.base.tbls b ps e
    exact ⟨more, st b _ q (by nofun)⟩
  · obtain ⟨e, n, r⟩ := I.pin p hp
    exact ⟨e, nn _ n, r⟩
  · have e' : H b = some u := by
      unfold del at e
      split at e
      · cases e
      · exact e
    exact (I.hok b u e').stay (fun _ _ _ q => q) (fun c q => st c _ q (by nofun)) fun c xs q => st c _ q (by nofun)
end
end L2
namespace L2
open PySem PySem.Spec PyProof.Rows
/-- the __init__ of an exception class, and what it promises -/
def XiB (P : Program) (w : World) (K : PySem.W.Frag) (mg : Str → Option Value) (base : Heap) (C : Addr) (k : Nat) (ps : List Str) (sp : Sp) : Prop :=
  ∃ f fd, excFI K C bmV "ValueError.__new__" = some f ∧ PySem.W.typeIn K (.ref f) = some (.type "function") ∧ Binds K fd ps [] ∧ FnOk P w K mg base CX0 k f fd ps sp
section
variable {X : Cx} {E : XK}
def tRaiseI (C : Addr) (sp : Sp) (E : XK) (t : TA) : TS := fun _ σ H => t σ H fun vs H1 => vs.length ≤ sizeLine ∧
  ∀ e, H1 e = none → sp ((.ref e :: vs) ++ []) (upd H1 e (XI e C none)) (fun v H2 => v = .non ∧ ∃ d, H2 e = some (XI e C d) ∧ E (.ref C) d (del H2 e)) E0
theorem ps_raiseI {C : Addr} {x : Str} {np cpos pos : Pos} {e : Expr} {es : List Expr} {t : TA} {k j : Nat} {ps : List Str} {sp : Sp} (hxe : XOut X E) (hex : X.ex = []) (hr : Room j X.A) (hg : Gl X x) (hm : X.mg x = some (.ref C))
    (O : XiB X.prog X.w X.K X.mg X.base C k ps sp) (ha : PA X (e :: es) t) (hj : k + 1 ≤ j := by decide) (he : starEach (e :: es) X.env = (false, eval e X.env) :: starEach es X.env := by rfl) (hpl : (backTo cpos (starEach es X.env)).any (·.1) = false := by rfl)
    (hd : (x == ("__debug__" : Str)) = false := by decide) : PS X (.Raise (some (.Call (.Name x np) (e :: es) [] cpos)) none pos) (tRaiseI C sp E t) := by
  intro pins s σ H D I h
  obtain ⟨f, fd, hfi, hft, hb, F⟩ := O
  obtain ⟨bm, N, nm, qn, bs, hd', sn, sub, ab, col, dd, k0, k1, k2, k3, k5, mN, hC, hN, hi, T⟩ := exc_objI I.ok.mod.kin hfi
  obtain ⟨oI, hoI, hcI⟩ := Option.map_eq_some_iff.mp hft
  refine Raise_call_initT (C := C) (nm := nm) (q := qn) (N := N) (bs := bs) (bm := bm) (hdct := hd') (sn := sn) (sub := sub) (ab := ab) (col := col) (dd := dd) (k0 := k0) (k1 := k1) (k2 := k2) (k3 := k3) (k5 := k5)
    PySem.F.excBase_ValueError (mN := mN) (fI := f) (oI := oI) (T.hasType rfl) hr.hd (by rw [he]; show (false || (backTo cpos (starEach es X.env)).any (·.1)) = false; rw [hpl]; rfl) hi hcI (ld_glob I hg hm ⟨rfl, ?_⟩ hd)
  have ha' := ha cpos pins s σ H _ I h
  rw [he] at ha' ⊢
  refine Calls.evalArgs_plain (thn ha' fun us s1 ⟨vs, H1, I1, r, hl, q⟩ => ⟨rfl, by rw [← r.length]; exact hl, I1.bk _ _ hC, hN.keeps I1.bk, T.keeps I1.bk, I1.bk _ _ (I.ok.mod.kin _ _ hoI), fun h' y hy => ?_⟩)
  obtain ⟨t', g1, _, _⟩ := hy.there
  have ny := I1.hok.noObj hy.new
  have J : Inv X pins σ (upd H1 y (XI y C none)) { s1 with heap := h' } := (I1.kept (t' := s1.toks) hy.keeps).track ny (I1.off hex hy.new) (XI.ok g1)
  have hq := q y ny
  have r2 : Vals ((V.ref y :: vs) ++ []) ((Value.ref y :: us) ++ []) := Vals.append (.cons rfl r) .nil
  have hl2 : ((Value.ref y :: us) ++ []).length = ps.length := by rw [← r2.length]; exact F.len _ _ _ _ hq
  refine wpAny_call (codeAny_mono (F.run _ X.stack _ _ ⟨Value.ref y :: us, []⟩ _ _ _ E0 ((hr.mono hj).make C us []) (J.env0.make C us []) (hb _ (Value.ref y :: us) J.kIn hl2) r2 hq) fun r s' hq' => ?_)
  cases r with
  | error e => exact False.elim hq'
  | ok fl =>
    cases fl with
    | ret u =>
      obtain ⟨v, H', I3, rv, ev, d, hx, q3⟩ := J.after hq'
      subst ev
      obtain ⟨⟨t2, g2⟩, _⟩ := (show ObjOk X.prog X.w H' s'.heap y (XI y C d) from I3.hok y _ hx)
      refine ⟨rv, ⟨t2, d, I3.bk _ _ hC, g2⟩, ?_⟩
      refine hxe pins σ _ _ ⟨y, .ref C, d, del H' y, rfl, I3.forget hx, ⟨by unfold del; rw [if_pos rfl], I1.off hex hy.new, _, _, none, g2, rfl, fun T z => by cases z⟩, q3⟩
    | next => exact False.elim hq'
    | brk => exact False.elim hq'
    | cont => exact False.elim hq'
end
end L2
/-! ### within the __init__ of an exception -/
namespace L2
open PySem PySem.Spec PyProof.Rows
section
variable {X : Cx} {e e1 e2 value : Expr} {es : List Expr} {pos apos np pos' : Pos} {t : TA} {ta tv t1 t2 : TE} {x f : Str} {G : Addr}
theorem upd_id {H : Hp} {a : Addr} {o : HO} (h : H a = some o) : upd H a o = H := by
  funext b
  by_cases hb : b = a
  · subst hb
    rw [upd_same, h]
  · rw [upd_ne hb]
def tBI (K : PySem.W.Frag) (t : TA) : TE := fun σ H Q => t σ H fun vs H1 => ∃ e C d rest f, vs = .ref e :: rest ∧ H1 e = some (XI e C d) ∧ excFI K C bmV "ValueError.__new__" = some f ∧ rest.length ≤ sizeLine ∧ Q .non H1
/-- Base.__init__(self, ..), the base's own, which is ValueError's -/
theorem pe_binit {pl : Sem Bool} (cr : ClsRd X.K G) (hf : PySem.W.findCls X.K (.ref G) (.type "type") "__init__" = some (.val (.builtin "ValueError.__init__"))) (hm : X.mg x = some (.ref G)) (ha : PA X (e :: es) t) (hg : Gl X x := by rfl) (hdb : (x == ("__debug__" : Str)) = false := by decide)
    (hst : starEach (e :: es) X.env = (false, eval e X.env) :: starEach es X.env := by rfl) (hpl : (backTo pos (starEach es X.env)).any (·.1) = false := by rfl)
    (ht : eval (.Call (.Attribute (.Name x np) "__init__" apos) (e :: es) [] pos) X.env = (do
      let ov ← eval (.Name x np) X.env
      standAt apos.atName
      let (f, first) ← holding [ov] (getMethod ov "__init__" pl)
      callWith pos f first (backTo pos (starEach (e :: es) X.env)) (backToKw pos (keywordEach [] X.env))) := by rfl) : PE X (.Call (.Attribute (.Name x np) "__init__" apos) (e :: es) [] pos) (tBI X.K t) := by
  intro pins s σ H Q I h
  refine PySem.W.methodCall_KW (pl := pl) (ld_glob I hg hm ?_ hdb) ht
  refine PySem.W.method_cls I.kIn cr.sg (PySem.W.cls_value I.kIn cr.rd hf (by decide +kernel) ?_)
  have I1 := I.tok (s.toks + 1)
  refine PyProof.Rows.callWith_builtin1 (thn (ha pos pins _ σ H _ I1 h) fun us s1 ⟨vs, H1, I2, r1, q1⟩ => ?_) hst hpl
  obtain ⟨y, C, d, rest, fi, rfl, hy, hfi, hl, q⟩ := q1
  cases r1 with
  | cons r2 r3 =>
    cases r2
    obtain ⟨bm, N, nm, qn, bs, hd', sn, sub, ab, col, dd, k0, k1, k2, k3, k5, mN, hC, hN, hi, T⟩ := exc_objI I2.kIn hfi
    obtain ⟨⟨t0, g0⟩, _⟩ := (show ObjOk X.prog X.w H1 s1.heap y (XI y C d) from I2.hok y _ hy)
    refine exc_base_init PySem.F.excBase_ValueError T hC g0 (fun h' t1 g1 kp => ?_) (by rw [← r3.length]; exact hl)
    have J := I2.write (t' := s1.toks) (x := y) (e := y) (o := XI y C d) (by rw [hy]; exact True.intro) (.inl rfl) kp ⟨_, g1⟩ (XI.ok g1)
    rw [upd_id hy] at J
    exact ⟨.non, H1, J, rfl, q⟩
def tJ2 (t1 t2 : TE) : TE := fun σ H Q => t1 σ H fun x H1 => ∃ a, x = .str a ∧ a.length ≤ sizeLine ∧ t2 σ H1 fun y H2 => ∃ b, y = .str b ∧ a.length + b.length ≤ sizeLine ∧ Q (.str (a ++ b)) H2
theorem pe_j2 (h1 : PE X e1 t1) (h2 : PE X e2 t2) : PE X (.JoinedStr [e1, e2] pos) (tJ2 t1 t2) := by
  intro pins s σ H Q I h
  refine JoinedStr_many (joinParts_cons (thn (h1 pins s σ H _ I h) fun u s1 ⟨x, H1, I1, rx, a, ex, ha, q⟩ => ?_))
  subst ex
  obtain ⟨t, rfl⟩ := rx
  refine ⟨by rw [Str.empty_append]; exact ha, joinParts_cons (thn (h2 pins s1 σ H1 _ I1 q) fun u s2 ⟨y, H2, I2, ry, b, ey, hb, q2⟩ => ?_)⟩
  subst ey
  obtain ⟨t', rfl⟩ := ry
  have hl : ((Str.empty ++ a) ++ b).length ≤ sizeLine := by rw [Str.empty_append, strLen_append]; exact hb
  refine ⟨hl, joinParts_nil ?_ hl⟩
  rw [Str.empty_append]
  exact ⟨.str _, H2, I2.tok _, ⟨_, rfl⟩, q2⟩
def tFv (tv : TE) : TE := fun σ H Q => tv σ H fun x H1 => ∃ z, x = .str z ∧ z.length ≤ sizeLine ∧ Q (.str z) H1
theorem pe_fv (h : PE X value tv) : PE X (.FormattedValue value (-1) none pos) (tFv tv) := by
  intro pins s σ H Q I hq
  refine FormattedValue_plain (thn (h pins s σ H _ I hq) fun u s1 ⟨x, H1, I1, rx, z, ex, hz, q⟩ => ?_)
  subst ex
  obtain ⟨t, rfl⟩ := rx
  exact formatField_str (fun t' tk => ⟨.str z, H1, I1.tok tk, ⟨_, rfl⟩, q⟩) hz
/-- self.f = value, the first attribute of an exception in the making -/
def sXf (K : PySem.W.Frag) (ta tv : TE) (f : Str) : TS := fun D σ H => tv σ H fun y H1 => ta σ H1 fun x H2 => ∃ a C, x = .ref a ∧ H2 a = some (XI a C none) ∧ ExI K C ∧ NoAttr K C f ∧
  ∀ dx, H2 dx = none → D.nx σ (upd (upd H2 a (XI a C (some dx))) dx (.xd [(f, y)]))
theorem ps_xfld {o : Expr} (ha : PE X o ta) (hv : PE X value tv) (hs : swapsWith value (some (.Attribute o f pos')) pos.line X.env = pure false) (hex : X.ex = [] := by rfl) : PS X (.Assign [.Attribute o f pos'] value pos) (sXf X.K ta tv f) := by
  intro pins s σ H D I h
  refine plainObj_wpAny_Assign_Attribute (thn (hv pins s σ H _ I h) fun u s1 ⟨y, H1, I1, ry, q⟩ => thn (ha pins s1 σ H1 _ I1 q) fun ov s2 ⟨x, H2, I2, rx, a, C, ex, ea, c, n, q2⟩ => ?_) hs
  subst ex
  obtain rfl : ov = Value.ref a := rx
  obtain ⟨⟨t0, g0⟩, _⟩ := (show ObjOk X.prog X.w H2 s2.heap a (XI a C none) from I2.hok a _ ea)
  refine exc_set0 I2.kIn c n g0 rfl (by nofun) rfl fun h' tk' g1 ns kp => ?_
  have nd : H2 s2.heap.objs.size = none := I2.hok.fresh (Nat.le_refl _)
  have ne : s2.heap.objs.size ≠ a := fun z => by rw [z, ea] at nd; cases nd
  have J := I2.write (t' := tk') (x := a) (e := a) (o := XI a C (some s2.heap.objs.size)) (by rw [ea]; exact True.intro) (.inl rfl) kp ⟨_, g1⟩ (XI.ok g1)
  have J2 := J.track (x := s2.heap.objs.size) (o := .xd [(f, y)]) (by rw [upd_ne ne]; exact nd) (I2.off hex (Heap.get?_none_of_le (Nat.le_refl _))) ⟨_, ns, fun g => ?_⟩
  · exact ⟨σ, _, J2, q2 _ nd⟩
  · show RelO (List.lookup g [(f, y)]) (if g = f then some u else none)
    rw [List.lookup_cons]
    by_cases h : g = f
    · rw [if_pos h, show (g == f) = true from beq_iff_eq.mpr h]
      exact ry
    · rw [if_neg h, show (g == f) = false from beq_eq_false_iff_ne.mpr h]
      exact True.intro
/-- caught.f -/
def tXf (K : PySem.W.Frag) (ta : TE) (f : Str) : TE := fun σ H Q => ta σ H fun x H1 => ∃ a C dx fs v, x = .ref a ∧ H1 a = some (XO a C (some dx)) ∧ H1 dx = some (.xd fs) ∧ ExA K C ∧ PySem.W.hasDictIn K C = true ∧ PySem.W.findIn K (.ref C) f = some none ∧ fs.lookup f = some v ∧ Q v H1
theorem pe_xfld (he : PE X e ta) (hb : attributeBase e f X.env (eval e X.env) = eval e X.env) : PE X (.Attribute e f pos) (tXf X.K ta f) := by
  intro pins s σ H Q I h
  refine attr_of hb (thn (he pins s σ H _ I h) fun u s1 ⟨x, H1, I1, rx, a, C, dx, fs, v, ex, ea, ed, c, hd, nf, l, q⟩ => ?_)
  subst ex
  obtain rfl : u = Value.ref a := rx
  obtain ⟨⟨vs, sl, g0⟩, _⟩ := (show ObjOk X.prog X.w H1 s1.heap a (XO a C (some dx)) from I1.hok a _ ea)
  obtain ⟨mA, ns, rel⟩ := (show ObjOk X.prog X.w H1 s1.heap dx (.xd fs) from I1.hok dx _ ed)
  obtain ⟨od, ho, hl⟩ := lookIn_ns ns
  obtain ⟨u, hu, ru⟩ := RelO.some_of (v := v) (o := mA f) (by rw [← l]; exact rel f)
  have J : PySem.W.InstAt s1.heap a ⟨.ref C, some dx, .fields vs, sl⟩ C (some od) := ⟨g0, rfl, rfl, ho⟩
  have hfo : PySem.W.findObj X.K C (some od) f = some (.value u) := PySem.W.findObj_own hd nf rfl (by rw [hl, hu])
  obtain ⟨hh, gg, dd, tt, os⟩ := s1
  unfold getAttr
  refine wpAny_bind (wpAny_mkText ?_)
  exact exc_by (s := ⟨hh, gg, dd, tt + 1, os⟩) c I1.kIn J (handed_of ru) (fun A R q => exc_call_val (s := ⟨hh, gg, dd, tt + 1, os⟩) c I1.kIn J hfo q) ⟨v, H1, I1.tok _, ru, q⟩
/-- an exception that was caught, its attributes if there are any -/
def XAtD (H : Hp) (x C : Addr) (fs : List (Str × V)) : Prop := ∃ dx, H x = some (XO x C (some dx)) ∧ H dx = some (.xd fs)
def rIsXD (K : PySem.W.Frag) (c : Value) : List V → Hp → VK → Prop := fun vs H Q => ∃ x D y b fs, vs = [.ref x, y] ∧ (∀ u, RelV y u → u = c) ∧ XAtD H x D fs ∧ ExA K D ∧ PySem.W.kitOne K (.ref D) c = some b ∧ Q (.bl b) H
theorem call_isXD {c : Value} : CallR X (.builtin "isinstance") (rIsXD X.K c) := by
  intro pins s σ H xs us Q I r h
  obtain ⟨x, D, y, b, fs, rfl, hc, ⟨dx, hx, hd⟩, ea, e, q⟩ := h
  cases r with
  | cons r1 r2 =>
    cases r2 with
    | cons r3 r4 =>
      cases r4
      have := hc _ r3
      subst this
      cases r1
      obtain ⟨⟨vs, sl, g⟩, _⟩ := (show ObjOk X.prog X.w H s.heap x (XO x D (some dx)) from I.hok x _ hx)
      obtain ⟨mA, ns, rel⟩ := (show ObjOk X.prog X.w H s.heap dx (.xd fs) from I.hok dx _ hd)
      obtain ⟨od, ho, hl⟩ := lookIn_ns ns
      exact PySem.W.kia_one (kitx_exc ea) I.kIn ⟨_, some od, g, rfl, rfl, ho⟩ e (fun z => nomatch z) fun tk => ⟨.bl b, H, I.tok tk, rfl, q⟩
end
end L2
namespace L2
open PySem PySem.Spec PyProof.Rows
section
variable {P : Program} {w : World} {K : PySem.W.Frag} {mg : Str → Option Value} {base : Heap} {qual : Str} {C : Addr} {st : Stmt} {N ps : List Str} {k : Nat} {sp : Sp}
/-- the __init__ of an exception class, as the top has made it -/
def XiDe (K : PySem.W.Frag) (C : Addr) (qual : Str) (st : Stmt) (ps : List Str) : Prop := ∃ f fd, FunG K "__init__" qual st f fd ∧ excFI K C bmV "ValueError.__new__" = some f ∧ PySem.W.typeIn K (.ref f) = some (.type "function") ∧ Binds K fd ps []
theorem XiDe.ok (F : XiDe K C qual st ps) (S : FnScope N ps (defScope st)) (len : ∀ vs H Q E, sp vs H Q E → vs.length = ps.length) (hbody : BodyOk P w K mg base qual st N k sp) : XiB P w K mg base C (k + 1) ps sp :=
  let ⟨f, fd, a, b, c, d⟩ := F
  ⟨f, fd, b, c, d, a.ok S len (hbody f)⟩
theorem XiDe.fi (F : XiDe K C qual st ps) : ∃ f, excFI K C bmV "ValueError.__new__" = some f := let ⟨f, _, _, b, _⟩ := F; ⟨f, b⟩
end
end L2
/-! ### slices of texts; numbers under a name of the module -/
namespace L2
open PySem PySem.Spec PyProof.Rows
section
variable {X : Cx}
theorem isPart_of {v : Value} {i : Option Int} (h : IsPart v i) : ∃ l : Option (Int × Tok), v = partValue l ∧ l.map (·.1) = i := by
  cases h with
  | none => exact ⟨none, rfl, rfl⟩
  | int i t => exact ⟨some (i, t), rfl, rfl⟩
def rSlS : V → Option Int → Option Int → Hp → VK → Prop := fun x lo hi H Q => ∃ z, x = .str z ∧ z.length ≤ sizeLine ∧ Q (.str (Txt.slice z lo hi)) H
theorem sl_str : SlR X rSlS := by
  intro pins s σ H x v vl vu lo hi sl Q I rx hs pl pu h
  obtain ⟨z, rfl, hz, q⟩ := h
  obtain ⟨t, rfl⟩ := rx
  obtain ⟨l, rfl, rfl⟩ := isPart_of pl
  obtain ⟨u, rfl, rfl⟩ := isPart_of pu
  obtain ⟨o, ho, hc, hd⟩ := hs
  exact ⟨"str", _, F.slot_str_getitem.lookup, typeIs_str _ _ _, wpAny_getItem_str_slice (l := l) (u := u) (st := none) ⟨o, ho, hc, hd⟩ rfl
    (post_val_or_str ⟨Nat.le_trans (Txt.slice_le z _ _) hz, fun t' k => ⟨.str (Txt.slice z (l.map (·.1)) (u.map (·.1))), H, I.tok k, ⟨t', rfl⟩, q⟩⟩)⟩
theorem pe_gi {x : Str} {i : Int} {pos : Pos} (h : ∃ tk, X.mg x = some (.int i tk)) (hg : Gl X x := by rfl) (hd : (x == ("__debug__" : Str)) = false := by decide) : PE X (.Name x pos) (tC (.int i)) := by
  obtain ⟨tk, h⟩ := h
  exact pe_glob hg h ⟨tk, rfl⟩ hd
/-- xs == [], xs != [] -/
def rEqN (K : PySem.W.Frag) : R2 := fun x y H Q => ∃ p q xs, x = .ref p ∧ y = .ref q ∧ SqL K H p xs ∧ SqL K H q [] ∧ Q (.bl xs.isEmpty) H
def rNeN (K : PySem.W.Frag) : R2 := fun x y H Q => ∃ p q xs, x = .ref p ∧ y = .ref q ∧ SqL K H p xs ∧ SqL K H q [] ∧ Q (.bl (!xs.isEmpty)) H
/-- within a comprehension: the text's part said outright -/
theorem pe_fldK {K : PySem.W.Frag} {o : Expr} {f : Str} {pos : Pos} {ta : TE} (hK : X.K = K) (h : PE X o ta) (hb : attributeBase o f X.env (eval o X.env) = eval o X.env) : PE X (.Attribute o f pos) (tFld K ta f) := by
  subst hK
  exact pe_fld h hb
end
end L2
namespace L2
open PySem PySem.Spec PyProof.Rows

/-! ### lists of pairs as tables -/
section
variable {κ : Type} [DecidableEq κ]
def valV (kvs : List (κ × V)) (k : κ) : Option V := (kvs.find? fun kv => decide (kv.1 = k)).map (·.2)
/-- in its place, or at the end -/
def putK (kvs : List (κ × V)) (k : κ) (v : V) : List (κ × V) :=
  if (kvs.any fun kv => decide (kv.1 = k)) = true then kvs.map (fun kv => if kv.1 = k then (kv.1, v) else kv) else kvs ++ [(k, v)]
def dropK (kvs : List (κ × V)) (k : κ) : List (κ × V) := kvs.filter fun kv => decide (kv.1 ≠ k)

theorem valV_pos {p : κ × V} {r : List (κ × V)} {k : κ} (e : p.1 = k) : valV (p :: r) k = some p.2 := by simp [valV, List.find?_cons, e]
theorem valV_neg {p : κ × V} {r : List (κ × V)} {k : κ} (e : ¬ p.1 = k) : valV (p :: r) k = valV r k := by simp [valV, List.find?_cons, e]
theorem valV_any (k : κ) : ∀ kvs : List (κ × V), (kvs.any fun kv => decide (kv.1 = k)) = (valV kvs k).isSome
  | [] => rfl
  | p :: r => by
    rw [List.any_cons]
    by_cases e : p.1 = k
    · simp only [valV_pos e, decide_eq_true e, Bool.true_or, Option.isSome_some]
    · rw [valV_neg e, decide_eq_false e, Bool.false_or]; exact valV_any k r
theorem valV_map (k j : κ) (y : V) : ∀ kvs : List (κ × V), valV (kvs.map fun kv => if kv.1 = k then (kv.1, y) else kv) j = (valV kvs j).map fun x => if j = k then y else x
  | [] => rfl
  | p :: r => by
    have ih := valV_map k j y r
    rw [List.map_cons]
    by_cases h : p.1 = k
    · rw [if_pos h]
      by_cases e : p.1 = j
      · rw [valV_pos (p := (p.1, y)) e, valV_pos e, Option.map_some, if_pos (e.symm.trans h)]
      · rw [valV_neg (p := (p.1, y)) e, valV_neg e, ih]
    · rw [if_neg h]
      by_cases e : p.1 = j
      · rw [valV_pos (p := p) e, valV_pos e, Option.map_some, if_neg (fun z => h (e.trans z))]
      · rw [valV_neg (p := p) e, valV_neg e, ih]
theorem valV_snoc (k j : κ) (y : V) : ∀ kvs : List (κ × V), valV kvs k = none → valV (kvs ++ [(k, y)]) j = if j = k then some y else valV kvs j
  | [], _ => by
    by_cases e : k = j
    · rw [if_pos e.symm]; exact valV_pos (p := (k, y)) e
    · rw [if_neg (fun z => e z.symm)]; exact valV_neg (p := (k, y)) e
  | p :: r, hn => by
    rw [List.cons_append]
    have hk : ¬ p.1 = k := fun z => by rw [valV_pos z] at hn; cases hn
    rw [valV_neg hk] at hn
    have ih := valV_snoc k j y r hn
    by_cases e : p.1 = j
    · rw [valV_pos e, valV_pos e, if_neg (fun z => hk (e.trans z))]
    · rw [valV_neg e, valV_neg e, ih]
theorem valV_put (kvs : List (κ × V)) (k j : κ) (y : V) : valV (putK kvs k y) j = if j = k then some y else valV kvs j := by
  unfold putK
  by_cases a : (kvs.any fun kv => decide (kv.1 = k)) = true
  · rw [if_pos a, valV_map]
    rw [valV_any] at a
    by_cases e : j = k
    · obtain ⟨x, hx⟩ := Option.isSome_iff_exists.mp a
      rw [if_pos e, e, hx, Option.map_some, if_pos rfl]
    · rw [if_neg e]
      cases valV kvs j with
      | none => rfl
      | some x => rw [Option.map_some, if_neg e]
  · rw [if_neg a]
    refine valV_snoc k j y kvs ?_
    rw [valV_any] at a
    cases q : valV kvs k with
    | none => rfl
    | some x => rw [q] at a; exact (a rfl).elim
theorem length_putK (kvs : List (κ × V)) (k : κ) (v : V) : (putK kvs k v).length ≤ kvs.length + 1 := by
  unfold putK
  split
  · rw [List.length_map]; omega
  · rw [List.length_append, List.length_cons, List.length_nil]; omega
theorem putK_new {kvs : List (κ × V)} {k : κ} (v : V) (h : valV kvs k = none) : putK kvs k v = kvs ++ [(k, v)] := by
  unfold putK
  rw [valV_any, h]
  exact if_neg (by decide)

theorem RelO.isSome_eq {o : Option V} {u : Option Value} (r : RelO o u) : o.isSome = u.isSome := by
  cases o with
  | none => cases u with
    | none => rfl
    | some _ => exact (show False from r).elim
  | some _ => cases u with
    | none => exact (show False from r).elim
    | some _ => rfl

/-- raw tables of the same keys -/
theorem KV.val {kvs : List (κ × V)} {vs : List (κ × Value)} (r : KV kvs vs) (k : κ) : RelO (valV kvs k) (valueAt vs k) := by
  unfold KV at r
  induction r with
  | nil => exact True.intro
  | @cons p q ps qs h t ih =>
    obtain ⟨h1, h2⟩ := h
    by_cases e : p.1 = k
    · have e' : q.1 = k := h1.symm.trans e
      have b : valueAt (q :: qs) k = some q.2 := by simp [valueAt, List.find?_cons, e']
      rw [valV_pos e, b]; exact h2
    · have e' : ¬ q.1 = k := fun z => e (h1.trans z)
      have b : valueAt (q :: qs) k = valueAt qs k := by simp [valueAt, List.find?_cons, e']
      rw [valV_neg e, b]; exact ih
theorem KV.any {kvs : List (κ × V)} {vs : List (κ × Value)} (r : KV kvs vs) (k : κ) : (kvs.any fun kv => decide (kv.1 = k)) = vs.any fun kv => decide (kv.1 = k) := by
  unfold KV at r
  induction r with
  | nil => rfl
  | cons h t ih => rw [List.any_cons, List.any_cons, ih, h.1]
theorem KV.repl {kvs : List (κ × V)} {vs : List (κ × Value)} (r : KV kvs vs) (k : κ) {y : V} {u : Value} (ry : RelV y u) :
    KV (kvs.map fun kv => if kv.1 = k then (kv.1, y) else kv) (vs.map fun kv => if kv.1 = k then (kv.1, u) else kv) := by
  unfold KV at r ⊢
  induction r with
  | nil => exact .nil
  | @cons p q ps qs h t ih =>
    rw [List.map_cons, List.map_cons]
    refine .cons ?_ ih
    obtain ⟨h1, h2⟩ := h
    by_cases e : p.1 = k
    · rw [if_pos e, if_pos (h1.symm.trans e)]; exact ⟨h1, ry⟩
    · rw [if_neg e, if_neg (fun z => e (h1.trans z))]; exact ⟨h1, h2⟩
theorem KV.put {kvs : List (κ × V)} {vs : List (κ × Value)} (r : KV kvs vs) (k : κ) {y : V} {u : Value} (ry : RelV y u) : KV (putK kvs k y) (stored vs k u) := by
  unfold putK stored
  rw [r.any k]
  by_cases e : (vs.any fun kv => decide (kv.1 = k)) = true
  · rw [if_pos e, if_pos e]; exact r.repl k ry
  · rw [if_neg e, if_neg e]; exact Paired.snoc r ⟨rfl, ry⟩
theorem KV.length {kvs : List (κ × V)} {vs : List (κ × Value)} (r : KV kvs vs) : kvs.length = vs.length := Paired.length r
end


/-! ### a tracked dict, its keys ints and texts or tuples of these -/
theorem kV_is {P : Program} {w : World} {k : Key} {u : Value} (r : RelV (kV k) u) : (mixKind P w).is k u = true := by
  cases k with
  | inl i => obtain ⟨t, e⟩ := (show ∃ t, u = Value.int i t from r); subst e; exact mixKind_int P w i t
  | inr x => obtain ⟨t, e⟩ := (show ∃ t, u = Value.str x t from r); subst e; exact mixKind_str P w x t
theorem kV_inj {a b : Key} (e : kV a = kV b) : a = b := by
  cases a with
  | inl i => cases b with
    | inl j => have e' : V.int i = V.int j := e; injection e' with e'; rw [e']
    | inr y => exact nomatch (show V.int i = V.str y from e)
  | inr x => cases b with
    | inl j => exact nomatch (show V.str x = V.int j from e)
    | inr y => have e' : V.str x = V.str y := e; injection e' with e'; rw [e']
theorem items_are {P : Program} {w : World} : ∀ {ks : List Key} {us : List Value}, Vals (ks.map kV) us → ItemsAre (mixKind P w) ks us
  | [], _, r => by rw [List.map_nil] at r; cases r; exact .nil
  | k :: ks, _, r => by
    rw [List.map_cons] at r
    cases r with
    | cons h t => exact .cons (kV_is h) (items_are t)

/-- raw entries of a dict with tuple keys -/
abbrev KT (H : Hp) : List (List Key × V) → List (List Key × Addr × Value) → Prop := Paired fun p q => p.1 = q.1 ∧ H q.2.1 = some (.tup (p.1.map kV)) ∧ RelV p.2 q.2.2
theorem KT.val {H : Hp} {kvs : List (List Key × V)} {xs : List (List Key × Addr × Value)} (r : KT H kvs xs) (k : List Key) : RelO (valV kvs k) ((atKey xs k).map (·.2)) := by
  induction r with
  | nil => exact True.intro
  | @cons p q ps qs h t ih =>
    obtain ⟨h1, _, h2⟩ := h
    by_cases e : p.1 = k
    · have e' : q.1 = k := h1.symm.trans e
      have b : atKey (q :: qs) k = some q.2 := by simp [atKey, List.find?_cons, e']
      rw [valV_pos e, b]; exact h2
    · have e' : ¬ q.1 = k := fun z => e (h1.trans z)
      have b : atKey (q :: qs) k = atKey qs k := by simp [atKey, List.find?_cons, e']
      rw [valV_neg e, b]; exact ih
theorem KT.repl {H : Hp} {kvs : List (List Key × V)} {xs : List (List Key × Addr × Value)} (r : KT H kvs xs) (k : List Key) {y : V} {u : Value} (ry : RelV y u) :
    KT H (kvs.map fun kv => if kv.1 = k then (kv.1, y) else kv) (xs.map (putAt k u)) := by
  induction r with
  | nil => exact .nil
  | @cons p q ps qs h t ih =>
    rw [List.map_cons, List.map_cons]
    refine .cons ?_ ih
    obtain ⟨h1, h2, h3⟩ := h
    unfold putAt
    by_cases e : p.1 = k
    · rw [if_pos e, if_pos (h1.symm.trans e)]; exact ⟨h1, h2, ry⟩
    · rw [if_neg e, if_neg (fun z => e (h1.trans z))]; exact ⟨h1, h2, h3⟩
theorem KT.put {H : Hp} {kvs : List (List Key × V)} {xs : List (List Key × Addr × Value)} (r : KT H kvs xs) (k : List Key) {b : Addr} {y : V} {u : Value} (hb : H b = some (.tup (k.map kV))) (ry : RelV y u) :
    KT H (putK kvs k y) (storedH xs k b u) := by
  have e : (kvs.any fun kv => decide (kv.1 = k)) = (atKey xs k).isSome := by
    rw [valV_any, (r.val k).isSome_eq, Option.isSome_map]
  unfold putK storedH
  rw [e]
  by_cases q : (atKey xs k).isSome = true
  · rw [if_pos q, if_pos q]; exact r.repl k ry
  · rw [if_neg q, if_neg q]; exact Paired.snoc r ⟨rfl, hb, ry⟩
theorem KT.keeps {H H' : Hp} {kvs : List (List Key × V)} {xs : List (List Key × Addr × Value)} (r : KT H kvs xs) (ht : ∀ b ys, H b = some (.tup ys) → H' b = some (.tup ys)) : KT H' kvs xs :=
  Paired.mapP r fun _ _ z => ⟨z.1, ht _ _ z.2.1, z.2.2⟩

section
variable {P : Program} {w : World} {H : Hp} {h : Heap} {a : Addr}
theorem rd_of {u : HO} (ok : HOk P w H h) (e : Rd H a u) : ObjOk P w H h a u := e.ok ok
theorem dk_rd {kvs : List (Key × V)} (ok : HOk P w H h) (e : Rd H a (.dK kvs)) : kvs.length ≤ sizeLine ∧ (a == sysModules) = false ∧ ∃ vs, KV kvs vs ∧ h.DictOf (mixKind P w) a vs :=
  show ObjOk P w H h a (.dK kvs) from rd_of ok e
theorem dk_of {kvs : List (Key × V)} (ok : HOk P w H h) (e : H a = some (.dK kvs)) : kvs.length ≤ sizeLine ∧ (a == sysModules) = false ∧ ∃ vs, KV kvs vs ∧ h.DictOf (mixKind P w) a vs := dk_rd ok (.inl e)
/-- a tracked tuple of ints and texts is a key -/
theorem key_of {ks : List Key} (ok : HOk P w H h) (e : H a = some (.tup (ks.map kV))) : (tupleKind (mixKind P w)).is h ks a := by
  obtain ⟨_, its, r, o, h1, h2, n, h3⟩ := (show ObjOk P w H h a (.tup (ks.map kV)) from ok a _ e)
  exact ⟨o, its.toArray, n, h1, h2, h3, by simpa using items_are r⟩
theorem dt_rd {kvs : List (List Key × V)} (ok : HOk P w H h) (e : Rd H a (.dT kvs)) : kvs.length ≤ sizeLine ∧ (a == sysModules) = false ∧
    ∃ xs, KT H kvs xs ∧ h.DictOfH (tupleKind (mixKind P w)) a xs := by
  obtain ⟨z, y, xs, r, o, es, ep, h1, h2, h3, h4, h5⟩ := (show ObjOk P w H h a (.dT kvs) from rd_of ok e)
  refine ⟨z, y, xs, r, o, es, ep, h1, h2, h3, h4, fun x hx => ?_, h5⟩
  have all : ∀ {l : List (List Key × V)} {m : List (List Key × Addr × Value)}, KT H l m → ∀ x ∈ m, (tupleKind (mixKind P w)).is h x.1 x.2.1 := by
    intro l m q
    induction q with
    | nil => intro x hx; exact nomatch hx
    | @cons p q ps qs hq t ih =>
      intro x hx
      rcases List.mem_cons.mp hx with e | hx
      · subst e
        exact key_of ok (by rw [← hq.1]; exact hq.2.1)
      · exact ih x hx
  exact all r x hx
theorem dt_of {kvs : List (List Key × V)} (ok : HOk P w H h) (e : H a = some (.dT kvs)) : kvs.length ≤ sizeLine ∧ (a == sysModules) = false ∧
    ∃ xs, KT H kvs xs ∧ h.DictOfH (tupleKind (mixKind P w)) a xs := dt_rd ok (.inl e)
end

/-- what the dict at a holds at the key y -/
def DGet (H : Hp) (a : Addr) (y : V) (r : Option V) : Prop :=
  (∃ kvs k, Rd H a (.dK kvs) ∧ y = kV k ∧ r = valV kvs k) ∨ ∃ kvs k b, Rd H a (.dT kvs) ∧ y = .ref b ∧ H b = some (.tup (k.map kV)) ∧ r = valV kvs k
/-- the heap behind a[y] = v -/
def DPut (H : Hp) (a : Addr) (y v : V) (H' : Hp) : Prop :=
  (∃ kvs k, H a = some (.dK kvs) ∧ y = kV k ∧ kvs.length < sizeLine ∧ H' = upd H a (.dK (putK kvs k v))) ∨
  ∃ kvs k b, H a = some (.dT kvs) ∧ y = .ref b ∧ H b = some (.tup (k.map kV)) ∧ kvs.length < sizeLine ∧ H' = upd H a (.dT (putK kvs k v))
theorem DGet.k {H : Hp} {a : Addr} {kvs : List (Key × V)} {k : Key} (e : H a = some (.dK kvs)) : DGet H a (kV k) (valV kvs k) := .inl ⟨kvs, k, .inl e, rfl, rfl⟩
theorem DPut.k {H : Hp} {a : Addr} {kvs : List (Key × V)} {k : Key} {v : V} (e : H a = some (.dK kvs)) (hl : kvs.length < sizeLine) : DPut H a (kV k) v (upd H a (.dK (putK kvs k v))) := .inl ⟨kvs, k, e, rfl, hl, rfl⟩


section
variable {X : Cx} {pins : List (Addr × Obj)} {σ : St} {H : Hp} {s : Shared} {a : Addr} {y v : V} {u r : Value} {o : Option V} {A : Around} {E : Value → Shared → Prop}

theorem Inv.big (I : Inv X pins σ H s) : sysModules < s.heap.objs.size := by
  have h : mainGlobals < s.heap.objs.size := (I.mod.glob.keeps I.bk).lt
  exact Nat.lt_trans (by decide) h

/-- d[y], there -/
theorem d_getItem {Q : Value → Shared → Prop} (hu : A.units + 1 < cLine) (I : Inv X pins σ H s) (g : DGet H a y (some v)) (ry : RelV y u) (h : ∀ w' s', Inv X pins σ H s' → RelV v w' → Q w' s') :
    wpAny (model X.prog X.w) A (getItem (.ref a) u) Q E s := by
  rcases g with ⟨kvs, k, e, ey, l⟩ | ⟨kvs, k, b, e, ey, eb, l⟩
  · subst ey
    obtain ⟨z, hd, vs, rel, dd⟩ := dk_rd I.hok e
    obtain ⟨w', hw, rw'⟩ := RelO.some_of (v := v) (o := valueAt vs k) (by rw [l]; exact rel.val k)
    exact wpAny_getItem_of (kV_is ry) dd.mapOf hw (h w' _ (I.tok _) rw')
  · subst ey
    cases (show u = Value.ref b from ry)
    obtain ⟨z, hd, xs, rel, dd⟩ := dt_rd I.hok e
    obtain ⟨w', hw, rw'⟩ := RelO.some_of (v := v) (o := (atKey xs k).map (·.2)) (by rw [l]; exact rel.val k)
    obtain ⟨p, hp, hp2⟩ := Option.map_eq_some_iff.mp hw
    refine wpAny_getItem_heap (tupleKind_room_in1 hu) (key_of I.hok eb) dd hp ?_
    rw [hp2]
    exact h w' _ (I.tok _) rw'
/-- y in d -/
theorem d_in {Q : Value → Shared → Prop} (hu : A.units + 1 < cLine) (I : Inv X pins σ H s) (g : DGet H a y o) (ry : RelV y u) (h : ∀ s', Inv X pins σ H s' → Q (.bool o.isSome) s') :
    wpAny (model X.prog X.w) A (compareOp .In u (.ref a)) Q E s := by
  rcases g with ⟨kvs, k, e, ey, l⟩ | ⟨kvs, k, b, e, ey, eb, l⟩
  · subst ey
    obtain ⟨z, hd, vs, rel, dd⟩ := dk_rd I.hok e
    refine wpAny_in_of (kV_is ry) hd dd.mapOf ?_
    rw [← (rel.val k).isSome_eq, ← l]
    exact h _ (I.tok _)
  · subst ey
    cases (show u = Value.ref b from ry)
    obtain ⟨z, hd, xs, rel, dd⟩ := dt_rd I.hok e
    refine wpAny_in_heap (tupleKind_room_in1 hu) (key_of I.hok eb) hd dd ?_
    have q := (rel.val k).isSome_eq
    rw [Option.isSome_map] at q
    rw [← q, ← l]
    exact h _ (I.tok _)
theorem d_notIn {Q : Value → Shared → Prop} (hu : A.units + 1 < cLine) (I : Inv X pins σ H s) (g : DGet H a y o) (ry : RelV y u) (h : ∀ s', Inv X pins σ H s' → Q (.bool (!o.isSome)) s') :
    wpAny (model X.prog X.w) A (compareOp .NotIn u (.ref a)) Q E s := by
  rcases g with ⟨kvs, k, e, ey, l⟩ | ⟨kvs, k, b, e, ey, eb, l⟩
  · subst ey
    obtain ⟨z, hd, vs, rel, dd⟩ := dk_rd I.hok e
    refine wpAny_notIn_of (kV_is ry) hd dd.mapOf ?_
    rw [← (rel.val k).isSome_eq, ← l]
    exact h _ (I.tok _)
  · subst ey
    cases (show u = Value.ref b from ry)
    obtain ⟨z, hd, xs, rel, dd⟩ := dt_rd I.hok e
    refine wpAny_notIn_heap (tupleKind_room_in1 hu) (key_of I.hok eb) hd dd ?_
    have q := (rel.val k).isSome_eq
    rw [Option.isSome_map] at q
    rw [← q, ← l]
    exact h _ (I.tok _)
/-- a dict's object is replaced -/
theorem d_write {h' : Heap} {t' : Nat} {ob : HO} (I : Inv X pins σ H s) (mu : Mut (H a)) (hs : Heap.SameBut a s.heap h') (he : ∃ q, h'.get? a = some q) (new : ObjOk X.prog X.w (upd H a ob) h' a ob) :
    Inv X pins σ (upd H a ob) { s with heap := h', toks := t' } :=
  I.write (x := a) (e := a) mu (.inl rfl) (fun b q hb z => (hs.2 b hb).trans z) he new
theorem dk_new {P : Program} {w : World} {H' : Hp} {h' : Heap} {kvs : List (Key × V)} {vs : List (Key × Value)} (z : kvs.length ≤ sizeLine) (hd : (a == sysModules) = false) (rel : KV kvs vs) (dd : h'.DictOf (mixKind P w) a vs) :
    ObjOk P w H' h' a (.dK kvs) := ⟨z, hd, vs, rel, dd⟩
/-- d[y] = v -/
theorem d_setItem {H' : Hp} {Q : Unit → Shared → Prop} (hu : A.units + 1 < cLine) (I : Inv X pins σ H s) (g : DPut H a y v H') (ry : RelV y u) (rv : RelV v r) (h : ∀ s', Inv X pins σ H' s' → Q () s') :
    wpAny (model X.prog X.w) A (setItem (.ref a) u r) Q E s := by
  rcases g with ⟨kvs, k, e, ey, l, eH⟩ | ⟨kvs, k, b, e, ey, eb, l, eH⟩
  · subst ey eH
    obtain ⟨z, hd, vs, rel, dd⟩ := dk_of I.hok e
    have hz : vs.length ≤ sizeLine := by rw [← rel.length]; exact z
    have hl : (putK kvs k v).length ≤ sizeLine := by have := length_putK kvs k v; omega
    refine wpAny_setItem_pairs (hsz := hz) (kV_is ry) dd fun h' dd' hs => h _ ?_
    have he : ∃ q, h'.get? a = some q := let ⟨q, _, _, hq, _⟩ := dd'; ⟨q, hq⟩
    exact d_write I (by rw [e]; exact True.intro) hs he (dk_new hl hd (rel.put k rv) dd')
  · subst ey eH
    cases (show u = Value.ref b from ry)
    obtain ⟨z, hd, xs, rel, dd⟩ := dt_of I.hok e
    have hz : xs.length ≤ sizeLine := by rw [← Paired.length rel]; exact z
    have hl : (putK kvs k v).length ≤ sizeLine := by have := length_putK kvs k v; omega
    refine wpAny_setItem_heap (hsz := hz) (tupleKind_room_in1 hu) (key_of I.hok eb) dd fun h' dd' hs => h _ ?_
    obtain ⟨q, es, ep, hq, h2, h3, h4, _, h5⟩ := dd'
    refine d_write I (by rw [e]; exact True.intro) hs ⟨q, hq⟩ ⟨hl, hd, _, (rel.put k eb rv).keeps fun c ys ec => ?_, q, es, ep, hq, h2, h3, h4, h5⟩
    rw [upd_ne (ne_of ec e (fun z => nomatch z))]
    exact ec
end

section
variable {X : Cx} {pins : List (Addr × Obj)} {σ : St} {H : Hp} {s : Shared} {a : Addr} {kvs : List (Key × V)} {k : Key} {u : Value} {A : Around} {E : Value → Shared → Prop}
/-- len(d) -/
theorem d_len {Q : Value → Shared → Prop} (I : Inv X pins σ H s) (e : Rd H a (.dK kvs)) (h : ∀ t s', Inv X pins σ H s' → Q (.int kvs.length t) s') : wpAny (model X.prog X.w) A (call (.builtin "len") [.ref a]) Q E s := by
  obtain ⟨z, hd, vs, rel, dd⟩ := dk_rd I.hok e
  refine call_len_dict hd dd (by rw [← rel.length]; rw [sizeLine_eq] at z; omega) ?_
  rw [← rel.length]
  exact h _ _ (I.tok _)
end


/-! ### readings and rules -/
/-- the element of a subscription, not a slice -/
def NoSl (i : Expr) : Prop := ∀ ov iv, subscripted i false ov iv = operate [ov, iv] (getItem ov iv)
theorem subD_of {prog : Program} {w : World} {A : Around} {E : Value → Shared → Prop} {s : Shared} {env : Env} {value slice : Expr} {pos : Pos} {T id : String} {Q : Value → Shared → Prop}
    (hl : typeLookup (.type T) "__getitem__" = pure (some (.builtin id))) (hs : NoSl slice)
    (h : wpAny (model prog w) A (eval value env) (fun o s₁ => wpAny (model prog w) A (eval slice env) (fun i s₂ => s₂.TypeIs o T ∧ wpAny (model prog w) A (getItem o i) Q E s₂) E s₁) E s) :
    wpAny (model prog w) A (eval (.Subscript value slice pos) env) Q E s := by
  refine Subscript_ (wpAny_mono h (fun o s₁ h₁ => wpAny_mono h₁ (fun i s₂ h₂ => ?_) fun _ _ x => x) fun _ _ x => x)
  obtain ⟨hT, h₂⟩ := h₂
  unfold subscriptTail
  refine wpAny_bind ?_
  rw [getitemInPython_of_ne hT.not_modules]
  refine wpAny_bind (wpAny_specialOf hT hl ?_)
  have fin : wpAny (model prog w) A (subscripted slice false o i) (fun r s₃ => wpAny (model prog w) A (letTemporaryGo value o r >>= fun _ => pure r) Q E s₃) E s₂ := by
    rw [hs o i]
    exact wpAny_operating (wpAny_mono h₂ (fun r s₃ h₃ => wpAny_bind (wpAny_letTemporaryGo (wpAny_pure h₃))) fun _ _ x => x)
  first
    | exact wpAny_pure (wpAny_bind fin)
    | exact wpAny_bind (wpAny_pure (wpAny_bind fin))
    | exact wpAny_bind fin

theorem dict_typeIs {X : Cx} {pins : List (Addr × Obj)} {σ : St} {H : Hp} {s : Shared} {a : Addr} {y : V} {o : Option V} (I : Inv X pins σ H s) (g : DGet H a y o) : s.TypeIs (.ref a) "dict" := by
  rcases g with ⟨kvs, k, e, _, _⟩ | ⟨kvs, k, b, e, _, _, _⟩
  · obtain ⟨_, _, vs, _, dd⟩ := dk_rd I.hok e
    exact dd.typeIs
  · obtain ⟨_, _, xs, _, dd⟩ := dt_rd I.hok e
    exact dd.typeIs

/-- d[y] -/
def tDGet (td ty : TE) : TE := fun σ H Q => td σ H fun x H1 => ty σ H1 fun y H2 => ∃ a v, x = .ref a ∧ DGet H2 a y (some v) ∧ Q v H2
/-- y in d, y not in d -/
def tDIn (ty td : TE) : TE := fun σ H Q => ty σ H fun y H1 => td σ H1 fun x H2 => ∃ a o, x = .ref a ∧ DGet H2 a y o ∧ Q (.bl o.isSome) H2
def tDNotIn (ty td : TE) : TE := fun σ H Q => ty σ H fun y H1 => td σ H1 fun x H2 => ∃ a o, x = .ref a ∧ DGet H2 a y o ∧ Q (.bl (!o.isSome)) H2
/-- d[y] = v -/
def sDPut (td ty tv : TE) : TS := fun D σ H => tv σ H fun v H1 => td σ H1 fun x H2 => ty σ H2 fun y H3 => ∃ a H4, x = .ref a ∧ DPut H3 a y v H4 ∧ D.nx σ H4
/-- d[y] op= v -/
def sDAug (td ty tv : TE) (rd : V → V → Hp → VK → Prop) : TS := fun D σ H => td σ H fun x H1 => ty σ H1 fun y H2 => ∃ a v, x = .ref a ∧ DGet H2 a y (some v) ∧
  tv σ H2 fun y2 H3 => rd v y2 H3 fun z H4 => ∃ H5, DPut H4 a y z H5 ∧ D.nx σ H5
/-- del d[y] -/
def sDDel (td ty : TE) : TS := fun D σ H => td σ H fun x H1 => ty σ H1 fun y H2 => ∃ a kvs k, x = .ref a ∧ H2 a = some (.dK kvs) ∧ y = kV k ∧ (valV kvs k).isSome = true ∧ D.nx σ (upd H2 a (.dK (dropK kvs k)))

section
variable {X : Cx} {o i e value : Expr} {pos pos' tpos : Pos} {td ty tv : TE}
theorem pe_dget (hu : X.A.units + 1 < cLine) (ho : PE X o td) (hi : PE X i ty) (hs : NoSl i) : PE X (.Subscript o i pos) (tDGet td ty) := by
  intro pins s σ H Q I h
  refine subD_of PySem.F.slot_dict_getitem.lookup hs (thn (ho pins s σ H _ I h) fun u s1 ⟨x, H1, I1, rx, q1⟩ => thn (hi pins s1 σ H1 _ I1 q1) fun iv s2 ⟨y, H2, I2, ry, a, v, ex, g, q2⟩ => ?_)
  subst ex
  obtain rfl : u = Value.ref a := rx
  exact ⟨dict_typeIs I2 g, d_getItem hu I2 g ry fun w' s3 I3 rw' => ⟨v, H2, I3, rw', q2⟩⟩
theorem pc_din (hu : X.A.units + 1 < cLine) (hi : PE X i ty) (ho : PE X o td) : PC X .In i o (tDIn ty td) := by
  intro pins s σ H Q I h
  refine thn (hi pins s σ H _ I h) fun iv s1 ⟨y, H1, I1, ry, q1⟩ => thn (ho pins s1 σ H1 _ I1 q1) fun u s2 ⟨x, H2, I2, rx, a, ov, ex, g, q2⟩ => ?_
  subst ex
  obtain rfl : u = Value.ref a := rx
  exact d_in hu I2 g ry fun s3 I3 => ⟨.bl ov.isSome, H2, I3, rfl, q2⟩
theorem pc_dnotin (hu : X.A.units + 1 < cLine) (hi : PE X i ty) (ho : PE X o td) : PC X .NotIn i o (tDNotIn ty td) := by
  intro pins s σ H Q I h
  refine thn (hi pins s σ H _ I h) fun iv s1 ⟨y, H1, I1, ry, q1⟩ => thn (ho pins s1 σ H1 _ I1 q1) fun u s2 ⟨x, H2, I2, rx, a, ov, ex, g, q2⟩ => ?_
  subst ex
  obtain rfl : u = Value.ref a := rx
  exact d_notIn hu I2 g ry fun s3 I3 => ⟨.bl (!ov.isSome), H2, I3, rfl, q2⟩
theorem ps_dput (hu : X.A.units + 1 < cLine) (ho : PE X o td) (hi : PE X i ty) (hv : PE X value tv) (hs : swapsWith value (some (.Subscript o i pos')) pos.line X.env = pure false) :
    PS X (.Assign [.Subscript o i pos'] value pos) (sDPut td ty tv) := by
  intro pins s σ H D I h
  refine wpAny_Assign_Subscript (thn (hv pins s σ H _ I h) fun r s1 ⟨v, H1, I1, rv, q1⟩ => thn (ho pins s1 σ H1 _ I1 q1) fun u s2 ⟨x, H2, I2, rx, q2⟩ => thn (hi pins s2 σ H2 _ I2 q2) fun iv s3 ⟨y, H3, I3, ry, a, H4, ex, g, q3⟩ => ?_) hs
  subst ex
  obtain rfl : u = Value.ref a := rx
  exact d_setItem hu I3 g ry rv fun s4 I4 => ⟨σ, H4, I4, q3⟩
end


/-! ### displays -/
theorem dk_empty {P : Program} {w : World} {H : Hp} (h : Heap) (hb : sysModules < h.objs.size) : ObjOk P w H (h.push { cls := .type "dict", data := .dict #[] }) h.objs.size (.dK []) :=
  ⟨Nat.zero_le _, beq_eq_false_iff_ne.mpr (Ne.symm (Nat.ne_of_lt hb)), [], .nil, Heap.DictOf.new h⟩
/-- {}, to be a dict of the kind that is wanted -/
def tDNewK : TE := fun _ H Q => ∀ p, H p = none → Q (.ref p) (upd H p (.dK []))
def tDNewT : TE := fun _ H Q => ∀ p, H p = none → Q (.ref p) (upd H p (.dT []))
section
variable {X : Cx} {pos : Pos}
theorem pe_dnewK : PE X (.Dict [] [] pos) tDNewK := fun pins s σ H Q I h =>
  wpAny_Dict_empty ⟨.ref s.heap.objs.size, _, I.laid (a := s.heap.objs.size) (o := .dK []) (t' := s.toks) (fun _ _ q => Heap.get?_push_of_some _ q) (Nat.le_refl _) (dk_empty s.heap I.big), rfl, h _ (I.hok.fresh (Nat.le_refl _))⟩
end

/-- the pairs of a display, from the left -/
def tPairs : List (TE × TE) → St → Hp → (List (V × V) → Hp → Prop) → Prop
  | [], _, H, Q => Q [] H
  | (tk, tv) :: r, σ, H, Q => tk σ H fun x H1 => tv σ H1 fun y H2 => tPairs r σ H2 fun ps H3 => Q ((x, y) :: ps) H3
abbrev VV : List (V × V) → List (Value × Value) → Prop := Paired fun p q => RelV p.1 q.1 ∧ RelV p.2 q.2
def PPs (X : Cx) (pos : Pos) (keys : List (Option Expr)) (values : List Expr) (trs : List (TE × TE)) : Prop :=
  ∀ (pins : List (Addr × Obj)) (s : Shared) (σ : St) (H : Hp) (Q : List (V × V) → Hp → Prop), Inv X pins σ H s → tPairs trs σ H Q →
    wpAny (model X.prog X.w) X.A (evalPairs (pairTrees keys values X.env pos)) (fun vs s' => ∃ ps H', Inv X pins σ H' s' ∧ VV ps vs ∧ Q ps H') X.xe s

def mergeK (kvs more : List (Key × V)) : List (Key × V) := more.foldl (fun acc kv => putK acc kv.1 kv.2) kvs
/-- {k: v, ..} with keys ints and texts; the new dict stands empty while the pairs are made -/
def tDisp (trs : List (TE × TE)) : TE := fun σ H Q => ∀ p, H p = none → tPairs trs σ (upd H p (.dK [])) fun ps H2 => H2 p = some (.dK []) ∧ ∃ kvs : List (Key × V), ps = kvs.map (fun kv => (kV kv.1, kv.2)) ∧ kvs.length ≤ 15 ∧ Q (.ref p) (upd H2 p (.dK (mergeK [] kvs)))


/-! ### methods -/
/-- a method call o.m(e) of a built-in, with one argument: what must be seen of the text -/
structure M1 (X : Cx) (o : Expr) (m : Str) (apos : Pos) (e : Expr) (cpos : Pos) : Prop where
  base : attributeBase o m X.env (eval o X.env) = eval o X.env
  few : ((backTo cpos (starEach [e] X.env)).all (fun x => !x.1) && (backToKw cpos (keywordEach [] X.env)).all (fun x => x.1.isSome)
    && decide (([e] : List Expr).length + ([] : List Keyword).length + (if ([] : List Keyword).isEmpty then 0 else 1) < 30)) = true
  line : (apos.endLine == cpos.line) = true
  trees : backTo cpos (starEach [e] X.env) = [(false, eval e X.env)]
structure M2 (X : Cx) (o : Expr) (m : Str) (apos : Pos) (e f : Expr) (cpos : Pos) : Prop where
  base : attributeBase o m X.env (eval o X.env) = eval o X.env
  few : ((backTo cpos (starEach [e, f] X.env)).all (fun x => !x.1) && (backToKw cpos (keywordEach [] X.env)).all (fun x => x.1.isSome)
    && decide (([e, f] : List Expr).length + ([] : List Keyword).length + (if ([] : List Keyword).isEmpty then 0 else 1) < 30)) = true
  line : (apos.endLine == cpos.line) = true
  trees : backTo cpos (starEach [e, f] X.env) = [(false, eval e X.env), (false, eval f X.env)]

/-- a is a dict, whatever its keys -/
def IsD (H : Hp) (a : Addr) : Prop := (∃ kvs, Rd H a (.dK kvs)) ∨ ∃ kvs, Rd H a (.dT kvs)

section
variable {X : Cx} {pins : List (Addr × Obj)} {σ : St} {H : Hp} {s : Shared} {a : Addr} {y d : V} {u r : Value} {o : Option V} {A : Around} {E : Value → Shared → Prop}
end

def tDGet1 (td ty : TE) : TE := fun σ H Q => td σ H fun x H1 => ∃ a, x = .ref a ∧ IsD H1 a ∧ ty σ H1 fun y H2 => ∃ o, DGet H2 a y o ∧ Q (o.getD .non) H2
def tDGet2 (td ty tx : TE) : TE := fun σ H Q => td σ H fun x H1 => ∃ a, x = .ref a ∧ IsD H1 a ∧ ty σ H1 fun y H2 => tx σ H2 fun z H3 => ∃ o, DGet H3 a y o ∧ Q (o.getD z) H3
/-- d.pop(k): there; d.pop(k, x): there or not -/
def tDPop1 (td ty : TE) : TE := fun σ H Q => td σ H fun x H1 => ∃ a, x = .ref a ∧ IsD H1 a ∧ ty σ H1 fun y H2 => ∃ kvs k v, H2 a = some (.dK kvs) ∧ y = kV k ∧ valV kvs k = some v ∧ Q v (upd H2 a (.dK (dropK kvs k)))
def tDPop2 (td ty tx : TE) : TE := fun σ H Q => td σ H fun x H1 => ∃ a, x = .ref a ∧ IsD H1 a ∧ ty σ H1 fun y H2 => tx σ H2 fun z H3 => ∃ kvs k, H3 a = some (.dK kvs) ∧ y = kV k ∧
  (∀ v, valV kvs k = some v → Q v (upd H3 a (.dK (dropK kvs k)))) ∧ (valV kvs k = none → Q z H3)
section
variable {X : Cx} {o e f : Expr} {apos cpos : Pos} {td ty tx : TE}
end

/-! ### dict(d): a copy -/
section
variable {X : Cx} {pins : List (Addr × Obj)} {σ : St} {H : Hp} {s : Shared} {a : Addr} {kvs : List (Key × V)} {A : Around} {E : Value → Shared → Prop}
theorem d_copyOf {Q : Value → Shared → Prop} (I : Inv X pins σ H s) (e : Rd H a (.dK kvs)) (h : ∀ p s', H p = none → Inv X pins σ (upd H p (.dK kvs)) s' → Q (.ref p) s') : wpAny (model X.prog X.w) A (call (.type "dict") [.ref a]) Q E s := by
  obtain ⟨z, hd, vs, rel, dd⟩ := dk_rd I.hok e
  refine kt_call_dict hd dd (by rw [← rel.length]; exact z) fun h' dd' hs => ?_
  refine h _ _ (I.hok.fresh (Nat.le_refl _)) (I.laid (a := s.heap.objs.size) (o := .dK kvs) (t' := s.toks) (fun b q hq => ?_) (Nat.le_refl _) (dk_new z (beq_eq_false_iff_ne.mpr (Ne.symm (Nat.ne_of_lt I.big))) rel dd'))
  exact (hs.2 b (Nat.ne_of_lt (Heap.lt_size hq))).trans (Heap.get?_push_of_some _ hq)
end


section
variable {X : Cx} {pins : List (Addr × Obj)} {σ : St} {H : Hp} {s : Shared} {a : Addr} {y : V} {u : Value} {A : Around} {E : Value → Shared → Prop}
end
end L2
namespace L2
open PySem PySem.Spec PyProof.Rows
section
variable {X : Cx}
/-- len of a dict -/
theorem call_lenD : CallR X (.builtin "len") (fun xs H Q => ∃ a kvs, xs = [V.ref a] ∧ H a = some (.dK kvs) ∧ Q (.int kvs.length) H) := by
  intro pins s σ H xs us Q I r h
  obtain ⟨a, kvs, rfl, ha, q⟩ := h
  obtain ⟨u, rfl, ru⟩ := vals1 r
  cases ru
  exact d_len I (.inl ha) fun t s' I' => ⟨.int kvs.length, H, I', ⟨t, rfl⟩, q⟩
end
end L2
namespace L2
open PySem PySem.Spec PyProof.Rows
/-! ### a dict's pairs: keys that differ -/
section
variable {κ : Type} [DecidableEq κ]
theorem valV_not {kvs : List (κ × V)} {k : κ} (h : valV kvs k = none) : ¬ k ∈ kvs.map (·.1) := by
  intro m
  obtain ⟨p, hp, e⟩ := List.mem_map.mp m
  have q : (kvs.any fun kv => decide (kv.1 = k)) = true := List.any_eq_true.mpr ⟨p, hp, decide_eq_true e⟩
  rw [valV_any, h] at q
  exact absurd q (by simp)
theorem valV_in {kvs : List (κ × V)} {k : κ} {v : V} (h : valV kvs k = some v) : k ∈ kvs.map (·.1) := by
  have q : (kvs.any fun kv => decide (kv.1 = k)) = true := by
    rw [valV_any, h]
    all_goals rfl
  obtain ⟨p, hp, e⟩ := List.any_eq_true.mp q
  exact List.mem_map.mpr ⟨p, hp, of_decide_eq_true e⟩
theorem dropK_pos {p : κ × V} {r : List (κ × V)} {k : κ} (e : p.1 = k) : dropK (p :: r) k = dropK r k := by
  unfold dropK
  rw [List.filter_cons, if_neg (by simp [e])]
theorem dropK_neg {p : κ × V} {r : List (κ × V)} {k : κ} (e : ¬ p.1 = k) : dropK (p :: r) k = p :: dropK r k := by
  unfold dropK
  rw [List.filter_cons, if_pos (by simp [e])]
theorem dropK_no : ∀ {kvs : List (κ × V)} {k : κ}, ¬ k ∈ kvs.map (·.1) → dropK kvs k = kvs
  | [], _, _ => rfl
  | p :: r, k, h => by
    have h' : ¬ k ∈ r.map (·.1) := fun m => by
      obtain ⟨q, hq, e⟩ := List.mem_map.mp m
      exact h (List.mem_map.mpr ⟨q, List.mem_cons.mpr (Or.inr hq), e⟩)
    rw [dropK_neg fun e => h (List.mem_map.mpr ⟨p, List.mem_cons.mpr (Or.inl rfl), e⟩), dropK_no h']
theorem dropK_mem {kvs : List (κ × V)} {k : κ} {p : κ × V} (h : p ∈ dropK kvs k) : p ∈ kvs := (List.mem_filter.mp h).1
end
end L2

/-! ### a list comprehension with any target, a test, any number of cells -/
namespace L2
open PySem PySem.Spec PyProof.Rows
section
variable {X : Cx}
/-- the tests of a clause -/
def PTs (X : Cx) (ifs : List Expr) (t : TT) : Prop :=
  ∀ (pins : List (Addr × Obj)) (s : Shared) (σ : St) (H : Hp) (Q : Bool → Hp → Prop), Inv X pins σ H s → t σ H Q →
    wpAny (model X.prog X.w) X.A (forIn ifs true fun c r => if r = true then do let ok ← isTrue c X.env (eval c X.env); pure (ForInStep.yield ok) else pure (ForInStep.yield r)) (TP X pins σ Q) X.xe s
def tYes : TT := fun _ H Q => Q true H
theorem pts_nil : PTs X [] tYes := fun pins s σ H Q I h => wpAny_tests_nil ⟨H, I, h⟩
/-- the cells that a block sees, by a row of names -/
def ClSub (X : Cx) : List (Str × Addr) → Prop
  | [] => True
  | p :: r => X.env.cells.lookup p.1 = some p.2 ∧ ClSub X r
theorem ClSub.at : ∀ {cl : List (Str × Addr)}, ClSub X cl → ∀ y c, cl.lookup y = some c → X.env.cells.lookup y = some c
  | [], _, y, c, e => by simp at e
  | (z, d) :: r, h, y, c, e => by
    by_cases q : y = z
    · subst q
      simp at e
      subst e
      exact h.1
    · rw [List.lookup_cons, beq_eq_false_iff_ne.mpr q] at e
      exact ClSub.at h.2 y c e
theorem lookup_has {cl : List (Str × Addr)} {y : Str} : y ∈ cl.map (·.1) → ∃ c, cl.lookup y = some c := by
  induction cl with
  | nil => intro h; simp at h
  | cons p r ih =>
    intro h
    by_cases q : y = p.1
    · subst q
      exact ⟨p.2, by cases p; simp⟩
    · obtain ⟨c, e⟩ := ih (by
        rcases List.mem_cons.mp h with z | z
        · exact absurd z q
        · exact z)
      exact ⟨c, by rw [List.lookup_cons, beq_eq_false_iff_ne.mpr q]; exact e⟩
theorem relabel_names {scope : Scope} {env : Env} {z : Str} {k : NameKind} (h : (z, k) ∈ (relabel scope env).names) (hk : k = .cell ∨ k = .free) : (z, NameKind.cell) ∈ scope.names ∨ (z, NameKind.free) ∈ scope.names := by
  unfold relabel at h
  obtain ⟨⟨n, k'⟩, hm, e⟩ := List.mem_map.mp h
  dsimp only at e
  split at e
  · rename_i c
    cases e
    have : k' = .free := by
      have := (Bool.and_eq_true_iff.mp (Bool.and_eq_true_iff.mp c).1).1
      simpa using this
    subst this
    exact .inr hm
  · cases e
    rcases hk with rfl | rfl
    · exact .inl hm
    · exact .inr hm
theorem Clos.many {scope : Scope} {cl : List (Str × Addr)} {ys : List Str} (h : closureFor scope X.env = pure cl) (hs : ClSub X cl) (hy : cl.map (·.1) = ys)
    (hr : ∀ p ∈ scope.names, (p.2 = .cell ∨ p.2 = .free) → p.1 ∈ ys) : Clos X scope cl := by
  refine ⟨h, fun y c e => hs.at y c e, fun y hz => lookup_has ?_⟩
  rw [hy]
  rcases hz with q | q
  · rcases relabel_names (PySem.mem_of_lookup q) (.inl rfl) with m | m
    · exact hr _ m (.inl rfl)
    · exact hr _ m (.inr rfl)
  · rcases relabel_names (PySem.mem_of_lookup q) (.inr rfl) with m | m
    · exact hr _ m (.inl rfl)
    · exact hr _ m (.inr rfl)
/-- the frame's slots that a block reads -/
def RdAll (X : Cx) (scope : Scope) : List Str → List Nat → Prop
  | [], [] => True
  | y :: ys, j :: js => (X.N[j]? = some y ∧ X.env.scope.names.lookup y = some .cell ∧ (relabel scope X.env).names.lookup y = some .cell) ∧ RdAll X scope ys js
  | _, _ => False
theorem RdAll.len {scope : Scope} : ∀ {ys : List Str} {js : List Nat}, RdAll X scope ys js → js.length = ys.length
  | [], [], _ => rfl
  | y :: ys, j :: js, h => by rw [List.length_cons, List.length_cons, RdAll.len h.2]
theorem RdAll.at {scope : Scope} : ∀ {ys : List Str} {js : List Nat}, RdAll X scope ys js → ∀ (i : Nat) (y : Str) (j : Nat), ys[i]? = some y → js[i]? = some j → X.N[j]? = some y ∧ X.env.scope.names.lookup y = some .cell ∧ (relabel scope X.env).names.lookup y = some .cell
  | [], [], _, i, y, j, e, _ => by simp at e
  | y' :: ys, j' :: js, h, 0, y, j, e1, e2 => by
    simp at e1 e2
    subst e1 e2
    exact h.1
  | y' :: ys, j' :: js, h, i + 1, y, j, e1, e2 => RdAll.at h.2 i y j (by simpa using e1) (by simpa using e2)
theorem Reads.many {scope : Scope} {ys : List Str} {js : List Nat} (h : RdAll X scope ys js) : Reads X scope ys (fun σ => js.map fun j => σ.getD j Option.none) := by
  refine fun σ => ⟨by rw [List.length_map, h.len], fun i y v e1 e2 => ?_⟩
  rw [List.getElem?_map] at e2
  cases q : js[i]? with
  | none => rw [q] at e2; cases e2
  | some j =>
    rw [q] at e2
    obtain ⟨h1, h2, h3⟩ := h.at i y j e1 q
    refine ⟨j, h1, ?_, h2, h3⟩
    have e3 : σ.getD j Option.none = some v := Option.some.inj e2
    rw [List.getD_eq_getElem?_getD] at e3
    cases z : σ[j]? with
    | none => rw [z] at e3; cases e3
    | some o => rw [z] at e3; exact congrArg some e3
/-- the reading: the target's names stand first -/
def tCompG (k : Nat) (wi : TI) (g : TG) (tc : TT) (te : TE) (sel : St → St) : TE := fun σ H Q => wi σ H fun J H1 => ∀ l, H1 l = none → ∃ W : Nat → Nat → Hp → Prop, (∃ m, W 0 m (upd H1 l (.lst []))) ∧ ∀ i m H, W i m H →
  (J.stop i H ∧ Q (.ref l) H) ∨ (J.go i H ∧ ∀ x H', J.yld i H x H' → ∀ zs : St, zs.length = k → g x (zs ++ sel σ) H' fun σ2 H2 => (∃ zs' : St, zs'.length = k ∧ σ2 = zs' ++ sel σ) ∧ tc σ2 H2 fun b H3 => if b = true then te σ2 H3 fun y H4 => ∃ ys, H4 l = some (.lst ys) ∧ ys.length < sizeLine ∧ ∃ m', m' < m ∧ W (i + 1) m' (upd H4 l (.lst (ys ++ [y]))) else ∃ m', m' < m ∧ W (i + 1) m' H3)
theorem codeAny_compLoop_ownG {prog : Program} {w : World} {A : Around} {R : Result → Shared → Prop} {s : Shared} {elt target iter : Expr} {ifs : List Expr} {scope : Scope} {pos : Pos} {it acc : Value} {env : Env} (I : Nat → Shared → Prop)
    (turn : ∀ n s, I n s → wpAny (model prog w) A (pyNext it) (fun r s₁ => match r with
      | none => R (.ok .next) s₁
      | some v => wpAny (model prog w) A (letOwnedTupleGo target it v) (fun _ s₁' => wpAny (model prog w) A (assign target env v) (fun _ s₂ =>
          wpAny (model prog w) A (forIn ifs true fun c r => if r = true then do let ok ← isTrue c env (eval c env); pure (ForInStep.yield ok) else pure (ForInStep.yield r)) (fun ok s₃ => if ok = true then wpAny (model prog w) A (eval elt env) (fun x s₄ =>
            wpAny (model prog w) A (call (.builtin "list.append") [acc, x]) (fun _ s₅ => ∃ m, m < n ∧ I m s₅) (fun _ _ => False) s₄) (fun _ _ => False) s₃ else ∃ m, m < n ∧ I m s₃) (fun _ _ => False) s₂) (fun _ _ => False) s₁') (fun _ _ => False) s₁) (fun _ _ => False) s)
    (n : Nat) (h : I n s) :
    codeAny (model prog w) A (.compLoop (.ListComp elt [⟨target, iter, ifs, 0⟩] scope pos) 0 it acc env) R s := by
  refine codeAny_loop rfl I (fun n s hI => ?_) n h
  show wpAny _ _ ((compTurn (.ListComp elt [⟨target, iter, ifs, 0⟩] scope pos) 0 it acc env).onRaise (fun x => do noteFrame x env; theTreesLotGoes x)) _ _ s
  refine wpAny_noted ?_
  rw [compTurn_list]
  refine wpAny_bind (wpAny_standAt (wpAny_bind (wpAny_mono (turn n s hI) (fun r s₁ h₁ => ?_) fun _ _ h' => h'.elim)))
  cases r with
  | none => exact wpAny_pure h₁
  | some v =>
    refine wpAny_bind (wpAny_mono h₁ (fun _ s₁' h₁' => ?_) fun _ _ h' => h'.elim)
    refine wpAny_bind (wpAny_mono h₁' (fun _ s₂ h₂ => wpAny_bind (wpAny_mono h₂ (fun ok s₃ h₃ => ?_) fun _ _ h' => h'.elim)) fun _ _ h' => h'.elim)
    cases ok with
    | false => exact wpAny_pure ⟨rfl, h₃⟩
    | true => exact wpAny_bind (wpAny_bind (wpAny_mono h₃ (fun x s₄ h₄ => wpAny_bind (wpAny_mono h₄ (fun _ s₅ h₅ => wpAny_pure (wpAny_pure ⟨rfl, h₅⟩)) fun _ _ h' => h'.elim)) fun _ _ h' => h'.elim))
/-- the block: what is laid, walked and handed on -/
theorem comp_blockG {elt iter tg : Expr} {ifs : List Expr} {xs : List Str} {pos : Pos} {scope : Scope} {cl : List (Str × Addr)} {rest : List Str} {sel : St → St} {g : TG} {tc : TT} {te : TE} {pins : List (Addr × Obj)} {σ : St} {H : Hp} {s : Shared} {Q : VK}
    {it : Addr} {fp : List Addr} {tn : Nat → Heap → Prop} {J : It} {RR : Value → Addr → Result → Shared → Prop} {E : Value → Shared → Prop}
    (hcalm : X.calm = true) (hkind : scope.kind = .function) (hcell : ∀ z ∈ scope.names, z.2 ≠ .cell) (hc : Clos X scope cl) (hr : Reads X scope rest sel)
    (hg : ∀ (C : Addr) (s : Shared) (H : Hp), PG (cxComp X pins (xs ++ rest) scope cl C fp s H) tg g) (ht : ∀ (C : Addr) (s : Shared) (H : Hp), PTs (cxComp X pins (xs ++ rest) scope cl C fp s H) ifs tc)
    (he : ∀ (C : Addr) (s : Shared) (H : Hp), PE (cxComp X pins (xs ++ rest) scope cl C fp s H) elt te)
    (I : Inv X pins σ H s) (T : Turn X.prog X.w X.K tg J fp it tn) (t0 : tn 0 s.heap) (hf : ∀ b ∈ fp, FpOk X pins H b)
    (h : ∀ l, H l = none → ∃ W : Nat → Nat → Hp → Prop, (∃ m, W 0 m (upd H l (.lst []))) ∧ ∀ i m H, W i m H →
      (J.stop i H ∧ Q (.ref l) H) ∨ (J.go i H ∧ ∀ x H', J.yld i H x H' → ∀ zs : St, zs.length = xs.length → g x (zs ++ sel σ) H' fun σ2 H2 => (∃ zs' : St, zs'.length = xs.length ∧ σ2 = zs' ++ sel σ) ∧ tc σ2 H2 fun b H3 => if b = true then te σ2 H3 fun y H4 => ∃ ys, H4 l = some (.lst ys) ∧ ys.length < sizeLine ∧ ∃ m', m' < m ∧ W (i + 1) m' (upd H4 l (.lst (ys ++ [y]))) else ∃ m', m' < m ∧ W (i + 1) m' H3))
    (hRR : ∀ (D C : Addr) (H' : Hp) (s' : Shared), Inv X pins σ H' s' → FpOk X pins H' C → (∃ m, s'.heap.Ns C m) → Q (.ref D) H' → RR (.ref D) C (.ok .next) s') :
    wpAny (model X.prog X.w) X.A (newList []) (fun acc s₃ => wpAny (model X.prog X.w) X.A (newFunctionEnv scope X.env.globals cl [] X.env.qual none .none (some X.env)) (fun cenv s₄ =>
      codeAny (model X.prog X.w) X.A (.compStart (.ListComp elt [⟨tg, iter, ifs, 0⟩] scope pos) 0 (.ref it) acc { cenv with scope := relabel scope X.env }) (RR acc cenv.locals) s₄) E s₃) E s := by
  have hD : H s.heap.objs.size = none := I.hok.fresh (Nat.le_refl _)
  obtain ⟨W, ⟨m0, w0⟩, turn⟩ := h _ hD
  refine wpAny_newObj_type ?_
  have I3 : Inv X pins σ (upd H s.heap.objs.size (.lst [])) { s with heap := s.heap.push { cls := .type "list", dict := none, data := .seq ([] : List Value).toArray } } :=
    I.laid (t' := s.toks) (fun b u e => Heap.get?_push_of_some _ e) (Nat.le_refl _) ⟨Nat.zero_le _, [], 0, .nil, Heap.get?_push_size _ rfl⟩
  generalize hs3 : ({ s with heap := s.heap.push { cls := .type "list", dict := none, data := .seq ([] : List Value).toArray } } : Shared) = s3 at I3 ⊢
  have old3 : ∀ b o, s.heap.get? b = some o → s3.heap.get? b = some o := fun b o e => by rw [← hs3]; exact Heap.get?_push_of_some _ e
  refine wpAny_newFunctionEnv hcell (by intro y hy; simp at hy) (fun h1 hns1 hsb1 => ?_) hkind
  have old4 : ∀ b o, s3.heap.get? b = some o → h1.get? b = some o := fun b o e => hsb1.extBut b o (Nat.ne_of_lt (Heap.lt_size e)) (Heap.get?_push_of_some _ e)
  have fD : ∀ b ∈ fp, b ≠ s.heap.objs.size := fun b hb z => by
    obtain ⟨o, e, _⟩ := T.obj 0 _ t0 b hb
    exact absurd (Heap.lt_size e) (by rw [z]; exact Nat.lt_irrefl _)
  have hf3 : ∀ b ∈ fp, FpOk X pins (upd H s.heap.objs.size (.lst [])) b := fun b hb => ⟨by rw [upd_ne (fD b hb)]; exact (hf b hb).1, (hf b hb).2⟩
  have fC : ∀ b ∈ fp, b ≠ s3.heap.objs.size := fun b hb z => by
    obtain ⟨o, e, _⟩ := T.obj 0 _ t0 b hb
    exact absurd (Heap.lt_size (old3 b o e)) (by rw [z]; exact Nat.lt_irrefl _)
  have cC : ∀ y c, cl.lookup y = some c → c ≠ s3.heap.objs.size := fun y c e z => by
    obtain ⟨v, q⟩ := I3.cell y c (hc.sub y c e)
    exact absurd q.lt (by rw [z]; exact Nat.lt_irrefl _)
  have fstk : ∀ b ∈ fp, b ∉ frs X.stack := fun b hb z => (List.mem_cons.mp (I3.stkSub b z)).elim (hf b hb).2.1 (hf b hb).2.2.1
  -- the block's context holds
  have ok : (cxComp X pins (xs ++ rest) scope cl s3.heap.objs.size fp s3 (upd H s.heap.objs.size (.lst []))).Ok := by
    refine ⟨I.ok.mod, hkind, I.ok.glob, I.ok.blt, Nat.le_refl _, fun y z c e1 e2 => I.ok.inj y z c (hc.sub y c e1) (hc.sub z c e2), fun y hy => hc.has y hy, fun y c e => (nomatch e), I.ok.hd, I.ok.frames, .inl rfl, fun b hb => ⟨fC b hb, fun y c e => (hf b hb).2.2.2.2.1 y c (hc.sub y c e)⟩,
      I3.bs, Nat.le_trans I.ok.bsz I3.sz, fun b o e hb => ?_, fstk, I3.stack, I3.stkFree⟩
    rcases (hf b hb).2.2.2.1 with z | z
    · exact I.ok.noex b o e z
    · exact absurd (Nat.lt_of_lt_of_le (Heap.lt_size e) I.ok.bsz) (Nat.not_lt.mpr z)
  have I4 : Inv (cxComp X pins (xs ++ rest) scope cl s3.heap.objs.size fp s3 (upd H s.heap.objs.size (.lst []))) [] (xs.map (fun _ => none) ++ sel σ) (upd H s.heap.objs.size (.lst [])) { s3 with heap := h1, toks := s3.toks + ([] : List (Str × Value)).length } := by
    refine ⟨ok, rfl, I3.bare, Un.kept old4, ⟨_, hns1, fun i y v e1 e2 e3 => ?_⟩, fun y c e => ?_, I3.hok.fresh (Nat.le_refl _), fun y c e => I3.freeC y c (hc.sub y c e), fun p hp => ?_, I3.hok.kept old4, ?_⟩
    · have hge : xs.length ≤ i := by
        apply Classical.byContradiction
        intro hlt
        rw [List.getElem?_append_left (by rw [List.length_map]; omega), List.getElem?_map] at e2
        cases q : xs[i]? with
        | none => rw [q] at e2; cases e2
        | some z => rw [q] at e2; cases e2
      have e1' : rest[i - xs.length]? = some y := by
        have e1 : (xs ++ rest)[i]? = some y := e1
        rw [List.getElem?_append_right hge] at e1
        exact e1
      have e2' : (sel σ)[i - xs.length]? = some (some v) := by
        rw [List.getElem?_append_right (by rw [List.length_map]; exact hge), List.length_map] at e2
        exact e2
      obtain ⟨j, q1, q2, q3, q4⟩ := (hr σ).2 _ y v e1' e2'
      obtain ⟨m, hn, hl⟩ := I3.loc
      obtain ⟨u, r, l⟩ := hl j y v q1 q2 (.inr (.inl q3))
      refine ⟨u, r, .inr ⟨.inl q4, ?_⟩⟩
      obtain ⟨c, ec⟩ := hc.has y (.inl q4)
      refine ⟨c, ec, ?_⟩
      rcases l with ⟨k, _⟩ | ⟨_, c', e', z⟩
      · have k' : X.env.scope.names.lookup y = some .local := k
        rw [q3] at k'; cases k'
      · rw [hc.sub y c ec] at e'
        cases e'
        obtain ⟨o, ho, hd⟩ := z
        exact ⟨o, old4 c o ho, hd⟩
    · obtain ⟨v, o, ho, hd⟩ := I3.cell y c (hc.sub y c e)
      exact ⟨v, o, old4 c o ho, hd⟩
    · have hp' : p ∈ X.pn ++ pins := by simpa [cxComp] using hp
      obtain ⟨e, n, ne, nf, d⟩ := I3.pin p hp'
      exact ⟨old4 _ _ e, n, Nat.ne_of_lt (Heap.lt_size e), fun z => (List.mem_cons.mp (I3.stkSub _ z)).elim ne nf, d⟩
    · show (xs.map (fun _ => none) ++ sel σ).length = (xs ++ rest).length
      rw [List.length_append, List.length_append, List.length_map, (hr σ).1]
  -- the iterator, seen from the block
  have stat : ∀ {H' : Hp}, (∀ b ∈ fp, H' b = none) → ∀ b ∈ fp, FpOk (cxComp X pins (xs ++ rest) scope cl s3.heap.objs.size fp s3 (upd H s.heap.objs.size (.lst []))) [] H' b := fun hn b hb =>
    ⟨hn b hb, fC b hb, fstk b hb, .inl hb, fun y c e => (hf b hb).2.2.2.2.1 y c (hc.sub y c e), fun p hp => (hf b hb).2.2.2.2.2 p (by simpa [cxComp] using hp)⟩
  have t4 : tn 0 h1 := T.keep _ _ _ t0 fun b hb o e => old4 b o (old3 b o e)
  have loop : ∀ s4 : Shared, s4 = { s3 with heap := h1, toks := s3.toks + ([] : List (Str × Value)).length } →
      codeAny (model X.prog X.w) X.A (.compLoop (.ListComp elt [⟨tg, iter, ifs, 0⟩] scope pos) 0 (.ref it) (.ref s.heap.objs.size) (compEnvC scope cl s3.heap.objs.size X.env)) (RR (.ref s.heap.objs.size) s3.heap.objs.size) s4 := by
    rintro s4 rfl
    refine codeAny_compLoop_ownG (fun n s' => ∃ i zs H', zs.length = xs.length ∧ Inv (cxComp X pins (xs ++ rest) scope cl s3.heap.objs.size fp s3 (upd H s.heap.objs.size (.lst []))) [] (zs ++ sel σ) H' s' ∧ tn i s'.heap ∧ (∀ b ∈ fp, H' b = none) ∧ W i n H') ?_ m0
      ⟨0, _, _, List.length_map _, I4, t4, fun b hb => (hf3 b hb).1, w0⟩
    rintro n s5 ⟨i, zs, H5, hzs, I5, t5, f5, w5⟩
    rcases turn i n H5 w5 with ⟨stop, qn⟩ | ⟨go, step⟩
    · refine thn (T.done (cxComp X pins (xs ++ rest) scope cl s3.heap.objs.size fp s3 (upd H s.heap.objs.size (.lst []))) rfl rfl rfl hcalm i [] s5 _ H5 _ I5 (stat f5) t5 stop) fun r s6 ⟨er, I6⟩ => ?_
      subst er
      have J6 : Inv X pins σ H5 s6 := I3.call' (ch := fp) I6.os I6.base I6.hok I6.bare fun b hb => ⟨(hf b hb).2.2.2.1, (hf b hb).2.1, (hf b hb).2.2.2.2.1, (hf b hb).2.2.2.2.2⟩
      exact hRR _ _ H5 s6 J6 (I3.fpOk (Nat.le_refl _) I6.free) (let ⟨m, hn, _⟩ := I6.loc; ⟨m, hn⟩) qn
    · refine thn (T.item (cxComp X pins (xs ++ rest) scope cl s3.heap.objs.size fp s3 (upd H s.heap.objs.size (.lst []))) rfl rfl rfl hcalm i [] s5 _ H5 _ I5 (stat f5) t5 go) fun r s6 ⟨u, er, h6⟩ => ?_
      subst er
      refine thn h6 fun _ s7 ⟨y, H7, I7, r7, y7, t7, f7⟩ => ?_
      have I7' := I7.pinned (stat f7) (T.obj _ _ t7)
      refine thn (hg _ _ _ _ s7 _ H7 y u _ I7' r7 (step y H7 y7 zs hzs)) fun _ s8 ⟨σ8, H8, I8, ⟨zs', hz', e8⟩, q8⟩ => ?_
      subst e8
      refine thn (ht _ _ _ _ s8 _ H8 _ I8 q8) fun b s9 ⟨H9, I9, q9⟩ => ?_
      cases b with
      | false =>
        rw [if_neg Bool.false_ne_true] at q9 ⊢
        obtain ⟨m', hm, w9⟩ := q9
        refine ⟨m', hm, i + 1, zs', _, hz', I9.unpinned, T.keep _ _ _ t7 fun b hb o e => (I9.pin (b, o) (List.mem_append_right _ (List.mem_append_right _ (mem_pinsAt hb e)))).1, fun b hb => ?_, w9⟩
        obtain ⟨o, e, d⟩ := T.obj _ _ t7 b hb
        exact (I9.pin (b, o) (List.mem_append_right _ (List.mem_append_right _ (mem_pinsAt hb e)))).2.1
      | true =>
        rw [if_pos rfl] at q9 ⊢
        refine thn (he _ _ _ _ s9 _ H9 _ I9 q9) fun z s9 ⟨yv, H9, I9, r9, ys, hl, hz, m', hm, w9⟩ => ?_
        refine thn (mt_append (X := cxComp X pins (xs ++ rest) scope cl s3.heap.objs.size fp s3 (upd H s.heap.objs.size (.lst []))) _ s9 _ H9 (.ref s.heap.objs.size) [yv] (.ref s.heap.objs.size) [z]
          (fun v H' => H' = upd H9 s.heap.objs.size (.lst (ys ++ [yv]))) I9 rfl (.cons r9 .nil) ⟨_, ys, yv, rfl, rfl, hl, hz, rfl⟩) fun _ s10 ⟨v10, H10, I10, _, e10⟩ => ?_
        subst e10
        refine ⟨m', hm, i + 1, zs', _, hz', I10.unpinned, T.keep _ _ _ t7 fun b hb o e => (I10.pin (b, o) (List.mem_append_right _ (List.mem_append_right _ (mem_pinsAt hb e)))).1, fun b hb => ?_, w9⟩
        obtain ⟨o, e, d⟩ := T.obj _ _ t7 b hb
        exact (I10.pin (b, o) (List.mem_append_right _ (List.mem_append_right _ (mem_pinsAt hb e)))).2.1
  exact codeAny_compStart_list (loop _ rfl) (T.self _ 0 _ _ _ t4 (loop _ rfl))

theorem pe_compG {elt iter tg : Expr} {ifs : List Expr} {xs : List Str} {pos : Pos} {scope : Scope} {cl : List (Str × Addr)} {rest : List Str} {sel : St → St} {g : TG} {tc : TT} {te : TE} {wi : TI}
    (hcalm : X.calm = true) (hi : PI X tg iter wi) (hg : ∀ (pins : List (Addr × Obj)) (fp : List Addr) (C : Addr) (s : Shared) (H : Hp), PG (cxComp X pins (xs ++ rest) scope cl C fp s H) tg g) (ht : ∀ (pins : List (Addr × Obj)) (fp : List Addr) (C : Addr) (s : Shared) (H : Hp), PTs (cxComp X pins (xs ++ rest) scope cl C fp s H) ifs tc)
    (he : ∀ (pins : List (Addr × Obj)) (fp : List Addr) (C : Addr) (s : Shared) (H : Hp), PE (cxComp X pins (xs ++ rest) scope cl C fp s H) elt te)
    (hc : Clos X scope cl) (hr : Reads X scope rest sel) (hkind : scope.kind = .function := by rfl) (hcell : ∀ z ∈ scope.names, z.2 ≠ .cell := by decide +kernel) (hnames : ∀ z ∈ scope.names, z.2 = .local → scope.names.lookup z.1 = some .local := by decide +kernel)
    (hs : ∀ x, foldedSetIterable iter X.env x = pure x := by intro _; rfl) :
    PE X (.ListComp elt [⟨tg, iter, ifs, 0⟩] scope pos) (tCompG xs.length wi g tc te sel) := by
  intro pins s σ H Q I h
  rw [eval_ListComp]
  refine wpAny_comprehension_free (use := none) rfl hs hc.clos hkind hnames (thn (hi pins s σ H _ I h) fun v s1 h1 => thn h1 fun itv s2 h2 => ?_)
  obtain ⟨it, fp, tn, J, H2, rfl, I2, T, t2, f2, q2⟩ := h2
  refine comp_blockG (RR := fun acc C => compPost (model X.prog X.w) X.A X.xe none (EP X pins σ Q) acc C) hcalm hkind hcell hc hr (hg pins fp) (ht pins fp) (he pins fp) I2 T t2 f2 q2 fun D C H' s' I' fC ⟨m, hn⟩ q => ?_
  exact ⟨m, hn, fun h' sb => ⟨.ref D, H', I'.turned (t' := s'.toks) (fun b o hb e => (sb.2 b hb).trans e) fC.1 fC.2.1 fC.2.2.2.1 fC.2.2.2.2.1 fC.2.2.2.2.2, rfl, q⟩⟩
/-- name = [elt for .. in iter ..] upon one row -/
theorem ps_compG {i : Nat} {y : Str} {py spos : Pos} {elt iter tg : Expr} {ifs : List Expr} {xs : List Str} {pos : Pos} {scope : Scope} {cl : List (Str × Addr)} {rest : List Str} {sel : St → St} {g : TG} {tc : TT} {te : TE} {wi : TI}
    (hNX : X.N.Nodup) (hi' : X.N[i]? = some y) (hy : X.env.scope.names.lookup y = some .local)
    (hcalm : X.calm = true) (hi : PI X tg iter wi) (hg : ∀ (pins : List (Addr × Obj)) (fp : List Addr) (C : Addr) (s : Shared) (H : Hp), PG (cxComp X pins (xs ++ rest) scope cl C fp s H) tg g) (ht : ∀ (pins : List (Addr × Obj)) (fp : List Addr) (C : Addr) (s : Shared) (H : Hp), PTs (cxComp X pins (xs ++ rest) scope cl C fp s H) ifs tc)
    (he : ∀ (pins : List (Addr × Obj)) (fp : List Addr) (C : Addr) (s : Shared) (H : Hp), PE (cxComp X pins (xs ++ rest) scope cl C fp s H) elt te)
    (hc : Clos X scope cl) (hr : Reads X scope rest sel) (hkind : scope.kind = .function := by rfl) (hcell : ∀ z ∈ scope.names, z.2 ≠ .cell := by decide +kernel) (hnames : ∀ z ∈ scope.names, z.2 = .local → scope.names.lookup z.1 = some .local := by decide +kernel)
    (hs : ∀ x, foldedSetIterable iter X.env x = pure x := by intro _; rfl)
    (hsw : swapsWith (.ListComp elt [⟨tg, iter, ifs, 0⟩] scope pos) (some (.Name y py)) spos.line X.env = pure true := by rfl) :
    PS X (.Assign [.Name y py] (.ListComp elt [⟨tg, iter, ifs, 0⟩] scope pos) spos) (tAsg (tCompG xs.length wi g tc te sel) (gName i)) := by
  intro pins s σ H D I h
  rw [exec_Assign_Name_used _ _ _ _ hsw]
  refine wpAny_bind (wpAny_standAt (wpAny_bind ?_))
  show wpAny _ X.A (do let _ ← comprehension (.ListComp elt [⟨tg, iter, ifs, 0⟩] scope pos) scope X.env _ (newList []) false (eval iter X.env) (some (assign (.Name y py) X.env))) _ _ s
  refine wpAny_bind (wpAny_mono (wpAny_comprehension_free (use := some (assign (.Name y py) X.env)) (Q := fun _ s' => SP X pins D .next s') rfl hs hc.clos hkind hnames
    (thn (hi pins s σ H _ I h) fun v s1 h1 => thn h1 fun itv s2 h2 => ?_)) (fun _ s' hq => wpAny_pure (wpAny_pure hq)) fun _ _ e => e)
  obtain ⟨it, fp, tn, J, H2, rfl, I2, T, t2, f2, q2⟩ := h2
  refine comp_blockG (Q := fun x H1 => gName i x σ H1 D.nx) (RR := fun acc C => compPost (model X.prog X.w) X.A X.xe (some (assign (.Name y py) X.env)) (fun _ s' => SP X pins D .next s') acc C) hcalm hkind hcell hc hr (hg pins fp) (ht pins fp) (he pins fp) I2 T t2 f2 q2 fun L C H' s' I' fC ⟨m, hn⟩ q => ?_
  show wpAny _ X.A (assign (.Name y py) X.env (.ref L)) _ _ _
  refine wpAny_assign_Name (store_ok2 I' hNX hi' (.inl hy) (v := .ref L) rfl (fun s2 I2' ⟨a, sb, ha⟩ => ?_) (.inr hy))
  have hCa : C ≠ a := fun z => by
    rcases ha with z' | z'
    · exact fC.2.1 (z.trans z')
    · exact fC.2.2.2.2.1 y a z' z.symm
  exact ⟨m, hn.sameBut sb hCa, fun h' sb' => ⟨_, H', I2'.turned (t' := s2.toks) (fun b o hb e => (sb'.2 b hb).trans e) fC.1 fC.2.1 fC.2.2.2.1 fC.2.2.2.2.1 fC.2.2.2.2.2, q⟩⟩
end
end L2
/-! ### a dict walked by its keys: frozen while it is walked -/
namespace L2
open PySem PySem.Spec PyProof.Rows
section
variable {X : Cx} {pins : List (Addr × Obj)} {σ : St} {H : Hp} {s : Shared} {a : Addr} {o : Obj} {u : HO}
theorem Inv.freeze (I : Inv X pins σ H s) (ha : H a = some u) (mu : Mut (some u)) (ho : s.heap.get? a = some o) : Inv X pins σ (upd H a (.frz o u)) s := by
  have mu' : Mut (H a) := by rw [ha]; exact mu
  have nown : ∀ c y, H c = some (.own y) → c ≠ a := fun c y r z => by subst z; rw [r] at mu'; exact mu'
  have ntup : ∀ c xs, H c = some (.tup xs) → c ≠ a := fun c xs r z => by subst z; rw [r] at mu'; exact mu'
  refine I.un (t' := s.toks) (Un.write (x := a) (e := a) mu' (.inl rfl) (fun _ _ _ q => q) ⟨o, ho⟩) (I.hok.write (x := a) (e := a) mu' (.inl rfl) (fun _ _ _ q => q) ⟨o, ho⟩ ⟨ho, ?_⟩)
  exact (I.hok a u ha).stay (fun _ _ _ q => q) (fun c r => by rw [upd_ne (nown c a r)]; exact r) fun c xs r => by rw [upd_ne (ntup c xs r)]; exact r
theorem Inv.thaw (I : Inv X pins σ H s) (ha : H a = some (.frz o u)) (h0 : ∀ o' u', X.H₀ a ≠ some (.frz o' u')) : Inv X pins σ (upd H a u) s := by
  have nown : ∀ c y, H c = some (.own y) → c ≠ a := fun c y r z => by subst z; rw [r] at ha; cases ha
  have ntup : ∀ c xs, H c = some (.tup xs) → c ≠ a := fun c xs r z => by subst z; rw [r] at ha; cases ha
  have nn : ∀ c, H c = none → c ≠ a := fun c r z => by subst z; rw [r] at ha; cases ha
  have up : ∀ c, H c = none → upd H a u c = none := fun c r => by rw [upd_ne (nn c r)]; exact r
  refine ⟨I.ok, I.os, I.bare, ⟨I.base.keep, I.base.slot, fun b ob e n hx => up b (I.base.free b ob e n hx), I.base.there, fun b xs e => ?_, fun b ob z e => ?_, fun b ps e => ?_⟩, I.loc, I.cell, up _ I.free, fun x c e => up _ (I.freeC x c e), fun p hp => ?_, fun b ob e => ?_, I.len⟩
  · have q := I.base.tups b xs e
    rw [upd_ne (ntup b xs q)]
    exact q
  · have q := I.base.frzs b ob z e
    have nb : b ≠ a := fun z' => by subst z'; exact h0 _ _ e
    rw [upd_ne nb]
    exact q
  · obtain ⟨m, q⟩ := I.base.tbls b ps e
    have nb : b ≠ a := fun z' => by subst z'; rw [q] at ha; cases ha
    exact ⟨m, by rw [upd_ne nb]; exact q⟩
  · obtain ⟨e, n, r⟩ := I.pin p hp
    exact ⟨e, up _ n, r⟩
  · by_cases hb : b = a
    · subst hb
      rw [upd_same] at e
      cases e
      obtain ⟨_, q⟩ := I.hok b _ ha
      exact q.stay (fun _ _ _ q => q) (fun c r => by rw [upd_ne (nown c b r)]; exact r) fun c xs r => by rw [upd_ne (ntup c xs r)]; exact r
    · rw [upd_ne hb] at e
      exact (I.hok b ob e).stay (fun _ _ _ q => q) (fun c r => by rw [upd_ne (nown c b r)]; exact r) fun c xs r => by rw [upd_ne (ntup c xs r)]; exact r
theorem Inv.nofrz (I : Inv X pins σ H s) (ha : H a = some u) (nu : ∀ o' u', u ≠ .frz o' u') : ∀ o' u', X.H₀ a ≠ some (.frz o' u') := fun o' u' e => by
  have q := I.base.frzs a o' u' e
  rw [ha] at q
  exact nu _ _ (Option.some.inj q)
/-- behind e the dict at a is free again -/
def tThaw (t : TE) : TE := fun σ H Q => ∃ a u, H a = some u ∧ (∀ o' u', u ≠ .frz o' u') ∧ t σ H fun v H' => ∃ o, H' a = some (.frz o u) ∧ Q v (upd H' a u)
theorem pe_thaw {e : Expr} {t : TE} (h : PE X e t) : PE X e (tThaw t) := by
  intro pins s σ H Q I q
  obtain ⟨a, u, ha, nu, q⟩ := q
  exact thn (h pins s σ H _ I q) fun v s1 ⟨x, H1, I1, r1, o, e1, q1⟩ => ⟨x, _, I1.thaw e1 (I.nofrz ha nu), r1, q1⟩
def tThawS (t : TS) : TS := fun D σ H => ∃ a u, H a = some u ∧ (∀ o' u', u ≠ .frz o' u') ∧ t { D with nx := fun σ' H' => ∃ o, H' a = some (.frz o u) ∧ D.nx σ' (upd H' a u), rt := fun v H' => ∃ o, H' a = some (.frz o u) ∧ D.rt v (upd H' a u), ct := fun σ' H' => ∃ o, H' a = some (.frz o u) ∧ D.ct σ' (upd H' a u), bk := fun σ' H' => ∃ o, H' a = some (.frz o u) ∧ D.bk σ' (upd H' a u) } σ H
theorem ps_thaw {st : Stmt} {t : TS} (h : PS X st t) : PS X st (tThawS t) := by
  intro pins s σ H D I q
  obtain ⟨a, u, ha, nu, q⟩ := q
  have hn := I.nofrz ha nu
  refine thn (h pins s σ H _ I q) fun f s1 q1 => ?_
  cases f with
  | next => obtain ⟨σ1, H1, I1, o, e1, q2⟩ := q1; exact ⟨σ1, _, I1.thaw e1 hn, q2⟩
  | cont => obtain ⟨σ1, H1, I1, o, e1, q2⟩ := q1; exact ⟨σ1, _, I1.thaw e1 hn, q2⟩
  | brk => obtain ⟨σ1, H1, I1, o, e1, q2⟩ := q1; exact ⟨σ1, _, I1.thaw e1 hn, q2⟩
  | ret v => obtain ⟨x, σ1, H1, I1, r1, o, e1, q2⟩ := q1; exact ⟨x, σ1, _, I1.thaw e1 hn, r1, q2⟩
/-- the keys of a frozen dict -/
def Itd (a : Addr) (o : Obj) (kvs : List (Key × V)) : It :=
  ⟨fun i H => H a = some (.frz o (.dK kvs)) ∧ i < kvs.length, fun i H x H' => H' = H ∧ ∃ kv, kvs[i]? = some kv ∧ x = kV kv.1, fun i H => H a = some (.frz o (.dK kvs)) ∧ kvs.length ≤ i⟩
theorem KV.get {κ : Type} : ∀ {kvs : List (κ × V)} {vs : List (κ × Value)} {i : Nat} {kv : κ × V}, KV kvs vs → kvs[i]? = some kv → ∃ v, vs[i]? = some (kv.1, v) ∧ RelV kv.2 v
  | _, _, _, _, .nil, e => by simp at e
  | _, _, 0, kv, .cons (b := b) r t, e => by
    simp at e
    subst e
    exact ⟨b.2, by simp [r.1], r.2⟩
  | _, _, i + 1, kv, .cons r t, e => by
    obtain ⟨v, e', r'⟩ := KV.get (i := i) t (by simpa using e)
    exact ⟨v, by simpa using e', r'⟩
theorem is_kV {P : Program} {w : World} {k : Key} {u : Value} (h : (mixKind P w).is k u = true) : RelV (kV k) u := by
  rcases keyIs_shape (show keyIs k u = true from h) with ⟨i, t, rfl, rfl⟩ | ⟨x, t, rfl, rfl⟩
  · exact ⟨t, rfl⟩
  · exact ⟨t, rfl⟩
/-- its turns -/
theorem turn_dict {P : Program} {w : World} {K : PySem.W.Frag} {tg : Expr} (a it : Addr) (o : Obj) (kvs : List (Key × V)) {es : Array DictEntry} {ep : Nat} (hd : o.data = .dict es ep) : Turn P w K tg (Itd a o kvs) [it] it (fun i h => h.IsKeyIter it a i kvs.length ep) where
  mem := by simp
  obj := fun i h st b hb => by
    have e : b = it := by simpa using hb
    subst e
    obtain ⟨o, e, c, d⟩ := st
    exact ⟨o, e, fun v z => by rw [d] at z; cases z⟩
  keep := fun i h h' st k => st.at fun o e => k it (by simp) o e
  item := by
    intro X hP hw hK hc i pins s σ H E I hf st hg
    subst hP hw hK
    obtain ⟨ha, hi⟩ := hg
    obtain ⟨ho, hz, hs, vs, r, o', es', ep', e1, e2, e3, e4, e5, e6⟩ := I.hok a _ ha
    rw [ho] at e1; cases e1
    rw [hd] at e3; cases e3
    have hx : kvs[i]? = some kvs[i] := List.getElem?_eq_getElem hi
    obtain ⟨v, hv, rv⟩ := KV.get r hx
    obtain ⟨f0, f1, f2, f3, f4, f5⟩ := hf it (by simp)
    have st0 : s.heap.IsKeyIter it a i vs.length ep := by rw [← r.length]; exact st
    refine wpAny_pyNext_dict_item st0 ⟨o, es, ho, e2, hd, e4, e5, e6⟩ hv fun key h' hk st' sb => ?_
    rw [← r.length] at st'
    have I1 : Inv X pins σ H { s with heap := h' } := I.turned (t' := s.toks) (fun b o hb e => (sb.2 b hb).trans e) f0 f1 f3 f4 f5
    obtain ⟨oi, e, c, d⟩ := id st'
    exact ⟨key, rfl, go_of (s := { s with heap := h' }) e c d (by decide) ⟨kV (kvs[i]).1, H, I1, is_kV hk, ⟨rfl, _, hx, rfl⟩, st', fun b hb => (hf b hb).1⟩⟩
  done := by
    intro X hP hw hK hc i pins s σ H E I hf st hg
    subst hP hw hK
    obtain ⟨ha, hi⟩ := hg
    obtain ⟨ho, hz, hs, vs, r, o', es', ep', e1, e2, e3, e4, e5, e6⟩ := I.hok a _ ha
    rw [ho] at e1; cases e1
    rw [hd] at e3; cases e3
    obtain ⟨f0, f1, f2, f3, f4, f5⟩ := hf it (by simp)
    have st0 : s.heap.IsKeyIter it a i vs.length ep := by rw [← r.length]; exact st
    exact wpAny_pyNext_dict_end (I.ok.hd hc) st0 ⟨o, es, ho, e2, hd, e4, e5, e6⟩ (List.getElem?_eq_none (by rw [← r.length]; exact hi)) fun h' eb => ⟨rfl, I.turned (t' := s.toks) (fun b o hb e => eb b o hb e) f0 f1 f3 f4 f5⟩
  self := fun _ _ _ _ _ st h => wpAny_pyIter_keyiter st h
def iDic (tl : TE) : TI := fun σ H R => tl σ H fun x H1 => ∃ a kvs, x = .ref a ∧ H1 a = some (.dK kvs) ∧ ∀ o, R (Itd a o kvs) (upd H1 a (.frz o (.dK kvs)))
theorem pi_dict {tg l : Expr} {tl : TE} (hl : PE X l tl) : PI X tg l (iDic tl) := by
  intro pins s σ H R I h
  refine thn (hl pins s σ H _ I h) fun v s1 ⟨x, H1, I1, r1, q1⟩ => ?_
  obtain ⟨a, kvs, e, ha, q⟩ := q1
  subst e
  cases r1
  obtain ⟨hz, hs, vs, r, o, es, ep, e1, e2, e3, e4, e5, e6⟩ := dk_of I1.hok ha
  have I2 : Inv X pins σ (upd H1 a (.frz o (.dK kvs))) s1 := I1.freeze ha True.intro e1
  refine wpAny_pyIter_dict hs ⟨o, es, e1, e2, e3, e4, e5, e6⟩ ?_
  refine ⟨s1.heap.objs.size, [s1.heap.objs.size], _, _, _, rfl, I2.kept (t' := s1.toks) fun b o e => Heap.get?_push_of_some _ e, turn_dict a _ o kvs e3, ⟨_, Heap.get?_push_size _ rfl, rfl, by rw [r.length]; rfl⟩, fun b hb => ?_, q o⟩
  have e : b = s1.heap.objs.size := by simpa using hb
  subst e
  exact I2.fpOk (Nat.le_refl _) (I2.hok.fresh (Nat.le_refl _))
end
/-! the forms one uses: Pv speaks of the heap with the dict frozen -/
theorem for_dict {a : Addr} {o : Obj} {kvs : List (Key × V)} {g : TG} {tb : TS} {D : Ends} {σ : St} {H : Hp} (Pv : Nat → St → Hp → Prop) (h0 : Pv 0 σ H) (hl : ∀ i σ H, i ≤ kvs.length → Pv i σ H → H a = some (.frz o (.dK kvs)))
    (hs : ∀ i kv σ H, kvs[i]? = some kv → Pv i σ H → g (kV kv.1) σ H fun σ2 H2 => tb { D with nx := Pv (i + 1), ct := Pv (i + 1), bk := D.nx } σ2 H2) (hd : ∀ σ H, Pv kvs.length σ H → D.nx σ H) :
    ∃ W : Nat → Nat → St → Hp → Prop, (∃ m, W 0 m σ H) ∧ ∀ i m σ H, W i m σ H →
      ((Itd a o kvs).stop i H ∧ D.nx σ H) ∨ ((Itd a o kvs).go i H ∧ ∃ N : St → Hp → Prop, (∀ σ' H', N σ' H' → ∃ m', m' < m ∧ W (i + 1) m' σ' H') ∧ ∀ x H', (Itd a o kvs).yld i H x H' → g x σ H' fun σ2 H2 => tb { D with nx := N, ct := N, bk := D.nx } σ2 H2) := by
  refine ⟨fun i m σ H => m = kvs.length - i ∧ i ≤ kvs.length ∧ Pv i σ H, ⟨kvs.length, by simp, Nat.zero_le _, h0⟩, ?_⟩
  rintro i m σ H ⟨rfl, hi, p⟩
  have q := hl i σ H hi p
  by_cases hlt : i < kvs.length
  · refine .inr ⟨⟨q, hlt⟩, Pv (i + 1), fun σ' H' p' => ⟨kvs.length - (i + 1), by omega, rfl, hlt, p'⟩, fun x H' y => ?_⟩
    obtain ⟨e, kv, hkv, ex⟩ := y
    subst e ex
    exact hs i kv σ _ hkv p
  · have e : i = kvs.length := by omega
    subst e
    exact .inl ⟨⟨q, Nat.le_refl _⟩, hd σ H p⟩
end L2
/-! ### the forms one uses, for a comprehension -/
namespace L2
open PySem PySem.Spec PyProof.Rows
def NextP (n : Nat) (Pv : Nat → Hp → Prop) (i : Nat) (H : Hp) : Prop := ∃ m', m' < n - i ∧ m' = n - (i + 1) ∧ i + 1 ≤ n ∧ Pv (i + 1) H
theorem nextP {n i : Nat} {Pv : Nat → Hp → Prop} {H : Hp} (hi : i < n) (h : Pv (i + 1) H) : NextP n Pv i H := ⟨n - (i + 1), by omega, rfl, hi, h⟩
section
variable {l : Addr} {k : Nat} {g : TG} {tc : TT} {te : TE} {ρ : St} {R : Hp → Prop} {H₀ : Hp}
theorem compG_by {J : It} {n : Nat} (Pv : Nat → Hp → Prop) (h0 : Pv 0 (upd H₀ l (.lst []))) (hgo : ∀ i H, i < n → Pv i H → J.go i H) (hst : ∀ H, Pv n H → J.stop n H)
    (hs : ∀ i x H H', i < n → J.yld i H x H' → Pv i H → ∀ zs : St, zs.length = k → g x (zs ++ ρ) H' fun σ2 H2 => (∃ zs' : St, zs'.length = k ∧ σ2 = zs' ++ ρ) ∧ tc σ2 H2 fun b H3 => if b = true then te σ2 H3 fun y H4 => ∃ ys, H4 l = some (.lst ys) ∧ ys.length < sizeLine ∧ NextP n Pv i (upd H4 l (.lst (ys ++ [y]))) else NextP n Pv i H3)
    (hd : ∀ H, Pv n H → R H) :
    ∃ W : Nat → Nat → Hp → Prop, (∃ m, W 0 m (upd H₀ l (.lst []))) ∧ ∀ i m H, W i m H →
      (J.stop i H ∧ R H) ∨ (J.go i H ∧ ∀ x H', J.yld i H x H' → ∀ zs : St, zs.length = k → g x (zs ++ ρ) H' fun σ2 H2 => (∃ zs' : St, zs'.length = k ∧ σ2 = zs' ++ ρ) ∧ tc σ2 H2 fun b H3 => if b = true then te σ2 H3 fun y H4 => ∃ ys, H4 l = some (.lst ys) ∧ ys.length < sizeLine ∧ ∃ m', m' < m ∧ W (i + 1) m' (upd H4 l (.lst (ys ++ [y]))) else ∃ m', m' < m ∧ W (i + 1) m' H3) := by
  refine ⟨fun i m H => m = n - i ∧ i ≤ n ∧ Pv i H, ⟨n, by simp, Nat.zero_le _, h0⟩, ?_⟩
  rintro i m H ⟨rfl, hi, p⟩
  by_cases hlt : i < n
  · exact .inr ⟨hgo i H hlt p, fun x H' y => hs i x H H' hlt y p⟩
  · have e : i = n := by omega
    subst e
    exact .inl ⟨hst H p, hd H p⟩
theorem compG_list {K : PySem.W.Frag} {a : Addr} {xs : List V} (Pv : Nat → Hp → Prop) (h0 : Pv 0 (upd H₀ l (.lst []))) (hl : ∀ i H, Pv i H → SqL K H a xs)
    (hs : ∀ i x H, xs[i]? = some x → Pv i H → ∀ zs : St, zs.length = k → g x (zs ++ ρ) H fun σ2 H2 => (∃ zs' : St, zs'.length = k ∧ σ2 = zs' ++ ρ) ∧ tc σ2 H2 fun b H3 => if b = true then te σ2 H3 fun y H4 => ∃ ys, H4 l = some (.lst ys) ∧ ys.length < sizeLine ∧ NextP xs.length Pv i (upd H4 l (.lst (ys ++ [y]))) else NextP xs.length Pv i H3)
    (hd : ∀ H, Pv xs.length H → R H) :
    ∃ W : Nat → Nat → Hp → Prop, (∃ m, W 0 m (upd H₀ l (.lst []))) ∧ ∀ i m H, W i m H →
      ((Itl K a).stop i H ∧ R H) ∨ ((Itl K a).go i H ∧ ∀ x H', (Itl K a).yld i H x H' → ∀ zs : St, zs.length = k → g x (zs ++ ρ) H' fun σ2 H2 => (∃ zs' : St, zs'.length = k ∧ σ2 = zs' ++ ρ) ∧ tc σ2 H2 fun b H3 => if b = true then te σ2 H3 fun y H4 => ∃ ys, H4 l = some (.lst ys) ∧ ys.length < sizeLine ∧ ∃ m', m' < m ∧ W (i + 1) m' (upd H4 l (.lst (ys ++ [y]))) else ∃ m', m' < m ∧ W (i + 1) m' H3) :=
  compG_by (n := xs.length) Pv h0 (fun i H hi p => ⟨xs, xs[i], hl i H p, List.getElem?_eq_getElem hi⟩) (fun H p => ⟨xs, hl _ H p, Nat.le_refl _⟩) (fun i x H H' hi y p => by
    obtain ⟨e, y⟩ := y
    subst e
    exact hs i x _ (y xs (hl i _ p)) p) hd
theorem compG_range {lo : Int} {n : Nat} (Pv : Nat → Hp → Prop) (h0 : Pv 0 (upd H₀ l (.lst [])))
    (hs : ∀ i H, i < n → Pv i H → ∀ zs : St, zs.length = k → g (.int (lo + i)) (zs ++ ρ) H fun σ2 H2 => (∃ zs' : St, zs'.length = k ∧ σ2 = zs' ++ ρ) ∧ tc σ2 H2 fun b H3 => if b = true then te σ2 H3 fun y H4 => ∃ ys, H4 l = some (.lst ys) ∧ ys.length < sizeLine ∧ NextP n Pv i (upd H4 l (.lst (ys ++ [y]))) else NextP n Pv i H3)
    (hd : ∀ H, Pv n H → R H) :
    ∃ W : Nat → Nat → Hp → Prop, (∃ m, W 0 m (upd H₀ l (.lst []))) ∧ ∀ i m H, W i m H →
      ((Itr lo n).stop i H ∧ R H) ∨ ((Itr lo n).go i H ∧ ∀ x H', (Itr lo n).yld i H x H' → ∀ zs : St, zs.length = k → g x (zs ++ ρ) H' fun σ2 H2 => (∃ zs' : St, zs'.length = k ∧ σ2 = zs' ++ ρ) ∧ tc σ2 H2 fun b H3 => if b = true then te σ2 H3 fun y H4 => ∃ ys, H4 l = some (.lst ys) ∧ ys.length < sizeLine ∧ ∃ m', m' < m ∧ W (i + 1) m' (upd H4 l (.lst (ys ++ [y]))) else ∃ m', m' < m ∧ W (i + 1) m' H3) :=
  compG_by (n := n) Pv h0 (fun i H hi p => hi) (fun H p => Nat.le_refl _) (fun i x H H' hi y p => by
    obtain ⟨e, y⟩ := y
    subst e y
    exact hs i _ hi p) hd
theorem compG_dict {a : Addr} {o : Obj} {kvs : List (Key × V)} (Pv : Nat → Hp → Prop) (h0 : Pv 0 (upd H₀ l (.lst []))) (hl : ∀ i H, Pv i H → H a = some (.frz o (.dK kvs)))
    (hs : ∀ i kv H, kvs[i]? = some kv → Pv i H → ∀ zs : St, zs.length = k → g (kV kv.1) (zs ++ ρ) H fun σ2 H2 => (∃ zs' : St, zs'.length = k ∧ σ2 = zs' ++ ρ) ∧ tc σ2 H2 fun b H3 => if b = true then te σ2 H3 fun y H4 => ∃ ys, H4 l = some (.lst ys) ∧ ys.length < sizeLine ∧ NextP kvs.length Pv i (upd H4 l (.lst (ys ++ [y]))) else NextP kvs.length Pv i H3)
    (hd : ∀ H, Pv kvs.length H → R H) :
    ∃ W : Nat → Nat → Hp → Prop, (∃ m, W 0 m (upd H₀ l (.lst []))) ∧ ∀ i m H, W i m H →
      ((Itd a o kvs).stop i H ∧ R H) ∨ ((Itd a o kvs).go i H ∧ ∀ x H', (Itd a o kvs).yld i H x H' → ∀ zs : St, zs.length = k → g x (zs ++ ρ) H' fun σ2 H2 => (∃ zs' : St, zs'.length = k ∧ σ2 = zs' ++ ρ) ∧ tc σ2 H2 fun b H3 => if b = true then te σ2 H3 fun y H4 => ∃ ys, H4 l = some (.lst ys) ∧ ys.length < sizeLine ∧ ∃ m', m' < m ∧ W (i + 1) m' (upd H4 l (.lst (ys ++ [y]))) else ∃ m', m' < m ∧ W (i + 1) m' H3) :=
  compG_by (n := kvs.length) Pv h0 (fun i H hi p => ⟨hl i H p, hi⟩) (fun H p => ⟨hl _ H p, Nat.le_refl _⟩) (fun i x H H' hi y p => by
    obtain ⟨e, kv, hkv, ex⟩ := y
    subst e ex
    exact hs i kv _ hkv p) hd
end
/-- a target that is one name -/
theorem g1 {v : V} {ρ : St} {H : Hp} {Q : St → Hp → Prop} (h : Q (some v :: ρ) H) : ∀ zs : St, zs.length = 1 → gName 0 v (zs ++ ρ) H Q := fun zs hz => by
  match zs, hz with
  | [z], _ => exact h
theorem yes {σ : St} {H : Hp} {A B : Hp → Prop} (h : A H) : tYes σ H (fun b H3 => if b = true then A H3 else B H3) := by
  show if true = true then A H else B H
  rw [if_pos rfl]
  exact h
end L2
/-! ### for k, v in d.items() -/
namespace L2
open PySem PySem.Spec PyProof.Rows
section
variable {X : Cx}
def Iti (a : Addr) (o : Obj) (kvs : List (Key × V)) : It :=
  ⟨fun i H => H a = some (.frz o (.dK kvs)) ∧ i < kvs.length, fun i H x H' => ∃ kv t, kvs[i]? = some kv ∧ H t = none ∧ x = .ref t ∧ H' = upd H t (.tup [kV kv.1, kv.2]), fun i H => H a = some (.frz o (.dK kvs)) ∧ kvs.length ≤ i⟩
def iItems (to : TE) : TI := fun σ H R => to σ H fun x H1 => ∃ a kvs, x = .ref a ∧ H1 a = some (.dK kvs) ∧ ∀ o, R (Iti a o kvs) (upd H1 a (.frz o (.dK kvs)))
end
end L2
/-! ### list(d), list(d.values()) -/
namespace L2
open PySem PySem.Spec PyProof.Rows
theorem vals_idx : ∀ {xs : List V} {us : List Value}, xs.length = us.length → (∀ (j : Nat) (x : V) (u : Value), xs[j]? = some x → us[j]? = some u → RelV x u) → Vals xs us
  | [], [], _, _ => .nil
  | [], _ :: _, h, _ => by cases h
  | _ :: _, [], h, _ => by cases h
  | x :: xs, u :: us, h, k => .cons (k 0 x u rfl rfl) (vals_idx (Nat.succ.inj h) fun j y w a b => k (j + 1) y w (by simpa using a) (by simpa using b))
section
variable {X : Cx}
theorem call_list_dict (hh : X.A.handled = none) : CallR X (.type "list") (fun xs H Q => ∃ p kvs, xs = [.ref p] ∧ Rd H p (.dK kvs) ∧ ∀ l, H l = none → Q (.ref l) (upd H l (.lst (kvs.map fun kv => kV kv.1)))) := by
  intro pins s σ H xs us Q I r h
  obtain ⟨p, kvs, rfl, hp, q⟩ := h
  obtain ⟨u, rfl, rx⟩ := vals1 r
  cases rx
  obtain ⟨hz, hs, vs, kv, hD⟩ := dk_rd I.hok hp
  obtain ⟨ep, hat⟩ := hD.dictAt
  have el := kv.length
  refine PySem.W.kdl_call (PySem.W.kdl_dict (knd := mixKind X.prog X.w) (kvs := vs) (ep := ep) hs) hh hat (by rw [← el]; exact hz) fun h' tk acc c hk hD' hacc => ?_
  obtain ⟨e1, e2⟩ := hacc
  refine ⟨.ref s.heap.objs.size, _, I.laid (t' := tk) hk (Nat.le_refl _) (show ObjOk X.prog X.w _ h' _ (.lst (kvs.map fun kv => kV kv.1)) from ⟨by rw [List.length_map]; exact hz, acc.toList, c, vals_idx (by rw [List.length_map, el, ← e1]; simp) fun j x w a b => ?_, by simpa using hD'⟩), rfl, q _ (I.hok.fresh (Nat.le_refl _))⟩
  rw [List.getElem?_map] at a
  cases e : kvs[j]? with
  | none => rw [e] at a; cases a
  | some z =>
    rw [e] at a
    cases a
    obtain ⟨v, hv, _⟩ := KV.get kv e
    obtain ⟨k, y, hk, hi⟩ := e2 j w (by simpa using b)
    rw [hv] at hk
    cases hk
    exact is_kV hi
/-- the values of the dict at d, looked at from v -/
def ViewO (v d : Addr) : HO := .ext fun h => h.IsValuesView v d
def rValues : V → List V → Hp → VK → Prop := fun x vs H Q => ∃ a kvs, x = .ref a ∧ vs = [] ∧ Rd H a (.dK kvs) ∧ ∀ v, H v = none → Q (.ref v) (upd H v (ViewO v a))
end
end L2
/-! ### plans: dict(d), d.clear(), comprehensions over d.items() -/
namespace L2
open PySem PySem.Spec PyProof.Rows
section
variable {X : Cx}
theorem call_dict_copy : CallR X (.type "dict") (fun xs H Q => ∃ p kvs, xs = [.ref p] ∧ Rd H p (.dK kvs) ∧ ∀ l, H l = none → Q (.ref l) (upd H l (.dK kvs))) := by
  intro pins s σ H xs us Q I r h
  obtain ⟨p, kvs, rfl, hp, q⟩ := h
  obtain ⟨u, rfl, rx⟩ := vals1 r
  cases rx
  exact d_copyOf I hp fun l s' nl I' => ⟨.ref l, _, I', rfl, q l nl⟩
def rDClear : V → List V → Hp → VK → Prop := fun x vs H Q => ∃ a kvs, x = .ref a ∧ vs = [] ∧ H a = some (.dK kvs) ∧ Q .non (upd H a (.dK []))
end
section
variable {l : Addr} {k : Nat} {g : TG} {tc : TT} {te : TE} {ρ : St} {R : Hp → Prop} {H₀ : Hp}
end
section
variable {X : Cx} {CX : CXT} {j : Nat} {E : XK} {m : Str} {pos apos : Pos} {e o : Expr} {es : List Expr} {ta : TE} {t : TA}
theorem pe_mtDK {pl : Sem Bool} {P : Program} {w : World} {K : PySem.W.Frag} {mg : Str → Option Value} {base : Heap} (hP : X.prog = P) (hw : X.w = w) (hK : X.K = K) (hmg : X.mg = mg) (hb : X.base = base) (he : PE X o ta) (hr : Room j X.A) (hx : Passes CX X E) (ha : PA X (e :: es) t)
    (hst : starEach (e :: es) X.env = (false, eval e X.env) :: starEach es X.env := by rfl) (hpl : (backTo pos (starEach es X.env)).any (·.1) = false := by rfl)
    (ht : eval (.Call (.Attribute o m apos) (e :: es) [] pos) X.env = (do
      let ov ← eval o X.env
      standAt apos.atName
      let (f, first) ← holding [ov] (getMethod ov m pl)
      callWith pos f first (backTo pos (starEach (e :: es) X.env)) (backToKw pos (keywordEach [] X.env))) := by rfl) : PE X (.Call (.Attribute o m apos) (e :: es) [] pos) (tMethD P w K mg base CX m j E ta t) := by
  subst hP hw hK hmg hb
  exact pe_mtD he hr hx ha hst hpl ht
end
section
variable {X : Cx}
end
end L2
/-! ### zip of two lists -/
namespace L2
open PySem PySem.Spec PyProof.Rows
section
variable {X : Cx}
def Itz (K : PySem.W.Frag) (a b : Addr) (xs ys : List V) : It :=
  ⟨fun i H => SqL K H a xs ∧ SqL K H b ys ∧ i < xs.length ∧ i < ys.length, fun i H v H' => ∃ x y t, xs[i]? = some x ∧ ys[i]? = some y ∧ H t = none ∧ v = .ref t ∧ H' = upd H t (.tup [x, y]), fun i H => SqL K H a xs ∧ SqL K H b ys ∧ (xs.length ≤ i ∨ ys.length ≤ i)⟩
def iZip (K : PySem.W.Frag) (ta : TA) : TI := fun σ H R => ta σ H fun vs H1 => ∃ a b xs ys, vs = [.ref a, .ref b] ∧ SqL K H1 a xs ∧ SqL K H1 b ys ∧ R (Itz K a b xs ys) H1
end
section
variable {l : Addr} {k : Nat} {g : TG} {tc : TT} {te : TE} {ρ : St} {R : Hp → Prop} {H₀ : Hp}
end
end L2
/-! ### list.index of a text; a set of texts that differ, its size -/
namespace L2
open PySem PySem.Spec PyProof.Rows
theorem eqV_str (x y : Str) : eqV (.str x) (.str y) = decide (x = y) := by
  unfold eqV
  by_cases h : x = y
  · subst h; simp
  · simp [h]
theorem flat_strs (ts : List Str) : (ts.map V.str).all flatV = true := by
  rw [List.all_eq_true]
  intro v hv
  obtain ⟨t, _, rfl⟩ := List.mem_map.mp hv
  rfl
theorem ne_idx {y : Str} : ∀ {ts : List Str} {m : Nat}, m < ts.idxOf y → ts[m]? ≠ some y
  | [], _, _ => by simp
  | t :: ts, m, h => by
    rw [List.idxOf_cons] at h
    by_cases e : t = y
    · simp [e] at h
    · have hb : (t == y) = false := by simpa using e
      rw [hb] at h
      cases m with
      | zero => simpa using e
      | succ m => simpa using ne_idx (ts := ts) (m := m) (by simpa using h)
section
variable {X : Cx}
def rIndexT (K : PySem.W.Frag) : V → List V → Hp → VK → Prop := fun x vs H Q => ∃ (l : Addr) (ts : List Str) (y : Str), x = .ref l ∧ vs = [.str y] ∧ SqL K H l (ts.map V.str) ∧ y ∈ ts ∧ Q (.int (ts.idxOf y : Nat)) H
end
section
variable {prog : Program} {w : World} {A : Around}
variable {E : Value → Shared → Prop} {s : Shared}
/-- the new set's object, empty -/
def freshSet (led : Bool) : Obj := { cls := .type "set", dict := none, data := .set #[] 0 (.fresh 0 0 led) }
end
section
variable {X : Cx}
/-- a set of texts -/
def SetT (P : Program) (w : World) (p : Addr) (ts : List Str) : HO := .ext fun h => h.SetOf (PySem.strKind P w) p (fun x => decide (x ∈ ts)) ts.length
def rNeL (K : PySem.W.Frag) : R2 := fun x y H Q => ∃ p q xs ys, x = .ref p ∧ y = .ref q ∧ SqL K H p xs ∧ SqL K H q ys ∧ xs.all flatV = true ∧ ys.all flatV = true ∧ Q (.bl (!eqVs xs ys)) H
end
end L2
/-! ### tuples of plain values: ==, != -/
namespace L2
open PySem PySem.Spec PyProof.Rows
section
variable {X : Cx}
theorem tup_all {xs ys : List V} {us ws : List Value} (e1 : xs.length = us.length) (e2 : ys.length = ws.length) : ((List.range (min us.toArray.size ws.toArray.size)).all (eqAtJ xs ys) && us.toArray.size == ws.toArray.size) = eqVs xs ys := by
  rw [List.size_toArray, List.size_toArray, ← e1, ← e2]
  by_cases hl : xs.length = ys.length
  · rw [← hl, Nat.min_self, eqVs_all hl]
    simp
  · rw [eqVs_len hl]
    simp [hl]
theorem tup_eqs {pins : List (Addr × Obj)} {σ : St} {H : Hp} {s : Shared} {xs ys : List V} {us ws : List Value} (I : Inv X pins σ H s) (r : Vals xs us) (r' : Vals ys ws) (fx : xs.all flatV = true) (fy : ys.all flatV = true) {A : Around} : ∀ j (h1 : j < us.toArray.size) (h2 : j < ws.toArray.size), SeqAt.EqAt A s us.toArray[j] ws.toArray[j] (eqAtJ xs ys j) := fun j h1 h2 => by
  have e1 := r.length
  have e2 := r'.length
  have j1 : j < us.length := by simpa using h1
  have j2 : j < ws.length := by simpa using h2
  have a1 : xs[j]? = some (xs[j]'(by omega)) := List.getElem?_eq_getElem _
  have a2 : ys[j]? = some (ys[j]'(by omega)) := List.getElem?_eq_getElem _
  have : eqAtJ xs ys j = eqV (xs[j]'(by omega)) (ys[j]'(by omega)) := by unfold eqAtJ; rw [a1, a2]
  rw [this, List.getElem_toArray, List.getElem_toArray]
  exact eqAt_V (vals_at r a1 (List.getElem?_eq_getElem j1)) (vals_at r' a2 (List.getElem?_eq_getElem j2)) (List.all_eq_true.mp fx _ (List.getElem_mem _)) (List.all_eq_true.mp fy _ (List.getElem_mem _))
def rEqT (K : PySem.W.Frag) : R2 := fun x y H Q => ∃ p q xs ys, x = .ref p ∧ y = .ref q ∧ SqT K H p xs ∧ SqT K H q ys ∧ xs.all flatV = true ∧ ys.all flatV = true ∧ Q (.bl (eqVs xs ys)) H
def rNeT (K : PySem.W.Frag) : R2 := fun x y H Q => ∃ p q xs ys, x = .ref p ∧ y = .ref q ∧ SqT K H p xs ∧ SqT K H q ys ∧ xs.all flatV = true ∧ ys.all flatV = true ∧ Q (.bl (!eqVs xs ys)) H
theorem op_neT (hu : X.A.units < cLine) : OpR X (compareOp .NotEq) (rNeT X.K) := by
  intro pins s σ H x y v u Q I rx ry h
  obtain ⟨p, q, xs, ys, rfl, rfl, hp, hq, fx, fy, k⟩ := h
  cases rx
  cases ry
  obtain ⟨us, r, pl, _⟩ := I.tuple hp
  obtain ⟨ws, r', pl', _⟩ := I.tuple hq
  refine SeqAt.RcNeAt.tuples (e := eqAtJ xs ys) pl pl' hu (tup_eqs I r r' fx fy) X.prog X.w X.xe _ ⟨.bl _, H, I, rfl, ?_⟩
  rw [tup_all r.length r'.length]
  exact k
end
end L2
/-! ### a def that is called while an exception is handled -/
namespace L2
open PySem PySem.Spec PyProof.Rows
structure RoomH (k : Nat) (A : Around) : Prop where
  dp : A.depth + 3 * k + 5 < recursionLimit
  un : A.units + 16 * k + 200 < cLine
structure FnOkH (P : Program) (w : World) (K : PySem.W.Frag) (mg : Str → Option Value) (base : Heap) (CX : CXT) (k : Nat) (f : Addr) (fd : FuncData) (ps : List Str) (sp : Sp) : Prop where
  len : ∀ vs H Q E, sp vs H Q E → vs.length = ps.length
  run : ∀ (A : Around) (outer : List Env) (s : Shared) (H : Hp) (args : Args) (us : List Value) (vs : List V) (Q : VK) (E : XK), RoomH k A → Env0 P w K mg base A outer s H → BindsTo s fd args (ps.zip us) → Vals vs us → sp vs H Q E →
    codeAny (model P w) A (.call (.ref f) args) (CR CX outer P w H s Q E) s
/-- an exception may be under way -/
abbrev Cx.rough (X : Cx) : Cx := { X with calm := false }
section
variable {P : Program} {w : World} {K : PySem.W.Frag} {mg : Str → Option Value} {base : Heap}
def FnBH (P : Program) (w : World) (K : PySem.W.Frag) (mg : Str → Option Value) (base : Heap) (CX : CXT) (x : Str) (k : Nat) (ps : List Str) (sp : Sp) : Prop :=
  ∃ f fd, mg x = some (.ref f) ∧ PySem.W.keepIn K (.ref f) = true ∧ Binds K fd ps [] ∧ FnOkH P w K mg base CX k f fd ps sp
end
section
variable {X : Cx} {CX : CXT} {k j : Nat} {f : Addr} {fd : FuncData} {ps : List Str} {sp : Sp} {dvs : List V} {ds : List Value} {E : XK} {x : Str} {p pos : Pos} {e : Expr} {es : List Expr} {t : TA}
end
end L2
namespace L2
open PySem PySem.Spec PyProof.Rows
section
variable {X : Cx}
/-- caught.f within a handler -/
theorem pe_xfldK {K : PySem.W.Frag} {e : Expr} {f : Str} {pos : Pos} {ta : TE} (hK : X.K = K) (he : PE X e ta) (hb : attributeBase e f X.env (eval e X.env) = eval e X.env) : PE X (.Attribute e f pos) (tXf K ta f) := by
  subst hK
  exact pe_xfld he hb
end
end L2
namespace L2
open PySem PySem.Spec PyProof.Rows
section
variable {X : Cx}
variable {j : Nat} {m : Str} {pos apos : Pos} {e o : Expr} {es : List Expr} {ta : TE} {t : TA}
end
end L2
/-! ### d.pop(k, x); tuples of a text and a pair: == -/
namespace L2
open PySem PySem.Spec PyProof.Rows
section
variable {X : Cx}
def rDPop : V → List V → Hp → VK → Prop := fun x vs H Q => ∃ a kvs k dv, x = .ref a ∧ vs = [kV k, dv] ∧ H a = some (.dK kvs) ∧ (∀ v, valV kvs k = some v → Q v (upd H a (.dK (dropK kvs k)))) ∧ (valV kvs k = none → Q dv H)
def rEqX (K : PySem.W.Frag) : R2 := fun x y H Q => ∃ p q s1 s2 r1 r2 a b c d, x = .ref p ∧ y = .ref q ∧ SqT K H p [.str s1, .ref r1] ∧ SqT K H q [.str s2, .ref r2] ∧ SqT K H r1 [.int a, .int b] ∧ SqT K H r2 [.int c, .int d] ∧ (r1 = r2 → a = c ∧ b = d) ∧ Q (.bl (eqV (.str s1) (.str s2) && eqVs [.int a, .int b] [.int c, .int d])) H
theorem call_isXDK {K : PySem.W.Frag} {c : Value} (hK : X.K = K) : CallR X (.builtin "isinstance") (rIsXD K c) := by
  subst hK
  exact call_isXD
end
end L2
/-! ### list(range(..)), None in a list of tuples -/
namespace L2
open PySem PySem.Spec PyProof.Rows
def rngV (a : Int) (n : Nat) : List V := (List.range n).map fun (i : Nat) => V.int (a + (i : Int))
/-- the range from a on, b not in it, at r -/
def RngO (r : Addr) (a b : Int) : HO := .ext fun h => ∃ t u v, IsRange h r a b 1 t u v
section
variable {X : Cx}
theorem call_rng1 : CallR X (.type "range") (fun xs H Q => ∃ n, xs = [.int n] ∧ ∀ r, H r = none → Q (.ref r) (upd H r (RngO r 0 n))) := by
  intro pins s σ H xs us Q I r h
  obtain ⟨n, rfl, q⟩ := h
  obtain ⟨u, rfl, t, rfl⟩ := vals1 r
  have e := IsRange.new s.heap 0 n 1 s.toks t (s.toks + 1)
  refine call_range_1 ⟨.ref s.heap.objs.size, _, I.laid (t' := s.toks + 1 + 1) (fun b o e => Heap.get?_push_of_some _ e) (Nat.le_refl _) (show ObjOk X.prog X.w _ _ _ (RngO _ 0 n) from ⟨⟨_, _, _, e⟩, ⟨_, e⟩, fun h1 h2 z k => ?_⟩), rfl, q _ (I.hok.fresh (Nat.le_refl _))⟩
  obtain ⟨t1, t2, t3, ho⟩ := z
  exact ⟨t1, t2, t3, k _ ho⟩
/-- None in a list whose items are tuples -/
def rInNT (K : PySem.W.Frag) : R2 := fun x y H Q => ∃ p xs, x = .non ∧ y = .ref p ∧ SqL K H p xs ∧ (∀ v ∈ xs, ∃ t ys, v = .ref t ∧ SqT K H t ys) ∧ Q (.bl false) H
end
end L2
/-! ### a def handed in, called; reversed(range(n)) -/
namespace PySem
namespace F
theorem sub_rgi_reversed : isSubtype (.type "range_iterator") (.type "reversed") = pure false := by rw [isSubtype_type]; kernel_rfl
end F
section
variable {prog : Program} {w : World} {A : Around} {E : Value → Shared → Prop} {s : Shared}
def revRng (n : Nat) : Obj := { cls := .type "range_iterator", data := .fields #[rawInt ((n : Int) - 1), rawInt (n : Int), rawInt (-1)] }
theorem rng_small {n : Nat} (hn : n < 2 ^ 61) : (Builtin.Range.rangeFitsLong 0 && Builtin.Range.rangeFitsLong (n : Int) && Builtin.Range.rangeFitsLong 1 && Builtin.Range.rangeFitsLong (-1) && Builtin.Range.rangeFitsLong (0 - 1) && Builtin.Range.rangeFitsLong (Builtin.Range.rangeSize 0 (n : Int) 1)) = true := by
  rw [rangeSize_one]
  simp only [Builtin.Range.rangeFitsLong, Bool.and_eq_true, decide_eq_true_eq]
  split <;> omega
theorem rng_rev_any (r : Addr) (a b c : Int) (t u v : Tok) (hc0 : ¬ (!(Builtin.Range.rangeFitsLong a && Builtin.Range.rangeFitsLong b && Builtin.Range.rangeFitsLong c && Builtin.Range.rangeFitsLong (-c) && Builtin.Range.rangeFitsLong (a - c) && Builtin.Range.rangeFitsLong (Builtin.Range.rangeSize a b c))) = true) :
    Meets (Builtin.«range.__reversed__» ⟨[.ref r], []⟩) (fun _ R s => s.heap.get? r = some { cls := .type "range", dict := none, data := .fields #[.int a t, .int b u, .int c v], slots := #[] } ∧ R (.ok (.ret (Value.ref s.heap.objs.size))) { s with heap := s.heap.push { cls := Value.type (if (Builtin.Range.rangeFitsLong a && Builtin.Range.rangeFitsLong b && Builtin.Range.rangeFitsLong c && Builtin.Range.rangeFitsLong (-c) && Builtin.Range.rangeFitsLong (a - c) && Builtin.Range.rangeFitsLong (Builtin.Range.rangeSize a b c)) = true then "range_iterator" else "longrange_iterator"), data := .fields #[rawInt (a + (Builtin.Range.rangeSize a b c - 1) * c), rawInt (Builtin.Range.rangeSize a b c), rawInt (-c)] } }) :=
  .of_wp fun prog w A R s h => by obtain ⟨hp, g, d, tk, os⟩ := s; obtain ⟨hl, h⟩ := h; wp_walk; exact ⟨_, rfl, h⟩
theorem call_range_reversed {r : Addr} {n : Nat} {t u v : Tok} {Q : Value → Shared → Prop} (hr : IsRange s.heap r 0 (n : Int) 1 t u v) (hn : n < 2 ^ 61)
    (h : Q (.ref s.heap.objs.size) { s with heap := s.heap.push (revRng n) }) : wpAny (model prog w) A (call (.builtin "range.__reversed__") [.ref r]) Q E s := by
  have hT : s.TypeIs (.ref r) "range" := ⟨_, hr, rfl⟩
  have hs := rng_small hn
  have hz : Builtin.Range.rangeSize 0 (n : Int) 1 = n := by rw [rangeSize_one]; split <;> omega
  refine call_meets F.slot_range_reversed hT F.entry_range_reversed (F.args_range_reversed_1 _) (rng_rev_any r 0 (n : Int) 1 t u v (by rw [hs]; decide)) ⟨hr, ?_⟩
  rw [if_pos hs, hz, show (0 : Int) + ((n : Int) - 1) * 1 = (n : Int) - 1 by omega]
  exact h
end
end PySem
namespace L2
open PySem PySem.Spec PyProof.Rows
/-- a def as a value, and what it promises -/
def FnV (P : Program) (w : World) (K : PySem.W.Frag) (mg : Str → Option Value) (base : Heap) (CX : CXT) (f : Addr) (k : Nat) (ps : List Str) (sp : Sp) : Prop :=
  ∃ fd, PySem.W.keepIn K (.ref f) = true ∧ Binds K fd ps [] ∧ FnOk P w K mg base CX k f fd ps sp
theorem FnB.val {P : Program} {w : World} {K : PySem.W.Frag} {mg : Str → Option Value} {base : Heap} {CX : CXT} {x : Str} {k : Nat} {ps : List Str} {sp : Sp} (h : FnB P w K mg base CX x k ps sp) : ∃ f, mg x = some (.ref f) ∧ FnV P w K mg base CX f k ps sp := let ⟨f, fd, a, b, c, d⟩ := h; ⟨f, a, fd, b, c, d⟩
inductive ItLoc (P : Program) (w : World) (K : PySem.W.Frag) (mg : Str → Option Value) (base : Heap) (CX : CXT) (i k : Nat) (ps : List Str) (E : XK) (t : TA) (σ : St) (H : Hp) (Q : VK) : Prop
  | mk (f : Addr) (sp : Sp) (h1 : σ[i]? = some (some (.ref f))) (h2 : FnV P w K mg base CX f k ps sp) (h3 : t σ H fun vs H1 => sp vs H1 Q E) : ItLoc P w K mg base CX i k ps E t σ H Q
section
variable {X : Cx} {CX : CXT} {k j i : Nat} {ps : List Str} {E : XK} {x : Str} {p pos : Pos} {e : Expr} {es : List Expr} {t : TA} {tg : Expr}
def tLoc (X : Cx) (CX : CXT) (i k : Nat) (ps : List Str) (E : XK) (t : TA) : TE := fun σ H Q => ItLoc X.prog X.w X.K X.mg X.base CX i k ps E t σ H Q
theorem pe_fnL (hN : X.N[i]? = some x) (hv : Vis X.env.scope x) (hr : Room j X.A) (hx : Passes CX X E) (ha : PA X (e :: es) t) (hj : k ≤ j := by decide) (hd : (x == ("__debug__" : Str)) = false := by decide) (hcd : (x == ("__classdict__" : Str)) = false := by decide)
    (he : starEach (e :: es) X.env = (false, eval e X.env) :: starEach es X.env := by rfl) (hpl : (backTo pos (starEach es X.env)).any (·.1) = false := by rfl) : PE X (.Call (.Name x p) (e :: es) [] pos) (tLoc X CX i k ps E t) := by
  intro pins s σ H Q I h
  obtain ⟨f, sp, h1, ⟨fd, hk, hb, F⟩, h3⟩ := h
  refine wpAny_Call_Name_kw (thn (pe_var (pos := p) hN hv hd hcd pins s σ H (fun v H' => v = .ref f ∧ t σ H' fun vs H1 => sp vs H1 Q E) I ⟨_, h1, rfl, h3⟩) fun u s1 ⟨v, H1, I1, r1, q1⟩ => ?_)
  obtain ⟨rfl, h3⟩ := q1
  cases r1
  refine PySem.W.callWith_K (h₀ := X.base) I1.ok.mod.kin hk (thn (ha pos pins s1 σ H1 _ I1 h3) fun us s2 ⟨vs, H2, I2, r, q⟩ => ⟨I2.kIn, ?_⟩) he hpl
  exact run_fn F (hr.mono hj) hb .nil hx I2 r (by rw [List.append_nil]; exact q)
/-- the numbers from n - 1 down to 0 -/
def ItDn (n : Nat) : It := ⟨fun i _ => i < n, fun i H x H' => H' = H ∧ x = .int ((n : Int) - 1 - i), fun i _ => n ≤ i⟩
theorem turn_down {P : Program} {w : World} {K : PySem.W.Frag} {tg : Expr} (it : Addr) (n : Nat) : Turn P w K tg (ItDn n) [it] it (fun i h => IsRangeIter h it (((n : Int) - 1) + (i : Nat) * (-1)) ((n : Int) - (i : Nat)) (-1)) where
  mem := by simp
  obj := fun i h st b hb => by
    have e : b = it := by simpa using hb
    subst e
    exact ⟨_, st, fun v z => by
      have z' : Data.fields _ = Data.cell v := z
      cases z'⟩
  keep := fun i h h' st k => k it (by simp) _ st
  item := by
    intro X hP hw hK hc i pins s σ H E I hf st hg
    subst hP hw hK
    obtain ⟨f0, f1, f2, f3, f4, f5⟩ := hf it (by simp)
    have W := Walks.range (prog := X.prog) (w := X.w) (I.ok.hd hc) it ((n : Int) - 1) (-1) n
    refine W.item i s _ _ hg st fun v h' tk hv st' kk => ?_
    obtain ⟨t, rfl⟩ := hv
    have I1 : Inv X pins σ H { s with heap := h', toks := tk } := I.turned (fun b o hb e => kk b o (by simpa using hb) e) f0 f1 f3 f4 f5
    refine ⟨_, rfl, go_of (s := { s with heap := h', toks := tk }) (n := "range_iterator") st' rfl rfl (by decide) ⟨.int ((n : Int) - 1 - i), H, I1, ⟨t, ?_⟩, ⟨rfl, rfl⟩, st', fun b hb => (hf b hb).1⟩⟩
    rw [show (n : Int) - 1 + (i : Int) * -1 = (n : Int) - 1 - i by omega]
  done := by
    intro X hP hw hK hc i pins s σ H E I hf st hg
    subst hP hw hK
    obtain ⟨f0, f1, f2, f3, f4, f5⟩ := hf it (by simp)
    exact wpAny_pyNext_range_end (I.ok.hd hc) st (by have : n ≤ i := hg; omega) fun h' eb => ⟨rfl, I.turned (t' := s.toks) (fun b o hb e => eb b o hb e) f0 f1 f3 f4 f5⟩
  self := fun _ _ _ _ _ st h => wpAny_pyIter_rangeiter st h
theorem code_reversed_rng {prog : Program} {w : World} {A : Around} {E : Value → Shared → Prop} {s : Shared} {r : Addr} {n : Nat} {t u v : Tok} {Q₁ : Value → Shared → Prop} (hr : IsRange s.heap r 0 (n : Int) 1 t u v) (hn : n < 2 ^ 61)
    (h : Q₁ (.ref s.heap.objs.size) { s with heap := s.heap.push (revRng n) }) :
    codeAny (model prog w) A (.call (.builtin "reversed.__new__") ⟨[.type "reversed", .ref r], []⟩) (wants Q₁ E) s := by
  have hT : s.TypeIs (.ref r) "range" := ⟨_, hr, rfl⟩
  refine codeAny_of_tree ?_
  show wpAny _ A.in1 (do checkBuiltinCall "reversed.__new__" ⟨[.type "reversed", .ref r], []⟩; again (.builtin "reversed.__new__" ⟨[.type "reversed", .ref r], []⟩)) _ _ s
  refine wpAny_bind (wpAny_of_eq (F.newCall_reversed_1 _) (wpAny_pure ⟨plainId_quiet F.plain_reversed_new _, codeAny_builtin F.entry_reversed_new ?_⟩))
  rw [Around.under_plainId F.plain_reversed_new _]
  unfold Builtin.«reversed.__new__»
  refine wpAny_bind (wpAny_of_eq (newClass_reversed _) ?_)
  try dsimp only
  refine wpAny_bind (wpAny_of_eq (a := ()) (by first | rfl | kernel_rfl) ?_)
  refine wpAny_bind (wpAny_of_eq (a := ()) (by first | rfl | kernel_rfl) ?_)
  try dsimp only
  refine wpAny_bind (wpAny_specialOf hT F.slot_range_reversed.lookup ?_)
  try dsimp only
  refine wpAny_bind (wpAny_of_eq (F.slot_range_reversed.bind _) ?_)
  try dsimp only
  first
  | rw [if_neg (show ¬ ((Value.builtin "range.__reversed__" == Value.none) = true) from Bool.false_ne_true)]
  | (show wpAny _ _ (if (Value.builtin "range.__reversed__" == Value.none) = true then _ else _) _ _ _; rw [if_neg (show ¬ ((Value.builtin "range.__reversed__" == Value.none) = true) from Bool.false_ne_true)])
  refine wpAny_bind (wpAny_rule ?_)
  refine wpAny_bind (m := runValue (.call (.builtin "range.__reversed__") ⟨[.ref r], []⟩)) (show wpAny _ _ (call (.builtin "range.__reversed__") [.ref r]) _ _ _ from call_range_reversed hr hn ?_)
  first
  | exact wpAny_pure h
  | exact wpAny_bind (wpAny_pure (wpAny_pure h))
theorem call_reversed_rng {prog : Program} {w : World} {A : Around} {E : Value → Shared → Prop} {s : Shared} {r : Addr} {n : Nat} {t u v : Tok} {Q : Value → Shared → Prop} (hr : IsRange s.heap r 0 (n : Int) 1 t u v) (hn : n < 2 ^ 61)
    (h : Q (.ref s.heap.objs.size) { s with heap := s.heap.push (revRng n) }) : wpAny (model prog w) A (call (.type "reversed") [.ref r]) Q E s := by
  refine callType_other (U := "range_iterator") (Q₁ := fun obj s₁ => obj = .ref s.heap.objs.size ∧ s₁ = { s with heap := s.heap.push (revRng n) }) (by decide +kernel) F.create_reversed ⟨_, _, F.mro_reversed⟩ F.made_reversed F.sub_rgi_reversed (F.typeCall_reversed_1 _) (code_reversed_rng hr hn ⟨rfl, rfl⟩) ?_
  rintro obj s₁ ⟨rfl, rfl⟩
  exact ⟨⟨_, Heap.get?_push_size _ rfl, rfl⟩, h⟩
inductive IiRev (R : It → Hp → Prop) (vs : List V) (H1 : Hp) : Prop
  | mk (r : Addr) (n : Nat) (h1 : vs = [.ref r]) (h2 : H1 r = some (RngO r 0 (n : Int))) (h3 : n ≤ 1000) (h4 : R (ItDn n) H1) : IiRev R vs H1
def iRev (ta : TA) : TI := fun σ H R => ta σ H fun vs H1 => IiRev R vs H1
theorem pi_rev {a : Expr} {ta : TA} {p pos : Pos} (hg : Gl X "reversed") (hm : X.mg "reversed" = none) (ha : PA X [a] ta) (hs : starEach [a] X.env = [(false, eval a X.env)] := by rfl) : PI X tg (.Call (.Name "reversed" p) [a] [] pos) (iRev ta) := by
  intro pins s σ H R I h
  refine Call_ (ld_blt I hg hm boot_reversed (PyProof.Rows.callWith_type1 (thn (ha pos pins s σ H _ I h) fun us s1 ⟨vs, H1, I1, r1, q1⟩ => ?_) hs rfl))
  obtain ⟨r, n, rfl, hp, hn, q⟩ := q1
  obtain ⟨u, rfl, rx⟩ := vals1 r1
  cases rx
  obtain ⟨⟨t1, t2, t3, hr⟩, _⟩ := (show ObjOk X.prog X.w H1 s1.heap r (RngO r 0 (n : Int)) from I1.hok r _ hp)
  have h61 : (1000 : Nat) < 2 ^ 61 := by decide
  refine call_reversed_rng hr (by omega) ?_
  have st0 : IsRangeIter (s1.heap.push (revRng n)) s1.heap.objs.size (((n : Int) - 1) + ((0 : Nat) : Int) * (-1)) ((n : Int) - ((0 : Nat) : Int)) (-1) := by
    rw [show ((n : Int) - 1) + ((0 : Nat) : Int) * (-1) = (n : Int) - 1 by omega, show (n : Int) - ((0 : Nat) : Int) = (n : Int) by omega]
    exact Heap.get?_push_size _ rfl
  refine wpAny_pyIter_rangeiter st0 ?_
  refine ⟨s1.heap.objs.size, [s1.heap.objs.size], _, _, H1, rfl, I1.kept (t' := s1.toks) fun b o e => Heap.get?_push_of_some _ e, turn_down _ n, st0, fun b hb => ?_, q⟩
  have e : b = s1.heap.objs.size := by simpa using hb
  subst e
  exact I1.fpOk (Nat.le_refl _) (I1.hok.fresh (Nat.le_refl _))
theorem for_down {n : Nat} {g : TG} {tb : TS} {D : Ends} {σ : St} {H : Hp} (Pv : Nat → St → Hp → Prop) (h0 : Pv 0 σ H)
    (hs : ∀ i σ H, i < n → Pv i σ H → g (.int ((n : Int) - 1 - i)) σ H fun σ2 H2 => tb { D with nx := Pv (i + 1), ct := Pv (i + 1), bk := D.nx } σ2 H2) (hd : ∀ σ H, Pv n σ H → D.nx σ H) :
    ∃ W : Nat → Nat → St → Hp → Prop, (∃ m, W 0 m σ H) ∧ ∀ i m σ H, W i m σ H →
      ((ItDn n).stop i H ∧ D.nx σ H) ∨ ((ItDn n).go i H ∧ ∃ N : St → Hp → Prop, (∀ σ' H', N σ' H' → ∃ m', m' < m ∧ W (i + 1) m' σ' H') ∧ ∀ x H', (ItDn n).yld i H x H' → g x σ H' fun σ2 H2 => tb { D with nx := N, ct := N, bk := D.nx } σ2 H2) := by
  refine ⟨fun i m σ H => m = n - i ∧ i ≤ n ∧ Pv i σ H, ⟨n, by simp, Nat.zero_le _, h0⟩, ?_⟩
  rintro i m σ H ⟨rfl, hi, p⟩
  by_cases hlt : i < n
  · refine .inr ⟨hlt, Pv (i + 1), fun σ' H' p' => ⟨n - (i + 1), by omega, rfl, hlt, p'⟩, fun x H' y => ?_⟩
    obtain ⟨e, y⟩ := y
    subst e y
    exact hs i σ _ hlt p
  · have e : i = n := by omega
    subst e
    exact .inl ⟨Nat.le_refl _, hd σ H p⟩
end
end L2
/-! ### list.insert(i, x) -/
namespace L2
open PySem PySem.Spec PyProof.Rows
section
variable {X : Cx}
theorem ins_arr (l : List Value) (k : Nat) (y : Value) : (l.toArray.extract 0 k).push y ++ l.toArray.extract k = (l.take k ++ y :: l.drop k).toArray := by
  apply Array.toList_inj.mp
  simp
  exact List.take_of_length_le (by simp)
def rInsert : V → List V → Hp → VK → Prop := fun x vs H Q => ∃ (l : Addr) (xs : List V) (i : Nat) (y : V), x = .ref l ∧ vs = [.int (i : Int), y] ∧ H l = some (.lst xs) ∧ i ≤ xs.length ∧ xs.length ≤ 900 ∧ Q .non (upd H l (.lst (xs.take i ++ y :: xs.drop i)))
theorem mt_insert : MtM X "list.insert" rInsert := by
  intro pins s σ H x vs v us Q I rx rv h
  obtain ⟨l, xs, i, y, rfl, rfl, hH, hi, hz, q⟩ := h
  cases rx
  obtain ⟨u, w, rfl, ru, rw'⟩ := rv.two
  obtain ⟨t, rfl⟩ := ru
  obtain ⟨z, its, n, r, hl, e⟩ := I.lstM hH
  have hn := r.length
  have fit : Builtin.List.listFitsIndex (i : Int) = true := by
    unfold Builtin.List.listFitsIndex
    simp
    omega
  have hs : its.length ≤ sizeLine := by rw [← hn, PySem.sizeLine_eq]; omega
  obtain ⟨j, hj⟩ : ∃ j : Int, (i : Int) = j := ⟨_, rfl⟩
  rw [hj] at fit ⊢
  have hc : ¬ (!Builtin.List.listFitsIndex j) = true := by rw [fit]; exact Bool.false_ne_true
  have hz2 : its.toArray.size ≤ sizeLine := by rw [List.size_toArray]; exact hs
  refine call_meets PySem.F.slot_list_insert ⟨_, e, rfl⟩ PySem.F.entry_list_insert (PySem.F.args_list_insert_3 _ _ _) (PySem.AutoSeq1.list_insert_list_int_val_1 l its.toArray n j t w hc hz2) ⟨e, ?_⟩
  refine ⟨.non, _, I.lset (its' := its.take i ++ w :: its.drop i) hH e ?_ ((r.take i).append (.cons rw' (r.drop i))) ?_, rfl, q⟩
  · show (its.toArray.extract 0 (if j < 0 then _ else min j.toNat its.toArray.size)).push w ++ its.toArray.extract (if j < 0 then _ else min j.toNat its.toArray.size) = _
    rw [if_neg (by omega), ← hj, Int.toNat_natCast, List.size_toArray, Nat.min_eq_left (by omega)]
    exact ins_arr its i w
  · rw [List.length_append, List.length_cons, List.length_take, List.length_drop, PySem.sizeLine_eq]
    omega
end
end L2
/-! ### a raise out of a comprehension -/
namespace L2
open PySem PySem.Spec PyProof.Rows
/-- a trail whose flight is not told -/
def TrailF (h : Heap) (e : Addr) (vs : Array Value) (T : Addr) : Prop :=
  vs[1]? = some (.ref T) ∧ T ≠ e ∧ ∃ oT ts, h.get? T = some oT ∧ oT.data = .fields ts ∧ 3 < ts.size
structure NotedF (l : List Env) (e : Addr) (oe : Obj) (tr : Option Addr) (h h' : Heap) : Prop where
  exc : ∃ vs' T, h'.get? e = some { oe with data := .fields vs' } ∧ h.objs.size ≤ T ∧ TrailF h' e vs' T
  keep : ∀ b o, b ≠ e → tr ≠ some b → b ∉ l.filterMap (·.frame) → h.get? b = some o → h'.get? b = some o
  slot : ∀ b o, b ≠ e → tr ≠ some b → b ∈ l.filterMap (·.frame) → h.get? b = some o → ∃ sl, h'.get? b = some { o with slots := sl }
structure NotedL (l : List Env) (e : Addr) (oe : Obj) (T : Addr) (h h' : Heap) : Prop where
  exc : ∃ vs' T', h'.get? e = some { oe with data := .fields vs' } ∧ (h.objs.size ≤ T' ∨ T' = T) ∧ Trail h' e vs' (some T')
  keep : ∀ b o, b ≠ e → some T ≠ some b → b ∉ l.filterMap (·.frame) → h.get? b = some o → h'.get? b = some o
  slot : ∀ b o, b ≠ e → some T ≠ some b → b ∈ l.filterMap (·.frame) → h.get? b = some o → ∃ sl, h'.get? b = some { o with slots := sl }
section
variable {M : Model} {A : Around} {E : Value → Shared → Prop} {s : Shared} {base : Heap} {env : Env} {outer : List Env} {L e : Addr} {oe : Obj} {vs : Array Value} {Q : Unit → Shared → Prop}
theorem entry_core1 {head : Value} {hadNext : Bool} (hfr : A.frames = some (env :: outer)) (hl : s.heap.FunFrames base (env :: outer)) (hf : env.frame = some L)
    (he : s.heap.get? e = some oe) (hd : oe.data = .fields vs) (hsz : 1 < vs.size) (h : ∀ h', NotedF (env :: outer) e oe none s.heap h' → Q () { s with heap := h' }) :
    wpAny M A (do let a ← frameOf env; let pl ← entryPlaceOf L hadNext; let b ← EntryCells.newEntry head a .none (rawInt L) .none pl; setField (.ref e) 1 b) Q E s := by
  have ne : ∀ b ∈ (env :: outer).filterMap (·.frame), b ≠ e := fun b hm z => by
    obtain ⟨_, o, ho, hnf⟩ := hl.mem hm
    rw [z, he] at ho
    cases ho
    exact hnf vs hd
  refine wpAny_bind (wpAny_frameOf_fun hfr hl hf fun h₁ hs₁ => wpAny_bind (wpAny_entryPlaceOf fun pl hpl => ?_))
  unfold EntryCells.newEntry newFields
  refine wpAny_bind (wpAny_newObj_type ?_ (hpl.sizeOk5 _ _ _ _ _))
  have a₁ : h₁.get? e = some oe := (hs₁.2.1 e fun hm => ne e hm rfl).trans he
  generalize hot : ({ cls := .type "traceback", dict := none, data := .fields ([head, .ref L, .none, rawInt L, .none] ++ (if pl.isEmpty then List.replicate 6 Value.none else pl)).toArray } : Obj) = ot
  have fr : ot.isFreed = false := by rw [← hot]; rfl
  obtain ⟨ts, hts, h3⟩ : ∃ ts : Array Value, ot.data = .fields ts ∧ 3 < ts.size := by
    refine ⟨_, by rw [← hot], ?_⟩
    simp only [List.size_toArray, List.length_append, List.length_cons, List.length_nil]
    omega
  have a₂ := Heap.get?_push_of_some (h := h₁) ot a₁
  refine wpAny_setField a₂ hd hsz (h _ ?_)
  have nT : h₁.objs.size ≠ e := Nat.ne_of_gt (Heap.lt_size a₁)
  have d₃ := Obj.data_mapFields hd (·.setIfInBounds 1 (Value.ref h₁.objs.size))
  have a₃ := Heap.get?_update_self (Obj.mapFields (·.setIfInBounds 1 (Value.ref h₁.objs.size))) a₂ (Obj.isFreed_of_fields d₃)
  have t₃ := (Heap.get?_update_other (h₁.push ot) (Obj.mapFields (·.setIfInBounds 1 (Value.ref h₁.objs.size))) (Ne.symm nT)).trans (Heap.get?_push_size h₁ fr)
  have old : ∀ b o, b ≠ e → h₁.get? b = some o → ((h₁.push ot).update e (Obj.mapFields (·.setIfInBounds 1 (Value.ref h₁.objs.size)))).get? b = some o := fun b o hb q => by
    rw [Heap.get?_update_other _ _ (Ne.symm hb)]
    exact Heap.get?_push_of_some _ q
  refine ⟨⟨_, h₁.objs.size, by rw [mapFields_eq hd] at a₃; exact a₃, ?_, by simp [hsz], nT, _, _, t₃, hts, h3⟩, fun b o nb _ hb q => ?_, fun b o nb _ hb q => ?_⟩
  · exact Nat.le_of_eq hs₁.1.symm
  · exact old b o nb ((hs₁.2.1 b hb).trans q)
  · obtain ⟨sl, q₁⟩ := hs₁.2.2 b o q
    exact ⟨sl, old b _ nb q₁⟩
theorem noteF_ok {tr : Option Addr} (hfr : A.frames = some (env :: outer)) (hl : s.heap.FunFrames base (env :: outer)) (hf : env.frame = some L)
    (he : s.heap.get? e = some oe) (hd : oe.data = .fields vs) (ht : Trail s.heap e vs tr) (h : ∀ h', NotedF (env :: outer) e oe tr s.heap h' → Q () { s with heap := h' }) :
    wpAny M A (noteFrame (.ref e) env) Q E s := by
  unfold noteFrame
  simp only [hf]
  cases tr with
  | none =>
    have ht : vs[1]? = some .none := ht
    refine wpAny_bind (wpAny_field he hd ht ?_)
    rw [if_neg (by decide)]
    exact entry_core1 hfr hl hf he hd (Array.getElem?_eq_some_iff.mp ht).1 h
  | some T =>
    obtain ⟨h1, nT, oT, ts, gT, dT, h3⟩ := ht
    refine wpAny_bind (wpAny_field he hd h1 ?_)
    rw [if_pos (show (Value.ref T != Value.none) = true from by simp)]
    refine wpAny_bind (wpAny_field gT dT h3 ?_)
    rw [if_neg (show ¬ ((Value.none == rawInt L) = true) from by simp [rawInt])]
    refine wpAny_bind (wpAny_setField gT dT (Array.getElem?_eq_some_iff.mp h3).1 ?_)
    have oth : ∀ b, b ≠ T → (s.heap.update T (Obj.mapFields (·.setIfInBounds 3 Value.none))).get? b = s.heap.get? b := fun b hb => Heap.get?_update_other _ _ (Ne.symm hb)
    have nr : ∀ b o, s.heap.get? b = some o → (∀ ws, o.data ≠ .fields ws) → b ≠ T := fun b o hb hn q => by
      rw [q, gT] at hb
      cases hb
      exact hn ts dT
    refine entry_core1 hfr (hl.of_keeps fun b o hb hn => ⟨o, (oth b (nr b o hb hn)).trans hb, rfl⟩) hf ((oth e (Ne.symm nT)).trans he) hd (Array.getElem?_eq_some_iff.mp h1).1 fun h' N => h h' ⟨?_, ?_, ?_⟩
    · obtain ⟨vs', T', q1, q3, q4⟩ := N.exc
      exact ⟨vs', T', q1, by rw [Heap.size_after_update] at q3; exact q3, q4⟩
    · intro b o nb nt hb q
      exact N.keep b o nb (by intro z; cases z) hb ((oth b fun z => nt (by rw [z])).trans q)
    · intro b o nb nt hb q
      exact N.slot b o nb (by intro z; cases z) hb ((oth b fun z => nt (by rw [z])).trans q)
theorem leavingF_ok {T : Addr} (hfr : A.frames = some (env :: outer)) (hl : s.heap.FunFrames base (env :: outer)) (hf : env.frame = some L)
    (he : s.heap.get? e = some oe) (hd : oe.data = .fields vs) (ht : TrailF s.heap e vs T) (h : ∀ h', NotedL (env :: outer) e oe T s.heap h' → Q () { s with heap := h' }) :
    wpAny M A (leaving env (.ref e)) Q E s := by
  unfold leaving
  refine wpAny_bind ?_
  unfold noteFrame
  simp only [hf]
  obtain ⟨h1, nT, oT, ts, gT, dT, h3⟩ := ht
  refine wpAny_bind (wpAny_field he hd h1 ?_)
  rw [if_pos (show (Value.ref T != Value.none) = true from by simp)]
  refine wpAny_bind (wpAny_field gT dT (Array.getElem?_eq_getElem h3) ?_)
  have oth : ∀ b, b ≠ T → (s.heap.update T (Obj.mapFields (·.setIfInBounds 3 Value.none))).get? b = s.heap.get? b := fun b hb => Heap.get?_update_other _ _ (Ne.symm hb)
  by_cases hv : (ts[3] == rawInt L) = true
  · rw [if_pos hv]
    refine wpAny_pure ?_
    unfold setFlight
    refine wpAny_bind (wpAny_field he hd h1 ?_)
    rw [if_pos (show (Value.ref T != Value.none) = true from by simp)]
    refine wpAny_setField gT dT h3 (h _ ?_)
    have t₄ := Heap.get?_update_self (Obj.mapFields (·.setIfInBounds 3 Value.none)) gT (Obj.isFreed_of_fields (Obj.data_mapFields dT _))
    have eo : oe = { oe with data := .fields vs } := by cases oe; cases hd; rfl
    refine ⟨⟨vs, T, by rw [← eo]; exact (oth e (Ne.symm nT)).trans he, .inr rfl, h1, nT, _, _, t₄, Obj.data_mapFields dT _, by simp [h3]⟩, fun b o nb nt hb q => ?_, fun b o nb nt hb q => ?_⟩
    · exact (oth b fun z => nt (by rw [z])).trans q
    · exact ⟨o.slots, (oth b fun z => nt (by rw [z])).trans q⟩
  · rw [if_neg hv]
    refine wpAny_bind (wpAny_setField gT dT h3 ?_)
    have nr : ∀ b o, s.heap.get? b = some o → (∀ ws, o.data ≠ .fields ws) → b ≠ T := fun b o hb hn q => by
      rw [q, gT] at hb
      cases hb
      exact hn ts dT
    refine entry_core hfr (hl.of_keeps fun b o hb hn => ⟨o, (oth b (nr b o hb hn)).trans hb, rfl⟩) hf ((oth e (Ne.symm nT)).trans he) hd (Array.getElem?_eq_some_iff.mp h1).1 fun h' N => h h' ⟨?_, ?_, ?_⟩
    · obtain ⟨vs', T', q1, q2, q3, q4⟩ := N.exc
      exact ⟨vs', T', q1, .inl (by rw [Heap.size_after_update] at q3; exact q3), q4⟩
    · intro b o nb nt hb q
      exact N.keep b o nb (by intro z; cases z) hb ((oth b fun z => nt (by rw [z])).trans q)
    · intro b o nb nt hb q
      exact N.slot b o nb (by intro z; cases z) hb ((oth b fun z => nt (by rw [z])).trans q)
theorem passOn_ok {what : String} {cenv : Env} {T : Addr} (he : s.heap.get? e = some oe) (hd : oe.data = .fields vs) (ht : TrailF s.heap e vs T)
    (h : ∀ v, E (.ref e) { s with heap := s.heap.update T (Obj.mapFields (·.setIfInBounds 3 v)) }) : wpAny M A (PySem.passOn what (.ref e) cenv : Sem Value) (fun _ _ => False) E s := by
  obtain ⟨h1, nT, oT, ts, gT, dT, h3⟩ := ht
  unfold PySem.passOn
  refine wpAny_bind (wpAny_field he hd h1 ?_)
  rw [if_neg (show ¬ ((Value.ref T == Value.none) = true) from by simp)]
  unfold setFlight
  refine wpAny_bind (wpAny_bind (wpAny_field he hd h1 ?_))
  rw [if_pos (show (Value.ref T != Value.none) = true from by simp)]
  exact wpAny_setField gT dT h3 (wpAny_throw (h _))
end
section
variable {X : Cx} {pins : List (Addr × Obj)} {σ : St} {H H' : Hp} {s s' : Shared} {h' : Heap}
theorem Inv.notedK {e : Addr} {tr : Option Addr} (I : Inv X pins σ H s) (hH : H e = none) (ho : Off X pins e) (ht : ∀ T, tr = some T → H T = none ∧ Off X pins T)
    (keep : ∀ b o, b ≠ e → tr ≠ some b → b ∉ frs X.stack → s.heap.get? b = some o → h'.get? b = some o)
    (slot : ∀ b o, b ≠ e → tr ≠ some b → b ∈ frs X.stack → s.heap.get? b = some o → ∃ sl, h'.get? b = some { o with slots := sl }) : Inv X pins σ H { s with heap := h' } := by
  have any : ∀ b o, b ∉ e :: tr.toList → s.heap.get? b = some o → ∃ sl, h'.get? b = some { o with slots := sl } := fun b o hb q => by
    have n1 : b ≠ e := fun z => hb (by rw [z]; exact List.mem_cons_self)
    have n2 : tr ≠ some b := fun z => hb (List.mem_cons_of_mem _ (by rw [z]; simp))
    by_cases hs : b ∈ frs X.stack
    · exact slot b o n1 n2 hs q
    · exact ⟨o.slots, keep b o n1 n2 hs q⟩
  have kp : ∀ b o, b ≠ X.env.locals → b ∉ X.fs → b ∉ e :: tr.toList → s.heap.get? b = some o → h'.get? b = some o := fun b o hL hb hc q =>
    keep b o (fun z => hc (by rw [z]; exact List.mem_cons_self)) (fun z => hc (List.mem_cons_of_mem _ (by rw [z]; simp))) (fun z => (List.mem_cons.mp (I.stkSub b z)).elim hL hb) q
  have offs : ∀ b ∈ e :: tr.toList, H b = none ∧ Off X pins b := fun b hb => by
    rcases List.mem_cons.mp hb with z | z
    · rw [z]; exact ⟨hH, ho⟩
    · exact ht b (by simpa using z)
  refine I.stepO (ch := e :: tr.toList) (fun b hb => (offs b hb).2) (fun b o hL hb hc q _ => kp b o hL hb hc q) (fun b o _ _ hc q _ => any b o hc q) (fun _ _ _ _ n => n)
    (fun b o hc q => let ⟨_, z⟩ := any b o hc q; ⟨_, z⟩) (fun _ _ q => q) (fun _ _ _ q => q) (fun b ps q => ⟨#[], by rw [q]; simp⟩) (fun m hm => ?_) (fun b u q => ?_)
  · obtain ⟨o, es, ep, g, r⟩ := hm
    obtain ⟨sl, g'⟩ := any _ o (fun z => (offs _ z).2.2.1 rfl) g
    exact ⟨_, es, ep, g', r⟩
  · refine (I.hok b u q).stay (fun c v hc g => ?_) (fun _ z => z) fun _ _ z => z
    have trk : H c ≠ none := by
      rcases hc with z | z
      · rw [z, q]; simp
      · rw [z]; simp
    refine keep c v (fun z => trk (by rw [z]; exact hH)) (fun z => trk (ht c z).1) (fun z => trk (I.stkFree c z)) g
def XFlyF (X : Cx) (pins : List (Addr × Obj)) (H : Hp) (h : Heap) (x : Addr) (cls : Value) (d : Option Addr) : Prop :=
  H x = none ∧ Off X pins x ∧ ∃ vs sl T, h.get? x = some ⟨cls, d, .fields vs, sl⟩ ∧ TrailF h x vs T ∧ H T = none ∧ Off X pins T
def XPF (X : Cx) (pins : List (Addr × Obj)) (σ : St) (E : XK) (e : Value) (s' : Shared) : Prop := ∃ x cls d H', e = .ref x ∧ Inv X pins σ H' s' ∧ XFlyF X pins H' s'.heap x cls d ∧ E cls d H'
/-- what leaves a comprehension of this body as an exception is what is wanted of it -/
def XOutF (X : Cx) (E : XK) : Prop := ∀ pins σ e s', XPF X pins σ E e s' → X.xe e s'
end
section
variable {P : Program} {w : World} {K : PySem.W.Frag} {mg : Str → Option Value} {base : Heap} {N : List Str} {qual : Str} {scope : Scope} {f : Addr} {cd : Value} {A : Around} {outer : List Env} {s₀ : Shared} {H₀ : Hp} {E : XK}
theorem xoutF : XOutF (cxOf (CX1 P w) P w K mg base N qual scope f cd A outer s₀ H₀ E) E := by
  rintro pins σ e s' ⟨x, cls, d, H', rfl, I, ⟨f1, f2, vs, sl, T, f3, f4, f5, f6⟩, q⟩
  refine leavingF_ok (L := s₀.heap.objs.size) I.ok.frames I.stack rfl f3 rfl f4 fun h' Nt => ?_
  have J := I.notedK (tr := some T) f1 f2 (fun T' z => by cases z; exact ⟨f5, f6⟩) Nt.keep Nt.slot
  obtain ⟨vs', T', g1, g2, g3⟩ := Nt.exc
  refine ⟨x, cls, d, H', rfl, J.os, J.bare, J.base, J.hok, ⟨f2.1, f1, vs', sl, some T', g1, g3, fun T'' z => ?_⟩, q⟩
  cases z
  rcases g2 with g2 | rfl
  · exact ⟨(I.off rfl (Heap.get?_none_of_le g2)).1, I.hok.fresh g2⟩
  · exact ⟨f6.1, f5⟩
end
section
variable {X : Cx} {E : XK}
/-- an exception on its way out of a block's element -/
def CXC (P : Program) (w : World) (stack : List Env) (fp : List Addr) (C : Addr) (H₃ : Hp) (s₃ : Shared) (E : XK) (e : Value) (s' : Shared) : Prop :=
  ∃ x cls d H' vs sl tr, e = .ref x ∧ s'.os = s₃.os ∧ AllBare s'.gens ∧ Un (frs stack) fp H₃ H' s₃.heap s'.heap ∧ HOk P w H' s'.heap ∧ H' x = none ∧ s₃.heap.get? x = none ∧ x ≠ C ∧
    s'.heap.get? x = some ⟨cls, d, .fields vs, sl⟩ ∧ Trail s'.heap x vs tr ∧ (∀ T, tr = some T → s₃.heap.get? T = none ∧ H' T = none ∧ T ≠ C) ∧ (∃ m, s'.heap.Ns C m) ∧ H' C = none ∧ E cls d H'
/-- the block's context, where an element may raise; ps: the iterator as it stands -/
def cxCompX (X : Cx) (E : XK) (pins : List (Addr × Obj)) (N' : List Str) (scope : Scope) (cl : List (Str × Addr)) (C : Addr) (fp : List Addr) (s : Shared) (H : Hp) (ps : List (Addr × Obj)) : Cx :=
  { cxComp X pins N' scope cl C fp s H with pn := X.pn ++ pins ++ ps, xe := fun e s' => (∀ b ∈ fp, ∃ o, (b, o) ∈ ps) → CXC X.prog X.w X.stack fp C H s E e s' }
theorem passC {P : Program} {w : World} {pins : List (Addr × Obj)} {N' : List Str} {scope : Scope} {cl : List (Str × Addr)} {C : Addr} {fp : List Addr} {s : Shared} {H : Hp} {ps : List (Addr × Obj)} (hP : X.prog = P) (hw : X.w = w) :
    Passes (CX1 P w) (cxCompX X E pins N' scope cl C fp s H ps) E := by
  subst hP hw
  rintro pins' σ' H1 s1 e s2 I ⟨x, cls, d, H', rfl, os, bare, un, hok, ⟨f1, f2, vs, sl, tr, f3, f4, f5⟩, q⟩ hps
  have J := I.call' (ch := []) os un hok bare (fun b z => absurd z (by simp))
  have new : ∀ b, s1.heap.get? b = none → s.heap.get? b = none ∧ b ≠ C := fun b hb => by
    have nf : b ∉ fp := fun z => by
      obtain ⟨o, m⟩ := hps b z
      have := (I.pin (b, o) (List.mem_append_left _ (List.mem_append_right _ m))).1
      rw [hb] at this
      cases this
    refine ⟨?_, fun z => ?_⟩
    · cases e : s.heap.get? b with
      | none => rfl
      | some o =>
        obtain ⟨o', e'⟩ := I.base.there b o e nf
        rw [hb] at e'
        cases e'
    · obtain ⟨m, ⟨o, _, _, e, _⟩, _⟩ := I.loc
      have e : s1.heap.get? C = some o := e
      rw [← z, hb] at e
      cases e
  obtain ⟨n1, n2⟩ := new x f1
  exact ⟨x, cls, d, H', vs, sl, tr, rfl, J.os, J.bare, J.base, J.hok, f2, n1, n2, f3, f4, fun T z => ⟨(new T (f5 T z).1).1, (f5 T z).2, (new T (f5 T z).1).2⟩, (let ⟨m, hn, _⟩ := J.loc; ⟨m, hn⟩), J.free, q⟩
theorem codeAny_compLoop_ownX {prog : Program} {w : World} {A : Around} {R : Result → Shared → Prop} {s : Shared} {elt target iter : Expr} {ifs : List Expr} {scope : Scope} {pos : Pos} {it acc : Value} {env : Env} (I : Nat → Shared → Prop)
    (turn : ∀ n s, I n s → wpAny (model prog w) A (pyNext it) (fun r s₁ => match r with
      | none => R (.ok .next) s₁
      | some v => wpAny (model prog w) A (letOwnedTupleGo target it v) (fun _ s₁' => wpAny (model prog w) A (assign target env v) (fun _ s₂ =>
          wpAny (model prog w) A (forIn ifs true fun c r => if r = true then do let ok ← isTrue c env (eval c env); pure (ForInStep.yield ok) else pure (ForInStep.yield r)) (fun ok s₃ => if ok = true then wpAny (model prog w) A (eval elt env) (fun x s₄ =>
            wpAny (model prog w) A (call (.builtin "list.append") [acc, x]) (fun _ s₅ => ∃ m, m < n ∧ I m s₅) (fun _ _ => False) s₄) (notedBy (model prog w) A env fun e s' => R (.error e) s') s₃ else ∃ m, m < n ∧ I m s₃) (notedBy (model prog w) A env fun e s' => R (.error e) s') s₂) (fun _ _ => False) s₁') (fun _ _ => False) s₁) (fun _ _ => False) s)
    (n : Nat) (h : I n s) :
    codeAny (model prog w) A (.compLoop (.ListComp elt [⟨target, iter, ifs, 0⟩] scope pos) 0 it acc env) R s := by
  refine codeAny_loop rfl I (fun n s hI => ?_) n h
  show wpAny _ _ ((compTurn (.ListComp elt [⟨target, iter, ifs, 0⟩] scope pos) 0 it acc env).onRaise (fun x => do noteFrame x env; theTreesLotGoes x)) _ _ s
  refine wpAny_noted ?_
  rw [compTurn_list]
  refine wpAny_bind (wpAny_standAt (wpAny_bind (wpAny_mono (turn n s hI) (fun r s₁ h₁ => ?_) fun _ _ h' => h'.elim)))
  cases r with
  | none => exact wpAny_pure h₁
  | some v =>
    refine wpAny_bind (wpAny_mono h₁ (fun _ s₁' h₁' => ?_) fun _ _ h' => h'.elim)
    refine wpAny_bind (wpAny_mono h₁' (fun _ s₂ h₂ => wpAny_bind (wpAny_mono h₂ (fun ok s₃ h₃ => ?_) fun _ _ h' => h')) fun _ _ h' => h'.elim)
    cases ok with
    | false => exact wpAny_pure ⟨rfl, h₃⟩
    | true => exact wpAny_bind (wpAny_bind (wpAny_mono h₃ (fun x s₄ h₄ => wpAny_bind (wpAny_mono h₄ (fun _ s₅ h₅ => wpAny_pure (wpAny_pure ⟨rfl, h₅⟩)) fun _ _ h' => h'.elim)) fun _ _ h' => h'))
theorem toX {pins : List (Addr × Obj)} {N' : List Str} {scope : Scope} {cl : List (Str × Addr)} {C : Addr} {fp : List Addr} {s s1 : Shared} {H H1 : Hp} {ps : List (Addr × Obj)} {σ : St}
    (I : Inv (cxComp X pins N' scope cl C fp s H) ps σ H1 s1) : Inv (cxCompX X E pins N' scope cl C fp s H ps) [] σ H1 s1 :=
  ⟨⟨I.ok.mod, I.ok.kind, I.ok.glob, I.ok.blt, I.ok.above, I.ok.inj, I.ok.has, I.ok.cab, I.ok.hd, I.ok.frames, I.ok.stk, I.ok.exf, I.ok.bs, I.ok.bsz, I.ok.noex, I.ok.exfs, I.ok.funs, I.ok.frf⟩, I.os, I.bare, I.base, I.loc, I.cell, I.free, I.freeC,
    fun p hp => I.pin p (by
      have hp : p ∈ (X.pn ++ pins ++ ps) ++ [] := hp
      show p ∈ (X.pn ++ pins) ++ ps
      rw [List.append_nil] at hp
      exact hp), I.hok, I.len⟩
theorem ofX {pins : List (Addr × Obj)} {N' : List Str} {scope : Scope} {cl : List (Str × Addr)} {C : Addr} {fp : List Addr} {s s1 : Shared} {H H1 : Hp} {ps : List (Addr × Obj)} {σ : St}
    (I : Inv (cxCompX X E pins N' scope cl C fp s H ps) [] σ H1 s1) : Inv (cxComp X pins N' scope cl C fp s H) ps σ H1 s1 :=
  ⟨⟨I.ok.mod, I.ok.kind, I.ok.glob, I.ok.blt, I.ok.above, I.ok.inj, I.ok.has, I.ok.cab, I.ok.hd, I.ok.frames, I.ok.stk, I.ok.exf, I.ok.bs, I.ok.bsz, I.ok.noex, I.ok.exfs, I.ok.funs, I.ok.frf⟩, I.os, I.bare, I.base, I.loc, I.cell, I.free, I.freeC,
    fun p hp => I.pin p (by
      show p ∈ (X.pn ++ pins ++ ps) ++ []
      rw [List.append_nil]
      exact hp), I.hok, I.len⟩
/-- the block: what is laid, walked and handed on -/
theorem comp_blockX {elt iter tg : Expr} {ifs : List Expr} {xs : List Str} {pos : Pos} {scope : Scope} {cl : List (Str × Addr)} {rest : List Str} {sel : St → St} {g : TG} {tc : TT} {te : TE} {pins : List (Addr × Obj)} {σ : St} {H : Hp} {s : Shared} {Q : VK}
    {it : Addr} {fp : List Addr} {tn : Nat → Heap → Prop} {J : It} {RR : Value → Addr → Result → Shared → Prop} {E : Value → Shared → Prop} {E₀ : XK} {L : Addr}
    (hxo : XOutF X E₀) (hex : X.ex = []) (hst : X.stack = X.env :: X.outer) (hfr : X.env.frame = some L)
    (hcalm : X.calm = true) (hkind : scope.kind = .function) (hcell : ∀ z ∈ scope.names, z.2 ≠ .cell) (hc : Clos X scope cl) (hr : Reads X scope rest sel)
    (hg : ∀ (C : Addr) (s : Shared) (H : Hp), PG (cxComp X pins (xs ++ rest) scope cl C fp s H) tg g) (ht : ∀ (C : Addr) (s : Shared) (H : Hp) (ps : List (Addr × Obj)), PTs (cxCompX X E₀ pins (xs ++ rest) scope cl C fp s H ps) ifs tc)
    (he : ∀ (C : Addr) (s : Shared) (H : Hp) (ps : List (Addr × Obj)), PE (cxCompX X E₀ pins (xs ++ rest) scope cl C fp s H ps) elt te)
    (I : Inv X pins σ H s) (T : Turn X.prog X.w X.K tg J fp it tn) (t0 : tn 0 s.heap) (hf : ∀ b ∈ fp, FpOk X pins H b)
    (h : ∀ l, H l = none → ∃ W : Nat → Nat → Hp → Prop, (∃ m, W 0 m (upd H l (.lst []))) ∧ ∀ i m H, W i m H →
      (J.stop i H ∧ Q (.ref l) H) ∨ (J.go i H ∧ ∀ x H', J.yld i H x H' → ∀ zs : St, zs.length = xs.length → g x (zs ++ sel σ) H' fun σ2 H2 => (∃ zs' : St, zs'.length = xs.length ∧ σ2 = zs' ++ sel σ) ∧ tc σ2 H2 fun b H3 => if b = true then te σ2 H3 fun y H4 => ∃ ys, H4 l = some (.lst ys) ∧ ys.length < sizeLine ∧ ∃ m', m' < m ∧ W (i + 1) m' (upd H4 l (.lst (ys ++ [y]))) else ∃ m', m' < m ∧ W (i + 1) m' H3))
    (hRR : ∀ (D C : Addr) (H' : Hp) (s' : Shared), Inv X pins σ H' s' → FpOk X pins H' C → (∃ m, s'.heap.Ns C m) → Q (.ref D) H' → RR (.ref D) C (.ok .next) s')
    (hRE : ∀ (acc : Value) (C : Addr) (x : Value) (s' : Shared), (∃ m, s'.heap.Ns C m ∧ ∀ h', Heap.SameBut C s'.heap h' → ∀ cenv : Env, cenv.locals = C → wpAny (model X.prog X.w) X.A (PySem.passOn "comprehension.variables-let-go" x cenv : Sem Value) (fun _ _ => False) X.xe { s' with heap := h' }) → RR acc C (.error x) s') :
    wpAny (model X.prog X.w) X.A (newList []) (fun acc s₃ => wpAny (model X.prog X.w) X.A (newFunctionEnv scope X.env.globals cl [] X.env.qual none .none (some X.env)) (fun cenv s₄ =>
      codeAny (model X.prog X.w) X.A (.compStart (.ListComp elt [⟨tg, iter, ifs, 0⟩] scope pos) 0 (.ref it) acc { cenv with scope := relabel scope X.env }) (RR acc cenv.locals) s₄) E s₃) E s := by
  have hD : H s.heap.objs.size = none := I.hok.fresh (Nat.le_refl _)
  obtain ⟨W, ⟨m0, w0⟩, turn⟩ := h _ hD
  refine wpAny_newObj_type ?_
  have I3 : Inv X pins σ (upd H s.heap.objs.size (.lst [])) { s with heap := s.heap.push { cls := .type "list", dict := none, data := .seq ([] : List Value).toArray } } :=
    I.laid (t' := s.toks) (fun b u e => Heap.get?_push_of_some _ e) (Nat.le_refl _) ⟨Nat.zero_le _, [], 0, .nil, Heap.get?_push_size _ rfl⟩
  generalize hs3 : ({ s with heap := s.heap.push { cls := .type "list", dict := none, data := .seq ([] : List Value).toArray } } : Shared) = s3 at I3 ⊢
  have old3 : ∀ b o, s.heap.get? b = some o → s3.heap.get? b = some o := fun b o e => by rw [← hs3]; exact Heap.get?_push_of_some _ e
  refine wpAny_newFunctionEnv hcell (by intro y hy; simp at hy) (fun h1 hns1 hsb1 => ?_) hkind
  have old4 : ∀ b o, s3.heap.get? b = some o → h1.get? b = some o := fun b o e => hsb1.extBut b o (Nat.ne_of_lt (Heap.lt_size e)) (Heap.get?_push_of_some _ e)
  have fD : ∀ b ∈ fp, b ≠ s.heap.objs.size := fun b hb z => by
    obtain ⟨o, e, _⟩ := T.obj 0 _ t0 b hb
    exact absurd (Heap.lt_size e) (by rw [z]; exact Nat.lt_irrefl _)
  have hf3 : ∀ b ∈ fp, FpOk X pins (upd H s.heap.objs.size (.lst [])) b := fun b hb => ⟨by rw [upd_ne (fD b hb)]; exact (hf b hb).1, (hf b hb).2⟩
  have fC : ∀ b ∈ fp, b ≠ s3.heap.objs.size := fun b hb z => by
    obtain ⟨o, e, _⟩ := T.obj 0 _ t0 b hb
    exact absurd (Heap.lt_size (old3 b o e)) (by rw [z]; exact Nat.lt_irrefl _)
  have cC : ∀ y c, cl.lookup y = some c → c ≠ s3.heap.objs.size := fun y c e z => by
    obtain ⟨v, q⟩ := I3.cell y c (hc.sub y c e)
    exact absurd q.lt (by rw [z]; exact Nat.lt_irrefl _)
  have fstk : ∀ b ∈ fp, b ∉ frs X.stack := fun b hb z => (List.mem_cons.mp (I3.stkSub b z)).elim (hf b hb).2.1 (hf b hb).2.2.1
  -- the block's context holds
  have ok : (cxComp X pins (xs ++ rest) scope cl s3.heap.objs.size fp s3 (upd H s.heap.objs.size (.lst []))).Ok := by
    refine ⟨I.ok.mod, hkind, I.ok.glob, I.ok.blt, Nat.le_refl _, fun y z c e1 e2 => I.ok.inj y z c (hc.sub y c e1) (hc.sub z c e2), fun y hy => hc.has y hy, fun y c e => (nomatch e), I.ok.hd, I.ok.frames, .inl rfl, fun b hb => ⟨fC b hb, fun y c e => (hf b hb).2.2.2.2.1 y c (hc.sub y c e)⟩,
      I3.bs, Nat.le_trans I.ok.bsz I3.sz, fun b o e hb => ?_, fstk, I3.stack, I3.stkFree⟩
    rcases (hf b hb).2.2.2.1 with z | z
    · exact I.ok.noex b o e z
    · exact absurd (Nat.lt_of_lt_of_le (Heap.lt_size e) I.ok.bsz) (Nat.not_lt.mpr z)
  have I4 : Inv (cxComp X pins (xs ++ rest) scope cl s3.heap.objs.size fp s3 (upd H s.heap.objs.size (.lst []))) [] (xs.map (fun _ => none) ++ sel σ) (upd H s.heap.objs.size (.lst [])) { s3 with heap := h1, toks := s3.toks + ([] : List (Str × Value)).length } := by
    refine ⟨ok, rfl, I3.bare, Un.kept old4, ⟨_, hns1, fun i y v e1 e2 e3 => ?_⟩, fun y c e => ?_, I3.hok.fresh (Nat.le_refl _), fun y c e => I3.freeC y c (hc.sub y c e), fun p hp => ?_, I3.hok.kept old4, ?_⟩
    · have hge : xs.length ≤ i := by
        apply Classical.byContradiction
        intro hlt
        rw [List.getElem?_append_left (by rw [List.length_map]; omega), List.getElem?_map] at e2
        cases q : xs[i]? with
        | none => rw [q] at e2; cases e2
        | some z => rw [q] at e2; cases e2
      have e1' : rest[i - xs.length]? = some y := by
        have e1 : (xs ++ rest)[i]? = some y := e1
        rw [List.getElem?_append_right hge] at e1
        exact e1
      have e2' : (sel σ)[i - xs.length]? = some (some v) := by
        rw [List.getElem?_append_right (by rw [List.length_map]; exact hge), List.length_map] at e2
        exact e2
      obtain ⟨j, q1, q2, q3, q4⟩ := (hr σ).2 _ y v e1' e2'
      obtain ⟨m, hn, hl⟩ := I3.loc
      obtain ⟨u, r, l⟩ := hl j y v q1 q2 (.inr (.inl q3))
      refine ⟨u, r, .inr ⟨.inl q4, ?_⟩⟩
      obtain ⟨c, ec⟩ := hc.has y (.inl q4)
      refine ⟨c, ec, ?_⟩
      rcases l with ⟨k, _⟩ | ⟨_, c', e', z⟩
      · have k' : X.env.scope.names.lookup y = some .local := k
        rw [q3] at k'; cases k'
      · rw [hc.sub y c ec] at e'
        cases e'
        obtain ⟨o, ho, hd⟩ := z
        exact ⟨o, old4 c o ho, hd⟩
    · obtain ⟨v, o, ho, hd⟩ := I3.cell y c (hc.sub y c e)
      exact ⟨v, o, old4 c o ho, hd⟩
    · have hp' : p ∈ X.pn ++ pins := by simpa [cxComp] using hp
      obtain ⟨e, n, ne, nf, d⟩ := I3.pin p hp'
      exact ⟨old4 _ _ e, n, Nat.ne_of_lt (Heap.lt_size e), fun z => (List.mem_cons.mp (I3.stkSub _ z)).elim ne nf, d⟩
    · show (xs.map (fun _ => none) ++ sel σ).length = (xs ++ rest).length
      rw [List.length_append, List.length_append, List.length_map, (hr σ).1]
  -- the iterator, seen from the block
  have stat : ∀ {H' : Hp}, (∀ b ∈ fp, H' b = none) → ∀ b ∈ fp, FpOk (cxComp X pins (xs ++ rest) scope cl s3.heap.objs.size fp s3 (upd H s.heap.objs.size (.lst []))) [] H' b := fun hn b hb =>
    ⟨hn b hb, fC b hb, fstk b hb, .inl hb, fun y c e => (hf b hb).2.2.2.2.1 y c (hc.sub y c e), fun p hp => (hf b hb).2.2.2.2.2 p (by simpa [cxComp] using hp)⟩
  have t4 : tn 0 h1 := T.keep _ _ _ t0 fun b hb o e => old4 b o (old3 b o e)
  have loop : ∀ s4 : Shared, s4 = { s3 with heap := h1, toks := s3.toks + ([] : List (Str × Value)).length } →
      codeAny (model X.prog X.w) X.A (.compLoop (.ListComp elt [⟨tg, iter, ifs, 0⟩] scope pos) 0 (.ref it) (.ref s.heap.objs.size) (compEnvC scope cl s3.heap.objs.size X.env)) (RR (.ref s.heap.objs.size) s3.heap.objs.size) s4 := by
    rintro s4 rfl
    have out : ∀ (ps : List (Addr × Obj)) (e : Value) (s' : Shared), (∀ b ∈ fp, ∃ o, (b, o) ∈ ps) → (cxCompX X E₀ pins (xs ++ rest) scope cl s3.heap.objs.size fp s3 (upd H s.heap.objs.size (.lst [])) ps).xe e s' →
        notedBy (model X.prog X.w) X.A (compEnvC scope cl s3.heap.objs.size X.env) (fun e s' => RR (.ref s.heap.objs.size) s3.heap.objs.size (.error e) s') e s' := by
      intro ps e s' hps hx
      obtain ⟨x, cls, d, H9, vs, sl, tr, rfl, os, bare, un, hok, x1, x2, x3, x4, x5, x6, ⟨m9, hn9⟩, hC9, qE⟩ := hx hps
      have J : Inv X pins σ H9 s' := I3.call' (ch := fp) os un hok bare fun b hb => ⟨(hf b hb).2.2.2.1, (hf b hb).2.1, (hf b hb).2.2.2.2.1, (hf b hb).2.2.2.2.2⟩
      have fC9 : FpOk X pins H9 s3.heap.objs.size := I3.fpOk (Nat.le_refl _) hC9
      have ltC : s3.heap.objs.size < s'.heap.objs.size := by
        obtain ⟨o, _, _, e, _⟩ := hn9
        exact Heap.lt_size e
      have ox : Off X pins x := I3.off hex x2
      have oT : ∀ T, tr = some T → H9 T = none ∧ Off X pins T := fun T z => ⟨(x6 T z).2.1, I3.off hex (x6 T z).1⟩
      show wpAny _ _ (noteFrame (.ref x) X.env) _ _ s'
      refine noteF_ok (base := X.base) (L := L) (by rw [← hst]; exact J.ok.frames) (by rw [← hst]; exact J.stack) hfr x4 rfl x5 fun h1' Nt => ?_
      have nC : s3.heap.objs.size ≠ x := Ne.symm x3
      have nCT : tr ≠ some s3.heap.objs.size := fun z => (x6 _ z).2.2 rfl
      have kp : ∀ b o, b ≠ x → tr ≠ some b → b ∉ frs X.stack → s'.heap.get? b = some o → h1'.get? b = some o := fun b o z1 z2 z3 => Nt.keep b o z1 z2 (by rw [← hst]; exact z3)
      have sp : ∀ b o, b ≠ x → tr ≠ some b → b ∈ frs X.stack → s'.heap.get? b = some o → ∃ sl, h1'.get? b = some { o with slots := sl } := fun b o z1 z2 z3 => Nt.slot b o z1 z2 (by rw [← hst]; exact z3)
      have J1 := J.notedK x1 ox oT kp sp
      obtain ⟨vs', T', g1, g2, g3⟩ := Nt.exc
      have nTC : T' ≠ s3.heap.objs.size := Nat.ne_of_gt (Nat.lt_of_lt_of_le ltC g2)
      have fT := J.fpOk g2 (J.hok.fresh g2)
      have offT : Off X pins T' := J.off hex (Heap.get?_none_of_le g2)
      refine hRE _ _ _ _ ⟨m9, ?_, fun h2 sb cenv _ => ?_⟩
      · obtain ⟨o, es, ep, g, r⟩ := hn9
        by_cases hs : s3.heap.objs.size ∈ frs X.stack
        · obtain ⟨sl', g'⟩ := sp _ o nC nCT hs g
          exact ⟨_, es, ep, g', r⟩
        · exact ⟨o, es, ep, kp _ o nC nCT hs g, r⟩
      · have J2 : Inv X pins σ H9 { s' with heap := h2 } := J1.turned (t' := s'.toks) (fun b o hb e => (sb.2 b hb).trans e) fC9.1 fC9.2.1 fC9.2.2.2.1 fC9.2.2.2.2.1 fC9.2.2.2.2.2
        obtain ⟨g31, g32, oT', ts, g33, g34, g35⟩ := g3
        have k1 := (sb.2 x x3).trans g1
        have k2 := (sb.2 T' nTC).trans g33
        refine passOn_ok k1 rfl ⟨g31, g32, oT', ts, k2, g34, g35⟩ fun v => hxo pins σ _ _ ⟨x, cls, d, H9, rfl, ?_, ⟨x1, ox, vs', sl, T', ?_, ⟨g31, g32, _, _, Heap.get?_update_self (Obj.mapFields (·.setIfInBounds 3 v)) k2 (Obj.isFreed_of_fields (Obj.data_mapFields g34 _)), Obj.data_mapFields g34 _, by simp [g35]⟩, J.hok.fresh g2, offT⟩, qE⟩
        · exact J2.turned (t' := s'.toks) (fun b o hb e => (Heap.get?_update_other _ _ (Ne.symm hb)).trans e) fT.1 fT.2.1 fT.2.2.2.1 fT.2.2.2.2.1 fT.2.2.2.2.2
        · exact (Heap.get?_update_other _ _ g32).trans k1
    refine codeAny_compLoop_ownX (fun n s' => ∃ i zs H', zs.length = xs.length ∧ Inv (cxComp X pins (xs ++ rest) scope cl s3.heap.objs.size fp s3 (upd H s.heap.objs.size (.lst []))) [] (zs ++ sel σ) H' s' ∧ tn i s'.heap ∧ (∀ b ∈ fp, H' b = none) ∧ W i n H') ?_ m0
      ⟨0, _, _, List.length_map _, I4, t4, fun b hb => (hf3 b hb).1, w0⟩
    rintro n s5 ⟨i, zs, H5, hzs, I5, t5, f5, w5⟩
    rcases turn i n H5 w5 with ⟨stop, qn⟩ | ⟨go, step⟩
    · refine thn (T.done (cxComp X pins (xs ++ rest) scope cl s3.heap.objs.size fp s3 (upd H s.heap.objs.size (.lst []))) rfl rfl rfl hcalm i [] s5 _ H5 _ I5 (stat f5) t5 stop) fun r s6 ⟨er, I6⟩ => ?_
      subst er
      have J6 : Inv X pins σ H5 s6 := I3.call' (ch := fp) I6.os I6.base I6.hok I6.bare fun b hb => ⟨(hf b hb).2.2.2.1, (hf b hb).2.1, (hf b hb).2.2.2.2.1, (hf b hb).2.2.2.2.2⟩
      exact hRR _ _ H5 s6 J6 (I3.fpOk (Nat.le_refl _) I6.free) (let ⟨m, hn, _⟩ := I6.loc; ⟨m, hn⟩) qn
    · refine thn (T.item (cxComp X pins (xs ++ rest) scope cl s3.heap.objs.size fp s3 (upd H s.heap.objs.size (.lst []))) rfl rfl rfl hcalm i [] s5 _ H5 _ I5 (stat f5) t5 go) fun r s6 ⟨u, er, h6⟩ => ?_
      subst er
      refine thn h6 fun _ s7 ⟨y, H7, I7, r7, y7, t7, f7⟩ => ?_
      have I7' := I7.pinned (stat f7) (T.obj _ _ t7)
      refine thn (hg _ _ _ _ s7 _ H7 y u _ I7' r7 (step y H7 y7 zs hzs)) fun _ s8 ⟨σ8, H8, I8, ⟨zs', hz', e8⟩, q8⟩ => ?_
      subst e8
      have hps : ∀ b ∈ fp, ∃ o, (b, o) ∈ [] ++ pinsAt fp s7.heap := fun b hb => by
        obtain ⟨o, e, _⟩ := T.obj _ _ t7 b hb
        exact ⟨o, List.mem_append_right _ (mem_pinsAt hb e)⟩
      refine wpAny_mono (ht _ _ _ _ _ s8 _ H8 _ (toX I8) q8) (fun b s9 ⟨H9, I9, q9⟩ => ?_) (fun e s' hx => out _ e s' hps hx)
      have I9 := ofX I9
      cases b with
      | false =>
        rw [if_neg Bool.false_ne_true] at q9 ⊢
        obtain ⟨m', hm, w9⟩ := q9
        refine ⟨m', hm, i + 1, zs', _, hz', I9.unpinned, T.keep _ _ _ t7 fun b hb o e => (I9.pin (b, o) (List.mem_append_right _ (List.mem_append_right _ (mem_pinsAt hb e)))).1, fun b hb => ?_, w9⟩
        obtain ⟨o, e, d⟩ := T.obj _ _ t7 b hb
        exact (I9.pin (b, o) (List.mem_append_right _ (List.mem_append_right _ (mem_pinsAt hb e)))).2.1
      | true =>
        rw [if_pos rfl] at q9 ⊢
        refine wpAny_mono (he _ _ _ _ _ s9 _ H9 _ (toX I9) q9) (fun z s9 ⟨yv, H9, I9, r9, ys, hl, hz, m', hm, w9⟩ => ?_) (fun e s' hx => out _ e s' hps hx)
        have I9 := ofX I9
        refine thn (mt_append (X := cxComp X pins (xs ++ rest) scope cl s3.heap.objs.size fp s3 (upd H s.heap.objs.size (.lst []))) _ s9 _ H9 (.ref s.heap.objs.size) [yv] (.ref s.heap.objs.size) [z]
          (fun v H' => H' = upd H9 s.heap.objs.size (.lst (ys ++ [yv]))) I9 rfl (.cons r9 .nil) ⟨_, ys, yv, rfl, rfl, hl, hz, rfl⟩) fun _ s10 ⟨v10, H10, I10, _, e10⟩ => ?_
        subst e10
        refine ⟨m', hm, i + 1, zs', _, hz', I10.unpinned, T.keep _ _ _ t7 fun b hb o e => (I10.pin (b, o) (List.mem_append_right _ (List.mem_append_right _ (mem_pinsAt hb e)))).1, fun b hb => ?_, w9⟩
        obtain ⟨o, e, d⟩ := T.obj _ _ t7 b hb
        exact (I10.pin (b, o) (List.mem_append_right _ (List.mem_append_right _ (mem_pinsAt hb e)))).2.1
  exact codeAny_compStart_list (loop _ rfl) (T.self _ 0 _ _ _ t4 (loop _ rfl))

end
end L2
/-! ### name = [..] whose elements may raise -/
namespace L2
open PySem PySem.Spec PyProof.Rows
section
variable {X : Cx} {E : XK}
theorem ps_compGX {i : Nat} {y : Str} {py spos : Pos} {elt iter tg : Expr} {ifs : List Expr} {xs : List Str} {pos : Pos} {scope : Scope} {cl : List (Str × Addr)} {rest : List Str} {sel : St → St} {g : TG} {tc : TT} {te : TE} {wi : TI}
    (hNX : X.N.Nodup) (hi' : X.N[i]? = some y) (hy : X.env.scope.names.lookup y = some .local)
    (hxo : XOutF X E) (hex : X.ex = []) (hst : X.stack = X.env :: X.outer) {L : Addr} (hfr : X.env.frame = some L) (hcalm : X.calm = true) (hi : PI X tg iter wi) (hg : ∀ (pins : List (Addr × Obj)) (fp : List Addr) (C : Addr) (s : Shared) (H : Hp), PG (cxComp X pins (xs ++ rest) scope cl C fp s H) tg g) (ht : ∀ (pins : List (Addr × Obj)) (fp : List Addr) (C : Addr) (s : Shared) (H : Hp) (ps : List (Addr × Obj)), PTs (cxCompX X E pins (xs ++ rest) scope cl C fp s H ps) ifs tc)
    (he : ∀ (pins : List (Addr × Obj)) (fp : List Addr) (C : Addr) (s : Shared) (H : Hp) (ps : List (Addr × Obj)), PE (cxCompX X E pins (xs ++ rest) scope cl C fp s H ps) elt te)
    (hc : Clos X scope cl) (hr : Reads X scope rest sel) (hkind : scope.kind = .function := by rfl) (hcell : ∀ z ∈ scope.names, z.2 ≠ .cell := by decide +kernel) (hnames : ∀ z ∈ scope.names, z.2 = .local → scope.names.lookup z.1 = some .local := by decide +kernel)
    (hs : ∀ x, foldedSetIterable iter X.env x = pure x := by intro _; rfl)
    (hsw : swapsWith (.ListComp elt [⟨tg, iter, ifs, 0⟩] scope pos) (some (.Name y py)) spos.line X.env = pure true := by rfl) :
    PS X (.Assign [.Name y py] (.ListComp elt [⟨tg, iter, ifs, 0⟩] scope pos) spos) (tAsg (tCompG xs.length wi g tc te sel) (gName i)) := by
  intro pins s σ H D I h
  rw [exec_Assign_Name_used _ _ _ _ hsw]
  refine wpAny_bind (wpAny_standAt (wpAny_bind ?_))
  show wpAny _ X.A (do let _ ← comprehension (.ListComp elt [⟨tg, iter, ifs, 0⟩] scope pos) scope X.env _ (newList []) false (eval iter X.env) (some (assign (.Name y py) X.env))) _ _ s
  refine wpAny_bind (wpAny_mono (wpAny_comprehension_free (use := some (assign (.Name y py) X.env)) (Q := fun _ s' => SP X pins D .next s') rfl hs hc.clos hkind hnames
    (thn (hi pins s σ H _ I h) fun v s1 h1 => thn h1 fun itv s2 h2 => ?_)) (fun _ s' hq => wpAny_pure (wpAny_pure hq)) fun _ _ e => e)
  obtain ⟨it, fp, tn, J, H2, rfl, I2, T, t2, f2, q2⟩ := h2
  refine comp_blockX (Q := fun x H1 => gName i x σ H1 D.nx) (RR := fun acc C => compPost (model X.prog X.w) X.A X.xe (some (assign (.Name y py) X.env)) (fun _ s' => SP X pins D .next s') acc C) hxo hex hst hfr hcalm hkind hcell hc hr (hg pins fp) (ht pins fp) (he pins fp) I2 T t2 f2 q2 (fun L C H' s' I' fC ⟨m, hn⟩ q => ?_) fun acc C x s' z => z
  show wpAny _ X.A (assign (.Name y py) X.env (.ref L)) _ _ _
  refine wpAny_assign_Name (store_ok2 I' hNX hi' (.inl hy) (v := .ref L) rfl (fun s2 I2' ⟨a, sb, ha⟩ => ?_) (.inr hy))
  have hCa : C ≠ a := fun z => by
    rcases ha with z' | z'
    · exact fC.2.1 (z.trans z')
    · exact fC.2.2.2.2.1 y a z' z.symm
  exact ⟨m, hn.sameBut sb hCa, fun h' sb' => ⟨_, H', I2'.turned (t' := s2.toks) (fun b o hb e => (sb'.2 b hb).trans e) fC.1 fC.2.1 fC.2.2.2.1 fC.2.2.2.2.1 fC.2.2.2.2.2, q⟩⟩
end
end L2
namespace G
def gcd (a b : Int) : Int := (Int.gcd a b : Int)
theorem gcd_zero (a : Int) (h : 0 ≤ a) : gcd a 0 = a := by
  unfold gcd; rw [Int.gcd_zero_right]; omega
theorem gcd_abs (a b : Int) : gcd (if a < 0 then -a else a) (if b < 0 then -b else b) = gcd a b := by
  unfold gcd; congr 1
  split <;> split <;> simp [Int.neg_gcd, Int.gcd_neg]
theorem gcd_step (a b : Int) (hb : 0 < b) : gcd b (a % b) = gcd a b := by
  unfold gcd; congr 1
  rw [Int.gcd_comm b]
  have e : a = a % b + (a / b) * b := by have := Int.emod_add_mul_ediv a b; rw [Int.mul_comm] at this; omega
  have h := Int.gcd_add_mul_right_left b (a % b) (a / b)
  rw [← e] at h
  exact h.symm
theorem fdiv_nat (a b : Nat) : (a : Int).fdiv (b : Int) = ((a / b : Nat) : Int) := by
  rw [Int.fdiv_eq_ediv_of_nonneg _ (Int.natCast_nonneg _)]; rfl
theorem den_pos (x : Rat) : (0 : Int) < (x.den : Int) := by have := x.den_nz; omega
theorem init_spec (a b : Int) (hb : b ≠ 0) : a.fdiv (if b < 0 then -(gcd a b) else gcd a b) = (Rat.divInt a b).num ∧ b.fdiv (if b < 0 then -(gcd a b) else gcd a b) = ((Rat.divInt a b).den : Int) := by
  have gp : 0 < Int.gcd a b := Int.gcd_pos_of_ne_zero_right a hb
  obtain ⟨k, hk⟩ := Int.gcd_dvd_left a b
  obtain ⟨m, hm⟩ := Int.gcd_dvd_right a b
  have gz : (Int.gcd a b : Int) ≠ 0 := by omega
  rw [Rat.num_divInt, Rat.den_divInt, if_neg hb, Int.gcd_comm b a]
  unfold gcd
  generalize hgg : Int.gcd a b = g at *
  have e1 : ∀ z : Int, (g * z).fdiv g = z := fun z => by rw [Int.mul_comm, Int.mul_fdiv_cancel _ gz]
  have e2 : ∀ z : Int, (g * z).fdiv (-(g : Int)) = -z := fun z => by
    have : (g : Int) * z = (-z) * (-(g : Int)) := by rw [Int.neg_mul_neg, Int.mul_comm]
    rw [this, Int.mul_fdiv_cancel _ (by omega)]
  by_cases hs : b < 0
  · rw [if_pos hs, Int.sign_eq_neg_one_of_neg hs]
    constructor
    · conv => lhs; rw [hk, e2]
      have : -1 * a = -k * g := by rw [hk, Int.mul_comm (g:Int) k, Int.neg_mul, Int.neg_mul, Int.one_mul]
      rw [this, Int.mul_ediv_cancel _ gz]
    · conv => lhs; rw [hm, e2]
      have mneg : m < 0 := by
        rcases Int.lt_trichotomy m 0 with h | h | h
        · exact h
        · rw [h] at hm; omega
        · have := Int.mul_pos (show (0:Int) < g by omega) h; omega
      have : b.natAbs = m.natAbs * g := by rw [hm, Int.natAbs_mul, Int.natAbs_natCast, Nat.mul_comm]
      rw [this, Nat.mul_div_cancel _ gp]; omega
  · rw [if_neg hs, Int.sign_eq_one_of_pos (by omega)]
    constructor
    · conv => lhs; rw [hk, e1]
      have : 1 * a = k * g := by rw [hk, Int.mul_comm (g:Int) k, Int.one_mul]
      rw [this, Int.mul_ediv_cancel _ gz]
    · conv => lhs; rw [hm, e1]
      have mpos : 0 < m := by
        rcases Int.lt_trichotomy m 0 with h | h | h
        · have := Int.mul_neg_of_pos_of_neg (show (0:Int) < g by omega) h; omega
        · rw [h] at hm; omega
        · exact h
      have : b.natAbs = m.natAbs * g := by rw [hm, Int.natAbs_mul, Int.natAbs_natCast, Nat.mul_comm]
      rw [this, Nat.mul_div_cancel _ gp]; omega
theorem fdiv_exact {a : Int} {g : Nat} (h : (g : Int) ∣ a) : a.fdiv (g : Int) = a.tdiv g := by
  rw [Int.fdiv_eq_ediv_of_nonneg _ (Int.natCast_nonneg _), Int.tdiv_eq_ediv_of_dvd h]
theorem add_spec (x y : Rat) :
    let g := gcd x.den y.den
    let own := (x.den : Int).fdiv g
    let top := x.num * ((y.den : Int).fdiv g) + y.num * own
    let left := gcd top g
    top.fdiv left = (x + y).num ∧ own * ((y.den : Int).fdiv left) = ((x + y).den : Int) := by
  have hx := x.den_nz
  have hy := y.den_nz
  have eg : gcd x.den y.den = ((x.den.gcd y.den : Nat) : Int) := by unfold gcd; rw [Int.gcd_natCast_natCast]
  have gpos : 0 < x.den.gcd y.den := Nat.gcd_pos_of_pos_left _ (by omega)
  intro g own top left
  have hown : own = ((x.den / x.den.gcd y.den : Nat) : Int) := by show (x.den : Int).fdiv (gcd x.den y.den) = _; rw [eg, fdiv_nat]
  have htop : top = x.num * ((y.den / x.den.gcd y.den : Nat) : Int) + y.num * ((x.den / x.den.gcd y.den : Nat) : Int) := by
    show x.num * ((y.den : Int).fdiv (gcd x.den y.den)) + y.num * own = _
    rw [hown, eg, fdiv_nat]
  have hleft : left = ((top.natAbs.gcd (x.den.gcd y.den) : Nat) : Int) := by
    show ((Int.gcd top (gcd x.den y.den) : Nat) : Int) = _
    rw [eg]; rfl
  have e1 : x + y = Rat.add x y := rfl
  rw [e1]; delta Rat.add; dsimp only
  rw [hleft, hown]
  split
  · rename_i h1
    rw [htop]
    simp only [h1, Nat.div_one, Nat.gcd_one_right, fdiv_nat]
    simp
  · rename_i h1
    rw [Rat.maybeNormalize_eq]
    dsimp only
    simp only [Int.divExact_eq_tdiv]
    rw [← htop]
    have d1 : ((top.natAbs.gcd (x.den.gcd y.den) : Nat) : Int) ∣ top := Int.ofNat_dvd_left.2 (Nat.gcd_dvd_left _ _)
    have d2 : (top.natAbs.gcd (x.den.gcd y.den) : Nat) ∣ y.den := Nat.dvd_trans (Nat.gcd_dvd_right _ _) (Nat.gcd_dvd_right _ _)
    refine ⟨?_, ?_⟩
    · rw [fdiv_exact d1]
    · rw [fdiv_nat, ← Int.natCast_mul, Nat.mul_div_assoc _ d2]
theorem mul_spec (x y : Rat) :
    let first := gcd x.num y.den
    let second := gcd y.num x.den
    x.num.fdiv first * y.num.fdiv second = (x * y).num ∧ (x.den : Int).fdiv second * (y.den : Int).fdiv first = ((x * y).den : Int) := by
  intro first second
  have e1 : x * y = Rat.mul x y := rfl
  rw [e1]; delta Rat.mul; dsimp only
  have h1 : first = ((x.num.natAbs.gcd y.den : Nat) : Int) := rfl
  have h2 : second = ((y.num.natAbs.gcd x.den : Nat) : Int) := rfl
  rw [h1, h2]
  simp only [Int.divExact_eq_tdiv, Nat.divExact_eq_div]
  rw [fdiv_exact (Int.ofNat_dvd_left.2 (Nat.gcd_dvd_left _ _)), fdiv_exact (Int.ofNat_dvd_left.2 (Nat.gcd_dvd_left _ _)), fdiv_nat, fdiv_nat]
  exact ⟨rfl, by rw [Int.natCast_mul]⟩
end G
namespace G
/-! ### how long the numbers grow -/
def Bd (n : Nat) (x : Rat) : Prop := x.num.natAbs ≤ 2 ^ n ∧ x.den ≤ 2 ^ n
theorem pow_le {m n : Nat} (h : m ≤ n) : 2 ^ m ≤ 2 ^ n := Nat.pow_le_pow_right (by decide) h
theorem Bd.mono {m n : Nat} {x : Rat} (b : Bd m x) (h : m ≤ n) : Bd n x := ⟨Nat.le_trans b.1 (pow_le h), Nat.le_trans b.2 (pow_le h)⟩
theorem natAbs_ediv_le (a : Int) (d : Nat) : (a / (d : Int)).natAbs ≤ a.natAbs := by
  rcases Nat.eq_zero_or_pos d with h | h
  · subst h; simp
  · have hd : (0 : Int) < d := by omega
    rcases Int.le_total 0 a with ha | ha
    · have h1 := Int.ediv_nonneg ha (Int.le_of_lt hd)
      have h2 := Int.ediv_le_self (d : Int) ha
      omega
    · have h1 : a / (d : Int) ≤ 0 := Int.ediv_nonpos_of_nonpos_of_neg ha hd
      have h2 : a ≤ a / (d : Int) := by
        rw [Int.le_ediv_iff_mul_le hd]
        have h3 : 0 ≤ (-a) * ((d : Int) - 1) := Int.mul_nonneg (by omega) (by omega)
        rw [Int.neg_mul, Int.mul_sub, Int.mul_one] at h3
        omega
      omega
theorem Bd.divInt {n : Nat} {a b : Int} (ha : a.natAbs ≤ 2 ^ n) (hb : b.natAbs ≤ 2 ^ n) : Bd n (Rat.divInt a b) := by
  constructor
  · rw [Rat.num_divInt]
    refine Nat.le_trans (natAbs_ediv_le _ _) ?_
    rw [Int.natAbs_mul]
    have : b.sign.natAbs ≤ 1 := by
      rcases Int.lt_trichotomy b 0 with h | h | h
      · rw [Int.sign_eq_neg_one_of_neg h]; decide
      · rw [h]; decide
      · rw [Int.sign_eq_one_of_pos h]; decide
    calc b.sign.natAbs * a.natAbs ≤ 1 * a.natAbs := Nat.mul_le_mul_right _ this
      _ ≤ 2 ^ n := by omega
  · rw [Rat.den_divInt]
    split
    · exact Nat.one_le_two_pow
    · exact Nat.le_trans (Nat.div_le_self _ _) hb
theorem mul_le_pow {a b m n : Nat} (ha : a ≤ 2 ^ m) (hb : b ≤ 2 ^ n) : a * b ≤ 2 ^ (m + n) := by
  rw [Nat.pow_add]; exact Nat.mul_le_mul ha hb
theorem Bd.mul {m n : Nat} {x y : Rat} (hx : Bd m x) (hy : Bd n y) : Bd (m + n) (x * y) := by
  constructor
  · rw [Rat.num_mul]
    refine Nat.le_trans (natAbs_ediv_le _ _) ?_
    rw [Int.natAbs_mul]
    exact mul_le_pow hx.1 hy.1
  · rw [Rat.den_mul]
    exact Nat.le_trans (Nat.div_le_self _ _) (mul_le_pow hx.2 hy.2)
theorem Bd.one : Bd 0 1 := ⟨by decide, by decide⟩
end G
namespace G
theorem divInt_nn (n : Int) {d : Int} (h : 0 < d) : 0 ≤ Rat.divInt n d ↔ 0 ≤ n := Rat.divInt_nonneg_iff_of_pos_right h
theorem lt_div {a b c d : Int} (hb : 0 < b) (hd : 0 < d) : Rat.divInt a b < Rat.divInt c d ↔ a * d < c * b := by
  rw [← Rat.not_le, Rat.le_iff_sub_nonneg, Rat.divInt_sub_divInt _ _ (by omega) (by omega), divInt_nn _ (Int.mul_pos hb hd)]
  omega
theorem same_iff (x y : Rat) : (x.num = y.num ∧ (x.den : Int) = (y.den : Int)) ↔ x = y := by
  constructor
  · rintro ⟨h1, h2⟩
    exact Rat.ext h1 (by omega)
  · rintro rfl
    exact ⟨rfl, rfl⟩
end G
namespace G
open PySem
/-! ### texts -/
theorem str_ext {x y : Str} (h : x.cps.toList = y.cps.toList) : x = y := by
  cases x; cases y
  exact congrArg Str.mk (Array.toList_inj.mp h)
theorem cps_app (x y : Str) : (x ++ y).cps.toList = x.cps.toList ++ y.cps.toList := by
  show (x.cps ++ y.cps).toList = _
  exact Array.toList_append
theorem app_left {x y z : Str} (h : x ++ y = x ++ z) : y = z := by
  have := congrArg (fun u : Str => u.cps.toList) h
  simp only [cps_app] at this
  exact str_ext (List.append_cancel_left this)
theorem app_right {x y z : Str} (h : x ++ y = z ++ y) : x = z := by
  have := congrArg (fun u : Str => u.cps.toList) h
  simp only [cps_app] at this
  exact str_ext (List.append_cancel_right this)
theorem rep_cps (c n : Nat) : ((List.replicate n #[c]).foldl (· ++ ·) (#[] : Array Nat)).toList = List.replicate n c := by
  have : ∀ (n : Nat) (a : Array Nat), ((List.replicate n #[c]).foldl (· ++ ·) a).toList = a.toList ++ List.replicate n c := by
    intro n
    induction n with
    | zero => intro a; simp
    | succ n ih =>
      intro a
      rw [List.replicate_succ, List.foldl_cons, ih]
      simp [List.replicate_succ]
  simpa using this n #[]
theorem mul_cps (c : Nat) (n : Int) : (Txt.mul ⟨#[c]⟩ n).cps.toList = List.replicate n.toNat c := by
  unfold Txt.mul
  by_cases h1 : n < 1
  · rw [if_pos h1, show n.toNat = 0 by omega]
    rfl
  · rw [if_neg h1]
    by_cases h2 : n = 1
    · subst h2
      rfl
    · rw [if_neg (by simp [h2, Str.length])]
      exact rep_cps c n.toNat
theorem len_cps (x : Str) : x.length = x.cps.toList.length := by show x.cps.size = _; rw [Array.length_toList]
/-! ### the names -/
def sgs : Str := "abcdefghijklmnopqrstuvwxyz0123456789."
def sgAt (i : Int) : Nat := sgs.cps.toList.getD i.toNat 0
def turnK (k c : Int) : Int := (k * (1 + c / 5 % 36) + c / 180) % 37
def nameOf (k c : Int) : Str := if c % 3 = 0 then Txt.mul ⟨#[sgAt (c / 3 % 37)]⟩ (turnK k c + 1) else Txt.mul "x" (c / 3 % 25) ++ ⟨#[sgAt (turnK k c)]⟩ ++ Txt.mul "x" (c / 75 % 25)
theorem sgs_list : sgs.cps.toList = [97, 98, 99, 100, 101, 102, 103, 104, 105, 106, 107, 108, 109, 110, 111, 112, 113, 114, 115, 116, 117, 118, 119, 120, 121, 122, 48, 49, 50, 51, 52, 53, 54, 55, 56, 57, 46] := by decide +kernel
theorem sgAt_some {i : Int} (h0 : 0 ≤ i) (h1 : i < 37) : L2.atI sgs.cps.toList i = some (sgAt i) := by
  obtain ⟨n, rfl⟩ := Int.eq_ofNat_of_zero_le h0
  have hn : n < 37 := by omega
  refine L2.atI_nat ?_
  unfold sgAt
  rw [sgs_list, List.getD_eq_getElem?_getD, Int.toNat_natCast]
  rw [List.getElem?_eq_getElem (by simpa using hn)]
  rfl
theorem sgAt_inj : ∀ i < 37, ∀ j < 37, sgs.cps.toList.getD i 0 = sgs.cps.toList.getD j 0 → i = j := by
  rw [sgs_list]
  decide +kernel
end G
namespace G
/-! ### a total over one bottom -/
def Cop (a b : Int) : Prop := ∀ d : Int, d ∣ a → d ∣ b → d ∣ 1

structure TInv (x : Rat) (T B s : Int) : Prop where
  pB : 0 < B
  ps : 0 < s
  r : ∃ r, B = s * r ∧ Cop T r
  v : Rat.divInt T B = x
end G
namespace G
open PySem L2
/-! ### dicts from texts -/
/-- a name at the end, if it isn't there -/
def addK (ks : List Str) (n : Str) : List Str := if n ∈ ks then ks else ks ++ [n]
def keysOf (ns : List Str) : List Str := ns.foldl addK []
theorem mem_addK {ks : List Str} {n m : Str} : m ∈ addK ks n ↔ m ∈ ks ∨ m = n := by
  unfold addK
  split
  · exact ⟨.inl, fun h => h.elim id fun e => by rw [e]; assumption⟩
  · simp
theorem nodup_addK {ks : List Str} {n : Str} (h : ks.Nodup) : (addK ks n).Nodup := by
  unfold addK
  split
  · exact h
  · rename_i hn
    exact List.nodup_append.mpr ⟨h, by simp, fun x hx y hy e => hn (by rw [List.mem_singleton.mp hy] at e; rw [← e]; exact hx)⟩
def upf {α : Type} (f : Str → α) (n : Str) (y : α) : Str → α := fun m => if m = n then y else f m
theorem upf_same {α : Type} {f : Str → α} {n : Str} {y : α} : upf f n y n = y := if_pos rfl
theorem upf_ne {α : Type} {f : Str → α} {n m : Str} {y : α} (h : m ≠ n) : upf f n y m = f m := if_neg h
/-- the rows of a dict: the keys in order, and what each stands for -/
structure Tab {α : Type} (R : Hp → V → α → Prop) (H : Hp) (kvs : List (Key × V)) (ks : List Str) (f : Str → α) : Prop where
  keys : kvs.map (·.1) = ks.map (fun n => (Sum.inr n : Key))
  vals : ∀ n ∈ ks, ∃ v, valV kvs (Sum.inr n : Key) = some v ∧ R H v (f n)
section
variable {α : Type} {R : Hp → V → α → Prop} {H H' : Hp} {kvs : List (Key × V)} {ks : List Str} {f : Str → α} {n : Str} {v : V} {y : α}
theorem Tab.mono (t : Tab R H kvs ks f) (h : ∀ v x, R H v x → R H' v x) : Tab R H' kvs ks f := ⟨t.keys, fun n hn => let ⟨v, e, r⟩ := t.vals n hn; ⟨v, e, h _ _ r⟩⟩
theorem Tab.congr {g : Str → α} (t : Tab R H kvs ks f) (h : ∀ n ∈ ks, f n = g n) : Tab R H kvs ks g := ⟨t.keys, fun n hn => let ⟨v, e, r⟩ := t.vals n hn; ⟨v, e, by rw [← h n hn]; exact r⟩⟩
theorem Tab.nil : Tab R H [] [] f := ⟨rfl, fun n h => absurd h List.not_mem_nil⟩
theorem inr_in {n : Str} {ks : List Str} : (Sum.inr n : Key) ∈ ks.map (fun n => (Sum.inr n : Key)) ↔ n ∈ ks := by
  constructor
  · intro h
    obtain ⟨y, hy, e⟩ := List.mem_map.mp h
    rw [← Sum.inr.inj e]
    exact hy
  · exact fun h => List.mem_map.mpr ⟨n, h, rfl⟩
theorem Tab.none (t : Tab R H kvs ks f) (h : ¬ n ∈ ks) : valV kvs (Sum.inr n : Key) = none := by
  cases e : valV kvs (Sum.inr n : Key) with
  | none => rfl
  | some v =>
    have := valV_in e
    rw [t.keys] at this
    exact absurd (inr_in.mp this) h
theorem Tab.len (t : Tab R H kvs ks f) : kvs.length = ks.length := by have := congrArg List.length t.keys; rwa [List.length_map, List.length_map] at this
theorem Tab.put (t : Tab R H kvs ks f) (r : R H v y) : Tab R H (putK kvs (Sum.inr n : Key) v) (addK ks n) (upf f n y) := by
  refine ⟨?_, fun m hm => ?_⟩
  · by_cases hn : n ∈ ks
    · obtain ⟨u, e, _⟩ := t.vals n hn
      unfold putK addK
      rw [valV_any, e, if_pos (show (some u).isSome = true from rfl), if_pos hn, ← t.keys, List.map_map]
      refine List.map_congr_left fun kv _ => ?_
      show (if kv.1 = _ then _ else _ : Key × V).1 = kv.1
      split <;> rfl
    · rw [putK_new _ (t.none hn)]
      unfold addK
      rw [if_neg hn, List.map_append, List.map_append, t.keys]
      rfl
  · rw [valV_put]
    by_cases e : m = n
    · subst e
      rw [if_pos rfl, upf_same]
      exact ⟨v, rfl, r⟩
    · rw [if_neg fun z => e (Sum.inr.inj z), upf_ne e]
      exact t.vals m ((mem_addK.mp hm).resolve_right e)
theorem val_idx {κ : Type} [DecidableEq κ] : ∀ {kvs : List (κ × V)} {i : Nat} {kv : κ × V}, (kvs.map (·.1)).Nodup → kvs[i]? = some kv → valV kvs kv.1 = some kv.2
  | [], _, _, _, e => by simp at e
  | p :: r, 0, kv, _, e => by
    simp at e
    subst e
    exact valV_pos rfl
  | p :: r, i + 1, kv, nd, e => by
    have e : r[i]? = some kv := by simpa using e
    obtain ⟨h1, h2⟩ := List.nodup_cons.mp (show (p.1 :: r.map (·.1)).Nodup from nd)
    rw [valV_neg fun z => h1 (by rw [z]; exact List.mem_map.mpr ⟨kv, List.mem_of_getElem? e, rfl⟩)]
    exact val_idx h2 e
theorem Tab.at_ {i : Nat} {kv : Key × V} (t : Tab R H kvs ks f) (nd : ks.Nodup) (e : kvs[i]? = some kv) : ∃ n, ks[i]? = some n ∧ kv.1 = Sum.inr n ∧ valV kvs (Sum.inr n : Key) = some kv.2 ∧ R H kv.2 (f n) := by
  have hi : i < ks.length := by rw [← t.len]; exact (List.getElem?_eq_some_iff.mp e).1
  have e1 : kv.1 = Sum.inr ks[i] := by
    have g := congrArg (fun l => l[i]?) t.keys
    simp only [List.getElem?_map, e, List.getElem?_eq_getElem hi, Option.map_some] at g
    exact Option.some.inj g
  have nd2 : (kvs.map (·.1)).Nodup := by
    rw [t.keys]
    exact nd.map _ (fun u v h e => h (Sum.inr.inj e))
  have ev := val_idx nd2 e
  rw [e1] at ev
  obtain ⟨v, e2, r⟩ := t.vals _ (List.getElem_mem hi)
  rw [ev] at e2
  cases e2
  exact ⟨ks[i], List.getElem?_eq_getElem hi, e1, ev, r⟩
end
theorem take_next {ks : List Str} {i : Nat} {n : Str} (nd : ks.Nodup) (e : ks[i]? = some n) : ks.take (i + 1) = ks.take i ++ [n] ∧ ¬ n ∈ ks.take i := by
  have hi := (List.getElem?_eq_some_iff.mp e).1
  refine ⟨by rw [List.take_add_one, e]; rfl, fun m => ?_⟩
  obtain ⟨j, hj⟩ := List.mem_iff_getElem?.mp m
  have hj2 : j < i := by
    have := (List.getElem?_eq_some_iff.mp hj).1
    rw [List.length_take] at this
    omega
  rw [List.getElem?_take, if_pos hj2] at hj
  have := (List.getElem?_inj (by omega) nd).mp (hj.trans e.symm)
  omega
theorem addK_new {ks : List Str} {n : Str} (h : ¬ n ∈ ks) : addK ks n = ks ++ [n] := if_neg h
/-! ### all things but dicts stay -/
def KeepD (H H' : Hp) : Prop := ∀ b ob, H b = some ob → (∀ kvs, ob ≠ .dK kvs) → (∀ o u, ob ≠ .frz o u) → H' b = some ob
theorem KeepD.put {H : Hp} {d : Addr} {kvs : List (Key × V)} {o : HO} (hd : H d = some (.dK kvs)) : KeepD H (upd H d o) := fun b ob e h1 _ => by
  have : b ≠ d := fun z => by rw [z, hd] at e; exact h1 kvs (Option.some.inj e).symm
  rw [upd_ne this]
  exact e
/-! ### what is put together for each name -/
def occ (zs : List (Str × Rat)) (n : Str) : List Rat := (zs.filter (fun z => decide (z.1 = n))).map (·.2)
inductive BdS : List Rat → Nat → Prop
  | nil : BdS [] 0
  | snoc {xs : List Rat} {N m : Nat} {x : Rat} : BdS xs N → Bd m x → BdS (xs ++ [x]) (N + (m + 1))
end G
namespace G
open PySem L2
/-! ### rings: the search by steps -/
/-- a value for making, turned over for eating -/
def Wc (c : Bool) (x : Rat) : Rat := if c = true then x else x⁻¹
def btr (c : Bool) (x y : Rat) : Bool := if c = true then decide (y < x) else decide (x < y)
theorem Wc_pos {c : Bool} {x : Rat} (h : 0 < x) : 0 < Wc c x := by
  unfold Wc
  split
  · exact h
  · exact Rat.inv_pos.mpr h
theorem Wc_mul (c : Bool) (x y : Rat) : Wc c (x * y) = Wc c x * Wc c y := by
  unfold Wc
  split
  · rfl
  · rw [Rat.inv_mul_rev, Rat.mul_comm]
theorem inv_lt_iff {x y : Rat} (hx : 0 < x) (hy : 0 < y) : y⁻¹ < x⁻¹ ↔ x < y := by
  have nx : x ≠ 0 := fun e => by rw [e] at hx; exact Rat.lt_irrefl hx
  have ny : y ≠ 0 := fun e => by rw [e] at hy; exact Rat.lt_irrefl hy
  rw [← Rat.mul_lt_mul_left hx, Rat.mul_inv_cancel x nx, ← Rat.mul_lt_mul_right hy, Rat.mul_assoc, Rat.inv_mul_cancel y ny, Rat.mul_one, Rat.one_mul]
theorem btr_iff {c : Bool} {x y : Rat} (hx : 0 < x) (hy : 0 < y) : btr c x y = true ↔ Wc c y < Wc c x := by
  unfold btr Wc
  cases c with
  | true => rw [if_pos rfl, if_pos rfl, if_pos rfl, decide_eq_true_eq]
  | false => rw [if_neg (by decide), if_neg (by decide), if_neg (by decide), decide_eq_true_eq, inv_lt_iff hx hy]
theorem Wc_one (c : Bool) : Wc c 1 = 1 := by
  unfold Wc
  split
  · rfl
  · exact Rat.inv_eq_of_mul_eq_one (Rat.mul_one 1)
theorem rle {x y : Rat} (h : x < y) : x ≤ y := Rat.le_of_lt h
theorem rle_lt {x y z : Rat} (h1 : x ≤ y) (h2 : y < z) : x < z := by grind
theorem rlt_le {x y z : Rat} (h1 : x < y) (h2 : y ≤ z) : x < z := by grind
/-- ways of the search: start, goal, gain -/
structure Wy (α : Type) where
  st : α → Str
  go : α → Str
  gn : α → Rat
section
variable {α : Type} (Y : Wy α) (c : Bool)
abbrev BS (α : Type) := (Str → Rat) × (Str → Option α)
def bstep (v : Str → Rat) (s : BS α) (w : α) : BS α := if btr c (Y.gn w * v (Y.go w)) (s.1 (Y.st w)) = true then (upf s.1 (Y.st w) (Y.gn w * v (Y.go w)), upf s.2 (Y.st w) (some w)) else s
structure BSt (v : Str → Rat) (pt : Str → Option α) (ws : List α) (s : BS α) : Prop where
  pos : ∀ p, 0 < s.1 p
  le : ∀ p, Wc c (v p) ≤ Wc c (s.1 p)
  by_ : ∀ w ∈ ws, Wc c (Y.gn w * v (Y.go w)) ≤ Wc c (s.1 (Y.st w))
  or_ : ∀ p, (s.1 p = v p ∧ s.2 p = pt p) ∨ (Wc c (v p) < Wc c (s.1 p) ∧ ∃ w ∈ ws, Y.st w = p ∧ s.2 p = some w ∧ s.1 p = Y.gn w * v (Y.go w))
variable {Y c}
theorem BSt.nil {v : Str → Rat} {pt : Str → Option α} (hv : ∀ p, 0 < v p) : BSt Y c v pt [] (v, pt) := ⟨hv, fun _ => Rat.le_refl, fun w h => absurd h List.not_mem_nil, fun p => .inl ⟨rfl, rfl⟩⟩
theorem BSt.snoc {v : Str → Rat} {pt : Str → Option α} {ws : List α} {s : BS α} {w : α} (hv : ∀ p, 0 < v p) (hg : 0 < Y.gn w) (h : BSt Y c v pt ws s) : BSt Y c v pt (ws ++ [w]) (bstep Y c v s w) := by
  have hx : 0 < Y.gn w * v (Y.go w) := Rat.mul_pos hg (hv _)
  have hb := btr_iff (c := c) hx (h.pos (Y.st w))
  unfold bstep
  by_cases hc : btr c (Y.gn w * v (Y.go w)) (s.1 (Y.st w)) = true
  · rw [if_pos hc]
    have hlt := hb.mp hc
    have one : ∀ p, (upf s.1 (Y.st w) (Y.gn w * v (Y.go w))) p = if p = Y.st w then Y.gn w * v (Y.go w) else s.1 p := fun _ => rfl
    have two : ∀ p, (upf s.2 (Y.st w) (some w)) p = if p = Y.st w then some w else s.2 p := fun _ => rfl
    have up : ∀ p, Wc c (s.1 p) ≤ Wc c (upf s.1 (Y.st w) (Y.gn w * v (Y.go w)) p) := fun p => by
      rw [one]
      by_cases e : p = Y.st w
      · rw [if_pos e, e]; exact rle hlt
      · rw [if_neg e]; exact Rat.le_refl
    refine ⟨fun p => ?_, fun p => Rat.le_trans (h.le p) (up p), fun z hz => ?_, fun p => ?_⟩
    · show 0 < upf s.1 (Y.st w) (Y.gn w * v (Y.go w)) p
      rw [one]
      split
      · exact hx
      · exact h.pos p
    · rcases List.mem_append.mp hz with hz | hz
      · exact Rat.le_trans (h.by_ z hz) (up _)
      · rw [List.mem_singleton.mp hz]
        show _ ≤ Wc c (upf s.1 (Y.st w) (Y.gn w * v (Y.go w)) (Y.st w))
        rw [one, if_pos rfl]
        exact Rat.le_refl
    · show (upf s.1 (Y.st w) (Y.gn w * v (Y.go w)) p = v p ∧ upf s.2 (Y.st w) (some w) p = pt p) ∨ (Wc c (v p) < Wc c (upf s.1 (Y.st w) (Y.gn w * v (Y.go w)) p) ∧ ∃ z ∈ ws ++ [w], Y.st z = p ∧ upf s.2 (Y.st w) (some w) p = some z ∧ upf s.1 (Y.st w) (Y.gn w * v (Y.go w)) p = Y.gn z * v (Y.go z))
      rw [one, two]
      by_cases e : p = Y.st w
      · rw [if_pos e, if_pos e]
        refine .inr ⟨?_, w, List.mem_append_right _ (List.mem_singleton.mpr rfl), e.symm, rfl, rfl⟩
        rw [e]
        exact rle_lt (h.le _) hlt
      · rw [if_neg e, if_neg e]
        rcases h.or_ p with z | ⟨z1, z2, z3, z4⟩
        · exact .inl z
        · exact .inr ⟨z1, z2, List.mem_append_left _ z3, z4⟩
  · rw [if_neg hc]
    refine ⟨h.pos, h.le, fun z hz => ?_, fun p => ?_⟩
    · rcases List.mem_append.mp hz with hz | hz
      · exact h.by_ z hz
      · rw [List.mem_singleton.mp hz]
        exact Rat.not_lt.mp fun z => hc (hb.mpr z)
    · rcases h.or_ p with z | ⟨z1, z2, z3, z4⟩
      · exact .inl z
      · exact .inr ⟨z1, z2, List.mem_append_left _ z3, z4⟩
theorem BSt.fold {v : Str → Rat} {pt : Str → Option α} (hv : ∀ p, 0 < v p) : ∀ {us ws : List α} {s : BS α}, BSt Y c v pt ws s → (∀ w ∈ us, 0 < Y.gn w) → BSt Y c v pt (ws ++ us) (us.foldl (bstep Y c v) s)
  | [], ws, s, h, _ => by rw [List.append_nil]; exact h
  | u :: us, ws, s, h, hg => by
    rw [List.foldl_cons, show ws ++ u :: us = (ws ++ [u]) ++ us by simp]
    exact BSt.fold hv (h.snoc hv (hg u List.mem_cons_self)) fun w hw => hg w (List.mem_cons_of_mem _ hw)
variable (Y c)
/-- the steps one by one -/
def bseq (ws : List α) : Nat → BS α
  | 0 => (fun _ => 1, fun _ => none)
  | k + 1 => ws.foldl (bstep Y c (bseq ws k).1) (bseq ws k)
variable {Y c}
variable {ws : List α}
theorem bseq_pos (hg : ∀ w ∈ ws, 0 < Y.gn w) : ∀ k p, 0 < (bseq Y c ws k).1 p
  | 0, p => show (0 : Rat) < 1 by decide
  | k + 1, p => (BSt.fold (c := c) (bseq_pos hg k) (BSt.nil (pt := (bseq Y c ws k).2) (bseq_pos hg k)) hg).pos p
theorem bseq_st (hg : ∀ w ∈ ws, 0 < Y.gn w) (k : Nat) : BSt Y c (bseq Y c ws k).1 (bseq Y c ws k).2 ws (bseq Y c ws (k + 1)) :=
  BSt.fold (c := c) (bseq_pos hg k) (BSt.nil (pt := (bseq Y c ws k).2) (bseq_pos hg k)) hg
/-- the last step at which a place was bettered -/
def blast (Y : Wy α) (c : Bool) (ws : List α) : Nat → Str → Nat
  | 0, _ => 0
  | k + 1, p => if (bseq Y c ws (k + 1)).1 p = (bseq Y c ws k).1 p then blast Y c ws k p else k + 1
theorem blast_le : ∀ (k : Nat) (p : Str), blast Y c ws k p ≤ k
  | 0, _ => Nat.le_refl _
  | k + 1, p => by
    unfold blast
    split
    · exact Nat.le_succ_of_le (blast_le k p)
    · exact Nat.le_refl _
theorem bv_mono (hg : ∀ w ∈ ws, 0 < Y.gn w) (p : Str) {i : Nat} : ∀ {k : Nat}, i ≤ k → Wc c ((bseq Y c ws i).1 p) ≤ Wc c ((bseq Y c ws k).1 p)
  | 0, h => by obtain rfl : i = 0 := by omega
               exact Rat.le_refl
  | k + 1, h => by
    by_cases e : i = k + 1
    · rw [e]; exact Rat.le_refl
    · exact Rat.le_trans (bv_mono hg p (show i ≤ k by omega)) ((bseq_st hg k).le p)
theorem bv_stay {p : Str} {i : Nat} : ∀ {k : Nat}, blast Y c ws k p ≤ i → i ≤ k → (bseq Y c ws i).1 p = (bseq Y c ws k).1 p
  | 0, _, h => by obtain rfl : i = 0 := by omega
                  rfl
  | k + 1, h1, h2 => by
    by_cases e : i = k + 1
    · rw [e]
    · unfold blast at h1
      split at h1
      · rename_i e2
        rw [e2]
        exact bv_stay h1 (by omega)
      · omega
theorem bptr (hg : ∀ w ∈ ws, 0 < Y.gn w) {p : Str} {j : Nat} : ∀ {k : Nat}, blast Y c ws k p = j + 1 → ∃ w ∈ ws, Y.st w = p ∧ (bseq Y c ws k).2 p = some w ∧ (bseq Y c ws (j + 1)).1 p = Y.gn w * (bseq Y c ws j).1 (Y.go w) ∧ Wc c ((bseq Y c ws j).1 p) < Wc c ((bseq Y c ws (j + 1)).1 p)
  | 0, h => by cases h
  | k + 1, h => by
    unfold blast at h
    split at h
    · rename_i e
      obtain ⟨w, h1, h2, h3, h4⟩ := bptr hg h
      refine ⟨w, h1, h2, ?_, h4⟩
      rcases (bseq_st (c := c) hg k).or_ p with ⟨_, z⟩ | ⟨z, _⟩
      · rw [z]; exact h3
      · rw [e] at z; exact absurd z Rat.lt_irrefl
    · rename_i e
      obtain rfl : j = k := by omega
      rcases (bseq_st (c := c) hg j).or_ p with ⟨z, _⟩ | ⟨z, w, h1, h2, h3, h4⟩
      · exact absurd z e
      · exact ⟨w, h1, h2, h3, h4, z⟩
theorem bp_none (hg : ∀ w ∈ ws, 0 < Y.gn w) {p : Str} : ∀ {k : Nat}, blast Y c ws k p = 0 → (bseq Y c ws k).2 p = none
  | 0, _ => rfl
  | k + 1, h => by
    unfold blast at h
    split at h
    · rename_i e
      rcases (bseq_st (c := c) hg k).or_ p with ⟨_, z⟩ | ⟨z, _⟩
      · rw [z]; exact bp_none hg h
      · rw [e] at z; exact absurd z Rat.lt_irrefl
    · cases h
theorem blast_ge {p : Str} {j : Nat} (h : (bseq Y c ws (j + 1)).1 p ≠ (bseq Y c ws j).1 p) : ∀ {k : Nat}, j + 1 ≤ k → j + 1 ≤ blast Y c ws k p
  | 0, z => by omega
  | k + 1, z => by
    unfold blast
    split
    · rename_i e
      by_cases q : j = k
      · subst q; exact absurd e h
      · exact blast_ge h (by omega)
    · exact z
theorem bnext (hg : ∀ w ∈ ws, 0 < Y.gn w) {p : Str} {k : Nat} {w : α} (hw : (bseq Y c ws k).2 p = some w) : blast Y c ws k p ≤ blast Y c ws k (Y.go w) + 1 := by
  cases e : blast Y c ws k p with
  | zero => omega
  | succ j =>
    cases j with
    | zero => omega
    | succ j =>
      obtain ⟨w', h1, h2, h3, h4, h5⟩ := bptr hg e
      obtain rfl : w = w' := Option.some.inj (hw.symm.trans h3)
      have hk := blast_le (Y := Y) (c := c) (ws := ws) k p
      rw [e] at hk
      have : (bseq Y c ws (j + 1)).1 (Y.go w) ≠ (bseq Y c ws j).1 (Y.go w) := fun q => by
        have b := (bseq_st (c := c) hg j).by_ w h1
        rw [← q, ← h4, h2] at b
        exact Rat.lt_irrefl (rlt_le h5 b)
      have := blast_ge this (k := k) (by omega)
      omega
/-- along the pointers -/
def PathT (Y : Wy α) (pt : Str → Option α) : Str → List α → Str → Prop
  | p, [], q => p = q
  | p, w :: l, q => pt p = some w ∧ PathT Y pt (Y.go w) l q
theorem PathT.app {pt : Str → Option α} : ∀ {l1 l2 : List α} {p m q : Str}, PathT Y pt p l1 m → PathT Y pt m l2 q → PathT Y pt p (l1 ++ l2) q
  | [], _, _, _, _, h1, h2 => by rw [show _ = _ from h1]; exact h2
  | w :: l1, _, _, _, _, h1, h2 => ⟨h1.1, PathT.app h1.2 h2⟩
theorem PathT.split {pt : Str → Option α} : ∀ {l1 l2 : List α} {p q : Str}, PathT Y pt p (l1 ++ l2) q → ∃ m, PathT Y pt p l1 m ∧ PathT Y pt m l2 q
  | [], _, p, _, h => ⟨p, rfl, h⟩
  | w :: l1, _, _, _, h => let ⟨m, a, b⟩ := PathT.split h.2; ⟨m, ⟨h.1, a⟩, b⟩
def rprod (Y : Wy α) : List α → Rat
  | [] => 1
  | w :: l => Y.gn w * rprod Y l
theorem path1 (hg : ∀ w ∈ ws, 0 < Y.gn w) {k : Nat} {p : Str} {w : α} (hw : (bseq Y c ws k).2 p = some w) :
    Wc c ((bseq Y c ws k).1 p) ≤ Wc c (Y.gn w) * Wc c ((bseq Y c ws k).1 (Y.go w)) ∧ (Wc c ((bseq Y c ws k).1 p) < Wc c (Y.gn w) * Wc c ((bseq Y c ws k).1 (Y.go w)) ∨ blast Y c ws k (Y.go w) < blast Y c ws k p) := by
  cases e : blast Y c ws k p with
  | zero => rw [bp_none hg e] at hw; cases hw
  | succ j =>
    obtain ⟨w', h1, h2, h3, h4, h5⟩ := bptr hg e
    obtain rfl : w = w' := Option.some.inj (hw.symm.trans h3)
    have hk := blast_le (Y := Y) (c := c) (ws := ws) k p
    rw [e] at hk
    have gp := Wc_pos (c := c) (hg w h1)
    rw [← bv_stay (Nat.le_of_eq e) hk, h4, Wc_mul]
    refine ⟨Rat.mul_le_mul_of_nonneg_left (bv_mono hg _ (by omega)) (rle gp), ?_⟩
    by_cases hq : j + 1 ≤ blast Y c ws k (Y.go w)
    · refine .inl ?_
      cases e2 : blast Y c ws k (Y.go w) with
      | zero => omega
      | succ m =>
        obtain ⟨_, _, _, _, _, g5⟩ := bptr hg e2
        have hm := blast_le (Y := Y) (c := c) (ws := ws) k (Y.go w)
        rw [e2] at hm
        rw [bv_stay (Nat.le_of_eq e2) hm] at g5
        exact Rat.mul_lt_mul_of_pos_left (rle_lt (bv_mono hg _ (by omega)) g5) gp
    · exact .inr (by omega)
theorem path_le (hg : ∀ w ∈ ws, 0 < Y.gn w) {k : Nat} : ∀ {l : List α} {p q : Str}, (∀ w ∈ l, 0 < Y.gn w) → PathT Y (bseq Y c ws k).2 p l q →
    Wc c ((bseq Y c ws k).1 p) ≤ Wc c (rprod Y l) * Wc c ((bseq Y c ws k).1 q) ∧ (Wc c ((bseq Y c ws k).1 p) < Wc c (rprod Y l) * Wc c ((bseq Y c ws k).1 q) ∨ blast Y c ws k q < blast Y c ws k p ∨ l = [])
  | [], p, q, _, h => by
    rw [show p = q from h]
    refine ⟨?_, .inr (.inr rfl)⟩
    show _ ≤ Wc c 1 * _
    rw [Wc_one, Rat.one_mul]
    exact Rat.le_refl
  | w :: l, p, q, hl, ⟨h1, h2⟩ => by
    obtain ⟨a1, a2⟩ := path1 hg h1
    obtain ⟨b1, b2⟩ := path_le hg (fun z hz => hl z (List.mem_cons_of_mem _ hz)) h2
    have gp := Wc_pos (c := c) (hl w List.mem_cons_self)
    show _ ≤ Wc c (Y.gn w * rprod Y l) * _ ∧ (_ < Wc c (Y.gn w * rprod Y l) * _ ∨ _)
    rw [Wc_mul, Rat.mul_assoc]
    have c1 := Rat.mul_le_mul_of_nonneg_left b1 (rle gp)
    refine ⟨Rat.le_trans a1 c1, ?_⟩
    rcases a2 with a2 | a2
    · exact .inl (rlt_le a2 c1)
    · rcases b2 with b2 | b2 | b2
      · exact .inl (rle_lt a1 (Rat.mul_lt_mul_of_pos_left b2 gp))
      · exact .inr (.inl (by omega))
      · subst b2
        rw [show Y.go w = q from h2] at a2
        exact .inr (.inl a2)
theorem ring_gain (hg : ∀ w ∈ ws, 0 < Y.gn w) {k : Nat} {l : List α} {p : Str} (hl : ∀ w ∈ l, 0 < Y.gn w) (h : PathT Y (bseq Y c ws k).2 p l p) (ne : l ≠ []) : 1 < Wc c (rprod Y l) := by
  obtain ⟨_, b⟩ := path_le hg hl h
  have up := Wc_pos (c := c) (bseq_pos (c := c) hg k p)
  rcases b with b | b | b
  · rw [← Rat.mul_lt_mul_right up, Rat.one_mul]
    exact b
  · omega
  · exact absurd b ne
theorem path_last (hg : ∀ w ∈ ws, 0 < Y.gn w) {k : Nat} : ∀ {l : List α} {p q : Str}, PathT Y (bseq Y c ws k).2 p l q → blast Y c ws k p ≤ blast Y c ws k q + l.length
  | [], p, q, h => by rw [show p = q from h]; omega
  | w :: l, p, q, ⟨h1, h2⟩ => by
    have a := bnext hg h1
    have b := path_last hg h2
    rw [List.length_cons]
    omega
theorem bp_in (hg : ∀ w ∈ ws, 0 < Y.gn w) {k : Nat} {p : Str} {w : α} (h : (bseq Y c ws k).2 p = some w) : w ∈ ws ∧ Y.st w = p := by
  cases e : blast Y c ws k p with
  | zero => rw [bp_none hg e] at h; cases h
  | succ j =>
    obtain ⟨w', h1, h2, h3, _⟩ := bptr hg e
    obtain rfl : w = w' := Option.some.inj (h.symm.trans h3)
    exact ⟨h1, h2⟩
theorem PathT.all (hg : ∀ w ∈ ws, 0 < Y.gn w) {k : Nat} : ∀ {l : List α} {p q : Str}, PathT Y (bseq Y c ws k).2 p l q → ∀ w ∈ l, w ∈ ws ∧ (bseq Y c ws k).2 (Y.st w) = some w
  | [], _, _, _, w, h => absurd h List.not_mem_nil
  | z :: l, p, q, ⟨h1, h2⟩, w, h => by
    rcases List.mem_cons.mp h with rfl | h
    · obtain ⟨a, b⟩ := bp_in hg h1
      exact ⟨a, by rw [b]; exact h1⟩
    · exact PathT.all hg h2 w h
/-- from place to place -/
def Pth (Y : Wy α) : Str → List α → Str → Prop
  | p, [], q => p = q
  | p, w :: l, q => Y.st w = p ∧ Pth Y (Y.go w) l q
theorem PathT.pth (hg : ∀ w ∈ ws, 0 < Y.gn w) {k : Nat} : ∀ {l : List α} {p q : Str}, PathT Y (bseq Y c ws k).2 p l q → Pth Y p l q
  | [], _, _, h => h
  | w :: l, p, q, ⟨h1, h2⟩ => ⟨(bp_in hg h1).2, PathT.pth hg h2⟩
/-- a ring of listed ways that gives more (makes), or less -/
structure RingL (Y : Wy α) (c : Bool) (ws l : List α) : Prop where
  ne : l ≠ []
  sub : ∀ w ∈ l, w ∈ ws
  pth : ∃ p, Pth Y p l p
  nd : (l.map Y.st).Nodup
  gain : 1 < Wc c (rprod Y l)
theorem nodup_le {xs ys : List Str} (nd : xs.Nodup) (h : ∀ x ∈ xs, x ∈ ys) : xs.length ≤ ys.length := by
  induction xs generalizing ys with
  | nil => exact Nat.zero_le _
  | cons x xs ih =>
    obtain ⟨h1, h2⟩ := List.nodup_cons.mp nd
    have hx := h x List.mem_cons_self
    have := ih (ys := ys.erase x) h2 fun z hz => by
      rw [List.mem_erase_of_ne (fun e => h1 (by rw [← e]; exact hz))]
      exact h z (List.mem_cons_of_mem _ hz)
    rw [List.length_erase_of_mem hx] at this
    have := List.length_pos_of_mem hx
    rw [List.length_cons]
    omega
/-- the walk along the pointers, as far as it has come -/
structure Seen (Y : Wy α) (c : Bool) (ws : List α) (ns : List Str) (p0 : Str) (l : List α) (q : Str) : Prop where
  path : PathT Y (bseq Y c ws ns.length).2 p0 l q
  nd : (l.map Y.st).Nodup
  sub : ∀ w ∈ l, Y.st w ∈ ns
  here : q ∈ ns
theorem Seen.next {ns : List Str} {p0 q : Str} {l : List α} (hg : ∀ w ∈ ws, 0 < Y.gn w) (hin : ∀ w ∈ ws, Y.go w ∈ ns) (h0 : blast Y c ws ns.length p0 = ns.length) (h : Seen Y c ws ns p0 l q) (nq : ¬ q ∈ l.map Y.st) :
    l.length < ns.length ∧ ∃ w, (bseq Y c ws ns.length).2 q = some w ∧ w ∈ ws ∧ Y.st w = q ∧ Seen Y c ws ns p0 (l ++ [w]) (Y.go w) := by
  have nd2 : (l.map Y.st ++ [q]).Nodup := List.nodup_append.mpr ⟨h.nd, by simp, fun x hx y hy e => nq (by rw [List.mem_singleton.mp hy] at e; rw [← e]; exact hx)⟩
  have lt := nodup_le nd2 (ys := ns) fun x hx => by
    rcases List.mem_append.mp hx with hx | hx
    · obtain ⟨w, hw, rfl⟩ := List.mem_map.mp hx
      exact h.sub w hw
    · rw [List.mem_singleton.mp hx]; exact h.here
  rw [List.length_append, List.length_map, List.length_singleton] at lt
  refine ⟨by omega, ?_⟩
  have hl := path_last hg h.path
  rw [h0] at hl
  cases e : blast Y c ws ns.length q with
  | zero => omega
  | succ j =>
    obtain ⟨w, h1, h2, h3, _⟩ := bptr hg e
    refine ⟨w, h3, h1, h2, h.path.app ⟨h3, rfl⟩, ?_, fun z hz => ?_, hin w h1⟩
    · rw [List.map_append, show [w].map Y.st = [q] by rw [List.map_singleton, h2]]
      exact nd2
    · rcases List.mem_append.mp hz with hz | hz
      · exact h.sub z hz
      · rw [List.mem_singleton.mp hz, h2]; exact h.here
theorem Seen.ring {ns : List Str} {p0 q : Str} {l : List α} (hg : ∀ w ∈ ws, 0 < Y.gn w) (h : Seen Y c ws ns p0 l q) {i : Nat} (hi : (l.map Y.st)[i]? = some q) : RingL Y c ws (l.drop i) := by
  rw [List.getElem?_map] at hi
  cases e : l[i]? with
  | none => rw [e] at hi; cases hi
  | some w =>
    rw [e] at hi
    have es : Y.st w = q := Option.some.inj hi
    have hlt := (List.getElem?_eq_some_iff.mp e).1
    have ed : l.drop i = w :: l.drop (i + 1) := by
      rw [List.drop_eq_getElem_cons hlt]
      congr 1
      exact (List.getElem?_eq_some_iff.mp e).2
    have hp := h.path
    rw [← List.take_append_drop i l] at hp
    obtain ⟨m, _, h2⟩ := hp.split
    have em : m = q := by
      rw [ed] at h2
      rw [← es]
      exact (bp_in hg h2.1).2.symm
    subst em
    have all := PathT.all hg h2
    exact ⟨by rw [ed]; exact List.cons_ne_nil _ _, fun z hz => (all z hz).1, ⟨m, PathT.pth hg h2⟩, by rw [List.map_drop]; exact h.nd.sublist (List.drop_sublist _ _), ring_gain hg (fun z hz => hg z (all z hz).1) h2 (by rw [ed]; exact List.cons_ne_nil _ _)⟩
/-- nothing is bettered any more -/
theorem bseq_done (hg : ∀ w ∈ ws, 0 < Y.gn w) {ns : List Str} {k : Nat} (hs : ∀ w ∈ ws, Y.st w ∈ ns) (h : ∀ p ∈ ns, (bseq Y c ws (k + 1)).1 p = (bseq Y c ws k).1 p) : ∀ w ∈ ws, Wc c (Y.gn w * (bseq Y c ws k).1 (Y.go w)) ≤ Wc c ((bseq Y c ws k).1 (Y.st w)) := fun w hw => by
  have := (bseq_st (c := c) hg k).by_ w hw
  rw [h _ (hs w hw)] at this
  exact this
theorem blast_top {p : Str} {k : Nat} (h : (bseq Y c ws (k + 1)).1 p ≠ (bseq Y c ws k).1 p) : blast Y c ws (k + 1) p = k + 1 := by
  unfold blast
  rw [if_neg h]
end
end G
namespace G
open PySem L2
/-! ### sizes -/
def Sm (i : Int) : Prop := i.natAbs < 2 ^ 9000
def SmR (x : Rat) : Prop := Sm x.num ∧ Sm (x.den : Int)
theorem Sm.le {a b : Int} (h : Sm b) (l : a.natAbs ≤ b.natAbs) : Sm a := Nat.lt_of_le_of_lt l h
theorem fdiv_le (a : Int) {b : Int} (hb : 0 < b) (ha : 0 ≤ a) : (a.fdiv b).natAbs ≤ a.natAbs := by
  rw [Int.fdiv_eq_ediv_of_nonneg a (Int.le_of_lt hb)]
  have h1 := Int.ediv_nonneg ha (Int.le_of_lt hb)
  have h2 := Int.ediv_le_self b ha
  omega
theorem fdiv_le' (a : Int) {b : Int} (hb : 0 < b) (hd : b ∣ a) : (a.fdiv b).natAbs ≤ a.natAbs := by
  obtain ⟨k, rfl⟩ := hd
  have e : (b * k).fdiv b = k := by rw [Int.mul_comm, Int.mul_fdiv_cancel _ (by omega)]
  rw [e, Int.natAbs_mul]
  exact Nat.le_mul_of_pos_left _ (by omega)
theorem gcd_pos_r (a : Int) {b : Int} (h : b ≠ 0) : 0 < gcd a b := by
  have := Int.gcd_pos_of_ne_zero_right a h
  unfold gcd; omega
theorem gcd_le_r (a : Int) {b : Int} (h : b ≠ 0) : (gcd a b).natAbs ≤ b.natAbs := by
  have := Int.gcd_le_natAbs_right a h
  unfold gcd; omega
theorem gcd_dvd_l (a b : Int) : gcd a b ∣ a := Int.gcd_dvd_left a b
theorem Sm.gcd_r (a : Int) {b : Int} (h : b ≠ 0) (s : Sm b) : Sm (gcd a b) := s.le (gcd_le_r a h)
theorem den_ne (x : Rat) : (x.den : Int) ≠ 0 := by have := x.den_nz; omega
/-! ### a Fraction's attributes -/
theorem tb : ¬ (("top" : Str) = "bottom") := by decide +kernel
def ff (t b : Int) : List (Str × V) := [("top", .int t), ("bottom", .int b)]
theorem ff_T (t b : Int) : (ff t b).lookup ("top" : Str) = some (.int t) := rfl
theorem ff_B (t b : Int) : (ff t b).lookup ("bottom" : Str) = some (.int b) := by
  have h : (("bottom" : Str) == "top") = false := by decide +kernel
  show List.lookup ("bottom" : Str) [(("top" : Str), V.int t), ("bottom", V.int b)] = _
  rw [List.lookup_cons, h]
  rfl
theorem ff_no (t b : Int) {m : Str} (h1 : (m == "top") = false) (h2 : (m == "bottom") = false) : (ff t b).lookup m = none := by
  show List.lookup m [(("top" : Str), V.int t), ("bottom", V.int b)] = _
  rw [List.lookup_cons, h1, List.lookup_cons, h2]
  rfl
theorem ff_new (t b : Int) : putF "bottom" (.int b) (putF "top" (.int t) []) = ff t b := by
  show (if ("top" : Str) = "bottom" then _ else (("top" : Str), V.int t) :: [(("bottom" : Str), V.int b)]) = ff t b
  rw [if_neg tb]
  rfl
theorem ff_put (a c t b : Int) : putF "bottom" (.int b) (putF "top" (.int t) (ff a c)) = ff t b := by
  show putF "bottom" (.int b) (if ("top" : Str) = "top" then (("top" : Str), V.int t) :: [(("bottom" : Str), V.int c)] else _) = ff t b
  rw [if_pos rfl]
  show (if ("top" : Str) = "bottom" then _ else (("top" : Str), V.int t) :: (if ("bottom" : Str) = "bottom" then (("bottom" : Str), V.int b) :: [] else _)) = ff t b
  rw [if_neg tb, if_pos rfl]
  rfl
/-- a Fraction of the value x stands at p -/
def FrAt (C : Addr) (H : Hp) (p : Addr) (x : Rat) : Prop := ∃ dx, H p = some (.ins C dx (ff x.num x.den))
theorem FrAt.mono {C : Addr} {H H' : Hp} {p : Addr} {x : Rat} (h : FrAt C H p x) (s : Same H H') : FrAt C H' p x := let ⟨dx, e⟩ := h; ⟨dx, s _ _ e⟩
theorem FrAt.up {C : Addr} {H H' : Hp} {p : Addr} {x : Rat} (s : Same H H') (h : FrAt C H p x) : FrAt C H' p x := h.mono s
/-! ### what the program's own rules say of Fractions -/
/-- the class of Fractions -/
structure FrC (K : PySem.W.Frag) (C : Addr) : Prop where
  cl : Cls K C
  nT : NoAttr K C "top"
  nB : NoAttr K C "bottom"
  c1 : PySem.W.findIn K (.ref C) "__class__" = some (some (.builtin "object.__class__"))
  c2 : PySem.W.specialIn K (.builtin "object.__class__") "__get__" = some (some (.builtin "getset_descriptor.__get__"))
  c3 : PySem.W.takesIn K (.builtin "object.__class__") = some true
  c4 : PySem.W.mroIn K C (.type "object") = some true
def tTop (C : Addr) (ta : TE) : TE := fun σ H Q => ta σ H fun v H1 => ∃ p x, v = .ref p ∧ FrAt C H1 p x ∧ Q (.int x.num) H1
def tBot (C : Addr) (ta : TE) : TE := fun σ H Q => ta σ H fun v H1 => ∃ p x, v = .ref p ∧ FrAt C H1 p x ∧ Q (.int x.den) H1
section
variable {X : Cx} {C : Addr} {e o : Expr} {ta : TE} {pos : Pos}
/-- readings may be weakened -/
def Mono (t : TE) : Prop := ∀ σ H Q Q', (∀ v H1, Q v H1 → Q' v H1) → t σ H Q → t σ H Q'
theorem pe_top (F : FrC X.K C) (he : PE X e ta) (hb : attributeBase e "top" X.env (eval e X.env) = eval e X.env := by rfl) : PE X (.Attribute e "top" pos) (tTop C ta) := by
  intro pins s σ H Q I h
  refine attr_of hb (thn (he pins s σ H _ I h) fun u s1 ⟨v, H1, I1, r, p, x, e, ⟨dx, hp⟩, q⟩ => ?_)
  subst e
  obtain rfl : u = Value.ref p := r
  exact getattr_ok I1 hp F.cl F.nT (ff_T _ _) fun u' s' I' r' => ⟨_, H1, I', r', q⟩
theorem pe_bot (F : FrC X.K C) (he : PE X e ta) (hb : attributeBase e "bottom" X.env (eval e X.env) = eval e X.env := by rfl) : PE X (.Attribute e "bottom" pos) (tBot C ta) := by
  intro pins s σ H Q I h
  refine attr_of hb (thn (he pins s σ H _ I h) fun u s1 ⟨v, H1, I1, r, p, x, e, ⟨dx, hp⟩, q⟩ => ?_)
  subst e
  obtain rfl : u = Value.ref p := r
  exact getattr_ok I1 hp F.cl F.nB (ff_B _ _) fun u' s' I' r' => ⟨_, H1, I', r', q⟩
/-- x.m(..) of a Fraction -/
def tFrM (C : Addr) (sp : Sp) (E : XK) (ta : TE) (t : TA) : TE := fun σ H Q => ta σ H fun v H1 => ∃ p x, v = .ref p ∧ FrAt C H1 p x ∧ t σ H1 fun vs H2 => sp (v :: vs) H2 Q E
variable {CX : CXT} {k j : Nat} {ps : List Str} {sp : Sp} {E : XK} {m : Str} {p apos : Pos} {es : List Expr} {t : TA}
theorem pe_frm {pl : Sem Bool} (F : FrC X.K C) (he : PE X o ta) (M : MtB X.prog X.w X.K X.mg X.base CX C m k ps sp) (hr : Room j X.A) (hx : Passes CX X E) (ha : PA X (e :: es) t) (hj : k ≤ j := by decide) (h1 : (m == "top") = false := by decide +kernel) (h2 : (m == "bottom") = false := by decide +kernel)
    (hst : starEach (e :: es) X.env = (false, eval e X.env) :: starEach es X.env := by rfl) (hpl : (backTo pos (starEach es X.env)).any (·.1) = false := by rfl)
    (ht : eval (.Call (.Attribute o m apos) (e :: es) [] pos) X.env = (do
      let ov ← eval o X.env
      standAt apos.atName
      let (f, first) ← holding [ov] (getMethod ov m pl)
      callWith pos f first (backTo pos (starEach (e :: es) X.env)) (backToKw pos (keywordEach [] X.env))) := by rfl) : PE X (.Call (.Attribute o m apos) (e :: es) [] pos) (tFrM C sp E ta t) := by
  obtain ⟨f, fd, hm, b, d⟩ := M
  intro pins s σ H Q I h
  refine PySem.W.methodCall_KW (pl := pl) (thn (he pins s σ H _ I h) fun u s1 ⟨v, H1, I1, rx, a, x, ex, ⟨dx, ea⟩, q⟩ => ?_) ht
  subst ex
  obtain rfl : u = Value.ref a := rx
  refine getmeth_ok I1 ea F.cl hm (ff_no _ _ h1 h2) ?_
  refine PySem.W.callWith_K (first := [.ref a]) (h₀ := X.base) I.ok.mod.kin hm.kp (thn (ha pos pins s1 σ H1 _ I1 q) fun us s2 ⟨vs, H2, I2, r, q2⟩ => ⟨I2.kIn, ?_⟩) hst hpl
  exact run_fn (us := .ref a :: us) (vs := .ref a :: vs) (dvs := []) d (hr.mono hj) b .nil hx I2 (.cons rfl r) (by simpa using q2)
theorem pe_frm0 {pl : Sem Bool} (F : FrC X.K C) (he : PE X o ta) (M : MtB X.prog X.w X.K X.mg X.base CX C m k ps sp) (hr : Room j X.A) (hx : Passes CX X E) (hj : k ≤ j := by decide) (h1 : (m == "top") = false := by decide +kernel) (h2 : (m == "bottom") = false := by decide +kernel)
    (ht : eval (.Call (.Attribute o m apos) [] [] pos) X.env = (do
      let ov ← eval o X.env
      standAt apos.atName
      let (f, first) ← holding [ov] (getMethod ov m pl)
      callWith pos f first (backTo pos (starEach [] X.env)) (backToKw pos (keywordEach [] X.env))) := by rfl) : PE X (.Call (.Attribute o m apos) [] [] pos) (tFrM C sp E ta tNil) := by
  obtain ⟨f, fd, hm, b, d⟩ := M
  intro pins s σ H Q I h
  refine PySem.W.methodCall_KW (pl := pl) (thn (he pins s σ H _ I h) fun u s1 ⟨v, H1, I1, rx, a, x, ex, ⟨dx, ea⟩, q⟩ => ?_) ht
  subst ex
  obtain rfl : u = Value.ref a := rx
  refine getmeth_ok I1 ea F.cl hm (ff_no _ _ h1 h2) ?_
  exact PySem.W.callWith_K0 (first := [.ref a]) I1.kIn hm.kp (run_fn (us := [.ref a]) (vs := [.ref a]) (dvs := []) d (hr.mono hj) b .nil hx I1 (.cons rfl .nil) q)
/-! ### promises -/
def spDiv : Sp := fun vs H Q _ => ∃ a b : Int, vs = [.int a, .int b] ∧ Q (.int (gcd a b)) H
def spInit (C : Addr) : Sp := fun vs H Q _ => ∃ (p dx : Addr) (a b : Int), vs = [.ref p, .int a, .int b] ∧ H p = some (.ins C dx []) ∧ b ≠ 0 ∧ Sm b ∧ ∀ H', H' = upd H p (.ins C dx (ff (Rat.divInt a b).num (Rat.divInt a b).den)) → Q .non H'
/-- a new Fraction of the value x comes -/
def NewFr (C : Addr) (H : Hp) (Q : VK) (x : Rat) : Prop := ∀ (r : Addr) (H' : Hp), H r = none → Same H H' → FrAt C H' r x → Q (.ref r) H'
def spLow (C : Addr) : Sp := fun vs H Q _ => ∃ t b : Int, vs = [.int t, .int b] ∧ ∀ (r dx : Addr) (H' : Hp), H r = none → Same H H' → H' r = some (.ins C dx (ff t b)) → Q (.ref r) H'
def spR2 (C : Addr) (f : Rat → Rat → Rat) (pre : Rat → Rat → Prop) : Sp := fun vs H Q _ => ∃ (p q : Addr) (x y : Rat), vs = [.ref p, .ref q] ∧ FrAt C H p x ∧ FrAt C H q y ∧ SmR x ∧ SmR y ∧ pre x y ∧ NewFr C H Q (f x y)
/-- a Fraction made -/
theorem mk_fr {H : Hp} {a b : Int} {Q : VK} {E : XK} {x dx : Addr} (nx : H x = none) (nd : H dx = none) (hb : b ≠ 0) (hs : Sm b) (k : ∀ H' : Hp, Same H H' → FrAt C H' x (Rat.divInt a b) → Q .non H') :
    spInit C [.ref x, .int a, .int b] (upd (upd H dx (.own x)) x (.ins C dx [])) Q E := by
  refine ⟨x, dx, a, b, rfl, upd_same, hb, hs, fun H' e => ?_⟩
  subst e
  refine k _ (fun c o e => ?_) ⟨dx, upd_same⟩
  rw [upd_ne (ne_of_none e nx), upd_ne (ne_of_none e nx), upd_ne (ne_of_none e nd)]
  exact e
/-- Fraction(a, b) -/
def tMkFr (C : Addr) (dvs : List V) (t : TA) : TE := fun σ H Q => t σ H fun vs H1 => ∃ a b : Int, vs ++ dvs = [.int a, .int b] ∧ b ≠ 0 ∧ Sm b ∧ NewFr C H1 Q (Rat.divInt a b)
theorem pe_mkfr {dvs : List V} {x : Str} (F : MkB X.prog X.w X.K X.mg X.base CX C k ["self", "top", "bottom"] dvs (spInit C)) (hr : Room j X.A) (hm : X.mg x = some (.ref C)) (hx : Passes CX X E) (ha : PA X (e :: es) t) (hj : k + 1 ≤ j := by decide) (hg : Gl X x := by rfl) (hdb : (x == ("__debug__" : Str)) = false := by decide)
    (he : starEach (e :: es) X.env = (false, eval e X.env) :: starEach es X.env := by rfl) (hpl : (backTo pos (starEach es X.env)).any (·.1) = false := by rfl) : PE X (.Call (.Name x p) (e :: es) [] pos) (tMkFr C dvs t) := by
  obtain ⟨f, fd, ds, M, b, c, d⟩ := F
  intro pins s σ H Q I h
  refine wpAny_Call_Name_kw (ld_glob I hg hm ?_ hdb)
  refine PySem.W.callWith_K (h₀ := X.base) I.ok.mod.kin M.kp (thn (ha pos pins s σ H _ I h) fun us s1 ⟨vs, H1, I1, r, a', b', ev, hb, hs, q⟩ => ⟨I1.kIn, ?_⟩) he hpl
  refine run_make M d (hr.mono hj) b c hx I1 r fun y dx n1 n2 _ => ?_
  rw [ev]
  exact mk_fr n1 n2 hb hs fun H' s' f' => ⟨rfl, q y H' n1 s' f'⟩
/-- isinstance(e, Fraction) of a Fraction -/
def tIsFr (C : Addr) (ta : TE) : TE := fun σ H Q => ta σ H fun v H1 => ∃ p x, v = .ref p ∧ FrAt C H1 p x ∧ Q (.bl true) H1
end
end G
namespace G
open PySem L2
def topS (i : Nat) : Stmt := PySem.Challenge.pw_gainstream_k30_rings_that_were_built.main.body.getD i (.Pass ⟨0, 0, 0, 0⟩)
abbrev s_divisor : Stmt := topS 9
abbrev s_in_lowest_terms : Stmt := topS 11
abbrev s_is_more : Stmt := topS 13
abbrev s_is_less : Stmt := topS 14
abbrev s_bettered : Stmt := topS 15
abbrev s_ring_along : Stmt := topS 16
abbrev s_place_bettered : Stmt := topS 17
abbrev s_ones : Stmt := topS 18
abbrev s_ring_or_weights : Stmt := topS 19
abbrev s_making : Stmt := topS 20
abbrev s_eating : Stmt := topS 21
abbrev s_wants_by_name : Stmt := topS 30
abbrev s_check_way : Stmt := topS 31
abbrev s_ways_by_name : Stmt := topS 32
abbrev s_law_cell_at : Stmt := topS 35
abbrev s_law_names : Stmt := topS 36
abbrev s_law_pots : Stmt := topS 37
abbrev s_law_way : Stmt := topS 38
abbrev s_law_net : Stmt := topS 39
abbrev s_law_factor : Stmt := topS 40
abbrev s_law_ways : Stmt := topS 41
abbrev s_law_right : Stmt := topS 42
abbrev s_law_refusal : Stmt := topS 43
abbrev s_law : Stmt := topS 44
abbrev s_Fraction_init : Stmt := inClass (topS 10) 0
abbrev s_Fraction_plus : Stmt := inClass (topS 10) 1
abbrev s_Fraction_minus : Stmt := inClass (topS 10) 2
abbrev s_Fraction_times : Stmt := inClass (topS 10) 3
abbrev s_Fraction_under : Stmt := inClass (topS 10) 5
abbrev s_Fraction_same : Stmt := inClass (topS 10) 6
abbrev s_Fraction_sign : Stmt := inClass (topS 10) 7
abbrev s_Way_init : Stmt := inClass (topS 23) 0
abbrev s_Way_may_stay : Stmt := inClass (topS 23) 1
abbrev s_Way_gain : Stmt := inClass (topS 23) 2
abbrev s_Growing_init : Stmt := inClass (topS 24) 0
abbrev s_Growing_gain : Stmt := inClass (topS 24) 1
abbrev s_Leaking_init : Stmt := inClass (topS 25) 0
abbrev s_Leaking_gain : Stmt := inClass (topS 25) 1
abbrev s_Store_init : Stmt := inClass (topS 26) 0
abbrev s_Store_may_stay : Stmt := inClass (topS 26) 1
abbrev s_Net_init : Stmt := inClass (topS 33) 0
abbrev s_Net_names : Stmt := inClass (topS 33) 1
abbrev s_Net_want : Stmt := inClass (topS 33) 2
abbrev s_Net_way : Stmt := inClass (topS 33) 3
abbrev s_NoWay_init : Stmt := inClass (topS 5) 0
abbrev s_Twice_init : Stmt := inClass (topS 6) 0
abbrev s_NoPlace_init : Stmt := inClass (topS 7) 0
/-- where the classes lie -/
structure Ad where
  Fraction : Addr
  Way : Addr
  Growing : Addr
  Leaking : Addr
  Store : Addr
  Net : Addr
  GainError : Addr
  NoNumber : Addr
  TooMany : Addr
  NoWay : Addr
  Twice : Addr
  NoPlace : Addr
/-- what the walk asks of the text as the top has made it -/
structure TX (K : PySem.W.Frag) (mg : Str → Option Value) (a : Ad) : Prop where
  d_divisor : FDe K mg "divisor" s_divisor ["one", "other"]
  d_in_lowest_terms : FDe K mg "in_lowest_terms" s_in_lowest_terms ["top", "bottom"]
  d_is_more : FDe K mg "is_more" s_is_more ["one", "other"]
  d_is_less : FDe K mg "is_less" s_is_less ["one", "other"]
  d_bettered : FDe K mg "bettered" s_bettered ["ways", "values", "pointers", "better"]
  d_ring_along : FDe K mg "ring_along" s_ring_along ["pointers", "place"]
  d_place_bettered : FDe K mg "place_bettered" s_place_bettered ["values", "fresh"]
  d_ones : FDe K mg "ones" s_ones ["net"]
  d_ring_or_weights : FDe K mg "ring_or_weights" s_ring_or_weights ["net", "names", "better"]
  d_making : FDe K mg "making" s_making ["net", "names"]
  d_eating : FDe K mg "eating" s_eating ["net", "names"]
  d_wants_by_name : FDe K mg "wants_by_name" s_wants_by_name ["places"]
  d_check_way : FDe K mg "check_way" s_check_way ["way", "ahead", "wants"]
  d_ways_by_name : FDe K mg "ways_by_name" s_ways_by_name ["ways", "wants"]
  d_law_cell_at : FDe K mg "_law_cell_at" s_law_cell_at ["_law_script", "_law_k"]
  d_law_names : FDe K mg "_law_names" s_law_names ["_law_cell", "_law_count"]
  d_law_pots : FDe K mg "_law_pots" s_law_pots ["_law_cell", "_law_count"]
  d_law_way : FDe K mg "_law_way" s_law_way ["_law_name", "_law_parts"]
  d_law_net : FDe K mg "_law_net" s_law_net ["_law_spots", "_law_ways_here"]
  d_law_factor : FDe K mg "_law_factor" s_law_factor ["_law_cell"]
  d_law_ways : FDe K mg "_law_ways" s_law_ways ["_law_script", "_law_spots", "_law_factor_here", "_law_upended"]
  d_law_right : FDe K mg "_law_right" s_law_right ["_law_found", "_law_last", "_law_more"]
  d_law_refusal : FDe K mg "_law_refusal" s_law_refusal ["_law_net_here", "_law_names_here", "_law_makes"]
  d_law : FDe K mg "law" s_law ["_law_script"]
  cl_Fraction : Cls K a.Fraction
  mg_Fraction : mg "Fraction" = some (.ref a.Fraction)
  na_Fraction_top : NoAttr K a.Fraction "top"
  na_Fraction_bottom : NoAttr K a.Fraction "bottom"
  i_Fraction : IDe K a.Fraction "Fraction.__init__" s_Fraction_init ["self", "top", "bottom"] [[], [V.int 1]]
  m_Fraction_plus : MDe K a.Fraction "plus" "Fraction.plus" s_Fraction_plus ["self", "other"]
  m_Fraction_minus : MDe K a.Fraction "minus" "Fraction.minus" s_Fraction_minus ["self", "other"]
  m_Fraction_times : MDe K a.Fraction "times" "Fraction.times" s_Fraction_times ["self", "other"]
  m_Fraction_under : MDe K a.Fraction "under" "Fraction.under" s_Fraction_under ["self", "other"]
  m_Fraction_same : MDe K a.Fraction "same" "Fraction.same" s_Fraction_same ["self", "other"]
  m_Fraction_sign : MDe K a.Fraction "sign" "Fraction.sign" s_Fraction_sign ["self"]
  c1_Fraction : PySem.W.findIn K (.ref a.Fraction) "__class__" = some (some (.builtin "object.__class__"))
  c4_Fraction : PySem.W.mroIn K a.Fraction (.type "object") = some true
  cl_Way : Cls K a.Way
  mg_Way : mg "Way" = some (.ref a.Way)
  na_Way_name : NoAttr K a.Way "name"
  na_Way_start : NoAttr K a.Way "start"
  na_Way_goal : NoAttr K a.Way "goal"
  na_Way_high : NoAttr K a.Way "high"
  na_Way_cost : NoAttr K a.Way "cost"
  i_Way : IDe K a.Way "Way.__init__" s_Way_init ["self", "name", "start", "goal", "high", "cost"] [[], [V.non, V.non]]
  c_Way : CDe K a.Way "Way.__init__" s_Way_init ["self", "name", "start", "goal", "high", "cost"]
  m_Way_may_stay : MDe K a.Way "may_stay" "Way.may_stay" s_Way_may_stay ["self"]
  m_Way_gain : MDe K a.Way "gain" "Way.gain" s_Way_gain ["self"]
  c1_Way : PySem.W.findIn K (.ref a.Way) "__class__" = some (some (.builtin "object.__class__"))
  c4_Way : PySem.W.mroIn K a.Way (.type "object") = some true
  cl_Growing : Cls K a.Growing
  mg_Growing : mg "Growing" = some (.ref a.Growing)
  na_Growing_rate : NoAttr K a.Growing "rate"
  na_Growing_name : NoAttr K a.Growing "name"
  na_Growing_start : NoAttr K a.Growing "start"
  na_Growing_goal : NoAttr K a.Growing "goal"
  na_Growing_high : NoAttr K a.Growing "high"
  na_Growing_cost : NoAttr K a.Growing "cost"
  i_Growing : IDe K a.Growing "Growing.__init__" s_Growing_init ["self", "name", "start", "goal", "rate", "high", "cost"] [[], [V.non, V.non]]
  m_Growing_gain : MDe K a.Growing "gain" "Growing.gain" s_Growing_gain ["self"]
  m_Growing_may_stay : MDe K a.Growing "may_stay" "Way.may_stay" s_Way_may_stay ["self"]
  c1_Growing : PySem.W.findIn K (.ref a.Growing) "__class__" = some (some (.builtin "object.__class__"))
  c4_Growing : PySem.W.mroIn K a.Growing (.type "object") = some true
  cl_Leaking : Cls K a.Leaking
  mg_Leaking : mg "Leaking" = some (.ref a.Leaking)
  na_Leaking_loss : NoAttr K a.Leaking "loss"
  na_Leaking_name : NoAttr K a.Leaking "name"
  na_Leaking_start : NoAttr K a.Leaking "start"
  na_Leaking_goal : NoAttr K a.Leaking "goal"
  na_Leaking_high : NoAttr K a.Leaking "high"
  na_Leaking_cost : NoAttr K a.Leaking "cost"
  i_Leaking : IDe K a.Leaking "Leaking.__init__" s_Leaking_init ["self", "name", "start", "goal", "loss", "high", "cost"] [[], [V.non, V.non]]
  m_Leaking_gain : MDe K a.Leaking "gain" "Leaking.gain" s_Leaking_gain ["self"]
  m_Leaking_may_stay : MDe K a.Leaking "may_stay" "Way.may_stay" s_Way_may_stay ["self"]
  c1_Leaking : PySem.W.findIn K (.ref a.Leaking) "__class__" = some (some (.builtin "object.__class__"))
  c4_Leaking : PySem.W.mroIn K a.Leaking (.type "object") = some true
  cl_Store : Cls K a.Store
  mg_Store : mg "Store" = some (.ref a.Store)
  na_Store_loss : NoAttr K a.Store "loss"
  na_Store_name : NoAttr K a.Store "name"
  na_Store_start : NoAttr K a.Store "start"
  na_Store_goal : NoAttr K a.Store "goal"
  na_Store_high : NoAttr K a.Store "high"
  na_Store_cost : NoAttr K a.Store "cost"
  m_Store_may_stay : MDe K a.Store "may_stay" "Store.may_stay" s_Store_may_stay ["self"]
  m_Store_gain : MDe K a.Store "gain" "Leaking.gain" s_Leaking_gain ["self"]
  c1_Store : PySem.W.findIn K (.ref a.Store) "__class__" = some (some (.builtin "object.__class__"))
  c4_Store : PySem.W.mroIn K a.Store (.type "object") = some true
  cl_Net : Cls K a.Net
  mg_Net : mg "Net" = some (.ref a.Net)
  na_Net_wants : NoAttr K a.Net "wants"
  na_Net_ways : NoAttr K a.Net "ways"
  i_Net : IDe K a.Net "Net.__init__" s_Net_init ["self", "places", "ways"] [[]]
  m_Net_names : MDe K a.Net "names" "Net.names" s_Net_names ["self"]
  m_Net_way : MDe K a.Net "way" "Net.way" s_Net_way ["self", "name"]
  no_Net_sign : PySem.W.findIn K (.ref a.Net) "sign" = some none
  no_Net_may_stay : PySem.W.findIn K (.ref a.Net) "may_stay" = some none
  c2 : PySem.W.specialIn K (.builtin "object.__class__") "__get__" = some (some (.builtin "getset_descriptor.__get__"))
  c3 : PySem.W.takesIn K (.builtin "object.__class__") = some true
  mg_GainError : mg "GainError" = some (.ref a.GainError)
  mg_NoWay : mg "NoWay" = some (.ref a.NoWay)
  xi_NoWay : XiDe K a.NoWay "NoWay.__init__" s_NoWay_init ["self", "name"]
  xs_NoWay : ExI K a.NoWay
  na_NoWay_name : NoAttr K a.NoWay "name"
  hd_NoWay : PySem.W.hasDictIn K a.NoWay = true
  br_NoWay : ClsRd K a.GainError
  bf_NoWay : PySem.W.findCls K (.ref a.GainError) (.type "type") "__init__" = some (.val (.builtin "ValueError.__init__"))
  ca1_NoWay : PySem.W.instIn K (.ref a.NoWay) (.type "tuple") = some false
  ca2_NoWay : ∃ cd, PySem.W.clsIn K a.NoWay = some cd
  ca3_NoWay : PySem.W.subIn K (.ref a.NoWay) (.type "BaseException") = some true
  su_NoWay_NoWay : PySem.W.subIn K (.ref a.NoWay) (.ref a.NoWay) = some true
  k_Way_Store : PySem.W.kitOne K (.ref a.Way) (.ref a.Store) = some false
  k_Growing_Store : PySem.W.kitOne K (.ref a.Growing) (.ref a.Store) = some false
  k_Leaking_Store : PySem.W.kitOne K (.ref a.Leaking) (.ref a.Store) = some false
  k_dict_dict : PySem.W.kitOne K (.type "dict") (.type "dict") = some true
  k_list_list : PySem.W.kitOne K (.type "list") (.type "list") = some true
  k_str_str : PySem.W.kitOne K (.type "str") (.type "str") = some true
  k_tuple_tuple : PySem.W.kitOne K (.type "tuple") (.type "tuple") = some true
  xga_NoWay : PySem.W.findIn K (.ref a.NoWay) "__getattribute__" = some (some (.builtin "BaseException.__getattribute__"))
  xgh_NoWay : PySem.W.findIn K (.ref a.NoWay) "__getattr__" = some none
  xbe_NoWay : PySem.W.mroIn K a.NoWay (.type "BaseException") = some true
  xca_NoWay : PySem.W.findIn K (.ref a.NoWay) "__class__" = some (some (.builtin "object.__class__"))
  xob_NoWay : PySem.W.mroIn K a.NoWay (.type "object") = some true
  xcl_NoWay : ∃ cd, PySem.W.clsIn K a.NoWay = some cd
  k_NoWay_GainError : PySem.W.kitOne K (.ref a.NoWay) (.ref a.GainError) = some true
  gi_MOST_PLACES : ∃ tk, mg "MOST_PLACES" = some (.int 12 tk)
  gi_MOST_WAYS : ∃ tk, mg "MOST_WAYS" = some (.int 24 tk)
  z_abs : mg "abs" = none
  z_dict : mg "dict" = none
  z_isinstance : mg "isinstance" = none
  z_len : mg "len" = none
  z_list : mg "list" = none
  z_range : mg "range" = none
  z_reversed : mg "reversed" = none
  z_str : mg "str" = none
  z_tuple : mg "tuple" = none
open PySem L2 in
local macro_rules | `(tactic| walk_at "sc") => `(tactic| exact ⟨rfl, rfl, rfl, by decide +kernel, rfl, by decide +kernel, by decide +kernel⟩)
section
variable {P : Program} {w : World} {K : PySem.W.Frag} {mg : Str → Option Value} {base : Heap} {a : Ad}
theorem TX.exa_NoWay (T : TX K mg a) : ExA K a.NoWay := ⟨T.xga_NoWay, T.xgh_NoWay, T.xbe_NoWay, T.xca_NoWay, T.c2, T.c3, T.xob_NoWay, T.xcl_NoWay⟩
theorem sc_divisor : FnScope ["one", "other", "rest"] ["one", "other"] (defScope s_divisor) := by walk_at "sc"
theorem sc_in_lowest_terms : FnScope ["top", "bottom", "made"] ["top", "bottom"] (defScope s_in_lowest_terms) := by walk_at "sc"
theorem sc_is_more : FnScope ["one", "other"] ["one", "other"] (defScope s_is_more) := by walk_at "sc"
theorem sc_is_less : FnScope ["one", "other"] ["one", "other"] (defScope s_is_less) := by walk_at "sc"
theorem sc_bettered : FnScope ["ways", "values", "pointers", "better", "fresh", "moved", "way", "value"] ["ways", "values", "pointers", "better"] (defScope s_bettered) := by walk_at "sc"
theorem sc_ring_along : FnScope ["pointers", "place", "seen", "ring"] ["pointers", "place"] (defScope s_ring_along) := by walk_at "sc"
theorem sc_place_bettered : FnScope ["values", "fresh", "place"] ["values", "fresh"] (defScope s_place_bettered) := by walk_at "sc"
theorem sc_ones : FnScope ["net", "values", "place"] ["net"] (defScope s_ones) := by walk_at "sc"
theorem sc_ring_or_weights : FnScope ["net", "names", "better", "ways", "values", "pointers", "left", "step", "place"] ["net", "names", "better"] (defScope s_ring_or_weights) := by walk_at "sc"
theorem sc_making : FnScope ["net", "names"] ["net", "names"] (defScope s_making) := by walk_at "sc"
theorem sc_eating : FnScope ["net", "names"] ["net", "names"] (defScope s_eating) := by walk_at "sc"
theorem sc_wants_by_name : FnScope ["places", "wants", "name", "want"] ["places"] (defScope s_wants_by_name) := by walk_at "sc"
theorem sc_check_way : FnScope ["way", "ahead", "wants", "place"] ["way", "ahead", "wants"] (defScope s_check_way) := by walk_at "sc"
theorem sc_ways_by_name : FnScope ["ways", "wants", "ahead", "way"] ["ways", "wants"] (defScope s_ways_by_name) := by walk_at "sc"
theorem sc_law_cell_at : FnScope ["_law_script", "_law_k"] ["_law_script", "_law_k"] (defScope s_law_cell_at) := by walk_at "sc"
theorem sc_law_names : FnScope ["_law_cell", "_law_count", "_law_signs", "_law_fill", "_law_at"] ["_law_cell", "_law_count"] (defScope s_law_names) := by walk_at "sc"
theorem sc_law_pots : FnScope ["_law_cell", "_law_count"] ["_law_cell", "_law_count"] (defScope s_law_pots) := by walk_at "sc"
theorem sc_law_way : FnScope ["_law_name", "_law_parts", "_law_gain"] ["_law_name", "_law_parts"] (defScope s_law_way) := by walk_at "sc"
theorem sc_law_net : FnScope ["_law_spots", "_law_ways_here"] ["_law_spots", "_law_ways_here"] (defScope s_law_net) := by walk_at "sc"
theorem sc_law_factor : FnScope ["_law_cell"] ["_law_cell"] (defScope s_law_factor) := by walk_at "sc"
theorem sc_law_ways : FnScope ["_law_script", "_law_spots", "_law_factor_here", "_law_upended", "_law_count", "_law_labels", "_law_pots_here", "_law_ways_here", "_law_k", "_law_cell", "_law_start", "_law_goal", "_law_by", "_law_more", "_law_gain"] ["_law_script", "_law_spots", "_law_factor_here", "_law_upended"] (defScope s_law_ways) := by walk_at "sc"
theorem sc_law_right : FnScope ["_law_found", "_law_last", "_law_more"] ["_law_found", "_law_last", "_law_more"] (defScope s_law_right) := by walk_at "sc"
theorem sc_law_refusal : FnScope ["_law_net_here", "_law_names_here", "_law_makes", "_law_told", "e"] ["_law_net_here", "_law_names_here", "_law_makes"] (defScope s_law_refusal) := by walk_at "sc"
theorem sc_law : FnScope ["_law_script", "_law_cell", "_law_spots", "_law_factor_here", "_law_makes", "_law_ways_here", "_law_net_here", "_law_labels", "_law_at", "_law_names_here", "_law_found"] ["_law_script"] (defScope s_law) := by walk_at "sc"
theorem sc_Fraction_init : FnScope ["self", "top", "bottom", "common"] ["self", "top", "bottom"] (defScope s_Fraction_init) := by walk_at "sc"
theorem sc_Fraction_plus : FnScope ["self", "other", "common", "own", "top", "left"] ["self", "other"] (defScope s_Fraction_plus) := by walk_at "sc"
theorem sc_Fraction_minus : FnScope ["self", "other"] ["self", "other"] (defScope s_Fraction_minus) := by walk_at "sc"
theorem sc_Fraction_times : FnScope ["self", "other", "first", "second", "top"] ["self", "other"] (defScope s_Fraction_times) := by walk_at "sc"
theorem sc_Fraction_under : FnScope ["self", "other"] ["self", "other"] (defScope s_Fraction_under) := by walk_at "sc"
theorem sc_Fraction_same : FnScope ["self", "other"] ["self", "other"] (defScope s_Fraction_same) := by walk_at "sc"
theorem sc_Fraction_sign : FnScope ["self"] ["self"] (defScope s_Fraction_sign) := by walk_at "sc"
theorem sc_Way_init : FnScope ["self", "name", "start", "goal", "high", "cost"] ["self", "name", "start", "goal", "high", "cost"] (defScope s_Way_init) := by walk_at "sc"
theorem sc_Way_gain : FnScope ["self"] ["self"] (defScope s_Way_gain) := by walk_at "sc"
theorem sc_Growing_init : FnScope ["self", "name", "start", "goal", "rate", "high", "cost"] ["self", "name", "start", "goal", "rate", "high", "cost"] (defScope s_Growing_init) := by walk_at "sc"
theorem sc_Growing_gain : FnScope ["self"] ["self"] (defScope s_Growing_gain) := by walk_at "sc"
theorem sc_Leaking_init : FnScope ["self", "name", "start", "goal", "loss", "high", "cost"] ["self", "name", "start", "goal", "loss", "high", "cost"] (defScope s_Leaking_init) := by walk_at "sc"
theorem sc_Leaking_gain : FnScope ["self"] ["self"] (defScope s_Leaking_gain) := by walk_at "sc"
theorem sc_Net_init : FnScope ["self", "places", "ways"] ["self", "places", "ways"] (defScope s_Net_init) := by walk_at "sc"
theorem sc_Net_names : FnScope ["self"] ["self"] (defScope s_Net_names) := by walk_at "sc"
theorem sc_Net_way : FnScope ["self", "name"] ["self", "name"] (defScope s_Net_way) := by walk_at "sc"
theorem sc_NoWay_init : FnScope ["self", "name"] ["self", "name"] (defScope s_NoWay_init) := by walk_at "sc"
end
end G
open PySem L2 in
local macro_rules | `(tactic| walk_at "kit") => `(tactic| first | exact G.TX.k_Way_Store (by assumption) | exact G.TX.k_Growing_Store (by assumption) | exact G.TX.k_Leaking_Store (by assumption) | exact G.TX.k_dict_dict (by assumption) | exact G.TX.k_list_list (by assumption) | exact G.TX.k_str_str (by assumption) | exact G.TX.k_tuple_tuple (by assumption) | exact G.TX.k_NoWay_GainError (by assumption))
open PySem L2 in
local macro_rules | `(tactic| walk_at "sm") => `(tactic| first | assumption | (refine And.left (?_ : G.SmR _); assumption) | (refine And.right (?_ : G.SmR _); assumption))
open PySem L2 in
local macro_rules | `(tactic| walk_at "fa") => `(tactic| first | rfl | assumption | exact True.intro | exact (fun _ h => h) | ((with_reducible show L2.TyOf _ _ _ _); first | exact TyOf.int _ | exact TyOf.str _ | exact TyOf.bl _ | exact TyOf.non | exact G.FrAt.ty (G.TX.fr (by assumption)) (by walk_at "fa")) | ((with_reducible show PySem.W.kitOne _ _ _ = _); walk_at "kit") | ((with_reducible show G.FrAt _ _ _ _); apply G.FrAt.up; assumption; walk_at "fa") | ((with_reducible show L2.SqL _ _ _ _); apply Same.seq; assumption; walk_at "fa") | (show (0 : Int) < _; decide) | (refine (And.intro ?_ ?_ : CDiv _ _) <;> decide) | (refine (And.intro ?_ (And.intro ?_ ?_) : CPow _ _) <;> decide) | exact (PySem.IntMulOk.of_right (by decide)) | exact (PySem.IntMulOk.of_left (by decide)) | (refine (And.intro ?_ ?_ : CMulB _ _) <;> walk_at "sm"))
open PySem L2 in
local macro_rules | `(tactic| walk_at "rd") => `(tactic| repeat (first | refine L2.ItVar.mk _ (by walk_at "fa") ?_ | refine L2.ItB.mk _ (by walk_at "fa") ?_ | refine L2.ItTest.mk _ (by walk_at "fa") ?_ | refine L2.IrU.mk _ (by walk_at "fa") ?_ | refine L2.IrI0.mk _ _ (by walk_at "fa") (by walk_at "fa") ?_ | refine L2.ItFld.mk _ _ _ _ _ (by walk_at "fa") (by walk_at "fa") (by walk_at "fa") (by walk_at "fa") (by walk_at "fa") ?_ | apply @Exists.intro V | apply @Exists.intro Int | apply @Exists.intro Addr | apply @Exists.intro Rat | apply @Exists.intro Bool | apply @Exists.intro Value | apply @Exists.intro (List V) | apply @Exists.intro (List (Str × V)) | apply @Exists.intro Str | apply @Exists.intro (List Int) | refine And.intro (by walk_at "fa") ?_ | refine L2.iteT ?_ | refine L2.iteF ?_))
namespace G
open PySem L2
section
variable {P : Program} {w : World} {K : PySem.W.Frag} {mg : Str → Option Value} {base : Heap} {a : Ad}
theorem TX.fr (T : TX K mg a) : FrC K a.Fraction := ⟨T.cl_Fraction, T.na_Fraction_top, T.na_Fraction_bottom, T.c1_Fraction, T.c2, T.c3, T.c4_Fraction⟩
theorem gcd_turn {a b n m : Int} (h : gcd n m = gcd a b) (hm : 0 ≤ m) (p : m ≠ 0) : 0 ≤ n % m ∧ n % m < m ∧ gcd m (n % m) = gcd a b :=
  ⟨Int.emod_nonneg n p, Int.emod_lt_of_pos n (by omega), by rw [gcd_step n m (by omega), h]⟩
theorem ok_divisor (T : TX K mg a) : FnB P w K mg base CX0 "divisor" 1 ["one", "other"] spDiv := by
  refine T.d_divisor.ok sc_divisor (fun vs H Q E h => ?_) (fun f cdv A outer s H vs Q E hr h => ?_)
  · obtain ⟨a, b, rfl, _⟩ := h
    rfl
  · obtain ⟨a, b, rfl, k⟩ := h
    refine ⟨_, (pss_cons (ps_set (i := 0) sc_divisor.nd rfl (Or.inl rfl) (pe_callB call_abs (by rfl) T.z_abs PyProof.Rows.boot_abs (pa_cons (pv 0) pa_nil)))
      (pss_cons (ps_set (i := 1) sc_divisor.nd rfl (Or.inl rfl) (pe_callB call_abs (by rfl) T.z_abs PyProof.Rows.boot_abs (pa_cons (pv 1) pa_nil)))
      (pss_cons (ps_while PassesOwn.never (pt_cmpR op_ne (pv 1) pe_int (nomark _)) (pss_cons (ps_set (i := 2) sc_divisor.nd rfl (Or.inl rfl) (pe_op op_mod (pv 0) (pv 1)))
      (pss_cons (ps_set (i := 0) sc_divisor.nd rfl (Or.inl rfl) (pv 1))
      (pss_one (ps_set (i := 1) sc_divisor.nd rfl (Or.inl rfl) (pv 2))))))
      (pss_one (ps_ret (pv 0)))))), ?_⟩
    try dsimp only [cxOf, Cx.nox, Cx.wish]
    refine ⟨_, rfl, _, rfl, _, rfl, _, rfl, ?_⟩
    refine while_by (fun σ H' => ∃ (n m : Int) (r : Option V), σ = [some (.int n), some (.int m), r] ∧ H' = H ∧ 0 ≤ n ∧ 0 ≤ m ∧ gcd n m = gcd a b) (fun σ _ => match σ with | [_, some (.int m), _] => m.toNat | _ => 0) ?_ ?_ ?_
    · refine ⟨_, _, _, rfl, rfl, ?_, ?_, gcd_abs a b⟩ <;> split <;> omega
    · rintro σ H' ⟨n, m, r, rfl, rfl, hn, hm, hg⟩
      refine ⟨_, rfl, rfl, _, rfl, ?_⟩
      by_cases z : m = 0
      · subst z
        refine iteNS rfl ?_
        refine ⟨_, rfl, ?_⟩
        rw [gcd_zero n hn] at hg
        rw [hg]
        exact k
      · refine iteC (by rw [neV z]; rfl) ?_
        obtain ⟨g1, g2, g3⟩ := gcd_turn hg hm z
        refine ⟨_, rfl, _, rfl, _, _, rfl, rfl, (by show (0 : Int) < m; omega), _, rfl, _, rfl, ⟨_, _, _, rfl, rfl, hm, g1, g3⟩, ?_⟩
        show (n % m).toNat < m.toNat
        omega
    · rintro σ H' Q1 Q2 hq ⟨v, e, s1, c, ec, q⟩
      exact ⟨v, e, s1, c, ec, hq _ _ q⟩
theorem ok_init (T : TX K mg a) : ∀ dvs ∈ [[], [V.int 1]], MkB P w K mg base CX0 a.Fraction 2 ["self", "top", "bottom"] dvs (spInit a.Fraction) := by
  refine T.i_Fraction.ok sc_Fraction_init (fun vs H Q E h => ?_) (fun f cdv A outer s H vs Q E hr h => ?_)
  · obtain ⟨p, dx, n, b, rfl, _⟩ := h
    rfl
  · obtain ⟨p, dx, n, b, rfl, hp, hb, sb, k⟩ := h
    refine ⟨_, (pss_cons (ps_if (pt_cmpR op_eq (pv 2) pe_int (nomark _)) (pss_one ps_never) pss_nil)
      (pss_cons (ps_set (i := 3) sc_Fraction_init.nd rfl (Or.inl rfl) (pe_fn (ok_divisor T) hr pass0 (pa_cons (pv 1) (pa_cons (pv 2) pa_nil))))
      (pss_cons (ps_if (pt_cmpR op_lt (pv 2) pe_int (nomark _)) (pss_one (ps_set (i := 3) sc_Fraction_init.nd rfl (Or.inl rfl) (pe_un un_neg (pv 3)))) pss_nil)
      (pss_cons (ps_fld (pv 0) (pe_op op_fdivB (pv 1) (pv 3)) rfl)
      (pss_one (ps_fld (pv 0) (pe_op op_fdivB (pv 2) (pv 3)) rfl)))))), ?_⟩
    try dsimp only [cxOf, Cx.nox, Cx.wish]
    refine ⟨_, rfl, rfl, _, rfl, ?_⟩
    refine iteD (neV hb) ?_
    refine ⟨_, rfl, _, rfl, n, b, rfl, ?_⟩
    refine ⟨_, rfl, _, _, rfl, rfl, _, rfl, ?_⟩
    obtain ⟨i1, i2⟩ := init_spec n b hb
    have gp := gcd_pos_r n hb
    have gs := Sm.gcd_r n hb sb
    have fin : ∀ c : Int, c ≠ 0 → Sm c → n.fdiv c = (Rat.divInt n b).num → b.fdiv c = ((Rat.divInt n b).den : Int) →
        tSeq (sFld K (tVar 0) (tOp (rI CDivB fun i j => .int (i.fdiv j)) (tVar 1) (tVar 3)) "top") (sFld K (tVar 0) (tOp (rI CDivB fun i j => .int (i.fdiv j)) (tVar 2) (tVar 3)) "bottom") { nx := fun _ H' => Q .non H', rt := Q } [some (.ref p), some (.int n), some (.int b), some (.int c)] H := by
      intro c hc hs e1 e2
      refine ⟨_, rfl, _, rfl, _, _, rfl, rfl, ⟨hc, hs⟩, _, rfl, p, a.Fraction, dx, _, rfl, hp, T.cl_Fraction, T.na_Fraction_top, (by show 0 < 1000; decide), ?_⟩
      refine ⟨_, rfl, _, rfl, _, _, rfl, rfl, ⟨hc, hs⟩, _, rfl, p, a.Fraction, dx, _, rfl, upd_same, T.cl_Fraction, T.na_Fraction_bottom, (by show 1 < 1000; decide), ?_⟩
      refine k _ ?_
      rw [upd_upd]
      dsimp only
      rw [e1, e2, ff_new]
    refine ifB (fun hn => ?_) (fun hn => ?_)
    · rw [if_pos hn] at i1 i2
      refine ⟨_, rfl, _, rfl, ?_⟩
      exact fin _ (by omega) (gs.le (by omega)) i1 i2
    · rw [if_neg hn] at i1 i2
      exact fin _ (by omega) gs i1 i2
theorem sm1 : Sm 1 := Nat.one_lt_two_pow (by decide)
theorem mk2 (T : TX K mg a) : MkB P w K mg base CX0 a.Fraction 2 ["self", "top", "bottom"] [] (spInit a.Fraction) := ok_init T _ (by simp)
theorem mk1 (T : TX K mg a) : MkB P w K mg base CX0 a.Fraction 2 ["self", "top", "bottom"] [.int 1] (spInit a.Fraction) := ok_init T _ (by simp)
theorem ok_in_lowest_terms (T : TX K mg a) : FnB P w K mg base CX0 "in_lowest_terms" 4 ["top", "bottom"] (spLow a.Fraction) := by
  refine T.d_in_lowest_terms.ok sc_in_lowest_terms (fun vs H Q E h => ?_) (fun f cdv A outer s H vs Q E hr h => ?_)
  · obtain ⟨t, b, rfl, _⟩ := h
    rfl
  · obtain ⟨t, b, rfl, k⟩ := h
    refine ⟨_, (pss_cons (ps_set (i := 2) sc_in_lowest_terms.nd rfl (Or.inl rfl) (pe_mkfr (mk1 T) hr T.mg_Fraction pass0 (pa_cons pe_int pa_nil)))
      (pss_cons (ps_fld (pv 2) (pv 0) rfl)
      (pss_cons (ps_fld (pv 2) (pv 1) rfl)
      (pss_one (ps_ret (pv 2)))))), ?_⟩
    try dsimp only [cxOf, Cx.nox, Cx.wish]
    refine ⟨0, 1, rfl, by decide, sm1, fun x H1 nx s1 ⟨dx, hx⟩ => ?_⟩
    refine ⟨_, rfl, _, rfl, x, a.Fraction, dx, _, rfl, hx, T.cl_Fraction, T.na_Fraction_top, (by show 2 < 1000; decide), ?_⟩
    refine ⟨_, rfl, _, rfl, x, a.Fraction, dx, _, rfl, upd_same, T.cl_Fraction, T.na_Fraction_bottom, (by show 2 < 1000; decide), ?_⟩
    refine ⟨_, rfl, ?_⟩
    refine k x dx _ nx (fun c o e => ?_) ?_
    · rw [upd_ne (ne_of_none e nx), upd_ne (ne_of_none e nx)]
      exact s1 _ _ e
    · rw [upd_same, ff_put]
abbrev always : Rat → Rat → Prop := fun _ _ => True
theorem ok_plus (T : TX K mg a) : MtB P w K mg base CX0 a.Fraction "plus" 5 ["self", "other"] (spR2 a.Fraction (fun x y => x + y) always) := by
  refine T.m_Fraction_plus.ok sc_Fraction_plus (fun vs H Q E h => ?_) (fun f cdv A outer s H vs Q E hr h => ?_)
  · obtain ⟨p, q, x, y, rfl, _⟩ := h
    rfl
  · obtain ⟨p, q, x, y, rfl, hp, hq, sx, sy, _, k⟩ := h
    refine ⟨_, (pss_cons (ps_set (i := 2) sc_Fraction_plus.nd rfl (Or.inl rfl) (pe_fn (ok_divisor T) hr pass0 (pa_cons (pe_bot T.fr (pv 0)) (pa_cons (pe_bot T.fr (pv 1)) pa_nil))))
      (pss_cons (ps_set (i := 3) sc_Fraction_plus.nd rfl (Or.inl rfl) (pe_op op_fdivB (pe_bot T.fr (pv 0)) (pv 2)))
      (pss_cons (ps_set (i := 4) sc_Fraction_plus.nd rfl (Or.inl rfl) (pe_op op_add (pe_op op_mulB (pe_top T.fr (pv 0)) (pe_op op_fdivB (pe_bot T.fr (pv 1)) (pv 2))) (pe_op op_mulB (pe_top T.fr (pv 1)) (pv 3))))
      (pss_cons (ps_set (i := 5) sc_Fraction_plus.nd rfl (Or.inl rfl) (pe_fn (ok_divisor T) hr pass0 (pa_cons (pv 4) (pa_cons (pv 2) pa_nil))))
      (pss_one (ps_ret (pe_fn (ok_in_lowest_terms T) hr pass0 (pa_cons (pe_op op_fdivB (pv 4) (pv 5)) (pa_cons (pe_op op_mulB (pv 3) (pe_op op_fdivB (pe_bot T.fr (pv 1)) (pv 5))) pa_nil))))))))), ?_⟩
    try dsimp only [cxOf, Cx.nox, Cx.wish]
    have hx := den_ne x
    have hy := den_ne y
    have xp := den_pos x
    have yp := den_pos y
    have gp := gcd_pos_r (x.den : Int) hy
    have gs := Sm.gcd_r (x.den : Int) hy sy.2
    have gn : gcd x.den y.den ≠ 0 := by omega
    have so : Sm ((x.den : Int).fdiv (gcd x.den y.den)) := sx.2.le (fdiv_le _ gp (by omega))
    have so2 : Sm ((y.den : Int).fdiv (gcd x.den y.den)) := sy.2.le (fdiv_le _ gp (by omega))
    refine ⟨_, rfl, p, x, rfl, hp, _, rfl, q, y, rfl, hq, _, _, rfl, ?_⟩
    refine ⟨_, rfl, p, x, rfl, hp, _, rfl, _, _, rfl, rfl, ⟨by omega, gs⟩, ?_⟩
    refine ⟨_, rfl, p, x, rfl, hp, _, rfl, q, y, rfl, hq, _, rfl, _, _, rfl, rfl, ⟨by omega, gs⟩, _, _, rfl, rfl, ⟨sx.1, so2⟩, _, rfl, q, y, rfl, hq, _, rfl, _, _, rfl, rfl, ⟨sy.1, so⟩, _, _, rfl, rfl, ?_⟩
    refine ⟨_, rfl, _, rfl, _, _, rfl, ?_⟩
    generalize htop : x.num * (y.den : Int).fdiv (gcd x.den y.den) + y.num * (x.den : Int).fdiv (gcd x.den y.den) = top
    have lp := gcd_pos_r top gn
    have ls := Sm.gcd_r top gn gs
    refine ⟨_, rfl, _, rfl, _, _, rfl, rfl, ⟨by omega, ls⟩, _, rfl, _, rfl, q, y, rfl, hq, _, rfl, _, _, rfl, rfl, ⟨by omega, ls⟩, _, _, rfl, rfl, ⟨so, sy.2.le (fdiv_le _ lp (by omega))⟩, _, _, rfl, ?_⟩
    intro r dx H' nr s1 h1
    obtain ⟨e1, e2⟩ := add_spec x y
    try dsimp only at e1 e2
    rw [htop] at e1 e2
    refine k r H' nr s1 ⟨dx, ?_⟩
    show H' r = some (.ins a.Fraction dx (ff (x + y).num (x + y).den))
    try rw [htop] at h1
    rw [h1, ← e1, ← e2]
theorem ok_minus (T : TX K mg a) : MtB P w K mg base CX0 a.Fraction "minus" 6 ["self", "other"] (spR2 a.Fraction (fun x y => x - y) always) := by
  refine T.m_Fraction_minus.ok sc_Fraction_minus (fun vs H Q E h => ?_) (fun f cdv A outer s H vs Q E hr h => ?_)
  · obtain ⟨p, q, x, y, rfl, _⟩ := h
    rfl
  · obtain ⟨p, q, x, y, rfl, hp, hq, sx, sy, _, k⟩ := h
    refine ⟨_, (pss_one (ps_ret (pe_frm T.fr (pv 0) (ok_plus T) hr pass0 (pa_cons (pe_fn (ok_in_lowest_terms T) hr pass0 (pa_cons (pe_un un_neg (pe_top T.fr (pv 1))) (pa_cons (pe_bot T.fr (pv 1)) pa_nil))) pa_nil)))), ?_⟩
    try dsimp only [cxOf, Cx.nox, Cx.wish]
    refine ⟨_, rfl, p, x, rfl, hp, _, rfl, q, y, rfl, hq, _, rfl, _, rfl, q, y, rfl, hq, _, _, rfl, fun r dx H1 nr s1 h1 => ?_⟩
    have f1 : FrAt a.Fraction H1 r (-y) := ⟨dx, h1⟩
    refine ⟨p, r, x, -y, rfl, hp.mono s1, f1, sx, ⟨by show Sm (-y.num); exact sy.1.le (by omega), sy.2⟩, trivial, fun r' H2 nr' s2 f2 => ?_⟩
    refine k r' H2 (s1.free nr') (s1.trans s2) ?_
    show FrAt a.Fraction H2 r' (x - y)
    rw [Rat.sub_eq_add_neg]
    exact f2
theorem ok_times (T : TX K mg a) : MtB P w K mg base CX0 a.Fraction "times" 5 ["self", "other"] (spR2 a.Fraction (fun x y => x * y) always) := by
  refine T.m_Fraction_times.ok sc_Fraction_times (fun vs H Q E h => ?_) (fun f cdv A outer s H vs Q E hr h => ?_)
  · obtain ⟨p, q, x, y, rfl, _⟩ := h
    rfl
  · obtain ⟨p, q, x, y, rfl, hp, hq, sx, sy, _, k⟩ := h
    refine ⟨_, (pss_cons (ps_set (i := 2) sc_Fraction_times.nd rfl (Or.inl rfl) (pe_fn (ok_divisor T) hr pass0 (pa_cons (pe_top T.fr (pv 0)) (pa_cons (pe_bot T.fr (pv 1)) pa_nil))))
      (pss_cons (ps_set (i := 3) sc_Fraction_times.nd rfl (Or.inl rfl) (pe_fn (ok_divisor T) hr pass0 (pa_cons (pe_top T.fr (pv 1)) (pa_cons (pe_bot T.fr (pv 0)) pa_nil))))
      (pss_cons (ps_set (i := 4) sc_Fraction_times.nd rfl (Or.inl rfl) (pe_op op_mulB (pe_op op_fdivB (pe_top T.fr (pv 0)) (pv 2)) (pe_op op_fdivB (pe_top T.fr (pv 1)) (pv 3))))
      (pss_one (ps_ret (pe_fn (ok_in_lowest_terms T) hr pass0 (pa_cons (pv 4) (pa_cons (pe_op op_mulB (pe_op op_fdivB (pe_bot T.fr (pv 0)) (pv 3)) (pe_op op_fdivB (pe_bot T.fr (pv 1)) (pv 2))) pa_nil)))))))), ?_⟩
    try dsimp only [cxOf, Cx.nox, Cx.wish]
    have hx := den_ne x
    have hy := den_ne y
    have xp := den_pos x
    have yp := den_pos y
    have p1 := gcd_pos_r x.num hy
    have p2 := gcd_pos_r y.num hx
    have s1 := Sm.gcd_r x.num hy sy.2
    have s2 := Sm.gcd_r y.num hx sx.2
    have t1 : Sm (x.num.fdiv (gcd x.num y.den)) := sx.1.le (fdiv_le' _ p1 (gcd_dvd_l _ _))
    have t2 : Sm (y.num.fdiv (gcd y.num x.den)) := sy.1.le (fdiv_le' _ p2 (gcd_dvd_l _ _))
    have t3 : Sm ((x.den : Int).fdiv (gcd y.num x.den)) := sx.2.le (fdiv_le _ p2 (by omega))
    have t4 : Sm ((y.den : Int).fdiv (gcd x.num y.den)) := sy.2.le (fdiv_le _ p1 (by omega))
    refine ⟨_, rfl, p, x, rfl, hp, _, rfl, q, y, rfl, hq, _, _, rfl, ?_⟩
    refine ⟨_, rfl, q, y, rfl, hq, _, rfl, p, x, rfl, hp, _, _, rfl, ?_⟩
    refine ⟨_, rfl, p, x, rfl, hp, _, rfl, _, _, rfl, rfl, ⟨by omega, s1⟩, _, rfl, q, y, rfl, hq, _, rfl, _, _, rfl, rfl, ⟨by omega, s2⟩, _, _, rfl, rfl, ⟨t1, t2⟩, ?_⟩
    refine ⟨_, rfl, _, rfl, p, x, rfl, hp, _, rfl, _, _, rfl, rfl, ⟨by omega, s2⟩, _, rfl, q, y, rfl, hq, _, rfl, _, _, rfl, rfl, ⟨by omega, s1⟩, _, _, rfl, rfl, ⟨t3, t4⟩, _, _, rfl, ?_⟩
    intro r dx H' nr s1 h1
    obtain ⟨e1, e2⟩ := mul_spec x y
    refine k r H' nr s1 ⟨dx, ?_⟩
    show H' r = some (.ins a.Fraction dx (ff (x * y).num (x * y).den))
    rw [h1, ← e1, ← e2]
end
end G
namespace G
open PySem L2
section
variable {P : Program} {w : World} {K : PySem.W.Frag} {mg : Str → Option Value} {base : Heap} {a : Ad}
def spB2 (C : Addr) (f : Rat → Rat → Bool) : Sp := fun vs H Q _ => ∃ (p q : Addr) (x y : Rat), vs = [.ref p, .ref q] ∧ FrAt C H p x ∧ FrAt C H q y ∧ SmR x ∧ SmR y ∧ Q (.bl (f x y)) H
theorem ok_under (T : TX K mg a) : MtB P w K mg base CX0 a.Fraction "under" 1 ["self", "other"] (spB2 a.Fraction fun x y => decide (x < y)) := by
  refine T.m_Fraction_under.ok sc_Fraction_under (fun vs H Q E h => ?_) (fun f cdv A outer s H vs Q E hr h => ?_)
  · obtain ⟨p, q, x, y, rfl, _⟩ := h
    rfl
  · obtain ⟨p, q, x, y, rfl, hp, hq, sx, sy, k⟩ := h
    refine ⟨_, (pss_one (ps_ret (pe_cmpR op_lt (pe_op op_mulB (pe_top T.fr (pv 0)) (pe_bot T.fr (pv 1))) (pe_op op_mulB (pe_top T.fr (pv 1)) (pe_bot T.fr (pv 0))) (nomark _)))), ?_⟩
    try dsimp only [cxOf, Cx.nox, Cx.wish]
    walk_at "rd"
    show Q (.bl (decide (x.num * ↑y.den < y.num * ↑x.den))) H
    rw [decide_eq_decide.mpr (Rat.lt_iff x y).symm]
    exact k
theorem ok_same (T : TX K mg a) : MtB P w K mg base CX0 a.Fraction "same" 1 ["self", "other"] (spB2 a.Fraction fun x y => decide (x = y)) := by
  refine T.m_Fraction_same.ok sc_Fraction_same (fun vs H Q E h => ?_) (fun f cdv A outer s H vs Q E hr h => ?_)
  · obtain ⟨p, q, x, y, rfl, _⟩ := h
    rfl
  · obtain ⟨p, q, x, y, rfl, hp, hq, sx, sy, k⟩ := h
    refine ⟨_, (pss_one (ps_ret (pe_and (pe_cmpR op_eq (pe_top T.fr (pv 0)) (pe_top T.fr (pv 1)) (nomark _)) (pe_one (pe_cmpR op_eq (pe_bot T.fr (pv 0)) (pe_bot T.fr (pv 1)) (nomark _)))))), ?_⟩
    try dsimp only [cxOf, Cx.nox, Cx.wish]
    walk_at "rd"
    have hi := same_iff x y
    refine ifV (fun h1 => ?_) (fun h1 => ?_)
    · walk_at "rd"
      show Q (.bl (decide (V.int x.den = V.int y.den))) H
      by_cases h2 : (x.den : Int) = y.den
      · rw [h2, decide_eq_true rfl]
        rw [show ((fun x y => decide (x = y)) x y : Bool) = true from decide_eq_true (hi.mp ⟨h1, h2⟩)] at k
        exact k
      · rw [neV h2]
        rw [show ((fun x y => decide (x = y)) x y : Bool) = false from decide_eq_false fun z => h2 (hi.mpr z).2] at k
        exact k
    · show Q (.bl false) H
      rw [show ((fun x y => decide (x = y)) x y : Bool) = false from decide_eq_false fun z => h1 (hi.mpr z).1] at k
      exact k
def sgn (x : Rat) : Int := if 0 < x.num then 1 else if x.num < 0 then -1 else 0
theorem ok_sign (T : TX K mg a) : MtB P w K mg base CX0 a.Fraction "sign" 1 ["self"] (fun vs H Q _ => ∃ (p : Addr) (x : Rat), vs = [.ref p] ∧ FrAt a.Fraction H p x ∧ Q (.int (sgn x)) H) := by
  refine T.m_Fraction_sign.ok sc_Fraction_sign (fun vs H Q E h => ?_) (fun f cdv A outer s H vs Q E hr h => ?_)
  · obtain ⟨p, x, rfl, _⟩ := h
    rfl
  · obtain ⟨p, x, rfl, hp, k⟩ := h
    refine ⟨_, (pss_cons (ps_if (pt_cmpR op_gt (pe_top T.fr (pv 0)) pe_int (nomark _)) (pss_one (ps_ret pe_int)) pss_nil)
      (pss_cons (ps_if (pt_cmpR op_lt (pe_top T.fr (pv 0)) pe_int (nomark _)) (pss_one (ps_ret (pe_un un_neg pe_int))) pss_nil)
      (pss_one (ps_ret pe_int)))), ?_⟩
    try dsimp only [cxOf, Cx.nox, Cx.wish]
    walk_at "rd"
    refine ifB (fun h1 => ?_) (fun h1 => ?_)
    · rw [show sgn x = 1 from if_pos h1] at k
      exact k
    · walk_at "rd"
      refine ifB (fun h2 => ?_) (fun h2 => ?_)
      · rw [show sgn x = -1 from (if_neg h1).trans (if_pos h2)] at k
        walk_at "rd"
        exact k
      · rw [show sgn x = 0 from (if_neg h1).trans (if_neg h2)] at k
        exact k
end
end G
namespace G
open PySem L2
section
variable {P : Program} {w : World} {K : PySem.W.Frag} {mg : Str → Option Value} {base : Heap} {a : Ad}
/-- the __init__ of NoWay: the name is kept -/
inductive IspNoWay (a : Ad) (vs : List V) (H : Hp) (Q : VK) : Prop
  | mk (e : Addr) (n : Str) (h1 : vs = [.ref e, .str n]) (h2 : H e = some (XI e a.NoWay none)) (h3 : n.length ≤ 1000) (h4 : ∀ dx, H dx = none → Q .non (upd (upd H e (XI e a.NoWay (some dx))) dx (.xd [("name", .str n)]))) : IspNoWay a vs H Q
def spNoWay (a : Ad) : Sp := fun vs H Q _ => IspNoWay a vs H Q
theorem b_NoWay (T : TX K mg a) : BodyOk P w K mg base "NoWay.__init__" s_NoWay_init ["self", "name"] 0 (spNoWay a) := by
  intro f cdv A outer s₀ H vs Q E hr h
  obtain ⟨e, n, rfl, he, hn, k⟩ := h
  refine ⟨_, (pss_cons (ps_expr (pe_binit T.br_NoWay T.bf_NoWay T.mg_GainError (pa_cons (pv 0) (pa_cons (pe_j2 pe_str (pe_fv (pv 1))) pa_nil))))
      (pss_one (ps_xfld (pv 0) (pv 1) rfl))), ?_⟩
  try dsimp only [cxOf, Cx.nox, Cx.wish]
  obtain ⟨fi, hfi⟩ := T.xi_NoWay.fi
  refine ⟨_, rfl, _, rfl, by rw [PySem.sizeLine_eq]; decide, _, rfl, _, rfl, by rw [PySem.sizeLine_eq]; omega, _, rfl, ?_, e, a.NoWay, none, _, fi, rfl, he, hfi, ?_, ?_⟩
  · rw [show ("no such way can be: " : Str).length = 20 from by decide +kernel, PySem.sizeLine_eq]
    omega
  · rw [PySem.sizeLine_eq]
    show 1 ≤ _
    omega
  · exact ⟨_, rfl, _, rfl, e, a.NoWay, rfl, he, T.xs_NoWay, T.na_NoWay_name, k⟩
theorem xi_NoWay (T : TX K mg a) : XiB P w K mg base a.NoWay 1 ["self", "name"] (spNoWay a) :=
  T.xi_NoWay.ok sc_NoWay_init (fun vs H Q E h => by obtain ⟨_, _, rfl, _⟩ := h; rfl) (b_NoWay T)
/-- what is wanted where a way is refused -/
def NoWayE (a : Ad) (H : Hp) (n : Str) (E : XK) : Prop := ∀ H' dx, Same H H' → H' dx = some (.xd [("name", .str n)]) → E (.ref a.NoWay) (some dx) H'
theorem raise_nw {H : Hp} {n : Str} {E : XK} (hn : n.length ≤ 1000) (k : NoWayE a H n E) : ([V.str n] : List V).length ≤ sizeLine ∧
    ∀ e, H e = none → spNoWay a ((.ref e :: [.str n]) ++ []) (upd H e (XI e a.NoWay none)) (fun v H2 => v = .non ∧ ∃ d, H2 e = some (XI e a.NoWay d) ∧ E (.ref a.NoWay) d (del H2 e)) E0 := by
  refine ⟨by rw [PySem.sizeLine_eq]; show 1 ≤ _; omega, fun e he => ⟨e, n, rfl, upd_same, hn, fun dx hd => ⟨rfl, some dx, ?_, ?_⟩⟩⟩
  · have ne : dx ≠ e := fun z => by rw [z, upd_same] at hd; cases hd
    rw [upd_ne (Ne.symm ne), upd_same]
  · have ne : dx ≠ e := fun z => by rw [z, upd_same] at hd; cases hd
    have hd' : H dx = none := by rw [upd_ne ne] at hd; exact hd
    refine k _ dx (fun b o eb => ?_) ?_
    · have n1 := ne_of_none eb he
      have n2 := ne_of_none eb hd'
      unfold del
      rw [if_neg n1, upd_ne n2, upd_ne n1, upd_ne n1]
      exact eb
    · unfold del
      rw [if_neg ne, upd_same]
end
end G
namespace G
open PySem L2
section
variable {P : Program} {w : World} {K : PySem.W.Frag} {mg : Str → Option Value} {base : Heap} {a : Ad}
/-- the classes of ways -/
structure WayC (K : PySem.W.Frag) (C : Addr) : Prop where
  cl : Cls K C
  n1 : NoAttr K C "name"
  n2 : NoAttr K C "start"
  n3 : NoAttr K C "goal"
  n4 : NoAttr K C "high"
  n5 : NoAttr K C "cost"
theorem TX.wW (T : TX K mg a) : WayC K a.Way := ⟨T.cl_Way, T.na_Way_name, T.na_Way_start, T.na_Way_goal, T.na_Way_high, T.na_Way_cost⟩
theorem TX.wG (T : TX K mg a) : WayC K a.Growing := ⟨T.cl_Growing, T.na_Growing_name, T.na_Growing_start, T.na_Growing_goal, T.na_Growing_high, T.na_Growing_cost⟩
theorem TX.wL (T : TX K mg a) : WayC K a.Leaking := ⟨T.cl_Leaking, T.na_Leaking_name, T.na_Leaking_start, T.na_Leaking_goal, T.na_Leaking_high, T.na_Leaking_cost⟩
theorem TX.wS (T : TX K mg a) : WayC K a.Store := ⟨T.cl_Store, T.na_Store_name, T.na_Store_start, T.na_Store_goal, T.na_Store_high, T.na_Store_cost⟩
/-- what a way tells -/
structure W5 (fs : List (Str × V)) (n s g : Str) (vh vc : V) : Prop where
  nm : fs.lookup ("name" : Str) = some (.str n)
  st : fs.lookup ("start" : Str) = some (.str s)
  go : fs.lookup ("goal" : Str) = some (.str g)
  hi : fs.lookup ("high" : Str) = some vh
  co : fs.lookup ("cost" : Str) = some vc
  ga : fs.lookup ("gain" : Str) = none
  ou : fs.lookup ("out" : Str) = none
  len : fs.length ≤ 10
theorem W5.new {n s g : Str} {vh vc : V} : W5 (putF "cost" vc (putF "high" vh (putF "goal" (.str g) (putF "start" (.str s) (putF "name" (.str n) []))))) n s g vh vc := by
  refine ⟨?_, ?_, ?_, ?_, ?_, ?_, ?_, ?_⟩
  iterate 7
    simp only [lookup_putF]
    (repeat rw [if_neg (by decide +kernel)])
    try rw [if_pos rfl]
    try rfl
  · have h1 := length_putF "cost" vc (putF "high" vh (putF "goal" (.str g) (putF "start" (.str s) (putF "name" (.str n) []))))
    have h2 := length_putF "high" vh (putF "goal" (.str g) (putF "start" (.str s) (putF "name" (.str n) [])))
    have h3 := length_putF "goal" (.str g) (putF "start" (.str s) (putF "name" (.str n) []))
    have h4 := length_putF "start" (.str s) (putF "name" (.str n) [])
    have h5 := length_putF "name" (.str n) []
    simp only [List.length_nil] at h5
    omega
theorem W5.put {fs : List (Str × V)} {n s g : Str} {vh vc v : V} {f : Str} (h : W5 fs n s g vh vc) (hf : f ∈ (["rate", "loss"] : List Str)) (hl : fs.length ≤ 5) : W5 (putF f v fs) n s g vh vc := by
  have e : ∀ x ∈ (["name", "start", "goal", "high", "cost", "gain", "out"] : List Str), x ≠ f := by
    intro x hx z
    subst z
    revert hx hf
    simp only [List.mem_cons, List.not_mem_nil, or_false]
    rintro (rfl | rfl | rfl | rfl | rfl | rfl | rfl) (h | h) <;> exact absurd h (by decide +kernel)
  have l := length_putF f v fs
  refine ⟨?_, ?_, ?_, ?_, ?_, ?_, ?_, by omega⟩ <;> rw [lookup_putF, if_neg (e _ (by simp))]
  · exact h.nm
  · exact h.st
  · exact h.go
  · exact h.hi
  · exact h.co
  · exact h.ga
  · exact h.ou
theorem le_put {f : Str} {v : V} {fs : List (Str × V)} {m : Nat} (h : fs.length ≤ m) : (putF f v fs).length ≤ m + 1 := Nat.le_trans (length_putF f v fs) (Nat.succ_le_succ h)
theorem sgn_nn {x : Rat} (h : 0 ≤ x.num) : ¬ sgn x < 0 := by
  unfold sgn
  repeat' split
  all_goals omega
theorem sgn_p {x : Rat} (h : 0 < x.num) : ¬ sgn x ≤ 0 := by
  unfold sgn
  rw [if_pos h]
  decide
/-- no bound above, or one that is nought or more -/
def HiOk (C : Addr) (H : Hp) (v : V) : Prop := v = .non ∨ ∃ (q : Addr) (x : Rat), v = .ref q ∧ FrAt C H q x ∧ 0 ≤ x.num
theorem HiOk.mono {C : Addr} {H H' : Hp} {v : V} (h : HiOk C H v) (s : Same H H') : HiOk C H' v := h.imp id fun ⟨q, x, e, f, z⟩ => ⟨q, x, e, f.mono s, z⟩
/-- the cost as it is told: nought where none was given -/
def CoIs (C : Addr) (H : Hp) (p : Addr) (vc vc' : V) : Prop := (vc ≠ .non ∧ vc' = vc) ∨ (vc = .non ∧ ∃ q, vc' = .ref q ∧ q ≠ p ∧ FrAt C H q (Rat.divInt 0 1))
theorem CoIs.upd {C p : Addr} {H : Hp} {vc vc' : V} {o : HO} (h : CoIs C H p vc vc') : CoIs C (upd H p o) p vc vc' := h.imp id fun ⟨e, q, e2, ne, dq, f⟩ => ⟨e, q, e2, ne, dq, by rw [upd_ne ne]; exact f⟩
inductive IspWayN (K : PySem.W.Frag) (a : Ad) (vs : List V) (H : Hp) (Q : VK) : Prop
  | mk (p C dx : Addr) (n s g : Str) (vh vc : V) (h1 : vs = [.ref p, .str n, .str s, .str g, vh, vc]) (h2 : H p = some (.ins C dx [])) (h3 : WayC K C) (h4 : s ≠ g) (h5 : HiOk a.Fraction H vh) (h6 : ∀ H' fs vc', W5 fs n s g vh vc' → fs.length ≤ 5 → CoIs a.Fraction H' p vc vc' → (∀ b o, H b = some o → b ≠ p → H' b = some o) → H' p = some (.ins C dx fs) → Q .non H') : IspWayN K a vs H Q
def spWayN (K : PySem.W.Frag) (a : Ad) : Sp := fun vs H Q _ => IspWayN K a vs H Q
theorem b_Way (T : TX K mg a) : BodyOk P w K mg base "Way.__init__" s_Way_init ["self", "name", "start", "goal", "high", "cost"] 3 (spWayN K a) := by
  intro f cdv A outer s₀ H vs Q E hr h
  obtain ⟨p, C, dx, n, s, g, vh, vc, rfl, hp, c, sg, hh, k⟩ := h
  refine ⟨_, (pss_cut (ps_if (PW.pt (pw_and (pt_cmpR op_eq (pv 2) (pv 3) (nomark _)) (pw_and1 (pt_not (pt_val (pe_mtD0 (CX := CX0) (pv 0) hr pass0)))))) (pss_one ps_never) pss_nil)
      (pss_cut (ps_if (PW.pt (pw_and (pt_cmpR op_notN (pv 4) pe_non (nomark _)) (pw_and1 (pt_cmpR op_lt (pe_frm0 T.fr (pv 4) (ok_sign T) hr pass0) pe_int (nomark _))))) (pss_one ps_never) pss_nil)
      (pss_cons (ps_fld (pv 0) (pv 1) rfl)
      (pss_cons (ps_fld (pv 0) (pv 2) rfl)
      (pss_cons (ps_fld (pv 0) (pv 3) rfl)
      (pss_cons (ps_fld (pv 0) (pv 4) rfl)
      (pss_one (ps_fld (pv 0) (pe_ifExp (pt_cmpR op_isN (pv 5) pe_non (nomark _)) (pe_mkfr (mk1 T) hr T.mg_Fraction pass0 (pa_cons pe_int pa_nil)) (pv 5)) rfl)))))))), ?_⟩
  try dsimp only [cxOf, Cx.nox, Cx.wish]
  refine ⟨fun σ' H' => σ' = [some (.ref p), some (.str n), some (.str s), some (.str g), some vh, some vc] ∧ H' = H, ?_, ?_⟩
  · walk_at "rd"
    refine iteD (decide_eq_false fun z => sg (V.str.inj z)) ?_
    walk_at "rd"
    first | exact ⟨rfl, rfl⟩ | exact rfl
  rintro σ' H' ⟨rfl, rfl⟩
  refine ⟨fun σ' H'' => σ' = [some (.ref p), some (.str n), some (.str s), some (.str g), some vh, some vc] ∧ H'' = H', ?_, ?_⟩
  · rcases hh with rfl | ⟨q, x, rfl, fq, hx⟩
    · walk_at "rd"
      first | exact ⟨rfl, rfl⟩ | exact rfl
    · walk_at "rd"
      refine iteD (decide_eq_false (sgn_nn hx)) ?_
      first | exact ⟨rfl, rfl⟩ | exact rfl
  rintro σ' H'' ⟨rfl, rfl⟩
  refine ⟨_, rfl, _, rfl, p, C, dx, [], rfl, hp, c.cl, c.n1, by decide, ?_⟩
  refine ⟨_, rfl, _, rfl, p, C, dx, _, rfl, upd_same, c.cl, c.n2, Nat.lt_of_le_of_lt (le_put (Nat.le_refl 0)) (by decide), ?_⟩
  refine ⟨_, rfl, _, rfl, p, C, dx, _, rfl, upd_same, c.cl, c.n3, Nat.lt_of_le_of_lt (le_put (le_put (Nat.le_refl 0))) (by decide), ?_⟩
  refine ⟨_, rfl, _, rfl, p, C, dx, _, rfl, upd_same, c.cl, c.n4, Nat.lt_of_le_of_lt (le_put (le_put (le_put (Nat.le_refl 0)))) (by decide), ?_⟩
  simp only [upd_upd]
  walk_at "rd"
  by_cases hc : vc = .non
  · refine iteC (decide_eq_true hc) ?_
    walk_at "rd"
    refine ⟨by decide, sm1, fun q H1 nq s1 f1 => ?_⟩
    refine ⟨_, rfl, p, C, dx, _, rfl, s1 _ _ upd_same, c.cl, c.n5, Nat.lt_of_le_of_lt (le_put (le_put (le_put (le_put (Nat.le_refl 0))))) (by decide), ?_⟩
    have nqp : q ≠ p := fun z => by rw [z, upd_same] at nq; cases nq
    obtain ⟨dq, f1⟩ := f1
    refine k _ _ (.ref q) W5.new (le_put (le_put (le_put (le_put (le_put (Nat.le_refl 0)))))) (.inr ⟨hc, q, rfl, nqp, dq, by rw [upd_ne nqp]; exact f1⟩) (fun b o e nb => ?_) upd_same
    rw [upd_ne nb]
    refine s1 _ _ ?_
    rw [upd_ne nb]
    exact e
  · refine iteD (decide_eq_false hc) ?_
    refine ⟨_, rfl, _, rfl, p, C, dx, _, rfl, upd_same, c.cl, c.n5, Nat.lt_of_le_of_lt (le_put (le_put (le_put (le_put (Nat.le_refl 0))))) (by decide), ?_⟩
    rw [upd_upd]
    refine k _ _ vc W5.new (le_put (le_put (le_put (le_put (le_put (Nat.le_refl 0)))))) (.inl ⟨hc, rfl⟩) (fun b o e nb => ?_) upd_same
    rw [upd_ne nb]
    exact e
theorem len_WayN : ∀ vs H Q E, spWayN K a vs H Q E → vs.length = (["self", "name", "start", "goal", "high", "cost"] : List Str).length := fun vs H Q E h => by
  obtain ⟨_, _, _, _, _, _, _, _, rfl, _⟩ := h
  rfl
theorem mk_WayN (T : TX K mg a) : ∀ dvs ∈ [[], [V.non, V.non]], MkB P w K mg base CX0 a.Way 4 ["self", "name", "start", "goal", "high", "cost"] dvs (spWayN K a) := T.i_Way.ok sc_Way_init len_WayN (b_Way T)
theorem mk_Way2 (T : TX K mg a) : MkB P w K mg base CX0 a.Way 4 ["self", "name", "start", "goal", "high", "cost"] [.non, .non] (spWayN K a) := mk_WayN T _ (by simp)
theorem cf_Way (T : TX K mg a) : CfB P w K mg base CX0 a.Way "__init__" 4 ["self", "name", "start", "goal", "high", "cost"] (spWayN K a) := T.c_Way.ok sc_Way_init len_WayN (b_Way T)
inductive IspPartN (K : PySem.W.Frag) (a : Ad) (f : Str) (ok : Rat → Prop) (vs : List V) (H : Hp) (Q : VK) : Prop
  | mk (p C dx : Addr) (n s g : Str) (vh vc : V) (q : Addr) (x : Rat) (h1 : vs = [.ref p, .str n, .str s, .str g, .ref q, vh, vc]) (h2 : H p = some (.ins C dx [])) (h3 : WayC K C) (h4 : NoAttr K C f) (h5 : s ≠ g) (h6 : FrAt a.Fraction H q x) (h7 : ok x) (h8 : HiOk a.Fraction H vh) (h9 : ∀ H' fs vc', W5 fs n s g vh vc' → fs.lookup f = some (.ref q) → CoIs a.Fraction H' p vc vc' → (∀ b o, H b = some o → b ≠ p → H' b = some o) → H' p = some (.ins C dx fs) → Q .non H') : IspPartN K a f ok vs H Q
def spPartN (K : PySem.W.Frag) (a : Ad) (f : Str) (ok : Rat → Prop) : Sp := fun vs H Q _ => IspPartN K a f ok vs H Q
theorem len_PartN {f : Str} {ok : Rat → Prop} {z : Str} : ∀ vs H Q E, spPartN K a f ok vs H Q E → vs.length = (["self", "name", "start", "goal", z, "high", "cost"] : List Str).length := fun vs H Q E h => by
  obtain ⟨_, _, _, _, _, _, _, _, _, _, rfl, _⟩ := h
  rfl
abbrev growOk : Rat → Prop := fun x => 0 < x.num
abbrev leakOk : Rat → Prop := fun x => 0 ≤ x.num ∧ x < 1 ∧ SmR x
theorem b_Growing (T : TX K mg a) : BodyOk P w K mg base "Growing.__init__" s_Growing_init ["self", "name", "start", "goal", "rate", "high", "cost"] 4 (spPartN K a "rate" growOk) := by
  intro f cdv A outer s₀ H vs Q E hr h
  obtain ⟨p, C, dx, n, s, g, vh, vc, q, x, rfl, hp, c, nf, sg, fq, hx, hh, k⟩ := h
  refine ⟨_, (pss_cons (ps_if (pt_cmpR op_le (pe_frm0 T.fr (pv 4) (ok_sign T) hr pass0) pe_int (nomark _)) (pss_one ps_never) pss_nil)
      (pss_cons (ps_expr (pe_cf (cf_Way T) hr T.mg_Way pass0 (pa_cons (pv 0) (pa_cons (pv 1) (pa_cons (pv 2) (pa_cons (pv 3) (pa_cons (pv 5) (pa_cons (pv 6) pa_nil))))))))
      (pss_one (ps_fld (pv 0) (pv 4) rfl)))), ?_⟩
  try dsimp only [cxOf, Cx.nox, Cx.wish]
  walk_at "rd"
  refine iteD (decide_eq_false (sgn_p hx)) ?_
  refine ⟨_, rfl, _, rfl, _, rfl, _, rfl, _, rfl, _, rfl, p, C, dx, n, s, g, vh, vc, rfl, hp, c, sg, hh, fun H2 fs vc' h5 hl co hs ho => ?_⟩
  refine ⟨_, rfl, _, rfl, p, C, dx, fs, rfl, ho, c.cl, nf, Nat.lt_of_le_of_lt hl (by decide), ?_⟩
  refine k _ _ vc' (h5.put (by simp) hl) ?_ co.upd (fun b o e ne => ?_) upd_same
  · rw [lookup_putF, if_pos rfl]
  · rw [upd_ne ne]
    exact hs b o e ne
theorem mk_GrowingN (T : TX K mg a) : ∀ dvs ∈ [[], [V.non, V.non]], MkB P w K mg base CX0 a.Growing 5 ["self", "name", "start", "goal", "rate", "high", "cost"] dvs (spPartN K a "rate" growOk) := T.i_Growing.ok sc_Growing_init len_PartN (b_Growing T)
theorem mk_Growing2 (T : TX K mg a) : MkB P w K mg base CX0 a.Growing 5 ["self", "name", "start", "goal", "rate", "high", "cost"] [.non, .non] (spPartN K a "rate" growOk) := mk_GrowingN T _ (by simp)
theorem b_Leaking (T : TX K mg a) : BodyOk P w K mg base "Leaking.__init__" s_Leaking_init ["self", "name", "start", "goal", "loss", "high", "cost"] 4 (spPartN K a "loss" leakOk) := by
  intro f cdv A outer s₀ H vs Q E hr h
  obtain ⟨p, C, dx, n, s, g, vh, vc, q, x, rfl, hp, c, nf, sg, fq, ⟨hx, hx1, sx⟩, hh, k⟩ := h
  refine ⟨_, (pss_cut (ps_if (PW.pt (pw_or (pt_cmpR op_lt (pe_frm0 T.fr (pv 4) (ok_sign T) hr pass0) pe_int (nomark _)) (pw_or1 (pt_not (pt_val (pe_frm T.fr (pv 4) (ok_under T) hr pass0 (pa_cons (pe_mkfr (mk1 T) hr T.mg_Fraction pass0 (pa_cons pe_int pa_nil)) pa_nil))))))) (pss_one ps_never) pss_nil)
      (pss_cons (ps_expr (pe_cf (cf_Way T) hr T.mg_Way pass0 (pa_cons (pv 0) (pa_cons (pv 1) (pa_cons (pv 2) (pa_cons (pv 3) (pa_cons (pv 5) (pa_cons (pv 6) pa_nil))))))))
      (pss_one (ps_fld (pv 0) (pv 4) rfl)))), ?_⟩
  try dsimp only [cxOf, Cx.nox, Cx.wish]
  refine ⟨fun σ' H' => σ' = [some (.ref p), some (.str n), some (.str s), some (.str g), some (.ref q), some vh, some vc] ∧ Same H H', ?_, ?_⟩
  · walk_at "rd"
    refine iteD (decide_eq_false (sgn_nn hx)) ?_
    walk_at "rd"
    refine ⟨by decide, sm1, fun r H1 nr s1 f1 => ?_⟩
    have e1 : Rat.divInt 1 1 = 1 := rfl
    rw [e1] at f1
    have s2 : SmR (1 : Rat) := ⟨sm1, sm1⟩
    walk_at "rd"
    refine iteD (by dsimp only; rw [decide_eq_true hx1]; rfl) ?_
    exact ⟨rfl, s1⟩
  rintro σ' H' ⟨rfl, ss⟩
  refine ⟨_, rfl, _, rfl, _, rfl, _, rfl, _, rfl, _, rfl, p, C, dx, n, s, g, vh, vc, rfl, ss _ _ hp, c, sg, hh.mono ss, fun H2 fs vc' h5 hl co hs ho => ?_⟩
  refine ⟨_, rfl, _, rfl, p, C, dx, fs, rfl, ho, c.cl, nf, Nat.lt_of_le_of_lt hl (by decide), ?_⟩
  refine k _ _ vc' (h5.put (by simp) hl) ?_ co.upd (fun b o e ne => ?_) upd_same
  · rw [lookup_putF, if_pos rfl]
  · rw [upd_ne ne]
    exact hs b o (ss _ _ e) ne
theorem mk_LeakingN (T : TX K mg a) : ∀ dvs ∈ [[], [V.non, V.non]], MkB P w K mg base CX0 a.Leaking 5 ["self", "name", "start", "goal", "loss", "high", "cost"] dvs (spPartN K a "loss" leakOk) := T.i_Leaking.ok sc_Leaking_init len_PartN (b_Leaking T)
theorem mk_Leaking2 (T : TX K mg a) : MkB P w K mg base CX0 a.Leaking 5 ["self", "name", "start", "goal", "loss", "high", "cost"] [.non, .non] (spPartN K a "loss" leakOk) := mk_LeakingN T _ (by simp)
inductive Kd where
  | way
  | gro
  | lea
  | sto
def Kd.n : Kd → Int
  | .way => 0
  | .gro => 1
  | .lea => 2
  | .sto => 3
def Kd.C (a : Ad) : Kd → Addr
  | .way => a.Way
  | .gro => a.Growing
  | .lea => a.Leaking
  | .sto => a.Store
def Kd.f : Kd → Str
  | .gro => "rate"
  | _ => "loss"
def Kd.ok : Kd → Rat → Prop
  | .way => fun _ => True
  | .gro => growOk
  | _ => leakOk
def gainOf : Kd → Rat → Rat
  | .way => fun _ => 1
  | .gro => fun x => x
  | _ => fun x => 1 - x
/-- a way stands at p -/
structure WayAt (a : Ad) (H : Hp) (p : Addr) (kd : Kd) (n s g : Str) (vh vc : V) (q : Addr) (x : Rat) : Prop where
  ob : ∃ dx fs, H p = some (.ins (kd.C a) dx fs) ∧ W5 fs n s g vh vc ∧ (kd ≠ .way → fs.lookup kd.f = some (.ref q))
  fq : kd ≠ .way → FrAt a.Fraction H q x
/-- where the Fractions and the ways stay -/
def Stays (a : Ad) (H H' : Hp) : Prop := ∀ b C dx fs, (C = a.Fraction ∨ ∃ kd : Kd, C = kd.C a) → H b = some (.ins C dx fs) → H' b = some (.ins C dx fs)
theorem Stays.of {a : Ad} {H H' : Hp} (s : Same H H') : Stays a H H' := fun b C dx fs _ e => s _ _ e
theorem Stays.fr {a : Ad} {H H' : Hp} {q : Addr} {x : Rat} (k : Stays a H H') (h : FrAt a.Fraction H q x) : FrAt a.Fraction H' q x := let ⟨dq, f⟩ := h; ⟨dq, k _ _ _ _ (.inl rfl) f⟩
theorem WayAt.keep {a : Ad} {H H' : Hp} {p : Addr} {kd : Kd} {n s g : Str} {vh vc : V} {q : Addr} {x : Rat} (h : WayAt a H p kd n s g vh vc q x) (k : Stays a H H') : WayAt a H' p kd n s g vh vc q x :=
  ⟨let ⟨dx, fs, e, r⟩ := h.ob; ⟨dx, fs, k _ _ _ _ (.inr ⟨kd, rfl⟩) e, r⟩, fun z => k.fr (h.fq z)⟩
theorem WayAt.mono {a : Ad} {H H' : Hp} {p : Addr} {kd : Kd} {n s g : Str} {vh vc : V} {q : Addr} {x : Rat} (h : WayAt a H p kd n s g vh vc q x) (ss : Same H H') : WayAt a H' p kd n s g vh vc q x := h.keep (.of ss)
theorem Stays.put {a : Ad} {H : Hp} {d : Addr} {o o' : HO} (hd : H d = some o) (ho : ∀ C dx fs, o ≠ .ins C dx fs) : Stays a H (upd H d o') := fun b C dx fs _ e => by rw [upd_ne (ne_of e hd (ho C dx fs).symm)]; exact e
theorem cls_any (T : TX K mg a) (kd : Kd) : WayC K (kd.C a) := by
  cases kd
  · exact T.wW
  · exact T.wG
  · exact T.wL
  · exact T.wS
def NewWay (a : Ad) (H : Hp) (Q : VK) (kd : Kd) (n s g : Str) (vh vc : V) (x : Rat) : Prop := ∀ p H' vc' q, H p = none → Same H H' → WayAt a H' p kd n s g vh vc' q x → CoIs a.Fraction H' p vc vc' → Q (.ref p) H'
theorem same_new {H H' : Hp} {x dx C : Addr} (h1 : H x = none) (h2 : H dx = none) (h : ∀ b o, (upd (upd H dx (.own x)) x (.ins C dx [])) b = some o → b ≠ x → H' b = some o) : Same H H' := by
  intro b o e
  have n1 := ne_of_none e h1
  refine h b o ?_ n1
  rw [upd_ne n1, upd_ne (ne_of_none e h2)]
  exact e
theorem same_two {H : Hp} {x dx C : Addr} (h1 : H x = none) (h2 : H dx = none) : Same H (upd (upd H dx (.own x)) x (.ins C dx [])) := by
  intro b o e
  rw [upd_ne (ne_of_none e h1), upd_ne (ne_of_none e h2)]
  exact e
theorem mkW {H : Hp} {Q : VK} {n s g : Str} {vh vc : V} {x : Rat} (T : TX K mg a) (sg : s ≠ g) (hh : HiOk a.Fraction H vh) (k : NewWay a H Q .way n s g vh vc x) (p dx : Addr) (h1 : H p = none) (h2 : H dx = none) (_ : dx ≠ p) :
    spWayN K a [.ref p, .str n, .str s, .str g, vh, vc] (upd (upd H dx (.own p)) p (.ins a.Way dx [])) (fun v H2 => v = .non ∧ Q (.ref p) H2) E0 := by
  have ss := same_two (C := a.Way) h1 h2
  refine ⟨p, _, dx, n, s, g, vh, vc, rfl, upd_same, T.wW, sg, hh.mono ss, fun H' fs vc' h5 hl co hs ho => ⟨rfl, ?_⟩⟩
  have s2 := same_new h1 h2 hs
  exact k p _ vc' p h1 s2 ⟨⟨dx, fs, ho, h5, fun z => absurd rfl z⟩, fun z => absurd rfl z⟩ co
theorem mkG {H : Hp} {Q : VK} {n s g : Str} {vh vc : V} {q : Addr} {x : Rat} (T : TX K mg a) (sg : s ≠ g) (fq : FrAt a.Fraction H q x) (hx : growOk x) (hh : HiOk a.Fraction H vh) (k : NewWay a H Q .gro n s g vh vc x) (p dx : Addr) (h1 : H p = none) (h2 : H dx = none) (_ : dx ≠ p) :
    spPartN K a "rate" growOk [.ref p, .str n, .str s, .str g, .ref q, vh, vc] (upd (upd H dx (.own p)) p (.ins a.Growing dx [])) (fun v H2 => v = .non ∧ Q (.ref p) H2) E0 := by
  have ss := same_two (C := a.Growing) h1 h2
  refine ⟨p, _, dx, n, s, g, vh, vc, q, x, rfl, upd_same, T.wG, T.na_Growing_rate, sg, fq.mono ss, hx, hh.mono ss, fun H' fs vc' h5 hl co hs ho => ⟨rfl, ?_⟩⟩
  have s2 := same_new h1 h2 hs
  exact k p _ vc' q h1 s2 ⟨⟨dx, fs, ho, h5, fun _ => hl⟩, fun _ => fq.mono s2⟩ co
theorem mkL {H : Hp} {Q : VK} {n s g : Str} {vh vc : V} {q : Addr} {x : Rat} (T : TX K mg a) (sg : s ≠ g) (fq : FrAt a.Fraction H q x) (hx : leakOk x) (hh : HiOk a.Fraction H vh) (k : NewWay a H Q .lea n s g vh vc x) (p dx : Addr) (h1 : H p = none) (h2 : H dx = none) (_ : dx ≠ p) :
    spPartN K a "loss" leakOk [.ref p, .str n, .str s, .str g, .ref q, vh, vc] (upd (upd H dx (.own p)) p (.ins a.Leaking dx [])) (fun v H2 => v = .non ∧ Q (.ref p) H2) E0 := by
  have ss := same_two (C := a.Leaking) h1 h2
  refine ⟨p, _, dx, n, s, g, vh, vc, q, x, rfl, upd_same, T.wL, T.na_Leaking_loss, sg, fq.mono ss, hx, hh.mono ss, fun H' fs vc' h5 hl co hs ho => ⟨rfl, ?_⟩⟩
  have s2 := same_new h1 h2 hs
  exact k p _ vc' q h1 s2 ⟨⟨dx, fs, ho, h5, fun _ => hl⟩, fun _ => fq.mono s2⟩ co
inductive IspGain (a : Ad) (kd : Kd) (vs : List V) (H : Hp) (Q : VK) : Prop
  | mk (p : Addr) (n s g : Str) (vh vc : V) (q : Addr) (x : Rat) (h1 : vs = [.ref p]) (h2 : WayAt a H p kd n s g vh vc q x) (h3 : SmR x) (h4 : ∀ r H', Same H H' → FrAt a.Fraction H' r (gainOf kd x) → Q (.ref r) H') : IspGain a kd vs H Q
def spGain (a : Ad) (kd : Kd) : Sp := fun vs H Q _ => IspGain a kd vs H Q
theorem len_Gain {kd : Kd} : ∀ vs H Q E, spGain a kd vs H Q E → vs.length = (["self"] : List Str).length := fun vs H Q E h => by
  obtain ⟨_, _, _, _, _, _, _, _, rfl, _⟩ := h
  rfl
theorem gain_Way (T : TX K mg a) : MtB P w K mg base CX0 a.Way "gain" 7 ["self"] (spGain a .way) := by
  refine T.m_Way_gain.ok sc_Way_gain len_Gain (fun f cdv A outer s₀ H vs Q E hr h => ?_)
  obtain ⟨p, n, s, g, vh, vc, q, x, rfl, W, sx, k⟩ := h
  refine ⟨_, (pss_one (ps_ret (pe_mkfr (mk1 T) hr T.mg_Fraction pass0 (pa_cons pe_int pa_nil)))), ?_⟩
  try dsimp only [cxOf, Cx.nox, Cx.wish]
  walk_at "rd"
  exact ⟨by decide, sm1, fun r H1 _ s1 f1 => k r H1 s1 f1⟩
theorem gain_Growing (T : TX K mg a) : MtB P w K mg base CX0 a.Growing "gain" 7 ["self"] (spGain a .gro) := by
  refine T.m_Growing_gain.ok sc_Growing_gain len_Gain (fun f cdv A outer s₀ H vs Q E hr h => ?_)
  obtain ⟨p, n, s, g, vh, vc, q, x, rfl, W, sx, k⟩ := h
  refine ⟨_, (pss_one (ps_ret (pe_fld (pv 0) rfl))), ?_⟩
  try dsimp only [cxOf, Cx.nox, Cx.wish]
  obtain ⟨dx, fs, ho, h5, hl⟩ := W.ob
  exact ⟨_, rfl, p, _, dx, fs, _, rfl, ho, T.wG.cl, T.na_Growing_rate, hl (by nofun), k q H (Same.refl _) (W.fq (by nofun))⟩
theorem b_gainL (T : TX K mg a) (kd : Kd) (C : Addr) (hC : kd.C a = C) (hk : kd ≠ .way) (hf : kd.f = "loss") (hg : ∀ x, gainOf kd x = 1 - x) (cl : Cls K C) (nl : NoAttr K C "loss") : BodyOk P w K mg base "Leaking.gain" s_Leaking_gain ["self"] 6 (spGain a kd) := by
  intro f cdv A outer s₀ H vs Q E hr h
  obtain ⟨p, n, s, g, vh, vc, q, x, rfl, W, sx, k⟩ := h
  refine ⟨_, (pss_one (ps_ret (pe_frm T.fr (pe_mkfr (mk1 T) hr T.mg_Fraction pass0 (pa_cons pe_int pa_nil)) (ok_minus T) hr pass0 (pa_cons (pe_fld (pv 0) rfl) pa_nil)))), ?_⟩
  try dsimp only [cxOf, Cx.nox, Cx.wish]
  obtain ⟨dx, fs, ho, h5, hl⟩ := W.ob
  have hl := hl hk
  rw [hf] at hl
  rw [hC] at ho
  walk_at "rd"
  refine ⟨by decide, sm1, fun r H1 nr s1 f1 => ?_⟩
  have e1 : Rat.divInt 1 1 = 1 := rfl
  rw [e1] at f1
  have s2 : SmR (1 : Rat) := ⟨sm1, sm1⟩
  have ho1 := s1 _ _ ho
  have fq1 := (W.fq hk).mono s1
  walk_at "rd"
  intro r2 H2 nr2 s22 f2
  refine k r2 H2 (s1.trans s22) ?_
  rw [hg]
  exact f2
theorem gain_Leaking (T : TX K mg a) : MtB P w K mg base CX0 a.Leaking "gain" 7 ["self"] (spGain a .lea) := T.m_Leaking_gain.ok sc_Leaking_gain len_Gain (b_gainL T .lea _ rfl (by nofun) rfl (fun _ => rfl) T.wL.cl T.na_Leaking_loss)
theorem gain_Store (T : TX K mg a) : MtB P w K mg base CX0 a.Store "gain" 7 ["self"] (spGain a .sto) := T.m_Store_gain.ok sc_Leaking_gain len_Gain (b_gainL T .sto _ rfl (by nofun) rfl (fun _ => rfl) T.wS.cl T.na_Store_loss)
theorem gain_any (T : TX K mg a) (kd : Kd) : MtB P w K mg base CX0 (kd.C a) "gain" 7 ["self"] (spGain a kd) := by
  cases kd
  · exact gain_Way T
  · exact gain_Growing T
  · exact gain_Leaking T
  · exact gain_Store T
end
end G
namespace G
open PySem L2
section
variable {P : Program} {w : World} {K : PySem.W.Frag} {mg : Str → Option Value} {base : Heap} {a : Ad}
/-- a way of a net: name, start, goal, kind, part -/
structure WD where
  nm : Str
  st : Str
  go : Str
  kd : Kd
  x : Rat
def WayIs (a : Ad) (H : Hp) (v : V) (d : WD) : Prop := ∃ p vh vc q, v = .ref p ∧ WayAt a H p d.kd d.nm d.st d.go vh vc q d.x ∧ d.kd ≠ .sto
theorem WayIs.mono {H H' : Hp} {v : V} {d : WD} (h : WayIs a H v d) (s : Same H H') : WayIs a H' v d := let ⟨p, vh, vc, q, e, W, k⟩ := h; ⟨p, vh, vc, q, e, W.mono s, k⟩
/-- things in a row -/
def RowAt {α : Type} (R : Hp → V → α → Prop) (H : Hp) (ts : List V) (xs : List α) : Prop := ts.length = xs.length ∧ ∀ (i : Nat) (t : V) (x : α), ts[i]? = some t → xs[i]? = some x → R H t x
theorem RowAt.mono {α : Type} {R : Hp → V → α → Prop} {H H' : Hp} {ts : List V} {xs : List α} (hR : ∀ v x, R H v x → R H' v x) (h : RowAt R H ts xs) : RowAt R H' ts xs := ⟨h.1, fun i t x h1 h2 => hR t x (h.2 i t x h1 h2)⟩
theorem RowAt.nil {α : Type} {R : Hp → V → α → Prop} {H : Hp} : RowAt R H [] [] := ⟨rfl, fun i t x h => by simp at h⟩
theorem RowAt.snoc {α : Type} {R : Hp → V → α → Prop} {H : Hp} {ts : List V} {xs : List α} {t : V} {x : α} (d : RowAt R H ts xs) (hf : R H t x) : RowAt R H (ts ++ [t]) (xs ++ [x]) := by
  refine ⟨by rw [List.length_append, List.length_append, d.1]; rfl, fun i u z h1 h2 => ?_⟩
  by_cases hi : i < ts.length
  · rw [List.getElem?_append_left hi] at h1
    rw [List.getElem?_append_left (by rw [← d.1]; exact hi)] at h2
    exact d.2 i u z h1 h2
  · rw [List.getElem?_append_right (by omega)] at h1
    rw [List.getElem?_append_right (by rw [← d.1]; omega), ← d.1] at h2
    have hz : i - ts.length = 0 := by
      have := (List.getElem?_eq_some_iff.mp h1).1
      simp at this
      omega
    rw [hz] at h1 h2
    simp at h1 h2
    subst h1 h2
    exact hf
theorem RowAt.get {α : Type} {R : Hp → V → α → Prop} {H : Hp} {ts : List V} {xs : List α} {i : Nat} {t : V} (d : RowAt R H ts xs) (h : ts[i]? = some t) : ∃ x, xs[i]? = some x ∧ R H t x := by
  have hi : i < xs.length := by rw [← d.1]; exact (List.getElem?_eq_some_iff.mp h).1
  exact ⟨xs[i], List.getElem?_eq_getElem hi, d.2 i t _ h (List.getElem?_eq_getElem hi)⟩
theorem RowAt.get' {α : Type} {R : Hp → V → α → Prop} {H : Hp} {ts : List V} {xs : List α} {i : Nat} {x : α} (d : RowAt R H ts xs) (h : xs[i]? = some x) : ∃ t, ts[i]? = some t ∧ R H t x := by
  have hi : i < ts.length := by rw [d.1]; exact (List.getElem?_eq_some_iff.mp h).1
  exact ⟨ts[i], List.getElem?_eq_getElem hi, d.2 i _ x (List.getElem?_eq_getElem hi) h⟩
/-- a place: its name and its want -/
def PlIs (a : Ad) (H : Hp) (v : V) (p : Str × Rat) : Prop := ∃ t q, v = .ref t ∧ H t = some (.tup [.str p.1, .ref q]) ∧ FrAt a.Fraction H q p.2
theorem PlIs.mono {H H' : Hp} {v : V} {p : Str × Rat} (h : PlIs a H v p) (s : Same H H') : PlIs a H' v p := let ⟨t, q, e, h1, h2⟩ := h; ⟨t, q, e, s _ _ h1, h2.mono s⟩
theorem same_upd {H : Hp} {d : Addr} {o : HO} (h : H d = none) : Same H (upd H d o) := fun b u e => by rw [upd_ne (ne_of_none e h)]; exact e
theorem same_put {H H' : Hp} {d : Addr} {o : HO} (h : H d = none) (s : Same H H') : Same H (upd H' d o) := fun b u e => by rw [upd_ne (ne_of_none e h)]; exact s _ _ e
theorem val_none {κ : Type} [DecidableEq κ] {kvs : List (κ × V)} {k : κ} (h : ¬ k ∈ kvs.map (·.1)) : valV kvs k = none := by
  cases e : valV kvs k with
  | none => rfl
  | some v => exact absurd (valV_in e) h
theorem val_some {κ : Type} [DecidableEq κ] {kvs : List (κ × V)} {k : κ} (h : k ∈ kvs.map (·.1)) : ∃ v, valV kvs k = some v := by
  cases e : valV kvs k with
  | none => exact absurd h (valV_not e)
  | some v => exact ⟨v, rfl⟩
/-- the dict of the places -/
def WantsAt (a : Ad) (H : Hp) (d : Addr) (ps : List (Str × Rat)) : Prop := ∃ kvs, H d = some (.dK kvs) ∧ kvs.map (·.1) = ps.map (fun p => Sum.inr p.1) ∧ RowAt (fun H v x => ∃ q, v = .ref q ∧ FrAt a.Fraction H q x) H (kvs.map (·.2)) (ps.map (·.2))
theorem WantsAt.mono {H H' : Hp} {d : Addr} {ps : List (Str × Rat)} (h : WantsAt a H d ps) (s : Same H H') : WantsAt a H' d ps :=
  let ⟨kvs, h1, h2, h3⟩ := h; ⟨kvs, s _ _ h1, h2, h3.mono fun v x ⟨q, e, f⟩ => ⟨q, e, f.mono s⟩⟩
inductive IspWants (K : PySem.W.Frag) (a : Ad) (vs : List V) (H : Hp) (Q : VK) : Prop
  | mk (l : Addr) (ts : List V) (ps : List (Str × Rat)) (h1 : vs = [.ref l]) (h2 : SqL K H l ts) (h3 : RowAt (PlIs a) H ts ps) (h4 : (ps.map (·.1)).Nodup) (h5 : ps.length ≤ 1000) (h6 : ∀ d H', H d = none → Same H H' → WantsAt a H' d ps → Q (.ref d) H') : IspWants K a vs H Q
def spWants (K : PySem.W.Frag) (a : Ad) : Sp := fun vs H Q _ => IspWants K a vs H Q
theorem ok_wants_by_name (T : TX K mg a) : FnB P w K mg base CX0 "wants_by_name" 1 ["places"] (spWants K a) := by
  refine T.d_wants_by_name.ok sc_wants_by_name (fun vs H Q E h => ?_) (fun f cdv A outer s H vs Q E hr h => ?_)
  · obtain ⟨_, _, _, rfl, _⟩ := h
    rfl
  · obtain ⟨l, ts, ps, rfl, hS, hp, nd, hlen, k⟩ := h
    refine ⟨_, (pss_cons (ps_set (i := 1) sc_wants_by_name.nd rfl (Or.inl rfl) pe_dnewK)
      (pss_cons (ps_for PassesOwn.never rfl (pi_list (pv 0)) (pg_tup rfl (pgs_cons (pg_name (i := 2) sc_wants_by_name.nd rfl (Or.inl rfl)) (pgs_cons (pg_name (i := 3) sc_wants_by_name.nd rfl (Or.inl rfl)) pgs_nil))) (pss_cons (ps_if (pt_cmp (pc_din (hu_of hr) (pv 2) (pv 1))) (pss_one ps_never) pss_nil)
      (pss_one (ps_dput (hu_of hr) (pv 1) (pv 2) (pv 3) rfl))))
      (pss_one (ps_ret (pv 1))))), ?_⟩
    try dsimp only [cxOf, Cx.nox, Cx.wish]
    intro d nd0
    have s0 : Same H (upd H d (.dK [])) := same_upd nd0
    refine ⟨_, rfl, l, rfl, ⟨_, s0.seq hS⟩, for_list (K := K) (a := l) (xs := ts) (fun i σ H2 => i ≤ ps.length ∧ ∃ z2 z3, σ = [some (.ref l), some (.ref d), z2, z3] ∧ Same H H2 ∧ WantsAt a H2 d (ps.take i)) ⟨Nat.zero_le _, _, _, rfl, s0, [], upd_same, rfl, RowAt.nil⟩ (fun i σ H2 _ ⟨_, _, _, _, s2, _⟩ => s2.seq hS) ?_ ?_⟩
    · rintro i t σ H2 ht ⟨hi, z2, z3, rfl, s2, kvs, hd, hk, hv⟩
      obtain ⟨p, ep, t', q, rfl, h1, h2⟩ := hp.get ht
      have hi' : i < ps.length := (List.getElem?_eq_some_iff.mp ep).1
      have nk : ¬ (Sum.inr p.1 : Key) ∈ kvs.map (·.1) := by
        rw [hk]
        intro m
        obtain ⟨p', hp', e⟩ := List.mem_map.mp m
        have e : p'.1 = p.1 := Sum.inr.inj e
        obtain ⟨j, hj⟩ := List.mem_iff_getElem?.mp hp'
        have hj2 : j < i := by
          have := (List.getElem?_eq_some_iff.mp hj).1
          rw [List.length_take] at this
          omega
        rw [List.getElem?_take, if_pos hj2] at hj
        have g1 : (ps.map (·.1))[j]? = some p.1 := by rw [List.getElem?_map, hj, Option.map_some, e]
        have g2 : (ps.map (·.1))[i]? = some p.1 := by rw [List.getElem?_map, ep, Option.map_some]
        have := (List.getElem?_inj (by rw [List.length_map]; omega) nd).mp (g1.trans g2.symm)
        omega
      refine ⟨t', [.str p.1, .ref q], rfl, SqT.of (s2 _ _ h1), rfl, .str p.1, [.ref q], rfl, ⟨.ref q, [], rfl, ⟨rfl, ?_⟩⟩⟩
      refine ⟨_, rfl, _, rfl, d, _, rfl, DGet.k (k := Sum.inr p.1) hd, _, rfl, ?_⟩
      rw [val_none nk]
      refine iteF ?_
      have hl : kvs.length = i := by
        have := congrArg List.length hk
        rw [List.length_map, List.length_map, List.length_take] at this
        omega
      refine ⟨_, rfl, _, rfl, _, rfl, d, _, rfl, DPut.k (k := Sum.inr p.1) hd (small1000 (by omega)), ?_⟩
      rw [putK_new _ (val_none nk)]
      have s3 := same_put (o := .dK (kvs ++ [(Sum.inr p.1, .ref q)])) nd0 s2
      refine ⟨hi', _, _, rfl, s3, kvs ++ [(Sum.inr p.1, .ref q)], upd_same, ?_, ?_⟩
      · rw [List.map_append, hk, List.take_add_one, ep, Option.toList_some, List.map_append]
        rfl
      · rw [List.map_append, List.take_add_one, ep, Option.toList_some, List.map_append]
        refine RowAt.snoc (hv.mono fun v x ⟨q', e, dq, f⟩ => ⟨q', e, dq, ?_⟩) ⟨q, rfl, h2.mono s3⟩
        rw [upd_ne (ne_of f hd (by intro z; cases z))]
        exact f
    · rintro σ H2 ⟨_, z2, z3, rfl, s2, hw⟩
      rw [hp.1, List.take_length] at hw
      exact ⟨_, rfl, k d H2 nd0 s2 hw⟩
inductive IspCheck (a : Ad) (vs : List V) (H : Hp) (Q : VK) : Prop
  | mk (v : V) (d : WD) (da dw : Addr) (ka kw : List (Key × V)) (h1 : vs = [v, .ref da, .ref dw]) (h2 : WayIs a H v d) (h3 : H da = some (.dK ka)) (h4 : H dw = some (.dK kw)) (h5 : ¬ (Sum.inr d.nm : Key) ∈ ka.map (·.1)) (h6 : (Sum.inr d.st : Key) ∈ kw.map (·.1)) (h7 : (Sum.inr d.go : Key) ∈ kw.map (·.1)) (h8 : ∀ H', Same H H' → Q .non H') : IspCheck a vs H Q
def spCheck (a : Ad) : Sp := fun vs H Q _ => IspCheck a vs H Q
theorem noStore (T : TX K mg a) {kd : Kd} (h : kd ≠ .sto) : PySem.W.kitOne K (.ref (kd.C a)) (.ref a.Store) = some false := by
  cases kd
  · exact T.k_Way_Store
  · exact T.k_Growing_Store
  · exact T.k_Leaking_Store
  · exact absurd rfl h
theorem tyWay (T : TX K mg a) {H : Hp} {p dx : Addr} {fs : List (Str × V)} {kd : Kd} (h : H p = some (.ins (kd.C a) dx fs)) : TyOf K H (.ref p) (.ref (kd.C a)) := by
  have c := (cls_any T kd).cl
  cases kd
  · exact TyOf.ins h c T.c1_Way T.c2 T.c3 T.c4_Way
  · exact TyOf.ins h c T.c1_Growing T.c2 T.c3 T.c4_Growing
  · exact TyOf.ins h c T.c1_Leaking T.c2 T.c3 T.c4_Leaking
  · exact TyOf.ins h c T.c1_Store T.c2 T.c3 T.c4_Store
theorem ok_check_way (T : TX K mg a) : FnB P w K mg base CX0 "check_way" 1 ["way", "ahead", "wants"] (spCheck a) := by
  refine T.d_check_way.ok sc_check_way (fun vs H Q E h => ?_) (fun f cdv A outer s H vs Q E hr h => ?_)
  · obtain ⟨_, _, _, _, _, _, rfl, _⟩ := h
    rfl
  · obtain ⟨v, d, da, dw, ka, kw, rfl, ⟨p, vh, vc, q, rfl, W, hk⟩, ha, hw, n1, n2, n3, k⟩ := h
    refine ⟨_, (pss_cons (ps_if (pt_val (pe_callB (call_isI (c := .ref a.Store)) (by rfl) T.z_isinstance PyProof.Rows.boot_isinstance (pa_cons (pv 0) (pa_cons (pe_glob (v := .ref a.Store) (by rfl) T.mg_Store rfl) pa_nil)))) (pss_one ps_never) pss_nil)
      (pss_cons (ps_if (pt_cmp (pc_din (hu_of hr) (pe_fld (pv 0) rfl) (pv 1))) (pss_one ps_never) pss_nil)
      (pss_one (ps_for PassesOwn.never rfl (pi_tup (pe_tup (pa_cons (pe_fld (pv 0) rfl) (pa_cons (pe_fld (pv 0) rfl) pa_nil)))) (pg_name (i := 3) sc_check_way.nd rfl (Or.inl rfl)) (pss_one (ps_if (pt_cmp (pc_dnotin (hu_of hr) (pv 3) (pv 2))) (pss_one ps_never) pss_nil)))))), ?_⟩
    try dsimp only [cxOf, Cx.nox, Cx.wish]
    obtain ⟨dx, fs, ho, h5, _⟩ := W.ob
    have c := cls_any T d.kd
    refine ⟨_, rfl, _, _, _, _, rfl, (fun u h => h), tyWay T ho, noStore T hk, _, rfl, iteF ?_⟩
    refine ⟨_, rfl, p, _, dx, fs, _, rfl, ho, c.cl, c.n1, h5.nm, _, rfl, da, _, rfl, DGet.k (k := Sum.inr d.nm) ha, _, rfl, ?_⟩
    rw [val_none n1]
    refine iteF ?_
    refine ⟨_, rfl, p, _, dx, fs, _, rfl, ho, c.cl, c.n2, h5.st, _, rfl, p, _, dx, fs, _, rfl, ho, c.cl, c.n3, h5.go, by show 2 ≤ sizeLine; decide, fun t nt => ?_⟩
    have s1 := same_upd (o := .tup [.str d.st, .str d.go]) nt
    refine ⟨t, rfl, ⟨_, SqT.of upd_same⟩, for_tup (K := K) (a := t) (xs := [.str d.st, .str d.go]) (fun i σ H2 => ∃ z, σ = [some (.ref p), some (.ref da), some (.ref dw), z] ∧ H2 = upd H t (.tup [.str d.st, .str d.go])) ⟨_, rfl, rfl⟩ (fun i σ H2 _ ⟨_, _, e⟩ => by rw [e]; exact SqT.of upd_same) ?_ ?_⟩
    · rintro i x σ H2 hx ⟨z, rfl, rfl⟩
      have hx : ∃ y, x = .str y ∧ (Sum.inr y : Key) ∈ kw.map (·.1) := by
        match i, hx with
        | 0, hx => exact ⟨d.st, (Option.some.inj hx).symm, n2⟩
        | 1, hx => exact ⟨d.go, (Option.some.inj hx).symm, n3⟩
        | i + 2, hx => simp at hx
      obtain ⟨y, rfl, hy⟩ := hx
      obtain ⟨u, hu⟩ := val_some hy
      refine ⟨_, rfl, _, rfl, dw, _, rfl, DGet.k (k := Sum.inr y) (s1 _ _ hw), _, rfl, ?_⟩
      rw [hu]
      exact iteF ⟨_, rfl, rfl⟩
    · rintro σ H2 ⟨z, rfl, rfl⟩
      exact k _ s1
/-- the dict of the ways -/
def WaysAt (a : Ad) (H : Hp) (d : Addr) (ds : List WD) : Prop := ∃ kvs, H d = some (.dK kvs) ∧ kvs.map (·.1) = ds.map (fun x => Sum.inr x.nm) ∧ RowAt (WayIs a) H (kvs.map (·.2)) ds
theorem WaysAt.mono {H H' : Hp} {d : Addr} {ds : List WD} (h : WaysAt a H d ds) (s : Same H H') : WaysAt a H' d ds :=
  let ⟨kvs, h1, h2, h3⟩ := h; ⟨kvs, s _ _ h1, h2, h3.mono fun v x z => z.mono s⟩
inductive IspWaysBy (K : PySem.W.Frag) (a : Ad) (vs : List V) (H : Hp) (Q : VK) : Prop
  | mk (l dw : Addr) (ts : List V) (ds : List WD) (ps : List (Str × Rat)) (h1 : vs = [.ref l, .ref dw]) (h2 : SqL K H l ts) (h3 : RowAt (WayIs a) H ts ds) (h4 : WantsAt a H dw ps) (h5 : (ds.map (·.nm)).Nodup) (h6 : ds.length ≤ 1000) (h7 : (∀ d ∈ ds, d.st ∈ ps.map (·.1) ∧ d.go ∈ ps.map (·.1))) (h8 : ∀ d H', H d = none → Same H H' → WaysAt a H' d ds → Q (.ref d) H') : IspWaysBy K a vs H Q
def spWaysBy (K : PySem.W.Frag) (a : Ad) : Sp := fun vs H Q _ => IspWaysBy K a vs H Q
theorem WayIs.keep {H H' : Hp} {v : V} {x : WD} (h : WayIs a H v x) (k : Stays a H H') : WayIs a H' v x := let ⟨p, vh, vc, q, e, W, hk⟩ := h; ⟨p, vh, vc, q, e, W.keep k, hk⟩
theorem WayIs.put {H : Hp} {v : V} {x : WD} {d : Addr} {kvs : List (Key × V)} {o : HO} (h : WayIs a H v x) (hd : H d = some (.dK kvs)) : WayIs a (upd H d o) v x := h.keep (.put hd (by intro _ _ _ z; cases z))
theorem nodup_take {α β : Type} {xs : List α} {f : α → β} {i : Nat} {x : α} (nd : (xs.map f).Nodup) (e : xs[i]? = some x) : ¬ f x ∈ (xs.take i).map f := by
  intro m
  obtain ⟨y, hy, ef⟩ := List.mem_map.mp m
  obtain ⟨j, hj⟩ := List.mem_iff_getElem?.mp hy
  have hi := (List.getElem?_eq_some_iff.mp e).1
  have hj2 : j < i := by
    have := (List.getElem?_eq_some_iff.mp hj).1
    rw [List.length_take] at this
    omega
  rw [List.getElem?_take, if_pos hj2] at hj
  have g1 : (xs.map f)[j]? = some (f x) := by rw [List.getElem?_map, hj, Option.map_some, ef]
  have g2 : (xs.map f)[i]? = some (f x) := by rw [List.getElem?_map, e, Option.map_some]
  have := (List.getElem?_inj (by rw [List.length_map]; omega) nd).mp (g1.trans g2.symm)
  omega
theorem inr_mem {n : Str} {ns : List Str} : (Sum.inr n : Key) ∈ ns.map (fun x => (Sum.inr x : Key)) ↔ n ∈ ns := by
  constructor
  · intro h
    obtain ⟨y, hy, e⟩ := List.mem_map.mp h
    rw [← Sum.inr.inj e]
    exact hy
  · exact fun h => List.mem_map.mpr ⟨n, h, rfl⟩
theorem ok_ways_by_name (T : TX K mg a) : FnB P w K mg base CX0 "ways_by_name" 2 ["ways", "wants"] (spWaysBy K a) := by
  refine T.d_ways_by_name.ok sc_ways_by_name (fun vs H Q E h => ?_) (fun f cdv A outer s H vs Q E hr h => ?_)
  · obtain ⟨_, _, _, _, _, rfl, _⟩ := h
    rfl
  · obtain ⟨l, dw, ts, ds, ps, rfl, hS, hp, hw, nd, hlen, hin, k⟩ := h
    refine ⟨_, (pss_cons (ps_set (i := 2) sc_ways_by_name.nd rfl (Or.inl rfl) pe_dnewK)
      (pss_cons (ps_for PassesOwn.never rfl (pi_list (pv 0)) (pg_name (i := 3) sc_ways_by_name.nd rfl (Or.inl rfl)) (pss_cons (ps_expr (pe_fn (ok_check_way T) hr pass0 (pa_cons (pv 3) (pa_cons (pv 2) (pa_cons (pv 1) pa_nil)))))
      (pss_one (ps_dput (hu_of hr) (pv 2) (pe_fld (pv 3) rfl) (pv 3) rfl))))
      (pss_one (ps_ret (pv 2))))), ?_⟩
    try dsimp only [cxOf, Cx.nox, Cx.wish]
    intro d nd0
    have s0 : Same H (upd H d (.dK [])) := same_upd nd0
    refine ⟨_, rfl, l, rfl, ⟨_, s0.seq hS⟩, for_list (K := K) (a := l) (xs := ts) (fun i σ H2 => i ≤ ds.length ∧ ∃ z3, σ = [some (.ref l), some (.ref dw), some (.ref d), z3] ∧ Same H H2 ∧ WaysAt a H2 d (ds.take i)) ⟨Nat.zero_le _, _, rfl, s0, [], upd_same, rfl, RowAt.nil⟩ (fun i σ H2 _ ⟨_, _, _, s2, _⟩ => s2.seq hS) ?_ ?_⟩
    · rintro i t σ H2 ht ⟨hi, z3, rfl, s2, kvs, hd, hk, hv⟩
      obtain ⟨x, ex, hx⟩ := hp.get ht
      have hi' : i < ds.length := (List.getElem?_eq_some_iff.mp ex).1
      have nk : ¬ (Sum.inr x.nm : Key) ∈ kvs.map (·.1) := by
        rw [hk]
        have := nodup_take (f := fun z : WD => (Sum.inr z.nm : Key)) (by
          rw [show (fun z : WD => (Sum.inr z.nm : Key)) = (fun n => (Sum.inr n : Key)) ∘ (fun z : WD => z.nm) from rfl, ← List.map_map]
          exact nd.map _ (fun u v h e => h (Sum.inr.inj e))) ex
        exact this
      obtain ⟨kw, hkw, ekw, _⟩ := hw.mono s2
      obtain ⟨i1, i2⟩ := hin x (List.mem_of_getElem? ex)
      have ekw' : kw.map (·.1) = (ps.map (·.1)).map (fun n => (Sum.inr n : Key)) := by rw [ekw, List.map_map]; rfl
      refine ⟨_, rfl, _, rfl, _, rfl, t, x, d, dw, kvs, kw, rfl, hx.mono s2, hd, hkw, nk, by rw [ekw']; exact inr_mem.mpr i1, by rw [ekw']; exact inr_mem.mpr i2, fun H3 s3 => ?_⟩
      have hd3 := s3 _ _ hd
      have hx3 := hx.mono (s2.trans s3)
      obtain ⟨p, vh, vc, q, rfl, W, hkd⟩ := id hx3
      obtain ⟨dx, fs, ho, h5, _⟩ := W.ob
      have c := cls_any T x.kd
      have hl : kvs.length = i := by
        have := congrArg List.length hk
        rw [List.length_map, List.length_map, List.length_take] at this
        omega
      refine ⟨_, rfl, _, rfl, _, rfl, p, _, dx, fs, _, rfl, ho, c.cl, c.n1, h5.nm, d, _, rfl, DPut.k (k := Sum.inr x.nm) hd3 (small1000 (by omega)), ?_⟩
      rw [putK_new _ (val_none nk)]
      have s4 := same_put (o := .dK (kvs ++ [(Sum.inr x.nm, .ref p)])) nd0 (s2.trans s3)
      refine ⟨hi', _, rfl, s4, kvs ++ [(Sum.inr x.nm, .ref p)], upd_same, ?_, ?_⟩
      · rw [List.map_append, hk, List.take_add_one, ex, Option.toList_some, List.map_append]
        rfl
      · rw [List.map_append, List.take_add_one, ex, Option.toList_some]
        exact RowAt.snoc (hv.mono fun v y z => (z.mono s3).put hd3) (hx3.put hd3)
    · rintro σ H2 ⟨_, z3, rfl, s2, hw2⟩
      rw [hp.1, List.take_length] at hw2
      exact ⟨_, rfl, k d H2 nd0 s2 hw2⟩
def fsN (dw dy : Addr) : List (Str × V) := [("wants", .ref dw), ("ways", .ref dy)]
theorem fsN_new (dw dy : Addr) : putF "ways" (.ref dy) (putF "wants" (.ref dw) []) = fsN dw dy := by
  show (if ("wants" : Str) = "ways" then _ else (("wants" : Str), V.ref dw) :: [(("ways" : Str), V.ref dy)]) = fsN dw dy
  rw [if_neg (by decide +kernel)]
  rfl
theorem fsN_w (dw dy : Addr) : (fsN dw dy).lookup ("wants" : Str) = some (.ref dw) := rfl
theorem fsN_y (dw dy : Addr) : (fsN dw dy).lookup ("ways" : Str) = some (.ref dy) := by
  show List.lookup ("ways" : Str) [(("wants" : Str), V.ref dw), ("ways", V.ref dy)] = _
  rw [List.lookup_cons, show (("ways" : Str) == "wants") = false by decide +kernel]
  rfl
theorem fsN_no (dw dy : Addr) {m : Str} (h1 : (m == "wants") = false) (h2 : (m == "ways") = false) : (fsN dw dy).lookup m = none := by
  show List.lookup m [(("wants" : Str), V.ref dw), ("ways", V.ref dy)] = _
  rw [List.lookup_cons, h1, List.lookup_cons, h2]
  rfl
/-- a net of places and ways stands at p -/
def NetAt (a : Ad) (H : Hp) (p : Addr) (ps : List (Str × Rat)) (ds : List WD) : Prop := ∃ dx dw dy, H p = some (.ins a.Net dx (fsN dw dy)) ∧ WantsAt a H dw ps ∧ WaysAt a H dy ds
theorem NetAt.mono {H H' : Hp} {p : Addr} {ps : List (Str × Rat)} {ds : List WD} (h : NetAt a H p ps ds) (s : Same H H') : NetAt a H' p ps ds := let ⟨dx, dw, dy, e, h1, h2⟩ := h; ⟨dx, dw, dy, s _ _ e, h1.mono s, h2.mono s⟩
/-- what a net may be made of -/
structure NetOk (ps : List (Str × Rat)) (ds : List WD) : Prop where
  np : (ps.map (·.1)).Nodup
  lp : ps.length ≤ 12
  nd : (ds.map (·.nm)).Nodup
  ld : ds.length ≤ 24
  io : ∀ d ∈ ds, d.st ∈ ps.map (·.1) ∧ d.go ∈ ps.map (·.1)
inductive IspNetI (K : PySem.W.Frag) (a : Ad) (vs : List V) (H : Hp) (Q : VK) : Prop
  | mk (p dx lp lw : Addr) (tp tw : List V) (ps : List (Str × Rat)) (ds : List WD) (h1 : vs = [.ref p, .ref lp, .ref lw]) (h2 : H p = some (.ins a.Net dx [])) (h3 : SqL K H lp tp) (h4 : RowAt (PlIs a) H tp ps) (h5 : SqL K H lw tw) (h6 : RowAt (WayIs a) H tw ds) (h7 : NetOk ps ds) (h8 : ∀ H', (∀ b o, H b = some o → b ≠ p → H' b = some o) → NetAt a H' p ps ds → Q .non H') : IspNetI K a vs H Q
def spNetI (K : PySem.W.Frag) (a : Ad) : Sp := fun vs H Q _ => IspNetI K a vs H Q
theorem WantsAt.ins {H : Hp} {d p C dx : Addr} {fs gs : List (Str × V)} {ps : List (Str × Rat)} (h : WantsAt a H d ps) (hp : H p = some (.ins C dx fs)) (hC : C ≠ a.Fraction) : WantsAt a (upd H p (.ins C dx gs)) d ps := by
  obtain ⟨kvs, h1, h2, h3⟩ := h
  refine ⟨kvs, by rw [upd_ne (ne_of h1 hp (by intro z; cases z))]; exact h1, h2, h3.mono fun v x ⟨q, e, dq, f⟩ => ⟨q, e, dq, ?_⟩⟩
  rw [upd_ne (ne_of f hp (by intro z; cases z; exact hC rfl))]
  exact f
theorem Stays.ins {H : Hp} {p C dx : Addr} {fs gs : List (Str × V)} (hp : H p = some (.ins C dx fs)) (hC : C ≠ a.Fraction ∧ ∀ kd : Kd, C ≠ kd.C a) : Stays a H (upd H p (.ins C dx gs)) := fun b C' dx' fs' h e => by
  rw [upd_ne (ne_of e hp fun z => ?_)]
  · exact e
  · have ec := (HO.ins.inj z).1
    rcases h with rfl | ⟨kd, rfl⟩
    · exact hC.1 ec.symm
    · exact hC.2 kd ec.symm
theorem WaysAt.ins {H : Hp} {d p C dx : Addr} {fs gs : List (Str × V)} {ds : List WD} (h : WaysAt a H d ds) (hp : H p = some (.ins C dx fs)) (hC : C ≠ a.Fraction ∧ ∀ kd : Kd, C ≠ kd.C a) : WaysAt a (upd H p (.ins C dx gs)) d ds := by
  obtain ⟨kvs, h1, h2, h3⟩ := h
  exact ⟨kvs, by rw [upd_ne (ne_of h1 hp (by intro z; cases z))]; exact h1, h2, h3.mono fun v x z => z.keep (.ins hp hC)⟩
theorem netC (T : TX K mg a) : a.Net ≠ a.Fraction ∧ ∀ kd : Kd, a.Net ≠ kd.C a := by
  have w1 : a.Net ≠ a.Fraction := fun e => by
    have h := T.na_Fraction_top
    have h2 := T.m_Fraction_sign
    rw [← e] at h2
    obtain ⟨f, fd, _, ⟨m, _, _⟩, _⟩ := h2
    cases T.no_Net_sign.symm.trans m
  refine ⟨w1, fun kd e => ?_⟩
  have := T.no_Net_may_stay
  cases kd
  · obtain ⟨f, fd, _, ⟨m, _, _⟩, _⟩ := T.m_Way_may_stay
    rw [show a.Way = a.Net from e.symm] at m
    cases this.symm.trans m
  · obtain ⟨f, fd, _, ⟨m, _, _⟩, _⟩ := T.m_Growing_may_stay
    rw [show a.Growing = a.Net from e.symm] at m
    cases this.symm.trans m
  · obtain ⟨f, fd, _, ⟨m, _, _⟩, _⟩ := T.m_Leaking_may_stay
    rw [show a.Leaking = a.Net from e.symm] at m
    cases this.symm.trans m
  · obtain ⟨f, fd, _, ⟨m, _, _⟩, _⟩ := T.m_Store_may_stay
    rw [show a.Store = a.Net from e.symm] at m
    cases this.symm.trans m
theorem mk_Net (T : TX K mg a) : MkB P w K mg base CX0 a.Net 4 ["self", "places", "ways"] [] (spNetI K a) := by
  refine T.i_Net.ok sc_Net_init (fun vs H Q E h => ?_) (fun f cdv A outer s H vs Q E hr h => ?_) _ (by simp)
  · obtain ⟨_, _, _, _, _, _, _, _, rfl, _⟩ := h
    rfl
  · obtain ⟨p, dx, lp, lw, tp, tw, ps, ds, rfl, hp, hS, hP, hL, hW, ok, k⟩ := h
    refine ⟨_, (pss_cons (ps_if (PW.pt (pw_or (pt_cmpR op_gt (pe_callB call_lenK (by rfl) T.z_len PySem.boot_len (pa_cons (pv 1) pa_nil)) (pe_gi T.gi_MOST_PLACES) (nomark _)) (pw_or1 (pt_cmpR op_gt (pe_callB call_lenK (by rfl) T.z_len PySem.boot_len (pa_cons (pv 2) pa_nil)) (pe_gi T.gi_MOST_WAYS) (nomark _))))) (pss_one ps_never) pss_nil)
      (pss_cons (ps_fld (pv 0) (pe_fn (ok_wants_by_name T) hr pass0 (pa_cons (pv 1) pa_nil)) rfl)
      (pss_one (ps_fld (pv 0) (pe_fn (ok_ways_by_name T) hr pass0 (pa_cons (pv 2) (pa_cons (pe_fld (pv 0) rfl) pa_nil))) rfl)))), ?_⟩
    try dsimp only [cxOf, Cx.nox, Cx.wish]
    have e1 : (tp.length : Int) ≤ 12 := by have := ok.lp; rw [← hP.1] at this; omega
    have e2 : (tw.length : Int) ≤ 24 := by have := ok.ld; rw [← hW.1] at this; omega
    refine ⟨_, rfl, lp, tp, rfl, .inl hS, _, _, rfl, rfl, _, rfl, iteD (decide_eq_false (by omega)) ?_⟩
    refine ⟨_, rfl, lw, tw, rfl, .inl hL, _, _, rfl, rfl, _, rfl, iteD (decide_eq_false (by omega)) ?_⟩
    refine ⟨_, rfl, lp, tp, ps, rfl, hS, hP, ok.np, Nat.le_trans ok.lp (by decide), fun dw H1 n1 s1 hw1 => ?_⟩
    have hp1 := s1 _ _ hp
    refine ⟨_, rfl, p, a.Net, dx, [], rfl, hp1, T.cl_Net, T.na_Net_wants, by decide, ?_⟩
    have hC := netC T
    generalize hH2 : upd H1 p (.ins a.Net dx (putF "wants" (.ref dw) [])) = H2
    have hp2 : H2 p = some (.ins a.Net dx (putF "wants" (.ref dw) [])) := by rw [← hH2]; exact upd_same
    have hw2 : WantsAt a H2 dw ps := by rw [← hH2]; exact hw1.ins hp1 hC.1
    have k2 : ∀ b o, H b = some o → b ≠ p → H2 b = some o := fun b o e ne => by rw [← hH2, upd_ne ne]; exact s1 _ _ e
    have hL2 : SqL K H2 lw tw := by
      rcases hL with (h | ⟨o, h⟩) | h
      · exact .inl (.inl (k2 _ _ h (ne_of h hp (by intro z; cases z))))
      · exact .inl (.inr ⟨o, k2 _ _ h (ne_of h hp (by intro z; cases z))⟩)
      · exact .inr h
    have hW2 : RowAt (WayIs a) H2 tw ds := hW.mono fun v x z => z.keep fun b C' dx' fs' h e => k2 _ _ e (ne_of e hp fun y => by
      have ec := (HO.ins.inj y).1
      rcases h with rfl | ⟨kd, rfl⟩
      · exact hC.1 ec.symm
      · exact hC.2 kd ec.symm)
    refine ⟨_, rfl, _, rfl, p, _, dx, _, _, rfl, hp2, T.cl_Net, T.na_Net_wants, rfl, lw, dw, tw, ds, ps, rfl, hL2, hW2, hw2, ok.nd, Nat.le_trans ok.ld (by decide), ok.io, fun dy H3 n3 s3 hy3 => ?_⟩
    have hp3 := s3 _ _ hp2
    refine ⟨_, rfl, p, a.Net, dx, _, rfl, hp3, T.cl_Net, T.na_Net_ways, Nat.lt_of_le_of_lt (le_put (Nat.le_refl 0)) (by decide), ?_⟩
    rw [fsN_new]
    refine k _ (fun b o e ne => ?_) ⟨dx, dw, dy, upd_same, (hw2.mono s3).ins hp3 hC.1, hy3.ins hp3 hC⟩
    rw [upd_ne ne]
    exact s3 _ _ (k2 _ _ e ne)
theorem mkN {H : Hp} {Q : VK} {lp lw : Addr} {tp tw : List V} {ps : List (Str × Rat)} {ds : List WD} (hS : SqL K H lp tp) (hP : RowAt (PlIs a) H tp ps) (hL : SqL K H lw tw) (hW : RowAt (WayIs a) H tw ds) (ok : NetOk ps ds)
    (k : ∀ p H', H p = none → Same H H' → NetAt a H' p ps ds → Q (.ref p) H') (p dx : Addr) (h1 : H p = none) (h2 : H dx = none) (_ : dx ≠ p) :
    spNetI K a [.ref p, .ref lp, .ref lw] (upd (upd H dx (.own p)) p (.ins a.Net dx [])) (fun v H2 => v = .non ∧ Q (.ref p) H2) E0 := by
  have ss := same_two (C := a.Net) h1 h2
  exact ⟨p, dx, lp, lw, tp, tw, ps, ds, rfl, upd_same, ss.seq hS, hP.mono fun v x z => z.mono ss, ss.seq hL, hW.mono fun v x z => z.mono ss, ok, fun H' hs hn => ⟨rfl, k p H' h1 (same_new h1 h2 hs) hn⟩⟩
theorem WaysAt.get {H : Hp} {dy : Addr} {ds : List WD} {d : WD} (h : WaysAt a H dy ds) (nd : (ds.map (·.nm)).Nodup) (hd : d ∈ ds) : ∃ kvs v, H dy = some (.dK kvs) ∧ valV kvs (Sum.inr d.nm) = some v ∧ WayIs a H v d := by
  obtain ⟨kvs, h1, h2, h3⟩ := h
  obtain ⟨i, hi⟩ := List.mem_iff_getElem?.mp hd
  obtain ⟨t, ht, hw⟩ := h3.get' hi
  have hil := (List.getElem?_eq_some_iff.mp hi).1
  rw [List.getElem?_map] at ht
  cases e : kvs[i]? with
  | none => rw [e] at ht; cases ht
  | some kv =>
    rw [e] at ht
    have e2 : kv.2 = t := Option.some.inj ht
    have e1 : kv.1 = Sum.inr d.nm := by
      have g1 : (kvs.map (·.1))[i]? = some kv.1 := by rw [List.getElem?_map, e]; rfl
      rw [h2, List.getElem?_map, hi] at g1
      exact (Option.some.inj g1).symm
    refine ⟨kvs, t, h1, ?_, hw⟩
    obtain ⟨v, hv⟩ := val_some (kvs := kvs) (k := (Sum.inr d.nm : Key)) (List.mem_map.mpr ⟨kv, List.mem_of_getElem? e, e1⟩)
    rw [hv]
    unfold valV at hv
    cases f : kvs.find? (fun kv => decide (kv.1 = (Sum.inr d.nm : Key))) with
    | none => rw [f] at hv; cases hv
    | some kv' =>
      rw [f] at hv
      have hp := List.find?_some f
      have m := List.mem_of_find?_eq_some f
      obtain ⟨j, hj⟩ := List.mem_iff_getElem?.mp m
      have ej : kv'.1 = Sum.inr d.nm := of_decide_eq_true hp
      have nd2 : (kvs.map (·.1)).Nodup := by
        rw [h2, show (fun z : WD => (Sum.inr z.nm : Key)) = (fun n => (Sum.inr n : Key)) ∘ (fun z : WD => z.nm) from rfl, ← List.map_map]
        exact nd.map _ (fun u v h e => h (Sum.inr.inj e))
      have g1 : (kvs.map (·.1))[j]? = some (Sum.inr d.nm) := by rw [List.getElem?_map, hj, Option.map_some, ej]
      have g2 : (kvs.map (·.1))[i]? = some (Sum.inr d.nm) := by rw [List.getElem?_map, e, Option.map_some, e1]
      have ij := (List.getElem?_inj (by rw [List.length_map]; exact (List.getElem?_eq_some_iff.mp hj).1) nd2).mp (g1.trans g2.symm)
      subst ij
      rw [hj] at e
      cases e
      rw [← e2]
      exact hv.symm
inductive IspNetWay (a : Ad) (vs : List V) (H : Hp) (Q : VK) : Prop
  | mk (p : Addr) (ps : List (Str × Rat)) (ds : List WD) (d : WD) (h1 : vs = [.ref p, .str d.nm]) (h2 : NetAt a H p ps ds) (h3 : (ds.map (·.nm)).Nodup) (h4 : d ∈ ds) (h5 : ∀ v, WayIs a H v d → Q v H) : IspNetWay a vs H Q
def spNetWay (a : Ad) : Sp := fun vs H Q _ => IspNetWay a vs H Q
theorem ok_Net_way (T : TX K mg a) : MtB P w K mg base CX0 a.Net "way" 1 ["self", "name"] (spNetWay a) := by
  refine T.m_Net_way.ok sc_Net_way (fun vs H Q E h => ?_) (fun f cdv A outer s H vs Q E hr h => ?_)
  · obtain ⟨_, _, _, _, rfl, _⟩ := h
    rfl
  · obtain ⟨p, ps, ds, d, rfl, ⟨dx, dw, dy, hp, hw, hy⟩, nd, hd, k⟩ := h
    refine ⟨_, (pss_cons (ps_if (pt_cmp (pc_dnotin (hu_of hr) (pv 1) (pe_fld (pv 0) rfl))) (pss_one ps_never) pss_nil)
      (pss_one (ps_ret (pe_dget (hu_of hr) (pe_fld (pv 0) rfl) (pv 1) (fun _ _ => rfl))))), ?_⟩
    try dsimp only [cxOf, Cx.nox, Cx.wish]
    obtain ⟨kvs, v, h1, h2, h3⟩ := hy.get nd hd
    refine ⟨_, rfl, _, rfl, p, _, dx, _, _, rfl, hp, T.cl_Net, T.na_Net_ways, fsN_y _ _, dy, _, rfl, DGet.k (k := Sum.inr d.nm) h1, _, rfl, ?_⟩
    rw [h2]
    refine iteF ?_
    refine ⟨_, rfl, p, _, dx, _, _, rfl, hp, T.cl_Net, T.na_Net_ways, fsN_y _ _, _, rfl, dy, v, rfl, ?_, k v h3⟩
    rw [← h2]
    exact DGet.k (k := Sum.inr d.nm) h1
end
end G
namespace G
open PySem L2
section
variable {P : Program} {w : World} {K : PySem.W.Frag} {mg : Str → Option Value} {base : Heap} {a : Ad}
/-- the net stands apart from the thing at d -/
def NetOff (a : Ad) (H : Hp) (p d : Addr) (ps : List (Str × Rat)) (ds : List WD) : Prop := ∃ H0, NetAt a H0 p ps ds ∧ Same H0 H ∧ H0 d = none
inductive IspNNames (a : Ad) (vs : List V) (H : Hp) (Q : VK) : Prop
  | mk (p : Addr) (ps : List (Str × Rat)) (ds : List WD) (h1 : vs = [.ref p]) (h2 : NetAt a H p ps ds) (h3 : ∀ l, H l = none → Q (.ref l) (upd H l (.lst (ps.map fun x => V.str x.1)))) : IspNNames a vs H Q
def spNNames (a : Ad) : Sp := fun vs H Q _ => IspNNames a vs H Q
theorem ok_Net_names (T : TX K mg a) : MtB P w K mg base CX0 a.Net "names" 1 ["self"] (spNNames a) := by
  refine T.m_Net_names.ok sc_Net_names (fun vs H Q E h => ?_) (fun f cdv A outer s H vs Q E hr h => ?_)
  · obtain ⟨_, _, _, rfl, _⟩ := h
    rfl
  · obtain ⟨p, ps, ds, rfl, ⟨dx, dw, dy, hp, ⟨kvs, h1, h2, h3⟩, hy⟩, k⟩ := h
    refine ⟨_, (pss_one (ps_ret (pe_callTy (call_list_dict hr.hd) (by rfl) T.z_list PyProof.Rows.boot_list (pa_cons (pe_fld (pv 0) rfl) pa_nil)))), ?_⟩
    try dsimp only [cxOf, Cx.nox, Cx.wish]
    refine ⟨_, rfl, p, _, dx, _, _, rfl, hp, T.cl_Net, T.na_Net_wants, fsN_w _ _, dw, kvs, rfl, .inl h1, fun l nl => ?_⟩
    have e : (kvs.map fun kv => kV kv.1) = ps.map fun x => V.str x.1 := by
      have := congrArg (List.map kV) h2
      rw [List.map_map, List.map_map] at this
      exact this
    rw [e]
    exact k l nl
end
end G
namespace G
open PySem L2
section
variable {P : Program} {w : World} {K : PySem.W.Frag} {mg : Str → Option Value} {base : Heap} {a : Ad}
theorem cut_take {xs : List V} (j : Nat) : cutV xs none (some (j : Int)) = xs.take j := by
  unfold cutV
  rw [HT.sIx_none, HT.sIx_nat, List.drop_zero, Nat.sub_zero]
  by_cases h : j ≤ xs.length
  · rw [Nat.min_eq_left h]
  · rw [Nat.min_eq_right (by omega), List.take_length, List.take_of_length_le (by omega)]
theorem cut_drop {xs : List V} (i : Nat) : cutV xs (some (i : Int)) none = xs.drop i := by
  unfold cutV
  rw [HT.sIx_nat, HT.sIx_none]
  by_cases h : i ≤ xs.length
  · rw [Nat.min_eq_left h, List.take_of_length_le (by rw [List.length_drop]; omega)]
  · rw [Nat.min_eq_right (by omega), List.drop_of_length_le (Nat.le_refl _), List.take_nil, List.drop_of_length_le (by omega)]
theorem WayIs.lst {H : Hp} {v : V} {x : WD} {l : Addr} {us zs : List V} (h : WayIs a H v x) (hl : H l = some (.lst us)) : WayIs a (upd H l (.lst zs)) v x := h.keep (.put hl (by intro _ _ _ z; cases z))
theorem Bd.smr {n : Nat} {x : Rat} (b : Bd n x) (hn : n < 9000) : SmR x := ⟨Nat.lt_of_le_of_lt b.1 (Nat.pow_lt_pow_right (by decide) hn), by show Sm _; unfold Sm; rw [Int.natAbs_natCast]; exact Nat.lt_of_le_of_lt b.2 (Nat.pow_lt_pow_right (by decide) hn)⟩
def FrIs (a : Ad) (H : Hp) (v : V) (x : Rat) : Prop := ∃ q, v = .ref q ∧ FrAt a.Fraction H q x
theorem FrIs.mono {H H' : Hp} {v : V} {x : Rat} (h : FrIs a H v x) (s : Same H H') : FrIs a H' v x := let ⟨q, e, f⟩ := h; ⟨q, e, f.mono s⟩
theorem FrIs.keep {H H' : Hp} {v : V} {x : Rat} (h : FrIs a H v x) (s : KeepD H H') : FrIs a H' v x := let ⟨q, e, d, f⟩ := h; ⟨q, e, d, s _ _ f (by intro _ z; cases z) (by intro _ _ z; cases z)⟩
def Yw : Wy WD := ⟨(·.st), (·.go), fun d => gainOf d.kd d.x⟩
inductive IspCmp (a : Ad) (c : Bool) (vs : List V) (H : Hp) (Q : VK) : Prop
  | mk (p q : Addr) (x y : Rat) (h1 : vs = [.ref p, .ref q]) (h2 : FrAt a.Fraction H p x) (h3 : FrAt a.Fraction H q y) (h4 : SmR x) (h5 : SmR y) (h6 : Q (.bl (btr c x y)) H) : IspCmp a c vs H Q
def spCmp (a : Ad) (c : Bool) : Sp := fun vs H Q _ => IspCmp a c vs H Q
theorem ok_is_more (T : TX K mg a) : FnB P w K mg base CX0 "is_more" 2 ["one", "other"] (spCmp a true) := by
  refine T.d_is_more.ok sc_is_more (fun vs H Q E h => ?_) (fun f cdv A outer s H vs Q E hr h => ?_)
  · obtain ⟨_, _, _, _, rfl, _⟩ := h
    rfl
  · obtain ⟨p, q, x, y, rfl, fp, fq, sx, sy, k⟩ := h
    refine ⟨_, (pss_one (ps_ret (pe_frm T.fr (pv 1) (ok_under T) hr pass0 (pa_cons (pv 0) pa_nil)))), ?_⟩
    try dsimp only [cxOf, Cx.nox, Cx.wish]
    exact ⟨_, rfl, q, y, rfl, fq, _, rfl, q, p, y, x, rfl, fq, fp, sy, sx, k⟩
theorem ok_is_less (T : TX K mg a) : FnB P w K mg base CX0 "is_less" 2 ["one", "other"] (spCmp a false) := by
  refine T.d_is_less.ok sc_is_less (fun vs H Q E h => ?_) (fun f cdv A outer s H vs Q E hr h => ?_)
  · obtain ⟨_, _, _, _, rfl, _⟩ := h
    rfl
  · obtain ⟨p, q, x, y, rfl, fp, fq, sx, sy, k⟩ := h
    refine ⟨_, (pss_one (ps_ret (pe_frm T.fr (pv 0) (ok_under T) hr pass0 (pa_cons (pv 1) pa_nil)))), ?_⟩
    try dsimp only [cxOf, Cx.nox, Cx.wish]
    exact ⟨_, rfl, p, x, rfl, fp, _, rfl, p, q, x, y, rfl, fp, fq, sx, sy, k⟩
def PtIs (a : Ad) (H : Hp) (v : V) (o : Option WD) : Prop := ∃ d, o = some d ∧ WayIs a H v d
def VlAt (a : Ad) (H : Hp) (d : Addr) (ns : List Str) (v : Str → Rat) : Prop := ∃ kvs, H d = some (.dK kvs) ∧ Tab (FrIs a) H kvs ns v
theorem VlAt.mono {H H' : Hp} {d : Addr} {ns : List Str} {v : Str → Rat} (h : VlAt a H d ns v) (s : Same H H') : VlAt a H' d ns v := let ⟨kvs, e, t⟩ := h; ⟨kvs, s _ _ e, t.mono fun _ _ z => FrIs.mono z s⟩
def PtAt (a : Ad) (H : Hp) (d : Addr) (ns : List Str) (pt : Str → Option WD) : Prop := ∃ kvs ks, H d = some (.dK kvs) ∧ Tab (PtIs a) H kvs ks pt ∧ ks.Nodup ∧ (∀ p ∈ ks, p ∈ ns) ∧ ∀ p w, pt p = some w → p ∈ ks
theorem PtAt.mono {H H' : Hp} {d : Addr} {ns : List Str} {pt : Str → Option WD} (h : PtAt a H d ns pt) (s : Same H H') : PtAt a H' d ns pt := let ⟨kvs, ks, e, t, r⟩ := h; ⟨kvs, ks, s _ _ e, t.mono fun _ _ ⟨d, e, z⟩ => ⟨d, e, z.mono s⟩, r⟩
theorem PtIs.keep {H H' : Hp} {v : V} {o : Option WD} (h : PtIs a H v o) (s : Stays a H H') : PtIs a H' v o := let ⟨d, e, z⟩ := h; ⟨d, e, z.keep s⟩
theorem BSt.bd {c : Bool} {v : Str → Rat} {pt : Str → Option WD} {ws : List WD} {s : BS WD} {m B : Nat} (h : BSt Yw c v pt ws s) (bv : ∀ p, Bd m (v p)) (bg : ∀ x ∈ ws, SmR x.x ∧ Bd B (gainOf x.kd x.x)) (p : Str) : Bd (B + m) (s.1 p) := by
  rcases h.or_ p with ⟨e, _⟩ | ⟨_, w, hw, _, _, e⟩
  · rw [e]; exact (bv p).mono (by omega)
  · rw [e]; exact Bd.mul (bg w hw).2 (bv _)
structure BetIn (P : Program) (w : World) (K : PySem.W.Frag) (mg : Str → Option Value) (base : Heap) (a : Ad) (H : Hp) (l dv dp f : Addr) (ts : List V) (ws : List WD) (ns : List Str) (v : Str → Rat) (pt : Str → Option WD) (c : Bool) (m B : Nat) : Prop where
  hl : SqL K H l ts
  rw : RowAt (WayIs a) H ts ws
  vl : VlAt a H dv ns v
  pt : PtAt a H dp ns pt
  fn : FnV P w K mg base CX0 f 2 ["one", "other"] (spCmp a c)
  inn : ∀ x ∈ ws, x.st ∈ ns ∧ x.go ∈ ns
  ln : ns.length ≤ 100
  nd : ns.Nodup
  bv : ∀ p, Bd m (v p)
  bg : ∀ x ∈ ws, SmR x.x ∧ Bd B (gainOf x.kd x.x)
  vp : ∀ p, 0 < v p
  gp : ∀ x ∈ ws, 0 < gainOf x.kd x.x
  mb : B + m < 9000
inductive IspBet (P : Program) (w : World) (K : PySem.W.Frag) (mg : Str → Option Value) (base : Heap) (a : Ad) (vs : List V) (H : Hp) (Q : VK) : Prop
  | mk (l dv dp f : Addr) (ts : List V) (ws : List WD) (ns : List Str) (v : Str → Rat) (pt : Str → Option WD) (c : Bool) (m B : Nat) (h1 : vs = [.ref l, .ref dv, .ref dp, .ref f]) (h2 : BetIn P w K mg base a H l dv dp f ts ws ns v pt c m B) (h3 : ∀ t d1 d2 H', H d1 = none → H d2 = none → d1 ≠ d2 → Same H H' → H' t = some (.tup [.ref d1, .ref d2]) → VlAt a H' d1 ns (ws.foldl (bstep Yw c v) (v, pt)).1 → PtAt a H' d2 ns (ws.foldl (bstep Yw c v) (v, pt)).2 → Q (.ref t) H') : IspBet P w K mg base a vs H Q
def spBet (P : Program) (w : World) (K : PySem.W.Frag) (mg : Str → Option Value) (base : Heap) (a : Ad) : Sp := fun vs H Q _ => IspBet P w K mg base a vs H Q
theorem ok_bettered (T : TX K mg a) : FnB P w K mg base CX0 "bettered" 9 ["ways", "values", "pointers", "better"] (spBet P w K mg base a) := by
  refine T.d_bettered.ok sc_bettered (fun vs H Q E h => ?_) (fun f cdv A outer s H vs Q E hr h => ?_)
  · obtain ⟨_, _, _, _, _, _, _, _, _, _, _, _, rfl, _⟩ := h
    rfl
  · obtain ⟨l, dv, dp, fb, ts, ws, ns, v, pt, c, m, B, rfl, D, k⟩ := h
    refine ⟨_, (pss_cons (ps_set (i := 4) sc_bettered.nd rfl (Or.inl rfl) (pe_callTy call_dict_copy (by rfl) T.z_dict PyProof.Rows.boot_dict (pa_cons (pv 1) pa_nil)))
      (pss_cons (ps_set (i := 5) sc_bettered.nd rfl (Or.inl rfl) (pe_callTy call_dict_copy (by rfl) T.z_dict PyProof.Rows.boot_dict (pa_cons (pv 2) pa_nil)))
      (pss_cons (ps_for PassesOwn.never rfl (pi_list (pv 0)) (pg_name (i := 6) sc_bettered.nd rfl (Or.inl rfl)) (pss_cons (ps_set (i := 7) sc_bettered.nd rfl (Or.inl rfl) (pe_frm T.fr (pe_mtD0 (CX := CX0) (pv 6) hr pass0) (ok_times T) hr pass0 (pa_cons (pe_dget (hu_of hr) (pv 1) (pe_fld (pv 6) rfl) (fun _ _ => rfl)) pa_nil)))
      (pss_one (ps_if (pt_val (pe_fnL (CX := CX0) (i := 3) (k := 2) (ps := ["one", "other"]) rfl (by first | exact Or.inl rfl | exact Or.inr rfl) hr pass0 (pa_cons (pv 7) (pa_cons (pe_dget (hu_of hr) (pv 4) (pe_fld (pv 6) rfl) (fun _ _ => rfl)) pa_nil)))) (pss_cons (ps_dput (hu_of hr) (pv 4) (pe_fld (pv 6) rfl) (pv 7) rfl)
      (pss_one (ps_dput (hu_of hr) (pv 5) (pe_fld (pv 6) rfl) (pv 6) rfl))) pss_nil))))
      (pss_one (ps_ret (pe_tup (pa_cons (pv 4) (pa_cons (pv 5) pa_nil)))))))), ?_⟩
    try dsimp only [cxOf, Cx.nox, Cx.wish]
    obtain ⟨kv0, hv0, tv0⟩ := id D.vl
    obtain ⟨kp0, ks0, hp0, tp0, nd0, sub0, in0⟩ := id D.pt
    have mb := D.mb
    refine ⟨_, rfl, dv, kv0, rfl, .inl hv0, fun d1 n1 => ?_⟩
    have s1 := same_upd (o := .dK kv0) n1
    have h1 : upd H d1 (.dK kv0) d1 = some (.dK kv0) := upd_same
    generalize upd H d1 (.dK kv0) = H1 at s1 h1 ⊢
    refine ⟨_, rfl, dp, kp0, rfl, .inl (s1 _ _ hp0), fun d2 n2 => ?_⟩
    have n2' := s1.free n2
    have n12 : d1 ≠ d2 := fun z => by rw [z, n2] at h1; cases h1
    have s2' := same_upd (o := .dK kp0) n2
    have s2 := s1.trans s2'
    have h2 : upd H1 d2 (.dK kp0) d2 = some (.dK kp0) := upd_same
    have h12 := s2' _ _ h1
    generalize upd H1 d2 (.dK kp0) = H2 at s2 h2 h12 ⊢
    clear h1 s2'
    refine ⟨_, rfl, l, rfl, ⟨_, s2.seq D.hl⟩, for_list (K := K) (a := l) (xs := ts) (fun i σ H3 => i ≤ ws.length ∧ ∃ z6 z7, σ = [some (.ref l), some (.ref dv), some (.ref dp), some (.ref fb), some (.ref d1), some (.ref d2), z6, z7] ∧ Same H H3 ∧ VlAt a H3 d1 ns ((ws.take i).foldl (bstep Yw c v) (v, pt)).1 ∧ PtAt a H3 d2 ns ((ws.take i).foldl (bstep Yw c v) (v, pt)).2) ⟨Nat.zero_le _, _, _, rfl, s2, ⟨kv0, h12, tv0.mono fun _ _ z => FrIs.mono z s2⟩, ⟨kp0, ks0, h2, tp0.mono fun _ _ ⟨d, e, z⟩ => ⟨d, e, z.mono s2⟩, nd0, sub0, in0⟩⟩ (fun i σ H3 _ ⟨_, _, _, _, s3, _⟩ => s3.seq D.hl) ?_ ?_⟩
    · rintro i x σ H3 hx ⟨_, z6, z7, rfl, s3, ⟨kv, hv, tv⟩, ⟨kp, ks, hp, tp, nd, sub, inn⟩⟩
      obtain ⟨y, ey, hy⟩ := D.rw.get hx
      have hi := (List.getElem?_eq_some_iff.mp ey).1
      have my := List.mem_of_getElem? ey
      obtain ⟨p1, vh, vc, qx, rfl, W, kd⟩ := hy.mono s3
      obtain ⟨dx1, fs1, ho1, h51, _⟩ := id W.ob
      have c1 := cls_any T y.kd
      obtain ⟨i1, i2⟩ := D.inn y my
      obtain ⟨b1, b2⟩ := D.bg y my
      have st := BSt.fold (Y := Yw) (c := c) D.vp (BSt.nil (pt := pt) D.vp) (us := ws.take i) fun z hz => D.gp z (List.mem_of_mem_take hz)
      rw [List.nil_append] at st
      have bd := st.bd D.bv fun z hz => D.bg z (List.mem_of_mem_take hz)
      have enx : (ws.take (i + 1)).foldl (bstep Yw c v) (v, pt) = bstep Yw c v ((ws.take i).foldl (bstep Yw c v) (v, pt)) y := by
        rw [List.take_add_one, ey, Option.toList_some, List.foldl_append]
        rfl
      rw [enx]
      generalize (ws.take i).foldl (bstep Yw c v) (v, pt) = S at tv tp inn st bd ⊢
      refine ⟨_, rfl, p1, _, dx1, fs1, 7, ["self"], spGain a y.kd, rfl, ho1, h51.ga, c1.cl, by decide, gain_any T y.kd, p1, y.nm, y.st, y.go, vh, vc, qx, y.x, rfl, W, b1, fun r1 H4 s4 f4 => ?_⟩
      have s34 := s3.trans s4
      obtain ⟨uv, eg, qv, rfl, fv⟩ := tv0.vals y.go i2
      refine ⟨r1, _, rfl, f4, _, rfl, _, rfl, p1, _, dx1, fs1, _, rfl, s4 _ _ ho1, c1.cl, c1.n3, h51.go, dv, .ref qv, rfl, .inl ⟨kv0, Sum.inr y.go, .inl (s34 _ _ hv0), rfl, eg.symm⟩, ?_⟩
      refine ⟨r1, qv, _, _, rfl, f4, fv.mono s34, b2.smr (by omega), (D.bv _).smr (by omega), trivial, fun r2 H5 _ s5 f5 => ?_⟩
      have s35 := s34.trans s5
      have s45 := s4.trans s5
      obtain ⟨us, es, qs, rfl, fs⟩ := tv.vals y.st i1
      refine ⟨fb, spCmp a c, rfl, D.fn, _, rfl, _, rfl, _, rfl, p1, _, dx1, fs1, _, rfl, s45 _ _ ho1, c1.cl, c1.n2, h51.st, d1, .ref qs, rfl, .inl ⟨kv, Sum.inr y.st, .inl (s45 _ _ hv), rfl, es.symm⟩, ?_⟩
      refine ⟨r2, qs, _, _, rfl, f5, fs.mono s45, (Bd.mul b2 (D.bv _)).smr (by omega), (bd _).smr (by omega), ?_⟩
      refine ⟨_, rfl, ?_⟩
      by_cases hc : btr c (gainOf y.kd y.x * v y.go) (S.1 y.st) = true
      · refine iteC hc ?_
        have en : bstep Yw c v S y = (upf S.1 y.st (gainOf y.kd y.x * v y.go), upf S.2 y.st (some y)) := if_pos hc
        rw [en]
        have ln := D.ln
        have l1 : kv.length ≤ 100 := by rw [tv.len]; exact ln
        have l2 : kp.length ≤ 100 := by rw [tp.len]; exact Nat.le_trans (nodup_le nd sub) ln
        have hv5 := s45 _ _ hv
        have hp5 := s45 _ _ hp
        refine ⟨_, rfl, _, rfl, _, rfl, p1, _, dx1, fs1, _, rfl, s45 _ _ ho1, c1.cl, c1.n2, h51.st, d1, _, rfl, DPut.k (k := Sum.inr y.st) hv5 (small1000 (by omega)), ?_⟩
        have kp1 : KeepD H5 (upd H5 d1 (.dK (putK kv (Sum.inr y.st) (.ref r2)))) := KeepD.put hv5
        have sy1 : Stays a H5 (upd H5 d1 (.dK (putK kv (Sum.inr y.st) (.ref r2)))) := .put hv5 (fun _ _ _ z => by cases z)
        have s36 : Same H (upd H5 d1 (.dK (putK kv (Sum.inr y.st) (.ref r2)))) := same_put n1 s35
        have hv6 : upd H5 d1 (.dK (putK kv (Sum.inr y.st) (.ref r2))) d1 = some (.dK (putK kv (Sum.inr y.st) (.ref r2))) := upd_same
        have hp6 : upd H5 d1 (.dK (putK kv (Sum.inr y.st) (.ref r2))) d2 = some (.dK kp) := by rw [upd_ne n12.symm]; exact hp5
        have tv6 : Tab (FrIs a) (upd H5 d1 (.dK (putK kv (Sum.inr y.st) (.ref r2)))) (putK kv (Sum.inr y.st) (.ref r2)) ns (upf S.1 y.st (gainOf y.kd y.x * v y.go)) := by
          have := Tab.put (n := y.st) (tv.mono fun v x z => (FrIs.mono z s45).keep kp1) (y := gainOf y.kd y.x * v y.go) (FrIs.keep ⟨r2, rfl, f5⟩ kp1)
          rwa [show addK ns y.st = ns from if_pos i1] at this
        have tp6 : Tab (PtIs a) (upd H5 d1 (.dK (putK kv (Sum.inr y.st) (.ref r2)))) kp ks S.2 := tp.mono fun v x ⟨d, e, z⟩ => PtIs.keep ⟨d, e, z.mono s45⟩ sy1
        have hy6 : WayIs a (upd H5 d1 (.dK (putK kv (Sum.inr y.st) (.ref r2)))) (.ref p1) y := (hy.mono s35).keep sy1
        generalize upd H5 d1 (.dK (putK kv (Sum.inr y.st) (.ref r2))) = H6 at s36 hv6 hp6 tv6 tp6 hy6 ⊢
        obtain ⟨q1, _, _, _, e1, W6, _⟩ := id hy6
        cases e1
        obtain ⟨dx6, fs6, ho6, h56, _⟩ := id W6.ob
        refine ⟨_, rfl, _, rfl, _, rfl, p1, _, dx6, fs6, _, rfl, ho6, c1.cl, c1.n2, h56.st, d2, _, rfl, DPut.k (k := Sum.inr y.st) hp6 (small1000 (by omega)), ?_⟩
        have kp2 : KeepD H6 (upd H6 d2 (.dK (putK kp (Sum.inr y.st) (.ref p1)))) := KeepD.put hp6
        have sy2 : Stays a H6 (upd H6 d2 (.dK (putK kp (Sum.inr y.st) (.ref p1)))) := .put hp6 (fun _ _ _ z => by cases z)
        refine ⟨hi, _, _, rfl, same_put n2' s36, ⟨_, by rw [upd_ne n12]; exact hv6, tv6.mono fun v x z => FrIs.keep z kp2⟩, ⟨_, addK ks y.st, upd_same, Tab.put (n := y.st) (tp6.mono fun v x z => z.keep sy2) (y := some y) ⟨y, rfl, hy6.keep sy2⟩, nodup_addK nd, fun q hq => ?_, fun q w0 hq => ?_⟩⟩
        · rcases mem_addK.mp hq with hq | hq
          · exact sub q hq
          · rw [hq]; exact i1
        · refine mem_addK.mpr ?_
          by_cases e : q = y.st
          · exact .inr e
          · exact .inl (inn q w0 (by rw [← hq]; exact (upf_ne e).symm))
      · have hc' : btr c (gainOf y.kd y.x * v y.go) (S.1 y.st) = false := by simpa using hc
        refine iteD hc' ?_
        have en : bstep Yw c v S y = S := if_neg hc
        rw [en]
        exact ⟨hi, _, _, rfl, s35, ⟨kv, s45 _ _ hv, tv.mono fun v x z => FrIs.mono z s45⟩, ⟨kp, ks, s45 _ _ hp, tp.mono fun v x ⟨d, e, z⟩ => ⟨d, e, z.mono s45⟩, nd, sub, inn⟩⟩
    · rintro σ H3 ⟨_, z6, z7, rfl, s3, hv, hp⟩
      rw [D.rw.1, List.take_length] at hv hp
      refine ⟨_, rfl, _, rfl, by show 2 ≤ sizeLine; decide, fun t nt => ?_⟩
      have s4 := same_upd (o := .tup [.ref d1, .ref d2]) nt
      exact k t d1 d2 _ n1 n2' n12 (s3.trans s4) upd_same (hv.mono s4) (hp.mono s4)
def IxIs (_ : Hp) (v : V) (i : Nat) : Prop := v = .int (i : Int)
inductive IspAlong (a : Ad) (vs : List V) (H : Hp) (Q : VK) : Prop
  | mk (d : Addr) (p0 : Str) (ns : List Str) (ws : List WD) (c : Bool) (h1 : vs = [.ref d, .str p0]) (h2 : PtAt a H d ns (bseq Yw c ws ns.length).2) (h3 : (∀ x ∈ ws, 0 < gainOf x.kd x.x)) (h4 : (∀ x ∈ ws, x.go ∈ ns)) (h5 : blast Yw c ws ns.length p0 = ns.length) (h6 : p0 ∈ ns) (h7 : ns.length ≤ 100) (h8 : ∀ l H' (ring : List WD), H l = none → Same H H' → H' l = some (.lst (ring.map fun x => V.str x.nm)) → RingL Yw c ws ring → Q (.ref l) H') : IspAlong a vs H Q
def spAlong (a : Ad) : Sp := fun vs H Q _ => IspAlong a vs H Q
theorem ok_ring_along (T : TX K mg a) : FnB P w K mg base CX0 "ring_along" 1 ["pointers", "place"] (spAlong a) := by
  refine T.d_ring_along.ok sc_ring_along (fun vs H Q E h => ?_) (fun f cdv A outer s H vs Q E hr h => ?_)
  · obtain ⟨_, _, _, _, _, rfl, _⟩ := h
    rfl
  · obtain ⟨d, p0, ns, ws, c, rfl, ⟨kp, ks, hp, tp, nd, sub, inn⟩, hg, hin, top, hp0, ln, k⟩ := h
    refine ⟨_, (pss_cons (ps_set (i := 2) sc_ring_along.nd rfl (Or.inl rfl) pe_dnewK)
      (pss_cut (ps_while PassesOwn.never (pt_cmp (pc_dnotin (hu_of hr) (pv 1) (pv 2))) (pss_cons (ps_dput (hu_of hr) (pv 2) (pv 1) (pe_callB call_lenD (by rfl) T.z_len PySem.boot_len (pa_cons (pv 2) pa_nil)) rfl)
      (pss_one (ps_set (i := 1) sc_ring_along.nd rfl (Or.inl rfl) (pe_fld (pe_dget (hu_of hr) (pv 0) (pv 1) (fun _ _ => rfl)) rfl)))))
      (pss_cons (ps_set (i := 3) sc_ring_along.nd rfl (Or.inl rfl) (pe_slice sl_list (pe_callTy (call_list_dict hr.hd) (by rfl) T.z_list PyProof.Rows.boot_list (pa_cons (pv 2) pa_nil)) (po_some (pe_dget (hu_of hr) (pv 2) (pv 1) (fun _ _ => rfl))) po_none))
      (pss_one (ps_ret (pe_compG (xs := ["one"]) (rest := ["pointers"]) rfl (pi_list (pv 3))
      (fun pins fp C' s' H' => (pg_name (i := 0) (show (["one", "pointers"] : List Str).Nodup by decide +kernel) rfl (Or.inl rfl))) (fun pins fp C' s' H' => pts_nil)
      (fun pins fp C' s' H' => (pe_fldK (K := K) rfl (pe_dget (hu_of hr) (pv 1) (pv 0) (fun _ _ => rfl)) rfl))
      (Clos.many (ys := ["pointers"]) rfl ⟨rfl, True.intro⟩ rfl (by decide +kernel)) (Reads.many (ys := ["pointers"]) (js := [0]) ⟨⟨rfl, rfl, rfl⟩, True.intro⟩))))))), ?_⟩
    try dsimp only [cxOf, Cx.nox, Cx.wish]
    have ptr : ∀ H', Same H H' → ∀ q x, (bseq Yw c ws ns.length).2 q = some x → ∃ p1, valV kp (Sum.inr q) = some (.ref p1) ∧ WayIs a H' (.ref p1) x := fun H' s' q x e => by
      obtain ⟨v, ev, x', ex, W⟩ := tp.vals q (inn q x e)
      obtain rfl : x = x' := Option.some.inj (e.symm.trans ex)
      obtain ⟨p1, vh, vc, qx, rfl, _⟩ := id W
      exact ⟨p1, ev, W.mono s'⟩
    intro e ne
    have s1 := same_upd (o := .dK []) ne
    have he0 : upd H e (.dK []) e = some (.dK []) := upd_same
    generalize upd H e (.dK []) = H1 at s1 he0 ⊢
    refine ⟨fun σ' H' => ∃ l q kvs, σ' = [some (.ref d), some (.str q), some (.ref e), none] ∧ Same H H' ∧ H' e = some (.dK kvs) ∧ Tab IxIs H' kvs (l.map Yw.st) (fun n => (l.map Yw.st).idxOf n) ∧ Seen Yw c ws ns p0 l q ∧ q ∈ l.map Yw.st, ?_, ?_⟩
    · refine ⟨fun m σ H2 => ∃ l q kvs, m = ns.length - l.length ∧ σ = [some (.ref d), some (.str q), some (.ref e), none] ∧ Same H H2 ∧ H2 e = some (.dK kvs) ∧ Tab IxIs H2 kvs (l.map Yw.st) (fun n => (l.map Yw.st).idxOf n) ∧ Seen Yw c ws ns p0 l q, ⟨_, [], p0, [], rfl, rfl, s1, he0, Tab.nil, ⟨rfl, List.nodup_nil, fun x hx => absurd hx List.not_mem_nil, hp0⟩⟩, ?_⟩
      rintro m σ H2 ⟨l, q, kvs, rfl, rfl, s2, he2, tb, sn⟩
      refine ⟨_, rfl, _, rfl, e, _, rfl, DGet.k (k := Sum.inr q) he2, _, rfl, ?_⟩
      by_cases hq : q ∈ l.map Yw.st
      · obtain ⟨v, ev, _⟩ := tb.vals q hq
        rw [ev]
        refine iteF ?_
        exact ⟨l, q, kvs, rfl, s2, he2, tb, sn, hq⟩
      · rw [tb.none hq]
        refine iteT ?_
        obtain ⟨lt, x, ex, mx, sx, sn2⟩ := sn.next hg hin top hq
        obtain ⟨p1, ep, W⟩ := ptr H2 s2 q x ex
        have lk : kvs.length = l.length := by rw [tb.len, List.length_map]
        refine ⟨fun σ' H' => ∃ kvs', σ' = [some (.ref d), some (.str (Yw.go x)), some (.ref e), none] ∧ Same H H' ∧ H' e = some (.dK kvs') ∧ Tab IxIs H' kvs' ((l ++ [x]).map Yw.st) (fun n => ((l ++ [x]).map Yw.st).idxOf n), fun σ' H' ⟨kvs', e1, e2, e3, e4⟩ => ⟨ns.length - (l ++ [x]).length, by rw [List.length_append, List.length_singleton]; omega, l ++ [x], _, kvs', rfl, e1, e2, e3, e4, sn2⟩, ?_⟩
        refine ⟨_, rfl, e, kvs, rfl, he2, _, rfl, _, rfl, e, _, rfl, DPut.k (k := Sum.inr q) he2 (small1000 (by omega)), ?_⟩
        have stay : Stays a H2 (upd H2 e (.dK (putK kvs (Sum.inr q) (.int kvs.length)))) := .put he2 (fun _ _ _ z => by cases z)
        have s3 : Same H (upd H2 e (.dK (putK kvs (Sum.inr q) (.int kvs.length)))) := same_put ne s2
        obtain ⟨vh, vc, qx, e0, W6, _⟩ : ∃ vh vc qx, V.ref p1 = V.ref p1 ∧ WayAt a (upd H2 e (.dK (putK kvs (Sum.inr q) (.int kvs.length)))) p1 x.kd x.nm x.st x.go vh vc qx x.x ∧ True := by
          obtain ⟨p', vh, vc, qx, e0, W', _⟩ := W.keep stay
          cases e0
          exact ⟨vh, vc, qx, rfl, W', trivial⟩
        obtain ⟨dx1, fs1, ho1, h51, _⟩ := id W6.ob
        have c1 := cls_any T x.kd
        refine ⟨_, rfl, _, rfl, d, .ref p1, rfl, .inl ⟨kp, Sum.inr q, .inl (s3 _ _ hp), rfl, ep.symm⟩, p1, _, dx1, fs1, _, rfl, ho1, c1.cl, c1.n3, h51.go, ?_⟩
        refine ⟨_, rfl, s3, upd_same, ?_⟩
        have em : (l ++ [x]).map Yw.st = l.map Yw.st ++ [q] := by rw [List.map_append, List.map_singleton, sx]
        have := Tab.put (n := q) (H := upd H2 e (.dK (putK kvs (Sum.inr q) (.int kvs.length)))) (tb.mono fun v x z => z) (v := .int kvs.length) (y := kvs.length) rfl
        rw [addK_new hq] at this
        rw [em]
        refine this.congr fun n hn => ?_
        unfold upf
        by_cases en : n = q
        · rw [if_pos en, en, List.idxOf_append, if_neg hq, lk, List.length_map]
          simp
        · rw [if_neg en]
          rcases List.mem_append.mp hn with z | z
          · rw [List.idxOf_append, if_pos z]
          · exact absurd (List.mem_singleton.mp z) en
    rintro σ' H2 ⟨l, q, kvs, rfl, s2, he2, tb, sn, hq⟩
    refine ⟨_, rfl, e, kvs, rfl, .inl he2, fun l1 nl1 => ?_⟩
    have ek : (kvs.map fun kv => kV kv.1) = (l.map Yw.st).map V.str := by
      have := congrArg (List.map kV) tb.keys
      rw [List.map_map, List.map_map] at this
      exact this
    rw [ek]
    have s3 := same_upd (o := .lst ((l.map Yw.st).map V.str)) nl1
    have h1 : upd H2 l1 (.lst ((l.map Yw.st).map V.str)) l1 = some (.lst ((l.map Yw.st).map V.str)) := upd_same
    generalize upd H2 l1 (.lst ((l.map Yw.st).map V.str)) = H3 at s3 h1 ⊢
    obtain ⟨v, ev, iv⟩ := tb.vals q hq
    obtain rfl : v = .int ((l.map Yw.st).idxOf q : Nat) := iv
    obtain ⟨i, hi⟩ : ∃ i, (l.map Yw.st).idxOf q = i := ⟨_, rfl⟩
    rw [hi] at ev
    have il : i < (l.map Yw.st).length := by rw [← hi]; exact List.idxOf_lt_length_iff.mpr hq
    have iq : (l.map Yw.st)[i]? = some q := by rw [List.getElem?_eq_getElem il]; congr 1; subst hi; exact List.getElem_idxOf il
    have rg := sn.ring hg iq
    have all := PathT.all hg sn.path
    refine ⟨_, rfl, _, rfl, e, _, rfl, .inl ⟨kvs, Sum.inr q, .inl (s3 _ _ he2), rfl, ev.symm⟩, _, rfl, l1, _, rfl, SqL.of h1, fun l2 nl2 => ?_⟩
    rw [cut_drop, ← List.map_drop, ← List.map_drop]
    have s4 := same_upd (o := .lst (((l.drop i).map Yw.st).map V.str)) nl2
    have h2 : upd H3 l2 (.lst (((l.drop i).map Yw.st).map V.str)) l2 = some (.lst (((l.drop i).map Yw.st).map V.str)) := upd_same
    generalize upd H3 l2 (.lst (((l.drop i).map Yw.st).map V.str)) = H4 at s4 h2 ⊢
    have s24 := s2.trans (s3.trans s4)
    have lr : (l.drop i).length ≤ 100 := by
      have := nodup_le sn.nd (ys := ns) fun x hx => by
        obtain ⟨y, hy, rfl⟩ := List.mem_map.mp hx
        exact sn.sub y hy
      rw [List.length_map] at this
      rw [List.length_drop]
      omega
    have allr : ∀ x ∈ l.drop i, (bseq Yw c ws ns.length).2 x.st = some x := fun x hx => (all x (List.mem_of_mem_drop hx)).2
    generalize l.drop i = ring at rg h2 lr allr ⊢
    refine ⟨_, rfl, l2, rfl, ⟨_, SqL.of h2⟩, fun l3 nl3 => ?_⟩
    refine compG_list (K := K) (a := l2) (xs := (ring.map Yw.st).map V.str) (fun j H5 => j ≤ ring.length ∧ Same H4 H5 ∧ H5 l3 = some (.lst ((ring.take j).map fun x => V.str x.nm))) ⟨Nat.zero_le _, same_upd nl3, upd_same⟩ (fun j H5 ⟨_, s5, _⟩ => SqL.of (s5 _ _ h2)) ?_ ?_
    · rintro j y H5 hy ⟨_, s5, h5⟩
      rw [List.map_map, List.getElem?_map] at hy
      cases ez : ring[j]? with
      | none => rw [ez] at hy; cases hy
      | some z =>
        rw [ez] at hy
        cases hy
        have hj := (List.getElem?_eq_some_iff.mp ez).1
        have s25 := s24.trans s5
        obtain ⟨p1, ep, W⟩ := ptr H5 s25 z.st z (allr z (List.mem_of_getElem? ez))
        obtain ⟨p', vh, vc, qx, e0, W', _⟩ := W
        cases e0
        obtain ⟨dx1, fs1, ho1, h51, _⟩ := id W'.ob
        have c1 := cls_any T z.kd
        refine g1 ⟨⟨[_], rfl, rfl⟩, yes ?_⟩
        refine ⟨_, rfl, _, rfl, d, .ref p1, rfl, .inl ⟨kp, Sum.inr z.st, .inl (s25 _ _ hp), rfl, ep.symm⟩, p1, _, dx1, fs1, _, rfl, ho1, c1.cl, c1.n1, h51.nm, ?_⟩
        refine ⟨_, h5, small1000 (by rw [List.length_map, List.length_take]; omega), nextP (by rw [List.length_map, List.length_map]; exact hj) ⟨hj, same_put nl3 s5, ?_⟩⟩
        rw [upd_same, List.take_add_one, ez, Option.toList_some, List.map_append]
        rfl
    · rintro H5 ⟨_, s5, h5⟩
      rw [List.length_map, List.length_map, List.take_length] at h5
      exact k l3 H5 ring (s24.free nl3) (s24.trans s5) h5 rg
theorem thaw_same {H H2 : Hp} {d : Addr} {o : HO} (hd : H d = some o) (k2 : ∀ b ob, H b = some ob → b ≠ d → H2 b = some ob) : Same H (upd H2 d o) := fun b ob e => by
  by_cases hb : b = d
  · subst hb
    rw [upd_same, ← hd, e]
  · rw [upd_ne hb]
    exact k2 _ _ e hb
inductive IspPb (a : Ad) (vs : List V) (H : Hp) (Q : VK) : Prop
  | mk (dv df : Addr) (ns : List Str) (v u : Str → Rat) (m : Nat) (h1 : vs = [.ref dv, .ref df]) (h2 : dv ≠ df) (h3 : VlAt a H dv ns v) (h4 : VlAt a H df ns u) (h5 : ns.Nodup) (h6 : m < 9000) (h7 : (∀ p, Bd m (v p))) (h8 : (∀ p, Bd m (u p))) (h9 : ∀ H', Same H H' → (∀ p ∈ ns, v p ≠ u p → Q (.str p) H') ∧ ((∀ p ∈ ns, v p = u p) → Q .non H')) : IspPb a vs H Q
def spPb (a : Ad) : Sp := fun vs H Q _ => IspPb a vs H Q
theorem ok_place_bettered (T : TX K mg a) : FnB P w K mg base CX0 "place_bettered" 2 ["values", "fresh"] (spPb a) := by
  refine T.d_place_bettered.ok sc_place_bettered (fun vs H Q E h => ?_) (fun f cdv A outer s H vs Q E hr h => ?_)
  · obtain ⟨_, _, _, _, _, _, rfl, _⟩ := h
    rfl
  · obtain ⟨dv, df, ns, v, u, m, rfl, ne, ⟨kv, hv, tv⟩, ⟨ku, hu, tu⟩, nd, hm, bv, bu, k⟩ := h
    refine ⟨_, (pss_cons (ps_thaw (ps_for PassesOwn.never rfl (pi_dict (pv 0)) (pg_name (i := 2) sc_place_bettered.nd rfl (Or.inl rfl)) (pss_one (ps_if (pt_not (pt_val (pe_frm T.fr (pe_dget (hu_of hr) (pv 0) (pv 2) (fun _ _ => rfl)) (ok_same T) hr pass0 (pa_cons (pe_dget (hu_of hr) (pv 1) (pv 2) (fun _ _ => rfl)) pa_nil)))) (pss_one (ps_ret (pv 2))) pss_nil))))
      (pss_one (ps_ret pe_non))), ?_⟩
    try dsimp only [cxOf, Cx.nox, Cx.wish]
    refine ⟨dv, .dK kv, hv, (by intro o z e; cases e), _, rfl, dv, kv, rfl, hv, fun o => ?_⟩
    refine for_dict (a := dv) (o := o) (kvs := kv) (fun i σ H2 => i ≤ ns.length ∧ ∃ z2, σ = [some (.ref dv), some (.ref df), z2] ∧ H2 dv = some (.frz o (.dK kv)) ∧ (∀ b ob, H b = some ob → b ≠ dv → H2 b = some ob) ∧ ∀ p ∈ ns.take i, v p = u p)
      ⟨Nat.zero_le _, none, rfl, upd_same, (fun b ob e ne => by rw [upd_ne ne]; exact e), fun p hp => absurd hp (by rw [List.take_zero]; exact List.not_mem_nil)⟩ (fun i σ H2 _ ⟨_, _, _, h, _⟩ => h) ?_ ?_
    · rintro i x σ H2 hx ⟨_, z2, rfl, hf, k2, ih⟩
      obtain ⟨n, en, e1, ev, q, eq, fq⟩ := tv.at_ nd hx
      have hi : i < ns.length := (List.getElem?_eq_some_iff.mp en).1
      have mn := List.mem_of_getElem? en
      have ekv : kV x.1 = .str n := by rw [e1]; rfl
      rw [ekv]
      obtain ⟨vu, eu, qu, rfl, fu⟩ := tu.vals n mn
      have fr : ∀ {q x}, FrAt a.Fraction H q x → FrAt a.Fraction H2 q x := fun ⟨dq, g⟩ => ⟨dq, k2 _ _ g (ne_of g hv (by intro z; cases z))⟩
      refine ⟨_, rfl, _, rfl, dv, .ref q, rfl, .inl ⟨kv, Sum.inr n, .inr ⟨o, hf⟩, rfl, by rw [ev, eq]⟩, q, _, rfl, fr fq, _, rfl, _, rfl, df, .ref qu, rfl, .inl ⟨ku, Sum.inr n, .inl (k2 _ _ hu ne.symm), rfl, eu.symm⟩, q, qu, _, _, rfl, fr fq, fr fu, (bv n).smr hm, (bu n).smr hm, _, rfl, ?_⟩
      by_cases e : v n = u n
      · refine iteD (show (!decide (v n = u n)) = false by rw [decide_eq_true e]; rfl) ?_
        refine ⟨hi, _, rfl, hf, k2, fun p hp => ?_⟩
        rw [(take_next nd en).1] at hp
        rcases List.mem_append.mp hp with z | z
        · exact ih p z
        · rw [List.mem_singleton.mp z]; exact e
      · refine iteC (show (!decide (v n = u n)) = true by rw [decide_eq_false e]; rfl) ?_
        exact ⟨_, rfl, o, hf, (k _ (thaw_same hv k2)).1 n mn e⟩
    · rintro σ H2 ⟨_, z2, rfl, hf, k2, ih⟩
      rw [tv.len, List.take_length] at ih
      exact ⟨o, hf, (k _ (thaw_same hv k2)).2 ih⟩
inductive IspOnes (a : Ad) (vs : List V) (H : Hp) (Q : VK) : Prop
  | mk (p : Addr) (ps : List (Str × Rat)) (ds : List WD) (h1 : vs = [.ref p]) (h2 : NetAt a H p ps ds) (h3 : (ps.map (·.1)).Nodup) (h4 : ps.length ≤ 100) (h5 : ∀ d H', H d = none → Same H H' → VlAt a H' d (ps.map (·.1)) (fun _ => 1) → Q (.ref d) H') : IspOnes a vs H Q
def spOnes (a : Ad) : Sp := fun vs H Q _ => IspOnes a vs H Q
theorem ok_ones (T : TX K mg a) : FnB P w K mg base CX0 "ones" 6 ["net"] (spOnes a) := by
  refine T.d_ones.ok sc_ones (fun vs H Q E h => ?_) (fun f cdv A outer s H vs Q E hr h => ?_)
  · obtain ⟨_, _, _, rfl, _⟩ := h
    rfl
  · obtain ⟨p, ps, ds, rfl, hn, nd, lp, k⟩ := h
    refine ⟨_, (pss_cons (ps_set (i := 1) sc_ones.nd rfl (Or.inl rfl) pe_dnewK)
      (pss_cons (ps_for PassesOwn.never rfl (pi_list (pe_mtD0 (CX := CX0) (pv 0) hr pass0)) (pg_name (i := 2) sc_ones.nd rfl (Or.inl rfl)) (pss_one (ps_dput (hu_of hr) (pv 1) (pv 2) (pe_mkfr (mk1 T) hr T.mg_Fraction pass0 (pa_cons pe_int pa_nil)) rfl)))
      (pss_one (ps_ret (pv 1))))), ?_⟩
    try dsimp only [cxOf, Cx.nox, Cx.wish]
    intro o no
    have s1 := same_upd (o := .dK []) no
    have ho0 : upd H o (.dK []) o = some (.dK []) := upd_same
    generalize upd H o (.dK []) = H1 at s1 ho0 ⊢
    obtain ⟨dx, dw, dy, hp, hw, hy⟩ := id (hn.mono s1)
    have nob := fsN_no dw dy (m := "names") (by decide +kernel) (by decide +kernel)
    refine ⟨_, rfl, p, a.Net, dx, _, 1, ["self"], spNNames a, rfl, hp, nob, T.cl_Net, by decide, ok_Net_names T, p, ps, ds, rfl, hn.mono s1, fun l nl => ?_⟩
    have s2 := s1.trans (same_upd (o := .lst (ps.map fun x => V.str x.1)) nl)
    have ho1 := same_upd (o := .lst (ps.map fun x => V.str x.1)) nl _ _ ho0
    have hl : upd H1 l (.lst (ps.map fun x => V.str x.1)) l = some (.lst (ps.map fun x => V.str x.1)) := upd_same
    have nlo : l ≠ o := fun z => by rw [z, ho0] at nl; cases nl
    generalize upd H1 l (.lst (ps.map fun x => V.str x.1)) = H2 at s2 ho1 hl ⊢
    refine ⟨l, rfl, ⟨_, SqL.of hl⟩, for_list (K := K) (a := l) (xs := ps.map fun x => V.str x.1) (fun i σ H3 => i ≤ ps.length ∧ ∃ z2 kvs, σ = [some (.ref p), some (.ref o), z2] ∧ Same H H3 ∧ H3 l = some (.lst (ps.map fun x => V.str x.1)) ∧ H3 o = some (.dK kvs) ∧ Tab (FrIs a) H3 kvs ((ps.map (·.1)).take i) (fun _ => 1)) ⟨Nat.zero_le _, _, [], rfl, s2, hl, ho1, Tab.nil⟩ (fun i σ H3 _ ⟨_, _, _, _, _, h, _⟩ => SqL.of h) ?_ ?_⟩
    · rintro i x' σ H3 hx ⟨_, z2, kvs, rfl, s3, hl3, ho3, tb⟩
      rw [List.getElem?_map] at hx
      cases ex : ps[i]? with
      | none => rw [ex] at hx; cases hx
      | some x =>
        rw [ex] at hx
        cases hx
        have hi := (List.getElem?_eq_some_iff.mp ex).1
        have en : (ps.map (·.1))[i]? = some x.1 := by rw [List.getElem?_map, ex]; rfl
        obtain ⟨tk, nk⟩ := take_next nd en
        have lk : kvs.length ≤ 900 := by rw [tb.len, List.length_take, List.length_map]; omega
        refine ⟨1, 1, rfl, by decide, sm1, fun q H4 nq s4 f4 => ?_⟩
        have ho4 := s4 _ _ ho3
        refine ⟨_, rfl, _, rfl, o, _, rfl, DPut.k (k := Sum.inr x.1) ho4 (small1000 (by omega)), ?_⟩
        have kp : KeepD H4 (upd H4 o (.dK (putK kvs (Sum.inr x.1) (.ref q)))) := KeepD.put ho4
        refine ⟨hi, _, _, rfl, same_put no (s3.trans s4), by rw [upd_ne nlo]; exact s4 _ _ hl3, upd_same, ?_⟩
        rw [tk, ← addK_new nk]
        refine (Tab.put (n := x.1) (tb.mono fun v x z => (FrIs.mono z s4).keep kp) (y := 1) (FrIs.keep ⟨q, rfl, f4⟩ kp)).congr fun m _ => ?_
        unfold upf
        split <;> rfl
    · rintro σ H3 ⟨_, z2, kvs, rfl, s3, hl3, ho3, tb⟩
      rw [List.length_map, show ps.length = (ps.map (·.1)).length by rw [List.length_map], List.take_length] at tb
      exact ⟨_, rfl, k o H3 no s3 ⟨kvs, ho3, tb⟩⟩
/-- what the search is made on -/
structure RgIn (K : PySem.W.Frag) (a : Ad) (H : Hp) (p l : Addr) (ps : List (Str × Rat)) (ds ws : List WD) (B : Nat) : Prop where
  net : NetAt a H p ps ds
  np : (ps.map (·.1)).Nodup
  nd : (ds.map (·.nm)).Nodup
  hl : SqL K H l (ws.map fun x => V.str x.nm)
  sub : ∀ x ∈ ws, x ∈ ds
  inn : ∀ x ∈ ws, x.st ∈ ps.map (·.1) ∧ x.go ∈ ps.map (·.1)
  l1 : 1 ≤ ps.length
  l2 : ps.length ≤ 100
  lw : ws.length ≤ 100
  bg : ∀ x ∈ ws, SmR x.x ∧ Bd B (gainOf x.kd x.x)
  gp : ∀ x ∈ ws, 0 < gainOf x.kd x.x
  mb : ps.length * B < 8000
structure WgtL (c : Bool) (ws : List WD) (v : Str → Rat) : Prop where
  pos : ∀ p, 0 < v p
  bd : ∀ p, Bd 8000 (v p)
  le : ∀ x ∈ ws, Wc c (gainOf x.kd x.x * v x.go) ≤ Wc c (v x.st)
/-- what is told: a ring or values, new -/
def RgOut (a : Ad) (H H' : Hp) (t : Addr) (c : Bool) (ps : List (Str × Rat)) (ws : List WD) : Prop :=
  (∃ r ring, H r = none ∧ H' t = some (.tup [.str "ring", .ref r]) ∧ H' r = some (.lst (ring.map fun x : WD => V.str x.nm)) ∧ RingL Yw c ws ring) ∨
  (∃ d v, H d = none ∧ H' t = some (.tup [.str "weights", .ref d]) ∧ VlAt a H' d (ps.map (·.1)) v ∧ WgtL c ws v)
theorem bseq_bd {c : Bool} {ws : List WD} {B : Nat} (hg : ∀ x ∈ ws, 0 < gainOf x.kd x.x) (bg : ∀ x ∈ ws, SmR x.x ∧ Bd B (gainOf x.kd x.x)) : ∀ k p, Bd (k * B) ((bseq Yw c ws k).1 p)
  | 0, p => Bd.one.mono (Nat.zero_le _)
  | k + 1, p => by
    have := (bseq_st (Y := Yw) (c := c) hg k).bd (bseq_bd hg bg k) bg p
    rw [Nat.succ_mul]
    exact this.mono (by omega)
inductive IspRow (P : Program) (w : World) (K : PySem.W.Frag) (mg : Str → Option Value) (base : Heap) (a : Ad) (vs : List V) (H : Hp) (Q : VK) : Prop
  | mk (p l f : Addr) (ps : List (Str × Rat)) (ds ws : List WD) (B : Nat) (c : Bool) (h1 : vs = [.ref p, .ref l, .ref f]) (h2 : RgIn K a H p l ps ds ws B) (h3 : FnV P w K mg base CX0 f 2 ["one", "other"] (spCmp a c)) (h4 : ∀ t H', Same H H' → RgOut a H H' t c ps ws → Q (.ref t) H') : IspRow P w K mg base a vs H Q
def spRow (P : Program) (w : World) (K : PySem.W.Frag) (mg : Str → Option Value) (base : Heap) (a : Ad) : Sp := fun vs H Q _ => IspRow P w K mg base a vs H Q
theorem ok_ring_or_weights (T : TX K mg a) : FnB P w K mg base CX0 "ring_or_weights" 10 ["net", "names", "better"] (spRow P w K mg base a) := by
  refine T.d_ring_or_weights.ok sc_ring_or_weights (fun vs H Q E h => ?_) (fun f cdv A outer s H vs Q E hr h => ?_)
  · obtain ⟨_, _, _, _, _, _, _, _, rfl, _⟩ := h
    rfl
  · obtain ⟨p, l, fb, ps, ds, ws, B, c, rfl, D, fn, k⟩ := h
    refine ⟨_, (pss_cut (ps_compG (i := 3) (xs := ["name"]) (rest := ["net"]) sc_ring_or_weights.nd rfl rfl rfl (pi_list (pv 1))
      (fun pins fp C' s' H' => (pg_name (i := 0) (show (["name", "net"] : List Str).Nodup by decide +kernel) rfl (Or.inl rfl))) (fun pins fp C' s' H' => pts_nil)
      (fun pins fp C' s' H' => (pe_mtDK (CX := CX0) (P := P) (w := w) (K := K) (mg := mg) (base := base) rfl rfl rfl rfl rfl (pv 1) hr pass0 (pa_cons (pv 0) pa_nil)))
      (Clos.many (ys := ["net"]) rfl ⟨rfl, True.intro⟩ rfl (by decide +kernel)) (Reads.many (ys := ["net"]) (js := [0]) ⟨⟨rfl, rfl, rfl⟩, True.intro⟩))
      (pss_cons (ps_set (i := 4) sc_ring_or_weights.nd rfl (Or.inl rfl) (pe_fn (ok_ones T) hr pass0 (pa_cons (pv 0) pa_nil)))
      (pss_cons (ps_set (i := 5) sc_ring_or_weights.nd rfl (Or.inl rfl) pe_dnewK)
      (pss_cons (ps_for PassesOwn.never rfl (pi_rev rfl T.z_reversed (pa_cons (pe_callTy call_rng1 (by rfl) T.z_range PyProof.Rows.boot_range (pa_cons (pe_callB call_lenD (by rfl) T.z_len PySem.boot_len (pa_cons (pv 4) pa_nil)) pa_nil)) pa_nil)) (pg_name (i := 6) sc_ring_or_weights.nd rfl (Or.inl rfl)) (pss_cons (ps_set (i := 7) sc_ring_or_weights.nd rfl (Or.inl rfl) (pe_fn (ok_bettered T) hr pass0 (pa_cons (pv 3) (pa_cons (pv 4) (pa_cons (pv 5) (pa_cons (pv 2) pa_nil))))))
      (pss_cons (ps_set (i := 8) sc_ring_or_weights.nd rfl (Or.inl rfl) (pe_fn (ok_place_bettered T) hr pass0 (pa_cons (pv 4) (pa_cons (pe_ix ix_tup (pv 7) pe_int (fun _ _ => rfl)) pa_nil))))
      (pss_cons (ps_if (pt_cmpR op_isN (pv 8) pe_non (nomark _)) (pss_one (ps_ret (pe_tup (pa_cons pe_str (pa_cons (pv 4) pa_nil))))) pss_nil)
      (pss_cons (ps_set (i := 4) sc_ring_or_weights.nd rfl (Or.inl rfl) (pe_ix ix_tup (pv 7) pe_int (fun _ _ => rfl)))
      (pss_cons (ps_set (i := 5) sc_ring_or_weights.nd rfl (Or.inl rfl) (pe_ix ix_tup (pv 7) pe_int (fun _ _ => rfl)))
      (pss_one (ps_if (pt_cmpR op_eq (pv 6) pe_int (nomark _)) (pss_one (ps_ret (pe_tup (pa_cons pe_str (pa_cons (pe_fn (ok_ring_along T) hr pass0 (pa_cons (pv 5) (pa_cons (pv 8) pa_nil))) pa_nil))))) pss_nil))))))))
      (pss_one (ps_ret (pe_tup (pa_cons pe_str (pa_cons (pv 4) pa_nil))))))))), ?_⟩
    try dsimp only [cxOf, Cx.nox, Cx.wish]
    have l1 := D.l1
    have l2 := D.l2
    have lw := D.lw
    have mb := D.mb
    refine ⟨fun σ' H' => ∃ lq ts, σ' = [some (.ref p), some (.ref l), some (.ref fb), some (.ref lq), none, none, none, none, none] ∧ Same H H' ∧ H' lq = some (.lst ts) ∧ RowAt (WayIs a) H' ts ws, ?_, ?_⟩
    · refine ⟨_, rfl, l, rfl, ⟨_, D.hl⟩, fun lq nlq => ?_⟩
      refine compG_list (K := K) (a := l) (xs := ws.map fun x => V.str x.nm) (fun i H2 => i ≤ ws.length ∧ Same H H2 ∧ ∃ ts, H2 lq = some (.lst ts) ∧ RowAt (WayIs a) H2 ts (ws.take i)) ⟨Nat.zero_le _, same_upd nlq, [], upd_same, RowAt.nil⟩ (fun i H2 ⟨_, s2, _⟩ => s2.seq D.hl) ?_ ?_
      · rintro i x H2 hx ⟨_, s2, ts, h2, hv⟩
        rw [List.getElem?_map] at hx
        cases ey : ws[i]? with
        | none => rw [ey] at hx; cases hx
        | some y =>
          rw [ey] at hx
          cases hx
          have hi := (List.getElem?_eq_some_iff.mp ey).1
          have hn2 := D.net.mono s2
          obtain ⟨dx, dw, dy, hp, _⟩ := id hn2
          have now := fsN_no dw dy (m := "way") (by decide +kernel) (by decide +kernel)
          have lts : ts.length = i := by rw [hv.1, List.length_take]; omega
          refine g1 ⟨⟨[_], rfl, rfl⟩, yes ?_⟩
          refine ⟨_, rfl, p, a.Net, dx, _, 1, ["self", "name"], spNetWay a, rfl, hp, now, T.cl_Net, by decide, ok_Net_way T, _, rfl, p, ps, ds, y, rfl, hn2, D.nd, D.sub y (List.mem_of_getElem? ey), fun v hw => ?_⟩
          have sy : Stays a H2 (upd H2 lq (.lst (ts ++ [v]))) := .put h2 (fun _ _ _ z => by cases z)
          refine ⟨_, h2, small1000 (by omega), nextP (by rw [List.length_map]; exact hi) ⟨hi, same_put nlq s2, _, upd_same, ?_⟩⟩
          rw [List.take_add_one, ey, Option.toList_some]
          exact RowAt.snoc (hv.mono fun v x z => z.keep sy) (hw.keep sy)
      · rintro H2 ⟨_, s2, ts, h2, hv⟩
        rw [List.length_map, List.take_length] at hv
        exact ⟨lq, ts, rfl, s2, h2, hv⟩
    rintro σ' H1 ⟨lq, ts, rfl, s1, hlq, hts⟩
    refine ⟨_, rfl, p, ps, ds, rfl, D.net.mono s1, D.np, l2, fun dv H2 ndv s2 hv => ?_⟩
    have s12 := s1.trans s2
    have ndv' := s1.free ndv
    intro dp ndp
    have s3 := same_upd (o := .dK []) ndp
    have ndp' := s12.free ndp
    have hp3 : PtAt a (upd H2 dp (.dK [])) dp (ps.map (·.1)) (bseq Yw c ws 0).2 := ⟨[], [], upd_same, Tab.nil, List.nodup_nil, fun q hq => absurd hq List.not_mem_nil, fun q x e => by cases e⟩
    have hv3 : VlAt a (upd H2 dp (.dK [])) dv (ps.map (·.1)) (bseq Yw c ws 0).1 := hv.mono s3
    generalize upd H2 dp (.dK []) = H3 at s3 hp3 hv3 ⊢
    have s13 := s12.trans s3
    have hlq3 := (s2.trans s3) _ _ hlq
    have hts3 := hts.mono fun v x z => z.mono (s2.trans s3)
    clear hv s3 s2 s12 ndp ndv
    obtain ⟨kv, hkv, tkv⟩ := id hv3
    have lkv : kv.length = ps.length := by rw [tkv.len, List.length_map]
    refine ⟨_, rfl, dv, kv, rfl, hkv, _, rfl, fun r nr => ?_⟩
    have s4 := same_upd (o := RngO r 0 (kv.length : Int)) nr
    have hr4 : upd H3 r (RngO r 0 (kv.length : Int)) r = some (RngO r 0 (kv.length : Int)) := upd_same
    have hp4 := hp3.mono s4
    have hv4 := hv3.mono s4
    have hlq4 := s4 _ _ hlq3
    have hts4 := hts3.mono fun v x z => z.mono s4
    have s14 := s13.trans s4
    generalize upd H3 r (RngO r 0 (kv.length : Int)) = H4 at hr4 hp4 hv4 hlq4 hts4 s14 ⊢
    rw [lkv] at hr4
    clear s4 hp3 hv3 hlq3 hts3 s13 hkv tkv
    refine ⟨r, ps.length, rfl, hr4, by omega, ?_⟩
    refine for_down (n := ps.length) (fun i σ H5 => i < ps.length ∧ ∃ dv dp z6 z7 z8, σ = [some (.ref p), some (.ref l), some (.ref fb), some (.ref lq), some (.ref dv), some (.ref dp), z6, z7, z8] ∧ Same H4 H5 ∧ H dv = none ∧ VlAt a H5 dv (ps.map (·.1)) (bseq Yw c ws i).1 ∧ PtAt a H5 dp (ps.map (·.1)) (bseq Yw c ws i).2) ⟨by omega, dv, dp, _, _, _, rfl, Same.refl _, ndv', hv4, hp4⟩ ?_ ?_
    · clear hv4 hp4 ndv' ndp' lkv
      rintro i σ H5 hi ⟨_, dv, dp, z6, z7, z8, rfl, s5, ndv, hv, hp⟩
      have s15 := s14.trans s5
      have ib : (i + 1) * B ≤ ps.length * B := Nat.mul_le_mul_right _ hi
      rw [Nat.succ_mul] at ib
      have bdi := bseq_bd (c := c) D.gp D.bg i
      have bdn := bseq_bd (c := c) D.gp D.bg (i + 1)
      refine ⟨_, rfl, _, rfl, _, rfl, _, rfl, lq, dv, dp, fb, ts, ws, ps.map (·.1), _, _, c, i * B, B, rfl, ⟨SqL.of (s5 _ _ hlq4), hts4.mono (fun v x z => z.mono s5), hv, hp, fn, D.inn, by rw [List.length_map]; exact l2, D.np, bdi, D.bg, bseq_pos D.gp i, D.gp, by omega⟩, fun t d1 d2 H6 n1 n2 n12 s6 ht h1 h2 => ?_⟩
      have h1 : VlAt a H6 d1 (ps.map (·.1)) (bseq Yw c ws (i + 1)).1 := h1
      have h2 : PtAt a H6 d2 (ps.map (·.1)) (bseq Yw c ws (i + 1)).2 := h2
      have s16 := s15.trans s6
      have nvd : dv ≠ d1 := fun z => by
        obtain ⟨_, e, _⟩ := hv
        rw [z, n1] at e
        cases e
      have hv6 := hv.mono s6
      refine ⟨_, rfl, _, rfl, t, _, _, _, rfl, rfl, SqT.of ht, rfl, dv, d1, ps.map (·.1), _, _, (i + 1) * B, rfl, nvd, hv6, h1, D.np, by rw [Nat.succ_mul]; omega, fun q => (bdi q).mono (by rw [Nat.succ_mul]; omega), bdn, fun H7 s7 => ⟨fun q hq ne => ?_, fun same => ?_⟩⟩
      · have s17 := s16.trans s7
        have ht7 := s7 _ _ ht
        refine ⟨_, rfl, rfl, _, rfl, iteF ?_⟩
        refine ⟨_, rfl, t, _, _, _, rfl, rfl, SqT.of ht7, rfl, ?_⟩
        refine ⟨_, rfl, t, _, _, _, rfl, rfl, SqT.of ht7, rfl, ?_⟩
        refine ⟨_, rfl, rfl, _, rfl, ifV (fun e0 => ?_) (fun e0 => ?_)⟩
        · have en : ps.length = i + 1 := by omega
          refine ⟨_, rfl, _, rfl, d2, q, ps.map (·.1), ws, c, rfl, ?_, D.gp, fun x hx => (D.inn x hx).2, ?_, hq, by rw [List.length_map]; exact l2, fun lr H8 ring nlr s8 hlr rg => ?_⟩
          · rw [List.length_map, en]
            exact h2.mono s7
          · rw [List.length_map, en]
            exact blast_top (ne ·.symm)
          · refine ⟨by show 2 ≤ sizeLine; decide, fun t2 nt2 => ?_⟩
            have s9 := same_upd (o := .tup [.str "ring", .ref lr]) nt2
            exact k t2 _ (s17.trans (s8.trans s9)) (.inl ⟨lr, ring, s17.free nlr, upd_same, s9 _ _ hlr, rg⟩)
        · refine ⟨by omega, d1, d2, _, _, _, rfl, s5.trans (s6.trans s7), s15.free n1, h1.mono s7, h2.mono s7⟩
      · have s17 := s16.trans s7
        refine ⟨_, rfl, rfl, _, rfl, iteT ?_⟩
        refine ⟨_, rfl, by show 2 ≤ sizeLine; decide, fun t2 nt2 => ?_⟩
        have s9 := same_upd (o := .tup [.str "weights", .ref dv]) nt2
        exact k t2 _ (s17.trans s9) (.inr ⟨dv, _, ndv, upd_same, (hv6.mono s7).mono s9, ⟨bseq_pos D.gp i, fun q => (bdi q).mono (by omega), bseq_done D.gp (fun x hx => (D.inn x hx).1) fun q hq => (same q hq).symm⟩⟩)
    · rintro σ H5 ⟨z, _⟩
      omega
inductive IspMk (K : PySem.W.Frag) (a : Ad) (c : Bool) (vs : List V) (H : Hp) (Q : VK) : Prop
  | mk (p l : Addr) (ps : List (Str × Rat)) (ds ws : List WD) (B : Nat) (h1 : vs = [.ref p, .ref l]) (h2 : RgIn K a H p l ps ds ws B) (h3 : ∀ t H', Same H H' → RgOut a H H' t c ps ws → Q (.ref t) H') : IspMk K a c vs H Q
def spMk (K : PySem.W.Frag) (a : Ad) (c : Bool) : Sp := fun vs H Q _ => IspMk K a c vs H Q
theorem ok_making (T : TX K mg a) : FnB P w K mg base CX0 "making" 11 ["net", "names"] (spMk K a true) := by
  refine T.d_making.ok sc_making (fun vs H Q E h => ?_) (fun f cdv A outer s H vs Q E hr h => ?_)
  · obtain ⟨_, _, _, _, _, _, rfl, _⟩ := h
    rfl
  · obtain ⟨p, l, ps, ds, ws, B, rfl, D, k⟩ := h
    obtain ⟨fa_is_more, hm_is_more, fn⟩ := (ok_is_more (P := P) (w := w) (base := base) T).val
    refine ⟨_, (pss_one (ps_ret (pe_fn (ok_ring_or_weights T) hr pass0 (pa_cons (pv 0) (pa_cons (pv 1) (pa_cons (pe_glob (v := .ref fa_is_more) (by rfl) hm_is_more rfl) pa_nil)))))), ?_⟩
    try dsimp only [cxOf, Cx.nox, Cx.wish]
    exact ⟨_, rfl, _, rfl, p, l, fa_is_more, ps, ds, ws, B, true, rfl, D, fn, k⟩
theorem ok_eating (T : TX K mg a) : FnB P w K mg base CX0 "eating" 11 ["net", "names"] (spMk K a false) := by
  refine T.d_eating.ok sc_eating (fun vs H Q E h => ?_) (fun f cdv A outer s H vs Q E hr h => ?_)
  · obtain ⟨_, _, _, _, _, _, rfl, _⟩ := h
    rfl
  · obtain ⟨p, l, ps, ds, ws, B, rfl, D, k⟩ := h
    obtain ⟨fa_is_less, hm_is_less, fn⟩ := (ok_is_less (P := P) (w := w) (base := base) T).val
    refine ⟨_, (pss_one (ps_ret (pe_fn (ok_ring_or_weights T) hr pass0 (pa_cons (pv 0) (pa_cons (pv 1) (pa_cons (pe_glob (v := .ref fa_is_less) (by rfl) hm_is_less rfl) pa_nil)))))), ?_⟩
    try dsimp only [cxOf, Cx.nox, Cx.wish]
    exact ⟨_, rfl, _, rfl, p, l, fa_is_less, ps, ds, ws, B, false, rfl, D, fn, k⟩
end
end G
namespace G
open PySem L2
section
variable {P : Program} {w : World} {K : PySem.W.Frag} {mg : Str → Option Value} {base : Heap} {a : Ad}
inductive IspNWayX (a : Ad) (vs : List V) (H : Hp) (E : XK) : Prop
  | mk (p : Addr) (ps : List (Str × Rat)) (ds : List WD) (n : Str) (h1 : vs = [.ref p, .str n]) (h2 : NetAt a H p ps ds) (h3 : ¬ n ∈ ds.map (·.nm)) (h4 : n.length ≤ 1000) (h5 : NoWayE a H n E) : IspNWayX a vs H E
def spNWayX (a : Ad) : Sp := fun vs H _ E => IspNWayX a vs H E
theorem ok_Net_wayX (T : TX K mg a) : MtB P w K mg base (CX1 P w) a.Net "way" 3 ["self", "name"] (spNWayX a) := by
  refine T.m_Net_way.okX sc_Net_way (fun vs H Q E h => ?_) (fun f cdv A outer s H vs Q E hr h => ?_)
  · obtain ⟨_, _, _, _, rfl, _⟩ := h
    rfl
  · obtain ⟨p, ps, ds, n, rfl, ⟨dx, dw, dy, hp, hw, ⟨kvs, h1, h2, h3⟩⟩, hn, ln, kb⟩ := h
    refine ⟨_, (pss_cons (ps_if (pt_cmp (pc_dnotin (hu_of hr) (pv 1) (pe_fld (pv 0) rfl))) (pss_one (ps_raiseI xout1 rfl hr (by rfl) T.mg_NoWay (xi_NoWay T) (pa_cons (pv 1) pa_nil))) pss_nil)
      (pss_one (ps_ret (pe_dget (hu_of hr) (pe_fld (pv 0) rfl) (pv 1) (fun _ _ => rfl))))), ?_⟩
    try dsimp only [cxOf, Cx.nox, Cx.wish]
    refine ⟨_, rfl, _, rfl, p, _, dx, _, _, rfl, hp, T.cl_Net, T.na_Net_ways, fsN_y _ _, dy, _, rfl, DGet.k (k := Sum.inr n) h1, _, rfl, ?_⟩
    rw [val_none (by
      rw [h2, show (fun z : WD => (Sum.inr z.nm : Key)) = (fun n => (Sum.inr n : Key)) ∘ (fun z : WD => z.nm) from rfl, ← List.map_map]
      exact fun z => hn (inr_in.mp z))]
    refine iteT ?_
    refine ⟨_, rfl, ?_⟩
    exact raise_nw ln kb
end
end G
namespace G
open PySem L2
section
variable {P : Program} {w : World} {K : PySem.W.Frag} {mg : Str → Option Value} {base : Heap} {a : Ad}
/-- a name that no way has, the first such -/
structure BadN (K : PySem.W.Frag) (a : Ad) (H : Hp) (p l : Addr) (ps : List (Str × Rat)) (ds : List WD) (ts : List Str) (i : Nat) (n : Str) : Prop where
  net : NetAt a H p ps ds
  nd : (ds.map (·.nm)).Nodup
  hl : SqL K H l (ts.map V.str)
  ll : ts.length ≤ 100
  at_ : ts[i]? = some n
  no : ¬ n ∈ ds.map (·.nm)
  ahead : ∀ (j : Nat) (m : Str), j < i → ts[j]? = some m → m ∈ ds.map (·.nm)
  ln : n.length ≤ 1000
theorem BadN.mono {H H' : Hp} {p l : Addr} {ps : List (Str × Rat)} {ds : List WD} {ts : List Str} {i : Nat} {n : Str} (h : BadN K a H p l ps ds ts i n) (s : Same H H') : BadN K a H' p l ps ds ts i n := ⟨h.net.mono s, h.nd, s.seq h.hl, h.ll, h.at_, h.no, h.ahead, h.ln⟩
inductive IspRowX (K : PySem.W.Frag) (a : Ad) (vs : List V) (H : Hp) (E : XK) : Prop
  | mk (p l f : Addr) (ps : List (Str × Rat)) (ds : List WD) (ts : List Str) (i : Nat) (n : Str) (h1 : vs = [.ref p, .ref l, .ref f]) (h2 : BadN K a H p l ps ds ts i n) (h3 : NoWayE a H n E) : IspRowX K a vs H E
def spRowX (K : PySem.W.Frag) (a : Ad) : Sp := fun vs H _ E => IspRowX K a vs H E
theorem ok_ring_or_weightsX (T : TX K mg a) : FnB P w K mg base (CX1 P w) "ring_or_weights" 10 ["net", "names", "better"] (spRowX K a) := by
  refine T.d_ring_or_weights.okX sc_ring_or_weights (fun vs H Q E h => ?_) (fun f cdv A outer s H vs Q E hr h => ?_)
  · obtain ⟨_, _, _, _, _, _, _, _, rfl, _⟩ := h
    rfl
  · obtain ⟨p, l, fb, ps, ds, ts, i0, n0, rfl, D, kb⟩ := h
    refine ⟨_, (pss_cons (ps_compGX (i := 3) (xs := ["name"]) (rest := ["net"]) sc_ring_or_weights.nd rfl rfl xoutF rfl rfl rfl rfl (pi_list (pv 1))
      (fun pins fp C' s' H' => (pg_name (i := 0) (show (["name", "net"] : List Str).Nodup by decide +kernel) rfl (Or.inl rfl))) (fun pins fp C' s' H' ps => pts_nil)
      (fun pins fp C' s' H' ps => (pe_mtDK (CX := CX1 P w) (P := P) (w := w) (K := K) (mg := mg) (base := base) rfl rfl rfl rfl rfl (pv 1) hr (passC rfl rfl) (pa_cons (pv 0) pa_nil)))
      (Clos.many (ys := ["net"]) rfl ⟨rfl, True.intro⟩ rfl (by decide +kernel)) (Reads.many (ys := ["net"]) (js := [0]) ⟨⟨rfl, rfl, rfl⟩, True.intro⟩))
      (pss_cons (ps_set (i := 4) sc_ring_or_weights.nd rfl (Or.inl rfl) (pe_fn (ok_ones T) hr pass0 (pa_cons (pv 0) pa_nil)))
      (pss_cons (ps_set (i := 5) sc_ring_or_weights.nd rfl (Or.inl rfl) pe_dnewK)
      (pss_cons (ps_for owns1 rfl (pi_rev rfl T.z_reversed (pa_cons (pe_callTy call_rng1 (by rfl) T.z_range PyProof.Rows.boot_range (pa_cons (pe_callB call_lenD (by rfl) T.z_len PySem.boot_len (pa_cons (pv 4) pa_nil)) pa_nil)) pa_nil)) (pg_name (i := 6) sc_ring_or_weights.nd rfl (Or.inl rfl)) (pss_cons (ps_set (i := 7) sc_ring_or_weights.nd rfl (Or.inl rfl) (pe_fn (ok_bettered T) hr pass0 (pa_cons (pv 3) (pa_cons (pv 4) (pa_cons (pv 5) (pa_cons (pv 2) pa_nil))))))
      (pss_cons (ps_set (i := 8) sc_ring_or_weights.nd rfl (Or.inl rfl) (pe_fn (ok_place_bettered T) hr pass0 (pa_cons (pv 4) (pa_cons (pe_ix ix_tup (pv 7) pe_int (fun _ _ => rfl)) pa_nil))))
      (pss_cons (ps_if (pt_cmpR op_isN (pv 8) pe_non (nomark _)) (pss_one (ps_ret (pe_tup (pa_cons pe_str (pa_cons (pv 4) pa_nil))))) pss_nil)
      (pss_cons (ps_set (i := 4) sc_ring_or_weights.nd rfl (Or.inl rfl) (pe_ix ix_tup (pv 7) pe_int (fun _ _ => rfl)))
      (pss_cons (ps_set (i := 5) sc_ring_or_weights.nd rfl (Or.inl rfl) (pe_ix ix_tup (pv 7) pe_int (fun _ _ => rfl)))
      (pss_one (ps_if (pt_cmpR op_eq (pv 6) pe_int (nomark _)) (pss_one (ps_ret (pe_tup (pa_cons pe_str (pa_cons (pe_fn (ok_ring_along T) hr pass0 (pa_cons (pv 5) (pa_cons (pv 8) pa_nil))) pa_nil))))) pss_nil))))))))
      (pss_one (ps_ret (pe_tup (pa_cons pe_str (pa_cons (pv 4) pa_nil))))))))), ?_⟩
    try dsimp only [cxOf, Cx.nox, Cx.wish]
    have ll := D.ll
    refine ⟨_, rfl, l, rfl, ⟨_, D.hl⟩, fun lq nlq => ?_⟩
    refine compG_list (K := K) (a := l) (xs := ts.map V.str) (fun i H2 => i ≤ i0 ∧ Same H H2 ∧ ∃ us : List V, us.length = i ∧ H2 lq = some (.lst us)) ⟨Nat.zero_le _, same_upd nlq, [], rfl, upd_same⟩ (fun i H2 ⟨_, s2, _⟩ => s2.seq D.hl) ?_ ?_
    · rintro i x H2 hx ⟨hi0, s2, us, lus, h2⟩
      rw [List.getElem?_map] at hx
      cases ey : ts[i]? with
      | none => rw [ey] at hx; cases hx
      | some y =>
        rw [ey] at hx
        cases hx
        have hi := (List.getElem?_eq_some_iff.mp ey).1
        have hn2 := D.net.mono s2
        obtain ⟨dx, dw, dy, hp, _⟩ := id hn2
        have now := fsN_no dw dy (m := "way") (by decide +kernel) (by decide +kernel)
        refine g1 ⟨⟨[_], rfl, rfl⟩, yes ?_⟩
        by_cases hii : i = i0
        · subst hii
          obtain rfl : y = n0 := Option.some.inj (ey.symm.trans D.at_)
          exact ⟨_, rfl, p, a.Net, dx, _, 3, ["self", "name"], spNWayX a, rfl, hp, now, T.cl_Net, by decide, ok_Net_wayX T, _, rfl, p, ps, ds, y, rfl, hn2, D.no, D.ln, fun H' dx' s' hx => kb H' dx' (s2.trans s') hx⟩
        · obtain ⟨z, mz, ez⟩ := List.mem_map.mp (D.ahead i y (by omega) ey)
          refine ⟨_, rfl, p, a.Net, dx, _, 1, ["self", "name"], spNetWay a, rfl, hp, now, T.cl_Net, by decide, (ok_Net_way T).up, _, rfl, p, ps, ds, z, by rw [ez]; rfl, hn2, D.nd, mz, fun v hw => ?_⟩
          exact ⟨_, h2, small1000 (by omega), nextP (by rw [List.length_map]; exact hi) ⟨by omega, same_put nlq s2, us ++ [v], by rw [List.length_append, lus]; rfl, upd_same⟩⟩
    · rintro H2 ⟨hi, _⟩
      have := (List.getElem?_eq_some_iff.mp D.at_).1
      rw [List.length_map] at hi
      omega
inductive IspMkX (K : PySem.W.Frag) (a : Ad) (vs : List V) (H : Hp) (E : XK) : Prop
  | mk (p l : Addr) (ps : List (Str × Rat)) (ds : List WD) (ts : List Str) (i : Nat) (n : Str) (h1 : vs = [.ref p, .ref l]) (h2 : BadN K a H p l ps ds ts i n) (h3 : NoWayE a H n E) : IspMkX K a vs H E
def spMkX (K : PySem.W.Frag) (a : Ad) : Sp := fun vs H _ E => IspMkX K a vs H E
theorem ok_makingX (T : TX K mg a) : FnB P w K mg base (CX1 P w) "making" 11 ["net", "names"] (spMkX K a) := by
  refine T.d_making.okX sc_making (fun vs H Q E h => ?_) (fun f cdv A outer s H vs Q E hr h => ?_)
  · obtain ⟨_, _, _, _, _, _, _, rfl, _⟩ := h
    rfl
  · obtain ⟨p, l, ps, ds, ts, i, n, rfl, D, k⟩ := h
    obtain ⟨fa_is_more, hm_is_more, _⟩ := (ok_is_more (P := P) (w := w) (base := base) T).val
    refine ⟨_, (pss_one (ps_ret (pe_fn (ok_ring_or_weightsX T) hr pass1 (pa_cons (pv 0) (pa_cons (pv 1) (pa_cons (pe_glob (v := .ref fa_is_more) (by rfl) hm_is_more rfl) pa_nil)))))), ?_⟩
    try dsimp only [cxOf, Cx.nox, Cx.wish]
    exact ⟨_, rfl, _, rfl, p, l, fa_is_more, ps, ds, ts, i, n, rfl, D, k⟩
theorem ok_eatingX (T : TX K mg a) : FnB P w K mg base (CX1 P w) "eating" 11 ["net", "names"] (spMkX K a) := by
  refine T.d_eating.okX sc_eating (fun vs H Q E h => ?_) (fun f cdv A outer s H vs Q E hr h => ?_)
  · obtain ⟨_, _, _, _, _, _, _, rfl, _⟩ := h
    rfl
  · obtain ⟨p, l, ps, ds, ts, i, n, rfl, D, k⟩ := h
    obtain ⟨fa_is_less, hm_is_less, _⟩ := (ok_is_less (P := P) (w := w) (base := base) T).val
    refine ⟨_, (pss_one (ps_ret (pe_fn (ok_ring_or_weightsX T) hr pass1 (pa_cons (pv 0) (pa_cons (pv 1) (pa_cons (pe_glob (v := .ref fa_is_less) (by rfl) hm_is_less rfl) pa_nil)))))), ?_⟩
    try dsimp only [cxOf, Cx.nox, Cx.wish]
    exact ⟨_, rfl, _, rfl, p, l, fa_is_less, ps, ds, ts, i, n, rfl, D, k⟩
end
end G
namespace G
open PySem L2
section
variable {P : Program} {w : World} {K : PySem.W.Frag} {mg : Str → Option Value} {base : Heap} {a : Ad}
theorem le_line {n : Nat} (h : n ≤ 1000) : n ≤ sizeLine := by rw [PySem.sizeLine_eq]; omega
theorem one_len {c : Nat} : (⟨#[c]⟩ : Str).length = 1 := rfl
theorem emod_in (x : Int) {m : Int} (h : 0 < m) : 0 ≤ x % m ∧ x % m < m := ⟨Int.emod_nonneg x (by omega), Int.emod_lt_of_pos x h⟩
/-- some cell -/
inductive IspCellW (K : PySem.W.Frag) (vs : List V) (H : Hp) (Q : VK) : Prop
  | mk (l : Addr) (ns : List Int) (k : Int) (h1 : vs = [.ref l, .int k]) (h2 : SqL K H l (ns.map V.int)) (h3 : 0 ≤ k) (h4 : k ≤ 1000) (h5 : ∀ c : Int, Q (.int c) H) : IspCellW K vs H Q
def spCellW (K : PySem.W.Frag) : Sp := fun vs H Q _ => IspCellW K vs H Q
theorem ok_law_cell_at (T : TX K mg a) : FnB P w K mg base CX0 "_law_cell_at" 1 ["_law_script", "_law_k"] (spCellW K) := by
  refine T.d_law_cell_at.ok sc_law_cell_at (fun vs H Q E h => ?_) (fun f cdv A outer s H vs Q E hr h => ?_)
  · obtain ⟨_, _, _, rfl, _⟩ := h
    rfl
  · obtain ⟨l, ns, i, rfl, hS, i0, i1, k⟩ := h
    refine ⟨_, (pss_cons (ps_if (pt_cmpR op_lt (pv 1) (pe_callB call_lenK (by rfl) T.z_len PySem.boot_len (pa_cons (pv 0) pa_nil)) (nomark _)) (pss_one (ps_ret (pe_ix ix_list (pv 0) (pv 1) (fun _ _ => rfl)))) pss_nil)
      (pss_cons (ps_if (pt_cmpR op_eq (pe_callB call_lenK (by rfl) T.z_len PySem.boot_len (pa_cons (pv 0) pa_nil)) pe_int (nomark _)) (pss_one (ps_ret pe_int)) pss_nil)
      (pss_one (ps_ret (pe_op op_mod (pe_op op_mul (pe_ix ix_list (pv 0) (pe_op op_mod (pv 1) (pe_callB call_lenK (by rfl) T.z_len PySem.boot_len (pa_cons (pv 0) pa_nil))) (fun _ _ => rfl)) (pe_op op_add pe_int (pe_op op_mul (pv 1) (pv 1)))) pe_int))))), ?_⟩
    try dsimp only [cxOf, Cx.nox, Cx.wish]
    have get : ∀ j : Int, 0 ≤ j → j < ns.length → ∃ c, atI (ns.map V.int) j = some (.int c) := fun j h0 h1 => by
      obtain ⟨n, rfl⟩ := Int.eq_ofNat_of_zero_le h0
      have hn : n < ns.length := by omega
      exact ⟨ns[n], atI_nat (by rw [List.getElem?_map, List.getElem?_eq_getElem hn]; rfl)⟩
    refine ⟨_, rfl, _, rfl, _, _, rfl, .inl hS, _, _, rfl, rfl, _, rfl, ?_⟩
    rw [List.length_map]
    refine ifB (fun hlt => ?_) (fun hge => ?_)
    · obtain ⟨c, hc⟩ := get i i0 hlt
      exact ⟨_, rfl, _, rfl, l, _, _, _, rfl, rfl, hS, hc, k c⟩
    · refine ⟨_, rfl, _, _, rfl, .inl hS, rfl, _, rfl, ?_⟩
      rw [List.length_map]
      refine ifV (fun h0 => k 0) (fun h0 => ?_)
      have hp : (0 : Int) < ns.length := by omega
      obtain ⟨e0, e1⟩ := emod_in i hp
      obtain ⟨c, hc⟩ := get _ e0 e1
      have h1 : i * i ≤ 1000 * 1000 := Int.mul_le_mul i1 i1 i0 (by decide)
      have h2 : 0 ≤ i * i := Int.mul_nonneg i0 i0
      refine ⟨_, rfl, _, rfl, _, rfl, l, _, rfl, .inl hS, _, _, rfl, rfl, by rw [List.length_map]; exact hp, l, _, _, _, rfl, rfl, hS, by rw [List.length_map]; exact hc, ?_⟩
      refine ⟨_, rfl, _, rfl, _, _, rfl, rfl, .inl ⟨by omega, by omega⟩, _, _, rfl, rfl, _, _, rfl, rfl, .inr ⟨by omega, by omega⟩, _, _, rfl, rfl, by show (0 : Int) < 1000003; decide, ?_⟩
      exact k _
/-- names that differ -/
structure Names (ns : List Str) (n : Nat) : Prop where
  len : ns.length = n
  nd : ns.Nodup
  sm : ∀ x ∈ ns, x.length ≤ 200
  ch : ∀ x ∈ ns, ∃ s t : Nat, ∀ c ∈ x.cps.toList, c = s ∨ c = t
inductive IspNames (vs : List V) (H : Hp) (Q : VK) : Prop
  | mk (c : Int) (n : Nat) (h1 : vs = [.int c, .int n]) (h2 : n ≤ 37) (h3 : ∀ l H' ns, H l = none → Same H H' → H' l = some (.lst (ns.map V.str)) → Names ns n → Q (.ref l) H') : IspNames vs H Q
def spNames (K : PySem.W.Frag) : Sp := fun vs H Q _ => IspNames vs H Q
theorem take_range {f : Nat → Str} (i : Nat) : ((List.range (i + 1)).map f) = ((List.range i).map f) ++ [f i] := by rw [List.range_succ, List.map_append]; rfl
theorem names_of {f : Nat → Str} {n : Nat} (inj : ∀ i j, i < n → j < n → f i = f j → i = j) (sm : ∀ i, i < n → (f i).length ≤ 200) (ch : ∀ i, i < n → ∃ s t : Nat, ∀ c ∈ (f i).cps.toList, c = s ∨ c = t) : Names ((List.range n).map f) n := by
  refine ⟨by simp, ?_, fun x hx => ?_, fun x hx => by
    obtain ⟨i, hi, rfl⟩ := List.mem_map.mp hx
    exact ch i (List.mem_range.mp hi)⟩
  · rw [List.nodup_iff_pairwise_ne, List.pairwise_map]
    refine (List.nodup_range (n := n)).imp_of_mem ?_
    intro i j hi hj ne e
    exact ne (inj i j (List.mem_range.mp hi) (List.mem_range.mp hj) e)
  · obtain ⟨i, hi, rfl⟩ := List.mem_map.mp hx
    exact sm i (List.mem_range.mp hi)
theorem rep_len (c : Nat) (n : Int) : (Txt.mul ⟨#[c]⟩ n).length = n.toNat := by rw [len_cps, mul_cps, List.length_replicate]
def nmA (c : Int) (k : Nat) : Str := Txt.mul ⟨#[sgAt (c / 4 % 37)]⟩ ((0 + (k : Int)) + 1)
def nmB (f : Str) (at_ c : Int) (k : Nat) : Str := (Txt.slice f none (some at_) ++ ⟨#[sgAt ((0 + (k : Int) + c / 7) % 37)]⟩) ++ Txt.slice f (some at_) none
theorem nmA_names {c : Int} {n : Nat} (h : n ≤ 37) : Names ((List.range n).map (nmA c)) n := by
  refine names_of (fun i j _ _ e => ?_) (fun i hi => ?_) fun i hi => ⟨sgAt (c / 4 % 37), 0, fun c' hc => .inl (by unfold nmA at hc; rw [mul_cps] at hc; exact List.eq_of_mem_replicate hc)⟩
  · have := congrArg Str.length e
    unfold nmA at this
    rw [rep_len, rep_len] at this
    omega
  · unfold nmA
    rw [rep_len]
    omega
theorem mem_slice {x : Str} {l u : Option Int} {c : Nat} (h : c ∈ (Txt.slice x l u).cps.toList) : c ∈ x.cps.toList := by
  unfold Txt.slice at h
  split at h
  · exact h
  · obtain ⟨i, _, e⟩ := List.mem_filterMap.mp h
    exact Array.mem_toList_iff.mpr (Array.mem_of_getElem? e)
theorem nmB_names {f : Str} {at_ c : Int} {n s : Nat} (h : n ≤ 37) (hf : f.length ≤ 60) (hs : ∀ c ∈ f.cps.toList, c = s) : Names ((List.range n).map (nmB f at_ c)) n := by
  refine names_of (fun i j hi hj e => ?_) (fun i hi => ?_) fun i hi => ⟨s, sgAt ((0 + (i : Int) + c / 7) % 37), fun c' hc => ?_⟩
  · have e1 := app_left (app_right e)
    have e2 : sgAt ((0 + (i : Int) + c / 7) % 37) = sgAt ((0 + (j : Int) + c / 7) % 37) := by
      have := congrArg (fun u : Str => u.cps.toList) e1
      simpa using this
    obtain ⟨a1, a2⟩ := emod_in (0 + (i : Int) + c / 7) (show (0 : Int) < 37 by decide)
    obtain ⟨b1, b2⟩ := emod_in (0 + (j : Int) + c / 7) (show (0 : Int) < 37 by decide)
    have e3 := sgAt_inj _ (by omega) _ (by omega) e2
    omega
  · unfold nmB
    have h1 := Txt.slice_le f none (some at_)
    have h2 := Txt.slice_le f (some at_) none
    rw [PySem.strLen_append, PySem.strLen_append, one_len]
    omega
  · unfold nmB at hc
    rw [cps_app, cps_app, List.mem_append, List.mem_append] at hc
    rcases hc with (hc | hc) | hc
    · exact .inl (hs _ (mem_slice hc))
    · exact .inr (by simpa using hc)
    · exact .inl (hs _ (mem_slice hc))
theorem ok_law_names (T : TX K mg a) : FnB P w K mg base CX0 "_law_names" 1 ["_law_cell", "_law_count"] (spNames K) := by
  refine T.d_law_names.ok sc_law_names (fun vs H Q E h => ?_) (fun f cdv A outer s H vs Q E hr h => ?_)
  · obtain ⟨_, _, rfl, _⟩ := h
    rfl
  · obtain ⟨c, n, rfl, hn, k⟩ := h
    refine ⟨_, (pss_cons (ps_set (i := 2) sc_law_names.nd rfl (Or.inr rfl) pe_str)
      (pss_cons (ps_if (pt_cmpR op_eq (pe_op op_mod (pv 0) pe_int) pe_int (nomark _)) (pss_one (ps_ret (pe_compG (xs := ["_law_k"]) (rest := ["_law_cell", "_law_signs"]) rfl (pi_range1 rfl T.z_range (pa_cons (pv 1) pa_nil))
      (fun pins fp C' s' H' => (pg_name (i := 0) (show (["_law_k", "_law_cell", "_law_signs"] : List Str).Nodup by decide +kernel) rfl (Or.inl rfl))) (fun pins fp C' s' H' => pts_nil)
      (fun pins fp C' s' H' => (pe_op op_rep_str (pe_ix ix_str (pv 2) (pe_op op_mod (pe_op op_fdiv (pv 1) pe_int) pe_int) (fun _ _ => rfl)) (pe_op op_add (pv 0) pe_int)))
      (Clos.many (ys := ["_law_signs", "_law_cell"]) rfl ⟨rfl, rfl, True.intro⟩ rfl (by decide +kernel)) (Reads.many (ys := ["_law_cell", "_law_signs"]) (js := [0, 2]) ⟨⟨rfl, rfl, rfl⟩, ⟨rfl, rfl, rfl⟩, True.intro⟩)))) pss_nil)
      (pss_cons (ps_set (i := 3) sc_law_names.nd rfl (Or.inr rfl) (pe_op op_rep_str (pe_ix ix_str (pv 2) (pe_op op_mod (pe_op op_fdiv (pv 0) pe_int) pe_int) (fun _ _ => rfl)) (pe_ix ix_list (pe_lst (pa_cons pe_int (pa_cons pe_int (pa_cons pe_int (pa_cons pe_int pa_nil))))) (pe_op op_mod (pe_op op_fdiv (pv 0) pe_int) pe_int) (fun _ _ => rfl))))
      (pss_cons (ps_set (i := 4) sc_law_names.nd rfl (Or.inr rfl) (pe_op op_mod (pe_op op_fdiv (pv 0) pe_int) (pe_op op_add (pe_callB call_len_str (by rfl) T.z_len PySem.boot_len (pa_cons (pv 3) pa_nil)) pe_int)))
      (pss_one (ps_ret (pe_compG (xs := ["_law_k"]) (rest := ["_law_at", "_law_cell", "_law_fill", "_law_signs"]) rfl (pi_range1 rfl T.z_range (pa_cons (pv 1) pa_nil))
      (fun pins fp C' s' H' => (pg_name (i := 0) (show (["_law_k", "_law_at", "_law_cell", "_law_fill", "_law_signs"] : List Str).Nodup by decide +kernel) rfl (Or.inl rfl))) (fun pins fp C' s' H' => pts_nil)
      (fun pins fp C' s' H' => (pe_op op_add_str (pe_op op_add_str (pe_slice sl_str (pv 3) po_none (po_some (pv 1))) (pe_ix ix_str (pv 4) (pe_op op_mod (pe_op op_add (pv 0) (pe_op op_fdiv (pv 2) pe_int)) pe_int) (fun _ _ => rfl))) (pe_slice sl_str (pv 3) (po_some (pv 1)) po_none)))
      (Clos.many (ys := ["_law_signs", "_law_fill", "_law_cell", "_law_at"]) rfl ⟨rfl, rfl, rfl, rfl, True.intro⟩ rfl (by decide +kernel)) (Reads.many (ys := ["_law_at", "_law_cell", "_law_fill", "_law_signs"]) (js := [4, 0, 3, 2]) ⟨⟨rfl, rfl, rfl⟩, ⟨rfl, rfl, rfl⟩, ⟨rfl, rfl, rfl⟩, ⟨rfl, rfl, rfl⟩, True.intro⟩)))))))), ?_⟩
    try dsimp only [cxOf, Cx.nox, Cx.wish]
    obtain ⟨p1, p2⟩ := emod_in (c / 4) (show (0 : Int) < 37 by decide)
    walk_at "rd"
    refine ifV (fun h2 => ?_) (fun h2 => ?_)
    · refine ⟨_, rfl, (n : Int), rfl, by omega, by omega, fun l nl => ?_⟩
      refine compG_range (fun i H2 => i ≤ n ∧ Same H H2 ∧ H2 l = some (.lst (((List.range i).map (nmA c)).map V.str))) ⟨Nat.zero_le _, same_upd nl, upd_same⟩ ?_ ?_
      · rintro i H2 hi ⟨_, s2, h2⟩
        refine g1 ⟨⟨[_], rfl, rfl⟩, yes ?_⟩
        have hi' : i < n := by simpa using hi
        walk_at "rd"
        refine ⟨by rw [PySem.sizeLine_eq]; decide, sgAt_some p1 p2, ?_⟩
        walk_at "rd"
        refine ⟨show (0 + (i : Int) + 1).natAbs < 1000 by omega, ?_⟩
        refine ⟨_, h2, small1000 (by rw [List.length_map, List.length_map, List.length_range]; omega), nextP (by simpa using hi) ⟨hi', same_put nl s2, ?_⟩⟩
        rw [upd_same, take_range, List.map_append]
        rfl
      · rintro H2 ⟨_, s2, h2⟩
        exact k l H2 _ nl s2 h2 (by simpa using nmA_names (c := c) hn)
    · obtain ⟨q0, q1⟩ := emod_in (c / 148) (show (0 : Int) < 4 by decide)
      walk_at "rd"
      refine ⟨by rw [PySem.sizeLine_eq]; decide, sgAt_some p1 p2, by show 4 ≤ sizeLine; decide, fun z nz => ?_⟩
      have sz := same_upd (o := .lst [.int 0, .int 1, .int 3, .int 59]) nz
      have hz : upd H z (.lst [.int 0, .int 1, .int 3, .int 59]) z = some (.lst [.int 0, .int 1, .int 3, .int 59]) := upd_same
      generalize upd H z (.lst [.int 0, .int 1, .int 3, .int 59]) = H1 at sz hz ⊢
      have pick : ∃ m : Int, atI [V.int 0, .int 1, .int 3, .int 59] (c / 148 % 4) = some (.int m) ∧ 0 ≤ m ∧ m ≤ 59 := by
        obtain ⟨j, hj⟩ := Int.eq_ofNat_of_zero_le q0
        rw [hj] at q1 ⊢
        have : j = 0 ∨ j = 1 ∨ j = 2 ∨ j = 3 := by omega
        rcases this with rfl | rfl | rfl | rfl
        · exact ⟨0, rfl, by decide, by decide⟩
        · exact ⟨1, rfl, by decide, by decide⟩
        · exact ⟨3, rfl, by decide, by decide⟩
        · exact ⟨59, rfl, by decide, by decide⟩
      obtain ⟨m, hm, m0, m1⟩ := pick
      walk_at "rd"
      refine ⟨SqL.of hz, hm, ?_⟩
      walk_at "rd"
      refine ⟨show m.natAbs < 1000 by omega, ?_⟩
      have fl := rep_len (sgAt (c / 4 % 37)) m
      have fc : ∀ c' ∈ (Txt.mul ⟨#[sgAt (c / 4 % 37)]⟩ m).cps.toList, c' = sgAt (c / 4 % 37) := fun c' hc => by rw [mul_cps] at hc; exact List.eq_of_mem_replicate hc
      generalize Txt.mul ⟨#[sgAt (c / 4 % 37)]⟩ m = fill at fl fc ⊢
      have fl2 : fill.length ≤ 60 := by omega
      walk_at "rd"
      refine ⟨le_line (by omega), ?_⟩
      walk_at "rd"
      refine ⟨show (0 : Int) < (fill.length : Int) + 1 by omega, ?_⟩
      refine ⟨_, rfl, (n : Int), rfl, by omega, by omega, fun l nl => ?_⟩
      refine compG_range (fun i H2 => i ≤ n ∧ Same H1 H2 ∧ H2 l = some (.lst (((List.range i).map (nmB fill (c / 592 % ((fill.length : Int) + 1)) c)).map V.str))) ⟨Nat.zero_le _, same_upd nl, upd_same⟩ ?_ ?_
      · rintro i H2 hi ⟨_, s2, h2⟩
        refine g1 ⟨⟨[_], rfl, rfl⟩, yes ?_⟩
        have hi' : i < n := by simpa using hi
        obtain ⟨r1, r2⟩ := emod_in (0 + (i : Int) + c / 7) (show (0 : Int) < 37 by decide)
        have l1 := Txt.slice_le fill none (some (c / 592 % ((fill.length : Int) + 1)))
        have l2 := Txt.slice_le fill (some (c / 592 % ((fill.length : Int) + 1))) none
        refine ⟨_, rfl, _, rfl, _, rfl, fill, rfl, le_line (by omega), ?_⟩
        walk_at "rd"
        refine ⟨by rw [PySem.sizeLine_eq]; decide, sgAt_some r1 r2, ?_⟩
        walk_at "rd"
        refine ⟨by rw [one_len]; exact le_line (by omega), ?_⟩
        walk_at "rd"
        refine ⟨le_line (by omega), ?_⟩
        walk_at "rd"
        refine ⟨by rw [PySem.strLen_append, one_len]; exact le_line (by omega), ?_⟩
        refine ⟨_, h2, small1000 (by rw [List.length_map, List.length_map, List.length_range]; omega), nextP (by simpa using hi) ⟨hi', same_put nl s2, ?_⟩⟩
        rw [upd_same, take_range, List.map_append]
        rfl
      · rintro H2 ⟨_, s2, h2⟩
        exact k l H2 _ (sz.free nl) (sz.trans s2) h2 (by simpa using nmB_names (c := c) hn fl2 fc)
structure Pots (pl : List Int) (n : Nat) : Prop where
  len : pl.length = n
  ok : ∀ x ∈ pl, 1 ≤ x ∧ x ≤ 7
inductive IspPots (vs : List V) (H : Hp) (Q : VK) : Prop
  | mk (c : Int) (n : Nat) (h1 : vs = [.int c, .int n]) (h2 : n ≤ 37) (h3 : ∀ l H' pl, H l = none → Same H H' → H' l = some (.lst (pl.map V.int)) → Pots pl n → Q (.ref l) H') : IspPots vs H Q
def spPots : Sp := fun vs H Q _ => IspPots vs H Q
theorem ok_law_pots (T : TX K mg a) : FnB P w K mg base CX0 "_law_pots" 1 ["_law_cell", "_law_count"] spPots := by
  refine T.d_law_pots.ok sc_law_pots (fun vs H Q E h => ?_) (fun f cdv A outer s H vs Q E hr h => ?_)
  · obtain ⟨_, _, rfl, _⟩ := h
    rfl
  · obtain ⟨c, n, rfl, hn, k⟩ := h
    refine ⟨_, (pss_one (ps_ret (pe_compG (xs := ["_law_k"]) (rest := ["_law_cell"]) rfl (pi_range1 rfl T.z_range (pa_cons (pv 1) pa_nil))
      (fun pins fp C' s' H' => (pg_name (i := 0) (show (["_law_k", "_law_cell"] : List Str).Nodup by decide +kernel) rfl (Or.inl rfl))) (fun pins fp C' s' H' => pts_nil)
      (fun pins fp C' s' H' => (pe_op op_add pe_int (pe_op op_mod (pe_op op_mod (pe_op op_mul (pv 1) (pe_op op_add pe_int (pe_op op_mul (pv 0) (pv 0)))) pe_int) pe_int)))
      (Clos.many (ys := ["_law_cell"]) rfl ⟨rfl, True.intro⟩ rfl (by decide +kernel)) (Reads.many (ys := ["_law_cell"]) (js := [0]) ⟨⟨rfl, rfl, rfl⟩, True.intro⟩)))), ?_⟩
    try dsimp only [cxOf, Cx.nox, Cx.wish]
    refine ⟨_, rfl, (n : Int), rfl, by omega, by omega, fun l nl => ?_⟩
    refine compG_range (fun i H2 => i ≤ n ∧ Same H H2 ∧ ∃ pl : List Int, H2 l = some (.lst (pl.map V.int)) ∧ pl.length = i ∧ ∀ x ∈ pl, 1 ≤ x ∧ x ≤ 7) ⟨Nat.zero_le _, same_upd nl, [], upd_same, rfl, fun x hx => absurd hx List.not_mem_nil⟩ ?_ ?_
    · rintro i H2 hi ⟨_, s2, pl, h2, lp, ok⟩
      have hi' : i < n := by simpa using hi
      have i1 : (0 + (i : Int)) * (0 + (i : Int)) ≤ 37 * 37 := Int.mul_le_mul (by omega) (by omega) (by omega) (by decide)
      have i0 : 0 ≤ (0 + (i : Int)) * (0 + (i : Int)) := Int.mul_nonneg (by omega) (by omega)
      refine g1 ⟨⟨[_], rfl, rfl⟩, yes ?_⟩
      refine ⟨_, rfl, _, rfl, _, rfl, _, _, rfl, rfl, .inl ⟨by omega, by omega⟩, _, _, rfl, rfl, _, _, rfl, rfl, .inr ⟨by omega, by omega⟩, _, _, rfl, rfl, by show (0 : Int) < 1000003; decide, _, _, rfl, rfl, by show (0 : Int) < 7; decide, _, _, rfl, rfl, ?_⟩
      obtain ⟨x, hx⟩ : ∃ x : Int, c * (48271 + (0 + (i : Int)) * (0 + (i : Int))) % 1000003 = x := ⟨_, rfl⟩
      obtain ⟨b0, b1⟩ := emod_in x (show (0 : Int) < 7 by decide)
      refine ⟨_, h2, small1000 (by rw [List.length_map]; omega), nextP (by simpa using hi) ⟨hi', same_put nl s2, pl ++ [1 + c * (48271 + (0 + (i : Int)) * (0 + (i : Int))) % 1000003 % 7], ?_, by rw [List.length_append, lp]; rfl, fun y hy => ?_⟩⟩
      · rw [upd_same, List.map_append]
        rfl
      · rcases List.mem_append.mp hy with hy | hy
        · exact ok y hy
        · rw [List.mem_singleton.mp hy, hx]
          omega
    · rintro H2 ⟨_, s2, pl, h2, lp, ok⟩
      exact k l H2 pl nl s2 h2 ⟨by simpa using lp, ok⟩
/-- a gain: top and bottom -/
structure GB (t b : Int) : Prop where
  t0 : 1 ≤ t
  t1 : t ≤ 2 ^ 200
  b0 : 1 ≤ b
  b1 : b ≤ 2 ^ 200
/-- a row: name, start, goal, gain, kind -/
structure WR where
  nm : Str
  st : Str
  go : Str
  t : Int
  b : Int
  k : Int
def WR.d (r : WR) : WD := if r.t = r.b ∧ r.k = 0 then ⟨r.nm, r.st, r.go, .way, 0⟩ else if r.t ≤ r.b ∧ r.k = 1 then ⟨r.nm, r.st, r.go, .lea, Rat.divInt (r.b - r.t) r.b⟩ else ⟨r.nm, r.st, r.go, .gro, Rat.divInt r.t r.b⟩
theorem WR.d_way {r : WR} (h : r.t = r.b ∧ r.k = 0) : r.d = ⟨r.nm, r.st, r.go, .way, 0⟩ := if_pos h
theorem WR.d_lea {r : WR} (h : ¬ (r.t = r.b ∧ r.k = 0)) (h2 : r.t ≤ r.b ∧ r.k = 1) : r.d = ⟨r.nm, r.st, r.go, .lea, Rat.divInt (r.b - r.t) r.b⟩ := (if_neg h).trans (if_pos h2)
theorem WR.d_gro {r : WR} (h : ¬ (r.t = r.b ∧ r.k = 0)) (h2 : ¬ (r.t ≤ r.b ∧ r.k = 1)) : r.d = ⟨r.nm, r.st, r.go, .gro, Rat.divInt r.t r.b⟩ := (if_neg h).trans (if_neg h2)
theorem WR.d_nm (r : WR) : r.d.nm = r.nm := by unfold WR.d; split <;> (try split) <;> rfl
theorem WR.d_st (r : WR) : r.d.st = r.st := by unfold WR.d; split <;> (try split) <;> rfl
theorem WR.d_go (r : WR) : r.d.go = r.go := by unfold WR.d; split <;> (try split) <;> rfl
theorem divInt_self' {b : Int} (h : b ≠ 0) : Rat.divInt b b = 1 := by
  rw [show (1 : Rat) = Rat.divInt 1 1 from rfl, Rat.divInt_eq_divInt_iff h (by decide)]
  omega
theorem WR.d_gain {r : WR} (h : GB r.t r.b) : gainOf r.d.kd r.d.x = Rat.divInt r.t r.b := by
  have hb : r.b ≠ 0 := by have := h.b0; omega
  unfold WR.d
  split
  · rename_i e
    rw [e.1, divInt_self' hb]
    rfl
  · split
    · show 1 - Rat.divInt (r.b - r.t) r.b = _
      rw [show (1 : Rat) = Rat.divInt r.b r.b from (divInt_self' hb).symm, Rat.divInt_sub_divInt _ _ hb hb, Rat.divInt_eq_divInt_iff (Int.mul_ne_zero hb hb) hb]
      grind
    · rfl
theorem lt_one {n d : Int} (hd : 0 < d) (h : n < d) : Rat.divInt n d < 1 := by
  rw [show (1 : Rat) = Rat.divInt 1 1 from rfl, lt_div hd (by decide)]
  omega
theorem nn_num {n d : Int} (hd : 0 < d) (h : 0 ≤ n) : 0 ≤ (Rat.divInt n d).num := Rat.num_nonneg.mpr ((divInt_nn n hd).mpr h)
theorem pos_num {n d : Int} (hd : 0 < d) (h : 0 < n) : 0 < (Rat.divInt n d).num := by
  have h1 := nn_num hd (Int.le_of_lt h)
  have h2 : (Rat.divInt n d).num ≠ 0 := fun e => by
    have h3 := Rat.num_divInt_den (Rat.divInt n d)
    rw [e, Rat.zero_divInt] at h3
    have := (Rat.divInt_eq_divInt_iff (show (1 : Int) ≠ 0 by decide) (show d ≠ 0 by omega)).mp (show Rat.divInt 0 1 = Rat.divInt n d from by rw [← h3, Rat.zero_divInt])
    omega
  omega
theorem Sm.of_le {a : Int} {n : Nat} (h : a.natAbs ≤ 2 ^ n) (hn : n < 9000) : Sm a := Nat.lt_of_le_of_lt h (Nat.pow_lt_pow_right (by decide) hn)
theorem WR.d_sm {r : WR} (h : GB r.t r.b) : SmR r.d.x ∧ Bd 200 (gainOf r.d.kd r.d.x) ∧ r.d.kd ≠ .sto := by
  obtain ⟨t0, t1, b0, b1⟩ := h
  have p1 : ((2 : Int) ^ 200) = ((2 ^ 200 : Nat) : Int) := by decide
  refine ⟨?_, ?_, ?_⟩
  · unfold WR.d
    split
    · exact ⟨Nat.two_pow_pos _, sm1⟩
    · split
      · exact (Bd.divInt (n := 200) (by omega) (by omega)).smr (by decide)
      · exact (Bd.divInt (n := 200) (by omega) (by omega)).smr (by decide)
  · rw [WR.d_gain ⟨t0, t1, b0, b1⟩]
    exact Bd.divInt (by omega) (by omega)
  · unfold WR.d
    split
    · nofun
    · split <;> nofun
def RowIs (H : Hp) (v : V) (r : WR) : Prop := ∃ p g, v = .ref p ∧ H p = some (.tup [.str r.st, .str r.go, .ref g, .int r.k]) ∧ H g = some (.tup [.int r.t, .int r.b])
theorem RowIs.mono {H H' : Hp} {v : V} {r : WR} (h : RowIs H v r) (s : Same H H') : RowIs H' v r := let ⟨p, g, e, h1, h2⟩ := h; ⟨p, g, e, s _ _ h1, s _ _ h2⟩
inductive IspLawWay (a : Ad) (vs : List V) (H : Hp) (Q : VK) : Prop
  | mk (v : V) (r : WR) (h1 : vs = [.str r.nm, v]) (h2 : RowIs H v r) (h3 : GB r.t r.b) (h4 : r.st ≠ r.go) (h5 : ∀ p H', H p = none → Same H H' → WayIs a H' (.ref p) r.d → Q (.ref p) H') : IspLawWay a vs H Q
def spLawWay (a : Ad) : Sp := fun vs H Q _ => IspLawWay a vs H Q
theorem ok_law_way (T : TX K mg a) : FnB P w K mg base CX0 "_law_way" 7 ["_law_name", "_law_parts"] (spLawWay a) := by
  refine T.d_law_way.ok sc_law_way (fun vs H Q E h => ?_) (fun f cdv A outer s H vs Q E hr h => ?_)
  · obtain ⟨_, _, rfl, _⟩ := h
    rfl
  · obtain ⟨v, r, rfl, ⟨p, g, rfl, hp, hg⟩, gb, ne, k⟩ := h
    refine ⟨_, (pss_cons (ps_set (i := 2) sc_law_way.nd rfl (Or.inl rfl) (pe_ix ix_tup (pv 1) pe_int (fun _ _ => rfl)))
      (pss_cut (ps_if (PW.pt (pw_and (pt_cmpR op_eq (pe_ix ix_tup (pv 2) pe_int (fun _ _ => rfl)) (pe_ix ix_tup (pv 2) pe_int (fun _ _ => rfl)) (nomark _)) (pw_and1 (pt_cmpR op_eq (pe_ix ix_tup (pv 1) pe_int (fun _ _ => rfl)) pe_int (nomark _))))) (pss_one (ps_ret (pe_mk (mk_Way2 T) hr T.mg_Way pass0 (pa_cons (pv 0) (pa_cons (pe_ix ix_tup (pv 1) pe_int (fun _ _ => rfl)) (pa_cons (pe_ix ix_tup (pv 1) pe_int (fun _ _ => rfl)) pa_nil)))))) pss_nil)
      (pss_cut (ps_if (PW.pt (pw_and (pt_cmpR op_le (pe_ix ix_tup (pv 2) pe_int (fun _ _ => rfl)) (pe_ix ix_tup (pv 2) pe_int (fun _ _ => rfl)) (nomark _)) (pw_and1 (pt_cmpR op_eq (pe_ix ix_tup (pv 1) pe_int (fun _ _ => rfl)) pe_int (nomark _))))) (pss_one (ps_ret (pe_mk (mk_Leaking2 T) hr T.mg_Leaking pass0 (pa_cons (pv 0) (pa_cons (pe_ix ix_tup (pv 1) pe_int (fun _ _ => rfl)) (pa_cons (pe_ix ix_tup (pv 1) pe_int (fun _ _ => rfl)) (pa_cons (pe_mkfr (mk2 T) hr T.mg_Fraction pass0 (pa_cons (pe_op op_sub (pe_ix ix_tup (pv 2) pe_int (fun _ _ => rfl)) (pe_ix ix_tup (pv 2) pe_int (fun _ _ => rfl))) (pa_cons (pe_ix ix_tup (pv 2) pe_int (fun _ _ => rfl)) pa_nil))) pa_nil))))))) pss_nil)
      (pss_one (ps_ret (pe_mk (mk_Growing2 T) hr T.mg_Growing pass0 (pa_cons (pv 0) (pa_cons (pe_ix ix_tup (pv 1) pe_int (fun _ _ => rfl)) (pa_cons (pe_ix ix_tup (pv 1) pe_int (fun _ _ => rfl)) (pa_cons (pe_mkfr (mk2 T) hr T.mg_Fraction pass0 (pa_cons (pe_ix ix_tup (pv 2) pe_int (fun _ _ => rfl)) (pa_cons (pe_ix ix_tup (pv 2) pe_int (fun _ _ => rfl)) pa_nil))) pa_nil)))))))))), ?_⟩
    try dsimp only [cxOf, Cx.nox, Cx.wish]
    have SP : SqT K H p _ := SqT.of hp
    have SG : SqT K H g _ := SqT.of hg
    have a0 : atI [V.str r.st, .str r.go, .ref g, .int r.k] 0 = some (.str r.st) := rfl
    have a1 : atI [V.str r.st, .str r.go, .ref g, .int r.k] 1 = some (.str r.go) := rfl
    have a2 : atI [V.str r.st, .str r.go, .ref g, .int r.k] 2 = some (.ref g) := rfl
    have a3 : atI [V.str r.st, .str r.go, .ref g, .int r.k] 3 = some (.int r.k) := rfl
    have g0 : atI [V.int r.t, .int r.b] 0 = some (.int r.t) := rfl
    have g1 : atI [V.int r.t, .int r.b] 1 = some (.int r.b) := rfl
    obtain ⟨t0, t1, b0, b1⟩ := id gb
    have ed : ∀ q H', WayIs a H' (.ref q) r.d → WayIs a H' (.ref q) r.d := fun _ _ h => h
    refine ⟨_, rfl, p, _, _, _, rfl, rfl, SP, a2, ?_⟩
    refine ⟨fun σ' H' => σ' = [some (.str r.nm), some (.ref p), some (.ref g)] ∧ H' = H ∧ ¬ (r.t = r.b ∧ r.k = 0), ?_, ?_⟩
    · walk_at "rd"
      refine ifV (fun e1 => ?_) (fun e1 => ?_)
      · walk_at "rd"
        refine ifV (fun e2 => ?_) (fun e2 => ?_)
        · refine ⟨_, rfl, _, rfl, p, _, _, _, rfl, rfl, SP, a0, _, rfl, p, _, _, _, rfl, rfl, SP, a1, ?_⟩
          refine mkW (x := 0) T ne (.inl rfl) fun q H' vc' q' nq ss W co => k q H' nq ss (by rw [WR.d_way ⟨e1, e2⟩]; exact ⟨q, _, _, q', rfl, W, by nofun⟩)
        · exact ⟨rfl, rfl, fun z => e2 z.2⟩
      · exact ⟨rfl, rfl, fun z => e1 z.1⟩
    rintro σ' H' ⟨rfl, rfl, n1⟩
    refine ⟨fun σ' H'' => σ' = [some (.str r.nm), some (.ref p), some (.ref g)] ∧ H'' = H' ∧ ¬ (r.t ≤ r.b ∧ r.k = 1), ?_, ?_⟩
    · walk_at "rd"
      refine ifB (fun e1 => ?_) (fun e1 => ?_)
      · walk_at "rd"
        refine ifV (fun e2 => ?_) (fun e2 => ?_)
        · refine ⟨_, rfl, _, rfl, p, _, _, _, rfl, rfl, SP, a0, _, rfl, p, _, _, _, rfl, rfl, SP, a1, ?_⟩
          walk_at "rd"
          refine ⟨by omega, (Sm.of_le (n := 200) (by omega) (by decide)), fun q H1 nq s1 f1 => ?_⟩
          refine mkL T ne f1 ⟨nn_num (by omega) (by omega), lt_one (by omega) (by omega), (Bd.divInt (n := 200) (by omega) (by omega)).smr (by decide)⟩ (.inl rfl) fun q2 H2 vc' q' nq2 ss W co => k q2 H2 (s1.free nq2) (s1.trans ss) (by rw [WR.d_lea n1 ⟨e1, e2⟩]; exact ⟨q2, _, _, q', rfl, W, by nofun⟩)
        · exact ⟨rfl, rfl, fun z => e2 z.2⟩
      · exact ⟨rfl, rfl, fun z => e1 z.1⟩
    rintro σ' H'' ⟨rfl, rfl, n2⟩
    refine ⟨_, rfl, _, rfl, p, _, _, _, rfl, rfl, SP, a0, _, rfl, p, _, _, _, rfl, rfl, SP, a1, ?_⟩
    walk_at "rd"
    refine ⟨by omega, (Sm.of_le (n := 200) (by omega) (by decide)), fun q H1 nq s1 f1 => ?_⟩
    refine mkG T ne f1 (pos_num (by omega) (by omega)) (.inl rfl) fun q2 H2 vc' q' nq2 ss W co => k q2 H2 (s1.free nq2) (s1.trans ss) (by rw [WR.d_gro n1 n2]; exact ⟨q2, _, _, q', rfl, W, by nofun⟩)
/-- the ring's factor -/
structure FB (t b : Int) : Prop where
  t0 : 1 ≤ t
  t1 : t ≤ 2 ^ 70
  b0 : 1 ≤ b
  b1 : b ≤ 2 ^ 70
inductive IspFac (vs : List V) (H : Hp) (Q : VK) : Prop
  | mk (c : Int) (h1 : vs = [.int c]) (h2 : ∀ t b p, FB t b → H p = none → Q (.ref p) (upd H p (.tup [.int t, .int b]))) : IspFac vs H Q
def spFac : Sp := fun vs H Q _ => IspFac vs H Q
theorem ok_law_factor (T : TX K mg a) : FnB P w K mg base CX0 "_law_factor" 1 ["_law_cell"] spFac := by
  refine T.d_law_factor.ok sc_law_factor (fun vs H Q E h => ?_) (fun f cdv A outer s H vs Q E hr h => ?_)
  · obtain ⟨_, rfl, _⟩ := h
    rfl
  · obtain ⟨c, rfl, k⟩ := h
    refine ⟨_, (pss_cons (ps_if (pt_cmpR op_eq (pe_op op_mod (pv 0) pe_int) pe_int (nomark _)) (pss_one (ps_ret (pe_tup (pa_cons pe_int (pa_cons pe_int pa_nil))))) pss_nil)
      (pss_cons (ps_if (pt_cmpR op_eq (pe_op op_mod (pv 0) pe_int) pe_int (nomark _)) (pss_one (ps_ret (pe_tup (pa_cons (pe_op op_add pe_int (pe_op op_mod (pe_op op_fdiv (pv 0) pe_int) pe_int)) (pa_cons (pe_op op_add pe_int (pe_op op_mod (pe_op op_fdiv (pv 0) pe_int) pe_int)) pa_nil))))) pss_nil)
      (pss_cons (ps_if (pt_cmpR op_eq (pe_op op_mod (pv 0) pe_int) pe_int (nomark _)) (pss_one (ps_ret (pe_tup (pa_cons (pe_op op_add pe_int (pe_op op_mod (pe_op op_fdiv (pv 0) pe_int) pe_int)) (pa_cons (pe_op op_add pe_int (pe_op op_mod (pe_op op_fdiv (pv 0) pe_int) pe_int)) pa_nil))))) pss_nil)
      (pss_one (ps_ret (pe_tup (pa_cons (pe_op op_add (pe_op op_pow pe_int pe_int) pe_int) (pa_cons (pe_op op_pow pe_int pe_int) pa_nil)))))))), ?_⟩
    try dsimp only [cxOf, Cx.nox, Cx.wish]
    have e70 : (2 : Int) ^ 70 = 1180591620717411303424 := by decide
    refine ⟨_, rfl, _, _, rfl, rfl, by show (0 : Int) < 4; decide, rfl, _, rfl, ifV (fun h1 => ?_) (fun h1 => ?_)⟩
    · exact ⟨by show 2 ≤ sizeLine; decide, fun p np => k 1 1 p ⟨by decide, by decide, by decide, by decide⟩ np⟩
    refine ⟨_, rfl, _, _, rfl, rfl, by show (0 : Int) < 4; decide, rfl, _, rfl, ifV (fun h2 => ?_) (fun h2 => ?_)⟩
    · obtain ⟨a1, a2⟩ := emod_in (c / 4) (show (0 : Int) < 5 by decide)
      obtain ⟨b1, b2⟩ := emod_in (c / 20) (show (0 : Int) < 3 by decide)
      walk_at "rd"
      exact ⟨by show 2 ≤ sizeLine; decide, fun p np => k (1 + c / 4 % 5) (7 + c / 20 % 3) p ⟨by omega, by rw [e70]; omega, by omega, by rw [e70]; omega⟩ np⟩
    refine ⟨_, rfl, _, _, rfl, rfl, by show (0 : Int) < 4; decide, rfl, _, rfl, ifV (fun h3 => ?_) (fun h3 => ?_)⟩
    · obtain ⟨a1, a2⟩ := emod_in (c / 4) (show (0 : Int) < 5 by decide)
      obtain ⟨b1, b2⟩ := emod_in (c / 20) (show (0 : Int) < 7 by decide)
      walk_at "rd"
      exact ⟨by show 2 ≤ sizeLine; decide, fun p np => k (8 + c / 4 % 5) (1 + c / 20 % 7) p ⟨by omega, by rw [e70]; omega, by omega, by rw [e70]; omega⟩ np⟩
    · exact ⟨_, _, rfl, rfl, ⟨by decide, by decide, by decide⟩, _, _, rfl, rfl, _, _, rfl, rfl, ⟨by decide, by decide, by decide⟩, by show 2 ≤ sizeLine; decide, fun p np => k (10 ^ (20 : Int).toNat + 1) (10 ^ (20 : Int).toNat) p ⟨by decide, by decide, by decide, by decide⟩ np⟩
theorem val_at {κ : Type} [DecidableEq κ] : ∀ {kvs : List (κ × V)} {i : Nat} {kv : κ × V}, (kvs.map (·.1)).Nodup → kvs[i]? = some kv → valV kvs kv.1 = some kv.2
  | [], _, _, _, e => by simp at e
  | p :: r, 0, kv, _, e => by
    simp at e
    subst e
    exact valV_pos rfl
  | p :: r, i + 1, kv, nd, e => by
    have e : r[i]? = some kv := by simpa using e
    obtain ⟨h1, h2⟩ := List.nodup_cons.mp (show (p.1 :: r.map (·.1)).Nodup from nd)
    rw [valV_neg fun z => h1 (by rw [z]; exact List.mem_map.mpr ⟨kv, List.mem_of_getElem? e, rfl⟩)]
    exact val_at h2 e
theorem keys_nd {kvs : List (Key × V)} {rs : List WR} (hk : kvs.map (·.1) = rs.map (fun r => Sum.inr r.nm)) (nd : (rs.map (·.nm)).Nodup) : (kvs.map (·.1)).Nodup := by
  rw [hk, show (fun r : WR => (Sum.inr r.nm : Key)) = (fun n => (Sum.inr n : Key)) ∘ (fun r : WR => r.nm) from rfl, ← List.map_map]
  exact nd.map _ (fun u v h e => h (Sum.inr.inj e))
def RowsAt (H : Hp) (d : Addr) (rs : List WR) : Prop := ∃ kvs, H d = some (.dK kvs) ∧ kvs.map (·.1) = rs.map (fun r => Sum.inr r.nm) ∧ RowAt RowIs H (kvs.map (·.2)) rs
theorem RowsAt.mono {H H' : Hp} {d : Addr} {rs : List WR} (h : RowsAt H d rs) (s : Same H H') : RowsAt H' d rs := let ⟨kvs, h1, h2, h3⟩ := h; ⟨kvs, s _ _ h1, h2, h3.mono fun v x z => z.mono s⟩
structure RGood (sp : List Str) (r : WR) : Prop where
  gb : GB r.t r.b
  ne : r.st ≠ r.go
  i1 : r.st ∈ sp
  i2 : r.go ∈ sp
structure RsOk (sp : List Str) (rs : List WR) : Prop where
  nd : (rs.map (·.nm)).Nodup
  len : rs.length ≤ 24
  all : ∀ r ∈ rs, RGood sp r
theorem RowIs.put {H : Hp} {v : V} {r : WR} {d : Addr} {o o' : HO} (h : RowIs H v r) (hd : H d = some o) (ho : ∀ xs, o ≠ .tup xs) : RowIs (upd H d o') v r := by
  obtain ⟨p, g, e, h1, h2⟩ := h
  refine ⟨p, g, e, ?_, ?_⟩
  · rw [upd_ne (ne_of h1 hd (ho _).symm)]
    exact h1
  · rw [upd_ne (ne_of h2 hd (ho _).symm)]
    exact h2
theorem at_str {sp : List Str} {j : Nat} {x : Str} (h : sp[j]? = some x) : atI (sp.map V.str) (j : Int) = some (.str x) := atI_nat (by rw [List.getElem?_map, h]; rfl)
theorem ne_idx {sp : List Str} {i j : Nat} {x y : Str} (nd : sp.Nodup) (hi : sp[i]? = some x) (hj : sp[j]? = some y) (h : i ≠ j) : x ≠ y := fun e => by
  subst e
  exact h ((List.getElem?_inj (List.getElem?_eq_some_iff.mp hi).1 nd).mp (hi.trans hj.symm))
/-- the places' numbers -/
structure Pot30 (pl : List Int) (n : Nat) : Prop where
  len : pl.length = n
  ok : ∀ x ∈ pl, 1 ≤ x ∧ x ≤ 2 ^ 60
/-- the k-th way -/
def Row30 (sp : List Str) (pl : List Int) (n : Nat) (F : Int × Int) (up : Bool) (k : Nat) (r : WR) : Prop := ∃ (j1 j2 : Nat) (x y u v : Int), sp[j1]? = some r.st ∧ sp[j2]? = some r.go ∧ pl[j1]? = some x ∧ pl[j2]? = some y ∧ (k < n → j1 = k ∧ j2 = (k + 1) % n) ∧ (1 ≤ u ∧ 1 ≤ v) ∧ (k = n - 1 → u = F.1 ∧ v = F.2) ∧ (k ≠ n - 1 → u ≤ v) ∧ (k < n - 1 → u = v) ∧
  r.t = (if up = true then y * v else x * u) ∧ r.b = (if up = true then x * u else y * v)
def Two (x : Str) : Prop := ∃ s t : Nat, ∀ c ∈ x.cps.toList, c = s ∨ c = t
inductive IspWays30 (K : PySem.W.Frag) (vs : List V) (H : Hp) (Q : VK) : Prop
  | mk (l ls pf : Addr) (ns : List Int) (sp : List Str) (n : Nat) (F : Int × Int) (up : Bool) (h1 : vs = [.ref l, .ref ls, .ref pf, .bl up]) (h2 : SqL K H l (ns.map V.int)) (h3 : SqL K H ls (sp.map V.str)) (h4 : Names sp n) (h5 : 2 ≤ n) (h6 : n ≤ 7) (h7 : H pf = some (.tup [.int F.1, .int F.2])) (h8 : FB F.1 F.2) (h9 : ∀ d H' rs pl, H d = none → Same H H' → RowsAt H' d rs → RsOk sp rs → n ≤ rs.length → rs.length ≤ 15 → (∀ r ∈ rs, Two r.nm ∧ r.nm.length ≤ 200) → Pot30 pl n → (∀ k r, rs[k]? = some r → Row30 sp pl n F up k r) → Q (.ref d) H') : IspWays30 K vs H Q
def spWays30 (K : PySem.W.Frag) : Sp := fun vs H Q _ => IspWays30 K vs H Q
theorem mul_pw {x u : Int} (x0 : 1 ≤ x) (x1 : x ≤ 2 ^ 60) (u0 : 1 ≤ u) (u1 : u ≤ 2 ^ 70) : 1 ≤ x * u ∧ x * u ≤ 2 ^ 200 := by
  refine ⟨Int.mul_pos (by omega) (by omega), Int.le_trans (Int.mul_le_mul x1 u1 (by omega) (by decide)) (by decide)⟩
theorem sm70 {x : Int} (h0 : 0 ≤ x) (h : x ≤ 2 ^ 70) : Sm x := Sm.of_le (n := 70) (by omega) (by decide)
theorem ok_law_ways (T : TX K mg a) : FnB P w K mg base CX0 "_law_ways" 2 ["_law_script", "_law_spots", "_law_factor_here", "_law_upended"] (spWays30 K) := by
  refine T.d_law_ways.ok sc_law_ways (fun vs H Q E h => ?_) (fun f cdv A outer s H vs Q E hr h => ?_)
  · obtain ⟨_, _, _, _, _, _, _, _, rfl, _⟩ := h
    rfl
  · obtain ⟨l, ls, pf, ns, sp, n, F, up, rfl, hS, hL, hN, n2, n7, hF, fb, k⟩ := h
    refine ⟨_, (pss_cons (ps_set (i := 4) sc_law_ways.nd rfl (Or.inl rfl) (pe_callB call_lenK (by rfl) T.z_len PySem.boot_len (pa_cons (pv 1) pa_nil)))
      (pss_cons (ps_set (i := 5) sc_law_ways.nd rfl (Or.inl rfl) (pe_fn (ok_law_names T) hr pass0 (pa_cons (pe_fn (ok_law_cell_at T) hr pass0 (pa_cons (pv 0) (pa_cons pe_int pa_nil))) (pa_cons (pe_op op_add (pv 4) (pe_op op_mod (pe_fn (ok_law_cell_at T) hr pass0 (pa_cons (pv 0) (pa_cons pe_int pa_nil))) pe_int)) pa_nil))))
      (pss_cons (ps_set (i := 6) sc_law_ways.nd rfl (Or.inr rfl) (pe_fn (ok_law_pots T) hr pass0 (pa_cons (pe_fn (ok_law_cell_at T) hr pass0 (pa_cons (pv 0) (pa_cons pe_int pa_nil))) (pa_cons (pv 4) pa_nil))))
      (pss_cut (ps_if (pt_cmpR op_eq (pe_op op_mod (pe_fn (ok_law_cell_at T) hr pass0 (pa_cons (pv 0) (pa_cons pe_int pa_nil))) pe_int) pe_int (nomark _)) (pss_one (ps_set (i := 6) sc_law_ways.nd rfl (Or.inr rfl) (pe_compG (xs := ["_law_k"]) (rest := ["_law_pots_here", "_law_script"]) rfl (pi_range1 rfl T.z_range (pa_cons (pv 4) pa_nil))
      (fun pins fp C' s' H' => (pg_name (i := 0) (show (["_law_k", "_law_pots_here", "_law_script"] : List Str).Nodup by decide +kernel) rfl (Or.inl rfl))) (fun pins fp C' s' H' => pts_nil)
      (fun pins fp C' s' H' => (pe_op op_add (pe_op op_add (pe_op op_mulB (pe_ix (r := rIxL K) ix_list (pv 1) (pv 0) (fun _ _ => rfl)) (pe_op op_pow pe_int pe_int)) (pe_op op_mod (pe_op op_fdiv (pe_fn (ok_law_cell_at T) hr pass0 (pa_cons (pv 2) (pa_cons pe_int pa_nil))) pe_int) pe_int)) (pv 0)))
      (Clos.many (ys := ["_law_script", "_law_pots_here"]) rfl ⟨rfl, rfl, True.intro⟩ rfl (by decide +kernel)) (Reads.many (ys := ["_law_pots_here", "_law_script"]) (js := [6, 0]) ⟨⟨rfl, rfl, rfl⟩, ⟨rfl, rfl, rfl⟩, True.intro⟩)))) pss_nil)
      (pss_cons (ps_set (i := 7) sc_law_ways.nd rfl (Or.inl rfl) pe_dnewK)
      (pss_cons (ps_for PassesOwn.never rfl (pi_range1 rfl T.z_range (pa_cons (pe_callB call_lenK (by rfl) T.z_len PySem.boot_len (pa_cons (pv 5) pa_nil)) pa_nil)) (pg_name (i := 8) sc_law_ways.nd rfl (Or.inl rfl)) (pss_cons (ps_set (i := 9) sc_law_ways.nd rfl (Or.inl rfl) (pe_fn (ok_law_cell_at T) hr pass0 (pa_cons (pv 0) (pa_cons (pe_op op_add pe_int (pe_op op_mulB pe_int (pv 8))) pa_nil))))
      (pss_cons (ps_set (i := 10) sc_law_ways.nd rfl (Or.inl rfl) (pe_op op_mod (pv 8) (pv 4)))
      (pss_cons (ps_set (i := 11) sc_law_ways.nd rfl (Or.inl rfl) (pe_op op_mod (pe_op op_add (pv 8) pe_int) (pv 4)))
      (pss_cons (ps_set (i := 12) sc_law_ways.nd rfl (Or.inl rfl) (pe_tup (pa_cons pe_int (pa_cons pe_int pa_nil))))
      (pss_cut (ps_if (pt_cmpR op_ge (pv 8) (pv 4) (nomark _)) (pss_cons (ps_set (i := 10) sc_law_ways.nd rfl (Or.inl rfl) (pe_op op_mod (pv 9) (pv 4)))
      (pss_cons (ps_set (i := 11) sc_law_ways.nd rfl (Or.inl rfl) (pe_op op_mod (pe_op op_add (pe_op op_add (pv 10) pe_int) (pe_op op_mod (pe_op op_fdivB (pv 9) (pv 4)) (pe_op op_sub (pv 4) pe_int))) (pv 4)))
      (pss_cons (ps_set (i := 13) sc_law_ways.nd rfl (Or.inl rfl) (pe_fn (ok_law_cell_at T) hr pass0 (pa_cons (pv 0) (pa_cons (pe_op op_add pe_int (pe_op op_mulB pe_int (pv 8))) pa_nil))))
      (pss_one (ps_set (i := 12) sc_law_ways.nd rfl (Or.inl rfl) (pe_tup (pa_cons (pe_op op_add pe_int (pe_op op_mod (pv 13) pe_int)) (pa_cons (pe_op op_add (pe_op op_add pe_int (pe_op op_mod (pv 13) pe_int)) (pe_op op_mod (pe_op op_fdiv (pv 13) pe_int) pe_int)) pa_nil)))))))) pss_nil)
      (pss_cut (ps_if (pt_cmpR op_eq (pv 8) (pe_op op_sub (pv 4) pe_int) (nomark _)) (pss_one (ps_set (i := 12) sc_law_ways.nd rfl (Or.inl rfl) (pv 2))) pss_nil)
      (pss_cons (ps_set (i := 14) sc_law_ways.nd rfl (Or.inl rfl) (pe_tup (pa_cons (pe_op op_mulB (pe_ix ix_list (pv 6) (pv 10) (fun _ _ => rfl)) (pe_ix ix_tup (pv 12) pe_int (fun _ _ => rfl))) (pa_cons (pe_op op_mulB (pe_ix ix_list (pv 6) (pv 11) (fun _ _ => rfl)) (pe_ix ix_tup (pv 12) pe_int (fun _ _ => rfl))) pa_nil))))
      (pss_cut (ps_if (pt_val (pv 3)) (pss_one (ps_set (i := 14) sc_law_ways.nd rfl (Or.inl rfl) (pe_tup (pa_cons (pe_ix ix_tup (pv 14) pe_int (fun _ _ => rfl)) (pa_cons (pe_ix ix_tup (pv 14) pe_int (fun _ _ => rfl)) pa_nil))))) pss_nil)
      (pss_one (ps_dput (hu_of hr) (pv 7) (pe_ix ix_list (pv 5) (pv 8) (fun _ _ => rfl)) (pe_tup (pa_cons (pe_ix ix_list (pv 1) (pv 10) (fun _ _ => rfl)) (pa_cons (pe_ix ix_list (pv 1) (pv 11) (fun _ _ => rfl)) (pa_cons (pv 14) (pa_cons (pe_op op_mod (pe_op op_fdiv (pv 9) pe_int) pe_int) pa_nil))))) rfl)))))))))))
      (pss_one (ps_ret (pv 7))))))))), ?_⟩
    try dsimp only [cxOf, Cx.nox, Cx.wish]
    refine ⟨_, rfl, ls, _, rfl, .inl hL, ?_⟩
    rw [List.length_map, hN.len]
    refine ⟨_, rfl, l, ns, 2, rfl, hS, by decide, by decide, fun c2 => ?_⟩
    refine ⟨_, rfl, _, rfl, l, ns, 4, rfl, hS, by decide, by decide, fun c4 => ?_⟩
    obtain ⟨m0, m1⟩ := emod_in c4 (show (0 : Int) < 9 by decide)
    obtain ⟨m', hm'⟩ := Int.eq_ofNat_of_zero_le m0
    obtain ⟨m, hm⟩ : ∃ m : Nat, n + m' = m := ⟨_, rfl⟩
    refine ⟨_, _, rfl, rfl, by show (0 : Int) < 9; decide, _, _, rfl, rfl, c2, m, by rw [hm', ← hm]; rfl, by omega, fun lb H1 lbs nlb s1 hlb hM => ?_⟩
    refine ⟨_, rfl, l, ns, 3, rfl, s1.seq hS, by decide, by decide, fun c3 => ?_⟩
    refine ⟨_, rfl, c3, n, rfl, by omega, fun lp0 H2 pl0 nlp0 s2 hlp0 hP0 => ?_⟩
    have s12 := s1.trans s2
    have hlb2 := s2 _ _ hlb
    refine ⟨fun σ' H' => ∃ lp pl, σ' = [some (.ref l), some (.ref ls), some (.ref pf), some (.bl up), some (.int n), some (.ref lb), some (.ref lp), none, none, none, none, none, none, none, none] ∧ Same H2 H' ∧ H' lp = some (.lst (pl.map V.int)) ∧ Pot30 pl n, ?_, ?_⟩
    · refine ⟨_, rfl, l, ns, 3, rfl, s12.seq hS, by decide, by decide, fun c3 => ?_⟩
      refine ⟨_, _, rfl, rfl, by show (0 : Int) < 4; decide, rfl, _, rfl, ifV (fun e1 => ?_) (fun e1 => ?_)⟩
      · refine ⟨_, rfl, (n : Int), rfl, by omega, by omega, fun lp nlp => ?_⟩
        refine compG_range (fun i H' => i ≤ n ∧ Same H2 H' ∧ ∃ pl : List Int, H' lp = some (.lst (pl.map V.int)) ∧ pl.length = i ∧ ∀ x ∈ pl, 1 ≤ x ∧ x ≤ 2 ^ 60) ⟨Nat.zero_le _, same_upd nlp, [], upd_same, rfl, fun x hx => absurd hx List.not_mem_nil⟩ ?_ ?_
        · rintro i H' hi ⟨_, s', pl, h', lpl, ok⟩
          have hi' : i < n := by simpa using hi
          obtain ⟨x, ex⟩ : ∃ x, pl0[i]? = some x := ⟨_, List.getElem?_eq_getElem (by rw [hP0.len]; exact hi')⟩
          obtain ⟨x0, x1⟩ := hP0.ok x (List.mem_of_getElem? ex)
          refine g1 ⟨⟨[_], rfl, rfl⟩, yes ?_⟩
          refine ⟨_, rfl, _, rfl, lp0, _, _, .int x, rfl, rfl, SqL.of (s' _ _ hlp0), by rw [Int.zero_add]; exact atI_nat (by rw [List.getElem?_map, ex]; rfl), ?_⟩
          refine ⟨_, _, rfl, rfl, ⟨by decide, by decide, by decide⟩, _, _, rfl, rfl, ⟨Sm.of_le (n := 10) (by omega) (by decide), Sm.of_le (n := 70) (by decide) (by decide)⟩, _, rfl, l, ns, 3, rfl, s'.seq (s12.seq hS), by decide, by decide, fun cq => ?_⟩
          obtain ⟨b0, b1⟩ := emod_in (cq / 4) (show (0 : Int) < 1000 by decide)
          have e15 : (10 : Int) ^ (15 : Int).toNat = 1000000000000000 := by decide
          have e60 : (2 : Int) ^ 60 = 1152921504606846976 := by decide
          refine ⟨_, _, rfl, rfl, ⟨by decide, by decide⟩, _, _, rfl, rfl, by show (0 : Int) < 1000; decide, _, _, rfl, rfl, _, rfl, _, _, rfl, rfl, ?_⟩
          refine ⟨_, h', small1000 (by rw [List.length_map]; omega), nextP (by simpa using hi) ⟨hi', same_put nlp s', pl ++ [x * 10 ^ (15 : Int).toNat + cq / 4 % 1000 + (0 + (i : Int))], ?_, by rw [List.length_append, lpl]; rfl, fun y hy => ?_⟩⟩
          · rw [upd_same, List.map_append]
            rfl
          · rcases List.mem_append.mp hy with hy | hy
            · exact ok y hy
            · rw [List.mem_singleton.mp hy, e15, e60]
              omega
        · rintro H' ⟨_, s', pl, h', lpl, ok⟩
          exact ⟨lp, pl, rfl, s', h', ⟨by simpa using lpl, ok⟩⟩
      · exact ⟨lp0, pl0, rfl, Same.refl _, hlp0, hP0.len, fun x hx => ⟨(hP0.ok x hx).1, Int.le_trans (hP0.ok x hx).2 (by decide)⟩⟩
    rintro σ' H3 ⟨lp, pl, rfl, s3', hlp, hP⟩
    have s3 := s12.trans s3'
    have hlb3 := s3' _ _ hlb2
    clear s3' hlb2 hlb s12 s2 s1 hlp0 nlp0 hP0
    intro d nd0
    have s4 := same_upd (o := .dK []) nd0
    have nd : H d = none := s3.free nd0
    have hd4 : upd H3 d (.dK []) d = some (.dK []) := upd_same
    have hlb4 := s4 _ _ hlb3
    have hlp4 := s4 _ _ hlp
    have s14 := s3.trans s4
    generalize upd H3 d (.dK []) = H4 at s14 hd4 hlb4 hlp4 ⊢
    clear s4 nd0 hlb3 hlp s3
    refine ⟨_, rfl, lb, _, rfl, .inl (SqL.of hlb4), _, rfl, by rw [List.length_map]; omega, by rw [List.length_map]; have := hM.len; omega, ?_⟩
    rw [List.length_map, hM.len]
    have np : (0 : Int) < n := by omega
    have at_int : ∀ {j : Nat} {x : Int}, pl[j]? = some x → atI (pl.map V.int) (j : Int) = some (.int x) := fun {j x} h => atI_nat (by rw [List.getElem?_map, h]; rfl)
    refine for_range (fun i σ H5 => i ≤ m ∧ ∃ z8 z9 z10 z11 z12 z13 z14 rs, σ = [some (.ref l), some (.ref ls), some (.ref pf), some (.bl up), some (.int n), some (.ref lb), some (.ref lp), some (.ref d), z8, z9, z10, z11, z12, z13, z14] ∧ Same H H5 ∧ H5 lp = some (.lst (pl.map V.int)) ∧ H5 lb = some (.lst (lbs.map V.str)) ∧ RowsAt H5 d rs ∧ rs.length = i ∧ rs.map (·.nm) = lbs.take i ∧ (∀ r ∈ rs, RGood sp r) ∧ ∀ k r, rs[k]? = some r → Row30 sp pl n F up k r)
      ⟨Nat.zero_le _, _, _, _, _, _, _, _, [], rfl, s14, hlp4, hlb4, ⟨[], hd4, rfl, RowAt.nil⟩, rfl, rfl, nofun, fun k r e => by cases e⟩ ?_ ?_
    · rintro i σ H5 hi ⟨_, z8, z9, z10, z11, z12, z13, z14, rs, rfl, s5, hlp5, hlb5, hrs, lrs, ers, good, row⟩
      have hi' : i < m := by simpa using hi
      rw [Int.zero_add]
      have mul : CMulB 2 (i : Int) := ⟨Sm.of_le (n := 10) (by decide) (by decide), Sm.of_le (n := 10) (by omega) (by decide)⟩
      refine ⟨_, rfl, _, rfl, _, _, rfl, rfl, mul, _, _, rfl, rfl, l, ns, _, rfl, s5.seq hS, by omega, by omega, fun c => ?_⟩
      refine ⟨_, rfl, _, rfl, _, _, rfl, rfl, np, ?_⟩
      refine ⟨_, rfl, _, _, rfl, rfl, _, rfl, _, _, rfl, rfl, np, ?_⟩
      refine ⟨by show 2 ≤ sizeLine; decide, fun pb npb => ?_⟩
      have s6' := same_upd (o := .tup [.int 1, .int 1]) npb
      have hpb : upd H5 pb (.tup [.int 1, .int 1]) pb = some (.tup [.int 1, .int 1]) := upd_same
      generalize upd H5 pb (.tup [.int 1, .int 1]) = H6 at s6' hpb ⊢
      have s6 := s5.trans s6'
      refine ⟨fun σ' H' => ∃ (j1 j2 : Nat) (u v : Int) (pb : Addr) (z13 : Option V), σ' = [some (.ref l), some (.ref ls), some (.ref pf), some (.bl up), some (.int n), some (.ref lb), some (.ref lp), some (.ref d), some (.int (i : Int)), some (.int c), some (.int j1), some (.int j2), some (.ref pb), z13, z14] ∧ Same H5 H' ∧ H' pb = some (.tup [.int u, .int v]) ∧ j1 < n ∧ j2 < n ∧ j1 ≠ j2 ∧ (i < n → j1 = i ∧ j2 = (i + 1) % n ∧ u = v) ∧ (1 ≤ u ∧ u ≤ v ∧ v ≤ 7), ?_, ?_⟩
      · refine ⟨_, rfl, _, rfl, _, _, rfl, rfl, _, rfl, ifB (fun hge => ?_) (fun hlt => ?_)⟩
        · obtain ⟨x0, x1⟩ := emod_in c np
          obtain ⟨u, hu⟩ := Int.eq_ofNat_of_zero_le x0
          refine ⟨_, rfl, _, rfl, _, _, rfl, rfl, np, ?_⟩
          refine ⟨_, rfl, _, _, rfl, rfl, _, rfl, _, rfl, _, _, rfl, rfl, ⟨by omega, Sm.of_le (n := 10) (by omega) (by decide)⟩, _, rfl, _, _, rfl, rfl, _, _, rfl, rfl, by show (0 : Int) < (n : Int) - 1; omega, _, _, rfl, rfl, _, rfl, _, _, rfl, rfl, np, ?_⟩
          refine ⟨_, rfl, _, rfl, _, _, rfl, rfl, mul, _, _, rfl, rfl, l, ns, _, rfl, s6.seq hS, by omega, by omega, fun cm => ?_⟩
          obtain ⟨a1, a2⟩ := emod_in cm (show (0 : Int) < 5 by decide)
          obtain ⟨b1, b2⟩ := emod_in (cm / 5) (show (0 : Int) < 3 by decide)
          obtain ⟨y0, y1⟩ := emod_in (c.fdiv n) (show (0 : Int) < (n : Int) - 1 by omega)
          obtain ⟨v, hv⟩ := Int.eq_ofNat_of_zero_le y0
          obtain ⟨w0, w1⟩ := emod_in (c % n + 1 + c.fdiv n % ((n : Int) - 1)) np
          obtain ⟨t, ht⟩ := Int.eq_ofNat_of_zero_le w0
          refine ⟨_, rfl, _, _, rfl, rfl, by show (0 : Int) < 5; decide, _, _, rfl, rfl, _, rfl, _, _, rfl, rfl, by show (0 : Int) < 5; decide, _, _, rfl, rfl, _, rfl, _, _, rfl, rfl, ⟨by decide, by decide⟩, _, _, rfl, rfl, by show (0 : Int) < 3; decide, _, _, rfl, rfl, by show 2 ≤ sizeLine; decide, fun pb2 npb2 => ?_⟩
          refine ⟨u, t, 1 + cm % 5, 1 + cm % 5 + cm / 5 % 3, pb2, some (.int cm), ?_, s6'.trans (same_upd npb2), upd_same, by omega, by omega, ?_, fun z => by omega, by omega⟩
          · rw [← hu, ← ht]
            rfl
          · intro e
            subst e
            rw [hu, hv] at ht
            have h1 : ((u : Int) + 1 + v) % n = u := by rw [ht]
            by_cases hb : (u : Int) + 1 + v < n
            · rw [Int.emod_eq_of_lt (by omega) hb] at h1
              omega
            · have : ((u : Int) + 1 + v) % n = (u : Int) + 1 + v - n := by
                rw [← Int.sub_emod_right, Int.emod_eq_of_lt (by omega) (by omega)]
              omega
        · have hlt : i < n := by omega
          refine ⟨i, (i + 1) % n, 1, 1, pb, z13, ?_, s6', hpb, hlt, Nat.mod_lt _ (by omega), ?_, fun _ => ⟨rfl, rfl, rfl⟩, by decide⟩
          · have e1 : (i : Int) % n = (i : Int) := Int.emod_eq_of_lt (by omega) (by omega)
            have e2 : ((i : Int) + 1) % n = (((i + 1) % n : Nat) : Int) := rfl
            show [some (V.ref l), some (V.ref ls), some (V.ref pf), some (V.bl up), some (V.int n), some (V.ref lb), some (V.ref lp), some (V.ref d), some (V.int (i : Int)), some (V.int c), some (V.int ((i : Int) % n)), some (V.int (((i : Int) + 1) % n)), some (V.ref pb), z13, z14] = _
            rw [e1, e2]
          · by_cases hb : i + 1 < n
            · rw [Nat.mod_eq_of_lt hb]
              omega
            · have : i + 1 = n := by omega
              rw [this, Nat.mod_self]
              omega
      clear hpb s6 s6' H6 z13 z10 z11 z12 z8 z9 npb
      rintro σ' H6 ⟨j1, j2, u0, v0, pb, z13, rfl, s6', hpb, h1, h2, hne, hlow, huv⟩
      have s6 := s5.trans s6'
      refine ⟨fun σ' H' => ∃ (u v : Int) (pb : Addr), σ' = [some (.ref l), some (.ref ls), some (.ref pf), some (.bl up), some (.int n), some (.ref lb), some (.ref lp), some (.ref d), some (.int (i : Int)), some (.int c), some (.int j1), some (.int j2), some (.ref pb), z13, z14] ∧ H' = H6 ∧ H6 pb = some (.tup [.int u, .int v]) ∧ FB u v ∧ (i = n - 1 → u = F.1 ∧ v = F.2) ∧ (i ≠ n - 1 → u ≤ v) ∧ (i < n - 1 → u = v), ?_, ?_⟩
      · have e70 : (2 : Int) ^ 70 = 1180591620717411303424 := by decide
        refine ⟨_, rfl, _, rfl, _, _, rfl, rfl, rfl, _, rfl, ifV (fun he => ?_) (fun he => ?_)⟩
        · have he : (i : Int) = (n : Int) - 1 := he
          exact ⟨_, rfl, F.1, F.2, pf, rfl, rfl, s6 _ _ hF, fb, fun _ => ⟨rfl, rfl⟩, fun z => by omega, fun z => by omega⟩
        · have he : ¬ (i : Int) = (n : Int) - 1 := he
          exact ⟨u0, v0, pb, rfl, rfl, hpb, ⟨by omega, by rw [e70]; omega, by omega, by rw [e70]; omega⟩, fun z => by omega, fun _ => huv.2.1, fun z => (hlow (by omega)).2.2⟩
      clear hpb pb
      rintro σ' H7 ⟨u, v, pb, rfl, rfl, hpb, fuv, f1, f2, f3⟩
      obtain ⟨x, ex⟩ : ∃ x, pl[j1]? = some x := ⟨_, List.getElem?_eq_getElem (by rw [hP.len]; exact h1)⟩
      obtain ⟨y, ey⟩ : ∃ x, pl[j2]? = some x := ⟨_, List.getElem?_eq_getElem (by rw [hP.len]; exact h2)⟩
      obtain ⟨x0, x1⟩ := hP.ok x (List.mem_of_getElem? ex)
      obtain ⟨y0, y1⟩ := hP.ok y (List.mem_of_getElem? ey)
      obtain ⟨u0', u1', v0', v1'⟩ := fuv
      have le6 : (2 : Int) ^ 60 ≤ 2 ^ 70 := by decide
      have hlp7 := s6' _ _ hlp5
      obtain ⟨p1, p2⟩ := mul_pw x0 x1 u0' u1'
      obtain ⟨q1, q2⟩ := mul_pw y0 y1 v0' v1'
      refine ⟨_, rfl, _, rfl, lp, _, _, _, rfl, rfl, SqL.of hlp7, at_int ex, _, rfl, pb, _, _, _, rfl, rfl, SqT.of hpb, rfl, _, _, rfl, rfl, ⟨sm70 (by omega) (Int.le_trans x1 le6), sm70 (by omega) u1'⟩, ?_⟩
      refine ⟨_, rfl, _, rfl, lp, _, _, _, rfl, rfl, SqL.of hlp7, at_int ey, _, rfl, pb, _, _, _, rfl, rfl, SqT.of hpb, rfl, _, _, rfl, rfl, ⟨sm70 (by omega) (Int.le_trans y1 le6), sm70 (by omega) v1'⟩, by show 2 ≤ sizeLine; decide, fun g0 ng0 => ?_⟩
      have s8' := same_upd (o := .tup [.int (x * u), .int (y * v)]) ng0
      have hg0 : upd H7 g0 (.tup [.int (x * u), .int (y * v)]) g0 = some (.tup [.int (x * u), .int (y * v)]) := upd_same
      generalize upd H7 g0 (.tup [.int (x * u), .int (y * v)]) = H8 at s8' hg0 ⊢
      refine ⟨fun σ' H' => ∃ (g : Addr), σ' = [some (.ref l), some (.ref ls), some (.ref pf), some (.bl up), some (.int n), some (.ref lb), some (.ref lp), some (.ref d), some (.int (i : Int)), some (.int c), some (.int j1), some (.int j2), some (.ref pb), z13, some (.ref g)] ∧ Same H8 H' ∧ H' g = some (.tup [.int (if up = true then y * v else x * u), .int (if up = true then x * u else y * v)]), ?_, ?_⟩
      · refine ⟨_, rfl, _, rfl, ?_⟩
        cases up with
        | true =>
          refine iteT ⟨_, rfl, g0, _, _, _, rfl, rfl, SqT.of hg0, rfl, _, rfl, g0, _, _, _, rfl, rfl, SqT.of hg0, rfl, by show 2 ≤ sizeLine; decide, fun g ng => ?_⟩
          exact ⟨g, rfl, same_upd ng, upd_same⟩
        | false => exact iteF ⟨g0, rfl, Same.refl _, hg0⟩
      rintro σ' H9 ⟨g, rfl, s9', hg⟩
      have gb : GB (if up = true then y * v else x * u) (if up = true then x * u else y * v) := by
        split
        · exact ⟨q1, q2, p1, p2⟩
        · exact ⟨p1, p2, q1, q2⟩
      have s79 := s6'.trans (s8'.trans s9')
      have s19 := s5.trans s79
      obtain ⟨tt, htt⟩ : ∃ tt, (if up = true then y * v else x * u) = tt := ⟨_, rfl⟩
      obtain ⟨bb, hbb⟩ : ∃ bb, (if up = true then x * u else y * v) = bb := ⟨_, rfl⟩
      rw [htt, hbb] at gb hg
      obtain ⟨xs, exs⟩ : ∃ x, sp[j1]? = some x := ⟨_, List.getElem?_eq_getElem (by rw [hN.len]; exact h1)⟩
      obtain ⟨xg, exg⟩ : ∃ x, sp[j2]? = some x := ⟨_, List.getElem?_eq_getElem (by rw [hN.len]; exact h2)⟩
      obtain ⟨lbi, elb⟩ : ∃ x, lbs[i]? = some x := ⟨_, List.getElem?_eq_getElem (by rw [hM.len]; exact hi')⟩
      refine ⟨_, rfl, _, rfl, ls, _, _, _, rfl, rfl, s19.seq hL, at_str exs, _, rfl, _, rfl, ls, _, _, _, rfl, rfl, s19.seq hL, at_str exg, _, rfl, _, rfl, _, _, rfl, rfl, ⟨by decide, by decide⟩, _, _, rfl, rfl, by show (0 : Int) < 3; decide, by show 4 ≤ sizeLine; decide, fun tp ntp => ?_⟩
      have s10 := same_upd (o := .tup [.str xs, .str xg, .ref g, .int (c / 5 % 3)]) ntp
      have htp : upd H9 tp (.tup [.str xs, .str xg, .ref g, .int (c / 5 % 3)]) tp = some (.tup [.str xs, .str xg, .ref g, .int (c / 5 % 3)]) := upd_same
      generalize upd H9 tp (.tup [.str xs, .str xg, .ref g, .int (c / 5 % 3)]) = H10 at s10 htp ⊢
      have s510 := s79.trans s10
      obtain ⟨kvs, hd3, hk, hv⟩ := hrs.mono s510
      have hr6 : RowIs H10 (.ref tp) ⟨lbi, xs, xg, tt, bb, c / 5 % 3⟩ := ⟨tp, g, rfl, htp, s10 _ _ hg⟩
      have nk : ¬ (Sum.inr lbi : Key) ∈ kvs.map (·.1) := by
        rw [hk, show (fun r : WR => (Sum.inr r.nm : Key)) = (fun n => (Sum.inr n : Key)) ∘ (fun r : WR => r.nm) from rfl, ← List.map_map, ers]
        intro z
        have := nodup_take (f := fun n : Str => n) (by rw [List.map_id']; exact hM.nd) elb
        rw [List.map_id'] at this
        exact this (inr_mem.mp z)
      have lkv : kvs.length = i := by
        have := congrArg List.length hk
        rw [List.length_map, List.length_map] at this
        omega
      have hlb10 := s510 _ _ hlb5
      have hlp10 := s510 _ _ hlp5
      have nld : ∀ {q : Addr} {us : List V}, H10 q = some (.lst us) → q ≠ d := fun h z => by rw [z, hd3] at h; cases h
      refine ⟨_, rfl, _, rfl, _, rfl, lb, _, _, _, rfl, rfl, SqL.of hlb10, at_str elb, d, _, rfl, DPut.k (k := Sum.inr lbi) hd3 (small1000 (by omega)), ?_⟩
      rw [putK_new _ (val_none nk)]
      refine ⟨hi', _, _, _, _, _, _, _, rs ++ [⟨lbi, xs, xg, tt, bb, c / 5 % 3⟩], rfl, same_put nd (s5.trans s510), by rw [upd_ne (nld hlp10)]; exact hlp10, by rw [upd_ne (nld hlb10)]; exact hlb10, ⟨kvs ++ [(Sum.inr lbi, .ref tp)], upd_same, ?_, ?_⟩, by simp [lrs], ?_, ?_, ?_⟩
      · rw [List.map_append, hk, List.map_append]
        rfl
      · rw [List.map_append]
        exact RowAt.snoc (hv.mono fun v x z => z.put hd3 (by intro _ z; cases z)) (hr6.put hd3 (by intro _ z; cases z))
      · rw [List.map_append, ers, List.take_add_one, elb, Option.toList_some]
        rfl
      · intro r hr
        rcases List.mem_append.mp hr with z | z
        · exact good r z
        · rw [List.mem_singleton.mp z]
          exact ⟨gb, ne_idx hN.nd exs exg hne, List.mem_of_getElem? exs, List.mem_of_getElem? exg⟩
      · intro k r e
        by_cases hk' : k < rs.length
        · rw [List.getElem?_append_left hk'] at e
          exact row k r e
        · rw [List.getElem?_append_right (by omega)] at e
          have hz : k - rs.length = 0 := by
            have := (List.getElem?_eq_some_iff.mp e).1
            simp at this
            omega
          have ek : k = i := by omega
          rw [hz] at e
          cases e
          rw [ek]
          exact ⟨j1, j2, x, y, u, v, exs, exg, ex, ey, fun z => ⟨(hlow z).1, (hlow z).2.1⟩, ⟨u0', v0'⟩, f1, f2, f3, htt.symm, hbb.symm⟩
    · rintro σ H5 ⟨_, z8, z9, z10, z11, z12, z13, z14, rs, rfl, s5, hlp5, hlb5, hrs, lrs, ers, good, row⟩
      have e : (m : Int).toNat = m := by omega
      rw [e] at lrs ers
      refine ⟨_, rfl, k d H5 rs pl nd s5 hrs ⟨?_, by omega, good⟩ (by omega) (by omega) (fun r hr => ?_) hP row⟩
      · rw [ers]
        exact hM.nd.sublist (List.take_sublist _ _)
      · have : r.nm ∈ lbs.take m := by rw [← ers]; exact List.mem_map.mpr ⟨r, hr, rfl⟩
        have := List.mem_of_mem_take this
        exact ⟨hM.ch _ this, hM.sm _ this⟩
def netOf (sp : List Str) : List (Str × Rat) := sp.map fun x => (x, (0 : Rat))
theorem netOf_names (sp : List Str) : (netOf sp).map (·.1) = sp := by unfold netOf; rw [List.map_map]; exact List.map_id' sp
inductive IspLawNet (K : PySem.W.Frag) (a : Ad) (vs : List V) (H : Hp) (Q : VK) : Prop
  | mk (ls d : Addr) (sp : List Str) (rs : List WR) (h1 : vs = [.ref ls, .ref d]) (h2 : SqL K H ls (sp.map V.str)) (h3 : sp.Nodup) (h4 : sp.length ≤ 12) (h5 : RowsAt H d rs) (h6 : RsOk sp rs) (h7 : ∀ p H', H p = none → Same H H' → NetAt a H' p (netOf sp) (rs.map WR.d) → Q (.ref p) H') : IspLawNet K a vs H Q
def spLawNet (K : PySem.W.Frag) (a : Ad) : Sp := fun vs H Q _ => IspLawNet K a vs H Q
theorem RsOk.net {sp : List Str} {rs : List WR} (h : RsOk sp rs) (nd : sp.Nodup) (hl : sp.length ≤ 12) : NetOk (netOf sp) (rs.map WR.d) := by
  refine ⟨by rw [netOf_names]; exact nd, by unfold netOf; rw [List.length_map]; exact hl, ?_, by rw [List.length_map]; exact h.len, fun d hd => ?_⟩
  · rw [List.map_map, show ((fun x : WD => x.nm) ∘ WR.d) = (fun r : WR => r.nm) from funext fun r => WR.d_nm r]
    exact h.nd
  · obtain ⟨r, hr, rfl⟩ := List.mem_map.mp hd
    rw [netOf_names, WR.d_st, WR.d_go]
    exact ⟨(h.all r hr).i1, (h.all r hr).i2⟩
theorem ok_law_net (T : TX K mg a) : FnB P w K mg base CX0 "_law_net" 8 ["_law_spots", "_law_ways_here"] (spLawNet K a) := by
  refine T.d_law_net.ok sc_law_net (fun vs H Q E h => ?_) (fun f cdv A outer s H vs Q E hr h => ?_)
  · obtain ⟨_, _, _, _, rfl, _⟩ := h
    rfl
  · obtain ⟨ls, d, sp, rs, rfl, hS, nd, hl, hR, ok, k⟩ := h
    refine ⟨_, (pss_one (ps_ret (pe_mk (mk_Net T) hr T.mg_Net pass0 (pa_cons (pe_compG (xs := ["_law_spot"]) (rest := []) rfl (pi_list (pv 0))
      (fun pins fp C' s' H' => (pg_name (i := 0) (show (["_law_spot"] : List Str).Nodup by decide +kernel) rfl (Or.inl rfl))) (fun pins fp C' s' H' => pts_nil)
      (fun pins fp C' s' H' => (pe_tup (pa_cons (pv 0) (pa_cons (pe_mkfr (mk1 T) hr T.mg_Fraction pass0 (pa_cons pe_int pa_nil)) pa_nil))))
      (Clos.none (by decide +kernel) (by decide +kernel)) (Reads.many (ys := []) (js := []) True.intro)) (pa_cons (pe_thaw (pe_compG (xs := ["_law_name"]) (rest := ["_law_ways_here"]) rfl (pi_dict (pv 1))
      (fun pins fp C' s' H' => (pg_name (i := 0) (show (["_law_name", "_law_ways_here"] : List Str).Nodup by decide +kernel) rfl (Or.inl rfl))) (fun pins fp C' s' H' => pts_nil)
      (fun pins fp C' s' H' => (pe_fn (ok_law_way T) hr pass0 (pa_cons (pv 0) (pa_cons (pe_dget (hu_of hr) (pv 1) (pv 0) (fun _ _ => rfl)) pa_nil))))
      (Clos.many (ys := ["_law_ways_here"]) rfl ⟨rfl, True.intro⟩ rfl (by decide +kernel)) (Reads.many (ys := ["_law_ways_here"]) (js := [1]) ⟨⟨rfl, rfl, rfl⟩, True.intro⟩))) pa_nil))))), ?_⟩
    try dsimp only [cxOf, Cx.nox, Cx.wish]
    refine ⟨_, rfl, ls, rfl, ⟨_, hS⟩, fun l1 n1 => ?_⟩
    refine compG_list (K := K) (a := ls) (xs := sp.map V.str) (fun i H2 => i ≤ sp.length ∧ Same H H2 ∧ ∃ ts, H2 l1 = some (.lst ts) ∧ RowAt (PlIs a) H2 ts (netOf (sp.take i))) ⟨Nat.zero_le _, same_upd n1, [], upd_same, RowAt.nil⟩ (fun i H2 ⟨_, s2, _⟩ => s2.seq hS) ?_ ?_
    · rintro i x H2 hx ⟨_, s2, ts, h2, hv⟩
      rw [List.getElem?_map] at hx
      cases ex : sp[i]? with
      | none => rw [ex] at hx; cases hx
      | some y =>
        rw [ex] at hx
        cases hx
        have hi := (List.getElem?_eq_some_iff.mp ex).1
        refine g1 ⟨⟨[_], rfl, rfl⟩, yes ?_⟩
        refine ⟨_, rfl, 0, 1, rfl, by decide, sm1, fun q H3 nq s3 f3 => ?_⟩
        refine ⟨by show 2 ≤ sizeLine; decide, fun t nt => ?_⟩
        have s4 := same_upd (o := .tup [.str y, .ref q]) nt
        have ht : upd H3 t (.tup [.str y, .ref q]) t = some (.tup [.str y, .ref q]) := upd_same
        generalize upd H3 t (.tup [.str y, .ref q]) = H4 at s4 ht ⊢
        have h4 := s4 _ _ (s3 _ _ h2)
        have lts : ts.length = i := by rw [hv.1]; unfold netOf; rw [List.length_map, List.length_take]; omega
        have keep : ∀ v x, PlIs a H4 v x → PlIs a (upd H4 l1 (.lst (ts ++ [.ref t]))) v x := fun v x ⟨t', q', e, h1, dq, f⟩ => ⟨t', q', e, by rw [upd_ne (ne_of h1 h4 (by intro z; cases z))]; exact h1, dq, by rw [upd_ne (ne_of f h4 (by intro z; cases z))]; exact f⟩
        refine ⟨_, h4, small1000 (by omega), nextP (by rw [List.length_map]; exact hi) ⟨hi, same_put n1 ((s2.trans s3).trans s4), _, upd_same, ?_⟩⟩
        rw [List.take_add_one, ex, Option.toList_some]
        unfold netOf
        rw [List.map_append]
        refine RowAt.snoc (hv.mono fun v x z => keep v x (z.mono (s3.trans s4))) (keep _ _ ⟨t, q, rfl, ht, ?_⟩)
        rw [Rat.zero_divInt] at f3
        exact f3.mono s4
    · rintro H2 ⟨_, s2, ts, h2, hv⟩
      rw [List.length_map, List.take_length] at hv
      obtain ⟨kvs, hd, hk, hw⟩ := hR.mono s2
      refine ⟨d, .dK kvs, hd, (by intro o z e; cases e), ?_⟩
      refine ⟨_, rfl, d, kvs, rfl, hd, fun o l2 n2 => ?_⟩
      have hkl : kvs.length = rs.length := by have := congrArg List.length hk; rwa [List.length_map, List.length_map] at this
      have nd2 : d ≠ l2 := fun z => by rw [z, upd_same] at n2; cases n2
      have n2' : H2 l2 = none := by rw [upd_ne nd2.symm] at n2; exact n2
      refine compG_dict (a := d) (o := o) (kvs := kvs) (fun i H3 => i ≤ rs.length ∧ H3 d = some (.frz o (.dK kvs)) ∧ (∀ b ob, H2 b = some ob → b ≠ d → H3 b = some ob) ∧ ∃ us, H3 l2 = some (.lst us) ∧ RowAt (WayIs a) H3 us ((rs.take i).map WR.d))
        ⟨Nat.zero_le _, by rw [upd_ne nd2, upd_same], fun b ob e ne => by rw [upd_ne (ne_of_none e n2'), upd_ne ne]; exact e, [], upd_same, RowAt.nil⟩ (fun i H3 ⟨_, h, _⟩ => h) ?_ ?_
      · rintro i kv H3 hkv ⟨_, hd3, k3, us, h3, hv3⟩
        have hi : i < rs.length := by rw [← hkl]; exact (List.getElem?_eq_some_iff.mp hkv).1
        obtain ⟨r, er⟩ : ∃ r, rs[i]? = some r := ⟨_, List.getElem?_eq_getElem hi⟩
        have e1 : kv.1 = Sum.inr r.nm := by
          have g := congrArg (fun l => l[i]?) hk
          simp only [List.getElem?_map, hkv, er, Option.map_some] at g
          exact Option.some.inj g
        have hrow : RowIs H2 kv.2 r := hw.2 i kv.2 r (by rw [List.getElem?_map, hkv]; rfl) er
        have hrow3 : RowIs H3 kv.2 r := by
          obtain ⟨p, g, e, x1, x2⟩ := hrow
          exact ⟨p, g, e, k3 _ _ x1 (ne_of x1 hd (by intro z; cases z)), k3 _ _ x2 (ne_of x2 hd (by intro z; cases z))⟩
        refine g1 ⟨⟨[_], rfl, rfl⟩, yes ?_⟩
        have ekv : kV kv.1 = .str r.nm := by rw [e1]; rfl
        rw [ekv]
        have rg := ok.all r (List.mem_of_getElem? er)
        have hval : valV kvs (Sum.inr r.nm) = some kv.2 := by
          rw [← e1]
          exact val_at (keys_nd hk ok.nd) hkv
        refine ⟨_, rfl, _, rfl, _, rfl, d, kv.2, rfl, .inl ⟨kvs, Sum.inr r.nm, .inr ⟨o, hd3⟩, rfl, hval.symm⟩, kv.2, r, rfl, hrow3, rg.gb, rg.ne, fun p H4 np s4 W => ?_⟩
        have h4 := s4 _ _ h3
        have lus : us.length = i := by rw [hv3.1, List.length_map, List.length_take]; omega
        refine ⟨_, h4, small1000 (by have := ok.len; omega), nextP (by rw [hkl]; exact hi) ⟨hi, ?_, fun b ob e ne => ?_, _, upd_same, ?_⟩⟩
        · rw [upd_ne nd2]
          exact s4 _ _ hd3
        · rw [upd_ne (ne_of_none e n2')]
          exact s4 _ _ (k3 _ _ e ne)
        · rw [List.take_add_one, er, Option.toList_some, List.map_append]
          exact RowAt.snoc (hv3.mono fun v x z => (z.mono s4).lst h4) (W.lst h4)
      · rintro H3 ⟨_, hd3, k3, us, h3, hv3⟩
        rw [hkl, List.take_length] at hv3
        refine ⟨o, hd3, ?_⟩
        have s23 : Same H2 (upd H3 d (.dK kvs)) := fun b ob e => by
          by_cases hb : b = d
          · subst hb
            rw [upd_same, ← hd, e]
          · rw [upd_ne hb]
            exact k3 _ _ e hb
        have hl2 : upd H3 d (.dK kvs) l2 = some (.lst us) := by rw [upd_ne nd2.symm]; exact h3
        have hW : RowAt (WayIs a) (upd H3 d (.dK kvs)) us (rs.map WR.d) := hv3.mono fun v x z => z.keep (.put hd3 (by intro _ _ _ z; cases z))
        exact mkN (SqL.of (s23 _ _ h2)) (hv.mono fun v x z => z.mono s23) (SqL.of hl2) hW (ok.net nd hl) fun p H4 np s4 hn => k p H4 (s2.free (s23.free np)) (s2.trans (s23.trans s4)) hn
def Yr : Wy WR := ⟨(·.st), (·.go), fun r => Rat.divInt r.t r.b⟩
theorem pth_d : ∀ {rr : List WR} {p q : Str}, Pth Yw p (rr.map WR.d) q ↔ Pth Yr p rr q
  | [], p, q => Iff.rfl
  | r :: rr, p, q => by
    show (r.d.st = p ∧ Pth Yw r.d.go (rr.map WR.d) q) ↔ (r.st = p ∧ Pth Yr r.go rr q)
    rw [WR.d_st, WR.d_go, pth_d]
theorem rprod_d : ∀ {rr : List WR}, (∀ r ∈ rr, GB r.t r.b) → rprod Yw (rr.map WR.d) = rprod Yr rr
  | [], _ => rfl
  | r :: rr, h => by
    show gainOf r.d.kd r.d.x * rprod Yw (rr.map WR.d) = Rat.divInt r.t r.b * rprod Yr rr
    rw [WR.d_gain (h r List.mem_cons_self), rprod_d fun z hz => h z (List.mem_cons_of_mem _ hz)]
theorem of_map {β : Type} (f : WR → β) (us : List WR) : ∀ {l : List β}, (∀ x ∈ l, x ∈ us.map f) → ∃ rr : List WR, l = rr.map f ∧ ∀ r ∈ rr, r ∈ us
  | [], _ => ⟨[], rfl, fun r h => absurd h List.not_mem_nil⟩
  | x :: l, h => by
    obtain ⟨rr, e, hr⟩ := of_map f us (l := l) fun z hz => h z (List.mem_cons_of_mem _ hz)
    obtain ⟨r, h1, h2⟩ := List.mem_map.mp (h x List.mem_cons_self)
    refine ⟨r :: rr, by rw [List.map_cons, h2, e], fun z hz => ?_⟩
    rcases List.mem_cons.mp hz with z' | z'
    · rw [z']; exact h1
    · exact hr z z'
theorem ring_d {c : Bool} {us : List WR} {ring : List WD} (gb : ∀ r ∈ us, GB r.t r.b) (h : RingL Yw c (us.map WR.d) ring) : ∃ rr : List WR, ring = rr.map WR.d ∧ RingL Yr c us rr := by
  obtain ⟨rr, rfl, sub⟩ := of_map WR.d us h.sub
  refine ⟨rr, rfl, fun z => h.ne (by rw [z]; rfl), sub, ?_, ?_, ?_⟩
  · obtain ⟨p, hp⟩ := h.pth
    exact ⟨p, pth_d.mp hp⟩
  · have := h.nd
    rw [List.map_map, show (Yw.st ∘ WR.d) = Yr.st from funext fun r => WR.d_st r] at this
    exact this
  · have := h.gain
    rw [rprod_d fun r hr => gb r (sub r hr)] at this
    exact this
theorem pth_le {α : Type} {Y : Wy α} {c : Bool} {A : Str → Rat} : ∀ {l : List α} {p q : Str}, (∀ x ∈ l, 0 < Y.gn x ∧ Wc c (Y.gn x) * A (Y.go x) ≤ A (Y.st x)) → Pth Y p l q → Wc c (rprod Y l) * A q ≤ A p
  | [], p, q, _, h => by
    rw [show p = q from h]
    show Wc c 1 * _ ≤ _
    rw [Wc_one, Rat.one_mul]
    exact Rat.le_refl
  | x :: l, p, q, hl, ⟨h1, h2⟩ => by
    obtain ⟨g, le⟩ := hl x List.mem_cons_self
    have ih := pth_le (fun z hz => hl z (List.mem_cons_of_mem _ hz)) h2
    show Wc c (Y.gn x * rprod Y l) * _ ≤ _
    rw [Wc_mul, Rat.mul_assoc, ← h1]
    exact Rat.le_trans (Rat.mul_le_mul_of_nonneg_left ih (rle (Wc_pos g))) le
theorem pth_gt {α : Type} {Y : Wy α} {c : Bool} {A : Str → Rat} {z : α} (hz : 0 < Y.gn z ∧ A (Y.st z) < Wc c (Y.gn z) * A (Y.go z)) : ∀ {l : List α} {p q : Str}, (∀ x ∈ l, 0 < Y.gn x ∧ A (Y.st x) ≤ Wc c (Y.gn x) * A (Y.go x)) → Pth Y p (l ++ [z]) q → A p < Wc c (rprod Y (l ++ [z])) * A q
  | [], p, q, _, ⟨h1, h2⟩ => by
    rw [← h1, ← show Y.go z = q from h2]
    show _ < Wc c (Y.gn z * 1) * _
    rw [Rat.mul_one]
    exact hz.2
  | x :: l, p, q, hl, ⟨h1, h2⟩ => by
    obtain ⟨g, le⟩ := hl x List.mem_cons_self
    have ih := pth_gt hz (fun z hz => hl z (List.mem_cons_of_mem _ hz)) h2
    show _ < Wc c (Y.gn x * rprod Y (l ++ [z])) * _
    rw [Wc_mul, Rat.mul_assoc, ← h1]
    exact rle_lt le (Rat.mul_lt_mul_of_pos_left ih (Wc_pos g))
theorem pth_of {α : Type} {Y : Wy α} : ∀ {l : List α} {S : Nat → Str}, (∀ i x, l[i]? = some x → Y.st x = S i ∧ Y.go x = S (i + 1)) → Pth Y (S 0) l (S l.length)
  | [], S, _ => rfl
  | x :: l, S, h => by
    obtain ⟨h1, h2⟩ := h 0 x rfl
    refine ⟨h1, ?_⟩
    have := pth_of (l := l) (S := fun i => S (i + 1)) fun i y e => h (i + 1) y (by simpa using e)
    rw [h2]
    exact this
def PR (sp : List Str) (pl : List Int) (s : Str) : Rat := Rat.divInt (pl.getD (sp.idxOf s) 1) 1
theorem PR_at {sp : List Str} {pl : List Int} {j : Nat} {s : Str} {x : Int} (nd : sp.Nodup) (h1 : sp[j]? = some s) (h2 : pl[j]? = some x) : PR sp pl s = Rat.divInt x 1 := by
  have hj := (List.getElem?_eq_some_iff.mp h1).1
  have e : sp.idxOf s = j := by
    have m : s ∈ sp := List.mem_of_getElem? h1
    have hi := List.idxOf_lt_length_iff.mpr m
    refine (List.getElem?_inj hi nd).mp ?_
    rw [h1, List.getElem?_eq_getElem hi, List.getElem_idxOf hi]
  unfold PR
  rw [e, List.getD_eq_getElem?_getD, h2]
  rfl
/-- a way's gain against the places' numbers -/
theorem row_cmp {sp : List Str} {pl : List Int} {n k : Nat} {F : Int × Int} {up : Bool} {r : WR} (nd : sp.Nodup) (hP : Pot30 pl n) (h : Row30 sp pl n F up k r) : ∃ u v : Int, (1 ≤ u ∧ 1 ≤ v) ∧ (k = n - 1 → u = F.1 ∧ v = F.2) ∧ (k ≠ n - 1 → u ≤ v) ∧ (k < n - 1 → u = v) ∧ 0 < PR sp pl r.st ∧ 0 < Yr.gn r ∧ (Wc (!up) (Yr.gn r) * PR sp pl r.go ≤ PR sp pl r.st ↔ u ≤ v) := by
  obtain ⟨j1, j2, x, y, u, v, h1, h2, h3, h4, _, uv, f1, f2, f3, et, eb⟩ := h
  obtain ⟨x0, _⟩ := hP.ok x (List.mem_of_getElem? h3)
  obtain ⟨y0, _⟩ := hP.ok y (List.mem_of_getElem? h4)
  have px := PR_at nd h1 h3
  have py := PR_at nd h2 h4
  have xu : 0 < x * u := Int.mul_pos (by omega) (by omega)
  have yv : 0 < y * v := Int.mul_pos (by omega) (by omega)
  have ew : Wc (!up) (Yr.gn r) = Rat.divInt (x * u) (y * v) := by
    show Wc (!up) (Rat.divInt r.t r.b) = _
    rw [et, eb]
    cases up with
    | true => exact Rat.inv_divInt _ _
    | false => rfl
  refine ⟨u, v, uv, f1, f2, f3, ?_, ?_, ?_⟩
  · rw [px, show (0 : Rat) = Rat.divInt 0 1 from rfl, lt_div (by decide) (by decide)]
    omega
  · show (0 : Rat) < Rat.divInt r.t r.b
    rw [et, eb, show (0 : Rat) = Rat.divInt 0 1 from rfl]
    cases up with
    | true => rw [if_pos rfl, if_pos rfl, lt_div (by decide) xu]; omega
    | false => rw [if_neg (by decide), if_neg (by decide), lt_div (by decide) yv]; omega
  · rw [ew, px, py, Rat.divInt_mul_divInt, ← Rat.not_lt, lt_div (by decide) (by omega)]
    have e1 : x * (y * v * 1) = x * y * v := by rw [Int.mul_one, Int.mul_assoc]
    have e2 : x * u * y * 1 = x * y * u := by rw [Int.mul_one, Int.mul_assoc, Int.mul_comm u y, ← Int.mul_assoc]
    rw [e1, e2]
    have xy : 0 < x * y := Int.mul_pos (by omega) (by omega)
    constructor
    · intro z
      exact Int.not_lt.mp fun q => z (Int.mul_lt_mul_of_pos_left q xy)
    · intro z q
      have := Int.mul_le_mul_of_nonneg_left z (Int.le_of_lt xy)
      omega
structure Net30 (sp : List Str) (pl : List Int) (n : Nat) (F : Int × Int) (up : Bool) (rs : List WR) : Prop where
  nd : sp.Nodup
  len : sp.length = n
  n2 : 2 ≤ n
  ge : n ≤ rs.length
  pot : Pot30 pl n
  gb : ∀ r ∈ rs, GB r.t r.b
  row : ∀ k r, rs[k]? = some r → Row30 sp pl n F up k r
/-- a ring comes only where the factor is above 1, and has the last way of the first ones -/
theorem ring30 {sp : List Str} {pl : List Int} {n : Nat} {F : Int × Int} {up : Bool} {rs us rr : List WR} {z : WR} (D : Net30 sp pl n F up rs) (sub : ∀ r ∈ us, r ∈ rs) (hz : rs[n - 1]? = some z) (rg : RingL Yr (!up) us rr) : F.2 < F.1 ∧ z ∈ rr := by
  have key : ∀ r ∈ rr, (r = z → ¬ F.2 < F.1) → 0 < Yr.gn r ∧ Wc (!up) (Yr.gn r) * PR sp pl (Yr.go r) ≤ PR sp pl (Yr.st r) := fun r hr nz => by
    obtain ⟨k, hk⟩ := List.mem_iff_getElem?.mp (sub r (rg.sub r hr))
    obtain ⟨u, v, uv, f1, f2, _, _, g, iff⟩ := row_cmp D.nd D.pot (D.row k r hk)
    refine ⟨g, iff.mpr ?_⟩
    by_cases e : k = n - 1
    · subst e
      obtain ⟨e1, e2⟩ := f1 rfl
      have := nz (Option.some.inj (hk.symm.trans hz))
      omega
    · exact f2 e
  obtain ⟨p, pth⟩ := rg.pth
  have pp : 0 < PR sp pl p := by
    cases rr with
    | nil => exact absurd rfl rg.ne
    | cons r rr =>
      obtain ⟨k, hk⟩ := List.mem_iff_getElem?.mp (sub r (rg.sub r List.mem_cons_self))
      obtain ⟨_, _, _, _, _, _, pos, _⟩ := row_cmp D.nd D.pot (D.row k r hk)
      rw [← show r.st = p from pth.1]
      exact pos
  have no : ¬ ∀ r ∈ rr, 0 < Yr.gn r ∧ Wc (!up) (Yr.gn r) * PR sp pl (Yr.go r) ≤ PR sp pl (Yr.st r) := fun all => by
    have h := pth_le all pth
    have g := Rat.mul_lt_mul_of_pos_right rg.gain pp
    rw [Rat.one_mul] at g
    exact Rat.lt_irrefl (rlt_le g h)
  by_cases hF : F.2 < F.1
  · refine ⟨hF, ?_⟩
    by_cases m : z ∈ rr
    · exact m
    · exact absurd (fun r hr => key r hr fun e => absurd (by rw [← e]; exact hr) m) no
  · exact absurd (fun r hr => key r hr fun _ => hF) no
/-- values come only where it isn't -/
theorem wgt30 {sp : List Str} {pl : List Int} {n : Nat} {F : Int × Int} {up : Bool} {rs : List WR} {v : Str → Rat} (D : Net30 sp pl n F up rs) (pos : ∀ p, 0 < v p) (le : ∀ r ∈ rs, Wc (!up) (Rat.divInt r.t r.b * v r.go) ≤ Wc (!up) (v r.st)) : ¬ F.2 < F.1 := fun hF => by
  have n2 := D.n2
  have ge := D.ge
  obtain ⟨z, hz⟩ : ∃ z, rs[n - 1]? = some z := ⟨_, List.getElem?_eq_getElem (by omega)⟩
  have tk : rs.take n = rs.take (n - 1) ++ [z] := by
    have : rs.take (n - 1 + 1) = rs.take (n - 1) ++ [z] := by rw [List.take_add_one, hz]; rfl
    rwa [show n - 1 + 1 = n by omega] at this
  have pth : Pth Yr (sp.getD 0 "") (rs.take (n - 1) ++ [z]) (sp.getD 0 "") := by
    have h := pth_of (Y := Yr) (l := rs.take n) (S := fun i => sp.getD (i % n) "") fun i x e => by
      have hi : i < n := by
        have := (List.getElem?_eq_some_iff.mp e).1
        rw [List.length_take] at this
        omega
      rw [List.getElem?_take, if_pos hi] at e
      obtain ⟨j1, j2, _, _, _, _, g1, g2, _, _, g3, _⟩ := D.row i x e
      obtain ⟨rfl, rfl⟩ := g3 hi
      refine ⟨?_, ?_⟩
      · show x.st = sp.getD (j1 % n) ""
        rw [Nat.mod_eq_of_lt hi, List.getD_eq_getElem?_getD, g1]
        rfl
      · show x.go = sp.getD ((j1 + 1) % n) ""
        rw [List.getD_eq_getElem?_getD, g2]
        rfl
    rw [List.length_take, Nat.min_eq_left ge] at h
    rw [Nat.zero_mod, Nat.mod_self, tk] at h
    exact h
  have all : ∀ x ∈ rs.take (n - 1) ++ [z], x ∈ rs := fun x hx => by rw [← tk] at hx; exact List.mem_of_mem_take hx
  have up1 := pth_le (Y := Yr) (c := !up) (A := fun s => Wc (!up) (v s)) (l := rs.take (n - 1) ++ [z]) (fun x hx => by
    obtain ⟨k, hk⟩ := List.mem_iff_getElem?.mp (all x hx)
    obtain ⟨_, _, _, _, _, _, _, g, _⟩ := row_cmp D.nd D.pot (D.row k x hk)
    refine ⟨g, ?_⟩
    have := le x (all x hx)
    rw [Wc_mul] at this
    exact this) pth
  obtain ⟨uz, vz, _, fz, _, _, pz, gz, iz⟩ := row_cmp D.nd D.pot (D.row (n - 1) z hz)
  obtain ⟨e1, e2⟩ := fz rfl
  have lo := pth_gt (Y := Yr) (c := !up) (A := PR sp pl) (z := z) ⟨gz, by
    refine Rat.not_le.mp fun q => ?_
    have := iz.mp q
    omega⟩ (l := rs.take (n - 1)) (fun x hx => by
    obtain ⟨k, hk⟩ := List.mem_iff_getElem?.mp hx
    have hk' : k < n - 1 := by
      have := (List.getElem?_eq_some_iff.mp hk).1
      rw [List.length_take] at this
      omega
    rw [List.getElem?_take, if_pos hk'] at hk
    obtain ⟨j1, j2, x', y', u, w', h1, h2, h3, h4, _, uv, _, _, f3, et, eb⟩ := D.row k x hk
    obtain ⟨_, _, _, _, _, _, _, g, _⟩ := row_cmp D.nd D.pot (D.row k x hk)
    refine ⟨g, ?_⟩
    obtain rfl := f3 hk'
    obtain ⟨x0, _⟩ := D.pot.ok x' (List.mem_of_getElem? h3)
    obtain ⟨y0, _⟩ := D.pot.ok y' (List.mem_of_getElem? h4)
    have ew : Wc (!up) (Yr.gn x) = Rat.divInt (x' * u) (y' * u) := by
      show Wc (!up) (Rat.divInt x.t x.b) = _
      rw [et, eb]
      cases up with
      | true => exact Rat.inv_divInt _ _
      | false => rfl
    show PR sp pl x.st ≤ _ * PR sp pl x.go
    rw [ew, PR_at D.nd h1 h3, PR_at D.nd h2 h4, Rat.divInt_mul_divInt, ← Rat.not_lt, lt_div (by have := Int.mul_pos (show 0 < y' by omega) (show 0 < u by omega); omega) (by decide)]
    have : x' * u * y' * 1 = x' * (y' * u * 1) := by rw [Int.mul_one, Int.mul_one, Int.mul_assoc, Int.mul_comm u y']
    omega) pth
  have p0 : 0 < PR sp pl (sp.getD 0 "") := by
    obtain ⟨r0, hr0⟩ : ∃ r, rs[0]? = some r := ⟨_, List.getElem?_eq_getElem (by omega)⟩
    obtain ⟨_, _, _, _, _, _, q, _⟩ := row_cmp D.nd D.pot (D.row 0 r0 hr0)
    obtain ⟨j1, j2, _, _, _, _, g1, _, _, _, g3, _⟩ := D.row 0 r0 hr0
    obtain ⟨rfl, _⟩ := g3 (by omega)
    rw [List.getD_eq_getElem?_getD, g1]
    exact q
  have g1 : 1 < Wc (!up) (rprod Yr (rs.take (n - 1) ++ [z])) := by
    rw [← Rat.mul_lt_mul_right p0, Rat.one_mul]
    exact lo
  have w0 := Wc_pos (c := !up) (pos (sp.getD 0 ""))
  have g2 := Rat.mul_lt_mul_of_pos_right g1 w0
  rw [Rat.one_mul] at g2
  exact Rat.lt_irrefl (rlt_le g2 up1)
theorem gain_pos {r : WR} (h : GB r.t r.b) : 0 < gainOf r.d.kd r.d.x := by
  obtain ⟨t0, _, b0, _⟩ := id h
  rw [WR.d_gain h, show (0 : Rat) = Rat.divInt 0 1 from rfl, lt_div (by decide) (by omega)]
  omega
theorem nms_d (us : List WR) : ((us.map WR.d).map fun x => V.str x.nm) = us.map fun x => V.str x.nm := by
  rw [List.map_map]
  exact List.map_congr_left fun x _ => congrArg V.str (WR.d_nm x)
theorem rg_in {H : Hp} {p l : Addr} {sp : List Str} {rs us : List WR} (net : NetAt a H p (netOf sp) (rs.map WR.d)) (ok : RsOk sp rs) (nd : sp.Nodup) (l2 : 2 ≤ sp.length) (l12 : sp.length ≤ 12) (hl : SqL K H l (us.map fun x => V.str x.nm)) (sub : ∀ x ∈ us, x ∈ rs) (lu : us.length ≤ 48) : RgIn K a H p l (netOf sp) (rs.map WR.d) (us.map WR.d) 200 := by
  have ln : (netOf sp).length = sp.length := by unfold netOf; rw [List.length_map]
  have O := ok.net nd l12
  refine ⟨net, by rw [netOf_names]; exact nd, O.nd, by rw [nms_d]; exact hl, fun x hx => ?_, fun x hx => ?_, by omega, by omega, by rw [List.length_map]; omega, fun x hx => ?_, fun x hx => ?_, by rw [ln]; omega⟩
  all_goals obtain ⟨r, hr, rfl⟩ := List.mem_map.mp hx
  · exact List.mem_map.mpr ⟨r, sub r hr, rfl⟩
  · rw [netOf_names, WR.d_st, WR.d_go]
    exact ⟨(ok.all r (sub r hr)).i1, (ok.all r (sub r hr)).i2⟩
  · exact ⟨(WR.d_sm (ok.all r (sub r hr)).gb).1, (WR.d_sm (ok.all r (sub r hr)).gb).2.1⟩
  · exact gain_pos (ok.all r (sub r hr)).gb
inductive IspRight (vs : List V) (H : Hp) (Q : VK) : Prop
  | mk (t : Addr) (last : Str) (more : Bool) (h1 : vs = [.ref t, .str last, .bl more]) (h2 : ((more = true ∧ ∃ (r : Addr) (us : List Str), H t = some (.tup [.str "ring", .ref r]) ∧ H r = some (.lst (us.map V.str)) ∧ last ∈ us) ∨ (more = false ∧ ∃ (d : Addr) (kv : List (Key × V)), H t = some (.tup [.str "weights", .ref d]) ∧ H d = some (.dK kv)))) (h3 : Q (.bl true) H) : IspRight vs H Q
def spRight (K : PySem.W.Frag) : Sp := fun vs H Q _ => IspRight vs H Q
theorem inV_str (x : Str) : ∀ ts : List Str, inV (.str x) (ts.map V.str) = decide (x ∈ ts)
  | [] => rfl
  | t :: ts => by
    have ih := inV_str x ts
    unfold inV at ih ⊢
    rw [List.map_cons, List.any_cons, ih, eqV_str, Bool.eq_iff_iff]
    rw [Bool.or_eq_true, decide_eq_true_iff, decide_eq_true_iff, decide_eq_true_iff, List.mem_cons]
    exact ⟨fun h => h.imp Eq.symm id, fun h => h.imp Eq.symm id⟩
theorem ok_law_right (T : TX K mg a) : FnB P w K mg base CX0 "_law_right" 1 ["_law_found", "_law_last", "_law_more"] (spRight K) := by
  refine T.d_law_right.ok sc_law_right (fun vs H Q E h => ?_) (fun f cdv A outer s H vs Q E hr h => ?_)
  · obtain ⟨_, _, _, rfl, _⟩ := h
    rfl
  · obtain ⟨t, last, more, rfl, h, k⟩ := h
    refine ⟨_, (pss_cons (ps_if (PW.pt (pw_or (pt_not (pt_val (pe_callB (call_isI (c := .type "tuple")) (by rfl) T.z_isinstance PyProof.Rows.boot_isinstance (pa_cons (pv 0) (pa_cons (pe_bltn (v := .ty "tuple") (by rfl) T.z_tuple PyProof.Rows.boot_tuple rfl) pa_nil))))) (pw_or (pt_cmpR op_ne (pe_callB call_lenK (by rfl) T.z_len PySem.boot_len (pa_cons (pv 0) pa_nil)) pe_int (nomark _)) (pw_or1 (pt_not (pt_val (pe_callB (call_isI (c := .type "str")) (by rfl) T.z_isinstance PyProof.Rows.boot_isinstance (pa_cons (pe_ix ix_tup (pv 0) pe_int (fun _ _ => rfl)) (pa_cons (pe_bltn (v := .ty "str") (by rfl) T.z_str PyProof.Rows.boot_str rfl) pa_nil))))))))) (pss_one (ps_ret pe_bl)) pss_nil)
      (pss_cons (ps_if (pt_val (pv 2)) (pss_one (ps_ret (pe_and (pe_cmpR op_eq (pe_ix ix_tup (pv 0) pe_int (fun _ _ => rfl)) pe_str (nomark _)) (pe_and (pe_callB (call_isI (c := .type "list")) (by rfl) T.z_isinstance PyProof.Rows.boot_isinstance (pa_cons (pe_ix ix_tup (pv 0) pe_int (fun _ _ => rfl)) (pa_cons (pe_bltn (v := .ty "list") (by rfl) T.z_list PyProof.Rows.boot_list rfl) pa_nil))) (pe_one (pe_cmpR op_in_seq (pv 1) (pe_ix ix_tup (pv 0) pe_int (fun _ _ => rfl)) (by with_unfolding_all rfl))))))) pss_nil)
      (pss_one (ps_ret (pe_and (pe_cmpR op_eq (pe_ix ix_tup (pv 0) pe_int (fun _ _ => rfl)) pe_str (nomark _)) (pe_one (pe_callB (call_isI (c := .type "dict")) (by rfl) T.z_isinstance PyProof.Rows.boot_isinstance (pa_cons (pe_ix ix_tup (pv 0) pe_int (fun _ _ => rfl)) (pa_cons (pe_bltn (v := .ty "dict") (by rfl) T.z_dict PyProof.Rows.boot_dict rfl) pa_nil))))))))), ?_⟩
    try dsimp only [cxOf, Cx.nox, Cx.wish]
    obtain ⟨wd, r, ht⟩ : ∃ wd r, H t = some (.tup [.str wd, .ref r]) := by
      rcases h with ⟨_, r, _, h, _⟩ | ⟨_, r, _, h, _⟩
      · exact ⟨_, r, h⟩
      · exact ⟨_, r, h⟩
    refine ⟨_, rfl, _, _, _, _, rfl, (fun u h => h), TyOf.tup ht, T.k_tuple_tuple, _, rfl, iteF ?_⟩
    refine ⟨_, rfl, t, _, rfl, .inr (SqT.of ht), rfl, _, rfl, iteF ?_⟩
    refine ⟨_, rfl, t, _, _, _, rfl, rfl, SqT.of ht, rfl, _, _, _, _, rfl, (fun u h => h), TyOf.str _, T.k_str_str, _, rfl, iteF ?_⟩
    rcases h with ⟨rfl, r', us, ht', hr', hl⟩ | ⟨rfl, d, kv, ht', hd⟩
    · rw [ht] at ht'
      cases ht'
      refine ⟨_, rfl, _, rfl, iteT ?_⟩
      refine ⟨_, rfl, t, _, _, _, rfl, rfl, SqT.of ht, rfl, rfl, _, rfl, iteC rfl ?_⟩
      refine ⟨_, rfl, t, _, _, _, rfl, rfl, SqT.of ht, rfl, _, _, _, _, rfl, (fun u h => h), TyOf.lst hr', T.k_list_list, _, rfl, iteT ?_⟩
      refine ⟨_, rfl, _, rfl, t, _, _, _, rfl, rfl, SqT.of ht, rfl, r, _, rfl, .inl (SqL.of hr'), rfl, flat_strs _, ?_⟩
      rw [inV_str, decide_eq_true hl]
      exact k
    · rw [ht] at ht'
      cases ht'
      refine ⟨_, rfl, _, rfl, iteF ?_⟩
      refine ⟨_, rfl, t, _, _, _, rfl, rfl, SqT.of ht, rfl, rfl, _, rfl, iteC rfl ?_⟩
      exact ⟨_, rfl, t, _, _, _, rfl, rfl, SqT.of ht, rfl, _, _, _, _, rfl, (fun u h => h), TyOf.dK hd, T.k_dict_dict, k⟩
inductive IspRfl (K : PySem.W.Frag) (a : Ad) (vs : List V) (H : Hp) (Q : VK) : Prop
  | mk (p l : Addr) (c : Bool) (ps : List (Str × Rat)) (ds : List WD) (ts : List Str) (i : Nat) (n : Str) (h1 : vs = [.ref p, .ref l, .bl c]) (h2 : BadN K a H p l ps ds ts i n) (h3 : ∀ t H', Same H H' → H' t = some (.tup [.str "way", .str n, .bl true]) → Q (.ref t) H') : IspRfl K a vs H Q
def spRfl (K : PySem.W.Frag) (a : Ad) : Sp := fun vs H Q _ => IspRfl K a vs H Q
theorem ok_law_refusal (T : TX K mg a) : FnB P w K mg base CX0 "_law_refusal" 12 ["_law_net_here", "_law_names_here", "_law_makes"] (spRfl K a) := by
  refine T.d_law_refusal.ok sc_law_refusal (fun vs H Q E h => ?_) (fun f cdv A outer s H vs Q E hr h => ?_)
  · obtain ⟨_, _, _, _, _, _, _, _, rfl, _⟩ := h
    rfl
  · obtain ⟨p, l, c, ps, ds, ts, i, n, rfl, D, k⟩ := h
    refine ⟨_, (pss_cons (ps_set (i := 3) sc_law_refusal.nd rfl (Or.inl rfl) (pe_tup (pa_cons pe_str (pa_cons pe_str (pa_cons pe_bl pa_nil)))))
      (pss_cons (ps_try (pssx_one (psx_if (pt_val (pv 2)) (pssx_one (psx_expr (px_fn (ok_makingX T) hr (pa_cons (pv 0) (pa_cons (pv 1) pa_nil))))) (pssx_one (psx_expr (px_fn (ok_eatingX T) hr (pa_cons (pv 0) (pa_cons (pv 1) pa_nil))))))) (ph_as (i := 4) (by rfl) T.mg_NoWay ⟨T.ca1_NoWay, T.ca2_NoWay, T.ca3_NoWay⟩ sc_law_refusal.nd rfl rfl (fun x => (pss_one (ps_set (i := 3) sc_law_refusal.nd rfl (Or.inl rfl) (pe_tup (pa_cons pe_str (pa_cons (pe_xfldK (K := K) rfl (pv 4) rfl) (pa_cons (pe_callB (call_isXDK (K := K) (c := .ref a.GainError) rfl) (by rfl) T.z_isinstance PyProof.Rows.boot_isinstance (pa_cons (pv 4) (pa_cons (pe_glob (v := .ref a.GainError) (by rfl) T.mg_GainError rfl) pa_nil))) pa_nil))))))) ph_never))
      (pss_one (ps_ret (pv 3))))), ?_⟩
    try dsimp only [cxOf, Cx.nox, Cx.wish]
    refine ⟨by show 3 ≤ sizeLine; decide, fun t0 nt0 => ?_⟩
    have s0 := same_upd (o := .tup [.str "taken", .str "", .bl true]) nt0
    generalize upd H t0 (.tup [.str "taken", .str "", .bl true]) = H0 at s0 ⊢
    refine ⟨_, rfl, _, rfl, ?_⟩
    have D0 := D.mono s0
    have hb : ∀ H' dx, Same H0 H' → H' dx = some (.xd [("name", .str n)]) → ∀ x, H' x = none → ∃ H1, upd H' x (XO x a.NoWay (some dx)) = H1 ∧ Same H H1 ∧ H1 x = some (XO x a.NoWay (some dx)) ∧ H1 dx = some (.xd [("name", .str n)]) := fun H' dx s' hd x nx => ⟨_, rfl, (s0.trans s').trans (same_upd nx), upd_same, same_upd nx _ _ hd⟩
    cases c with
    | true =>
      refine iteT ⟨_, rfl, _, rfl, p, l, ps, ds, ts, i, n, rfl, D0, fun H' dx s' hd => ?_⟩
      refine ⟨a.NoWay, true, rfl, T.su_NoWay_NoWay, iteT fun x nx => ?_⟩
      obtain ⟨H1, e1, s1, hx, hd1⟩ := hb H' dx s' hd x nx
      rw [e1]
      refine ⟨_, rfl, x, a.NoWay, dx, _, .str n, rfl, hx, hd1, T.exa_NoWay, T.hd_NoWay, T.na_NoWay_name, rfl, _, rfl, x, a.NoWay, .ref a.GainError, true, _, rfl, (fun u h => h), ⟨dx, hx, hd1⟩, T.exa_NoWay, T.k_NoWay_GainError, by show 3 ≤ sizeLine; decide, fun t nt => ?_⟩
      exact ⟨_, rfl, k t _ (s1.trans (same_upd nt)) upd_same⟩
    | false =>
      refine iteF ⟨_, rfl, _, rfl, p, l, ps, ds, ts, i, n, rfl, D0, fun H' dx s' hd => ?_⟩
      refine ⟨a.NoWay, true, rfl, T.su_NoWay_NoWay, iteT fun x nx => ?_⟩
      obtain ⟨H1, e1, s1, hx, hd1⟩ := hb H' dx s' hd x nx
      rw [e1]
      refine ⟨_, rfl, x, a.NoWay, dx, _, .str n, rfl, hx, hd1, T.exa_NoWay, T.hd_NoWay, T.na_NoWay_name, rfl, _, rfl, x, a.NoWay, .ref a.GainError, true, _, rfl, (fun u h => h), ⟨dx, hx, hd1⟩, T.exa_NoWay, T.k_NoWay_GainError, by show 3 ≤ sizeLine; decide, fun t nt => ?_⟩
      exact ⟨_, rfl, k t _ (s1.trans (same_upd nt)) upd_same⟩
structure Bt (i : Int) : Prop where
  le : Builtin.Int.intBits i ≤ 2 ^ 20
inductive IspLaw (K : PySem.W.Frag) (vs : List V) (H : Hp) (Q : VK) : Prop
  | mk (l : Addr) (ns : List Int) (h1 : vs = [.ref l]) (h2 : SqL K H l (ns.map V.int)) (h3 : ns.length ≤ 63) (h4 : (∀ i ∈ ns, Bt i)) (h5 : ∀ H', Q (.bl true) H') : IspLaw K vs H Q
def spLaw (K : PySem.W.Frag) : Sp := fun vs H Q _ => IspLaw K vs H Q
theorem no_qqx {x : Str} (h : Two x) : x ≠ "q.q.x" := fun e => by
  obtain ⟨s, t, ht⟩ := h
  rw [e] at ht
  have e : ("q.q.x" : Str).cps.toList = [113, 46, 113, 46, 120] := by decide +kernel
  rw [e] at ht
  have h1 := ht 113 (by simp)
  have h2 := ht 46 (by simp)
  have h3 := ht 120 (by simp)
  omega
theorem ok_law {f : Addr} {fd : FuncData} (N : Fun K "law" "law" s_law f fd) (T : TX K mg a) : FnOk P w K mg base CX0 14 f fd ["_law_script"] (spLaw K) := by
  refine N.ok sc_law (fun vs H Q E h => ?_) (fun cdv A outer s H vs Q E hr h => ?_)
  · obtain ⟨l, ns, rfl, _⟩ := h
    rfl
  · obtain ⟨l, ns, rfl, hS, hlen, hbt, k⟩ := h
    refine ⟨_, (pss_cons (ps_set (i := 1) sc_law.nd rfl (Or.inl rfl) (pe_fn (ok_law_cell_at T) hr pass0 (pa_cons (pv 0) (pa_cons pe_int pa_nil))))
      (pss_cons (ps_set (i := 2) sc_law.nd rfl (Or.inl rfl) (pe_fn (ok_law_names T) hr pass0 (pa_cons (pe_fn (ok_law_cell_at T) hr pass0 (pa_cons (pv 0) (pa_cons pe_int pa_nil))) (pa_cons (pe_op op_add pe_int (pe_op op_mod (pv 1) pe_int)) pa_nil))))
      (pss_cons (ps_set (i := 3) sc_law.nd rfl (Or.inl rfl) (pe_fn (ok_law_factor T) hr pass0 (pa_cons (pe_fn (ok_law_cell_at T) hr pass0 (pa_cons (pv 0) (pa_cons pe_int pa_nil))) pa_nil)))
      (pss_cons (ps_for PassesOwn.never rfl (pi_list (pe_lst (pa_cons pe_bl (pa_cons pe_bl pa_nil)))) (pg_name (i := 4) sc_law.nd rfl (Or.inl rfl)) (pss_cons (ps_set (i := 5) sc_law.nd rfl (Or.inl rfl) (pe_fn (ok_law_ways T) hr pass0 (pa_cons (pv 0) (pa_cons (pv 2) (pa_cons (pv 3) (pa_cons (pe_not (pv 4)) pa_nil))))))
      (pss_cons (ps_set (i := 6) sc_law.nd rfl (Or.inl rfl) (pe_fn (ok_law_net T) hr pass0 (pa_cons (pv 2) (pa_cons (pv 5) pa_nil))))
      (pss_cons (ps_set (i := 7) sc_law.nd rfl (Or.inl rfl) (pe_callTy (call_list_dict hr.hd) (by rfl) T.z_list PyProof.Rows.boot_list (pa_cons (pv 5) pa_nil)))
      (pss_cut (ps_set (i := 8) sc_law.nd rfl (Or.inl rfl) (pe_op op_mod (pe_op op_fdiv (pv 1) pe_int) (pe_callB call_lenK (by rfl) T.z_len PySem.boot_len (pa_cons (pv 7) pa_nil))))
      (pss_cons (ps_set (i := 9) sc_law.nd rfl (Or.inl rfl) (pe_op op_cat (pe_slice sl_list (pv 7) (po_some (pv 8)) po_none) (pe_slice sl_list (pv 7) po_none (po_some (pv 8)))))
      (pss_cut (ps_if (pt_val (pv 4)) (pss_one (ps_set (i := 10) sc_law.nd rfl (Or.inl rfl) (pe_fn (ok_making T) hr pass0 (pa_cons (pv 6) (pa_cons (pe_callTy call_list_of (by rfl) T.z_list PyProof.Rows.boot_list (pa_cons (pv 9) pa_nil)) pa_nil))))) (pss_one (ps_set (i := 10) sc_law.nd rfl (Or.inl rfl) (pe_fn (ok_eating T) hr pass0 (pa_cons (pv 6) (pa_cons (pe_callTy call_list_of (by rfl) T.z_list PyProof.Rows.boot_list (pa_cons (pv 9) pa_nil)) pa_nil))))))
      (pss_cons (ps_if (pt_not (pt_val (pe_fn (ok_law_right T) hr pass0 (pa_cons (pv 10) (pa_cons (pe_ix ix_list (pv 7) (pe_op op_sub (pe_callB call_lenK (by rfl) T.z_len PySem.boot_len (pa_cons (pv 2) pa_nil)) pe_int) (fun _ _ => rfl)) (pa_cons (pe_cmpR op_gt (pe_ix ix_tup (pv 3) pe_int (fun _ _ => rfl)) (pe_ix ix_tup (pv 3) pe_int (fun _ _ => rfl)) (nomark _)) pa_nil)))))) (pss_one (ps_ret pe_bl)) pss_nil)
      (pss_cons (ps_expr (pe_bm PySem.F.plainAttrs_list PySem.F.slot_list_insert PySem.F.type_list_insert mt_insert (pv 9) (pa_cons (pe_op op_mod (pe_op op_fdiv (pv 1) pe_int) (pe_op op_add (pe_callB call_lenK (by rfl) T.z_len PySem.boot_len (pa_cons (pv 9) pa_nil)) pe_int)) (pa_cons pe_str pa_nil))))
      (pss_cut (ps_if (pt_cmpR op_eq (pe_op op_mod (pv 1) pe_int) pe_int (nomark _)) (pss_one (ps_expr (pe_bm PySem.F.plainAttrs_list PySem.F.slot_list_append PySem.F.type_list_append mt_append (pv 9) (pa_cons pe_str pa_nil)))) pss_nil)
      (pss_one (ps_if (pt_cmpR (op_neT hr.units0) (pe_fn (ok_law_refusal T) hr pass0 (pa_cons (pv 6) (pa_cons (pv 9) (pa_cons (pv 4) pa_nil)))) (pe_tup (pa_cons pe_str (pa_cons pe_str (pa_cons pe_bl pa_nil)))) (nomark _)) (pss_one (ps_ret pe_bl)) pss_nil))))))))))))
      (pss_one (ps_ret pe_bl)))))), ?_⟩
    try dsimp only [cxOf, Cx.nox, Cx.wish]
    refine ⟨_, rfl, l, ns, 0, rfl, hS, by decide, by decide, fun c0 => ?_⟩
    refine ⟨_, rfl, l, ns, 1, rfl, hS, by decide, by decide, fun c1 => ?_⟩
    obtain ⟨m0, m1⟩ := emod_in c0 (show (0 : Int) < 6 by decide)
    obtain ⟨m, hm⟩ := Int.eq_ofNat_of_zero_le m0
    refine ⟨_, rfl, _, _, rfl, rfl, by show (0 : Int) < 6; decide, _, _, rfl, rfl, c1, 2 + m, by rw [hm]; rfl, by omega, fun ls H1 sp nls s1 hls hN => ?_⟩
    obtain ⟨n, hn⟩ : ∃ n, 2 + m = n := ⟨_, rfl⟩
    rw [hn] at hN
    refine ⟨_, rfl, l, ns, 5, rfl, s1.seq hS, by decide, by decide, fun c5 => ?_⟩
    refine ⟨c5, rfl, fun Ft Fb pf fb npf => ?_⟩
    have s2' := same_upd (o := .tup [.int Ft, .int Fb]) npf
    have hF : upd H1 pf (.tup [.int Ft, .int Fb]) pf = some (.tup [.int Ft, .int Fb]) := upd_same
    have hls2 := s2' _ _ hls
    have s2 := s1.trans s2'
    generalize upd H1 pf (.tup [.int Ft, .int Fb]) = H2 at hF hls2 s2 ⊢
    clear s2' hls s1
    refine ⟨by show 2 ≤ sizeLine; decide, fun lq nlq => ?_⟩
    have s3 := s2.trans (same_upd (o := .lst [.bl true, .bl false]) nlq)
    have hF3 := same_upd (o := .lst [.bl true, .bl false]) nlq _ _ hF
    have hls3 := same_upd (o := .lst [.bl true, .bl false]) nlq _ _ hls2
    have hlq : upd H2 lq (.lst [.bl true, .bl false]) lq = some (.lst ([true, false].map V.bl)) := upd_same
    generalize upd H2 lq (.lst [.bl true, .bl false]) = H3 at s3 hF3 hls3 hlq ⊢
    clear hF hls2 s2
    refine ⟨lq, rfl, ⟨_, SqL.of hlq⟩, for_list (K := K) (a := lq) (xs := [true, false].map V.bl) (fun i σ H4 => ∃ z4 z5 z6 z7 z8 z9 z10, σ = [some (.ref l), some (.int c0), some (.ref ls), some (.ref pf), z4, z5, z6, z7, z8, z9, z10] ∧ Same H3 H4) ⟨_, _, _, _, _, _, _, rfl, Same.refl _⟩ (fun i σ H4 _ ⟨_, _, _, _, _, _, _, _, s4⟩ => SqL.of (s4 _ _ hlq)) ?_ ?_⟩
    · rintro i x σ H4 hx ⟨z4, z5, z6, z7, z8, z9, z10, rfl, s4⟩
      rw [List.getElem?_map] at hx
      cases eb : [true, false][i]? with
      | none => rw [eb] at hx; cases hx
      | some c =>
        rw [eb] at hx
        cases hx
        have s14 := s3.trans s4
        refine ⟨_, rfl, _, rfl, _, rfl, _, rfl, _, rfl, l, ls, pf, ns, sp, n, (Ft, Fb), !c, rfl, s14.seq hS, SqL.of (s4 _ _ hls3), hN, by omega, by omega, s4 _ _ hF3, fb, fun d H5 rs pl nd s5 hR ok ge le two pot row => ?_⟩
        have s45 := s4.trans s5
        have lsp : sp.length ≤ 12 := by rw [hN.len]; omega
        refine ⟨_, rfl, _, rfl, ls, d, sp, rs, rfl, SqL.of (s45 _ _ hls3), hN.nd, lsp, hR, ok, fun np H6 nnp s6 hnet => ?_⟩
        have s46 := s45.trans s6
        have hR6 := hR.mono s6
        obtain ⟨kvs, hd, hk, _⟩ := id hR6
        have ek : (kvs.map fun kv => kV kv.1) = (rs.map (·.nm)).map V.str := by
          have := congrArg (List.map kV) hk
          rw [List.map_map, List.map_map] at this
          rw [List.map_map]
          exact this
        refine ⟨_, rfl, d, kvs, rfl, .inl hd, fun lb nlb => ?_⟩
        rw [ek]
        have s7 := same_upd (o := .lst ((rs.map (·.nm)).map V.str)) nlb
        have hlb : upd H6 lb (.lst ((rs.map (·.nm)).map V.str)) lb = some (.lst ((rs.map (·.nm)).map V.str)) := upd_same
        generalize upd H6 lb (.lst ((rs.map (·.nm)).map V.str)) = H7 at s7 hlb ⊢
        have llb : ((rs.map (·.nm)).map V.str).length = rs.length := by rw [List.length_map, List.length_map]
        have pz : (0 : Int) < (rs.length : Int) := by omega
        obtain ⟨j0, j1⟩ := emod_in (c0 / 6) pz
        obtain ⟨j, hj⟩ := Int.eq_ofNat_of_zero_le j0
        refine ⟨fun σ' H' => σ' = [some (.ref l), some (.int c0), some (.ref ls), some (.ref pf), some (.bl c), some (.ref d), some (.ref np), some (.ref lb), some (.int j), z9, z10] ∧ H' = H7, ?_, ?_⟩
        · refine ⟨_, rfl, _, _, rfl, rfl, ⟨by decide, by decide⟩, _, rfl, lb, _, rfl, .inl (SqL.of hlb), _, _, rfl, rfl, by rw [llb]; exact pz, ?_⟩
          have ej : c0 / 6 % (((rs.map (·.nm)).map V.str).length : Int) = (j : Int) := by rw [llb]; exact hj
          rw [← ej]
          exact ⟨rfl, rfl⟩
        rintro σ' H' ⟨rfl, e⟩
        rw [e]
        clear e H'
        refine ⟨_, rfl, _, rfl, _, rfl, lb, _, rfl, SqL.of hlb, fun q1 nq1 => ?_⟩
        rw [cut_drop]
        have s8 := same_upd (o := .lst (((rs.map (·.nm)).map V.str).drop j)) nq1
        have hq1 : upd H7 q1 (.lst (((rs.map (·.nm)).map V.str).drop j)) q1 = some (.lst (((rs.map (·.nm)).map V.str).drop j)) := upd_same
        generalize upd H7 q1 (.lst (((rs.map (·.nm)).map V.str).drop j)) = H8 at s8 hq1 ⊢
        refine ⟨_, rfl, _, rfl, _, rfl, lb, _, rfl, SqL.of (s8 _ _ hlb), fun q2 nq2 => ?_⟩
        rw [cut_take]
        have s9 := same_upd (o := .lst (((rs.map (·.nm)).map V.str).take j)) nq2
        have hq2 : upd H8 q2 (.lst (((rs.map (·.nm)).map V.str).take j)) q2 = some (.lst (((rs.map (·.nm)).map V.str).take j)) := upd_same
        generalize upd H8 q2 (.lst (((rs.map (·.nm)).map V.str).take j)) = H9 at s9 hq2 ⊢
        have s79 := s8.trans s9
        have lcat : (((rs.map (·.nm)).map V.str).drop j ++ ((rs.map (·.nm)).map V.str).take j).length ≤ 15 := by rw [List.length_append, List.length_drop, List.length_take, llb]; omega
        refine ⟨q1, q2, _, _, rfl, rfl, s9 _ _ hq1, hq2, Nat.le_trans (by rw [← List.length_append]; exact lcat) (show 15 ≤ sizeLine by decide), fun ln nln => ?_⟩
        obtain ⟨us, hus⟩ : ∃ us, rs.drop j ++ rs.take j = us := ⟨_, rfl⟩
        have eus : ((rs.map (·.nm)).map V.str).drop j ++ ((rs.map (·.nm)).map V.str).take j = (us.map (·.nm)).map V.str := by rw [← hus, List.map_append, List.map_append, List.map_drop, List.map_drop, List.map_take, List.map_take]
        have sub : ∀ r ∈ us, r ∈ rs := fun r hr => by
          rw [← hus] at hr
          rcases List.mem_append.mp hr with z | z
          · exact List.mem_of_mem_drop z
          · exact List.mem_of_mem_take z
        have sup : ∀ r ∈ rs, r ∈ us := fun r hr => by
          rw [← hus]
          rw [← List.take_append_drop j rs] at hr
          rcases List.mem_append.mp hr with z | z
          · exact List.mem_append_right _ z
          · exact List.mem_append_left _ z
        have lus : us.length ≤ 15 := by rw [← hus, List.length_append, List.length_drop, List.length_take]; omega
        rw [eus]
        have s10 := same_upd (o := .lst ((us.map (·.nm)).map V.str)) nln
        have hln : upd H9 ln (.lst ((us.map (·.nm)).map V.str)) ln = some (.lst ((us.map (·.nm)).map V.str)) := upd_same
        generalize upd H9 ln (.lst ((us.map (·.nm)).map V.str)) = H10 at s10 hln ⊢
        have s610 := s7.trans (s79.trans s10)
        have nln6 : H6 ln = none := (s7.trans s79).free nln
        have hlb10 := (s79.trans s10) _ _ hlb
        clear s10 nln s9 s8 hq1 hq2 s79 s7 hlb lcat eus nq1 nq2 nlb
        have D : Net30 sp pl n (Ft, Fb) (!c) rs := ⟨hN.nd, hN.len, by omega, ge, pot, fun r hr => (ok.all r hr).gb, row⟩
        obtain ⟨z, hz⟩ : ∃ z, rs[n - 1]? = some z := ⟨_, List.getElem?_eq_getElem (by omega)⟩
        refine ⟨fun σ' H' => ∃ t, σ' = [some (.ref l), some (.int c0), some (.ref ls), some (.ref pf), some (.bl c), some (.ref d), some (.ref np), some (.ref lb), some (.int j), some (.ref ln), some (.ref t)] ∧ Same H10 H' ∧ ∃ H0, RgOut a H0 H' t c (netOf sp) (us.map WR.d), ?_, ?_⟩
        · have R : ∀ H' lc, Same H6 H' → H' lc = some (.lst ((us.map (·.nm)).map V.str)) → RgIn K a H' np lc (netOf sp) (rs.map WR.d) (us.map WR.d) 200 := fun H' lc s' h => rg_in (hnet.mono s') ok hN.nd (by rw [hN.len]; omega) lsp (by rw [List.map_map] at h; exact SqL.of h) sub (by omega)
          refine ⟨_, rfl, _, rfl, ?_⟩
          cases c with
          | true =>
            refine iteT ⟨_, rfl, _, rfl, ln, _, rfl, .inl (SqL.of hln), fun lc nlc => ?_⟩
            have s11 := same_upd (o := .lst ((us.map (·.nm)).map V.str)) nlc
            exact ⟨np, lc, _, _, _, 200, rfl, R _ lc (s610.trans s11) upd_same, fun t H' s' o => ⟨t, rfl, s11.trans s', _, o⟩⟩
          | false =>
            refine iteF ⟨_, rfl, _, rfl, ln, _, rfl, .inl (SqL.of hln), fun lc nlc => ?_⟩
            have s11 := same_upd (o := .lst ((us.map (·.nm)).map V.str)) nlc
            exact ⟨np, lc, _, _, _, 200, rfl, R _ lc (s610.trans s11) upd_same, fun t H' s' o => ⟨t, rfl, s11.trans s', _, o⟩⟩
        rintro σ' H11 ⟨t, rfl, s11, H0, out⟩
        have s611 := s610.trans s11
        have hln11 := s11 _ _ hln
        have hlb11 := s11 _ _ hlb10
        have hF11 := s611 _ _ (s46 _ _ hF3)
        have hls11 := s611 _ _ (s46 _ _ hls3)
        have gbs : ∀ r ∈ us, GB r.t r.b := fun r hr => (ok.all r (sub r hr)).gb
        have alast : atI ((rs.map (·.nm)).map V.str) (((sp.map V.str).length : Int) - 1) = some (.str z.nm) := by
          rw [List.length_map, hN.len, show (n : Int) - 1 = ((n - 1 : Nat) : Int) by omega]
          exact at_str (by rw [List.getElem?_map, hz]; rfl)
        refine ⟨_, rfl, _, rfl, _, rfl, ls, _, rfl, .inl (SqL.of hls11), _, _, rfl, rfl, lb, _, _, _, rfl, rfl, SqL.of hlb11, alast, _, rfl, pf, _, _, _, rfl, rfl, SqT.of hF11, rfl, _, rfl, pf, _, _, _, rfl, rfl, SqT.of hF11, rfl, _, _, rfl, rfl, t, z.nm, decide (Fb < Ft), rfl, ?_, _, rfl, iteF ?_⟩
        · have cc : (!(!c)) = c := by cases c <;> rfl
          rcases out with ⟨r, ring, _, ht, hr', rg⟩ | ⟨dv, v, _, ht, ⟨kv, hv, _⟩, wg⟩
          · obtain ⟨rr, rfl, rgr⟩ := ring_d gbs rg
            rw [← cc] at rgr
            obtain ⟨hf, mz⟩ := ring30 D sub hz rgr
            refine .inl ⟨decide_eq_true hf, r, rr.map (·.nm), ht, ?_, List.mem_map.mpr ⟨z, mz, rfl⟩⟩
            rw [hr', List.map_map, List.map_map]
            congr 2
            exact List.map_congr_left fun x _ => congrArg V.str (WR.d_nm x)
          · have nf := wgt30 D wg.pos fun r hr => by
              have := wg.le r.d (List.mem_map.mpr ⟨r, sup r hr, rfl⟩)
              rw [WR.d_gain (ok.all r hr).gb, WR.d_go, WR.d_st, ← cc] at this
              exact this
            exact .inr ⟨decide_eq_false nf, dv, kv, ht, hv⟩
        have lln : ((us.map (·.nm)).map V.str).length = us.length := by rw [List.length_map, List.length_map]
        have pq : (0 : Int) < (us.length : Int) + 1 := by omega
        obtain ⟨i0, i1⟩ := emod_in (c0 / 42) pq
        obtain ⟨ii, hii⟩ := Int.eq_ofNat_of_zero_le i0
        refine ⟨_, rfl, .inl ⟨rfl, _, SqL.of hln11⟩, _, rfl, _, _, rfl, rfl, ⟨by decide, by decide⟩, _, rfl, ln, _, rfl, .inl (SqL.of hln11), _, _, rfl, rfl, _, _, rfl, rfl, by rw [lln]; exact pq, ln, _, ii, .str "q.q.x", rfl, by rw [lln]; show [V.int (c0 / 42 % ((us.length : Int) + 1)), V.str "q.q.x"] = _; rw [hii], hln11, by rw [lln]; omega, by rw [lln]; omega, ?_⟩
        obtain ⟨ts, hts⟩ : ∃ ts : List Str, (us.map (·.nm)).take ii ++ ("q.q.x" : Str) :: (us.map (·.nm)).drop ii = ts := ⟨_, rfl⟩
        have ets : ((us.map (·.nm)).map V.str).take ii ++ V.str "q.q.x" :: ((us.map (·.nm)).map V.str).drop ii = ts.map V.str := by rw [← hts, List.map_append, List.map_cons, List.map_take, List.map_drop]
        rw [ets]
        have s612 : Same H6 (upd H11 ln (.lst (ts.map V.str))) := same_put nln6 s611
        have hln12 : upd H11 ln (.lst (ts.map V.str)) ln = some (.lst (ts.map V.str)) := upd_same
        generalize upd H11 ln (.lst (ts.map V.str)) = H12 at s612 hln12 ⊢
        have lts : ts.length ≤ 16 := by
          rw [← hts, List.length_append, List.length_cons, List.length_take, List.length_drop, List.length_map]
          omega
        have lii : ((us.map (·.nm)).take ii).length = ii := by rw [List.length_take, List.length_map]; omega
        have atq : ts[ii]? = some ("q.q.x" : Str) := by
          rw [← hts, List.getElem?_append_right (by omega), lii, Nat.sub_self]
          rfl
        have ahead : ∀ (q : Nat) (m : Str), q < ii → ts[q]? = some m → m ∈ (rs.map WR.d).map (·.nm) := fun q m hq e => by
          rw [← hts, List.getElem?_append_left (by omega)] at e
          obtain ⟨r, hr, er⟩ := List.mem_map.mp (List.mem_of_mem_take (List.mem_of_getElem? e))
          rw [List.map_map]
          exact List.mem_map.mpr ⟨r, sub r hr, by rw [← er]; exact WR.d_nm r⟩
        refine ⟨fun σ' H' => ∃ tl : List Str, σ' = [some (.ref l), some (.int c0), some (.ref ls), some (.ref pf), some (.bl c), some (.ref d), some (.ref np), some (.ref lb), some (.int j), some (.ref ln), some (.ref t)] ∧ Same H6 H' ∧ H' ln = some (.lst ((ts ++ tl).map V.str)) ∧ tl.length ≤ 1, ?_, ?_⟩
        · refine ⟨_, rfl, _, _, rfl, rfl, by show (0 : Int) < 2; decide, rfl, _, rfl, ifV (fun _ => ?_) (fun _ => ?_)⟩
          · refine ⟨_, rfl, .inl ⟨rfl, _, SqL.of hln12⟩, ln, _, _, rfl, rfl, hln12, small1000 (by rw [List.length_map]; omega), ?_⟩
            exact ⟨["no.way"], rfl, same_put nln6 s612, by rw [upd_same, List.map_append]; rfl, Nat.le_refl _⟩
          · exact ⟨[], rfl, s612, by rw [List.append_nil]; exact hln12, Nat.zero_le _⟩
        rintro σ' H13 ⟨tl, rfl, s613, hln13, ltl⟩
        have O := ok.net hN.nd lsp
        refine ⟨_, rfl, _, rfl, _, rfl, np, ln, c, netOf sp, rs.map WR.d, ts ++ tl, ii, "q.q.x", rfl, ⟨hnet.mono s613, O.nd, SqL.of hln13, by rw [List.length_append]; omega, by rw [List.getElem?_append_left (by rw [List.getElem?_eq_some_iff] at atq; exact atq.1)]; exact atq, fun z => ?_, fun q m hq e => ?_, by decide⟩, fun t2 H14 s14' ht2 => ?_⟩
        · rw [List.map_map] at z
          obtain ⟨r, hr, er⟩ := List.mem_map.mp z
          exact no_qqx (two r hr).1 (by rw [← er]; exact (WR.d_nm r).symm)
        · rw [List.getElem?_append_left (by rw [List.getElem?_eq_some_iff] at atq; have := atq.1; omega)] at e
          exact ahead q m hq e
        · refine ⟨by show 3 ≤ sizeLine; decide, fun t3 nt3 => ?_⟩
          have s15 := same_upd (o := .tup [.str "way", .str "q.q.x", .bl true]) nt3
          refine ⟨t2, t3, _, _, rfl, rfl, SqT.of (s15 _ _ ht2), SqT.of upd_same, rfl, rfl, _, rfl, iteD (by decide +kernel) ?_⟩
          exact ⟨_, _, _, _, _, _, _, rfl, s46.trans (s613.trans (s14'.trans s15))⟩
    · rintro σ H4 ⟨z4, z5, z6, z7, z8, z9, z10, rfl, s4⟩
      exact k _
end
end G
namespace G
open PySem L2
theorem lm1 {α : Type} : ∀ us : List α, us.length = 1 → ∃ a, us = [a]
  | [a], _ => ⟨a, rfl⟩
theorem lm2 {α : Type} : ∀ us : List α, us.length = 2 → ∃ a b, us = [a, b]
  | [a, b], _ => ⟨a, b, rfl⟩
theorem lm3 {α : Type} : ∀ us : List α, us.length = 3 → ∃ a b c, us = [a, b, c]
  | [a, b, c], _ => ⟨a, b, c, rfl⟩
theorem lm4 {α : Type} : ∀ us : List α, us.length = 4 → ∃ a b c d, us = [a, b, c, d]
  | [a, b, c, d], _ => ⟨a, b, c, d, rfl⟩
theorem lm5 {α : Type} : ∀ us : List α, us.length = 5 → ∃ a b c d e, us = [a, b, c, d, e]
  | [a, b, c, d, e], _ => ⟨a, b, c, d, e, rfl⟩
theorem lm6 {α : Type} : ∀ us : List α, us.length = 6 → ∃ a b c d e f, us = [a, b, c, d, e, f]
  | [a, b, c, d, e, f], _ => ⟨a, b, c, d, e, f, rfl⟩
theorem lm7 {α : Type} : ∀ us : List α, us.length = 7 → ∃ a b c d e f g, us = [a, b, c, d, e, f, g]
  | [a, b, c, d, e, f, g], _ => ⟨a, b, c, d, e, f, g, rfl⟩
theorem all_mk {l : W.OpenLaw} {w : World} {K : W.Frag} {h : Heap} {mg : Str → Option Value} {fa A_Fraction A_Way A_Growing A_Leaking A_Store A_Net A_GainError A_NoNumber A_TooMany A_NoWay A_Twice A_NoPlace : Addr} (X : K.In h) (G : h.Ns mainGlobals mg) (hfa : mg "law" = some (.ref fa))
    {fQ0 fQ1 fQ2 fQ3 fQ4 fQ5 fQ6 fQ7 fQ8 fQ9 fQ10 fQ11 fQ12 fQ13 fQ14 fQ15 fQ16 fQ17 fQ18 fQ19 fQ20 fQ21 fQ22 fDlaw fIFraction TIFraction fQ23 fQ24 fQ25 fQ26 fQ27 fQ28 fIWay TIWay fQ29 fQ30 fIGrowing TIGrowing fQ31 fILeaking TILeaking fQ32 fQ33 fQ34 fQ35 fQ36 fQ37 : Addr}
    {odQ0 anQ0 odQ1 anQ1 odQ2 anQ2 odQ3 anQ3 odQ4 anQ4 odQ5 anQ5 odQ6 anQ6 odQ7 anQ7 odQ8 anQ8 odQ9 anQ9 odQ10 anQ10 odQ11 anQ11 odQ12 anQ12 odQ13 anQ13 odQ14 anQ14 odQ15 anQ15 odQ16 anQ16 odQ17 anQ17 odQ18 anQ18 odQ19 anQ19 odQ20 anQ20 odQ21 anQ21 odQ22 anQ22 odDlaw anDlaw odIFraction anIFraction odQ23 anQ23 odQ24 anQ24 odQ25 anQ25 odQ26 anQ26 odQ27 anQ27 odQ28 anQ28 odIWay anIWay odQ29 anQ29 odQ30 anQ30 odIGrowing anIGrowing odQ31 anQ31 odILeaking anILeaking odQ32 anQ32 odQ33 anQ33 odQ34 anQ34 odQ35 anQ35 odQ36 anQ36 odQ37 anQ37 : Option Addr}
    {slQ0 slQ1 slQ2 slQ3 slQ4 slQ5 slQ6 slQ7 slQ8 slQ9 slQ10 slQ11 slQ12 slQ13 slQ14 slQ15 slQ16 slQ17 slQ18 slQ19 slQ20 slQ21 slQ22 slDlaw slIFraction slQ23 slQ24 slQ25 slQ26 slQ27 slQ28 slIWay slQ29 slQ30 slIGrowing slQ31 slILeaking slQ32 slQ33 slQ34 slQ35 slQ36 slQ37 : Array (Option Value)}
    {ocQ0 kVQ0 dcQ0 pmQ0 cdQ0 ctQ0 ocQ1 kVQ1 dcQ1 pmQ1 cdQ1 ctQ1 ocQ2 kVQ2 dcQ2 pmQ2 cdQ2 ctQ2 ocQ3 kVQ3 dcQ3 pmQ3 cdQ3 ctQ3 ocQ4 kVQ4 dcQ4 pmQ4 cdQ4 ctQ4 ocQ5 kVQ5 dcQ5 pmQ5 cdQ5 ctQ5 ocQ6 kVQ6 dcQ6 pmQ6 cdQ6 ctQ6 ocQ7 kVQ7 dcQ7 pmQ7 cdQ7 ctQ7 ocQ8 kVQ8 dcQ8 pmQ8 cdQ8 ctQ8 ocQ9 kVQ9 dcQ9 pmQ9 cdQ9 ctQ9 ocQ10 kVQ10 dcQ10 pmQ10 cdQ10 ctQ10 ocQ11 kVQ11 dcQ11 pmQ11 cdQ11 ctQ11 ocQ12 kVQ12 dcQ12 pmQ12 cdQ12 ctQ12 ocQ13 kVQ13 dcQ13 pmQ13 cdQ13 ctQ13 ocQ14 kVQ14 dcQ14 pmQ14 cdQ14 ctQ14 ocQ15 kVQ15 dcQ15 pmQ15 cdQ15 ctQ15 ocQ16 kVQ16 dcQ16 pmQ16 cdQ16 ctQ16 ocQ17 kVQ17 dcQ17 pmQ17 cdQ17 ctQ17 ocQ18 kVQ18 dcQ18 pmQ18 cdQ18 ctQ18 ocQ19 kVQ19 dcQ19 pmQ19 cdQ19 ctQ19 ocQ20 kVQ20 dcQ20 pmQ20 cdQ20 ctQ20 ocQ21 kVQ21 dcQ21 pmQ21 cdQ21 ctQ21 ocQ22 kVQ22 dcQ22 pmQ22 cdQ22 ctQ22 ocDlaw kVDlaw dcDlaw pmDlaw cdDlaw ctDlaw ocIFraction kVIFraction dcIFraction pmIFraction cdIFraction ctIFraction ocQ23 kVQ23 dcQ23 pmQ23 cdQ23 ctQ23 ocQ24 kVQ24 dcQ24 pmQ24 cdQ24 ctQ24 ocQ25 kVQ25 dcQ25 pmQ25 cdQ25 ctQ25 ocQ26 kVQ26 dcQ26 pmQ26 cdQ26 ctQ26 ocQ27 kVQ27 dcQ27 pmQ27 cdQ27 ctQ27 ocQ28 kVQ28 dcQ28 pmQ28 cdQ28 ctQ28 ocIWay kVIWay dcIWay pmIWay cdIWay ctIWay ocQ29 kVQ29 dcQ29 pmQ29 cdQ29 ctQ29 ocQ30 kVQ30 dcQ30 pmQ30 cdQ30 ctQ30 ocIGrowing kVIGrowing dcIGrowing pmIGrowing cdIGrowing ctIGrowing ocQ31 kVQ31 dcQ31 pmQ31 cdQ31 ctQ31 ocILeaking kVILeaking dcILeaking pmILeaking cdILeaking ctILeaking ocQ32 kVQ32 dcQ32 pmQ32 cdQ32 ctQ32 ocQ33 kVQ33 dcQ33 pmQ33 cdQ33 ctQ33 ocQ34 kVQ34 dcQ34 pmQ34 cdQ34 ctQ34 ocQ35 kVQ35 dcQ35 pmQ35 cdQ35 ctQ35 ocQ36 kVQ36 dcQ36 pmQ36 cdQ36 ctQ36 ocQ37 kVQ37 dcQ37 pmQ37 cdQ37 ctQ37 : Value}
    {oIFraction oIWay oIGrowing oILeaking : Obj}
    {nIFraction nIWay nIGrowing nILeaking : Nat}
    {tkIFraction0 tk_MOST_PLACES tk_MOST_WAYS : Tok}
    {cdx_NoWay cd_ca2_NoWay cd_xcl_NoWay : ClassData}
    (n_Fraction : W.nsIn K mainGlobals "Fraction" = some (some (.ref A_Fraction)))
    (n_Way : W.nsIn K mainGlobals "Way" = some (some (.ref A_Way)))
    (n_Growing : W.nsIn K mainGlobals "Growing" = some (some (.ref A_Growing)))
    (n_Leaking : W.nsIn K mainGlobals "Leaking" = some (some (.ref A_Leaking)))
    (n_Store : W.nsIn K mainGlobals "Store" = some (some (.ref A_Store)))
    (n_Net : W.nsIn K mainGlobals "Net" = some (some (.ref A_Net)))
    (n_GainError : W.nsIn K mainGlobals "GainError" = some (some (.ref A_GainError)))
    (n_NoNumber : W.nsIn K mainGlobals "NoNumber" = some (some (.ref A_NoNumber)))
    (n_TooMany : W.nsIn K mainGlobals "TooMany" = some (some (.ref A_TooMany)))
    (n_NoWay : W.nsIn K mainGlobals "NoWay" = some (some (.ref A_NoWay)))
    (n_Twice : W.nsIn K mainGlobals "Twice" = some (some (.ref A_Twice)))
    (n_NoPlace : W.nsIn K mainGlobals "NoPlace" = some (some (.ref A_NoPlace)))
    (aQ0 : W.nsIn K mainGlobals "divisor" = some (some (.ref fQ0)))
    (lQ0 : K.lookup fQ0 = some ⟨ocQ0, odQ0, .func (W.fnOf "divisor" "divisor" (defArgs s_divisor) (defBody s_divisor) (defScope s_divisor) .none kVQ0 dcQ0 pmQ0 anQ0 cdQ0 ctQ0), slQ0⟩)
    (cQ0 : W.codeIn K cdQ0 "divisor" = true)
    (kQ0 : W.keepIn K (.ref fQ0) = true)
    (aQ1 : W.nsIn K mainGlobals "in_lowest_terms" = some (some (.ref fQ1)))
    (lQ1 : K.lookup fQ1 = some ⟨ocQ1, odQ1, .func (W.fnOf "in_lowest_terms" "in_lowest_terms" (defArgs s_in_lowest_terms) (defBody s_in_lowest_terms) (defScope s_in_lowest_terms) .none kVQ1 dcQ1 pmQ1 anQ1 cdQ1 ctQ1), slQ1⟩)
    (cQ1 : W.codeIn K cdQ1 "in_lowest_terms" = true)
    (kQ1 : W.keepIn K (.ref fQ1) = true)
    (aQ2 : W.nsIn K mainGlobals "is_more" = some (some (.ref fQ2)))
    (lQ2 : K.lookup fQ2 = some ⟨ocQ2, odQ2, .func (W.fnOf "is_more" "is_more" (defArgs s_is_more) (defBody s_is_more) (defScope s_is_more) .none kVQ2 dcQ2 pmQ2 anQ2 cdQ2 ctQ2), slQ2⟩)
    (cQ2 : W.codeIn K cdQ2 "is_more" = true)
    (kQ2 : W.keepIn K (.ref fQ2) = true)
    (aQ3 : W.nsIn K mainGlobals "is_less" = some (some (.ref fQ3)))
    (lQ3 : K.lookup fQ3 = some ⟨ocQ3, odQ3, .func (W.fnOf "is_less" "is_less" (defArgs s_is_less) (defBody s_is_less) (defScope s_is_less) .none kVQ3 dcQ3 pmQ3 anQ3 cdQ3 ctQ3), slQ3⟩)
    (cQ3 : W.codeIn K cdQ3 "is_less" = true)
    (kQ3 : W.keepIn K (.ref fQ3) = true)
    (aQ4 : W.nsIn K mainGlobals "bettered" = some (some (.ref fQ4)))
    (lQ4 : K.lookup fQ4 = some ⟨ocQ4, odQ4, .func (W.fnOf "bettered" "bettered" (defArgs s_bettered) (defBody s_bettered) (defScope s_bettered) .none kVQ4 dcQ4 pmQ4 anQ4 cdQ4 ctQ4), slQ4⟩)
    (cQ4 : W.codeIn K cdQ4 "bettered" = true)
    (kQ4 : W.keepIn K (.ref fQ4) = true)
    (aQ5 : W.nsIn K mainGlobals "ring_along" = some (some (.ref fQ5)))
    (lQ5 : K.lookup fQ5 = some ⟨ocQ5, odQ5, .func (W.fnOf "ring_along" "ring_along" (defArgs s_ring_along) (defBody s_ring_along) (defScope s_ring_along) .none kVQ5 dcQ5 pmQ5 anQ5 cdQ5 ctQ5), slQ5⟩)
    (cQ5 : W.codeIn K cdQ5 "ring_along" = true)
    (kQ5 : W.keepIn K (.ref fQ5) = true)
    (aQ6 : W.nsIn K mainGlobals "place_bettered" = some (some (.ref fQ6)))
    (lQ6 : K.lookup fQ6 = some ⟨ocQ6, odQ6, .func (W.fnOf "place_bettered" "place_bettered" (defArgs s_place_bettered) (defBody s_place_bettered) (defScope s_place_bettered) .none kVQ6 dcQ6 pmQ6 anQ6 cdQ6 ctQ6), slQ6⟩)
    (cQ6 : W.codeIn K cdQ6 "place_bettered" = true)
    (kQ6 : W.keepIn K (.ref fQ6) = true)
    (aQ7 : W.nsIn K mainGlobals "ones" = some (some (.ref fQ7)))
    (lQ7 : K.lookup fQ7 = some ⟨ocQ7, odQ7, .func (W.fnOf "ones" "ones" (defArgs s_ones) (defBody s_ones) (defScope s_ones) .none kVQ7 dcQ7 pmQ7 anQ7 cdQ7 ctQ7), slQ7⟩)
    (cQ7 : W.codeIn K cdQ7 "ones" = true)
    (kQ7 : W.keepIn K (.ref fQ7) = true)
    (aQ8 : W.nsIn K mainGlobals "ring_or_weights" = some (some (.ref fQ8)))
    (lQ8 : K.lookup fQ8 = some ⟨ocQ8, odQ8, .func (W.fnOf "ring_or_weights" "ring_or_weights" (defArgs s_ring_or_weights) (defBody s_ring_or_weights) (defScope s_ring_or_weights) .none kVQ8 dcQ8 pmQ8 anQ8 cdQ8 ctQ8), slQ8⟩)
    (cQ8 : W.codeIn K cdQ8 "ring_or_weights" = true)
    (kQ8 : W.keepIn K (.ref fQ8) = true)
    (aQ9 : W.nsIn K mainGlobals "making" = some (some (.ref fQ9)))
    (lQ9 : K.lookup fQ9 = some ⟨ocQ9, odQ9, .func (W.fnOf "making" "making" (defArgs s_making) (defBody s_making) (defScope s_making) .none kVQ9 dcQ9 pmQ9 anQ9 cdQ9 ctQ9), slQ9⟩)
    (cQ9 : W.codeIn K cdQ9 "making" = true)
    (kQ9 : W.keepIn K (.ref fQ9) = true)
    (aQ10 : W.nsIn K mainGlobals "eating" = some (some (.ref fQ10)))
    (lQ10 : K.lookup fQ10 = some ⟨ocQ10, odQ10, .func (W.fnOf "eating" "eating" (defArgs s_eating) (defBody s_eating) (defScope s_eating) .none kVQ10 dcQ10 pmQ10 anQ10 cdQ10 ctQ10), slQ10⟩)
    (cQ10 : W.codeIn K cdQ10 "eating" = true)
    (kQ10 : W.keepIn K (.ref fQ10) = true)
    (aQ11 : W.nsIn K mainGlobals "wants_by_name" = some (some (.ref fQ11)))
    (lQ11 : K.lookup fQ11 = some ⟨ocQ11, odQ11, .func (W.fnOf "wants_by_name" "wants_by_name" (defArgs s_wants_by_name) (defBody s_wants_by_name) (defScope s_wants_by_name) .none kVQ11 dcQ11 pmQ11 anQ11 cdQ11 ctQ11), slQ11⟩)
    (cQ11 : W.codeIn K cdQ11 "wants_by_name" = true)
    (kQ11 : W.keepIn K (.ref fQ11) = true)
    (aQ12 : W.nsIn K mainGlobals "check_way" = some (some (.ref fQ12)))
    (lQ12 : K.lookup fQ12 = some ⟨ocQ12, odQ12, .func (W.fnOf "check_way" "check_way" (defArgs s_check_way) (defBody s_check_way) (defScope s_check_way) .none kVQ12 dcQ12 pmQ12 anQ12 cdQ12 ctQ12), slQ12⟩)
    (cQ12 : W.codeIn K cdQ12 "check_way" = true)
    (kQ12 : W.keepIn K (.ref fQ12) = true)
    (aQ13 : W.nsIn K mainGlobals "ways_by_name" = some (some (.ref fQ13)))
    (lQ13 : K.lookup fQ13 = some ⟨ocQ13, odQ13, .func (W.fnOf "ways_by_name" "ways_by_name" (defArgs s_ways_by_name) (defBody s_ways_by_name) (defScope s_ways_by_name) .none kVQ13 dcQ13 pmQ13 anQ13 cdQ13 ctQ13), slQ13⟩)
    (cQ13 : W.codeIn K cdQ13 "ways_by_name" = true)
    (kQ13 : W.keepIn K (.ref fQ13) = true)
    (aQ14 : W.nsIn K mainGlobals "_law_cell_at" = some (some (.ref fQ14)))
    (lQ14 : K.lookup fQ14 = some ⟨ocQ14, odQ14, .func (W.fnOf "_law_cell_at" "_law_cell_at" (defArgs s_law_cell_at) (defBody s_law_cell_at) (defScope s_law_cell_at) .none kVQ14 dcQ14 pmQ14 anQ14 cdQ14 ctQ14), slQ14⟩)
    (cQ14 : W.codeIn K cdQ14 "_law_cell_at" = true)
    (kQ14 : W.keepIn K (.ref fQ14) = true)
    (aQ15 : W.nsIn K mainGlobals "_law_names" = some (some (.ref fQ15)))
    (lQ15 : K.lookup fQ15 = some ⟨ocQ15, odQ15, .func (W.fnOf "_law_names" "_law_names" (defArgs s_law_names) (defBody s_law_names) (defScope s_law_names) .none kVQ15 dcQ15 pmQ15 anQ15 cdQ15 ctQ15), slQ15⟩)
    (cQ15 : W.codeIn K cdQ15 "_law_names" = true)
    (kQ15 : W.keepIn K (.ref fQ15) = true)
    (aQ16 : W.nsIn K mainGlobals "_law_pots" = some (some (.ref fQ16)))
    (lQ16 : K.lookup fQ16 = some ⟨ocQ16, odQ16, .func (W.fnOf "_law_pots" "_law_pots" (defArgs s_law_pots) (defBody s_law_pots) (defScope s_law_pots) .none kVQ16 dcQ16 pmQ16 anQ16 cdQ16 ctQ16), slQ16⟩)
    (cQ16 : W.codeIn K cdQ16 "_law_pots" = true)
    (kQ16 : W.keepIn K (.ref fQ16) = true)
    (aQ17 : W.nsIn K mainGlobals "_law_way" = some (some (.ref fQ17)))
    (lQ17 : K.lookup fQ17 = some ⟨ocQ17, odQ17, .func (W.fnOf "_law_way" "_law_way" (defArgs s_law_way) (defBody s_law_way) (defScope s_law_way) .none kVQ17 dcQ17 pmQ17 anQ17 cdQ17 ctQ17), slQ17⟩)
    (cQ17 : W.codeIn K cdQ17 "_law_way" = true)
    (kQ17 : W.keepIn K (.ref fQ17) = true)
    (aQ18 : W.nsIn K mainGlobals "_law_net" = some (some (.ref fQ18)))
    (lQ18 : K.lookup fQ18 = some ⟨ocQ18, odQ18, .func (W.fnOf "_law_net" "_law_net" (defArgs s_law_net) (defBody s_law_net) (defScope s_law_net) .none kVQ18 dcQ18 pmQ18 anQ18 cdQ18 ctQ18), slQ18⟩)
    (cQ18 : W.codeIn K cdQ18 "_law_net" = true)
    (kQ18 : W.keepIn K (.ref fQ18) = true)
    (aQ19 : W.nsIn K mainGlobals "_law_factor" = some (some (.ref fQ19)))
    (lQ19 : K.lookup fQ19 = some ⟨ocQ19, odQ19, .func (W.fnOf "_law_factor" "_law_factor" (defArgs s_law_factor) (defBody s_law_factor) (defScope s_law_factor) .none kVQ19 dcQ19 pmQ19 anQ19 cdQ19 ctQ19), slQ19⟩)
    (cQ19 : W.codeIn K cdQ19 "_law_factor" = true)
    (kQ19 : W.keepIn K (.ref fQ19) = true)
    (aQ20 : W.nsIn K mainGlobals "_law_ways" = some (some (.ref fQ20)))
    (lQ20 : K.lookup fQ20 = some ⟨ocQ20, odQ20, .func (W.fnOf "_law_ways" "_law_ways" (defArgs s_law_ways) (defBody s_law_ways) (defScope s_law_ways) .none kVQ20 dcQ20 pmQ20 anQ20 cdQ20 ctQ20), slQ20⟩)
    (cQ20 : W.codeIn K cdQ20 "_law_ways" = true)
    (kQ20 : W.keepIn K (.ref fQ20) = true)
    (aQ21 : W.nsIn K mainGlobals "_law_right" = some (some (.ref fQ21)))
    (lQ21 : K.lookup fQ21 = some ⟨ocQ21, odQ21, .func (W.fnOf "_law_right" "_law_right" (defArgs s_law_right) (defBody s_law_right) (defScope s_law_right) .none kVQ21 dcQ21 pmQ21 anQ21 cdQ21 ctQ21), slQ21⟩)
    (cQ21 : W.codeIn K cdQ21 "_law_right" = true)
    (kQ21 : W.keepIn K (.ref fQ21) = true)
    (aQ22 : W.nsIn K mainGlobals "_law_refusal" = some (some (.ref fQ22)))
    (lQ22 : K.lookup fQ22 = some ⟨ocQ22, odQ22, .func (W.fnOf "_law_refusal" "_law_refusal" (defArgs s_law_refusal) (defBody s_law_refusal) (defScope s_law_refusal) .none kVQ22 dcQ22 pmQ22 anQ22 cdQ22 ctQ22), slQ22⟩)
    (cQ22 : W.codeIn K cdQ22 "_law_refusal" = true)
    (kQ22 : W.keepIn K (.ref fQ22) = true)
    (aDlaw : W.nsIn K mainGlobals "law" = some (some (.ref fDlaw)))
    (lDlaw : K.lookup fDlaw = some ⟨ocDlaw, odDlaw, .func (W.fnOf "law" "law" (defArgs s_law) (defBody s_law) (defScope s_law) .none kVDlaw dcDlaw pmDlaw anDlaw cdDlaw ctDlaw), slDlaw⟩)
    (cDlaw : W.codeIn K cdDlaw "law" = true)
    (kDlaw : W.keepIn K (.ref fDlaw) = true)
    (pg_Fraction : W.plainGet K A_Fraction Str.empty = true)
    (hd_Fraction : W.hasDictIn K A_Fraction = true)
    (po_Fraction : W.plainOver K A_Fraction = true)
    (sa_Fraction : W.findIn K (.ref A_Fraction) "__setattr__" = some (some (.builtin "object.__setattr__")))
    (na_Fraction_top : W.findIn K (.ref A_Fraction) "top" = some none)
    (na_Fraction_bottom : W.findIn K (.ref A_Fraction) "bottom" = some none)
    (mk_Fraction : W.makesIn K A_Fraction = true)
    (ka_Fraction : W.keepIn K (.ref A_Fraction) = true)
    (a_Fraction_init : W.findIn K (.ref A_Fraction) "__init__" = some (some (.ref fIFraction)))
    (iIFraction : W.isFn K (.ref fIFraction) = true)
    (lIFraction : K.lookup fIFraction = some ⟨ocIFraction, odIFraction, .func (W.fnOf "__init__" "Fraction.__init__" (defArgs s_Fraction_init) (defBody s_Fraction_init) (defScope s_Fraction_init) (.ref TIFraction) kVIFraction dcIFraction pmIFraction anIFraction cdIFraction ctIFraction), slIFraction⟩)
    (cIFraction : W.codeIn K cdIFraction "Fraction.__init__" = true)
    (tIFraction : K.lookup TIFraction = some oIFraction)
    (dIFraction : oIFraction.data = .seq #[.int 1 tkIFraction0] nIFraction)
    (a_Fraction_plus : W.findIn K (.ref A_Fraction) "plus" = some (some (.ref fQ23)))
    (lQ23 : K.lookup fQ23 = some ⟨ocQ23, odQ23, .func (W.fnOf "plus" "Fraction.plus" (defArgs s_Fraction_plus) (defBody s_Fraction_plus) (defScope s_Fraction_plus) .none kVQ23 dcQ23 pmQ23 anQ23 cdQ23 ctQ23), slQ23⟩)
    (cQ23 : W.codeIn K cdQ23 "Fraction.plus" = true)
    (kQ23 : W.keepIn K (.ref fQ23) = true)
    (iQ23 : W.isFn K (.ref fQ23) = true)
    (a_Fraction_minus : W.findIn K (.ref A_Fraction) "minus" = some (some (.ref fQ24)))
    (lQ24 : K.lookup fQ24 = some ⟨ocQ24, odQ24, .func (W.fnOf "minus" "Fraction.minus" (defArgs s_Fraction_minus) (defBody s_Fraction_minus) (defScope s_Fraction_minus) .none kVQ24 dcQ24 pmQ24 anQ24 cdQ24 ctQ24), slQ24⟩)
    (cQ24 : W.codeIn K cdQ24 "Fraction.minus" = true)
    (kQ24 : W.keepIn K (.ref fQ24) = true)
    (iQ24 : W.isFn K (.ref fQ24) = true)
    (a_Fraction_times : W.findIn K (.ref A_Fraction) "times" = some (some (.ref fQ25)))
    (lQ25 : K.lookup fQ25 = some ⟨ocQ25, odQ25, .func (W.fnOf "times" "Fraction.times" (defArgs s_Fraction_times) (defBody s_Fraction_times) (defScope s_Fraction_times) .none kVQ25 dcQ25 pmQ25 anQ25 cdQ25 ctQ25), slQ25⟩)
    (cQ25 : W.codeIn K cdQ25 "Fraction.times" = true)
    (kQ25 : W.keepIn K (.ref fQ25) = true)
    (iQ25 : W.isFn K (.ref fQ25) = true)
    (a_Fraction_under : W.findIn K (.ref A_Fraction) "under" = some (some (.ref fQ26)))
    (lQ26 : K.lookup fQ26 = some ⟨ocQ26, odQ26, .func (W.fnOf "under" "Fraction.under" (defArgs s_Fraction_under) (defBody s_Fraction_under) (defScope s_Fraction_under) .none kVQ26 dcQ26 pmQ26 anQ26 cdQ26 ctQ26), slQ26⟩)
    (cQ26 : W.codeIn K cdQ26 "Fraction.under" = true)
    (kQ26 : W.keepIn K (.ref fQ26) = true)
    (iQ26 : W.isFn K (.ref fQ26) = true)
    (a_Fraction_same : W.findIn K (.ref A_Fraction) "same" = some (some (.ref fQ27)))
    (lQ27 : K.lookup fQ27 = some ⟨ocQ27, odQ27, .func (W.fnOf "same" "Fraction.same" (defArgs s_Fraction_same) (defBody s_Fraction_same) (defScope s_Fraction_same) .none kVQ27 dcQ27 pmQ27 anQ27 cdQ27 ctQ27), slQ27⟩)
    (cQ27 : W.codeIn K cdQ27 "Fraction.same" = true)
    (kQ27 : W.keepIn K (.ref fQ27) = true)
    (iQ27 : W.isFn K (.ref fQ27) = true)
    (a_Fraction_sign : W.findIn K (.ref A_Fraction) "sign" = some (some (.ref fQ28)))
    (lQ28 : K.lookup fQ28 = some ⟨ocQ28, odQ28, .func (W.fnOf "sign" "Fraction.sign" (defArgs s_Fraction_sign) (defBody s_Fraction_sign) (defScope s_Fraction_sign) .none kVQ28 dcQ28 pmQ28 anQ28 cdQ28 ctQ28), slQ28⟩)
    (cQ28 : W.codeIn K cdQ28 "Fraction.sign" = true)
    (kQ28 : W.keepIn K (.ref fQ28) = true)
    (iQ28 : W.isFn K (.ref fQ28) = true)
    (c1_Fraction : W.findIn K (.ref A_Fraction) "__class__" = some (some (.builtin "object.__class__")))
    (c4_Fraction : W.mroIn K A_Fraction (.type "object") = some true)
    (pg_Way : W.plainGet K A_Way Str.empty = true)
    (hd_Way : W.hasDictIn K A_Way = true)
    (po_Way : W.plainOver K A_Way = true)
    (sa_Way : W.findIn K (.ref A_Way) "__setattr__" = some (some (.builtin "object.__setattr__")))
    (na_Way_name : W.findIn K (.ref A_Way) "name" = some none)
    (na_Way_start : W.findIn K (.ref A_Way) "start" = some none)
    (na_Way_goal : W.findIn K (.ref A_Way) "goal" = some none)
    (na_Way_high : W.findIn K (.ref A_Way) "high" = some none)
    (na_Way_cost : W.findIn K (.ref A_Way) "cost" = some none)
    (mk_Way : W.makesIn K A_Way = true)
    (ka_Way : W.keepIn K (.ref A_Way) = true)
    (a_Way_init : W.findIn K (.ref A_Way) "__init__" = some (some (.ref fIWay)))
    (iIWay : W.isFn K (.ref fIWay) = true)
    (lIWay : K.lookup fIWay = some ⟨ocIWay, odIWay, .func (W.fnOf "__init__" "Way.__init__" (defArgs s_Way_init) (defBody s_Way_init) (defScope s_Way_init) (.ref TIWay) kVIWay dcIWay pmIWay anIWay cdIWay ctIWay), slIWay⟩)
    (cIWay : W.codeIn K cdIWay "Way.__init__" = true)
    (tIWay : K.lookup TIWay = some oIWay)
    (dIWay : oIWay.data = .seq #[.none, .none] nIWay)
    (rd_Way : W.readsIn K A_Way (.type "type") = true)
    (sg_Way : W.specialIn K (.ref A_Way) "__getattribute__" = some (some (.builtin "type.__getattribute__")))
    (fc_Way : W.findCls K (.ref A_Way) (.type "type") "__init__" = some (.val (.ref fIWay)))
    (kc_Way : W.keepIn K (.ref fIWay) = true)
    (a_Way_may_stay : W.findIn K (.ref A_Way) "may_stay" = some (some (.ref fQ29)))
    (lQ29 : K.lookup fQ29 = some ⟨ocQ29, odQ29, .func (W.fnOf "may_stay" "Way.may_stay" (defArgs s_Way_may_stay) (defBody s_Way_may_stay) (defScope s_Way_may_stay) .none kVQ29 dcQ29 pmQ29 anQ29 cdQ29 ctQ29), slQ29⟩)
    (cQ29 : W.codeIn K cdQ29 "Way.may_stay" = true)
    (kQ29 : W.keepIn K (.ref fQ29) = true)
    (iQ29 : W.isFn K (.ref fQ29) = true)
    (a_Way_gain : W.findIn K (.ref A_Way) "gain" = some (some (.ref fQ30)))
    (lQ30 : K.lookup fQ30 = some ⟨ocQ30, odQ30, .func (W.fnOf "gain" "Way.gain" (defArgs s_Way_gain) (defBody s_Way_gain) (defScope s_Way_gain) .none kVQ30 dcQ30 pmQ30 anQ30 cdQ30 ctQ30), slQ30⟩)
    (cQ30 : W.codeIn K cdQ30 "Way.gain" = true)
    (kQ30 : W.keepIn K (.ref fQ30) = true)
    (iQ30 : W.isFn K (.ref fQ30) = true)
    (c1_Way : W.findIn K (.ref A_Way) "__class__" = some (some (.builtin "object.__class__")))
    (c4_Way : W.mroIn K A_Way (.type "object") = some true)
    (pg_Growing : W.plainGet K A_Growing Str.empty = true)
    (hd_Growing : W.hasDictIn K A_Growing = true)
    (po_Growing : W.plainOver K A_Growing = true)
    (sa_Growing : W.findIn K (.ref A_Growing) "__setattr__" = some (some (.builtin "object.__setattr__")))
    (na_Growing_rate : W.findIn K (.ref A_Growing) "rate" = some none)
    (na_Growing_name : W.findIn K (.ref A_Growing) "name" = some none)
    (na_Growing_start : W.findIn K (.ref A_Growing) "start" = some none)
    (na_Growing_goal : W.findIn K (.ref A_Growing) "goal" = some none)
    (na_Growing_high : W.findIn K (.ref A_Growing) "high" = some none)
    (na_Growing_cost : W.findIn K (.ref A_Growing) "cost" = some none)
    (mk_Growing : W.makesIn K A_Growing = true)
    (ka_Growing : W.keepIn K (.ref A_Growing) = true)
    (a_Growing_init : W.findIn K (.ref A_Growing) "__init__" = some (some (.ref fIGrowing)))
    (iIGrowing : W.isFn K (.ref fIGrowing) = true)
    (lIGrowing : K.lookup fIGrowing = some ⟨ocIGrowing, odIGrowing, .func (W.fnOf "__init__" "Growing.__init__" (defArgs s_Growing_init) (defBody s_Growing_init) (defScope s_Growing_init) (.ref TIGrowing) kVIGrowing dcIGrowing pmIGrowing anIGrowing cdIGrowing ctIGrowing), slIGrowing⟩)
    (cIGrowing : W.codeIn K cdIGrowing "Growing.__init__" = true)
    (tIGrowing : K.lookup TIGrowing = some oIGrowing)
    (dIGrowing : oIGrowing.data = .seq #[.none, .none] nIGrowing)
    (a_Growing_gain : W.findIn K (.ref A_Growing) "gain" = some (some (.ref fQ31)))
    (lQ31 : K.lookup fQ31 = some ⟨ocQ31, odQ31, .func (W.fnOf "gain" "Growing.gain" (defArgs s_Growing_gain) (defBody s_Growing_gain) (defScope s_Growing_gain) .none kVQ31 dcQ31 pmQ31 anQ31 cdQ31 ctQ31), slQ31⟩)
    (cQ31 : W.codeIn K cdQ31 "Growing.gain" = true)
    (kQ31 : W.keepIn K (.ref fQ31) = true)
    (iQ31 : W.isFn K (.ref fQ31) = true)
    (a_Growing_may_stay : W.findIn K (.ref A_Growing) "may_stay" = some (some (.ref fQ29)))
    (c1_Growing : W.findIn K (.ref A_Growing) "__class__" = some (some (.builtin "object.__class__")))
    (c4_Growing : W.mroIn K A_Growing (.type "object") = some true)
    (pg_Leaking : W.plainGet K A_Leaking Str.empty = true)
    (hd_Leaking : W.hasDictIn K A_Leaking = true)
    (po_Leaking : W.plainOver K A_Leaking = true)
    (sa_Leaking : W.findIn K (.ref A_Leaking) "__setattr__" = some (some (.builtin "object.__setattr__")))
    (na_Leaking_loss : W.findIn K (.ref A_Leaking) "loss" = some none)
    (na_Leaking_name : W.findIn K (.ref A_Leaking) "name" = some none)
    (na_Leaking_start : W.findIn K (.ref A_Leaking) "start" = some none)
    (na_Leaking_goal : W.findIn K (.ref A_Leaking) "goal" = some none)
    (na_Leaking_high : W.findIn K (.ref A_Leaking) "high" = some none)
    (na_Leaking_cost : W.findIn K (.ref A_Leaking) "cost" = some none)
    (mk_Leaking : W.makesIn K A_Leaking = true)
    (ka_Leaking : W.keepIn K (.ref A_Leaking) = true)
    (a_Leaking_init : W.findIn K (.ref A_Leaking) "__init__" = some (some (.ref fILeaking)))
    (iILeaking : W.isFn K (.ref fILeaking) = true)
    (lILeaking : K.lookup fILeaking = some ⟨ocILeaking, odILeaking, .func (W.fnOf "__init__" "Leaking.__init__" (defArgs s_Leaking_init) (defBody s_Leaking_init) (defScope s_Leaking_init) (.ref TILeaking) kVILeaking dcILeaking pmILeaking anILeaking cdILeaking ctILeaking), slILeaking⟩)
    (cILeaking : W.codeIn K cdILeaking "Leaking.__init__" = true)
    (tILeaking : K.lookup TILeaking = some oILeaking)
    (dILeaking : oILeaking.data = .seq #[.none, .none] nILeaking)
    (a_Leaking_gain : W.findIn K (.ref A_Leaking) "gain" = some (some (.ref fQ32)))
    (lQ32 : K.lookup fQ32 = some ⟨ocQ32, odQ32, .func (W.fnOf "gain" "Leaking.gain" (defArgs s_Leaking_gain) (defBody s_Leaking_gain) (defScope s_Leaking_gain) .none kVQ32 dcQ32 pmQ32 anQ32 cdQ32 ctQ32), slQ32⟩)
    (cQ32 : W.codeIn K cdQ32 "Leaking.gain" = true)
    (kQ32 : W.keepIn K (.ref fQ32) = true)
    (iQ32 : W.isFn K (.ref fQ32) = true)
    (a_Leaking_may_stay : W.findIn K (.ref A_Leaking) "may_stay" = some (some (.ref fQ29)))
    (c1_Leaking : W.findIn K (.ref A_Leaking) "__class__" = some (some (.builtin "object.__class__")))
    (c4_Leaking : W.mroIn K A_Leaking (.type "object") = some true)
    (pg_Store : W.plainGet K A_Store Str.empty = true)
    (hd_Store : W.hasDictIn K A_Store = true)
    (po_Store : W.plainOver K A_Store = true)
    (sa_Store : W.findIn K (.ref A_Store) "__setattr__" = some (some (.builtin "object.__setattr__")))
    (na_Store_loss : W.findIn K (.ref A_Store) "loss" = some none)
    (na_Store_name : W.findIn K (.ref A_Store) "name" = some none)
    (na_Store_start : W.findIn K (.ref A_Store) "start" = some none)
    (na_Store_goal : W.findIn K (.ref A_Store) "goal" = some none)
    (na_Store_high : W.findIn K (.ref A_Store) "high" = some none)
    (na_Store_cost : W.findIn K (.ref A_Store) "cost" = some none)
    (a_Store_may_stay : W.findIn K (.ref A_Store) "may_stay" = some (some (.ref fQ33)))
    (lQ33 : K.lookup fQ33 = some ⟨ocQ33, odQ33, .func (W.fnOf "may_stay" "Store.may_stay" (defArgs s_Store_may_stay) (defBody s_Store_may_stay) (defScope s_Store_may_stay) .none kVQ33 dcQ33 pmQ33 anQ33 cdQ33 ctQ33), slQ33⟩)
    (cQ33 : W.codeIn K cdQ33 "Store.may_stay" = true)
    (kQ33 : W.keepIn K (.ref fQ33) = true)
    (iQ33 : W.isFn K (.ref fQ33) = true)
    (a_Store_gain : W.findIn K (.ref A_Store) "gain" = some (some (.ref fQ32)))
    (c1_Store : W.findIn K (.ref A_Store) "__class__" = some (some (.builtin "object.__class__")))
    (c4_Store : W.mroIn K A_Store (.type "object") = some true)
    (pg_Net : W.plainGet K A_Net Str.empty = true)
    (hd_Net : W.hasDictIn K A_Net = true)
    (po_Net : W.plainOver K A_Net = true)
    (sa_Net : W.findIn K (.ref A_Net) "__setattr__" = some (some (.builtin "object.__setattr__")))
    (na_Net_wants : W.findIn K (.ref A_Net) "wants" = some none)
    (na_Net_ways : W.findIn K (.ref A_Net) "ways" = some none)
    (mk_Net : W.makesIn K A_Net = true)
    (ka_Net : W.keepIn K (.ref A_Net) = true)
    (a_Net_init : W.findIn K (.ref A_Net) "__init__" = some (some (.ref fQ34)))
    (iQ34 : W.isFn K (.ref fQ34) = true)
    (lQ34 : K.lookup fQ34 = some ⟨ocQ34, odQ34, .func (W.fnOf "__init__" "Net.__init__" (defArgs s_Net_init) (defBody s_Net_init) (defScope s_Net_init) .none kVQ34 dcQ34 pmQ34 anQ34 cdQ34 ctQ34), slQ34⟩)
    (cQ34 : W.codeIn K cdQ34 "Net.__init__" = true)
    (kQ34 : W.keepIn K (.ref fQ34) = true)
    (a_Net_names : W.findIn K (.ref A_Net) "names" = some (some (.ref fQ35)))
    (lQ35 : K.lookup fQ35 = some ⟨ocQ35, odQ35, .func (W.fnOf "names" "Net.names" (defArgs s_Net_names) (defBody s_Net_names) (defScope s_Net_names) .none kVQ35 dcQ35 pmQ35 anQ35 cdQ35 ctQ35), slQ35⟩)
    (cQ35 : W.codeIn K cdQ35 "Net.names" = true)
    (kQ35 : W.keepIn K (.ref fQ35) = true)
    (iQ35 : W.isFn K (.ref fQ35) = true)
    (a_Net_way : W.findIn K (.ref A_Net) "way" = some (some (.ref fQ36)))
    (lQ36 : K.lookup fQ36 = some ⟨ocQ36, odQ36, .func (W.fnOf "way" "Net.way" (defArgs s_Net_way) (defBody s_Net_way) (defScope s_Net_way) .none kVQ36 dcQ36 pmQ36 anQ36 cdQ36 ctQ36), slQ36⟩)
    (cQ36 : W.codeIn K cdQ36 "Net.way" = true)
    (kQ36 : W.keepIn K (.ref fQ36) = true)
    (iQ36 : W.isFn K (.ref fQ36) = true)
    (no_Net_sign : W.findIn K (.ref A_Net) "sign" = some none)
    (no_Net_may_stay : W.findIn K (.ref A_Net) "may_stay" = some none)
    (c2 : W.specialIn K (.builtin "object.__class__") "__get__" = some (some (.builtin "getset_descriptor.__get__")))
    (c3 : W.takesIn K (.builtin "object.__class__") = some true)
    (a_NoWay_xinit : W.findIn K (.ref A_NoWay) "__init__" = some (some (.ref fQ37)))
    (lQ37 : K.lookup fQ37 = some ⟨ocQ37, odQ37, .func (W.fnOf "__init__" "NoWay.__init__" (defArgs s_NoWay_init) (defBody s_NoWay_init) (defScope s_NoWay_init) .none kVQ37 dcQ37 pmQ37 anQ37 cdQ37 ctQ37), slQ37⟩)
    (cQ37 : W.codeIn K cdQ37 "NoWay.__init__" = true)
    (kQ37 : W.keepIn K (.ref fQ37) = true)
    (tQ37 : W.typeIn K (.ref fQ37) = some (.type "function"))
    (eQ37 : excFI K A_NoWay bmV "ValueError.__new__" = some fQ37)
    (xc_NoWay : W.clsIn K A_NoWay = some cdx_NoWay)
    (xm_NoWay : cdx_NoWay.mro = [A_NoWay, A_GainError].map Value.ref ++ bmV)
    (xh_NoWay : cdx_NoWay.hasDict = true)
    (xa_NoWay : W.findIn K (.ref A_NoWay) "__setattr__" = some (some (.builtin "object.__setattr__")))
    (na_NoWay_name : W.findIn K (.ref A_NoWay) "name" = some none)
    (hd_NoWay : W.hasDictIn K A_NoWay = true)
    (rdx_NoWay : W.readsIn K A_GainError (.type "type") = true)
    (sgx_NoWay : W.specialIn K (.ref A_GainError) "__getattribute__" = some (some (.builtin "type.__getattribute__")))
    (bf_NoWay : W.findCls K (.ref A_GainError) (.type "type") "__init__" = some (.val (.builtin "ValueError.__init__")))
    (ca1_NoWay : W.instIn K (.ref A_NoWay) (.type "tuple") = some false)
    (ca2_NoWay : W.clsIn K A_NoWay = some cd_ca2_NoWay)
    (ca3_NoWay : W.subIn K (.ref A_NoWay) (.type "BaseException") = some true)
    (su_NoWay_NoWay : W.subIn K (.ref A_NoWay) (.ref A_NoWay) = some true)
    (k_Way_Store : W.kitOne K (.ref A_Way) (.ref A_Store) = some false)
    (k_Growing_Store : W.kitOne K (.ref A_Growing) (.ref A_Store) = some false)
    (k_Leaking_Store : W.kitOne K (.ref A_Leaking) (.ref A_Store) = some false)
    (k_dict_dict : W.kitOne K (.type "dict") (.type "dict") = some true)
    (k_list_list : W.kitOne K (.type "list") (.type "list") = some true)
    (k_str_str : W.kitOne K (.type "str") (.type "str") = some true)
    (k_tuple_tuple : W.kitOne K (.type "tuple") (.type "tuple") = some true)
    (xga_NoWay : W.findIn K (.ref A_NoWay) "__getattribute__" = some (some (.builtin "BaseException.__getattribute__")))
    (xgh_NoWay : W.findIn K (.ref A_NoWay) "__getattr__" = some none)
    (xbe_NoWay : W.mroIn K A_NoWay (.type "BaseException") = some true)
    (xca_NoWay : W.findIn K (.ref A_NoWay) "__class__" = some (some (.builtin "object.__class__")))
    (xob_NoWay : W.mroIn K A_NoWay (.type "object") = some true)
    (xcl_NoWay : W.clsIn K A_NoWay = some cd_xcl_NoWay)
    (k_NoWay_GainError : W.kitOne K (.ref A_NoWay) (.ref A_GainError) = some true)
    (gi_MOST_PLACES : W.nsIn K mainGlobals "MOST_PLACES" = some (some (.int 12 tk_MOST_PLACES)))
    (gi_MOST_WAYS : W.nsIn K mainGlobals "MOST_WAYS" = some (some (.int 24 tk_MOST_WAYS)))
    (z_abs : W.nsIn K mainGlobals "abs" = some none)
    (z_dict : W.nsIn K mainGlobals "dict" = some none)
    (z_isinstance : W.nsIn K mainGlobals "isinstance" = some none)
    (z_len : W.nsIn K mainGlobals "len" = some none)
    (z_list : W.nsIn K mainGlobals "list" = some none)
    (z_range : W.nsIn K mainGlobals "range" = some none)
    (z_reversed : W.nsIn K mainGlobals "reversed" = some none)
    (z_str : W.nsIn K mainGlobals "str" = some none)
    (z_tuple : W.nsIn K mainGlobals "tuple" = some none) :
    ∃ fd : FuncData, (∀ (s : Shared) (v : Value), BindsTo s fd ⟨[v], []⟩ [("_law_script", v)]) ∧ ∀ base : Heap, K.In base → base.Ns mainGlobals mg → FnOk l.prog w K mg base CX0 14 fa fd ["_law_script"] (spLaw K) := by
  have e := hfa.symm.trans (W.mg_of X G aDlaw)
  cases e
  have N_Q0 := fun_mk (st := s_divisor) lQ0 cQ0 kQ0
  have N_Q1 := fun_mk (st := s_in_lowest_terms) lQ1 cQ1 kQ1
  have N_Q2 := fun_mk (st := s_is_more) lQ2 cQ2 kQ2
  have N_Q3 := fun_mk (st := s_is_less) lQ3 cQ3 kQ3
  have N_Q4 := fun_mk (st := s_bettered) lQ4 cQ4 kQ4
  have N_Q5 := fun_mk (st := s_ring_along) lQ5 cQ5 kQ5
  have N_Q6 := fun_mk (st := s_place_bettered) lQ6 cQ6 kQ6
  have N_Q7 := fun_mk (st := s_ones) lQ7 cQ7 kQ7
  have N_Q8 := fun_mk (st := s_ring_or_weights) lQ8 cQ8 kQ8
  have N_Q9 := fun_mk (st := s_making) lQ9 cQ9 kQ9
  have N_Q10 := fun_mk (st := s_eating) lQ10 cQ10 kQ10
  have N_Q11 := fun_mk (st := s_wants_by_name) lQ11 cQ11 kQ11
  have N_Q12 := fun_mk (st := s_check_way) lQ12 cQ12 kQ12
  have N_Q13 := fun_mk (st := s_ways_by_name) lQ13 cQ13 kQ13
  have N_Q14 := fun_mk (st := s_law_cell_at) lQ14 cQ14 kQ14
  have N_Q15 := fun_mk (st := s_law_names) lQ15 cQ15 kQ15
  have N_Q16 := fun_mk (st := s_law_pots) lQ16 cQ16 kQ16
  have N_Q17 := fun_mk (st := s_law_way) lQ17 cQ17 kQ17
  have N_Q18 := fun_mk (st := s_law_net) lQ18 cQ18 kQ18
  have N_Q19 := fun_mk (st := s_law_factor) lQ19 cQ19 kQ19
  have N_Q20 := fun_mk (st := s_law_ways) lQ20 cQ20 kQ20
  have N_Q21 := fun_mk (st := s_law_right) lQ21 cQ21 kQ21
  have N_Q22 := fun_mk (st := s_law_refusal) lQ22 cQ22 kQ22
  have N_Dlaw := fun_mk (st := s_law) lDlaw cDlaw kDlaw
  have N_IFraction := funD_mk (st := s_Fraction_init) lIFraction cIFraction tIFraction dIFraction
  have N_Q23 := fun_mk (st := s_Fraction_plus) lQ23 cQ23 kQ23
  have N_Q24 := fun_mk (st := s_Fraction_minus) lQ24 cQ24 kQ24
  have N_Q25 := fun_mk (st := s_Fraction_times) lQ25 cQ25 kQ25
  have N_Q26 := fun_mk (st := s_Fraction_under) lQ26 cQ26 kQ26
  have N_Q27 := fun_mk (st := s_Fraction_same) lQ27 cQ27 kQ27
  have N_Q28 := fun_mk (st := s_Fraction_sign) lQ28 cQ28 kQ28
  have N_IWay := funD_mk (st := s_Way_init) lIWay cIWay tIWay dIWay
  have N_Q29 := fun_mk (st := s_Way_may_stay) lQ29 cQ29 kQ29
  have N_Q30 := fun_mk (st := s_Way_gain) lQ30 cQ30 kQ30
  have N_IGrowing := funD_mk (st := s_Growing_init) lIGrowing cIGrowing tIGrowing dIGrowing
  have N_Q31 := fun_mk (st := s_Growing_gain) lQ31 cQ31 kQ31
  have N_ILeaking := funD_mk (st := s_Leaking_init) lILeaking cILeaking tILeaking dILeaking
  have N_Q32 := fun_mk (st := s_Leaking_gain) lQ32 cQ32 kQ32
  have N_Q33 := fun_mk (st := s_Store_may_stay) lQ33 cQ33 kQ33
  have N_Q34 := fun_mk (st := s_Net_init) lQ34 cQ34 kQ34
  have N_Q35 := fun_mk (st := s_Net_names) lQ35 cQ35 kQ35
  have N_Q36 := fun_mk (st := s_Net_way) lQ36 cQ36 kQ36
  have N_Q37 := fun_mk (st := s_NoWay_init) lQ37 cQ37 kQ37
  have T : TX K mg ⟨A_Fraction, A_Way, A_Growing, A_Leaking, A_Store, A_Net, A_GainError, A_NoNumber, A_TooMany, A_NoWay, A_Twice, A_NoPlace⟩ := {
    d_divisor := ⟨_, _, N_Q0, W.mg_of X G aQ0, N_Q0.binds (ps := ["one", "other"]) fun _ _ _ _ _ _ us hl => by obtain ⟨_, _, rfl⟩ := lm2 us hl; exact rfl⟩
    d_in_lowest_terms := ⟨_, _, N_Q1, W.mg_of X G aQ1, N_Q1.binds (ps := ["top", "bottom"]) fun _ _ _ _ _ _ us hl => by obtain ⟨_, _, rfl⟩ := lm2 us hl; exact rfl⟩
    d_is_more := ⟨_, _, N_Q2, W.mg_of X G aQ2, N_Q2.binds (ps := ["one", "other"]) fun _ _ _ _ _ _ us hl => by obtain ⟨_, _, rfl⟩ := lm2 us hl; exact rfl⟩
    d_is_less := ⟨_, _, N_Q3, W.mg_of X G aQ3, N_Q3.binds (ps := ["one", "other"]) fun _ _ _ _ _ _ us hl => by obtain ⟨_, _, rfl⟩ := lm2 us hl; exact rfl⟩
    d_bettered := ⟨_, _, N_Q4, W.mg_of X G aQ4, N_Q4.binds (ps := ["ways", "values", "pointers", "better"]) fun _ _ _ _ _ _ us hl => by obtain ⟨_, _, _, _, rfl⟩ := lm4 us hl; exact rfl⟩
    d_ring_along := ⟨_, _, N_Q5, W.mg_of X G aQ5, N_Q5.binds (ps := ["pointers", "place"]) fun _ _ _ _ _ _ us hl => by obtain ⟨_, _, rfl⟩ := lm2 us hl; exact rfl⟩
    d_place_bettered := ⟨_, _, N_Q6, W.mg_of X G aQ6, N_Q6.binds (ps := ["values", "fresh"]) fun _ _ _ _ _ _ us hl => by obtain ⟨_, _, rfl⟩ := lm2 us hl; exact rfl⟩
    d_ones := ⟨_, _, N_Q7, W.mg_of X G aQ7, N_Q7.binds (ps := ["net"]) fun _ _ _ _ _ _ us hl => by obtain ⟨_, rfl⟩ := lm1 us hl; exact rfl⟩
    d_ring_or_weights := ⟨_, _, N_Q8, W.mg_of X G aQ8, N_Q8.binds (ps := ["net", "names", "better"]) fun _ _ _ _ _ _ us hl => by obtain ⟨_, _, _, rfl⟩ := lm3 us hl; exact rfl⟩
    d_making := ⟨_, _, N_Q9, W.mg_of X G aQ9, N_Q9.binds (ps := ["net", "names"]) fun _ _ _ _ _ _ us hl => by obtain ⟨_, _, rfl⟩ := lm2 us hl; exact rfl⟩
    d_eating := ⟨_, _, N_Q10, W.mg_of X G aQ10, N_Q10.binds (ps := ["net", "names"]) fun _ _ _ _ _ _ us hl => by obtain ⟨_, _, rfl⟩ := lm2 us hl; exact rfl⟩
    d_wants_by_name := ⟨_, _, N_Q11, W.mg_of X G aQ11, N_Q11.binds (ps := ["places"]) fun _ _ _ _ _ _ us hl => by obtain ⟨_, rfl⟩ := lm1 us hl; exact rfl⟩
    d_check_way := ⟨_, _, N_Q12, W.mg_of X G aQ12, N_Q12.binds (ps := ["way", "ahead", "wants"]) fun _ _ _ _ _ _ us hl => by obtain ⟨_, _, _, rfl⟩ := lm3 us hl; exact rfl⟩
    d_ways_by_name := ⟨_, _, N_Q13, W.mg_of X G aQ13, N_Q13.binds (ps := ["ways", "wants"]) fun _ _ _ _ _ _ us hl => by obtain ⟨_, _, rfl⟩ := lm2 us hl; exact rfl⟩
    d_law_cell_at := ⟨_, _, N_Q14, W.mg_of X G aQ14, N_Q14.binds (ps := ["_law_script", "_law_k"]) fun _ _ _ _ _ _ us hl => by obtain ⟨_, _, rfl⟩ := lm2 us hl; exact rfl⟩
    d_law_names := ⟨_, _, N_Q15, W.mg_of X G aQ15, N_Q15.binds (ps := ["_law_cell", "_law_count"]) fun _ _ _ _ _ _ us hl => by obtain ⟨_, _, rfl⟩ := lm2 us hl; exact rfl⟩
    d_law_pots := ⟨_, _, N_Q16, W.mg_of X G aQ16, N_Q16.binds (ps := ["_law_cell", "_law_count"]) fun _ _ _ _ _ _ us hl => by obtain ⟨_, _, rfl⟩ := lm2 us hl; exact rfl⟩
    d_law_way := ⟨_, _, N_Q17, W.mg_of X G aQ17, N_Q17.binds (ps := ["_law_name", "_law_parts"]) fun _ _ _ _ _ _ us hl => by obtain ⟨_, _, rfl⟩ := lm2 us hl; exact rfl⟩
    d_law_net := ⟨_, _, N_Q18, W.mg_of X G aQ18, N_Q18.binds (ps := ["_law_spots", "_law_ways_here"]) fun _ _ _ _ _ _ us hl => by obtain ⟨_, _, rfl⟩ := lm2 us hl; exact rfl⟩
    d_law_factor := ⟨_, _, N_Q19, W.mg_of X G aQ19, N_Q19.binds (ps := ["_law_cell"]) fun _ _ _ _ _ _ us hl => by obtain ⟨_, rfl⟩ := lm1 us hl; exact rfl⟩
    d_law_ways := ⟨_, _, N_Q20, W.mg_of X G aQ20, N_Q20.binds (ps := ["_law_script", "_law_spots", "_law_factor_here", "_law_upended"]) fun _ _ _ _ _ _ us hl => by obtain ⟨_, _, _, _, rfl⟩ := lm4 us hl; exact rfl⟩
    d_law_right := ⟨_, _, N_Q21, W.mg_of X G aQ21, N_Q21.binds (ps := ["_law_found", "_law_last", "_law_more"]) fun _ _ _ _ _ _ us hl => by obtain ⟨_, _, _, rfl⟩ := lm3 us hl; exact rfl⟩
    d_law_refusal := ⟨_, _, N_Q22, W.mg_of X G aQ22, N_Q22.binds (ps := ["_law_net_here", "_law_names_here", "_law_makes"]) fun _ _ _ _ _ _ us hl => by obtain ⟨_, _, _, rfl⟩ := lm3 us hl; exact rfl⟩
    d_law := ⟨_, _, N_Dlaw, W.mg_of X G aDlaw, N_Dlaw.binds (ps := ["_law_script"]) fun _ _ _ _ _ _ us hl => by obtain ⟨_, rfl⟩ := lm1 us hl; exact rfl⟩
    cl_Fraction := ⟨pg_Fraction, hd_Fraction, po_Fraction, sa_Fraction⟩
    mg_Fraction := W.mg_of X G n_Fraction
    na_Fraction_top
    na_Fraction_bottom
    i_Fraction := ⟨fIFraction, _, N_IFraction.gen, ⟨mk_Fraction, a_Fraction_init, iIFraction, ka_Fraction⟩, fun dvs hd => by
      simp only [List.mem_cons, List.not_mem_nil, or_false] at hd
      rcases hd with rfl | rfl
      · exact ⟨[], .nil, N_IFraction.binds (es := []) fun T kV doc pm an cdv ct us hl => by obtain ⟨_, _, _, rfl⟩ := lm3 us (by simpa using hl); exact ⟨_, rfl, rfl⟩⟩
      · exact ⟨[.int 1 tkIFraction0], (.cons ⟨_, rfl⟩ (.nil)), N_IFraction.binds (es := [.int 1 tkIFraction0]) fun T kV doc pm an cdv ct us hl => by obtain ⟨_, _, rfl⟩ := lm2 us (by simpa using hl); exact ⟨_, rfl, rfl⟩⟩⟩
    m_Fraction_plus := ⟨fQ23, _, N_Q23, ⟨a_Fraction_plus, iQ23, kQ23⟩, N_Q23.binds (ps := ["self", "other"]) fun _ _ _ _ _ _ us hl => by obtain ⟨_, _, rfl⟩ := lm2 us hl; exact rfl⟩
    m_Fraction_minus := ⟨fQ24, _, N_Q24, ⟨a_Fraction_minus, iQ24, kQ24⟩, N_Q24.binds (ps := ["self", "other"]) fun _ _ _ _ _ _ us hl => by obtain ⟨_, _, rfl⟩ := lm2 us hl; exact rfl⟩
    m_Fraction_times := ⟨fQ25, _, N_Q25, ⟨a_Fraction_times, iQ25, kQ25⟩, N_Q25.binds (ps := ["self", "other"]) fun _ _ _ _ _ _ us hl => by obtain ⟨_, _, rfl⟩ := lm2 us hl; exact rfl⟩
    m_Fraction_under := ⟨fQ26, _, N_Q26, ⟨a_Fraction_under, iQ26, kQ26⟩, N_Q26.binds (ps := ["self", "other"]) fun _ _ _ _ _ _ us hl => by obtain ⟨_, _, rfl⟩ := lm2 us hl; exact rfl⟩
    m_Fraction_same := ⟨fQ27, _, N_Q27, ⟨a_Fraction_same, iQ27, kQ27⟩, N_Q27.binds (ps := ["self", "other"]) fun _ _ _ _ _ _ us hl => by obtain ⟨_, _, rfl⟩ := lm2 us hl; exact rfl⟩
    m_Fraction_sign := ⟨fQ28, _, N_Q28, ⟨a_Fraction_sign, iQ28, kQ28⟩, N_Q28.binds (ps := ["self"]) fun _ _ _ _ _ _ us hl => by obtain ⟨_, rfl⟩ := lm1 us hl; exact rfl⟩
    c1_Fraction
    c4_Fraction
    cl_Way := ⟨pg_Way, hd_Way, po_Way, sa_Way⟩
    mg_Way := W.mg_of X G n_Way
    na_Way_name
    na_Way_start
    na_Way_goal
    na_Way_high
    na_Way_cost
    i_Way := ⟨fIWay, _, N_IWay.gen, ⟨mk_Way, a_Way_init, iIWay, ka_Way⟩, fun dvs hd => by
      simp only [List.mem_cons, List.not_mem_nil, or_false] at hd
      rcases hd with rfl | rfl
      · exact ⟨[], .nil, N_IWay.binds (es := []) fun T kV doc pm an cdv ct us hl => by obtain ⟨_, _, _, _, _, _, rfl⟩ := lm6 us (by simpa using hl); exact ⟨_, rfl, rfl⟩⟩
      · exact ⟨[.none, .none], (.cons rfl (.cons rfl (.nil))), N_IWay.binds (es := [.none, .none]) fun T kV doc pm an cdv ct us hl => by obtain ⟨_, _, _, _, rfl⟩ := lm4 us (by simpa using hl); exact ⟨_, rfl, rfl⟩⟩⟩
    c_Way := ⟨fIWay, _, N_IWay.gen, ⟨rd_Way, sg_Way⟩, fc_Way, kc_Way, N_IWay.binds (es := []) fun T kV doc pm an cdv ct us hl => by obtain ⟨_, _, _, _, _, _, rfl⟩ := lm6 us (by simpa using hl); exact ⟨_, rfl, rfl⟩⟩
    m_Way_may_stay := ⟨fQ29, _, N_Q29, ⟨a_Way_may_stay, iQ29, kQ29⟩, N_Q29.binds (ps := ["self"]) fun _ _ _ _ _ _ us hl => by obtain ⟨_, rfl⟩ := lm1 us hl; exact rfl⟩
    m_Way_gain := ⟨fQ30, _, N_Q30, ⟨a_Way_gain, iQ30, kQ30⟩, N_Q30.binds (ps := ["self"]) fun _ _ _ _ _ _ us hl => by obtain ⟨_, rfl⟩ := lm1 us hl; exact rfl⟩
    c1_Way
    c4_Way
    cl_Growing := ⟨pg_Growing, hd_Growing, po_Growing, sa_Growing⟩
    mg_Growing := W.mg_of X G n_Growing
    na_Growing_rate
    na_Growing_name
    na_Growing_start
    na_Growing_goal
    na_Growing_high
    na_Growing_cost
    i_Growing := ⟨fIGrowing, _, N_IGrowing.gen, ⟨mk_Growing, a_Growing_init, iIGrowing, ka_Growing⟩, fun dvs hd => by
      simp only [List.mem_cons, List.not_mem_nil, or_false] at hd
      rcases hd with rfl | rfl
      · exact ⟨[], .nil, N_IGrowing.binds (es := []) fun T kV doc pm an cdv ct us hl => by obtain ⟨_, _, _, _, _, _, _, rfl⟩ := lm7 us (by simpa using hl); exact ⟨_, rfl, rfl⟩⟩
      · exact ⟨[.none, .none], (.cons rfl (.cons rfl (.nil))), N_IGrowing.binds (es := [.none, .none]) fun T kV doc pm an cdv ct us hl => by obtain ⟨_, _, _, _, _, rfl⟩ := lm5 us (by simpa using hl); exact ⟨_, rfl, rfl⟩⟩⟩
    m_Growing_gain := ⟨fQ31, _, N_Q31, ⟨a_Growing_gain, iQ31, kQ31⟩, N_Q31.binds (ps := ["self"]) fun _ _ _ _ _ _ us hl => by obtain ⟨_, rfl⟩ := lm1 us hl; exact rfl⟩
    m_Growing_may_stay := ⟨fQ29, _, N_Q29, ⟨a_Growing_may_stay, iQ29, kQ29⟩, N_Q29.binds (ps := ["self"]) fun _ _ _ _ _ _ us hl => by obtain ⟨_, rfl⟩ := lm1 us hl; exact rfl⟩
    c1_Growing
    c4_Growing
    cl_Leaking := ⟨pg_Leaking, hd_Leaking, po_Leaking, sa_Leaking⟩
    mg_Leaking := W.mg_of X G n_Leaking
    na_Leaking_loss
    na_Leaking_name
    na_Leaking_start
    na_Leaking_goal
    na_Leaking_high
    na_Leaking_cost
    i_Leaking := ⟨fILeaking, _, N_ILeaking.gen, ⟨mk_Leaking, a_Leaking_init, iILeaking, ka_Leaking⟩, fun dvs hd => by
      simp only [List.mem_cons, List.not_mem_nil, or_false] at hd
      rcases hd with rfl | rfl
      · exact ⟨[], .nil, N_ILeaking.binds (es := []) fun T kV doc pm an cdv ct us hl => by obtain ⟨_, _, _, _, _, _, _, rfl⟩ := lm7 us (by simpa using hl); exact ⟨_, rfl, rfl⟩⟩
      · exact ⟨[.none, .none], (.cons rfl (.cons rfl (.nil))), N_ILeaking.binds (es := [.none, .none]) fun T kV doc pm an cdv ct us hl => by obtain ⟨_, _, _, _, _, rfl⟩ := lm5 us (by simpa using hl); exact ⟨_, rfl, rfl⟩⟩⟩
    m_Leaking_gain := ⟨fQ32, _, N_Q32, ⟨a_Leaking_gain, iQ32, kQ32⟩, N_Q32.binds (ps := ["self"]) fun _ _ _ _ _ _ us hl => by obtain ⟨_, rfl⟩ := lm1 us hl; exact rfl⟩
    m_Leaking_may_stay := ⟨fQ29, _, N_Q29, ⟨a_Leaking_may_stay, iQ29, kQ29⟩, N_Q29.binds (ps := ["self"]) fun _ _ _ _ _ _ us hl => by obtain ⟨_, rfl⟩ := lm1 us hl; exact rfl⟩
    c1_Leaking
    c4_Leaking
    cl_Store := ⟨pg_Store, hd_Store, po_Store, sa_Store⟩
    mg_Store := W.mg_of X G n_Store
    na_Store_loss
    na_Store_name
    na_Store_start
    na_Store_goal
    na_Store_high
    na_Store_cost
    m_Store_may_stay := ⟨fQ33, _, N_Q33, ⟨a_Store_may_stay, iQ33, kQ33⟩, N_Q33.binds (ps := ["self"]) fun _ _ _ _ _ _ us hl => by obtain ⟨_, rfl⟩ := lm1 us hl; exact rfl⟩
    m_Store_gain := ⟨fQ32, _, N_Q32, ⟨a_Store_gain, iQ32, kQ32⟩, N_Q32.binds (ps := ["self"]) fun _ _ _ _ _ _ us hl => by obtain ⟨_, rfl⟩ := lm1 us hl; exact rfl⟩
    c1_Store
    c4_Store
    cl_Net := ⟨pg_Net, hd_Net, po_Net, sa_Net⟩
    mg_Net := W.mg_of X G n_Net
    na_Net_wants
    na_Net_ways
    i_Net := ⟨fQ34, _, N_Q34.gen, ⟨mk_Net, a_Net_init, iQ34, ka_Net⟩, fun dvs hd => by
      simp only [List.mem_cons, List.not_mem_nil, or_false] at hd
      subst hd
      exact ⟨[], .nil, N_Q34.binds (ps := ["self", "places", "ways"]) fun _ _ _ _ _ _ us hl => by obtain ⟨_, _, _, rfl⟩ := lm3 us hl; exact rfl⟩⟩
    m_Net_names := ⟨fQ35, _, N_Q35, ⟨a_Net_names, iQ35, kQ35⟩, N_Q35.binds (ps := ["self"]) fun _ _ _ _ _ _ us hl => by obtain ⟨_, rfl⟩ := lm1 us hl; exact rfl⟩
    m_Net_way := ⟨fQ36, _, N_Q36, ⟨a_Net_way, iQ36, kQ36⟩, N_Q36.binds (ps := ["self", "name"]) fun _ _ _ _ _ _ us hl => by obtain ⟨_, _, rfl⟩ := lm2 us hl; exact rfl⟩
    no_Net_sign
    no_Net_may_stay
    c2
    c3
    mg_GainError := W.mg_of X G n_GainError
    mg_NoWay := W.mg_of X G n_NoWay
    xi_NoWay := ⟨fQ37, _, N_Q37.gen, eQ37, tQ37, N_Q37.binds (ps := ["self", "name"]) fun _ _ _ _ _ _ us hl => by obtain ⟨_, _, rfl⟩ := lm2 us hl; exact rfl⟩
    xs_NoWay := ⟨⟨_, _, xc_NoWay, xm_NoWay, xh_NoWay⟩, xa_NoWay⟩
    na_NoWay_name
    hd_NoWay
    br_NoWay := ⟨rdx_NoWay, sgx_NoWay⟩
    bf_NoWay
    ca1_NoWay
    ca2_NoWay := ⟨_, ca2_NoWay⟩
    ca3_NoWay
    su_NoWay_NoWay
    k_Way_Store
    k_Growing_Store
    k_Leaking_Store
    k_dict_dict
    k_list_list
    k_str_str
    k_tuple_tuple
    xga_NoWay
    xgh_NoWay
    xbe_NoWay
    xca_NoWay
    xob_NoWay
    xcl_NoWay := ⟨_, xcl_NoWay⟩
    k_NoWay_GainError
    gi_MOST_PLACES := ⟨_, W.mg_of X G gi_MOST_PLACES⟩
    gi_MOST_WAYS := ⟨_, W.mg_of X G gi_MOST_WAYS⟩
    z_abs := W.mg_none_of X G z_abs
    z_dict := W.mg_none_of X G z_dict
    z_isinstance := W.mg_none_of X G z_isinstance
    z_len := W.mg_none_of X G z_len
    z_list := W.mg_none_of X G z_list
    z_range := W.mg_none_of X G z_range
    z_reversed := W.mg_none_of X G z_reversed
    z_str := W.mg_none_of X G z_str
    z_tuple := W.mg_none_of X G z_tuple
  }
  exact ⟨W.fnOf "law" "law" (defArgs s_law) (defBody s_law) (defScope s_law) .none kVDlaw dcDlaw pmDlaw anDlaw cdDlaw ctDlaw, fun s v => .of_eq rfl, fun base _ _ => ok_law N_Dlaw T⟩
theorem walkL {l : PySem.W.OpenLaw} {q : Program} {loose : List Str} {XP : (Str → Option Value) → Heap → Prop} {YP : World → Heap → Prop} {d : DefRec} {K : Params → PySem.W.Frag} (hn : l.most = some 63) (hdf : d.params.defaults = [])
    (hY : ∀ (w : World) (h : Heap), YP w h → (K w.params).In h)
    (F : ∀ (w : World) (mg : Str → Option Value) (fa : Addr) (h : Heap), (K w.params).In h → h.Ns mainGlobals mg → mg d.name = some (.ref fa) →
      ∃ fd : FuncData, (∀ (s : Shared) (u : Value), BindsTo s fd ⟨[u], []⟩ [("_law_script", u)]) ∧ ∀ base : Heap, (K w.params).In base → base.Ns mainGlobals mg → FnOk l.prog w (K w.params) mg base CX0 14 fa fd ["_law_script"] (spLaw (K w.params))) :
    PySem.W.WalkO q loose XP YP l.row.toRowW d [] (fun f vs => PySem.call f vs) :=
  L2.walk_ofB (n := 63) (k := 14) (x := "_law_script") (CX := fun _ => CX0) (sp := fun w => spLaw (K w.params)) hn (by decide) hdf ⟨rfl, by decide, by decide⟩ hY F (fun _ _ a ns hl hb _ hS => ⟨a, ns, rfl, hS, hl, fun i hi => ⟨hb i hi⟩, fun _ => rfl⟩) fun _ _ _ _ _ z => z
end G
inductive PySem.W.Fast : Prop | tw15350123572689382704 | tw18012925386748811502 | tw4468495677612941091 | tw2338403508894049728 | tw11152696329996724631 | tw10231396129926492401 | tw10976104773300751907 | tw13055458298749008552 | tw17694366683284844951 | tw16447119891933578794 | tw2144034761625386479 | tw12098380397900578787 | tw16997601370162219335 | tw17915386901357906579 | tw10148102558752780551 | tw11041569526139328821 | tw11274083526692703994 | tw16067141643859508626 | tw15498855780677763111 | tw14908725611489625311 | tw12686744731552099558 | tw3647591798700520333 | tw15669007148630874828 | tw13532010482420748811 | tw4808082191477371252 | tw1781667040049602204 | tw15845598848700180743 | tw13050648580143402778 | tw3812600842764253969 | tw10663781201196391851 | tw18243772498566782877 | tw3758363022890533285 | tw7977554023796096711 | tw15150356286321812166 | tw14025470552883007636 | tw14423699304286404098 | tw12227314116601519070 | tw14342760908715327258 | tw16569209825104023902 | tw9854008052312114520 | tw13464054228888909108 | tw15936949971527245237 | tw6462244242804946437 | tw10389931656346248100 | tw960727561428149289 | tw14080034516093898446 | tw7038849702157437754 | tw7860030867560774887 | tw7319657949580166541 | tw14889118649204451753 | tw10520850150020253762 | tw613740614980292973 | tw5304432018290653643 | tw5218647999936642368 | tw15873849494943092418 | tw11194919034692180618 | tw8215456723971555689 | tw3436244378989006481 | tw9799379348421387484 | tw7402150922132774698 | tw16389350550688930184 | tw742019991433485522 | tw3975731623226338426 | tw3581233865526414693 | tw4815717419551929620 | tw12682605256818325838 | tw2368464901249238679 | tw918570500029154714 | tw3649704205124237170 | tw1989793265612433185 | tw17941368890000206133 | tw5252906942505134742 | tw8759650438314874979 | tw2263496919805772557 | tw14180876371771746248 | tw9778217222832879780 | tw4630274946933140350 | tw3049878378322909304 
open PySem L2 in
local macro_rules | `(tactic| walk_at $s:str) => do
  let v := s.getString.splitOn " "
  let id (i : Nat) := Lean.mkIdent (Lean.Name.mkSimple s!"o{i}")
  match v with
  | ["H", n] => do
    let hs ← (Array.range n.toNat!).mapM fun i => `(?$(id i):ident)
    `(tactic| refine' G.all_mk $(Lean.mkIdent `KX) $(Lean.mkIdent `GN) $(Lean.mkIdent `hmg) $hs*)
  | [k, a, b] => do
    let ts ← (List.range' a.toNat! (b.toNat! + 1 - a.toNat!)).toArray.mapM fun i => match k with
      | "k" => `(tactic| case $(id i):ident => k_is)
      | "t" => `(tactic| case $(id i):ident => kit_is)
      | "r" => `(tactic| case $(id i):ident => rfl)
      | "e" => `(tactic| case $(id i):ident => kernel_rfl)
      | _ => `(tactic| case $(id i):ident => k_exc)
    `(tactic| ($[$ts];*))
  | _ => Lean.Macro.throwUnsupported
open PySem PySem.W PyProof.Rows
set_option maxRecDepth 100000 in
set_option maxHeartbeats 0 in
theorem PySem.Challenge.cw_gainstream_k30_rings_that_were_built_holds : PySem.Challenge.rw_gainstream_k30_rings_that_were_built.Holds := by
  w_on; o_law; k_head; (case hw => w_witness2)
  k_fill
  refine G.walkL (l := PySem.Challenge.rw_gainstream_k30_rings_that_were_built) rfl rfl (fun w h Y => PySem.W.kIn_of Y) ?F
  case F =>
    intro w mg fa h KX GN hmg
    walk_at "H 328"
    walk_at "k 0 120"
    walk_at "r 121 121"
    walk_at "k 122 169"
    walk_at "r 170 170"
    walk_at "k 171 203"
    walk_at "r 204 204"
    walk_at "k 205 229"
    walk_at "r 230 230"
    walk_at "k 231 288"
    walk_at "e 289 289"
    walk_at "k 290 290"
    walk_at "r 291 292"
    walk_at "k 293 302"
    walk_at "t 303 309"
    walk_at "k 310 315"
    walk_at "t 316 316"
    walk_at "k 317 327"
#print axioms PySem.Challenge.cw_gainstream_k30_rings_that_were_built_holds
