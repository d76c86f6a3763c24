import PyProof.Rows.All
import Wide.All
import OpenK.AllK
import Wide.FinOn
import Lean
import PyProof.EqAt
import PyProof.EqKinds
import PyProof.TupleCall
import PySem.Challenge.RW_gainstream_k41_exchanged_holds
set_option Elab.async false
set_option linter.all false
set_option maxRecDepth 100000
/-! THE HAND LAYER, for ints, bools, texts, own classes, LISTS and tuples (index, slices, in, append, pop ..), calls, loops. Paste it whole ahead of your own text; what your proof does not reach may be deleted. -/
namespace L2
open PySem PySem.Spec PyProof.Rows

/-- a key: an int or a str -/
abbrev Key := Sum Int Str
def keyIs : Key → Value → Bool
  | .inl k, v => Value.isInt k v
  | .inr x, v => Value.isStrOf x v
def keyH (w : World) : Key → Int
  | .inl k => hashInt k
  | .inr x => hashStr w x
theorem keyIs_shape : ∀ {k : Key} {v : Value}, keyIs k v = true → (∃ i t, k = Sum.inl i ∧ v = Value.int i t) ∨ (∃ x t, k = Sum.inr x ∧ v = Value.str x t)
  | .inl i, v, h => by
    obtain ⟨t, e⟩ := Value.isInt_shape (k := i) (v := v) h
    exact .inl ⟨i, t, rfl, e⟩
  | .inr x, v, h => by
    obtain ⟨t, e⟩ := Value.isStrOf_shape (x := x) (v := v) h
    exact .inr ⟨x, t, rfl, e⟩
theorem keyIs_int (i : Int) (t : Tok) : keyIs (.inl i) (.int i t) = true := by simp [keyIs, Value.isInt]
theorem keyIs_str (x : Str) (t : Tok) : keyIs (.inr x) (.str x t) = true := by simp [keyIs, Value.isStrOf]
theorem key_ll (a b : Int) : decide ((Sum.inl a : Key) = Sum.inl b) = (a == b) := by
  by_cases e : a = b
  · subst e; simp
  · have h : ¬ (Sum.inl a : Key) = Sum.inl b := fun q => e (Sum.inl.inj q)
    rw [decide_eq_false h]
    exact (beq_eq_false_iff_ne.mpr e).symm
theorem key_rr (a b : Str) : decide ((Sum.inr a : Key) = Sum.inr b) = decide (a = b) := by
  by_cases e : a = b
  · subst e; simp
  · have h : ¬ (Sum.inr a : Key) = Sum.inr b := fun q => e (Sum.inr.inj q)
    rw [decide_eq_false h, decide_eq_false e]
theorem key_lr (a : Int) (b : Str) : decide ((Sum.inl a : Key) = Sum.inr b) = false := decide_eq_false (fun q => nomatch q)
theorem key_rl (a : Str) (b : Int) : decide ((Sum.inr a : Key) = Sum.inl b) = false := decide_eq_false (fun q => nomatch q)

def mixKind (prog : Program) (w : World) : PySem.KeyKind prog w Key where
  is := keyIs
  hash := keyH w
  inj := fun v a b ha hb => by
    rcases keyIs_shape ha with ⟨i, t, rfl, rfl⟩ | ⟨x, t, rfl, rfl⟩
    · rcases keyIs_shape hb with ⟨j, u, rfl, e⟩ | ⟨y, u, rfl, e⟩
      · injection e with e1 _; rw [e1]
      · exact nomatch e
    · rcases keyIs_shape hb with ⟨j, u, rfl, e⟩ | ⟨y, u, rfl, e⟩
      · exact nomatch e
      · injection e with e1 _; rw [e1]
  byValue := fun k v h => by
    rcases keyIs_shape h with ⟨i, t, rfl, rfl⟩ | ⟨x, t, rfl, rfl⟩ <;> rfl
  pyHash := fun hv h => by
    rcases keyIs_shape hv with ⟨i, t, rfl, rfl⟩ | ⟨x, t, rfl, rfl⟩
    · exact wpAny_pyHash_int h
    · exact wpAny_pyHash_str h
  eqBool := fun hu hv h => by
    rcases keyIs_shape hu with ⟨i, t, rfl, rfl⟩ | ⟨x, t, rfl, rfl⟩
    · rcases keyIs_shape hv with ⟨j, u, rfl, rfl⟩ | ⟨y, u, rfl, rfl⟩
      · rw [key_ll] at h; exact wpAny_eqBool_int h
      · rw [key_lr] at h; exact SeqAt.EqAt.int_str i t y u _ _ _ _ h
    · rcases keyIs_shape hv with ⟨j, u, rfl, rfl⟩ | ⟨y, u, rfl, rfl⟩
      · rw [key_rl] at h; exact SeqAt.EqAt.str_int x t j u _ _ _ _ h
      · rw [key_rr] at h; exact wpAny_eqBool_str h
  «strs» := fun k x t v h => by
    rcases keyIs_shape h with ⟨i, u, rfl, e⟩ | ⟨y, u, rfl, e⟩
    · exact nomatch e
    · injection e with e1 _
      subst e1
      cases v <;> rfl

theorem mixKind_int (prog : Program) (w : World) (i : Int) (t : Tok) : (mixKind prog w).is (.inl i) (.int i t) = true := keyIs_int i t
theorem mixKind_str (prog : Program) (w : World) (x : Str) (t : Tok) : (mixKind prog w).is (.inr x) (.str x t) = true := keyIs_str x t
end L2

namespace L2
open PySem PySem.Spec PyProof.Rows

/-- a value, without the heap -/
inductive V where
  | non | bl (b : Bool) | int (i : Int) | str (x : Str) | byt (b : Array UInt8) | flt (b : UInt64) | ref (a : Addr) | ty (n : String)
  deriving DecidableEq

def RelV : V → Value → Prop
  | .non, u => u = Value.none
  | .bl b, u => u = Value.bool b
  | .int i, u => ∃ t, u = Value.int i t
  | .str x, u => ∃ t, u = Value.str x t
  | .byt b, u => ∃ t, u = Value.bytes b t
  | .flt b, u => ∃ t, u = Value.float b t
  | .ref a, u => u = Value.ref a
  | .ty n, u => u = Value.type n

abbrev Vals : List V → List Value → Prop := Paired RelV
theorem Vals.length {xs : List V} {us : List Value} (r : Vals xs us) : xs.length = us.length := Paired.length r
theorem Vals.get : ∀ {xs : List V} {us : List Value} {i : Nat} {x : V}, Vals xs us → xs[i]? = some x → ∃ u, us[i]? = some u ∧ RelV x u
  | _, _, _, _, .nil, e => by simp at e
  | _, _, 0, _, .cons r _, e => by simp at e; subst e; exact ⟨_, rfl, r⟩
  | _, _, i + 1, x, .cons _ t, e => by
    obtain ⟨u, h1, h2⟩ := Vals.get (i := i) (x := x) t (by simpa using e)
    exact ⟨u, by simpa using h1, h2⟩
theorem Vals.set {x : V} {u : Value} (r : RelV x u) : ∀ {xs : List V} {us : List Value} (i : Nat), Vals xs us → Vals (xs.set i x) (us.set i u)
  | _, _, _, .nil => .nil
  | _, _, 0, .cons _ t => .cons r t
  | _, _, i + 1, .cons q t => .cons q (Vals.set r i t)
theorem Vals.append : ∀ {xs ys : List V} {us ws : List Value}, Vals xs us → Vals ys ws → Vals (xs ++ ys) (us ++ ws)
  | _, _, _, _, .nil, s => s
  | _, _, _, _, .cons r t, s => .cons r (Vals.append t s)
theorem Vals.take : ∀ {xs : List V} {us : List Value} (n : Nat), Vals xs us → Vals (xs.take n) (us.take n)
  | _, _, 0, _ => .nil
  | _, _, _ + 1, .nil => .nil
  | _, _, n + 1, .cons r t => .cons r (Vals.take n t)
theorem Vals.drop : ∀ {xs : List V} {us : List Value} (n : Nat), Vals xs us → Vals (xs.drop n) (us.drop n)
  | _, _, 0, r => r
  | _, _, _ + 1, .nil => .nil
  | _, _, n + 1, .cons _ t => Vals.drop n t

def RelO : Option V → Option Value → Prop
  | some v, some u => RelV v u
  | none, none => True
  | _, _ => False
def KV {κ : Type} : List (κ × V) → List (κ × Value) → Prop := Paired fun (p : κ × V) (q : κ × Value) => p.1 = q.1 ∧ RelV p.2 q.2

/-- a key of a dict (00_mix): an int or a text -/
def kV : Key → V
  | .inl i => .int i
  | .inr x => .str x

/-- what stands at a tracked address -/
inductive HO where
  /-- a list -/
  | lst (xs : List V)
  /-- a tuple (never changes) -/
  | tup (xs : List V)
  /-- a dict whose keys are ints and texts; one whose keys are tuples of ints and texts (the empty one is both) -/
  | dK (kvs : List (Key × V)) | dT (kvs : List (List Key × V))
  /-- a set of ints: its members, its size -/
  | set (S : Int → Bool) (n : Nat)
  /-- an instance of the class at C, its dict at dx, its attributes -/
  | ins (C dx : Addr) (fs : List (Str × V))
  /-- the dict of the instance at x -/
  | own (x : Addr)
  /-- the dict of an exception -/
  | xd (fs : List (Str × V))
  /-- a bound method, f of x -/
  | met (f x : Addr)
  /-- a range object lo, lo + 1, .. below hi -/
  | rng (lo hi : Int)
  /-- a thing that is known to the object (the script; a dict while a loop walks it): read, never written while it is so -/
  | frz (o : Obj) (u : HO)
  /-- a code object's table -/
  | tbl (ps : Array Value)
  /-- any other thing, by what is true of its one object (a def of one's own: SetO a S n := HO.ext fun h => ..) -/
  | ext (φ : Heap → Prop)

abbrev Hp := Addr → Option HO
def upd (H : Hp) (a : Addr) (o : HO) : Hp := fun b => if b = a then some o else H b
theorem upd_same {H : Hp} {a : Addr} {o : HO} : upd H a o a = some o := by unfold upd; rw [if_pos rfl]
theorem upd_ne {H : Hp} {a b : Addr} {o : HO} (h : b ≠ a) : upd H a o b = H b := by unfold upd; rw [if_neg h]
theorem upd_upd {H : Hp} {a : Addr} {o u : HO} : upd (upd H a o) a u = upd H a u := by
  funext b; unfold upd; split <;> rfl
theorem ne_of_none {H : Hp} {a b : Addr} {o : HO} (h : H a = some o) (h' : H b = none) : a ≠ b := by
  intro e; subst e; rw [h] at h'; cases h'

section
variable (P : Program) (w : World)
def ObjOk (H : Hp) (h : Heap) (a : Addr) : HO → Prop
  | .lst xs => xs.length ≤ sizeLine ∧ ∃ (its : List Value) (n : Nat), Vals xs its ∧ h.get? a = some { cls := .type "list", data := .seq its.toArray n }
  | .tup xs => xs.length ≤ sizeLine ∧ ∃ its : List Value, Vals xs its ∧ IsTup h a its.toArray
  | .dK kvs => kvs.length ≤ sizeLine ∧ (a == sysModules) = false ∧ ∃ vs, KV kvs vs ∧ h.DictOf (mixKind P w) a vs
  | .dT kvs => kvs.length ≤ sizeLine ∧ (a == sysModules) = false ∧ ∃ xs : List (List Key × Addr × Value),
      Paired (fun (p : List Key × V) (q : List Key × Addr × Value) => p.1 = q.1 ∧ H q.2.1 = some (.tup (p.1.map kV)) ∧ RelV p.2 q.2.2) kvs xs ∧
      ∃ o es ep, h.get? a = some o ∧ o.ExactDict ∧ o.data = .dict es ep ∧ es.toList = xs.map (entryOfKey (tupleKind (mixKind P w))) ∧ (xs.map (·.1)).Nodup
  | .set S n => h.SetOf (intKind P w) a S n
  | .ins C dx fs => H dx = some (.own a) ∧ fs.length ≤ 1000 ∧ dx ≠ a ∧ h.get? a = some (PySem.W.instObj C dx) ∧
      ∃ mA, h.Ns1 dx mA ∧ (∀ f, RelO (fs.lookup f) (mA f)) ∧ PySem.Within mA (fs.map (·.1))
  | .own _ => ∃ o, h.get? a = some o
  | .xd fs => ∃ mA, h.Ns1 a mA ∧ ∀ f, RelO (fs.lookup f) (mA f)
  | .rng lo hi => ∃ t u v, h.get? a = some { cls := .type "range", data := .fields #[.int lo t, .int hi u, .int 1 v] }
  | .frz o u => h.get? a = some o ∧ ObjOk H h a u
  | .tbl ps => h.get? a = some { cls := .none, data := .fields ps }
  | .met f x => h.get? a = some (PySem.W.methodObj (.ref f) (.ref x))
  | .ext φ => φ h ∧ (∃ o, h.get? a = some o) ∧ ∀ h1 h2 : Heap, φ h1 → (∀ o, h1.get? a = some o → h2.get? a = some o) → φ h2
/-- the abstract heap is held -/
def HOk (H : Hp) (h : Heap) : Prop := ∀ a o, H a = some o → ObjOk P w H h a o
end

section
variable {P : Program} {w : World} {H H' : Hp} {h h' : Heap} {a : Addr} {o : HO}
theorem ObjOk.lt (x : ObjOk P w H h a o) : a < h.objs.size := by
  cases o with
  | lst xs => obtain ⟨_, _, _, _, e⟩ := x; exact Heap.lt_size e
  | tup xs => obtain ⟨_, _, _, p⟩ := x; exact p.lt
  | dK kvs => obtain ⟨_, _, _, _, o, _, _, e, _⟩ := x; exact Heap.lt_size e
  | dT kvs => obtain ⟨_, _, _, _, o, _, _, e, _⟩ := x; exact Heap.lt_size e
  | set S n => obtain ⟨o, _, _, _, e, _⟩ := x; exact Heap.lt_size e
  | ins C dx fs => obtain ⟨_, _, _, e, _⟩ := x; exact Heap.lt_size e
  | own y => obtain ⟨_, e⟩ := x; exact Heap.lt_size e
  | xd fs => obtain ⟨_, ⟨_, _, _, e, _⟩, _⟩ := x; exact Heap.lt_size e
  | rng lo hi => obtain ⟨_, _, _, e⟩ := x; exact Heap.lt_size e
  | frz ob u => obtain ⟨e, _⟩ := x; exact Heap.lt_size e
  | tbl ps => exact Heap.lt_size (show h.get? a = some _ from x)
  | met f y => exact Heap.lt_size (show h.get? a = some _ from x)
  | ext φ => obtain ⟨_, ⟨_, e⟩, _⟩ := x; exact Heap.lt_size e
theorem Paired.mapP {α β : Type} {F G : α → β → Prop} : ∀ {l₁ : List α} {l₂ : List β}, Paired F l₁ l₂ → (∀ a b, F a b → G a b) → Paired G l₁ l₂
  | _, _, .nil, _ => .nil
  | _, _, .cons r t, f => .cons (f _ _ r) (Paired.mapP t f)
/-- what an object's description leans on: its own object, its own dict, the tuples -/
theorem ObjOk.stay (x : ObjOk P w H h a o) (k : ∀ b u, (b = a ∨ H b = some (.own a)) → h.get? b = some u → h'.get? b = some u)
    (ho : ∀ b, H b = some (.own a) → H' b = some (.own a)) (ht : ∀ b xs, H b = some (.tup xs) → H' b = some (.tup xs)) : ObjOk P w H' h' a o := by
  induction o with
  | lst xs => obtain ⟨z, its, n, r, e⟩ := x; exact ⟨z, its, n, r, k _ _ (.inl rfl) e⟩
  | tup xs => obtain ⟨z, its, r, ob, e, c⟩ := x; exact ⟨z, its, r, ob, k _ _ (.inl rfl) e, c⟩
  | dK kvs => obtain ⟨z, y, vs, r, ob, es, ep, e, c⟩ := x; exact ⟨z, y, vs, r, ob, es, ep, k _ _ (.inl rfl) e, c⟩
  | dT kvs =>
    obtain ⟨z, y, xs, r, ob, es, ep, e, c⟩ := x
    exact ⟨z, y, xs, Paired.mapP r fun p q z => ⟨z.1, ht _ _ z.2.1, z.2.2⟩, ob, es, ep, k _ _ (.inl rfl) e, c⟩
  | set S n => obtain ⟨ob, es, ep, t, e, c⟩ := x; exact ⟨ob, es, ep, t, k _ _ (.inl rfl) e, c⟩
  | ins C dx fs =>
    obtain ⟨d, z, ne, e, mA, ⟨od, es, ep, e2, c⟩, r⟩ := x
    exact ⟨ho _ d, z, ne, k _ _ (.inl rfl) e, mA, ⟨od, es, ep, k _ _ (.inr d) e2, c⟩, r⟩
  | own y => obtain ⟨ob, e⟩ := x; exact ⟨ob, k _ _ (.inl rfl) e⟩
  | xd fs => obtain ⟨mA, ⟨od, es, ep, e, c⟩, r⟩ := x; exact ⟨mA, ⟨od, es, ep, k _ _ (.inl rfl) e, c⟩, r⟩
  | rng lo hi => obtain ⟨t, u, v, e⟩ := x; exact ⟨t, u, v, k _ _ (.inl rfl) e⟩
  | frz ob u ih => obtain ⟨e, q⟩ := x; exact ⟨k _ _ (.inl rfl) e, ih q⟩
  | tbl ps =>
    have e : h.get? a = some { cls := .none, data := .fields ps } := x
    show h'.get? a = some { cls := .none, data := .fields ps }
    exact k a _ (.inl rfl) e
  | met f y =>
    have e : h.get? a = some (PySem.W.methodObj (.ref f) (.ref y)) := x
    show h'.get? a = some (PySem.W.methodObj (.ref f) (.ref y))
    exact k a _ (.inl rfl) e
  | ext φ => obtain ⟨p, ⟨o, e⟩, st⟩ := x; exact ⟨st _ _ p fun o q => k _ _ (.inl rfl) q, ⟨o, k _ _ (.inl rfl) e⟩, st⟩
theorem HOk.lt (x : HOk P w H h) (e : H a = some o) : a < h.objs.size := (x a o e).lt
theorem HOk.fresh (x : HOk P w H h) (e : h.objs.size ≤ a) : H a = none := by
  cases q : H a with
  | none => rfl
  | some u => exact absurd (Nat.lt_of_lt_of_le (x.lt q) e) (Nat.lt_irrefl _)
/-- every object of the heap is kept -/
theorem HOk.kept (x : HOk P w H h) (k : ∀ b u, h.get? b = some u → h'.get? b = some u) : HOk P w H h' := fun a o e =>
  (x a o e).stay (fun b u _ q => k b u q) (fun _ q => q) fun _ _ q => q
/-- a new object is laid and tracked -/
theorem HOk.laid (x : HOk P w H h) (k : ∀ b u, h.get? b = some u → h'.get? b = some u) (hp : h.objs.size ≤ a) (new : ObjOk P w (upd H a o) h' a o) : HOk P w (upd H a o) h' := fun b u e => by
  have hn := x.fresh hp
  by_cases hb : b = a
  · subst hb; rw [upd_same] at e; cases e; exact new
  · rw [upd_ne hb] at e
    exact (x b u e).stay (fun c v _ q => k c v q) (fun c q => by rw [upd_ne (ne_of_none q hn)]; exact q) fun c xs q => by rw [upd_ne (ne_of_none q hn)]; exact q
end

/-- what may be read as u: it is u, or a known u -/
def Rd (H : Hp) (a : Addr) (u : HO) : Prop := H a = some u ∨ ∃ o, H a = some (.frz o u)
theorem Rd.ok {P : Program} {w : World} {H : Hp} {h : Heap} {a : Addr} {u : HO} (r : Rd H a u) (x : HOk P w H h) : ObjOk P w H h a u := by
  rcases r with r | ⟨o, r⟩
  · exact x a u r
  · obtain ⟨_, q⟩ := x a _ r
    exact q
/-- what may be written -/
def Mut : Option HO → Prop
  | some (.lst _) => True
  | some (.dK _) => True
  | some (.dT _) => True
  | some (.set _ _) => True
  | some (.ins _ _ _) => True
  | some (.ext _) => True
  | _ => False
section
variable {P : Program} {w : World} {H : Hp} {h h' : Heap} {x e : Addr} {o' : HO}
/-- the object at e is changed: x itself, or the dict of the instance x -/
theorem HOk.write (ok : HOk P w H h) (mu : Mut (H x)) (he : e = x ∨ H e = some (.own x)) (k : ∀ b u, b ≠ e → h.get? b = some u → h'.get? b = some u) (heo : ∃ u, h'.get? e = some u)
    (new : ObjOk P w (upd H x o') h' x o') : HOk P w (upd H x o') h' := fun b u q => by
  have nown : ∀ c y, H c = some (.own y) → c ≠ x := fun c y r z => by subst z; rw [r] at mu; exact mu
  have ntup : ∀ c xs, H c = some (.tup xs) → c ≠ x := fun c xs r z => by subst z; rw [r] at mu; exact mu
  by_cases hb : b = x
  · subst hb; rw [upd_same] at q; cases q; exact new
  · rw [upd_ne hb] at q
    by_cases hbe : b = e
    · have q' : H b = some (.own x) := by
        rcases he with z | z
        · exact absurd (hbe.trans z) hb
        · rw [hbe]; exact z
      rw [q] at q'; cases q'
      obtain ⟨v, hv⟩ := heo
      exact ⟨v, by rw [hbe]; exact hv⟩
    · refine (ok b u q).stay (fun c v hc r => k c v ?_ r) (fun c r => by rw [upd_ne (nown c b r)]; exact r) fun c xs r => by rw [upd_ne (ntup c xs r)]; exact r
      rcases hc with rfl | hc
      · exact hbe
      · rintro rfl
        rcases he with z | z
        · exact nown c b hc z
        · rw [hc] at z; cases z; exact hb rfl
end

/-! ### kept unless tracked; of the frames at fs (the callers') the slots may change (an exception that passes writes there); of the records at ex (iterators) nothing is said -/
structure Un (fs ex : List Addr) (H H' : Hp) (h h' : Heap) : Prop where
  keep : ∀ b o, h.get? b = some o → H b = none → b ∉ fs → b ∉ ex → h'.get? b = some o
  slot : ∀ b o, h.get? b = some o → H b = none → b ∈ fs → b ∉ ex → ∃ sl, h'.get? b = some { o with slots := sl }
  free : ∀ b o, h.get? b = some o → H b = none → b ∉ ex → H' b = none
  there : ∀ b o, h.get? b = some o → b ∉ ex → ∃ o', h'.get? b = some o'
  tups : ∀ b xs, H b = some (.tup xs) → H' b = some (.tup xs)
  frzs : ∀ b o u, H b = some (.frz o u) → H' b = some (.frz o u)
  tbls : ∀ b ps, H b = some (.tbl ps) → ∃ more, H' b = some (.tbl (ps ++ more))
section
variable {fs fs' ex ex' : List Addr} {H H1 H2 : Hp} {h h1 h2 h' : Heap} {a x e : Addr} {o : HO}
theorem Un.any (u : Un fs ex H H1 h h1) {b : Addr} {ob : Obj} (q : h.get? b = some ob) (n : H b = none) (hx : b ∉ ex) : ∃ sl, h1.get? b = some { ob with slots := sl } := by
  by_cases hb : b ∈ fs
  · exact u.slot b ob q n hb hx
  · exact ⟨ob.slots, u.keep b ob q n hb hx⟩
theorem Un.kept (k : ∀ b u, h.get? b = some u → h'.get? b = some u) : Un fs ex H H h h' :=
  ⟨fun b ob q _ _ _ => k b ob q, fun b ob q _ _ _ => ⟨ob.slots, k b ob q⟩, fun _ _ _ n _ => n, fun b ob q _ => ⟨ob, k b ob q⟩, fun _ _ q => q, fun _ _ _ q => q, fun _ ps q => ⟨#[], by rw [q]; simp⟩⟩
theorem Un.refl : Un fs ex H H h h := Un.kept fun _ _ q => q
theorem Un.laid (k : ∀ b u, h.get? b = some u → h'.get? b = some u) (hp : h.objs.size ≤ a) (hn : H a = none) : Un fs ex H (upd H a o) h h' where
  keep := fun b u q _ _ _ => k b u q
  slot := fun b u q _ _ _ => ⟨u.slots, k b u q⟩
  free := fun b u q n _ => by rw [upd_ne (Nat.ne_of_lt (Nat.lt_of_lt_of_le (Heap.lt_size q) hp))]; exact n
  there := fun b u q _ => ⟨u, k b u q⟩
  tups := fun b xs q => by rw [upd_ne (ne_of_none q hn)]; exact q
  frzs := fun b u xs q => by rw [upd_ne (ne_of_none q hn)]; exact q
  tbls := fun b ps q => ⟨#[], by rw [upd_ne (ne_of_none q hn), q]; simp⟩
theorem Un.write (mu : Mut (H x)) (he : e = x ∨ H e = some (.own x)) (k : ∀ b u, b ≠ e → h.get? b = some u → h'.get? b = some u) (heo : ∃ u, h'.get? e = some u) : Un fs ex H (upd H x o) h h' := by
  have hx : ∀ b, H b = none → b ≠ x := fun b n z => by subst z; rw [n] at mu; exact mu
  have hb : ∀ b, H b = none → b ≠ e := fun b n z => by
    subst z
    rcases he with r | r
    · exact hx b n r
    · rw [n] at r; cases r
  have hm : ∀ b u, H b = some u → ¬ Mut (some u) → b ≠ x := fun b u q nm z => by subst z; rw [q] at mu; exact nm mu
  refine ⟨fun b u q n _ _ => k b u (hb b n) q, fun b u q n _ _ => ⟨u.slots, k b u (hb b n) q⟩, fun b u q n _ => by rw [upd_ne (hx b n)]; exact n, fun b u q _ => ?_,
    fun b xs q => by rw [upd_ne (hm b _ q fun z => z)]; exact q, fun b u xs q => by rw [upd_ne (hm b _ q fun z => z)]; exact q, fun b ps q => ⟨#[], by rw [upd_ne (hm b _ q fun z => z), q]; simp⟩⟩
  by_cases hbe : b = e
  · subst hbe; exact heo
  · exact ⟨u, k b u hbe q⟩
end

/-! ### the heap without what is tracked -/
def trk (h : Heap) (H : Hp) : List Addr := (List.range h.objs.size).filter fun a => (H a).isSome
def hidT (h : Heap) (H : Hp) : Heap := PySem.W.hideAll h (trk h H)
theorem hidT_size (h : Heap) (H : Hp) : (hidT h H).objs.size = h.objs.size := PySem.W.hideAll_size _ _
theorem hidT_get {h : Heap} {H : Hp} {b : Addr} {o : Obj} (e : h.get? b = some o) (n : H b = none) : (hidT h H).get? b = some o :=
  PySem.W.hideAll_get _ e fun hm => by
    have q : (H b).isSome = true := (List.mem_filter.mp hm).2
    rw [n] at q; simp at q
theorem of_hidT {h : Heap} {H : Hp} {b : Addr} {o : Obj} (e : (hidT h H).get? b = some o) : h.get? b = some o ∧ H b = none := by
  have e' : h.get? b = some o := PySem.W.of_hideAll (trk h H) e
  refine ⟨e', ?_⟩
  cases q : H b with
  | none => rfl
  | some x =>
    have hm : b ∈ trk h H := List.mem_filter.mpr ⟨List.mem_range.mpr (Heap.lt_size e'), by simp [q]⟩
    have z : (hidT h H).get? b = none := PySem.W.hideAll_none (trk h H) hm
    rw [z] at e; cases e

/-! ### OpenK's ledger, filled with every new object but one -/
def allNews (g h : Heap) (L : Addr) : List (Addr × Obj) := (List.range h.objs.size).filterMap fun a => if a = L ∨ (g.get? a).isSome = true then none else (h.get? a).map fun o => (a, o)
def rest (g h : Heap) (L d : Addr) : List (Addr × Obj) := (allNews g h L).filter fun p => decide (p.1 ≠ d)
end L2

namespace L2
open PySem PySem.Spec PyProof.Rows

/-- the module's facts, over the base: the heap at the law's entry without what is tracked there -/
structure Mod (K : PySem.W.Frag) (mg : Str → Option Value) (base : Heap) : Prop where
  kin : K.In base
  glob : base.Ns mainGlobals mg
  blt : ∃ mb, base.Ns builtinsNs mb ∧ ∀ x : Str, x ≠ "__name__" → mb x = bootBuiltins x
  nolimit : base.NoLimit

/-- the context: a def's body (or a comprehension's block) running. base: fixed through the whole law; s₀, H₀: the entry; outer: the frames whose slots others may change (a def's callers); stack: all frames that run;
   ex: iterators that were made ahead of the entry and are walked here (a comprehension's); fn: the names whose cells were made at the entry (a def: all; a comprehension's block: its own); calm: not within an except suite; pn: pins that every state bears; xe: what is wanted of an exception that leaves the code -/
structure Cx where
  prog : Program
  w : World
  K : PySem.W.Frag
  mg : Str → Option Value
  base : Heap
  A : Around
  N : List Str
  s₀ : Shared
  H₀ : Hp
  env : Env
  outer : List Env
  stack : List Env
  ex : List Addr
  fn : Str → Bool
  calm : Bool
  pn : List (Addr × Obj)
  xe : Value → Shared → Prop
/-- the callers' frames -/
def frs (l : List Env) : List Addr := l.filterMap (·.frame)
abbrev Cx.fs (X : Cx) : List Addr := frs X.outer

def Vis (sc : Scope) (x : Str) : Prop := sc.names.lookup x = some .local ∨ sc.names.lookup x = some .cell ∨ sc.names.lookup x = some .free
def Loc (sc : Scope) (x : Str) : Prop := sc.names.lookup x = some .local ∨ sc.names.lookup x = some .cell
def Look (env : Env) (h : Heap) (m : Str → Option Value) (x : Str) (u : Value) : Prop :=
  (env.kindOf x = some .local ∧ m x = some u) ∨ ((env.kindOf x = some .cell ∨ env.kindOf x = some .free) ∧ ∃ c, env.cells.lookup x = some c ∧ h.IsCell c (some u))

structure Cx.Ok (X : Cx) : Prop where
  mod : Mod X.K X.mg X.base
  kind : X.env.scope.kind = .function
  glob : X.env.globals = mainGlobals
  blt : X.env.builtins = builtinsNs
  above : X.s₀.heap.objs.size ≤ X.env.locals
  inj : ∀ x y c, X.env.cells.lookup x = some c → X.env.cells.lookup y = some c → x = y
  has : ∀ x, (X.env.kindOf x = some .cell ∨ X.env.kindOf x = some .free) → ∃ c, X.env.cells.lookup x = some c
  cab : ∀ x c, X.fn x = true → X.env.cells.lookup x = some c → X.s₀.heap.objs.size ≤ c
  hd : X.calm = true → X.A.handled = none
  frames : X.A.frames = some X.stack
  stk : X.stack = X.outer ∨ (X.stack = X.env :: X.outer ∧ X.env.frame = some X.env.locals)
  exf : ∀ b ∈ X.ex, b ≠ X.env.locals ∧ ∀ x c, X.env.cells.lookup x = some c → c ≠ b
  bs : ∀ b o, X.base.get? b = some o → X.s₀.heap.get? b = some o ∧ X.H₀ b = none
  bsz : X.base.objs.size ≤ X.s₀.heap.objs.size
  noex : ∀ b o, X.base.get? b = some o → b ∉ X.ex
  exfs : ∀ b ∈ X.ex, b ∉ X.fs
  funs : X.s₀.heap.FunFrames X.base X.outer
  frf : ∀ b ∈ X.fs, X.H₀ b = none

structure Inv (X : Cx) (pins : List (Addr × Obj)) (σ : List (Option V)) (H : Hp) (s : Shared) : Prop where
  ok : X.Ok
  os : s.os = X.s₀.os
  bare : AllBare s.gens
  base : Un X.fs X.ex X.H₀ H X.s₀.heap s.heap
  loc : ∃ m, s.heap.Ns X.env.locals m ∧ ∀ (i : Nat) (x : Str) (v : V), X.N[i]? = some x → σ[i]? = some (some v) → Vis X.env.scope x → ∃ u, RelV v u ∧ Look X.env s.heap m x u
  cell : ∀ x c, X.env.cells.lookup x = some c → ∃ v, s.heap.IsCell c v
  free : H X.env.locals = none
  freeC : ∀ x c, X.env.cells.lookup x = some c → H c = none
  pin : ∀ p ∈ X.pn ++ pins, s.heap.get? p.1 = some p.2 ∧ H p.1 = none ∧ p.1 ≠ X.env.locals ∧ p.1 ∉ X.fs ∧ ∀ v, p.2.data ≠ .cell v
  hok : HOk X.prog X.w H s.heap
  len : σ.length = X.N.length

section
variable {X : Cx} {pins : List (Addr × Obj)} {σ : List (Option V)} {H H' : Hp} {s : Shared} {h' : Heap}

theorem Cx.Ok.nofr (ok : X.Ok) {b : Addr} {o : Obj} (e : X.base.get? b = some o) : b ∉ X.fs := fun hb => by
  have := (ok.funs.mem hb).1
  rw [e] at this; cases this
theorem Inv.bs (I : Inv X pins σ H s) : ∀ b o, X.base.get? b = some o → s.heap.get? b = some o ∧ H b = none := fun b o e =>
  ⟨I.base.keep b o (I.ok.bs b o e).1 (I.ok.bs b o e).2 (I.ok.nofr e) (I.ok.noex b o e), I.base.free b o (I.ok.bs b o e).1 (I.ok.bs b o e).2 (I.ok.noex b o e)⟩
theorem Inv.bk (I : Inv X pins σ H s) : ∀ b o, X.base.get? b = some o → s.heap.get? b = some o := fun b o e => (I.bs b o e).1
theorem Inv.mod (I : Inv X pins σ H s) : Mod X.K X.mg X.base := I.ok.mod
theorem Inv.kIn (I : Inv X pins σ H s) : X.K.In s.heap := I.ok.mod.kin.keeps I.bk
theorem Inv.lt (I : Inv X pins σ H s) : X.env.locals < s.heap.objs.size := let ⟨_, hn, _⟩ := I.loc; hn.lt
theorem Inv.sz (I : Inv X pins σ H s) : X.s₀.heap.objs.size ≤ s.heap.objs.size := Nat.le_trans I.ok.above (Nat.le_of_lt I.lt)
theorem Inv.nofs (I : Inv X pins σ H s) {a : Addr} (h : s.heap.objs.size ≤ a) : a ∉ X.fs := fun hb => by
  obtain ⟨_, o, ho, _⟩ := I.ok.funs.mem hb
  exact absurd (Nat.lt_of_lt_of_le (Heap.lt_size ho) (Nat.le_trans I.sz h)) (Nat.lt_irrefl _)
theorem Inv.cne (I : Inv X pins σ H s) : ∀ x c, X.env.cells.lookup x = some c → c ≠ X.env.locals := fun x c e z => by
  obtain ⟨v, o, ho, hd⟩ := I.cell x c e
  obtain ⟨m, ⟨o', es, ep, ho', hd', _⟩, _⟩ := I.loc
  rw [z, ho'] at ho; cases ho; rw [hd'] at hd; cases hd
theorem Inv.funs (I : Inv X pins σ H s) : s.heap.FunFrames X.base X.outer := by
  have all : ∀ (l : List Env), (∀ b ∈ frs l, b ∈ X.fs) → X.s₀.heap.FunFrames X.base l → s.heap.FunFrames X.base l := by
    intro l
    induction l with
    | nil => intro _ _; trivial
    | cons env r ih =>
      intro hs hl
      obtain ⟨hk, ⟨L, o, hf, hn, ho, hd⟩, hr⟩ := hl
      have hL : L ∈ X.fs := hs L (by unfold frs; rw [List.filterMap_cons, hf]; exact List.mem_cons_self)
      obtain ⟨sl, e⟩ := I.base.slot L o ho (I.ok.frf L hL) hL fun z => I.ok.exfs L z hL
      exact ⟨hk, ⟨L, _, hf, hn, e, hd⟩, ih (fun b hb => hs b (by unfold frs; rw [List.filterMap_cons, hf]; exact List.mem_cons_of_mem _ hb)) hr⟩
  exact all X.outer (fun _ hb => hb) I.ok.funs

/-- the frames that run, for a call -/
theorem Inv.stack (I : Inv X pins σ H s) : s.heap.FunFrames X.base X.stack := by
  rcases I.ok.stk with e | ⟨e, hf⟩
  · rw [e]; exact I.funs
  · rw [e]
    obtain ⟨m, hn, _⟩ := I.loc
    refine .cons (by rw [I.ok.kind]; decide) hf hn ?_ I.funs
    exact Heap.get?_none_of_le (Nat.le_trans I.ok.bsz I.ok.above)
theorem Inv.stkSub (I : Inv X pins σ H s) : ∀ b ∈ frs X.stack, b ∈ X.env.locals :: X.fs := fun b hb => by
  rcases I.ok.stk with e | ⟨e, hf⟩
  · rw [e] at hb; exact List.mem_cons_of_mem _ hb
  · rw [e] at hb
    unfold frs at hb
    rw [List.filterMap_cons, hf] at hb
    exact hb
theorem Inv.stkFree (I : Inv X pins σ H s) : ∀ b ∈ frs X.stack, H b = none := fun b hb => by
  rcases List.mem_cons.mp (I.stkSub b hb) with e | hb
  · rw [e]; exact I.free
  · obtain ⟨_, o, ho, _⟩ := I.ok.funs.mem hb
    exact I.base.free b o ho (I.ok.frf b hb) fun z => I.ok.exfs b z hb

/-- THE STEP: the untracked objects but the frame and the records at ch are kept (the callers' frames up to slots), the frame's map is kept, the new abstract heap is held -/
theorem Inv.step {g' : Array GenState} {t' : Nat} {d' : Drawn} {ch : List Addr} (I : Inv X pins σ H s)
    (hch : ∀ b ∈ ch, (b ∈ X.ex ∨ X.s₀.heap.objs.size ≤ b) ∧ b ≠ X.env.locals ∧ (∀ x c, X.env.cells.lookup x = some c → c ≠ b) ∧ ∀ p ∈ X.pn ++ pins, p.1 ≠ b)
    (keep : ∀ b o, b ≠ X.env.locals → b ∉ X.fs → b ∉ ch → s.heap.get? b = some o → H b = none → h'.get? b = some o)
    (slot : ∀ b o, b ≠ X.env.locals → b ∈ X.fs → b ∉ ch → s.heap.get? b = some o → H b = none → ∃ sl, h'.get? b = some { o with slots := sl }) (free : ∀ b o, b ∉ ch → s.heap.get? b = some o → H b = none → H' b = none)
    (there : ∀ b o, b ∉ ch → s.heap.get? b = some o → ∃ o', h'.get? b = some o')
    (tups : ∀ b xs, H b = some (.tup xs) → H' b = some (.tup xs)) (frzs : ∀ b o u, H b = some (.frz o u) → H' b = some (.frz o u)) (tbls : ∀ b ps, H b = some (.tbl ps) → ∃ more, H' b = some (.tbl (ps ++ more)))
    (ns : ∀ m, s.heap.Ns X.env.locals m → h'.Ns X.env.locals m) (hok : HOk X.prog X.w H' h') (hg : AllBare g') :
    Inv X pins σ H' { s with heap := h', gens := g', drawn := d', toks := t' } := by
  have neL : ∀ b o, X.s₀.heap.get? b = some o → b ≠ X.env.locals := fun b o e => Nat.ne_of_lt (Nat.lt_of_lt_of_le (Heap.lt_size e) I.ok.above)
  have neC : ∀ b o, X.s₀.heap.get? b = some o → b ∉ X.ex → b ∉ ch := fun b o e hx hb => by
    rcases (hch b hb).1 with z | z
    · exact hx z
    · exact absurd (Nat.lt_of_lt_of_le (Heap.lt_size e) z) (Nat.lt_irrefl _)
  have cellK : ∀ x c, X.env.cells.lookup x = some c → ∀ v, s.heap.IsCell c v → h'.IsCell c v := fun x c e v ⟨o, ho, hd⟩ => by
    have nch : c ∉ ch := fun z => (hch c z).2.2.1 x c e rfl
    by_cases hc : c ∈ X.fs
    · obtain ⟨sl, q⟩ := slot c o (I.cne x c e) hc nch ho (I.freeC x c e)
      exact ⟨_, q, hd⟩
    · exact ⟨o, keep c o (I.cne x c e) hc nch ho (I.freeC x c e), hd⟩
  refine ⟨I.ok, I.os, hg, ⟨fun b o e n hb hx => ?_, fun b o e n hb hx => ?_, fun b o e n hx => ?_, fun b o e hx => ?_, fun b xs e => tups b xs (I.base.tups b xs e), fun b o xs e => frzs b o xs (I.base.frzs b o xs e), fun b ps e => ?_⟩, ?_, fun x c e => ?_, ?_, fun x c e => ?_, fun p hp => ?_, hok, I.len⟩
  · exact keep b o (neL b o e) hb (neC b o e hx) (I.base.keep b o e n hb hx) (I.base.free b o e n hx)
  · obtain ⟨sl, e1⟩ := I.base.slot b o e n hb hx
    obtain ⟨sl', e2⟩ := slot b _ (neL b o e) hb (neC b o e hx) e1 (I.base.free b o e n hx)
    exact ⟨sl', e2⟩
  · obtain ⟨o', e1⟩ := I.base.there b o e hx
    exact free b o' (neC b o e hx) e1 (I.base.free b o e n hx)
  · obtain ⟨o', e1⟩ := I.base.there b o e hx
    exact there b o' (neC b o e hx) e1
  · obtain ⟨m1, e1⟩ := I.base.tbls b ps e
    obtain ⟨m2, e2⟩ := tbls b _ e1
    exact ⟨m1 ++ m2, by rw [e2, Array.append_assoc]⟩
  · obtain ⟨m, hn, hl⟩ := I.loc
    refine ⟨m, ns m hn, fun i x v e1 e2 e3 => ?_⟩
    obtain ⟨u, r, l⟩ := hl i x v e1 e2 e3
    refine ⟨u, r, ?_⟩
    rcases l with l | ⟨k, c, e, z⟩
    · exact .inl l
    · exact .inr ⟨k, c, e, cellK x c e _ z⟩
  · obtain ⟨v, z⟩ := I.cell x c e
    exact ⟨v, cellK x c e v z⟩
  · obtain ⟨m, ⟨o, _, _, ho, _⟩, _⟩ := I.loc
    exact free _ o (fun z => (hch _ z).2.1 rfl) ho I.free
  · obtain ⟨v, o, ho, hd⟩ := I.cell x c e
    exact free c o (fun z => (hch c z).2.2.1 x c e rfl) ho (I.freeC x c e)
  · obtain ⟨e, n, ne, nf, d⟩ := I.pin p hp
    have nch : p.1 ∉ ch := fun z => (hch p.1 z).2.2.2 p hp rfl
    exact ⟨keep p.1 p.2 ne nf nch e n, free p.1 p.2 nch e n, ne, nf, d⟩
/-- .. where the frame's own object is kept too -/
theorem Inv.un {t' : Nat} (I : Inv X pins σ H s) (u : Un X.fs [] H H' s.heap h') (hok : HOk X.prog X.w H' h') : Inv X pins σ H' { s with heap := h', toks := t' } := by
  obtain ⟨m, ⟨o, es, ep, ho, r⟩, _⟩ := id I.loc
  obtain ⟨sl, hL⟩ := u.any ho I.free (by simp)
  exact I.step (g' := s.gens) (d' := s.drawn) (ch := []) (fun _ z => nomatch z) (fun b o _ hb _ e n => u.keep b o e n hb (by simp)) (fun b o _ hb _ e n => u.slot b o e n hb (by simp)) (fun b o _ e n => u.free b o e n (by simp)) (fun b o _ e => u.there b o e (by simp)) u.tups u.frzs u.tbls (fun m' hm => by
    obtain ⟨o', es', ep', ho', r'⟩ := hm
    rw [ho] at ho'; cases ho'
    exact ⟨_, es', ep', hL, r'⟩) hok I.bare
/-- behind a call (or a comprehension's block): the slots of this frame may have changed too, the records at ch may have turned -/
theorem Inv.call {g' : Array GenState} {t' : Nat} {d' : Drawn} {ch : List Addr} (I : Inv X pins σ H s) (u : Un (frs X.stack) ch H H' s.heap h') (hok : HOk X.prog X.w H' h') (hg : AllBare g')
    (hch : ∀ b ∈ ch, (b ∈ X.ex ∨ X.s₀.heap.objs.size ≤ b) ∧ b ≠ X.env.locals ∧ (∀ x c, X.env.cells.lookup x = some c → c ≠ b) ∧ ∀ p ∈ X.pn ++ pins, p.1 ≠ b) :
    Inv X pins σ H' { s with heap := h', gens := g', drawn := d', toks := t' } := by
  obtain ⟨m, ⟨o, es, ep, ho, r⟩, _⟩ := id I.loc
  obtain ⟨sl, hL⟩ := u.any ho I.free fun z => (hch _ z).2.1 rfl
  exact I.step (ch := ch) hch (fun b o hL hb hc e n => u.keep b o e n (fun z => (List.mem_cons.mp (I.stkSub b z)).elim hL hb) hc) (fun b o _ _ hc e n => u.any e n hc) (fun b o hc e n => u.free b o e n hc) (fun b o hc e => u.there b o e hc) u.tups u.frzs u.tbls (fun m' hm => by
    obtain ⟨o', es', ep', ho', r'⟩ := hm
    rw [ho] at ho'; cases ho'
    exact ⟨_, es', ep', hL, r'⟩) hok hg
/-- an untracked record of ours (an iterator) has turned -/
theorem Inv.turned {t' : Nat} {it : Addr} (I : Inv X pins σ H s) (k : ∀ b o, b ≠ it → s.heap.get? b = some o → h'.get? b = some o) (hn : H it = none) (hL : it ≠ X.env.locals)
    (h1 : it ∈ X.ex ∨ X.s₀.heap.objs.size ≤ it) (h2 : ∀ x c, X.env.cells.lookup x = some c → c ≠ it) (h3 : ∀ p ∈ X.pn ++ pins, p.1 ≠ it) : Inv X pins σ H { s with heap := h', toks := t' } := by
  have nit : ∀ b u, H b = some u → b ≠ it := fun b u e z => by rw [z, hn] at e; cases e
  refine I.step (g' := s.gens) (d' := s.drawn) (ch := [it]) (fun b hb => ?_) (fun b o _ _ hc e _ => k b o (fun z => hc (by simp [z])) e) (fun b o _ _ hc e _ => ⟨o.slots, k b o (fun z => hc (by simp [z])) e⟩) (fun _ _ _ _ n => n)
    (fun b o hc e => ⟨o, k b o (fun z => hc (by simp [z])) e⟩) (fun _ _ e => e) (fun _ _ _ e => e) (fun b ps e => ⟨#[], by rw [e]; simp⟩) (fun m hm => ?_) (fun b u e => ?_) I.bare
  · have e : b = it := by simpa using hb
    subst e
    exact ⟨h1, hL, h2, h3⟩
  · obtain ⟨o, es, ep, ho, r⟩ := hm
    exact ⟨o, es, ep, k _ o (Ne.symm hL) ho, r⟩
  · refine (I.hok b u e).stay (fun c v hc q => k c v ?_ q) (fun _ q => q) fun _ _ q => q
    rcases hc with z | z
    · rw [z]; exact nit b u e
    · exact nit c _ z
theorem Inv.tok (I : Inv X pins σ H s) (t : Nat) : Inv X pins σ H { s with toks := t } := I.un (h' := s.heap) (t' := t) Un.refl I.hok
/-- all objects kept -/
theorem Inv.kept {t' : Nat} (I : Inv X pins σ H s) (k : ∀ b u, s.heap.get? b = some u → h'.get? b = some u) : Inv X pins σ H { s with heap := h', toks := t' } := I.un (Un.kept k) (I.hok.kept k)
/-- a new object laid and tracked -/
theorem Inv.laid {a : Addr} {o : HO} {t' : Nat} (I : Inv X pins σ H s) (k : ∀ b u, s.heap.get? b = some u → h'.get? b = some u) (hp : s.heap.objs.size ≤ a) (new : ObjOk X.prog X.w (upd H a o) h' a o) :
    Inv X pins σ (upd H a o) { s with heap := h', toks := t' } := I.un (Un.laid k hp (I.hok.fresh hp)) (I.hok.laid k hp new)
/-- an object written -/
theorem Inv.write {x e : Addr} {o : HO} {t' : Nat} (I : Inv X pins σ H s) (mu : Mut (H x)) (he : e = x ∨ H e = some (.own x)) (k : ∀ b u, b ≠ e → s.heap.get? b = some u → h'.get? b = some u) (heo : ∃ u, h'.get? e = some u)
    (new : ObjOk X.prog X.w (upd H x o) h' x o) : Inv X pins σ (upd H x o) { s with heap := h', toks := t' } := I.un (Un.write mu he k heo) (I.hok.write mu he k heo new)
theorem Inv.pins_of {pins' : List (Addr × Obj)} (I : Inv X pins σ H s) (h : ∀ p ∈ pins', s.heap.get? p.1 = some p.2 ∧ H p.1 = none ∧ p.1 ≠ X.env.locals ∧ p.1 ∉ X.fs ∧ ∀ v, p.2.data ≠ .cell v) : Inv X pins' σ H s :=
  ⟨I.ok, I.os, I.bare, I.base, I.loc, I.cell, I.free, I.freeC, fun p hp => (List.mem_append.mp hp).elim (fun z => I.pin p (List.mem_append_left _ z)) (h p), I.hok, I.len⟩

theorem nodup_ix {N : List Str} (hN : N.Nodup) {i j : Nat} {x : Str} (a : N[i]? = some x) (b : N[j]? = some x) : i = j := by
  obtain ⟨h1, e1⟩ := List.getElem?_eq_some_iff.mp a
  obtain ⟨h2, e2⟩ := List.getElem?_eq_some_iff.mp b
  exact (List.getElem_inj hN).mp (e1.trans e2.symm)

/-- a name is stored; what changed -/
theorem store_ok2 {M : Model} {A : Around} {E : Value → Shared → Prop} {i : Nat} {x : Str} {v : V} {u : Value} {Q : Unit → Shared → Prop} (I : Inv X pins σ H s) (hN : X.N.Nodup) (hi : X.N[i]? = some x) (hx : Loc X.env.scope x) (r : RelV v u)
    (h : ∀ s', Inv X pins (σ.set i (some v)) H s' → (∃ a, Heap.SameBut a s.heap s'.heap ∧ (a = X.env.locals ∨ X.env.cells.lookup x = some a)) → Q () s') (hf : X.fn x = true ∨ X.env.scope.names.lookup x = some .local := by first | exact .inl rfl | exact .inr rfl | assumption) : wpAny M A (storeName X.env x u) Q E s := by
  obtain ⟨m, hn, hl⟩ := id I.loc
  have hcls : (X.env.scope.kind == .class || (X.env.scope.kind == .module && X.env.locals != X.env.globals)) = false := by rw [I.ok.kind]; rfl
  have hiσ : i < σ.length := by rw [I.len]; exact (List.getElem?_eq_some_iff.mp hi).1
  have cne := I.cne
  have tracked : ∀ {a : Addr} {h' : Heap}, (∃ o, s.heap.get? a = some o ∧ H a = none) → Heap.SameBut a s.heap h' → HOk X.prog X.w H h' := fun {a h'} ha hs b ob e => by
    obtain ⟨_, _, hfree⟩ := ha
    refine (I.hok b ob e).stay (fun c w' hc q => (hs.2 c ?_).trans q) (fun _ q => q) fun _ _ q => q
    rintro rfl
    rcases hc with rfl | hc
    · rw [hfree] at e; cases e
    · rw [hfree] at hc; cases hc
  rcases hx with hk | hk
  · refine wpAny_storeName_local hk hn (fun h' hn' hs => ?_) hcls
    obtain ⟨oL, _, _, hoL, _⟩ := id hn
    refine h _ ⟨I.ok, I.os, I.bare, ⟨fun b o e n hb hx => ?_, fun b o e n hb hx => ?_, I.base.free, fun b o e hx => ?_, I.base.tups, I.base.frzs, I.base.tbls⟩, ⟨_, hn', fun j y v' e1 e2 e3 => ?_⟩, fun y c e => ?_, I.free, I.freeC, fun p hp => ?_, tracked ⟨oL, hoL, I.free⟩ hs, by simpa using I.len⟩ ⟨_, hs, .inl rfl⟩
    · exact (hs.2 b (Nat.ne_of_lt (Nat.lt_of_lt_of_le (Heap.lt_size e) I.ok.above))).trans (I.base.keep b o e n hb hx)
    · obtain ⟨sl, e1⟩ := I.base.slot b o e n hb hx
      exact ⟨sl, (hs.2 b (Nat.ne_of_lt (Nat.lt_of_lt_of_le (Heap.lt_size e) I.ok.above))).trans e1⟩
    · obtain ⟨o', e1⟩ := I.base.there b o e hx
      exact ⟨o', (hs.2 b (Nat.ne_of_lt (Nat.lt_of_lt_of_le (Heap.lt_size e) I.ok.above))).trans e1⟩
    · by_cases hj : j = i
      · subst hj
        rw [hi] at e1; cases e1
        rw [List.getElem?_set_self hiσ] at e2
        cases e2
        exact ⟨u, r, .inl ⟨hk, by simp⟩⟩
      · rw [List.getElem?_set_ne (Ne.symm hj)] at e2
        obtain ⟨u', r', q⟩ := hl j y v' e1 e2 e3
        refine ⟨u', r', ?_⟩
        rcases q with ⟨k, e⟩ | ⟨k, c, e, z⟩
        · refine .inl ⟨k, ?_⟩
          have : y ≠ x := fun e => hj (nodup_ix hN e1 (e ▸ hi))
          simp [this, e]
        · exact .inr ⟨k, c, e, z.sameBut hs (cne y c e)⟩
    · obtain ⟨w', z⟩ := I.cell y c e
      exact ⟨w', z.sameBut hs (cne y c e)⟩
    · obtain ⟨e, n, ne, nf, d⟩ := I.pin p hp
      exact ⟨(hs.2 p.1 ne).trans e, n, ne, nf, d⟩
  · have hfn : X.fn x = true := by
      rcases hf with z | z
      · exact z
      · rw [z] at hk; cases hk
    obtain ⟨c, hc⟩ := I.ok.has x (.inl hk)
    obtain ⟨w', z⟩ := I.cell x c hc
    refine wpAny_storeName_cell I.ok.kind hk hc z (fun h' hc' hs => ?_)
    obtain ⟨oc, hoc, hocd⟩ := id z
    refine h { s with heap := h' } ⟨I.ok, I.os, I.bare, ⟨fun b o e n hb hx => ?_, fun b o e n hb hx => ?_, I.base.free, fun b o e hx => ?_, I.base.tups, I.base.frzs, I.base.tbls⟩, ⟨m, hn.sameBut hs (Ne.symm (cne x c hc)), fun j y v' e1 e2 e3 => ?_⟩, fun y c' e => ?_, I.free, I.freeC, fun p hp => ?_, tracked ⟨oc, hoc, I.freeC x c hc⟩ hs, by simpa using I.len⟩ ⟨c, hs, .inr hc⟩
    · exact (hs.2 b (Nat.ne_of_lt (Nat.lt_of_lt_of_le (Heap.lt_size e) (I.ok.cab x c hfn hc)))).trans (I.base.keep b o e n hb hx)
    · obtain ⟨sl, e1⟩ := I.base.slot b o e n hb hx
      exact ⟨sl, (hs.2 b (Nat.ne_of_lt (Nat.lt_of_lt_of_le (Heap.lt_size e) (I.ok.cab x c hfn hc)))).trans e1⟩
    · obtain ⟨o', e1⟩ := I.base.there b o e hx
      exact ⟨o', (hs.2 b (Nat.ne_of_lt (Nat.lt_of_lt_of_le (Heap.lt_size e) (I.ok.cab x c hfn hc)))).trans e1⟩
    · by_cases hj : j = i
      · subst hj
        rw [hi] at e1; cases e1
        rw [List.getElem?_set_self hiσ] at e2
        cases e2
        exact ⟨u, r, .inr ⟨.inl hk, c, hc, hc'⟩⟩
      · rw [List.getElem?_set_ne (Ne.symm hj)] at e2
        obtain ⟨u', r', q⟩ := hl j y v' e1 e2 e3
        refine ⟨u', r', ?_⟩
        rcases q with q | ⟨k, c', e, z'⟩
        · exact .inl q
        · refine .inr ⟨k, c', e, z'.sameBut hs ?_⟩
          rintro rfl
          exact hj (nodup_ix hN e1 (I.ok.inj _ _ _ e hc ▸ hi))
    · by_cases hcc : c' = c
      · subst hcc; exact ⟨_, hc'⟩
      · obtain ⟨w2, z2⟩ := I.cell y c' e
        exact ⟨w2, z2.sameBut hs hcc⟩
    · obtain ⟨e, n, ne, nf, d⟩ := I.pin p hp
      refine ⟨(hs.2 p.1 ?_).trans e, n, ne, nf, d⟩
      intro q
      rw [q, hoc] at e
      have q' : oc = p.2 := Option.some.inj e
      exact d w' (by rw [← q']; exact hocd)
theorem store_ok {M : Model} {A : Around} {E : Value → Shared → Prop} {i : Nat} {x : Str} {v : V} {u : Value} {Q : Unit → Shared → Prop} (I : Inv X pins σ H s) (hN : X.N.Nodup) (hi : X.N[i]? = some x) (hx : Loc X.env.scope x) (r : RelV v u)
    (h : ∀ s', Inv X pins (σ.set i (some v)) H s' → Q () s') (hf : X.fn x = true ∨ X.env.scope.names.lookup x = some .local := by first | exact .inl rfl | exact .inr rfl | assumption) : wpAny M A (storeName X.env x u) Q E s :=
  store_ok2 I hN hi hx r (fun s' I' _ => h s' I') hf
/-- behind a call or a block, the state as it is -/
theorem Inv.call' {s' : Shared} {ch : List Addr} (I : Inv X pins σ H s) (ho : s'.os = s.os) (u : Un (frs X.stack) ch H H' s.heap s'.heap) (hok : HOk X.prog X.w H' s'.heap) (hg : AllBare s'.gens)
    (hch : ∀ b ∈ ch, (b ∈ X.ex ∨ X.s₀.heap.objs.size ≤ b) ∧ b ≠ X.env.locals ∧ (∀ x c, X.env.cells.lookup x = some c → c ≠ b) ∧ ∀ p ∈ X.pn ++ pins, p.1 ≠ b) : Inv X pins σ H' s' := by
  obtain ⟨h', g', d', t', o'⟩ := s'
  have e : o' = s.os := ho
  subst e
  exact I.call (g' := g') (t' := t') (d' := d') u hok hg hch
end

/-! ### the judgements -/
/-- an exception: its class, its own dict's address (where it has one), the abstract heap behind it -/
abbrev XK := Value → Option Addr → Hp → Prop
abbrev St := List (Option V)
abbrev VK := V → Hp → Prop
/-- an expression's reading; a test's; an argument list's -/
abbrev TE := St → Hp → VK → Prop
abbrev TT := St → Hp → (Bool → Hp → Prop) → Prop
abbrev TA := St → Hp → (List V → Hp → Prop) → Prop
/-- what is wanted behind a statement -/
structure Ends where
  nx : St → Hp → Prop
  rt : VK
  bk : St → Hp → Prop := fun _ _ => False
  ct : St → Hp → Prop := fun _ _ => False
abbrev TS := Ends → St → Hp → Prop

def EP (X : Cx) (pins : List (Addr × Obj)) (σ : St) (Q : VK) (u : Value) (s' : Shared) : Prop := ∃ v H', Inv X pins σ H' s' ∧ RelV v u ∧ Q v H'
def TP (X : Cx) (pins : List (Addr × Obj)) (σ : St) (Q : Bool → Hp → Prop) (b : Bool) (s' : Shared) : Prop := ∃ H', Inv X pins σ H' s' ∧ Q b H'
def AP (X : Cx) (pins : List (Addr × Obj)) (σ : St) (Q : List V → Hp → Prop) (us : List Value) (s' : Shared) : Prop := ∃ vs H', Inv X pins σ H' s' ∧ Vals vs us ∧ Q vs H'
def SP (X : Cx) (pins : List (Addr × Obj)) (D : Ends) (f : Flow) (s' : Shared) : Prop :=
  match f with
  | .next => ∃ σ' H', Inv X pins σ' H' s' ∧ D.nx σ' H'
  | .brk => ∃ σ' H', Inv X pins σ' H' s' ∧ D.bk σ' H'
  | .cont => ∃ σ' H', Inv X pins σ' H' s' ∧ D.ct σ' H'
  | .ret u => ∃ v σ' H', Inv X pins σ' H' s' ∧ RelV v u ∧ D.rt v H'

def PE (X : Cx) (e : Expr) (t : TE) : Prop :=
  ∀ (pins : List (Addr × Obj)) (s : Shared) (σ : St) (H : Hp) (Q : VK), Inv X pins σ H s → t σ H Q → wpAny (model X.prog X.w) X.A (eval e X.env) (EP X pins σ Q) X.xe s
def PT (X : Cx) (e : Expr) (t : TT) : Prop :=
  ∀ (pins : List (Addr × Obj)) (s : Shared) (σ : St) (H : Hp) (Q : Bool → Hp → Prop), Inv X pins σ H s → t σ H Q → wpAny (model X.prog X.w) X.A (isTrue e X.env (eval e X.env)) (TP X pins σ Q) X.xe s
/-- a test whatever its 'whole' is (and, or) -/
def PW (X : Cx) (e : Expr) (t : TT) : Prop :=
  ∀ (whole : Sem Value) (pins : List (Addr × Obj)) (s : Shared) (σ : St) (H : Hp) (Q : Bool → Hp → Prop), Inv X pins σ H s → t σ H Q → wpAny (model X.prog X.w) X.A (isTrue e X.env whole) (TP X pins σ Q) X.xe s
theorem PW.pt {X : Cx} {e : Expr} {t : TT} (h : PW X e t) : PT X e t := h _
/-- an argument list (no star), from the left -/
def PA (X : Cx) (es : List Expr) (t : TA) : Prop :=
  ∀ (pos : Pos) (pins : List (Addr × Obj)) (s : Shared) (σ : St) (H : Hp) (Q : List V → Hp → Prop), Inv X pins σ H s → t σ H Q → wpAny (model X.prog X.w) X.A (spliced (backTo pos (starEach es X.env))) (AP X pins σ Q) X.xe s
def PS (X : Cx) (st : Stmt) (t : TS) : Prop :=
  ∀ (pins : List (Addr × Obj)) (s : Shared) (σ : St) (H : Hp) (D : Ends), Inv X pins σ H s → t D σ H → wpAny (model X.prog X.w) X.A (exec st X.env) (SP X pins D) X.xe s
def PSs (X : Cx) (st : List Stmt) (t : TS) : Prop :=
  ∀ (pins : List (Addr × Obj)) (s : Shared) (σ : St) (H : Hp) (D : Ends), Inv X pins σ H s → t D σ H → wpAny (model X.prog X.w) X.A (execs st X.env) (SP X pins D) X.xe s
/-- weaken the end -/
theorem thn {α : Type} {t : Sem α} {Q Q' : α → Shared → Prop} {M : Model} {A : Around} {E : Value → Shared → Prop} {s : Shared} (h : wpAny M A t Q E s) (hQ : ∀ a s, Q a s → Q' a s) : wpAny M A t Q' E s := wpAny_mono h hQ fun _ _ x => x
end L2

namespace L2
open PySem PySem.Spec PyProof.Rows
section
variable {X : Cx}


/-! ### names and constants -/
def tVar (i : Nat) : TE := fun σ H Q => ∃ v, σ[i]? = some (some v) ∧ Q v H
def tC (v : V) : TE := fun _ H Q => Q v H
theorem pe_var {i : Nat} {x : Str} {pos : Pos} (hN : X.N[i]? = some x) (hv : Vis X.env.scope x) (hd : (x == ("__debug__" : Str)) = false := by decide) (hcd : (x == ("__classdict__" : Str)) = false := by decide) : PE X (.Name x pos) (tVar i) := by
  intro pins s σ H Q I h
  obtain ⟨v, e, h⟩ := h
  obtain ⟨m, hn, hl⟩ := I.loc
  obtain ⟨u, r, l⟩ := hl i x v hN e hv
  have fin : EP X pins σ Q u s := ⟨v, H, I, r, h⟩
  rcases l with ⟨hk, hm⟩ | ⟨hk, c, hc, hcell⟩
  · exact wpAny_Name (wpAny_loadName_local I.ok.kind hk hn hm fin) hd
  · rcases hk with hk | hk
    · exact wpAny_Name (wpAny_loadName_cell I.ok.kind hk hc hcell fin) hd
    · exact wpAny_Name (wpAny_loadName_free I.ok.kind hk hc hcell fin hcd) hd
theorem pe_int {i j pos} : PE X (.Constant (.int i) j pos) (tC (.int i)) := fun _ _ _ H _ I h => wpAny_Constant_int ⟨.int i, H, I.tok _, ⟨_, rfl⟩, h⟩
theorem pe_bl {b j pos} : PE X (.Constant (.bool b) j pos) (tC (.bl b)) := fun _ _ _ H _ I h => Constant_bool ⟨.bl b, H, I, rfl, h⟩
theorem pe_non {j pos} : PE X (.Constant .none j pos) (tC .non) := fun _ _ _ H _ I h => Constant_none ⟨.non, H, I, rfl, h⟩

/-- a global name of the def -/
def Gl (X : Cx) (x : Str) : Prop := X.env.kindOf x = some .globalImplicit
theorem ld_glob {E : Value → Shared → Prop} {pins : List (Addr × Obj)} {s : Shared} {σ : St} {H : Hp} {x : Str} {u : Value} {pos : Pos} {Q : Value → Shared → Prop} (I : Inv X pins σ H s) (hg : Gl X x) (hm : X.mg x = some u) (h : Q u s)
    (hd : (x == ("__debug__" : Str)) = false := by decide) : wpAny (model X.prog X.w) X.A (eval (.Name x pos) X.env) Q E s :=
  Calls.Name_function_global I.ok.kind hg (Calls.loadGlobal_global (by rw [I.ok.glob]; exact I.mod.glob.keeps I.bk) hm h) hd
theorem ld_blt {E : Value → Shared → Prop} {pins : List (Addr × Obj)} {s : Shared} {σ : St} {H : Hp} {x : Str} {u : Value} {pos : Pos} {Q : Value → Shared → Prop} (I : Inv X pins σ H s) (hg : Gl X x) (hm : X.mg x = none) (hv : bootBuiltins x = some u) (h : Q u s)
    (hn : x ≠ "__name__" := by decide) (hd : (x == ("__debug__" : Str)) = false := by decide) : wpAny (model X.prog X.w) X.A (eval (.Name x pos) X.env) Q E s := by
  obtain ⟨mb, h1, h2⟩ := I.mod.blt
  exact Calls.Name_function_global I.ok.kind hg (Calls.loadGlobal_builtin (by rw [I.ok.glob]; exact I.mod.glob.keeps I.bk) hm (by rw [I.ok.blt]; exact h1.keeps I.bk) ((h2 x hn).trans hv) h) hd
/-- a module's constant, a class, a function, as a value -/
theorem pe_glob {x : Str} {v : V} {u : Value} {pos : Pos} (hg : Gl X x) (hm : X.mg x = some u) (r : RelV v u) (hd : (x == ("__debug__" : Str)) = false := by decide) : PE X (.Name x pos) (tC v) :=
  fun _ _ _ H _ I h => ld_glob I hg hm ⟨v, H, I, r, h⟩ hd
theorem pe_bltn {x : Str} {v : V} {u : Value} {pos : Pos} (hg : Gl X x) (hm : X.mg x = none) (hv : bootBuiltins x = some u) (r : RelV v u) (hn : x ≠ "__name__" := by decide) (hd : (x == ("__debug__" : Str)) = false := by decide) : PE X (.Name x pos) (tC v) :=
  fun _ _ _ H _ I h => ld_blt I hg hm hv ⟨v, H, I, r, h⟩ hn hd

/-! ### arithmetic -/
/-- two ints -/
def t2I (ta tb : TE) (k : Int → Int → Hp → Prop) : St → Hp → Prop := fun σ H => ta σ H fun x H1 => tb σ H1 fun y H2 => ∃ i j, x = .int i ∧ y = .int j ∧ k i j H2
def tAdd (ta tb : TE) : TE := fun σ H Q => t2I ta tb (fun i j H2 => Q (.int (i + j)) H2) σ H
def tSub (ta tb : TE) : TE := fun σ H Q => t2I ta tb (fun i j H2 => Q (.int (i - j)) H2) σ H
/-- the left factor below 2^64 -/
def tMul (ta tb : TE) : TE := fun σ H Q => t2I ta tb (fun i j H2 => (-(2 ^ 64) < i ∧ i < 2 ^ 64) ∧ Q (.int (i * j)) H2) σ H
variable {a b : Expr} {ta tb : TE} {pos : Pos}

/-! ### comparisons -/
def PC (X : Cx) (op : CmpOp) (a b : Expr) (t : TE) : Prop :=
  ∀ (pins : List (Addr × Obj)) (s : Shared) (σ : St) (H : Hp) (Q : VK), Inv X pins σ H s → t σ H Q →
    wpAny (model X.prog X.w) X.A (eval a X.env) (fun v s₁ => wpAny (model X.prog X.w) X.A (eval b X.env) (fun u s₂ => wpAny (model X.prog X.w) X.A (compareOp op v u) (EP X pins σ Q) X.xe s₂) X.xe s₁) X.xe s
def tCmp (p : Int → Int → Bool) (ta tb : TE) : TE := fun σ H Q => t2I ta tb (fun i j H2 => Q (.bl (p i j)) H2) σ H
abbrev tLt : TE → TE → TE := tCmp fun i j => decide (i < j)
abbrev tLe : TE → TE → TE := tCmp fun i j => decide (i ≤ j)
abbrev tGt : TE → TE → TE := tCmp fun i j => decide (j < i)
abbrev tGe : TE → TE → TE := tCmp fun i j => decide (j ≤ i)
abbrev tEqI : TE → TE → TE := tCmp fun i j => decide (i = j)
abbrev tNeI : TE → TE → TE := tCmp fun i j => !decide (i = j)
/-- is None -/
def tIsN (ta : TE) : TE := fun σ H Q => ta σ H fun x H1 => Q (.bl (decide (x = .non))) H1
def tNotN (ta : TE) : TE := fun σ H Q => ta σ H fun x H1 => Q (.bl (!decide (x = .non))) H1
/-- a comparison as a value, as a test -/
def tB (t : TE) : TT := fun σ H Q => t σ H fun x H1 => ∃ c, x = .bl c ∧ Q c H1
/-- an expression whose value is a bool, as a test -/
theorem pt_val {e : Expr} {t : TE} (h : PE X e t) (he : ∀ whole, isTrue e X.env whole = (do let v ← whole; standAt e.pos; holding [v] (truthy v)) := by intro _; rfl) : PT X e (tB t) := by
  intro pins s σ H Q I hw
  refine isTrue_plain (thn (h pins s σ H _ I hw) fun v s1 ⟨x, H1, I1, r1, q1⟩ => ?_) (he _)
  obtain ⟨d, rfl, q⟩ := q1
  cases r1
  exact wpAny_truthy_bool ⟨H1, I1, q⟩

/-! ### and, or, not -/
variable {tA tB' : TT} {rest : List Expr}
def tAnd (t u : TT) : TT := fun σ H Q => t σ H fun c H1 => if c = true then u σ H1 Q else Q false H1
def tOr (t u : TT) : TT := fun σ H Q => t σ H fun c H1 => if c = true then Q true H1 else u σ H1 Q
def tNot (t : TT) : TT := fun σ H Q => t σ H fun c H1 => Q (!c) H1
theorem pw_or1 (ha : PT X a tA) : PW X (.BoolOp .Or [a] pos) tA := by
  intro wh pins s σ H Q I h
  refine isTrue_or (thn (ha pins s σ H Q I h) fun c s1 e => ?_)
  cases c with
  | false => exact isTrue_or_nil e
  | true => exact e
theorem pw_or (ha : PT X a tA) (hb : PW X (.BoolOp .Or (b :: rest) pos) tB') : PW X (.BoolOp .Or (a :: b :: rest) pos) (tOr tA tB') := by
  intro wh pins s σ H Q I h
  refine isTrue_or (thn (ha pins s σ H _ I h) fun c s1 ⟨H1, I1, q1⟩ => ?_)
  cases c with
  | true => exact ⟨H1, I1, q1⟩
  | false => exact hb wh pins s1 σ H1 Q I1 q1
theorem pt_not (ha : PT X a tA) : PT X (.UnaryOp .Not a pos) (tNot tA) := by
  intro pins s σ H Q I h
  exact isTrue_not (ha pins s σ H (fun c H1 => Q (!c) H1) I h)
/-- .. as values (bools) -/
def tAndV (ta tb : TE) : TE := fun σ H Q => ta σ H fun x H1 => ∃ c, x = .bl c ∧ if c = true then tb σ H1 Q else Q (.bl false) H1
def tOrV (ta tb : TE) : TE := fun σ H Q => ta σ H fun x H1 => ∃ c, x = .bl c ∧ if c = true then Q (.bl true) H1 else tb σ H1 Q
def tNotV (ta : TE) : TE := fun σ H Q => ta σ H fun x H1 => ∃ c, x = .bl c ∧ Q (.bl (!c)) H1
theorem pe_one {op} {t : TE} (h : PE X a t) : PE X (.BoolOp op [a] pos) t := fun pins s σ H Q I hw => BoolOp_one (h pins s σ H Q I hw)
theorem pe_and (ha : PE X a ta) (hb : PE X (.BoolOp .And (b :: rest) pos) tb) : PE X (.BoolOp .And (a :: b :: rest) pos) (tAndV ta tb) := by
  intro pins s σ H Q I h
  refine BoolOp_and (thn (ha pins s σ H _ I h) fun v s1 ⟨x, H1, I1, r1, q1⟩ => ?_)
  obtain ⟨c, rfl, q1⟩ := q1
  cases r1
  refine wpAny_truthy_bool ?_
  cases c with
  | true => exact hb pins s1 σ H1 Q I1 q1
  | false => exact ⟨.bl false, H1, I1, rfl, q1⟩
theorem pe_not (ha : PE X a ta) : PE X (.UnaryOp .Not a pos) (tNotV ta) := by
  intro pins s σ H Q I h
  refine UnaryOp_ (thn (ha pins s σ H _ I h) fun v s1 ⟨x, H1, I1, r1, q1⟩ => ?_)
  obtain ⟨c, rfl, q1⟩ := q1
  cases r1
  exact not_of (wpAny_truthy_bool ⟨.bl (!c), H1, I1, rfl, q1⟩)
/-- a if t else b -/
def tIf (t : TT) (ta tb : TE) : TE := fun σ H Q => t σ H fun c H1 => if c = true then ta σ H1 Q else tb σ H1 Q
end
end L2

namespace L2
open PySem PySem.Spec PyProof.Rows

/-! ### a list, a tuple that is read: tracked, frozen, or an object of the module -/
def SqL (K : PySem.W.Frag) (H : Hp) (a : Addr) (xs : List V) : Prop :=
  Rd H a (.lst xs) ∨
    ∃ (o : Obj) (its : Array Value) (n : Nat), K.lookup a = some o ∧ o.cls = .type "list" ∧ o.dict = none ∧ o.data = .seq its n ∧ its.size ≤ sizeLine ∧ Vals xs its.toList
def SqT (K : PySem.W.Frag) (H : Hp) (a : Addr) (xs : List V) : Prop :=
  Rd H a (.tup xs) ∨
    ∃ (o : Obj) (its : Array Value) (n : Nat), K.lookup a = some o ∧ o.cls = .type "tuple" ∧ o.data = .seq its n ∧ its.size ≤ sizeLine ∧ Vals xs its.toList
def absV : Value → Option V
  | .none => some .non
  | .bool b => some (.bl b)
  | .int i _ => some (.int i)
  | .str x _ => some (.str x)
  | .bytes b _ => some (.byt b)
  | .float b _ => some (.flt b)
  | .ref a => some (.ref a)
  | .type n => some (.ty n)
  | _ => none
theorem RelV.abs {x : V} {u : Value} (r : RelV x u) : absV u = some x := by
  cases x with
  | non => cases r; rfl
  | bl _ => cases r; rfl
  | int _ => obtain ⟨t, rfl⟩ := r; rfl
  | str _ => obtain ⟨t, rfl⟩ := r; rfl
  | byt _ => obtain ⟨t, rfl⟩ := r; rfl
  | flt _ => obtain ⟨t, rfl⟩ := r; rfl
  | ref _ => cases r; rfl
  | ty _ => cases r; rfl
theorem RelV.inj {x y : V} {u : Value} (r : RelV x u) (q : RelV y u) : x = y := Option.some.inj (r.abs.symm.trans q.abs)
theorem Vals.inj : ∀ {xs ys : List V} {us : List Value}, Vals xs us → Vals ys us → xs = ys
  | _, _, _, .nil, .nil => rfl
  | _, _, _, .cons r t, .cons r' t' => by rw [r.inj r', Vals.inj t t']
section
variable {X : Cx} {pins : List (Addr × Obj)} {σ : St} {H : Hp} {s : Shared} {a : Addr} {xs ys : List V}
theorem SqL.of {K : PySem.W.Frag} (h : H a = some (.lst xs)) : SqL K H a xs := .inl (.inl h)
theorem SqT.of {K : PySem.W.Frag} (h : H a = some (.tup xs)) : SqT K H a xs := .inl (.inl h)
theorem Inv.list (I : Inv X pins σ H s) (h : SqL X.K H a xs) : ∃ its : List Value, Vals xs its ∧ PlainL s.heap a its.toArray ∧ xs.length ≤ sizeLine := by
  rcases h with h | ⟨o, its, n, hk, hc, hd, hs, hz, r⟩
  · obtain ⟨z, its, n, r, e⟩ := h.ok I.hok
    exact ⟨its, r, ⟨_, n, e, rfl, rfl, rfl⟩, z⟩
  · refine ⟨its.toList, r, ⟨o, n, I.kIn a o hk, hc, hd, by simpa using hs⟩, ?_⟩
    have e := r.length
    simp only [Array.length_toList] at e
    omega
theorem Inv.tuple (I : Inv X pins σ H s) (h : SqT X.K H a xs) : ∃ its : List Value, Vals xs its ∧ IsTup s.heap a its.toArray ∧ xs.length ≤ sizeLine := by
  rcases h with h | ⟨o, its, n, hk, hc, hs, hz, r⟩
  · obtain ⟨z, its, r, p⟩ := h.ok I.hok
    exact ⟨its, r, p, z⟩
  · refine ⟨its.toList, r, ⟨o, I.kIn a o hk, hc, n, by simpa using hs⟩, ?_⟩
    have e := r.length
    simp only [Array.length_toList] at e
    omega
theorem Inv.list_inj (I : Inv X pins σ H s) (h : SqL X.K H a xs) (h' : SqL X.K H a ys) : xs = ys := by
  obtain ⟨its, r, ⟨o, n, e, _, _, d⟩, _⟩ := I.list h
  obtain ⟨its', r', ⟨o', n', e', _, _, d'⟩, _⟩ := I.list h'
  rw [e] at e'; cases e'
  rw [d] at d'
  injection d' with d1 _
  have : its = its' := by simpa using congrArg Array.toList d1
  subst this
  exact r.inj r'
end

/-! ### another wish about exceptions -/
abbrev Cx.wish (X : Cx) (E : Value → Shared → Prop) : Cx := { X with xe := E }
/-- no exception leaves -/
abbrev Cx.nox (X : Cx) : Cx := X.wish fun _ _ => False
theorem Cx.Ok.wish {X : Cx} (ok : X.Ok) (E : Value → Shared → Prop) : (X.wish E).Ok :=
  ⟨ok.mod, ok.kind, ok.glob, ok.blt, ok.above, ok.inj, ok.has, ok.cab, ok.hd, ok.frames, ok.stk, ok.exf, ok.bs, ok.bsz, ok.noex, ok.exfs, ok.funs, ok.frf⟩
theorem Cx.Ok.unwish {X : Cx} {E : Value → Shared → Prop} (ok : (X.wish E).Ok) : X.Ok :=
  ⟨ok.mod, ok.kind, ok.glob, ok.blt, ok.above, ok.inj, ok.has, ok.cab, ok.hd, ok.frames, ok.stk, ok.exf, ok.bs, ok.bsz, ok.noex, ok.exfs, ok.funs, ok.frf⟩
section
variable {X : Cx} {pins : List (Addr × Obj)} {σ : St} {H : Hp} {s : Shared} {E : Value → Shared → Prop}
theorem Inv.wish (I : Inv X pins σ H s) (E : Value → Shared → Prop) : Inv (X.wish E) pins σ H s := ⟨I.ok.wish E, I.os, I.bare, I.base, I.loc, I.cell, I.free, I.freeC, I.pin, I.hok, I.len⟩
theorem Inv.unwish (I : Inv (X.wish E) pins σ H s) : Inv X pins σ H s := ⟨I.ok.unwish, I.os, I.bare, I.base, I.loc, I.cell, I.free, I.freeC, I.pin, I.hok, I.len⟩
theorem SP.unwish {D : Ends} {f : Flow} {s' : Shared} (h : SP (X.wish E) pins D f s') : SP X pins D f s' := by
  cases f with
  | next => obtain ⟨σ', H', I, q⟩ := h; exact ⟨σ', H', I.unwish, q⟩
  | brk => obtain ⟨σ', H', I, q⟩ := h; exact ⟨σ', H', I.unwish, q⟩
  | cont => obtain ⟨σ', H', I, q⟩ := h; exact ⟨σ', H', I.unwish, q⟩
  | ret u => obtain ⟨v, σ', H', I, r, q⟩ := h; exact ⟨v, σ', H', I.unwish, r, q⟩
theorem PSs.nox {st : List Stmt} {t : TS} (h : PSs X.nox st t) : PSs X st t := fun pins s σ H D I hw =>
  wpAny_mono (h pins s σ H D (I.wish _) hw) (fun _ _ q => q.unwish) fun _ _ z => False.elim z
end

/-! ### blocks and small statements -/
section
variable {X : Cx} {st : Stmt} {rest : List Stmt} {t u : TS} {e : Expr} {te : TE} {pos : Pos}
def tNext : TS := fun D σ H => D.nx σ H
def tSeq (t u : TS) : TS := fun D σ H => t { D with nx := u D } σ H
theorem pss_nil : PSs X [] tNext := fun _ _ σ H _ I h => wpAny_execs_nil ⟨σ, H, I, h⟩
theorem pss_cons (h1 : PS X st t) (h2 : PSs X rest u) : PSs X (st :: rest) (tSeq t u) := by
  intro pins s σ H D I h
  refine wpAny_execs_cons (thn (h1 pins s σ H { D with nx := u D } I h) fun f s1 q => ?_)
  cases f with
  | next =>
    obtain ⟨σ', H', I', q⟩ := q
    exact h2 pins s1 σ' H' D I' q
  | ret v => exact q
  | brk => exact q
  | cont => exact q
theorem pss_one (h1 : PS X st t) : PSs X [st] t := by
  intro pins s σ H D I h
  refine wpAny_execs_cons (thn (h1 pins s σ H D I h) fun f s1 q => ?_)
  cases f with
  | next => exact wpAny_execs_nil q
  | ret v => exact q
  | brk => exact q
  | cont => exact q
def tBreak : TS := fun D σ H => D.bk σ H
def tCont : TS := fun D σ H => D.ct σ H
/-- in a def's body nothing is shown -/
theorem Inv.quiet {pins : List (Addr × Obj)} {σ : St} {H : Hp} {s : Shared} (I : Inv X pins σ H s) : interactive X.env = false := by simp [interactive, I.ok.kind]
/-- an expression whose value is dropped -/
def tDrop (te : TE) : TS := fun D σ H => te σ H fun _ H1 => D.nx σ H1
theorem ps_expr (he : PE X e te) (hs : swapsWith e none pos.line X.env = pure false := by rfl) : PS X (.Expr e pos) (tDrop te) := by
  intro pins s σ H D I h
  exact wpAny_Expr_any (thn (he pins s σ H _ I h) fun v s1 ⟨x, H1, I1, r1, q1⟩ => ⟨σ, H1, I1, q1⟩) I.quiet hs
def tRet (te : TE) : TS := fun D σ H => te σ H D.rt
theorem ps_ret (he : PE X e te) : PS X (.Return (some e) pos) (tRet te) := by
  intro pins s σ H D I h
  exact wpAny_Return_some (thn (he pins s σ H _ I h) fun v s1 ⟨x, H1, I1, r1, q1⟩ => ⟨x, σ, H1, I1, r1, q1⟩)
def tRetN : TS := fun D _ H => D.rt .non H
def tIfS (c : TT) (t u : TS) : TS := fun D σ H => c σ H fun b H1 => if b = true then t D σ H1 else u D σ H1
theorem ps_if {c : Expr} {a b : List Stmt} {tc : TT} (hc : PT X c tc) (ha : PSs X a t) (hb : PSs X b u) : PS X (.If c a b pos) (tIfS tc t u) := by
  intro pins s σ H D I h
  refine wpAny_If (thn (hc pins s σ H _ I h) fun d s1 ⟨H1, I1, q1⟩ => ?_)
  cases d with
  | true => exact ha pins s1 σ H1 D I1 q1
  | false => exact hb pins s1 σ H1 D I1 q1
/-- code that the proof never comes to -/
def tNever : TS := fun _ _ _ => False
theorem ps_never : PS X st tNever := fun _ _ _ _ _ _ h => h.elim
end

/-! ### targets -/
abbrev TG := V → St → Hp → (St → Hp → Prop) → Prop
abbrev TGs := List V → St → Hp → (St → Hp → Prop) → Prop
def PG (X : Cx) (target : Expr) (t : TG) : Prop :=
  ∀ (pins : List (Addr × Obj)) (s : Shared) (σ : St) (H : Hp) (v : V) (u : Value) (Q : St → Hp → Prop), Inv X pins σ H s → RelV v u → t v σ H Q →
    wpAny (model X.prog X.w) X.A (assign target X.env u) (fun _ s' => ∃ σ' H', Inv X pins σ' H' s' ∧ Q σ' H') X.xe s
/-- several targets, one after another -/
def PGs (X : Cx) (ts : List Expr) (t : TGs) : Prop :=
  ∀ (pins : List (Addr × Obj)) (s : Shared) (σ : St) (H : Hp) (vs : List V) (us : List Value) (Q : St → Hp → Prop), Inv X pins σ H s → Vals vs us → t vs σ H Q →
    wpAny (model X.prog X.w) X.A (assignInOrder ((assignEach ts X.env).map (·.2)) us) (fun _ s' => ∃ σ' H', Inv X pins σ' H' s' ∧ Q σ' H') X.xe s
/-- o[i] = v, by values -/
abbrev TSet := V → V → V → Hp → (Hp → Prop) → Prop
def PSet (X : Cx) (t : TSet) : Prop :=
  ∀ (pins : List (Addr × Obj)) (s : Shared) (σ : St) (H : Hp) (o i v : V) (ov iv u : Value) (Q : Hp → Prop), Inv X pins σ H s → RelV o ov → RelV i iv → RelV v u → t o i v H Q →
    wpAny (model X.prog X.w) X.A (setItem ov iv u) (fun _ s' => ∃ H', Inv X pins σ H' s' ∧ Q H') X.xe s
/-- a op= b, by values -/
abbrev TIp := V → V → Hp → VK → Prop
def PIp (X : Cx) (op : Operator) (t : TIp) : Prop :=
  ∀ (pins : List (Addr × Obj)) (s : Shared) (σ : St) (H : Hp) (x y : V) (v u : Value) (Q : VK), Inv X pins σ H s → RelV x v → RelV y u → t x y H Q →
    wpAny (model X.prog X.w) X.A (inplaceOp op v u) (EP X pins σ Q) X.xe s
section
variable {X : Cx} {pos : Pos}
def gName (i : Nat) : TG := fun v σ H Q => Q (σ.set i (some v)) H
theorem pg_name {i : Nat} {x : Str} (hN : X.N.Nodup) (hi : X.N[i]? = some x) (hx : Loc X.env.scope x) (hf : X.fn x = true ∨ X.env.scope.names.lookup x = some .local := by first | exact .inl rfl | exact .inr rfl | assumption) : PG X (.Name x pos) (gName i) := by
  intro pins s σ H v u Q I r h
  exact wpAny_assign_Name (store_ok I hN hi hx r (fun s' I' => ⟨_, H, I', h⟩) hf)
def gNil : TGs := fun vs σ H Q => vs = [] ∧ Q σ H
def gCons (t : TG) (u : TGs) : TGs := fun vs σ H Q => ∃ v r, vs = v :: r ∧ t v σ H fun σ' H' => u r σ' H' Q
theorem pgs_nil : PGs X [] gNil := by
  intro pins s σ H vs us Q I r h
  obtain ⟨e, h⟩ := h
  subst e
  cases r
  exact assignInOrder_nil ⟨σ, H, I, h⟩
theorem pgs_cons {e : Expr} {es : List Expr} {t : TG} {u : TGs} (h1 : PG X e t) (h2 : PGs X es u)
    (hs : (assignEach (e :: es) X.env).map (·.2) = assign e X.env :: (assignEach es X.env).map (·.2) := by rfl) : PGs X (e :: es) (gCons t u) := by
  intro pins s σ H vs us Q I r h
  obtain ⟨v, vr, e1, h⟩ := h
  subst e1
  cases r with
  | cons r rr =>
    rw [hs]
    refine assignInOrder_cons (thn (h1 pins s σ H _ _ _ I r h) fun _ s1 ⟨σ1, H1, I1, q1⟩ => ?_)
    exact h2 pins s1 σ1 H1 _ _ Q I1 rr q1
/-- (a, b, ..) = a tuple of that length -/
def gTup (K : PySem.W.Frag) (n : Nat) (t : TGs) : TG := fun v σ H Q => ∃ a xs, v = .ref a ∧ SqT K H a xs ∧ xs.length = n ∧ t xs σ H Q
theorem pg_tup {es : List Expr} {k : Nat} {t : TGs} {n : Nat} (hc : X.calm = true) (h : PGs X es t)
    (hn : (assignEach es X.env).length = n := by rfl) (hst : (assignEach es X.env).findIdx? (·.1) = none := by rfl) : PG X (.Tuple es k pos) (gTup X.K n t) := by
  intro pins s σ H v u Q I r hw
  obtain ⟨a, xs, e1, hq, hl, hw⟩ := hw
  subst e1
  cases r
  obtain ⟨its, rv, ht, hz⟩ := I.tuple hq
  refine assign_Tuple_tuple (I.ok.hd hc) ht (by simp [hn, ← hl, rv.length]) hst fun h' hx => ?_
  have I1 : Inv X pins σ H { s with heap := h' } := I.kept (t' := s.toks) fun b o e => hx b o (Nat.ne_of_lt (Heap.lt_size e)) e
  exact h pins _ σ H xs _ Q I1 (by simpa using rv) hw
/-- o[i] = .. -/
def gSub (to ti : TE) (t : TSet) : TG := fun v σ H Q => to σ H fun o H1 => ti σ H1 fun i H2 => t o i v H2 fun H3 => Q σ H3
theorem pg_sub {o i : Expr} {to ti : TE} {t : TSet} (ho : PE X o to) (hi : PE X i ti) (hs : PSet X t)
    (ha : ∀ v, assign (.Subscript o i pos) X.env v = (do
      let ov ← holding [v] (eval o X.env)
      let iv ← holding [v, ov] (eval i X.env)
      standAt pos
      holding [v, ov, iv] (setItem ov iv v)
      release [v, ov, iv] []) := by intro _; rfl) : PG X (.Subscript o i pos) (gSub to ti t) := by
  intro pins s σ H v u Q I r h
  rw [ha]
  refine wpAny_bind (wpAny_holding (thn (ho pins s σ H _ I h) fun ov s1 ⟨x, H1, I1, r1, q1⟩ => ?_))
  refine wpAny_bind (wpAny_holding (thn (hi pins s1 σ H1 _ I1 q1) fun iv s2 ⟨y, H2, I2, r2, q2⟩ => ?_))
  refine wpAny_bind (wpAny_standAt (wpAny_bind (wpAny_holding (thn (hs pins s2 σ H2 x y v ov iv u _ I2 r1 r2 r q2) fun _ s3 ⟨H3, I3, q3⟩ => ?_))))
  exact wpAny_release ⟨σ, H3, I3, q3⟩
/-- target = value -/
def tAsg (te : TE) (g : TG) : TS := fun D σ H => te σ H fun x H1 => g x σ H1 D.nx
theorem ps_asg {tg e : Expr} {te : TE} {g : TG} (he : PE X e te) (hg : PG X tg g) (hs : swapsWithSole [tg] e pos.line X.env = pure false := by rfl) (hw : swappedStores [tg] e X.env = pure none := by rfl)
    (h1 : (assignEach [tg] X.env).map (·.2) = [assign tg X.env] := by rfl) : PS X (.Assign [tg] e pos) (tAsg te g) := by
  intro pins s σ H D I h
  refine wpAny_Assign_stores (thn (he pins s σ H _ I h) fun v s1 ⟨x, H1, I1, r1, q1⟩ => ?_) hs hw
  rw [h1]
  exact thn (hg pins s1 σ H1 x v _ I1 r1 q1) fun _ s2 q => q
/-- name = value -/
theorem ps_set {i : Nat} {x : Str} {e : Expr} {te : TE} {pos' : Pos} (hN : X.N.Nodup) (hi : X.N[i]? = some x) (hx : Loc X.env.scope x) (he : PE X e te) (hs : swapsWith e (some (.Name x pos')) pos.line X.env = pure false := by rfl) (hf : X.fn x = true ∨ X.env.scope.names.lookup x = some .local := by first | exact .inl rfl | exact .inr rfl | assumption) :
    PS X (.Assign [.Name x pos'] e pos) (tAsg te (gName i)) := by
  intro pins s σ H D I h
  refine wpAny_Assign_Name (thn (he pins s σ H _ I h) fun v s1 ⟨y, H1, I1, r1, q1⟩ => ?_) hs
  exact store_ok I1 hN hi hx r1 (fun s2 I2 => ⟨_, H1, I2, q1⟩) hf
/-- a, b = x, y with plain local names: stored from the right; the pair itself is not tracked (the opening rows as in PyProof/Rows/TupAssign.lean:23) -/
def tPar (i j : Nat) (ta : TA) : TS := fun D σ H => ta σ H fun vs H1 => ∃ v w, vs = [v, w] ∧ D.nx ((σ.set i (some v)).set j (some w)) H1
/-- name op= e -/
def tAug (i : Nat) (te : TE) (ti : TIp) : TS := fun D σ H => ∃ x, σ[i]? = some (some x) ∧ te σ H fun y H1 => ti x y H1 fun z H2 => D.nx (σ.set i (some z)) H2
/-- o[i] op= e -/
def tAugS (to ti te : TE) (tget : V → V → Hp → VK → Prop) (tip : TIp) (tset : TSet) : TS := fun D σ H => to σ H fun o H1 => ti σ H1 fun i H2 => tget o i H2 fun x H3 => te σ H3 fun y H4 => tip x y H4 fun z H5 => tset o i z H5 fun H6 => D.nx σ H6
/-- o[i], by values -/
def PGet (X : Cx) (t : V → V → Hp → VK → Prop) : Prop :=
  ∀ (pins : List (Addr × Obj)) (s : Shared) (σ : St) (H : Hp) (o i : V) (ov iv : Value) (Q : VK), Inv X pins σ H s → RelV o ov → RelV i iv → t o i H Q →
    wpAny (model X.prog X.w) X.A (getItem ov iv) (EP X pins σ Q) X.xe s
/-- ints -/
def ipI (f : Int → Int → Int) : TIp := fun x y H Q => ∃ i j, x = .int i ∧ y = .int j ∧ Q (.int (f i j)) H
end

/-! ### while -/
section
variable {X : Cx} {pos : Pos}
/-- the invariant W with its measure -/
def tWhile (c : TT) (tb : TS) : TS := fun D σ H => ∃ W : Nat → St → Hp → Prop, (∃ m, W m σ H) ∧ ∀ m σ H, W m σ H →
  c σ H fun b H1 => if b = true then ∃ N : St → Hp → Prop, (∀ σ' H', N σ' H' → ∃ m', m' < m ∧ W m' σ' H') ∧ tb { D with nx := N, ct := N, bk := D.nx } σ H1 else D.nx σ H1
theorem ps_while {c : Expr} {body : List Stmt} {tc : TT} {tb : TS} (hp : PassesOwn (model X.prog X.w) X.A X.env X.xe) (hc : PT X c tc) (hb : PSs X body tb) : PS X (.While c body [] pos) (tWhile tc tb) := by
  intro pins s σ H D I h
  obtain ⟨W, ⟨m0, w0⟩, turn⟩ := h
  refine wpAny_While (codeAny_whileLoop (fun n s' => ∃ σ' H', Inv X pins σ' H' s' ∧ W n σ' H') ?_ m0 ⟨σ, H, I, w0⟩)
  rintro n s1 ⟨σ1, H1, I1, w1⟩
  refine wpAny_passesOwn hp (thn (hc pins s1 σ1 H1 _ I1 (turn n σ1 H1 w1)) fun b s2 ⟨H2, I2, q2⟩ => ?_)
  cases b with
  | true =>
    obtain ⟨N, hN, q2⟩ := q2
    rw [if_pos rfl]
    refine wpAny_passesOwn hp (thn (hb pins s2 σ1 H2 _ I2 q2) fun f s3 q3 => ?_)
    cases f with
    | next =>
      obtain ⟨σ3, H3, I3, n3⟩ := q3
      obtain ⟨m', hm, w3⟩ := hN σ3 H3 n3
      exact ⟨m', hm, σ3, H3, I3, w3⟩
    | cont =>
      obtain ⟨σ3, H3, I3, n3⟩ := q3
      obtain ⟨m', hm, w3⟩ := hN σ3 H3 n3
      exact ⟨m', hm, σ3, H3, I3, w3⟩
    | brk => exact q3
    | ret v => exact q3
  | false =>
    rw [if_neg Bool.false_ne_true]
    exact wpAny_execs_nil ⟨σ1, H2, I2, q2⟩
end

/-! ### what a loop or a comprehension walks -/
/-- at turn i: it yields x (the heap may grow), or it stops -/
structure It where
  go : Nat → Hp → Prop
  yld : Nat → Hp → V → Hp → Prop
  stop : Nat → Hp → Prop
/-- the iterator's own objects may turn: they are not the frame's, not pinned, younger than the entry (or a comprehension's own) -/
def FpOk (X : Cx) (pins : List (Addr × Obj)) (H : Hp) (b : Addr) : Prop :=
  H b = none ∧ b ≠ X.env.locals ∧ b ∉ X.fs ∧ (b ∈ X.ex ∨ X.s₀.heap.objs.size ≤ b) ∧ (∀ x c, X.env.cells.lookup x = some c → c ≠ b) ∧ ∀ p ∈ X.pn ++ pins, p.1 ≠ b
theorem Inv.fpOk {X : Cx} {pins : List (Addr × Obj)} {σ : St} {H H' : Hp} {s : Shared} {b : Addr} (I : Inv X pins σ H s) (hb : s.heap.objs.size ≤ b) (hn : H' b = none) : FpOk X pins H' b := by
  refine ⟨hn, Nat.ne_of_gt (Nat.lt_of_lt_of_le I.lt hb), I.nofs hb, .inr (Nat.le_trans I.sz hb), fun x c e z => ?_, fun p hp z => ?_⟩
  · obtain ⟨v, q⟩ := I.cell x c e
    exact absurd (Nat.lt_of_lt_of_le q.lt (by rw [z]; exact hb)) (Nat.lt_irrefl _)
  · exact absurd (Nat.lt_of_lt_of_le (Heap.lt_size (I.pin p hp).1) (by rw [z]; exact hb)) (Nat.lt_irrefl _)
structure Turn (P : Program) (w : World) (K : PySem.W.Frag) (tg : Expr) (J : It) (fp : List Addr) (it : Addr) (tn : Nat → Heap → Prop) : Prop where
  mem : it ∈ fp
  obj : ∀ i h, tn i h → ∀ b ∈ fp, ∃ o, h.get? b = some o ∧ ∀ v, o.data ≠ .cell v
  keep : ∀ i h h', tn i h → (∀ b ∈ fp, ∀ o, h.get? b = some o → h'.get? b = some o) → tn i h'
  item : ∀ (X : Cx), X.prog = P → X.w = w → X.K = K → X.calm = true → ∀ (i : Nat) (pins : List (Addr × Obj)) (s : Shared) (σ : St) (H : Hp) (E : Value → Shared → Prop), Inv X pins σ H s → (∀ b ∈ fp, FpOk X pins H b) → tn i s.heap → J.go i H →
    wpAny (model P w) X.A (pyNext (.ref it)) (fun r s1 => ∃ u, r = some u ∧
      wpAny (model P w) X.A (letOwnedTupleGo tg (.ref it) u) (fun _ s2 => ∃ x H', Inv X pins σ H' s2 ∧ RelV x u ∧ J.yld i H x H' ∧ tn (i + 1) s2.heap ∧ ∀ b ∈ fp, H' b = none) E s1) E s
  done : ∀ (X : Cx), X.prog = P → X.w = w → X.K = K → X.calm = true → ∀ (i : Nat) (pins : List (Addr × Obj)) (s : Shared) (σ : St) (H : Hp) (E : Value → Shared → Prop), Inv X pins σ H s → (∀ b ∈ fp, FpOk X pins H b) → tn i s.heap → J.stop i H →
    wpAny (model P w) X.A (pyNext (.ref it)) (fun r s1 => r = none ∧ Inv X pins σ H s1) E s
  self : ∀ (A : Around) (i : Nat) (s : Shared) (Q : Value → Shared → Prop) (E : Value → Shared → Prop), tn i s.heap → Q (.ref it) s → wpAny (model P w) A (pyIter (.ref it)) Q E s
abbrev TI := St → Hp → (It → Hp → Prop) → Prop
/-- an iterator has come -/
def PIE (X : Cx) (pins : List (Addr × Obj)) (σ : St) (tg : Expr) (R : It → Hp → Prop) (itv : Value) (s2 : Shared) : Prop :=
  ∃ (it : Addr) (fp : List Addr) (tn : Nat → Heap → Prop) (J : It) (H' : Hp), itv = .ref it ∧ Inv X pins σ H' s2 ∧ Turn X.prog X.w X.K tg J fp it tn ∧ tn 0 s2.heap ∧ (∀ b ∈ fp, FpOk X pins H' b) ∧ R J H'
def PI (X : Cx) (tg iter : Expr) (wi : TI) : Prop :=
  ∀ (pins : List (Addr × Obj)) (s : Shared) (σ : St) (H : Hp) (R : It → Hp → Prop), Inv X pins σ H s → wi σ H R →
    wpAny (model X.prog X.w) X.A (eval iter X.env) (fun v s1 => wpAny (model X.prog X.w) X.A (pyIter v) (PIE X pins σ tg R) X.xe s1) X.xe s

/-- the step ahead of the store is nothing for an iterator that keeps no tuple -/
theorem go_of {M : Model} {A : Around} {E : Value → Shared → Prop} {s : Shared} {tg : Expr} {it : Addr} {u : Value} {o : Obj} {n : String} {vs : Array Value} {Q : Unit → Shared → Prop} (ho : s.heap.get? it = some o) (hc : o.cls = .type n) (hd : o.data = .fields vs)
    (hn : ["enumerate", "zip", "dict_itemiterator", "dict_reverseitemiterator", "odict_iterator", "itertools.zip_longest", "itertools.pairwise"].contains n = false) (hQ : Q () s) : wpAny M A (letOwnedTupleGo tg (.ref it) u) Q E s := by
  unfold letOwnedTupleGo
  cases tg <;> first
    | exact wpAny_pure hQ
    | (cases u <;> first
        | exact wpAny_pure hQ
        | (refine wpAny_bind (wpAny_load ho ?_)
           rw [hc, hd]
           show wpAny M A (if (["enumerate", "zip", "dict_itemiterator", "dict_reverseitemiterator", "odict_iterator", "itertools.zip_longest", "itertools.pairwise"].contains n && vs[0]? == some (rawInt _)) = true then _ else _) Q E s
           rw [if_neg (by intro h; rw [hn, Bool.false_and] at h; cases h)]
           exact wpAny_pure hQ))

/-- the list at a, as it stands at each turn (a loop may append to it) -/
def Itl (K : PySem.W.Frag) (a : Addr) : It :=
  ⟨fun i H => ∃ xs x, SqL K H a xs ∧ xs[i]? = some x, fun i H x H' => H' = H ∧ ∀ xs, SqL K H a xs → xs[i]? = some x, fun i H => ∃ xs, SqL K H a xs ∧ xs.length ≤ i⟩
def Itt (K : PySem.W.Frag) (a : Addr) : It :=
  ⟨fun i H => ∃ xs x, SqT K H a xs ∧ xs[i]? = some x, fun i H x H' => H' = H ∧ ∀ xs, SqT K H a xs → xs[i]? = some x, fun i H => ∃ xs, SqT K H a xs ∧ xs.length ≤ i⟩
/-- lo, lo + 1, .. (n of them) -/
def Itr (lo : Int) (n : Nat) : It := ⟨fun i _ => i < n, fun i H x H' => H' = H ∧ x = .int (lo + i), fun i _ => n ≤ i⟩
theorem turn_list {P : Program} {w : World} {K : PySem.W.Frag} {tg : Expr} (a it : Addr) : Turn P w K tg (Itl K a) [it] it (fun i h => h.IsListIter it a i) where
  mem := by simp
  obj := fun i h st b hb => by
    have e : b = it := by simpa using hb
    subst e
    obtain ⟨o, e, c, d⟩ := st
    exact ⟨o, e, fun v z => by rw [d] at z; cases z⟩
  keep := fun i h h' st k => st.at fun o e => k it (by simp) o e
  item := by
    intro X hP hw hK hc i pins s σ H E I hf st hg
    subst hP hw hK
    obtain ⟨xs, x, hq, hx⟩ := hg
    obtain ⟨its, rv, p, hz⟩ := I.list hq
    obtain ⟨u, hu, ru⟩ := rv.get hx
    obtain ⟨f0, f1, f2, f3, f4, f5⟩ := hf it (by simp)
    refine wpAny_pyNext_list_item st p.isList (x := u) (by simpa using hu) fun h' st' sb => ?_
    have I1 : Inv X pins σ H { s with heap := h' } := I.turned (t' := s.toks) (fun b o hb e => (sb.2 b hb).trans e) f0 f1 f3 f4 f5
    obtain ⟨o, e, c, d⟩ := id st'
    exact ⟨u, rfl, go_of (s := { s with heap := h' }) e c d (by decide) ⟨x, H, I1, ru, ⟨rfl, fun ys hy => by rw [I.list_inj hy hq]; exact hx⟩, st', fun b hb => (hf b hb).1⟩⟩
  done := by
    intro X hP hw hK hc i pins s σ H E I hf st hg
    subst hP hw hK
    obtain ⟨xs, hq, hx⟩ := hg
    obtain ⟨its, rv, p, hz⟩ := I.list hq
    obtain ⟨f0, f1, f2, f3, f4, f5⟩ := hf it (by simp)
    have hl := rv.length
    exact wpAny_pyNext_list_end (I.ok.hd hc) st p.isList (by simp; omega) fun h' eb => ⟨rfl, I.turned (t' := s.toks) (fun b o hb e => eb b o hb e) f0 f1 f3 f4 f5⟩
  self := fun _ _ _ _ _ st h => wpAny_pyIter_listiter st h
theorem turn_range {P : Program} {w : World} {K : PySem.W.Frag} {tg : Expr} (it : Addr) (lo : Int) (n : Nat) : Turn P w K tg (Itr lo n) [it] it (fun i h => IsRangeIter h it (lo + (i : Nat) * 1) ((n : Int) - (i : Nat)) 1) where
  mem := by simp
  obj := fun i h st b hb => by
    have e : b = it := by simpa using hb
    subst e
    exact ⟨_, st, fun v z => by
      have z' : Data.fields _ = Data.cell v := z
      cases z'⟩
  keep := fun i h h' st k => k it (by simp) _ st
  item := by
    intro X hP hw hK hc i pins s σ H E I hf st hg
    subst hP hw hK
    obtain ⟨f0, f1, f2, f3, f4, f5⟩ := hf it (by simp)
    have W := Walks.range (prog := X.prog) (w := X.w) (I.ok.hd hc) it lo 1 n
    refine W.item i s _ _ hg st fun v h' tk hv st' kk => ?_
    obtain ⟨t, rfl⟩ := hv
    have I1 : Inv X pins σ H { s with heap := h', toks := tk } := I.turned (fun b o hb e => kk b o (by simpa using hb) e) f0 f1 f3 f4 f5
    refine ⟨_, rfl, go_of (s := { s with heap := h', toks := tk }) (n := "range_iterator") st' rfl rfl (by decide) ⟨.int (lo + i), H, I1, ⟨t, ?_⟩, ⟨rfl, rfl⟩, st', fun b hb => (hf b hb).1⟩⟩
    rw [Int.mul_one]
  done := by
    intro X hP hw hK hc i pins s σ H E I hf st hg
    subst hP hw hK
    obtain ⟨f0, f1, f2, f3, f4, f5⟩ := hf it (by simp)
    exact wpAny_pyNext_range_end (I.ok.hd hc) st (by have : n ≤ i := hg; omega) fun h' eb => ⟨rfl, I.turned (t' := s.toks) (fun b o hb e => eb b o hb e) f0 f1 f3 f4 f5⟩
  self := fun _ _ _ _ _ st h => wpAny_pyIter_rangeiter st h
end L2

namespace L2
open PySem PySem.Spec PyProof.Rows
section
variable {X : Cx} {tg : Expr}
def iList (K : PySem.W.Frag) (tl : TE) : TI := fun σ H R => tl σ H fun x H1 => ∃ a, x = .ref a ∧ (∃ xs, SqL K H1 a xs) ∧ R (Itl K a) H1
def iTup (K : PySem.W.Frag) (tl : TE) : TI := fun σ H R => tl σ H fun x H1 => ∃ a, x = .ref a ∧ (∃ xs, SqT K H1 a xs) ∧ R (Itt K a) H1
theorem pi_list {l : Expr} {tl : TE} (hl : PE X l tl) : PI X tg l (iList X.K tl) := by
  intro pins s σ H R I h
  refine thn (hl pins s σ H _ I h) fun v s1 ⟨x, H1, I1, r1, q1⟩ => ?_
  obtain ⟨a, e, ⟨xs, hq⟩, q⟩ := q1
  subst e
  cases r1
  obtain ⟨its, rv, p, hz⟩ := I1.list hq
  refine wpAny_pyIter_list p.isList ?_
  refine ⟨s1.heap.objs.size, [s1.heap.objs.size], _, _, H1, rfl, I1.kept (t' := s1.toks) fun b o e => Heap.get?_push_of_some _ e, turn_list a _, ⟨_, Heap.get?_push_size _ rfl, rfl, rfl⟩, fun b hb => ?_, q⟩
  have e : b = s1.heap.objs.size := by simpa using hb
  subst e
  exact I1.fpOk (Nat.le_refl _) (I1.hok.fresh (Nat.le_refl _))
/-- a range object just made, walked -/
theorem range_it {pins : List (Addr × Obj)} {σ : St} {H : Hp} {s : Shared} {R : It → Hp → Prop} {E : Value → Shared → Prop} {lo hi : Int} {t u v : Tok} {tk : Nat} (I : Inv X pins σ H s) (h1 : -(2 ^ 62) ≤ lo) (h2 : lo < 2 ^ 62) (h3 : -(2 ^ 62) ≤ hi) (h4 : hi < 2 ^ 62)
    (q : R (Itr lo (hi - lo).toNat) H) : wpAny (model X.prog X.w) X.A (pyIter (.ref s.heap.objs.size)) (PIE X pins σ tg R) E { s with heap := s.heap.push { cls := .type "range", data := .fields #[.int lo t, .int hi u, .int 1 v] }, toks := tk } := by
  refine wpAny_pyIter_range (IsRange.new ..) (small_one h1 h2 h3 h4) ?_
  have I1 : Inv X pins σ H { s with heap := s.heap.push { cls := .type "range", data := .fields #[.int lo t, .int hi u, .int 1 v] }, toks := tk } := I.kept fun b o e => Heap.get?_push_of_some _ e
  refine ⟨(s.heap.push { cls := .type "range", data := .fields #[.int lo t, .int hi u, .int 1 v] }).objs.size, [(s.heap.push { cls := .type "range", data := .fields #[.int lo t, .int hi u, .int 1 v] }).objs.size], _, _, H, rfl,
    I1.kept (t' := tk) fun b o e => Heap.get?_push_of_some _ e, turn_range _ lo (hi - lo).toNat, ?_, fun b hb => ?_, q⟩
  · have e1 : lo + ((0 : Nat) : Int) * 1 = lo := by simp
    have e2 : (((hi - lo).toNat : Nat) : Int) - ((0 : Nat) : Int) = Builtin.Range.rangeSize lo hi 1 := by rw [rangeSize_one]; split <;> omega
    show IsRangeIter _ _ (lo + ((0 : Nat) : Int) * 1) ((((hi - lo).toNat : Nat) : Int) - ((0 : Nat) : Int)) 1
    rw [e1, e2]
    exact Heap.get?_push_size _ rfl
  · have e : b = (s.heap.push { cls := .type "range", data := .fields #[.int lo t, .int hi u, .int 1 v] }).objs.size := by simpa using hb
    subst e
    exact I1.fpOk (Nat.le_refl _) (I1.hok.fresh (Nat.le_refl _))
def iRng1 (ta : TA) : TI := fun σ H R => ta σ H fun vs H1 => ∃ j : Int, vs = [.int j] ∧ -(2 ^ 62) ≤ j ∧ j < 2 ^ 62 ∧ R (Itr 0 j.toNat) H1
def iRng2 (ta : TA) : TI := fun σ H R => ta σ H fun vs H1 => ∃ i j : Int, vs = [.int i, .int j] ∧ (-(2 ^ 62) ≤ i ∧ i < 2 ^ 62 ∧ -(2 ^ 62) ≤ j ∧ j < 2 ^ 62) ∧ R (Itr i (j - i).toNat) H1
theorem pi_range1 {a : Expr} {ta : TA} {p pos : Pos} (hg : Gl X "range") (hm : X.mg "range" = none) (ha : PA X [a] ta) (hs : starEach [a] X.env = [(false, eval a X.env)] := by rfl) : PI X tg (.Call (.Name "range" p) [a] [] pos) (iRng1 ta) := by
  intro pins s σ H R I h
  refine Call_ (ld_blt I hg hm boot_range (PyProof.Rows.callWith_type1 (thn (ha pos pins s σ H _ I h) fun us s1 ⟨vs, H1, I1, r1, q1⟩ => ?_) hs rfl))
  obtain ⟨j, e, q1, q2, q⟩ := q1
  subst e
  cases r1 with
  | cons r rr =>
    cases rr
    obtain ⟨t, rfl⟩ := r
    exact call_range_1 (range_it I1 (by omega) (by omega) q1 q2 (by simpa using q))

/-! ### for -/
/-- W: the invariant by the turn and a measure; N: what the body is to reach -/
def tFor (wi : TI) (g : TG) (tb : TS) : TS := fun D σ H => wi σ H fun J H1 => ∃ W : Nat → Nat → St → Hp → Prop, (∃ m, W 0 m σ H1) ∧ ∀ i m σ H, W i m σ H →
  (J.stop i H ∧ D.nx σ H) ∨ (J.go i H ∧ ∃ N : St → Hp → Prop, (∀ σ' H', N σ' H' → ∃ m', m' < m ∧ W (i + 1) m' σ' H') ∧ ∀ x H', J.yld i H x H' → g x σ H' fun σ2 H2 => tb { D with nx := N, ct := N, bk := D.nx } σ2 H2)
/-- the records at fp as they stand -/
def pinsAt (fp : List Addr) (h : Heap) : List (Addr × Obj) := fp.filterMap fun b => (h.get? b).map fun o => (b, o)
theorem mem_pinsAt {fp : List Addr} {h : Heap} {b : Addr} {o : Obj} (hb : b ∈ fp) (e : h.get? b = some o) : (b, o) ∈ pinsAt fp h := List.mem_filterMap.mpr ⟨b, hb, by rw [e]; rfl⟩
theorem of_pinsAt {fp : List Addr} {h : Heap} {p : Addr × Obj} (hp : p ∈ pinsAt fp h) : p.1 ∈ fp ∧ h.get? p.1 = some p.2 := by
  obtain ⟨b, hb, e⟩ := List.mem_filterMap.mp hp
  cases q : h.get? b with
  | none => rw [q] at e; cases e
  | some o =>
    rw [q] at e
    have e' : (b, o) = p := Option.some.inj e
    subst e'
    exact ⟨hb, q⟩
theorem Inv.pinned {pins : List (Addr × Obj)} {σ : St} {H : Hp} {s : Shared} {fp : List Addr} (I : Inv X pins σ H s) (hf : ∀ b ∈ fp, FpOk X pins H b) (ho : ∀ b ∈ fp, ∃ o, s.heap.get? b = some o ∧ ∀ v, o.data ≠ .cell v) : Inv X (pins ++ pinsAt fp s.heap) σ H s :=
  I.pins_of fun p hp => (List.mem_append.mp hp).elim (fun z => I.pin p (List.mem_append_right _ z)) fun z => by
    obtain ⟨hb, e⟩ := of_pinsAt z
    obtain ⟨f0, f1, f2, _⟩ := hf p.1 hb
    obtain ⟨o, e', d⟩ := ho p.1 hb
    rw [e] at e'; cases e'
    exact ⟨e, f0, f1, f2, d⟩
theorem Inv.unpinned {pins pl : List (Addr × Obj)} {σ : St} {H : Hp} {s : Shared} (I : Inv X (pins ++ pl) σ H s) : Inv X pins σ H s := I.pins_of fun p hp => I.pin p (List.mem_append_right _ (List.mem_append_left _ hp))
theorem ps_for {iter : Expr} {body : List Stmt} {wi : TI} {g : TG} {tb : TS} {pos : Pos} (hp : PassesOwn (model X.prog X.w) X.A X.env X.xe) (hc : X.calm = true) (hi : PI X tg iter wi) (hg : PG X tg g) (hb : PSs X body tb)
    (hs : ∀ x, foldedSetIterable iter X.env x = pure x := by intro _; rfl) : PS X (.For tg iter body [] pos) (tFor wi g tb) := by
  intro pins s σ H D I h
  refine wpAny_For (thn (hi pins s σ H _ I h) fun v s1 h1 => thn h1 fun itv s2 h2 => ?_) hs
  obtain ⟨it, fp, tn, J, H2, e, I2, T, st2, f2, W, ⟨m0, w0⟩, turn⟩ := h2
  subst e
  -- what stays true of the iterator's objects through the loop
  have stat : ∀ {H' : Hp}, (∀ b ∈ fp, H' b = none) → ∀ b ∈ fp, FpOk X pins H' b := fun hn b hb => ⟨hn b hb, (f2 b hb).2⟩
  refine codeAny_forLoop_any (fun n s' => ∃ i σ' H', Inv X pins σ' H' s' ∧ tn i s'.heap ∧ (∀ b ∈ fp, H' b = none) ∧ W i n σ' H') ?_ m0 ⟨0, σ, H2, I2, st2, fun b hb => (f2 b hb).1, w0⟩
  rintro n s3 ⟨i, σ3, H3, I3, st3, fr3, w3⟩
  rcases turn i n σ3 H3 w3 with ⟨stop, qn⟩ | ⟨go, N, hN, step⟩
  · refine wpAny_passesOwn hp (thn (T.done X rfl rfl rfl hc i pins s3 σ3 H3 X.xe I3 (stat fr3) st3 stop) fun r s4 ⟨hr, I4⟩ => ?_)
    subst hr
    exact wpAny_execs_nil ⟨σ3, H3, I4, qn⟩
  · refine wpAny_passesOwn hp (thn (T.item X rfl rfl rfl hc i pins s3 σ3 H3 X.xe I3 (stat fr3) st3 go) fun r s4 ⟨u, hr, h4⟩ => ?_)
    subst hr
    refine wpAny_passesOwn hp (thn h4 fun _ s5 ⟨x, H5, I5, r5, y5, st5, fr5⟩ => ?_)
    have I5' := I5.pinned (stat fr5) (T.obj _ _ st5)
    refine wpAny_passesOwn hp (thn (hg _ s5 σ3 H5 x u _ I5' r5 (step x H5 y5)) fun _ s6 ⟨σ6, H6, I6, q6⟩ => ?_)
    refine wpAny_passesOwn hp (thn (hb _ s6 σ6 H6 _ I6 q6) fun f s7 q7 => ?_)
    have again : ∀ {σ7 : St} {H7 : Hp}, Inv X (pins ++ pinsAt fp s5.heap) σ7 H7 s7 → N σ7 H7 → ∃ m, m < n ∧ ∃ i σ' H', Inv X pins σ' H' s7 ∧ tn i s7.heap ∧ (∀ b ∈ fp, H' b = none) ∧ W i m σ' H' := fun {σ7 H7} I7 n7 => by
      obtain ⟨m', hm, w7⟩ := hN σ7 H7 n7
      refine ⟨m', hm, i + 1, σ7, H7, I7.unpinned, T.keep _ _ _ st5 fun b hb o e => (I7.pin (b, o) (List.mem_append_right _ (List.mem_append_right _ (mem_pinsAt hb e)))).1, fun b hb => ?_, w7⟩
      obtain ⟨o, e, d⟩ := T.obj _ _ st5 b hb
      exact (I7.pin (b, o) (List.mem_append_right _ (List.mem_append_right _ (mem_pinsAt hb e)))).2.1
    cases f with
    | next => obtain ⟨σ7, H7, I7, n7⟩ := q7; exact again I7 n7
    | cont => obtain ⟨σ7, H7, I7, n7⟩ := q7; exact again I7 n7
    | brk => obtain ⟨σ7, H7, I7, q7⟩ := q7; exact ⟨σ7, H7, I7.unpinned, q7⟩
    | ret v => obtain ⟨x7, σ7, H7, I7, r7, q7⟩ := q7; exact ⟨x7, σ7, H7, I7.unpinned, r7, q7⟩
end

/-! ### the forms one uses -/
/-- over a list that the body leaves as it is -/
theorem for_list {K : PySem.W.Frag} {a : Addr} {xs : List V} {g : TG} {tb : TS} {D : Ends} {σ : St} {H : Hp} (Pv : Nat → St → Hp → Prop) (h0 : Pv 0 σ H) (hl : ∀ i σ H, i ≤ xs.length → Pv i σ H → SqL K H a xs)
    (hs : ∀ i x σ H, xs[i]? = some x → Pv i σ H → g x σ H fun σ2 H2 => tb { D with nx := Pv (i + 1), ct := Pv (i + 1), bk := D.nx } σ2 H2) (hd : ∀ σ H, Pv xs.length σ H → D.nx σ H) :
    ∃ W : Nat → Nat → St → Hp → Prop, (∃ m, W 0 m σ H) ∧ ∀ i m σ H, W i m σ H →
      ((Itl K a).stop i H ∧ D.nx σ H) ∨ ((Itl K a).go i H ∧ ∃ N : St → Hp → Prop, (∀ σ' H', N σ' H' → ∃ m', m' < m ∧ W (i + 1) m' σ' H') ∧ ∀ x H', (Itl K a).yld i H x H' → g x σ H' fun σ2 H2 => tb { D with nx := N, ct := N, bk := D.nx } σ2 H2) := by
  refine ⟨fun i m σ H => m = xs.length - i ∧ i ≤ xs.length ∧ Pv i σ H, ⟨xs.length, by simp, Nat.zero_le _, h0⟩, ?_⟩
  rintro i m σ H ⟨rfl, hi, p⟩
  have q := hl i σ H hi p
  by_cases hlt : i < xs.length
  · refine .inr ⟨⟨xs, xs[i], q, by simp [hlt]⟩, Pv (i + 1), fun σ' H' p' => ⟨xs.length - (i + 1), by omega, rfl, hlt, p'⟩, fun x H' y => ?_⟩
    obtain ⟨e, y⟩ := y
    subst e
    exact hs i x σ _ (y xs q) p
  · have e : i = xs.length := by omega
    subst e
    exact .inl ⟨⟨xs, q, Nat.le_refl _⟩, hd σ H p⟩
theorem for_range {lo : Int} {n : Nat} {g : TG} {tb : TS} {D : Ends} {σ : St} {H : Hp} (Pv : Nat → St → Hp → Prop) (h0 : Pv 0 σ H)
    (hs : ∀ i σ H, i < n → Pv i σ H → g (.int (lo + i)) σ H fun σ2 H2 => tb { D with nx := Pv (i + 1), ct := Pv (i + 1), bk := D.nx } σ2 H2) (hd : ∀ σ H, Pv n σ H → D.nx σ H) :
    ∃ W : Nat → Nat → St → Hp → Prop, (∃ m, W 0 m σ H) ∧ ∀ i m σ H, W i m σ H →
      ((Itr lo n).stop i H ∧ D.nx σ H) ∨ ((Itr lo n).go i H ∧ ∃ N : St → Hp → Prop, (∀ σ' H', N σ' H' → ∃ m', m' < m ∧ W (i + 1) m' σ' H') ∧ ∀ x H', (Itr lo n).yld i H x H' → g x σ H' fun σ2 H2 => tb { D with nx := N, ct := N, bk := D.nx } σ2 H2) := by
  refine ⟨fun i m σ H => m = n - i ∧ i ≤ n ∧ Pv i σ H, ⟨n, by simp, Nat.zero_le _, h0⟩, ?_⟩
  rintro i m σ H ⟨rfl, hi, p⟩
  by_cases hlt : i < n
  · refine .inr ⟨hlt, Pv (i + 1), fun σ' H' p' => ⟨n - (i + 1), by omega, rfl, hlt, p'⟩, fun x H' y => ?_⟩
    obtain ⟨e, y⟩ := y
    subst e y
    exact hs i σ _ hlt p
  · have e : i = n := by omega
    subst e
    exact .inl ⟨Nat.le_refl _, hd σ H p⟩
/-- while, by a word and a measure of the state -/
theorem while_by {c : TT} {tb : TS} {D : Ends} {σ : St} {H : Hp} (Pv : St → Hp → Prop) (μ : St → Hp → Nat) (h0 : Pv σ H)
    (hs : ∀ σ H, Pv σ H → c σ H fun b H1 => if b = true then tb { D with nx := fun σ' H' => Pv σ' H' ∧ μ σ' H' < μ σ H, ct := fun σ' H' => Pv σ' H' ∧ μ σ' H' < μ σ H, bk := D.nx } σ H1 else D.nx σ H1)
    (mono : ∀ σ H Q Q', (∀ b H1, Q b H1 → Q' b H1) → c σ H Q → c σ H Q') : tWhile c tb D σ H := by
  refine ⟨fun m σ H => m = μ σ H ∧ Pv σ H, ⟨_, rfl, h0⟩, ?_⟩
  rintro m σ H ⟨rfl, p⟩
  refine mono σ H _ _ (fun b H1 q => ?_) (hs σ H p)
  cases b with
  | true => exact ⟨_, fun σ' H' ⟨p', l⟩ => ⟨_, l, rfl, p'⟩, q⟩
  | false => exact q
end L2

namespace L2
open PySem PySem.Spec PyProof.Rows

abbrev R2 := V → V → Hp → VK → Prop
/-- a two-place operation on values: f is binaryOp op, inplaceOp op or compareOp op -/
def OpR (X : Cx) (f : Value → Value → Sem Value) (r : R2) : Prop :=
  ∀ (pins : List (Addr × Obj)) (s : Shared) (σ : St) (H : Hp) (x y : V) (v u : Value) (Q : VK), Inv X pins σ H s → RelV x v → RelV y u → r x y H Q →
    wpAny (model X.prog X.w) X.A (f v u) (EP X pins σ Q) X.xe s
/-- a one-place operation -/
def UnR (X : Cx) (f : Value → Sem Value) (r : V → Hp → VK → Prop) : Prop :=
  ∀ (pins : List (Addr × Obj)) (s : Shared) (σ : St) (H : Hp) (x : V) (v : Value) (Q : VK), Inv X pins σ H s → RelV x v → r x H Q →
    wpAny (model X.prog X.w) X.A (f v) (EP X pins σ Q) X.xe s
/-- a call of a value that is known (a builtin, a type) with values -/
def CallR (X : Cx) (f : Value) (r : List V → Hp → VK → Prop) : Prop :=
  ∀ (pins : List (Addr × Obj)) (s : Shared) (σ : St) (H : Hp) (xs : List V) (us : List Value) (Q : VK), Inv X pins σ H s → Vals xs us → r xs H Q →
    wpAny (model X.prog X.w) X.A (call f us) (EP X pins σ Q) X.xe s
/-- a value's truth -/
def TruR (X : Cx) (r : V → Hp → (Bool → Hp → Prop) → Prop) : Prop :=
  ∀ (pins : List (Addr × Obj)) (s : Shared) (σ : St) (H : Hp) (x : V) (v : Value) (Q : Bool → Hp → Prop), Inv X pins σ H s → RelV x v → r x H Q →
    wpAny (model X.prog X.w) X.A (truthy v) (TP X pins σ Q) X.xe s

def tOp (r : R2) (ta tb : TE) : TE := fun σ H Q => ta σ H fun x H1 => tb σ H1 fun y H2 => r x y H2 Q
def tUn (r : V → Hp → VK → Prop) (ta : TE) : TE := fun σ H Q => ta σ H fun x H1 => r x H1 Q
/-- ints in, under C, and a value out -/
def rI (C : Int → Int → Prop) (g : Int → Int → V) : R2 := fun x y H Q => ∃ i j, x = .int i ∧ y = .int j ∧ C i j ∧ Q (g i j) H
def rI0 (g : Int → Int → V) : R2 := fun x y H Q => ∃ i j, x = .int i ∧ y = .int j ∧ Q (g i j) H
def rU (g : Int → V) : V → Hp → VK → Prop := fun x H Q => ∃ i, x = .int i ∧ Q (g i) H

section
variable {X : Cx} {a b c : Expr} {ta tb tc : TE} {pos : Pos}

theorem binT (ha : PE X a ta) (hb : PE X b tb) {pins : List (Addr × Obj)} {s : Shared} {σ : St} {H : Hp} {R : V → V → Hp → Prop} (I : Inv X pins σ H s)
    (h : ta σ H fun x H1 => tb σ H1 fun y H2 => R x y H2) {Q : Value → Shared → Prop} {f : Value → Value → Sem Value}
    (hf : ∀ v u s2 x y H2, Inv X pins σ H2 s2 → RelV x v → RelV y u → R x y H2 → wpAny (model X.prog X.w) X.A (f v u) Q X.xe s2) :
    wpAny (model X.prog X.w) X.A (eval a X.env) (fun v s₁ => wpAny (model X.prog X.w) X.A (eval b X.env) (fun u s₂ => wpAny (model X.prog X.w) X.A (f v u) Q X.xe s₂) X.xe s₁) X.xe s := by
  refine thn (ha pins s σ H _ I h) fun v s1 ⟨x, H1, I1, r1, q1⟩ => ?_
  refine thn (hb pins s1 σ H1 _ I1 q1) fun u s2 ⟨y, H2, I2, r2, q2⟩ => ?_
  exact hf v u s2 x y H2 I2 r1 r2 q2

theorem pe_op {op : Operator} {r : R2} (ho : OpR X (binaryOp op) r) (ha : PE X a ta) (hb : PE X b tb) : PE X (.BinOp a op b pos) (tOp r ta tb) := by
  intro pins s σ H Q I h
  exact wpAny_BinOp (binT ha hb I h fun v u s2 x y H2 I2 rx ry q => ho pins s2 σ H2 x y v u Q I2 rx ry q)
theorem pe_un {op : UnaryOp} {r : V → Hp → VK → Prop} (ho : UnR X (unaryOp op) r) (ha : PE X a ta) : PE X (.UnaryOp op a pos) (tUn r ta) := by
  intro pins s σ H Q I h
  exact UnaryOp_ (thn (ha pins s σ H _ I h) fun v s1 ⟨x, H1, I1, r1, q1⟩ => ho pins s1 σ H1 x v Q I1 r1 q1)

/-! ### ints -/
theorem opI {f : Value → Value → Sem Value} {C : Int → Int → Prop} {g : Int → Int → Int}
    (rule : ∀ (i j : Int) (t u : Tok) (s : Shared) (Q : Value → Shared → Prop) (E : Value → Shared → Prop), C i j → Q (.int (g i j) s.toks) { s with toks := s.toks + 1 } → wpAny (model X.prog X.w) X.A (f (.int i t) (.int j u)) Q E s) :
    OpR X f (rI C fun i j => .int (g i j)) := by
  intro pins s σ H x y v u Q I rx ry h
  obtain ⟨i, j, rfl, rfl, hc, q⟩ := h
  obtain ⟨t, rfl⟩ := rx
  obtain ⟨t', rfl⟩ := ry
  exact rule i j t t' s _ _ hc ⟨.int (g i j), H, I.tok _, ⟨_, rfl⟩, q⟩
theorem opI0 {f : Value → Value → Sem Value} {g : Int → Int → Int}
    (rule : ∀ (i j : Int) (t u : Tok) (s : Shared) (Q : Value → Shared → Prop) (E : Value → Shared → Prop), Q (.int (g i j) s.toks) { s with toks := s.toks + 1 } → wpAny (model X.prog X.w) X.A (f (.int i t) (.int j u)) Q E s) :
    OpR X f (rI0 fun i j => .int (g i j)) := by
  intro pins s σ H x y v u Q I rx ry h
  obtain ⟨i, j, rfl, rfl, q⟩ := h
  obtain ⟨t, rfl⟩ := rx
  obtain ⟨t', rfl⟩ := ry
  exact rule i j t t' s _ _ ⟨.int (g i j), H, I.tok _, ⟨_, rfl⟩, q⟩
theorem opB0 {f : Value → Value → Sem Value} {g : Int → Int → Bool}
    (rule : ∀ (i j : Int) (t u : Tok) (s : Shared) (Q : Value → Shared → Prop) (E : Value → Shared → Prop), Q (.bool (g i j)) s → wpAny (model X.prog X.w) X.A (f (.int i t) (.int j u)) Q E s) :
    OpR X f (rI0 fun i j => .bl (g i j)) := by
  intro pins s σ H x y v u Q I rx ry h
  obtain ⟨i, j, rfl, rfl, q⟩ := h
  obtain ⟨t, rfl⟩ := rx
  obtain ⟨t', rfl⟩ := ry
  exact rule i j t t' s _ _ ⟨.bl (g i j), H, I, rfl, q⟩

def CDiv (i j : Int) : Prop := 0 < j ∧ j < 1073741824
def CDivN (i j : Int) : Prop := j ≠ 0 ∧ j.natAbs < 1073741824
def CPow (i j : Int) : Prop := 0 ≤ j ∧ j ≤ 1000000 ∧ i.natAbs < 2 ^ 64
def CMul (i j : Int) : Prop := (-(2 ^ 64) < i ∧ i < 2 ^ 64) ∨ (-(2 ^ 64) < j ∧ j < 2 ^ 64)

theorem op_add : OpR X (binaryOp .Add) (rI0 fun i j => .int (i + j)) := opI0 fun _ _ _ _ _ _ _ q => add_int q
theorem op_sub : OpR X (binaryOp .Sub) (rI0 fun i j => .int (i - j)) := opI0 fun _ _ _ _ _ _ _ q => sub_int q
/-- // by a positive divisor -/
theorem op_fdiv : OpR X (binaryOp .FloorDiv) (rI CDiv fun i j => .int (i / j)) := opI fun i j _ _ _ _ _ hc q => by
  have h1 : (0 : Int) < j := hc.1
  have h2 : j < 1073741824 := hc.2
  exact floordiv_int (by omega) (by rw [Int.fdiv_eq_ediv_of_nonneg i (by omega)]; exact q) (.inl (PyProof.noPylong_small (by omega)))
/-- % by a positive divisor of any size -/
theorem op_mod : OpR X (binaryOp .Mod) (rI (fun _ j => 0 < j) fun i j => .int (i % j)) := opI fun i j _ _ _ _ _ hc q => by
  have h1 : (0 : Int) < j := hc
  exact mod_int' (by omega) (by rw [Int.fmod_eq_emod_of_nonneg i (by omega)]; exact q)


theorem unI {f : Value → Sem Value} {g : Int → Int}
    (rule : ∀ (i : Int) (t : Tok) (s : Shared) (Q : Value → Shared → Prop) (E : Value → Shared → Prop), Q (.int (g i) s.toks) { s with toks := s.toks + 1 } → wpAny (model X.prog X.w) X.A (f (.int i t)) Q E s) :
    UnR X f (rU fun i => .int (g i)) := by
  intro pins s σ H x v Q I rx h
  obtain ⟨i, rfl, q⟩ := h
  obtain ⟨t, rfl⟩ := rx
  exact rule i t s _ _ ⟨.int (g i), H, I.tok _, ⟨_, rfl⟩, q⟩
theorem un_neg : UnR X (unaryOp .USub) (rU fun i => .int (-i)) := unI fun _ _ _ _ _ q => neg_int q

/-! ### bools among ints: n += (a < b) -/
end

/-! ### comparisons -/
/-- the scalars that == tells apart as data does -/
def scal : V → V → Bool
  | .non, .non => true | .non, .int _ => true | .int _, .non => true | .non, .bl _ => true | .bl _, .non => true | .non, .str _ => true | .str _, .non => true
  | .int _, .int _ => true | .bl _, .bl _ => true | .str _, .str _ => true | .byt _, .byt _ => true
  | .int _, .str _ => true | .str _, .int _ => true | .bl _, .str _ => true | .str _, .bl _ => true
  | _, _ => false
def rEq : R2 := fun x y H Q => scal x y = true ∧ Q (.bl (decide (x = y))) H
def rNe : R2 := fun x y H Q => scal x y = true ∧ Q (.bl (!decide (x = y))) H

theorem dec_int {i j : Int} : decide (V.int i = V.int j) = (i == j) := by
  rw [Bool.eq_iff_iff]
  simp
theorem dec_bl {i j : Bool} : decide (V.bl i = V.bl j) = (i == j) := by
  rw [Bool.eq_iff_iff]
  simp
theorem dec_str {i j : Str} : decide (V.str i = V.str j) = (i == j) := by
  rw [Bool.eq_iff_iff]
  simp
theorem dec_byt {i j : Array UInt8} : decide (V.byt i = V.byt j) = (i.toList == j.toList) := by
  rw [Bool.eq_iff_iff]
  cases i
  cases j
  simp

section
variable {X : Cx} {a b c : Expr} {ta tb tc : TE} {pos : Pos}
theorem fin_bl {pins : List (Addr × Obj)} {σ : St} {H : Hp} {s : Shared} {Q : VK} {k k' : Bool} (I : Inv X pins σ H s) (q : Q (.bl k) H) (e : k = k') : EP X pins σ Q (.bool k') s := by
  subst e
  exact ⟨.bl k, H, I, rfl, q⟩
theorem op_eq : OpR X (compareOp .Eq) rEq := by
  intro pins s σ H x y v u Q I rx ry h
  obtain ⟨hs, q⟩ := h
  cases x with
  | non =>
    cases rx
    cases y with
    | non => cases ry; exact PySem.EqNone.eq_none_none (fin_bl I q (by simp))
    | bl j => cases ry; exact PySem.EqNone.eq_none_bool (fin_bl I q (by simp))
    | int j => obtain ⟨t', rfl⟩ := ry; exact PySem.EqNone.eq_none_int (fin_bl I q (by simp))
    | str j => obtain ⟨t', rfl⟩ := ry; exact PySem.EqNone.eq_none_str (fin_bl I q (by simp))
    | _ => exact absurd (show false = true from hs) Bool.false_ne_true
  | bl i =>
    cases rx
    cases y with
    | non => cases ry; exact PySem.EqNone.eq_bool_none (fin_bl I q (by simp))
    | bl j => cases ry; exact eq_bool (fin_bl I q dec_bl)
    | str j => obtain ⟨t', rfl⟩ := ry; exact PySem.EqMixed.eq_bool_str (fin_bl I q (by simp))
    | _ => exact absurd (show false = true from hs) Bool.false_ne_true
  | int i =>
    obtain ⟨t, rfl⟩ := rx
    cases y with
    | non => cases ry; exact PySem.EqNone.eq_int_none (fin_bl I q (by simp))
    | int j => obtain ⟨t', rfl⟩ := ry; exact eq_int (fin_bl I q dec_int)
    | str j => obtain ⟨t', rfl⟩ := ry; exact PySem.EqMixed.eq_int_str (fin_bl I q (by simp))
    | _ => exact absurd (show false = true from hs) Bool.false_ne_true
  | str i =>
    obtain ⟨t, rfl⟩ := rx
    cases y with
    | non => cases ry; exact PySem.EqNone.eq_str_none (fin_bl I q (by simp))
    | bl j => cases ry; exact PySem.EqMixed.eq_str_bool (fin_bl I q (by simp))
    | int j => obtain ⟨t', rfl⟩ := ry; exact PySem.EqMixed.eq_str_int (fin_bl I q (by simp))
    | str j => obtain ⟨t', rfl⟩ := ry; exact eq_str (fin_bl I q dec_str)
    | _ => exact absurd (show false = true from hs) Bool.false_ne_true
  | byt i =>
    obtain ⟨t, rfl⟩ := rx
    cases y with
    | byt j => obtain ⟨t', rfl⟩ := ry; exact PySem.W.eq_bytes (fin_bl I q dec_byt)
    | _ => exact absurd (show false = true from hs) Bool.false_ne_true
  | _ => cases y <;> exact absurd (show false = true from hs) Bool.false_ne_true
theorem op_ne : OpR X (compareOp .NotEq) rNe := by
  intro pins s σ H x y v u Q I rx ry h
  obtain ⟨hs, q⟩ := h
  cases x with
  | non =>
    cases rx
    cases y with
    | non => cases ry; exact PySem.EqNone.ne_none_none (fin_bl I q (by simp))
    | bl j => cases ry; exact PySem.EqNone.ne_none_bool (fin_bl I q (by simp))
    | int j => obtain ⟨t', rfl⟩ := ry; exact PySem.EqNone.ne_none_int (fin_bl I q (by simp))
    | str j => obtain ⟨t', rfl⟩ := ry; exact PySem.EqNone.ne_none_str (fin_bl I q (by simp))
    | _ => exact absurd (show false = true from hs) Bool.false_ne_true
  | bl i =>
    cases rx
    cases y with
    | non => cases ry; exact PySem.EqNone.ne_bool_none (fin_bl I q (by simp))
    | bl j => cases ry; exact ne_bool (fin_bl I q (congrArg not dec_bl))
    | str j => obtain ⟨t', rfl⟩ := ry; exact PySem.EqMixed.ne_bool_str (fin_bl I q (by simp))
    | _ => exact absurd (show false = true from hs) Bool.false_ne_true
  | int i =>
    obtain ⟨t, rfl⟩ := rx
    cases y with
    | non => cases ry; exact PySem.EqNone.ne_int_none (fin_bl I q (by simp))
    | int j => obtain ⟨t', rfl⟩ := ry; exact ne_int (fin_bl I q (congrArg not dec_int))
    | str j => obtain ⟨t', rfl⟩ := ry; exact PySem.EqMixed.ne_int_str (fin_bl I q (by simp))
    | _ => exact absurd (show false = true from hs) Bool.false_ne_true
  | str i =>
    obtain ⟨t, rfl⟩ := rx
    cases y with
    | non => cases ry; exact PySem.EqNone.ne_str_none (fin_bl I q (by simp))
    | bl j => cases ry; exact PySem.EqMixed.ne_str_bool (fin_bl I q (by simp))
    | int j => obtain ⟨t', rfl⟩ := ry; exact PySem.EqMixed.ne_str_int (fin_bl I q (by simp))
    | str j => obtain ⟨t', rfl⟩ := ry; exact ne_str (fin_bl I q (congrArg not dec_str))
    | _ => exact absurd (show false = true from hs) Bool.false_ne_true
  | byt i =>
    obtain ⟨t, rfl⟩ := rx
    cases y with
    | byt j => obtain ⟨t', rfl⟩ := ry; exact PySem.W.ne_bytes (fin_bl I q (congrArg not dec_byt))
    | _ => exact absurd (show false = true from hs) Bool.false_ne_true
  | _ => cases y <;> exact absurd (show false = true from hs) Bool.false_ne_true

theorem op_lt : OpR X (compareOp .Lt) (rI0 fun i j => .bl (decide (i < j))) := opB0 fun _ _ _ _ _ _ _ q => lt_int q
theorem op_gt : OpR X (compareOp .Gt) (rI0 fun i j => .bl (decide (j < i))) := opB0 fun _ _ _ _ _ _ _ q => gt_int q

/-- is None, is not None: the right side a value none -/
theorem op_isN : OpR X (compareOp .Is) (fun x y H Q => y = .non ∧ Q (.bl (decide (x = .non))) H) := by
  intro pins s σ H x y v u Q I rx ry h
  obtain ⟨rfl, q⟩ := h
  cases ry
  refine is_none_gen (fin_bl I q ?_)
  cases x <;> first
    | (cases rx; rfl)
    | (obtain ⟨t, rfl⟩ := rx; rfl)

/-- is, is not of two objects that are tracked lists or instances -/
def isObj : HO → Bool
  | .lst _ => true
  | .ins _ _ _ => true
  | _ => false


theorem nomark (b : Expr) {op : CmpOp} (h : op ≠ .In := by decide) (h2 : op ≠ .NotIn := by decide) : behindInMarks op b = false := by
  have e1 : (op == CmpOp.In) = false := by cases op <;> first | rfl | exact absurd rfl h
  have e2 : (op == CmpOp.NotIn) = false := by cases op <;> first | rfl | exact absurd rfl h2
  cases b <;> simp [behindInMarks, e1, e2]
/-- a comparison as a value; hm: nomark b, or (for in, not in) by with_unfolding_all rfl -/
theorem pe_cmpR {op : CmpOp} {r : R2} (ho : OpR X (compareOp op) r) (ha : PE X a ta) (hb : PE X b tb) (hm : behindInMarks op b = false) : PE X (.Compare a [op] [b] pos) (tOp r ta tb) := by
  intro pins s σ H Q I h
  exact wpAny_Compare1 (binT ha hb I h fun v u s2 x y H2 I2 rx ry q => ho pins s2 σ H2 x y v u Q I2 rx ry q) hm
/-- a reading of a value as a test -/
def tTest (t : TE) : TT := fun σ H Q => t σ H fun x H' => ∃ k, x = .bl k ∧ Q k H'
theorem pt_cmpR {op : CmpOp} {r : R2} (ho : OpR X (compareOp op) r) (ha : PE X a ta) (hb : PE X b tb) (hm : behindInMarks op b = false) : PT X (.Compare a [op] [b] pos) (tTest (tOp r ta tb)) := by
  intro pins s σ H Q I h
  refine wpAny_isTrue_Compare1 (thn (ha pins s σ H _ I h) fun v s1 ⟨x, H1, I1, r1, q1⟩ => thn (hb pins s1 σ H1 _ I1 q1) fun u s2 ⟨y, H2, I2, r2, q2⟩ =>
    thn (ho pins s2 σ H2 x y v u _ I2 r1 r2 q2) fun c s3 ⟨z, H3, I3, r3, k, e, q3⟩ => ?_) hm
  subst e
  cases r3
  exact wpAny_truthy_bool ⟨H3, I3, q3⟩
/-- a op1 b op2 c -/
def tChain (r r' : R2) (ta tb tc : TE) : TE := fun σ H Q => ta σ H fun x H1 => tb σ H1 fun y H2 => r x y H2 fun z H3 => ∃ k, z = .bl k ∧
  (if k = true then tc σ H3 fun w' H4 => r' y w' H4 Q else Q (.bl false) H3)

/-! ### truth -/
/-- a value's truth by the abstract heap -/
def TruV (K : PySem.W.Frag) (x : V) (H : Hp) (k : Bool) : Prop :=
  match x with
  | .non => k = false
  | .bl b => k = b
  | .int i => k = (i != 0)
  | .str y => y.length ≤ sizeLine ∧ k = ((y.length : Int) != 0)
  | .byt y => y.size ≤ sizeLine ∧ k = ((y.size : Int) != 0)
  | .ref p => (∃ xs, SqL K H p xs ∧ k = !xs.isEmpty) ∨ (∃ xs, SqT K H p xs ∧ k = !xs.isEmpty) ∨ ∃ kvs, H p = some (.dK kvs) ∧ k = !kvs.isEmpty
  | _ => False
theorem line63 : (sizeLine : Nat) < 2 ^ 63 := by rw [sizeLine_eq]; decide

/-! ### strs and bytes -/

def PlainIxT (b : Expr) : Prop := ∀ o i, subscripted b false o i = operate [o, i] (getItem o i)

/-! ### scalar builtins, by CallR -/
theorem vals1 {x : V} {us : List Value} (r : Vals [x] us) : ∃ u, us = [u] ∧ RelV x u := by
  cases r with
  | cons r1 r2 => cases r2; exact ⟨_, rfl, r1⟩
theorem call_abs : CallR X (.builtin "abs") (fun xs H Q => ∃ i, xs = [.int i] ∧ Q (.int (if i < 0 then -i else i)) H) := by
  intro pins s σ H xs us Q I r h
  obtain ⟨i, rfl, q⟩ := h
  obtain ⟨u, rfl, t, rfl⟩ := vals1 r
  exact call_abs_int fun u tk => ⟨.int (if i < 0 then -i else i), H, I.tok _, ⟨_, rfl⟩, q⟩
theorem call_int1 : CallR X (.type "int") (fun xs H Q => (∃ i, xs = [.int i] ∧ Q (.int i) H) ∨ ∃ k, xs = [.bl k] ∧ Q (.int (if k then 1 else 0)) H) := by
  intro pins s σ H xs us Q I r h
  rcases h with ⟨i, rfl, q⟩ | ⟨k, rfl, q⟩
  · obtain ⟨u, rfl, t, rfl⟩ := vals1 r
    exact call_int_int ⟨.int i, H, I, ⟨_, rfl⟩, q⟩
  · obtain ⟨u, rfl, r1⟩ := vals1 r
    cases r1
    exact call_int_bool ⟨.int (if k then 1 else 0), H, I.tok _, ⟨_, rfl⟩, q⟩
/-- len of a str, a bytes, a list, a tuple -/
def LenV (K : PySem.W.Frag) (x : V) (H : Hp) (n : Nat) : Prop :=
  match x with
  | .str y => y.length ≤ sizeLine ∧ n = y.length
  | .byt y => y.size ≤ sizeLine ∧ n = y.size
  | .ref p => (∃ xs, SqL K H p xs ∧ n = xs.length) ∨ ∃ xs, SqT K H p xs ∧ n = xs.length
  | _ => False
end
end L2

namespace L2
open PySem PySem.Spec PyProof.Rows

/-! ### an instance, its attributes a map -/
structure ObjM (h : Heap) (x dx C : Addr) (mA : Str → Option Value) : Prop where
  obj : h.get? x = some (PySem.W.instObj C dx)
  ns : h.Ns1 dx mA
  ne : dx ≠ x

theorem lookIn_ns {h : Heap} {dx : Addr} {mA : Str → Option Value} (n : h.Ns1 dx mA) : ∃ od, h.get? dx = some od ∧ ∀ name, PySem.W.lookIn name od = some (mA name) := by
  obtain ⟨o, es, ep, ho, hd, hk, _, hm⟩ := n
  refine ⟨o, ho, fun name => ?_⟩
  have e := hm name
  unfold nsFind findBy at e
  rw [← Array.find?_toList] at e
  unfold PySem.W.lookIn
  rw [hd]
  dsimp only
  split
  · rename_i y q
    rw [q] at e
    exact congrArg some e
  · rename_i q
    rw [q] at e
    have a : es.toList.any (·.refKey) = false := by
      rw [List.any_eq_false]
      intro y hy
      obtain ⟨z, t, hkey⟩ := hk y (Array.mem_toList_iff.mp hy)
      simp [DictEntry.refKey, hkey]
    have a' : ¬ es.toList.any (·.refKey) = true := by rw [a]; exact Bool.false_ne_true
    rw [if_neg a']
    exact congrArg some e

theorem ObjM.look {h : Heap} {x dx C : Addr} {mA : Str → Option Value} (I : ObjM h x dx C mA) : ∃ od, PySem.W.InstAt h x (PySem.W.instObj C dx) C (some od) ∧ ∀ name, PySem.W.lookIn name od = some (mA name) :=
  let ⟨od, ho, hl⟩ := lookIn_ns I.ns
  ⟨od, ⟨I.obj, rfl, rfl, ho⟩, hl⟩

section
variable {prog : Program} {w : World} {A : Around} {E : Value → Shared → Prop} {s : Shared} {K : PySem.W.Frag} {x dx C f : Addr} {mA : Str → Option Value} {name : Str} {v : Value}

theorem get_map {expr : Bool} {Q : Value → Shared → Prop} (X : K.In s.heap) (I : ObjM s.heap x dx C mA) (hg : PySem.W.plainGet K C name = true) (hh : PySem.W.hasDictIn K C = true)
    (ha : PySem.W.findIn K (.ref C) name = some none) (hv : mA name = some v) (hv' : PySem.W.handedIn v = true) (h : Q v { s with toks := s.toks + 1 }) :
    wpAny (model prog w) A (getAttr (.ref x) name expr) Q E s := by
  obtain ⟨od, J, hl⟩ := I.look
  exact PySem.W.get_value X J (PySem.W.plainGet_of hg).1 (PySem.W.findObj_own hh ha rfl (by rw [hl, hv])) hv' h


theorem get_meth {pl : Sem Bool} {Q : Value × List Value → Shared → Prop} (X : K.In s.heap) (I : ObjM s.heap x dx C mA) (hg : PySem.W.plainGet K C name = true)
    (hf : PySem.W.findIn K (.ref C) name = some (some (.ref f))) (ht : PySem.W.isFn K (.ref f) = true) (hv : mA name = none) (h : Q (.ref f, [.ref x]) s) :
    wpAny (model prog w) A (getMethod (.ref x) name pl) Q E s := by
  obtain ⟨od, J, hl⟩ := I.look
  exact PySem.W.method_fn X J (PySem.W.plainGet_of hg).1 (PySem.W.plainGet_of hg).2 hf (beq_iff_eq.mp ht) (by show (PySem.W.lookIn name od).map (·.isSome) = some false; rw [hl, hv]; rfl) h

theorem set_map {ns : List Str} {Q : Unit → Shared → Prop} (X : K.In s.heap) (I : ObjM s.heap x dx C mA)
    (hs : PySem.W.findIn K (.ref C) "__setattr__" = some (some (.builtin "object.__setattr__"))) (hp : PySem.W.plainOver K C = true) (ht : PySem.W.takerIn K C name = some none) (hh : PySem.W.hasDictIn K C = true)
    (hw : PySem.Within mA ns) (hsz : ns.length ≤ sizeLine)
    (h : ∀ h', ObjM h' x dx C (fun y => if y = name then some v else mA y) → Heap.SameBut dx s.heap h' → Q () { s with heap := h', toks := s.toks + 2 }) :
    wpAny (model prog w) A (setAttr (.ref x) name v) Q E s := by
  obtain ⟨od, J, hl⟩ := I.look
  refine PySem.W.set_plain X J hs (PySem.W.osa_open (s := { s with toks := s.toks + 1 }) (r := none) X J hp ht fun b => ?_)
  obtain ⟨cd, hc, hd'⟩ := PySem.W.any_some hh
  have hx : s.heap.get? x = some ⟨.ref C, some dx, .plain, #[]⟩ := I.obj
  refine wpAny_bind (wpAny_pure (wpAny_bind (wpAny_bind (wpAny_loadPart hx (wpAny_bind (PySem.W.Looks.here (s := { s with toks := s.toks + 1 }) (PySem.W.looks_clsIn X hc) ?_))))))
  rw [hd']
  refine wpAny_pure (a := some dx) (wpAny_bind (wpAny_pure (wpAny_bind ?_)))
  refine wpAny_nsSet1 (s := { s with toks := s.toks + 1 }) I.ns fun h' hn2 hs2 => ?_
  obtain ⟨oD, esD, epD, hoD, hdD, hcD⟩ := hn2.count (PySem.Within.cons name v hw)
  refine wpAny_bind (wpAny_lookBehind hoD (by rw [hdD]; exact pastItsLine_dict (Nat.le_trans hcD (by rw [List.length_cons]; omega))) ?_)
  exact wpAny_pure (h _ ⟨(hs2.2 _ (Ne.symm I.ne)).trans I.obj, hn2, I.ne⟩ hs2)

/-- C(..): the dict at the heap's end, the instance behind it; then its __init__ -/
theorem make_map {R : Result → Shared → Prop} {vs : List Value} {kw : List (Str × Value)} (X : K.In s.heap) (hm : PySem.W.makesIn K C = true)
    (hi : PySem.W.findIn K (.ref C) "__init__" = some (some (.ref f))) (hf : PySem.W.typeIn K (.ref f) = some (.type "function"))
    (h : codeAny (model prog w) (A.under (.builtin "type.__call__" ⟨.ref C :: vs, kw⟩)) (.call (.ref f) ⟨.ref (s.heap.objs.size + 1) :: vs, kw⟩) (PySem.W.InitBack (s.heap.objs.size + 1) R)
      { s with heap := (s.heap.push PySem.W.emptyDict).push (PySem.W.instObj C s.heap.objs.size) }) :
    codeAny (model prog w) A (.call (.ref C) ⟨vs, kw⟩) R s := by
  obtain ⟨hh, g, d, t, os⟩ := s
  exact PySem.W.make_core (PySem.W.makes_of X hm) (PySem.W.looks_findIn X hi) (fun self => PySem.W.bind_fn X self hf) (.inl rfl) h
end

/-! ### the attributes as a list of pairs -/
def putF (f : Str) (v : V) : List (Str × V) → List (Str × V)
  | [] => [(f, v)]
  | (g, x) :: r => if g = f then (g, v) :: r else (g, x) :: putF f v r
theorem lookup_putF (f g : Str) (v : V) : ∀ fs : List (Str × V), (putF f v fs).lookup g = if g = f then some v else fs.lookup g
  | [] => by
    show List.lookup g [(f, v)] = _
    by_cases h : g = f
    · have hb : (g == f) = true := beq_iff_eq.mpr h
      simp only [List.lookup, hb, if_pos h]
    · have hb : (g == f) = false := beq_eq_false_iff_ne.mpr h
      simp only [List.lookup, hb, if_neg h]
  | (k, x) :: r => by
    have ih := lookup_putF f g v r
    rw [show putF f v ((k, x) :: r) = (if k = f then (k, v) :: r else (k, x) :: putF f v r) from rfl]
    by_cases hk : k = f
    · rw [if_pos hk]
      by_cases h : g = k
      · have hb : (g == k) = true := beq_iff_eq.mpr h
        simp only [List.lookup, hb, if_pos (h.trans hk)]
      · have hb : (g == k) = false := beq_eq_false_iff_ne.mpr h
        simp only [List.lookup, hb, if_neg (fun e : g = f => h (e.trans hk.symm))]
    · rw [if_neg hk]
      by_cases h : g = k
      · have hb : (g == k) = true := beq_iff_eq.mpr h
        simp only [List.lookup, hb, if_neg (fun e : g = f => hk (h.symm.trans e))]
      · have hb : (g == k) = false := beq_eq_false_iff_ne.mpr h
        simp only [List.lookup, hb]
        exact ih
theorem keys_putF (f : Str) (v : V) : ∀ fs : List (Str × V), f ∈ (putF f v fs).map (·.1) ∧ ∀ g, g ∈ fs.map (·.1) → g ∈ (putF f v fs).map (·.1)
  | [] => ⟨by simp [putF], fun g h => by simp at h⟩
  | (k, x) :: r => by
    obtain ⟨i1, i2⟩ := keys_putF f v r
    rw [show putF f v ((k, x) :: r) = (if k = f then (k, v) :: r else (k, x) :: putF f v r) from rfl]
    by_cases hk : k = f
    · rw [if_pos hk]
      subst hk
      exact ⟨by simp, fun g h => by simpa using h⟩
    · rw [if_neg hk]
      refine ⟨?_, fun g h => ?_⟩
      · rw [List.map_cons]
        exact List.mem_cons_of_mem _ i1
      · rw [List.map_cons] at h ⊢
        rcases List.mem_cons.mp h with e | e
        · exact List.mem_cons.mpr (.inl e)
        · exact List.mem_cons_of_mem _ (i2 g e)
theorem length_putF (f : Str) (v : V) : ∀ fs : List (Str × V), (putF f v fs).length ≤ fs.length + 1
  | [] => by simp [putF]
  | (k, x) :: r => by
    have ih := length_putF f v r
    rw [show putF f v ((k, x) :: r) = (if k = f then (k, v) :: r else (k, x) :: putF f v r) from rfl]
    by_cases hk : k = f
    · rw [if_pos hk, List.length_cons, List.length_cons]; omega
    · rw [if_neg hk, List.length_cons, List.length_cons]; omega

theorem RelO.some_of {v : V} {o : Option Value} (r : RelO (some v) o) : ∃ u, o = some u ∧ RelV v u := by
  cases o with
  | none => exact (show False from r).elim
  | some u => exact ⟨u, rfl, r⟩
theorem RelO.none_of {o : Option Value} (r : RelO none o) : o = none := by
  cases o with
  | none => rfl
  | some u => exact (show False from r).elim
theorem handed_of {v : V} {u : Value} (r : RelV v u) : PySem.W.handedIn u = true := by
  cases v with
  | non => cases (show u = Value.none from r); rfl
  | bl b => cases (show u = Value.bool b from r); rfl
  | int i => obtain ⟨t, e⟩ := (show ∃ t, u = Value.int i t from r); cases e; rfl
  | str x => obtain ⟨t, e⟩ := (show ∃ t, u = Value.str x t from r); cases e; rfl
  | byt b => obtain ⟨t, e⟩ := (show ∃ t, u = Value.bytes b t from r); cases e; rfl
  | flt b => obtain ⟨t, e⟩ := (show ∃ t, u = Value.float b t from r); cases e; rfl
  | ref a => cases (show u = Value.ref a from r); rfl
  | ty n => cases (show u = Value.type n from r); rfl

section
variable {P : Program} {w : World} {H H' : Hp} {h h' : Heap} {a C dx : Addr} {fs fs' : List (Str × V)}
theorem ins_get (hok : HOk P w H h) (e : H a = some (.ins C dx fs)) : ∃ mA, ObjM h a dx C mA ∧ (∀ f, RelO (fs.lookup f) (mA f)) ∧ PySem.Within mA (fs.map (·.1)) ∧ fs.length ≤ 1000 ∧ H dx = some (.own a) := by
  obtain ⟨d, z, ne, ob, mA, n, r, q⟩ := (show ObjOk P w H h a (.ins C dx fs) from hok a _ e)
  exact ⟨mA, ⟨ob, n, ne⟩, r, q, z, d⟩
end

/-! ### what of the text a class must have -/
structure Cls (K : PySem.W.Frag) (C : Addr) : Prop where
  pg : PySem.W.plainGet K C Str.empty = true
  hd : PySem.W.hasDictIn K C = true
  po : PySem.W.plainOver K C = true
  sa : PySem.W.findIn K (.ref C) "__setattr__" = some (some (.builtin "object.__setattr__"))
theorem Cls.get {K : PySem.W.Frag} {C : Addr} (c : Cls K C) (f : Str) : PySem.W.plainGet K C f = true := c.pg
/-- no class of it has the name -/
def NoAttr (K : PySem.W.Frag) (C : Addr) (f : Str) : Prop := PySem.W.findIn K (.ref C) f = some none
theorem NoAttr.taker {K : PySem.W.Frag} {C : Addr} {f : Str} (n : NoAttr K C f) : PySem.W.takerIn K C f = some none := by
  unfold PySem.W.takerIn
  rw [show PySem.W.findIn K (.ref C) f = some none from n]
  rfl
/-- a constant of the class -/
structure Con (K : PySem.W.Frag) (C : Addr) (f : Str) (v : V) (u : Value) : Prop where
  at_ : PySem.W.findIn K (.ref C) f = some (some u)
  rel : RelV v u
  get : PySem.W.specialIn K u "__get__" = some none
  cp : PySem.W.copiedNames.contains f = false
/-- a method: a plain def of the class or of one above it -/
structure Meth (K : PySem.W.Frag) (C : Addr) (m : Str) (f : Addr) : Prop where
  at_ : PySem.W.findIn K (.ref C) m = some (some (.ref f))
  fn : PySem.W.isFn K (.ref f) = true
  kp : PySem.W.keepIn K (.ref f) = true

section
variable {X : Cx} {pins : List (Addr × Obj)} {σ : St} {H : Hp} {s : Shared} {a C dx : Addr} {fs : List (Str × V)} {f : Str} {v : V} {A : Around} {E : Value → Shared → Prop}

theorem getattr_ok {b : Bool} {Q : Value → Shared → Prop} (I : Inv X pins σ H s) (e : H a = some (.ins C dx fs)) (c : Cls X.K C) (n : NoAttr X.K C f) (l : fs.lookup f = some v)
    (h : ∀ u s', Inv X pins σ H s' → RelV v u → Q u s') : wpAny (model X.prog X.w) A (getAttr (.ref a) f b) Q E s := by
  obtain ⟨mA, O, r, _, _, _⟩ := ins_get I.hok e
  obtain ⟨u, hu, ru⟩ := RelO.some_of (v := v) (o := mA f) (by rw [← l]; exact r f)
  exact get_map I.kIn O (c.get f) c.hd n hu (handed_of ru) (h u _ (I.tok _) ru)


theorem getmeth_ok {m : Str} {g : Addr} {pl : Sem Bool} {Q : Value × List Value → Shared → Prop} (I : Inv X pins σ H s) (e : H a = some (.ins C dx fs)) (c : Cls X.K C) (k : Meth X.K C m g) (l : fs.lookup m = none)
    (h : Q (.ref g, [.ref a]) s) : wpAny (model X.prog X.w) A (getMethod (.ref a) m pl) Q E s := by
  obtain ⟨mA, O, r, _, _, _⟩ := ins_get I.hok e
  have hn : mA m = none := RelO.none_of (by rw [← l]; exact r m)
  exact get_meth I.kIn O (c.get m) k.at_ k.fn hn h

theorem setattr_ok {y : V} {u : Value} {Q : Unit → Shared → Prop} (I : Inv X pins σ H s) (e : H a = some (.ins C dx fs)) (c : Cls X.K C) (n : NoAttr X.K C f) (hl : fs.length < 1000) (ry : RelV y u)
    (h : ∀ s', Inv X pins σ (upd H a (.ins C dx (putF f y fs))) s' → Q () s') : wpAny (model X.prog X.w) A (setAttr (.ref a) f u) Q E s := by
  obtain ⟨mA, O, r, wi, _, ho⟩ := ins_get I.hok e
  have hz : (fs.map (·.1)).length ≤ sizeLine := by rw [List.length_map, sizeLine_eq]; omega
  refine set_map I.kIn O c.sa c.po n.taker c.hd wi hz fun h' O' sb => h _ ?_
  have hd : ∃ o, h'.get? dx = some o := let ⟨o, _, _, e', _⟩ := O'.ns; ⟨o, e'⟩
  refine I.write (x := a) (e := dx) (by rw [e]; exact True.intro) (.inr ho) (fun b q hb z => (sb.2 b hb).trans z) hd ?_
  refine ⟨by rw [upd_ne O.ne]; exact ho, ?_, O.ne, O'.obj, _, O'.ns, fun g => ?_, fun g hg => ?_⟩
  · have := length_putF f y fs; omega
  · show RelO ((putF f y fs).lookup g) (if g = f then some u else mA g)
    rw [lookup_putF]
    by_cases q : g = f
    · rw [if_pos q, if_pos q]; exact ry
    · rw [if_neg q, if_neg q]; exact r g
  · by_cases q : g = f
    · rw [q]; exact (keys_putF f y fs).1
    · refine (keys_putF f y fs).2 g (wi g fun z => hg ?_)
      show (if g = f then some u else mA g) = none
      rw [if_neg q]; exact z

/-- a new instance, tracked, without attributes -/
theorem Inv.made (I : Inv X pins σ H s) : Inv X pins σ (upd (upd H s.heap.objs.size (.own (s.heap.objs.size + 1))) (s.heap.objs.size + 1) (.ins C s.heap.objs.size []))
    { s with heap := (s.heap.push PySem.W.emptyDict).push (PySem.W.instObj C s.heap.objs.size) } := by
  have e1 : (s.heap.push PySem.W.emptyDict).get? s.heap.objs.size = some PySem.W.emptyDict := Heap.get?_push_size s.heap rfl
  have e2 : ((s.heap.push PySem.W.emptyDict).push (PySem.W.instObj C s.heap.objs.size)).get? (s.heap.objs.size + 1) = some (PySem.W.instObj C s.heap.objs.size) := by
    have := Heap.get?_push_size (s.heap.push PySem.W.emptyDict) (o := PySem.W.instObj C s.heap.objs.size) rfl
    rwa [Heap.size_push] at this
  have e3 : (s.heap.push PySem.W.emptyDict).Ns s.heap.objs.size (fun _ => none) := ⟨PySem.W.emptyDict, #[], _, e1, rfl, (fun e he => absurd he (by simp)), fun _ => rfl⟩
  have I1 := I.laid (a := s.heap.objs.size) (o := .own (s.heap.objs.size + 1)) (h' := s.heap.push PySem.W.emptyDict) (t' := s.toks) (fun b u q => Heap.get?_push_of_some _ q) (Nat.le_refl _) ⟨_, e1⟩
  refine I1.laid (a := s.heap.objs.size + 1) (o := .ins C s.heap.objs.size []) (t' := s.toks) (fun b u q => Heap.get?_push_of_some _ q) (Nat.le_of_eq (Heap.size_push _ _)) ?_
  have ne : s.heap.objs.size ≠ s.heap.objs.size + 1 := Nat.ne_of_lt (Nat.lt_succ_self _)
  refine ⟨by rw [upd_ne ne, upd_same], Nat.zero_le _, ne, e2, fun _ => none, (Heap.Ns1.of_empty e3).at fun o q => Heap.get?_push_of_some _ q, fun _ => True.intro, fun y hy => absurd rfl hy⟩

/-- e.f where nothing but the object is asked: through attributeBase (super) and the last hold -/
theorem attr_of {prog : Program} {w : World} {env : Env} {e : Expr} {f : Str} {pos : Pos} {s : Shared} {Q : Value → Shared → Prop} (hb : attributeBase e f env (eval e env) = eval e env)
    (h : wpAny (model prog w) A (eval e env) (fun o s₁ => wpAny (model prog w) A (getAttr o f true) Q E s₁) E s) : wpAny (model prog w) A (eval (.Attribute e f pos) env) Q E s :=
  Attribute_any_ h (by rw [arm_eval_Attribute, hb])
end

/-! ### readings and rules -/
/-- e.f, an attribute of the instance -/
def tFld (K : PySem.W.Frag) (ta : TE) (f : Str) : TE := fun σ H Q => ta σ H fun x H1 => ∃ a C dx fs v, x = .ref a ∧ H1 a = some (.ins C dx fs) ∧ Cls K C ∧ NoAttr K C f ∧ fs.lookup f = some v ∧ Q v H1
/-- e.f, a constant of the class -/
def tCon (K : PySem.W.Frag) (ta : TE) (f : Str) : TE := fun σ H Q => ta σ H fun x H1 => ∃ a C dx fs v u, x = .ref a ∧ H1 a = some (.ins C dx fs) ∧ Cls K C ∧ Con K C f v u ∧ fs.lookup f = none ∧ Q v H1
/-- e.f = value -/
def sFld (K : PySem.W.Frag) (ta tv : TE) (f : Str) : TS := fun D σ H => tv σ H fun y H1 => ta σ H1 fun x H2 => ∃ a C dx fs, x = .ref a ∧ H2 a = some (.ins C dx fs) ∧ Cls K C ∧ NoAttr K C f ∧ fs.length < 1000 ∧
  D.nx σ (upd H2 a (.ins C dx (putF f y fs)))
/-- an augmented operator on two values -/
def InOp (X : Cx) (op : Operator) (rd : V → V → Hp → VK → Prop) : Prop :=
  ∀ (pins : List (Addr × Obj)) (s : Shared) (σ : St) (H : Hp) (x y : V) (u v : Value) (Q : VK), Inv X pins σ H s → RelV x u → RelV y v → rd x y H Q → wpAny (model X.prog X.w) X.A (inplaceOp op u v) (EP X pins σ Q) X.xe s
/-- e.f op= value -/
def sFldAug (K : PySem.W.Frag) (ta tv : TE) (rd : V → V → Hp → VK → Prop) (f : Str) : TS := fun D σ H => ta σ H fun x H1 => ∃ a C dx fs v, x = .ref a ∧ H1 a = some (.ins C dx fs) ∧ Cls K C ∧ NoAttr K C f ∧ fs.lookup f = some v ∧
  tv σ H1 fun y H2 => rd v y H2 fun z H3 => ∃ dx' fs', H3 a = some (.ins C dx' fs') ∧ fs'.length < 1000 ∧ D.nx σ (upd H3 a (.ins C dx' (putF f z fs')))

section
variable {X : Cx} {o e value : Expr} {f : Str} {pos pos' tpos : Pos} {ta tv : TE}
theorem ps_fld (ha : PE X o ta) (hv : PE X value tv) (hs : swapsWith value (some (.Attribute o f pos')) pos.line X.env = pure false) : PS X (.Assign [.Attribute o f pos'] value pos) (sFld X.K ta tv f) := by
  intro pins s σ H D I h
  refine plainObj_wpAny_Assign_Attribute (thn (hv pins s σ H _ I h) fun u s1 ⟨y, H1, I1, ry, q⟩ => thn (ha pins s1 σ H1 _ I1 q) fun ov s2 ⟨x, H2, I2, rx, a, C, dx, fs, ex, ea, c, n, l, q2⟩ => ?_) hs
  subst ex
  obtain rfl : ov = Value.ref a := rx
  exact setattr_ok I2 ea c n l ry fun s3 I3 => ⟨σ, _, I3, q2⟩
def rAdd : V → V → Hp → VK → Prop := fun x y H Q => ∃ i j, x = .int i ∧ y = .int j ∧ Q (.int (i + j)) H
def rSub : V → V → Hp → VK → Prop := fun x y H Q => ∃ i j, x = .int i ∧ y = .int j ∧ Q (.int (i - j)) H

end

/-! ### isinstance -/
section
variable {X : Cx} {pins : List (Addr × Obj)} {σ : St} {H : Hp} {s : Shared} {A : Around} {E : Value → Shared → Prop} {Q : Value → Shared → Prop} {c : Value} {b : Bool}
/-- the type of a value, as the fragment's deciders take it; for an instance its class -/
inductive TyOf (K : PySem.W.Frag) (H : Hp) : V → Value → Prop where
  | non : TyOf K H .non (.type "NoneType")
  | bl (x : Bool) : TyOf K H (.bl x) (.type "bool")
  | int (i : Int) : TyOf K H (.int i) (.type "int")
  | str (x : Str) : TyOf K H (.str x) (.type "str")
  | flt (x : UInt64) : TyOf K H (.flt x) (.type "float")
  | lst {a : Addr} {xs : List V} (e : H a = some (.lst xs)) : TyOf K H (.ref a) (.type "list")
  | frz {a : Addr} {o : Obj} {xs : List V} (e : H a = some (.frz o (.lst xs))) : TyOf K H (.ref a) (.type "list")
  | tup {a : Addr} {xs : List V} (e : H a = some (.tup xs)) : TyOf K H (.ref a) (.type "tuple")
  | dK {a : Addr} {kvs : List (Key × V)} (e : H a = some (.dK kvs)) : TyOf K H (.ref a) (.type "dict")
  | dT {a : Addr} {kvs : List (List Key × V)} (e : H a = some (.dT kvs)) : TyOf K H (.ref a) (.type "dict")
  | ins {a C dx : Addr} {fs : List (Str × V)} (e : H a = some (.ins C dx fs)) (cl : Cls K C) (ha : PySem.W.findIn K (.ref C) "__class__" = some (some (.builtin "object.__class__")))
      (hn : PySem.W.specialIn K (.builtin "object.__class__") "__get__" = some (some (.builtin "getset_descriptor.__get__"))) (htk : PySem.W.takesIn K (.builtin "object.__class__") = some true)
      (hm : PySem.W.mroIn K C (.type "object") = some true) : TyOf K H (.ref a) (.ref C)
/-- isinstance(x, c) for one class c, a built-in or an own one: kitOne's answer -/
theorem isinst_ok {x : V} {u t : Value} (I : Inv X pins σ H s) (rx : RelV x u) (ty : TyOf X.K H x t) (e : PySem.W.kitOne X.K t c = some b) (h : ∀ tk, Q (.bool b) { s with toks := tk }) :
    wpAny (model X.prog X.w) A (call (.builtin "isinstance") [u, c]) Q E s := by
  cases ty with
  | non => cases (show u = Value.none from rx); exact PySem.W.kia_one PySem.W.kitx_none I.kIn True.intro e (fun z => nomatch z) h
  | bl y => cases (show u = Value.bool y from rx); exact PySem.W.kia_one PySem.W.kitx_bool I.kIn True.intro e (fun z => nomatch z) h
  | int i => obtain ⟨t, q⟩ := (show ∃ t, u = Value.int i t from rx); cases q; exact PySem.W.kia_one PySem.W.kitx_int I.kIn True.intro e (fun z => nomatch z) h
  | str y => obtain ⟨t, q⟩ := (show ∃ t, u = Value.str y t from rx); cases q; exact PySem.W.kia_one PySem.W.kitx_str I.kIn True.intro e (fun z => nomatch z) h
  | flt y => obtain ⟨t, q⟩ := (show ∃ t, u = Value.float y t from rx); cases q; exact PySem.W.kia_one PySem.W.kitx_float I.kIn True.intro e (fun z => nomatch z) h
  | @lst a xs ea =>
    cases (show u = Value.ref a from rx)
    obtain ⟨_, _, n, _, h1⟩ := (show ObjOk X.prog X.w H s.heap a (.lst xs) from I.hok a _ ea)
    exact PySem.W.kia_one PySem.W.kitx_list I.kIn ⟨_, h1, rfl⟩ e (fun z => nomatch z) h
  | @frz a ob xs ea =>
    cases (show u = Value.ref a from rx)
    obtain ⟨_, _, _, n, _, h1⟩ := (show ObjOk X.prog X.w H s.heap a (.frz ob (.lst xs)) from I.hok a _ ea)
    exact PySem.W.kia_one PySem.W.kitx_list I.kIn ⟨_, h1, rfl⟩ e (fun z => nomatch z) h
  | @tup a xs ea =>
    cases (show u = Value.ref a from rx)
    obtain ⟨_, _, _, p⟩ := (show ObjOk X.prog X.w H s.heap a (.tup xs) from I.hok a _ ea)
    obtain ⟨o, h1, h2, _⟩ := p
    exact PySem.W.kia_one PySem.W.kitx_tuple I.kIn ⟨o, h1, h2⟩ e (fun z => nomatch z) h
  | @dK a kvs ea =>
    cases (show u = Value.ref a from rx)
    obtain ⟨_, _, vs, _, p⟩ := (show ObjOk X.prog X.w H s.heap a (.dK kvs) from I.hok a _ ea)
    obtain ⟨o, es, ep, h1, h2, _⟩ := p
    exact PySem.W.kia_one PySem.W.kitx_dict I.kIn ⟨o, h1, h2.1⟩ e (fun z => nomatch z) h
  | @dT a kvs ea =>
    cases (show u = Value.ref a from rx)
    obtain ⟨_, _, xs, _, o, es, ep, h1, h2, _⟩ := (show ObjOk X.prog X.w H s.heap a (.dT kvs) from I.hok a _ ea)
    exact PySem.W.kia_one PySem.W.kitx_dict I.kIn ⟨o, h1, h2.1⟩ e (fun z => nomatch z) h
  | @ins a C dx fs ea cl ha hn htk hm =>
    cases (show u = Value.ref a from rx)
    obtain ⟨mA, O, _⟩ := ins_get I.hok ea
    obtain ⟨od, J, _⟩ := O.look
    exact PySem.W.kia_one (PySem.W.kitx_own (cl.get _) cl.hd ha hn htk hm) I.kIn J e (fun z => nomatch z) h
end
end L2

namespace L2
open PySem PySem.Spec PyProof.Rows

/-! ### room -/
structure Room (k : Nat) (A : Around) : Prop where
  hd : A.handled = none
  dp : A.depth + 3 * k + 5 < recursionLimit
  un : A.units + 16 * k + 200 < cLine
theorem Room.mono {j k : Nat} {A : Around} (r : Room k A) (h : j ≤ k) : Room j A := ⟨r.hd, by have := r.dp; omega, by have := r.un; omega⟩
theorem Room.deeper {k : Nat} {A : Around} (r : Room (k + 1) A) (env : Env) : Room k (A.deeper env) :=
  ⟨r.hd, by have := r.dp; show A.depth + 1 + 3 * k + 5 < _; omega, by have := r.un; show A.units + 3 + 16 * k + 200 < _; omega⟩
theorem make_depth {A : Around} {C : Addr} {us : List Value} {kw : List (Str × Value)} : (A.under (.builtin "type.__call__" ⟨.ref C :: us, kw⟩)).depth = A.depth + 1 := by
  first | rfl | simp [Around.under, Code.weight, Code.isCreation, Code.isGuard, Code.isCaller, Code.frames, Code.isFrame, guardIds]
theorem make_units {A : Around} {C : Addr} {us : List Value} {kw : List (Str × Value)} : (A.under (.builtin "type.__call__" ⟨.ref C :: us, kw⟩)).units = A.units + 1 := by
  first | rfl | simp [Around.under, Code.cUnits, Code.frames, Code.isFrame]
theorem Room.make {k : Nat} {A : Around} (r : Room (k + 1) A) (C : Addr) (us : List Value) (kw : List (Str × Value)) : Room k (A.under (.builtin "type.__call__" ⟨.ref C :: us, kw⟩)) :=
  ⟨r.hd, by have := r.dp; rw [make_depth]; omega, by have := r.un; rw [make_units]; omega⟩
theorem Room.depth {k : Nat} {A : Around} (r : Room k A) : A.depth < recursionLimit := by have := r.dp; omega
theorem Room.units {k : Nat} {A : Around} (r : Room k A) : A.units + 64 < cLine := by have := r.un; omega
theorem Room.units0 {k : Nat} {A : Around} (r : Room k A) : A.units < cLine := by have := r.un; omega

/-! ### argument lists and displays -/
def tNil : TA := fun _ H Q => Q [] H
def tCons (ta : TE) (tr : TA) : TA := fun σ H Q => ta σ H fun x H1 => tr σ H1 fun xs H2 => Q (x :: xs) H2
section
variable {X : Cx} {e : Expr} {es : List Expr} {te : TE} {t : TA} {pos : Pos}
theorem pa_nil : PA X [] tNil := fun _ _ _ _ H Q I h => Calls.spliced_nil ⟨[], H, I, .nil, h⟩
theorem pa_cons (ha : PE X e te) (hr : PA X es t) (hs : starEach (e :: es) X.env = (false, eval e X.env) :: starEach es X.env := by rfl) : PA X (e :: es) (tCons te t) := by
  intro pos pins s σ H Q I h
  rw [hs]
  show wpAny _ _ (spliced ((false, eval e X.env) :: backTo pos (starEach es X.env))) _ _ s
  refine Calls.spliced_cons (thn (ha pins s σ H _ I h) fun u s1 ⟨x, H1, I1, r1, q1⟩ => ?_)
  exact thn (hr pos pins s1 σ H1 _ I1 q1) fun us s2 ⟨xs, H2, I2, r2, q2⟩ => ⟨x :: xs, H2, I2, .cons r1 r2, q2⟩

/-- a tuple, a list of written items -/
def tTup (t : TA) : TE := fun σ H Q => t σ H fun xs H1 => xs.length ≤ sizeLine ∧ ∀ p, H1 p = none → Q (.ref p) (upd H1 p (.tup xs))
def tLst (t : TA) : TE := fun σ H Q => t σ H fun xs H1 => xs.length ≤ sizeLine ∧ ∀ p, H1 p = none → Q (.ref p) (upd H1 p (.lst xs))
theorem pe_tup {x1} (h : PA X es t) : PE X (.Tuple es x1 pos) (tTup t) := by
  intro pins s σ H Q I hq
  refine wpAny_Tuple_spliced (thn (h pos pins s σ H _ I hq) fun us s1 ⟨xs, H1, I1, r, z, q⟩ => ⟨by rw [← r.length]; exact z, ?_⟩)
  have hf : H1 s1.heap.objs.size = none := I1.hok.fresh (Nat.le_refl _)
  refine ⟨.ref s1.heap.objs.size, upd H1 s1.heap.objs.size (.tup xs), I1.laid (t' := s1.toks) (fun b u e => Heap.get?_push_of_some _ e) (Nat.le_refl _) ?_, rfl, q _ hf⟩
  exact ⟨z, us, r, ⟨_, Heap.get?_push_size _ rfl, rfl, _, rfl⟩⟩
theorem pe_lst (h : PA X es t) : PE X (.List es pos) (tLst t) := by
  intro pins s σ H Q I hq
  refine wpAny_List_spliced (thn (h pos pins s σ H _ I hq) fun us s1 ⟨xs, H1, I1, r, z, q⟩ => ⟨by rw [← r.length]; exact z, ?_⟩)
  have hf : H1 s1.heap.objs.size = none := I1.hok.fresh (Nat.le_refl _)
  refine ⟨.ref s1.heap.objs.size, upd H1 s1.heap.objs.size (.lst xs), I1.laid (t' := s1.toks) (fun b u e => Heap.get?_push_of_some _ e) (Nat.le_refl _) ?_, rfl, q _ hf⟩
  exact ⟨z, us, 0, r, Heap.get?_push_size _ rfl⟩
end

/-! ### what a def promises -/
/-- a def's promise: the bound arguments in the parameters' order, the heap, the wanted end, the wanted exception -/
abbrev Sp := List V → Hp → VK → XK → Prop
/-- how an exception lies behind a call (file 08 gives it): the callers' frames, abstract heap and state ahead of the call, the wish, the exception, the state -/
abbrev CXT := List Env → Hp → Shared → XK → Value → Shared → Prop

/-- the state at a call -/
structure Env0 (P : Program) (w : World) (K : PySem.W.Frag) (mg : Str → Option Value) (base : Heap) (A : Around) (outer : List Env) (s : Shared) (H : Hp) : Prop where
  frames : A.frames = some outer
  mod : Mod K mg base
  bs : ∀ b o, base.get? b = some o → s.heap.get? b = some o ∧ H b = none
  bsz : base.objs.size ≤ s.heap.objs.size
  funs : s.heap.FunFrames base outer
  frf : ∀ b ∈ frs outer, H b = none
  hok : HOk P w H s.heap
  bare : AllBare s.gens
/-- a call's end -/
def CE (outer : List Env) (P : Program) (w : World) (H : Hp) (s : Shared) (Q : VK) (u : Value) (s' : Shared) : Prop :=
  ∃ v H', s'.os = s.os ∧ AllBare s'.gens ∧ Un (frs outer) [] H H' s.heap s'.heap ∧ HOk P w H' s'.heap ∧ RelV v u ∧ Q v H'
def CR (CX : CXT) (outer : List Env) (P : Program) (w : World) (H : Hp) (s : Shared) (Q : VK) (E : XK) (r : Result) (s' : Shared) : Prop :=
  match r with
  | .ok (.ret u) => CE outer P w H s Q u s'
  | .ok _ => False
  | .error e => CX outer H s E e s'
structure FnOk (P : Program) (w : World) (K : PySem.W.Frag) (mg : Str → Option Value) (base : Heap) (CX : CXT) (k : Nat) (f : Addr) (fd : FuncData) (ps : List Str) (sp : Sp) : Prop where
  len : ∀ vs H Q E, sp vs H Q E → vs.length = ps.length
  run : ∀ (A : Around) (outer : List Env) (s : Shared) (H : Hp) (args : Args) (us : List Value) (vs : List V) (Q : VK) (E : XK), Room k A → Env0 P w K mg base A outer s H → BindsTo s fd args (ps.zip us) → Vals vs us → sp vs H Q E →
    codeAny (model P w) A (.call (.ref f) args) (CR CX outer P w H s Q E) s

theorem Env0.make {P : Program} {w : World} {K : PySem.W.Frag} {mg : Str → Option Value} {base : Heap} {A : Around} {outer : List Env} {s : Shared} {H : Hp} (e : Env0 P w K mg base A outer s H) (C : Addr) (us : List Value) (kw : List (Str × Value)) :
    Env0 P w K mg base (A.under (.builtin "type.__call__" ⟨.ref C :: us, kw⟩)) outer s H := ⟨by first | exact e.frames | (simpa [Around.under, Code.envs, Code.isFrame, pushEnvs] using e.frames), e.mod, e.bs, e.bsz, e.funs, e.frf, e.hok, e.bare⟩

section
variable {X : Cx} {pins : List (Addr × Obj)} {σ : St} {H : Hp} {s s' : Shared}
/-- from a body: what a callee wants -/
theorem Inv.env0 (I : Inv X pins σ H s) : Env0 X.prog X.w X.K X.mg X.base X.A X.stack s H :=
  ⟨I.ok.frames, I.ok.mod, I.bs, Nat.le_trans I.ok.bsz I.sz, I.stack, I.stkFree, I.hok, I.bare⟩
/-- behind a call -/
theorem Inv.after {Q : VK} {u : Value} (I : Inv X pins σ H s) (h : CE X.stack X.prog X.w H s Q u s') : EP X pins σ Q u s' := by
  obtain ⟨v, H', os, bare, un, hok, r, q⟩ := h
  obtain ⟨hh, g, d, t, os'⟩ := s'
  obtain rfl : os' = s.os := os
  exact ⟨v, H', I.call (h' := hh) (g' := g) (d' := d) (t' := t) (ch := []) un hok bare (fun b z => absurd z (by simp)), r, q⟩
end

/-! ### calls -/
/-- f(..): the written arguments, then the defaults dvs; E: what is wanted of an exception -/
def tCall (sp : Sp) (dvs : List V) (E : XK) (t : TA) : TE := fun σ H Q => t σ H fun vs H1 => sp (vs ++ dvs) H1 Q E
/-- o.m(..) of an instance of the class at C -/
def tMeth (C : Addr) (m : Str) (sp : Sp) (dvs : List V) (E : XK) (ta : TE) (t : TA) : TE := fun σ H Q => ta σ H fun x H1 => ∃ a dx fs, x = .ref a ∧ H1 a = some (.ins C dx fs) ∧ fs.lookup m = none ∧
  t σ H1 fun vs H2 => sp (x :: (vs ++ dvs)) H2 Q E
/-- C(..): a new instance and its dict, then __init__ -/
def tMake (C : Addr) (sp : Sp) (dvs : List V) (E : XK) (t : TA) : TE := fun σ H Q => t σ H fun vs H1 => ∀ x dx, H1 x = none → H1 dx = none → dx ≠ x →
  sp (.ref x :: (vs ++ dvs)) (upd (upd H1 dx (.own x)) x (.ins C dx [])) (fun v H2 => v = .non ∧ Q (.ref x) H2) E

/-- how the parameters are bound: us the positional arguments, kw the keywords' values by name, ds the defaults that fill up -/
def Binds (K : PySem.W.Frag) (fd : FuncData) (ps : List Str) (ds : List Value) : Prop :=
  ∀ (s : Shared) (us : List Value), K.In s.heap → (us ++ ds).length = ps.length → BindsTo s fd ⟨us, []⟩ (ps.zip (us ++ ds))
/-- every parameter is given -/
theorem Binds.all {K : PySem.W.Frag} {fd : FuncData} {ps : List Str} (h : ∀ us : List Value, us.length = ps.length → bindArgs fd ⟨us, []⟩ = pure (ps.zip us)) : Binds K fd ps [] := fun s us _ hl => by
  rw [List.append_nil] at hl ⊢
  exact .of_eq (h us hl)

/-- an exception of a callee reaches what this body wants of exceptions -/
def Passes (CX : CXT) (X : Cx) (E : XK) : Prop := ∀ (pins : List (Addr × Obj)) (σ : St) (H : Hp) (s : Shared) (e : Value) (s' : Shared), Inv X pins σ H s → CX X.stack H s E e s' → X.xe e s'

section
variable {X : Cx} {CX : CXT} {k : Nat} {f C : Addr} {fd : FuncData} {ps : List Str} {sp : Sp} {dvs : List V} {ds : List Value} {E : XK} {x m : Str} {p pos apos : Pos} {e o : Expr} {es : List Expr} {ta : TE} {t : TA}

/-- the callee runs -/
theorem run_fn {pins : List (Addr × Obj)} {σ : St} {H : Hp} {s : Shared} {Q : VK} {us : List Value} {vs : List V} (F : FnOk X.prog X.w X.K X.mg X.base CX k f fd ps sp) (hr : Room k X.A) (hb : Binds X.K fd ps ds) (hd : Vals dvs ds) (hx : Passes CX X E)
    (I : Inv X pins σ H s) (r : Vals vs us) (h : sp (vs ++ dvs) H Q E) : wpAny (model X.prog X.w) X.A (call (.ref f) us) (EP X pins σ Q) X.xe s := by
  have r2 : Vals (vs ++ dvs) (us ++ ds) := r.append hd
  have hl : (us ++ ds).length = ps.length := by rw [← r2.length]; exact F.len _ _ _ _ h
  refine wpAny_call (codeAny_mono (F.run X.A X.stack s H ⟨us, []⟩ (us ++ ds) (vs ++ dvs) Q E hr I.env0 (hb s us I.kIn hl) r2 h) fun r s' hq => ?_)
  cases r with
  | error e => exact hx pins σ H s e s' I hq
  | ok fl =>
    cases fl with
    | ret u => exact I.after hq
    | next => exact False.elim hq
    | brk => exact False.elim hq
    | cont => exact False.elim hq

theorem pe_call (F : FnOk X.prog X.w X.K X.mg X.base CX k f fd ps sp) (hr : Room k X.A) (hg : Gl X x) (hm : X.mg x = some (.ref f)) (hk : PySem.W.keepIn X.K (.ref f) = true) (hb : Binds X.K fd ps ds) (hd : Vals dvs ds) (hx : Passes CX X E)
    (ha : PA X (e :: es) t) (hdb : (x == ("__debug__" : Str)) = false := by decide) (he : starEach (e :: es) X.env = (false, eval e X.env) :: starEach es X.env := by rfl) (hpl : (backTo pos (starEach es X.env)).any (·.1) = false := by rfl) :
    PE X (.Call (.Name x p) (e :: es) [] pos) (tCall sp dvs E t) := by
  intro pins s σ H Q I h
  refine wpAny_Call_Name_kw (ld_glob I hg hm ?_ hdb)
  refine PySem.W.callWith_K (h₀ := X.base) I.ok.mod.kin hk (thn (ha pos pins s σ H _ I h) fun us s1 ⟨vs, H1, I1, r, q⟩ => ⟨I1.kIn, ?_⟩) he hpl
  exact run_fn F hr hb hd hx I1 r q


/-- what a class must have to be made -/
structure Mk (K : PySem.W.Frag) (C f : Addr) : Prop where
  makes : PySem.W.makesIn K C = true
  init : PySem.W.findIn K (.ref C) "__init__" = some (some (.ref f))
  fn : PySem.W.isFn K (.ref f) = true
  kp : PySem.W.keepIn K (.ref C) = true

theorem run_make {pins : List (Addr × Obj)} {σ : St} {H : Hp} {s : Shared} {Q : VK} {us : List Value} {vs : List V} (M : Mk X.K C f) (F : FnOk X.prog X.w X.K X.mg X.base CX k f fd ps sp) (hr : Room (k + 1) X.A) (hb : Binds X.K fd ps ds) (hd : Vals dvs ds)
    (hx : Passes CX X E) (I : Inv X pins σ H s) (r : Vals vs us)
    (h : ∀ x dx, H x = none → H dx = none → dx ≠ x → sp (.ref x :: (vs ++ dvs)) (upd (upd H dx (.own x)) x (.ins C dx [])) (fun v H2 => v = .non ∧ Q (.ref x) H2) E) :
    wpAny (model X.prog X.w) X.A (call (.ref C) us) (EP X pins σ Q) X.xe s := by
  have hq := h (s.heap.objs.size + 1) s.heap.objs.size (I.hok.fresh (Nat.le_succ _)) (I.hok.fresh (Nat.le_refl _)) (Nat.ne_of_lt (Nat.lt_succ_self _))
  have I2 := Inv.made (C := C) I
  have r2 : Vals (V.ref (s.heap.objs.size + 1) :: (vs ++ dvs)) (Value.ref (s.heap.objs.size + 1) :: (us ++ ds)) := .cons rfl (r.append hd)
  have hl : (Value.ref (s.heap.objs.size + 1) :: us ++ ds).length = ps.length := by
    have e := r2.length
    rw [F.len _ _ _ _ hq] at e
    exact e.symm
  refine wpAny_call (make_map (f := f) I.kIn M.makes M.init (beq_iff_eq.mp M.fn) (codeAny_mono (F.run _ X.stack _ _ ⟨Value.ref (s.heap.objs.size + 1) :: us, []⟩ (Value.ref (s.heap.objs.size + 1) :: (us ++ ds)) _ _ E (hr.make C us [])
    (I2.env0.make C us []) (hb _ (Value.ref (s.heap.objs.size + 1) :: us) I2.kIn hl) r2 hq) fun r s' hq' => ?_))
  cases r with
  | error e => exact hx pins σ _ _ e s' I2 hq'
  | ok fl =>
    cases fl with
    | ret u =>
      obtain ⟨v, H', I3, rv, ev, q3⟩ := I2.after hq'
      subst ev
      exact ⟨rv, ⟨V.ref (s.heap.objs.size + 1), H', I3, rfl, q3⟩⟩
    | next => exact False.elim hq'
    | brk => exact False.elim hq'
    | cont => exact False.elim hq'
end

/-! ### keywords -/
/-- the values of the keywords, from the left -/
def PK (X : Cx) (kws : List Keyword) (t : TA) : Prop :=
  ∀ (pos : Pos) (pins : List (Addr × Obj)) (s : Shared) (σ : St) (H : Hp) (Q : List V → Hp → Prop), Inv X pins σ H s → t σ H Q → wpAny (model X.prog X.w) X.A (evalAll ((backToKw pos (keywordEach kws X.env)).map (·.2))) (AP X pins σ Q) X.xe s
section
variable {X : Cx} {CX : CXT} {k : Nat} {f C : Addr} {fd : FuncData} {ps ks : List Str} {sp : Sp} {E : XK} {x m : Str} {p pos apos kpos : Pos} {e o : Expr} {es : List Expr} {kws : List Keyword} {te ta : TE} {t tk : TA} {nm : Option Str}

/-- how a call with keywords binds: g puts the positional values us and the keywords' values ws (names ks) in the parameters' order, defaults among them -/
structure KBinds (K : PySem.W.Frag) (fd : FuncData) (ps ks : List Str) (g : List Value → List Value → List Value) (gV : List V → List V → List V) : Prop where
  to : ∀ (s : Shared) (us ws : List Value), K.In s.heap → (g us ws).length = ps.length → BindsTo s fd ⟨us, ks.zip ws⟩ (ps.zip (g us ws))
  rel : ∀ {vs : List V} {us : List Value} {zs : List V} {ws : List Value}, Vals vs us → Vals zs ws → Vals (gV vs zs) (g us ws)
def tCallK (sp : Sp) (gV : List V → List V → List V) (E : XK) (t tk : TA) : TE := fun σ H Q => t σ H fun vs H1 => tk σ H1 fun zs H2 => sp (gV vs zs) H2 Q E
variable {g : List Value → List Value → List Value} {gV : List V → List V → List V}
end

/-! ### a def's body keeps its promise -/
/-- names: the parameters first -/
structure FnScope (N P : List Str) (sc : Scope) : Prop where
  kind : sc.kind = .function
  co : sc.isCoroutine = false
  gen : sc.isGenerator = false
  nd : N.Nodup
  pre : N.take P.length = P
  par : ∀ x ∈ P, sc.names.lookup x = some .local ∨ sc.names.lookup x = some .cell
  nofree : ∀ y ∈ sc.names, y.2 ≠ .free

theorem bindL_out {kindOf : Str → Option NameKind} {x : Str} : ∀ {binds : List (Str × Value)} {m : Str → Option Value}, (∀ v, (x, v) ∉ binds) → bindL kindOf binds m x = m x
  | [], _, _ => rfl
  | (n, v) :: r, m, h => by
    unfold bindL
    rw [bindL_out fun w hw => h w (List.mem_cons_of_mem _ hw)]
    split
    · have : x ≠ n := by rintro rfl; exact h v List.mem_cons_self
      simp [this]
    · rfl
theorem bindC_out {kindOf : Str → Option NameKind} {x : Str} : ∀ {binds : List (Str × Value)} {m : Str → Option Value}, (∀ v, (x, v) ∉ binds) → bindC kindOf binds m x = m x
  | [], _, _ => rfl
  | (n, v) :: r, m, h => by
    unfold bindC
    rw [bindC_out fun w hw => h w (List.mem_cons_of_mem _ hw)]
    split
    · rfl
    · have : x ≠ n := by rintro rfl; exact h v List.mem_cons_self
      simp [this]
theorem bindL_get {kindOf : Str → Option NameKind} {x : Str} {v : Value} : ∀ {P : List Str} {vs : List Value} {i : Nat} {m : Str → Option Value}, P.Nodup → P[i]? = some x → vs[i]? = some v → kindOf x = some .local →
    bindL kindOf (P.zip vs) m x = some v
  | [], _, _, _, _, h, _, _ => by simp at h
  | _ :: _, [], _, _, _, _, h, _ => by simp at h
  | p :: P, w :: vs, 0, m, nd, h1, h2, hk => by
    simp at h1 h2; subst h1; subst h2
    show bindL kindOf ((p, w) :: P.zip vs) m p = _
    unfold bindL
    rw [bindL_out fun v hv => (List.nodup_cons.mp nd).1 (List.of_mem_zip hv).1, if_pos hk]
    simp
  | p :: P, w :: vs, i + 1, m, nd, h1, h2, hk => by
    show bindL kindOf ((p, w) :: P.zip vs) m x = _
    unfold bindL
    exact bindL_get (i := i) (List.nodup_cons.mp nd).2 (by simpa using h1) (by simpa using h2) hk
theorem bindC_get {kindOf : Str → Option NameKind} {x : Str} {v : Value} : ∀ {P : List Str} {vs : List Value} {i : Nat} {m : Str → Option Value}, P.Nodup → P[i]? = some x → vs[i]? = some v → kindOf x ≠ some .local →
    bindC kindOf (P.zip vs) m x = some v
  | [], _, _, _, _, h, _, _ => by simp at h
  | _ :: _, [], _, _, _, _, h, _ => by simp at h
  | p :: P, w :: vs, 0, m, nd, h1, h2, hk => by
    simp at h1 h2; subst h1; subst h2
    show bindC kindOf ((p, w) :: P.zip vs) m p = _
    unfold bindC
    rw [bindC_out fun v hv => (List.nodup_cons.mp nd).1 (List.of_mem_zip hv).1, if_neg hk]
    simp
  | p :: P, w :: vs, i + 1, m, nd, h1, h2, hk => by
    show bindC kindOf ((p, w) :: P.zip vs) m x = _
    unfold bindC
    exact bindC_get (i := i) (List.nodup_cons.mp nd).2 (by simpa using h1) (by simpa using h2) hk

/-- the names' values at the entry -/
def start (N : List Str) (vs : List V) : St := vs.map some ++ List.replicate (N.length - vs.length) none

/-- the context of a def's body, at its entry; an exception leaves the frame, then lies as CX says -/
def cxOf (CX : CXT) (P : Program) (w : World) (K : PySem.W.Frag) (mg : Str → Option Value) (base : Heap) (N : List Str) (qual : Str) (scope : Scope) (f : Addr) (cd : Value) (A : Around) (outer : List Env) (s : Shared) (H : Hp) (E : XK) : Cx where
  prog := P
  w := w
  K := K
  mg := mg
  base := base
  A := A.deeper (envOfC qual scope s.heap.objs.size f cd)
  N := N
  s₀ := s
  H₀ := H
  env := envOfC qual scope s.heap.objs.size f cd
  outer := outer
  stack := envOfC qual scope s.heap.objs.size f cd :: outer
  ex := []
  calm := true
  fn := fun _ => true
  pn := []
  xe := fun e s' => wpAny (model P w) (A.deeper (envOfC qual scope s.heap.objs.size f cd)) (leaving (envOfC qual scope s.heap.objs.size f cd) e) (fun _ s'' => CX outer H s E e s'') (fun e' s'' => CX outer H s E e' s'') s'

theorem cell_has {sc : Scope} {n : Nat} {x : Str} (h : sc.names.lookup x = some .cell) : ∃ c, (cellsFrom n sc.names []).lookup x = some c := by
  have q := PySem.W.cellsFrom_some sc.names n [] (.inl h)
  exact Option.isSome_iff_exists.mp q

theorem inv_start {CX : CXT} {P : Program} {w : World} {K : PySem.W.Frag} {mg : Str → Option Value} {base : Heap} {N ps : List Str} {qual : Str} {scope : Scope} {f : Addr} {cd : Value} {A : Around} {outer : List Env} {s s1 : Shared} {H : Hp} {E : XK} {us : List Value} {vs : List V}
    (S : FnScope N ps scope) (hd : A.handled = none) (e0 : Env0 P w K mg base A outer s H) (hl : vs.length = ps.length) (r : Vals vs us)
    (x : InCallC s s.heap.objs.size (bindL (envOfC qual scope s.heap.objs.size f cd).kindOf (ps.zip us) fun _ => none) (cellsFrom (s.heap.objs.size + 1) scope.names []) (bindC (envOfC qual scope s.heap.objs.size f cd).kindOf (ps.zip us) fun _ => none) s1) :
    Inv (cxOf CX P w K mg base N qual scope f cd A outer s H E) [] (start N vs) H s1 := by
  have hpl : ps.length ≤ N.length := by have := congrArg List.length S.pre; rw [List.length_take] at this; omega
  obtain ⟨h1, tk, rfl, hk⟩ := x.done
  have noA : ∀ b : Addr, b ∉ (cxOf CX P w K mg base N qual scope f cd A outer s H E).ex := fun b z => absurd (show b ∈ ([] : List Addr) from z) (by simp)
  refine ⟨⟨e0.mod, S.kind, rfl, rfl, Nat.le_refl _, fun y z c h1 h2 => ?_, fun y hy => ?_, fun y c _ h => ?_, fun _ => hd, Around.frames_deeper e0.frames, .inr ⟨rfl, rfl⟩, fun b z => absurd z (noA b), e0.bs, e0.bsz, fun b _ _ => noA b, fun b z => absurd z (noA b), e0.funs, e0.frf⟩,
    rfl, e0.bare, Un.kept hk, ⟨_, x.toInCall.ns, fun i y v h1 h2 h3 => ?_⟩, fun y c h => ⟨_, x.cell y c h⟩, e0.hok.fresh (Nat.le_refl _), fun y c h => ?_, fun p hp => absurd (show p ∈ ([] : List (Addr × Obj)) from hp) (by simp), e0.hok.kept hk, ?_⟩
  · exact name_of_addr x.apart (PySem.mem_of_lookup h1) (PySem.mem_of_lookup h2)
  · have hy : scope.names.lookup y = some .cell ∨ scope.names.lookup y = some .free := hy
    rcases hy with hy | hy
    · exact cell_has hy
    · exact absurd rfl (S.nofree _ (PySem.mem_of_lookup hy))
  · exact Nat.le_of_lt (x.above y c (PySem.mem_of_lookup h))
  · have hi : i < vs.length := by
      unfold start at h2
      by_cases hi : i < vs.length
      · exact hi
      · rw [List.getElem?_append_right (by simpa using hi)] at h2
        rw [List.getElem?_replicate] at h2
        split at h2 <;> cases h2
    have ha : vs[i]? = some v := by
      unfold start at h2
      rw [List.getElem?_append_left (by simpa using hi), List.getElem?_map] at h2
      cases e : vs[i]? with
      | none => rw [e] at h2; cases h2
      | some a => rw [e] at h2; cases h2; rfl
    obtain ⟨u, hu, rv⟩ := r.get ha
    have hp : ps[i]? = some y := by
      rw [← S.pre, List.getElem?_take_of_lt (by omega)]; exact h1
    have ndP : ps.Nodup := by rw [← S.pre]; exact S.nd.sublist (List.take_sublist _ _)
    refine ⟨u, rv, ?_⟩
    rcases S.par y (List.mem_of_getElem? hp) with k | k
    · exact .inl ⟨k, bindL_get ndP hp hu k⟩
    · obtain ⟨c, e⟩ := cell_has (n := s.heap.objs.size + 1) k
      refine .inr ⟨.inl k, c, e, ?_⟩
      have q := x.cell y c e
      rw [bindC_get ndP hp hu (by show scope.names.lookup y ≠ _; rw [k]; decide)] at q
      exact q
  · exact e0.hok.fresh (Nat.le_of_lt (x.above y c (PySem.mem_of_lookup h)))
  · unfold start
    show _ = N.length
    rw [List.length_append, List.length_map, List.length_replicate]
    omega

/-- THE RULE: a def (or a method) of the text, by its body. The body's reading t is chosen for each entry; it is run at the parameters' values -/
theorem fn_of {CX : CXT} {P : Program} {w : World} {K : PySem.W.Frag} {mg : Str → Option Value} {base : Heap} {k : Nat} {f : Addr} {name qual : Str} {params : Arguments} {body : List Stmt} {scope : Scope} {dV kV doc pm cdv ct oc : Value} {an od : Option Addr}
    {osl : Array (Option Value)} {N ps : List Str} {sp : Sp} (lk : K.lookup f = some ⟨oc, od, .func (PySem.W.fnOf name qual params body scope dV kV doc pm an cdv ct), osl⟩) (hcd : PySem.W.codeIn K cdv qual = true) (S : FnScope N ps scope)
    (len : ∀ vs H Q E, sp vs H Q E → vs.length = ps.length)
    (hbody : ∀ (A : Around) (outer : List Env) (s : Shared) (H : Hp) (vs : List V) (Q : VK) (E : XK), Room k (A.deeper (envOfC qual scope s.heap.objs.size f cdv)) → sp vs H Q E →
      ∃ t, PSs (cxOf CX P w K mg base N qual scope f cdv A outer s H E) body t ∧ t { nx := fun _ H' => Q .non H', rt := Q } (start N vs) H) :
    FnOk P w K mg base CX (k + 1) f (PySem.W.fnOf name qual params body scope dV kV doc pm an cdv ct) ps sp := by
  refine ⟨len, fun A outer s H args us vs Q E hr e0 hb r hsp => ?_⟩
  have hl := len _ _ _ _ hsp
  have KX : K.In s.heap := e0.mod.kin.keeps fun b o e => (e0.bs b o e).1
  have lim : s.heap.NoLimit := e0.mod.nolimit.keeps fun b o e => (e0.bs b o e).1
  have hkind : ∀ y ∈ ps.zip us, scope.names.lookup y.1 = some .local ∨ (scope.names.lookup y.1 = some .cell ∧ ((cellsFrom (s.heap.objs.size + 1) scope.names []).lookup y.1).isSome = true) := fun ⟨n, v⟩ hy => by
    rcases S.par n (List.of_mem_zip hy).1 with q | q
    · exact .inl q
    · exact .inr ⟨q, PySem.W.cellsFrom_some _ _ _ (.inl q)⟩
  refine codeAny_call_function hr.depth (KX _ _ lk) rfl S.co S.gen rfl (PySem.W.codeRec_of KX hcd) (hb _ _ _ _ ?_)
  refine wpAny_newFunctionEnv_cells S.kind hkind fun env he s1 x => ?_
  subst he
  refine ⟨lim.keeps x.toInCall.keep, codeAny_func ?_⟩
  obtain ⟨t, ht, hq⟩ := hbody A outer s H vs Q E (hr.deeper _) hsp
  have I : Inv (cxOf CX P w K mg base N qual scope f cdv A outer s H E) [] (start N vs) H s1 := inv_start S hr.hd e0 hl r x
  refine wpAny_mono (ht [] s1 (start N vs) H _ I hq) (fun fl s' hs => ?_) fun e s' hs => hs
  have fin : ∀ {σ' : St} {H' : Hp} {v : V} {u : Value}, Inv (cxOf CX P w K mg base N qual scope f cdv A outer s H E) [] σ' H' s' → RelV v u → Q v H' → CE outer P w H s Q u s' :=
    fun {σ' H' v u} J rv q => ⟨v, H', J.os, J.bare, J.base, J.hok, rv, q⟩
  cases fl with
  | ret u =>
    obtain ⟨v, σ', H', J, rv, q⟩ := hs
    exact fin J rv q
  | next =>
    obtain ⟨σ', H', J, q⟩ := hs
    exact fin (v := V.non) (u := Value.none) J rfl q
  | brk =>
    obtain ⟨_, _, _, q⟩ := hs
    exact False.elim q
  | cont =>
    obtain ⟨_, _, _, q⟩ := hs
    exact False.elim q
end L2

namespace L2
open PySem PySem.Spec PyProof.Rows
section
variable {X : Cx} {x : Str} {p pos : Pos} {e : Expr} {es : List Expr} {t : TA} {id T : String} {r : List V → Hp → VK → Prop}

def tCB (r : List V → Hp → VK → Prop) (t : TA) : TE := fun σ H Q => t σ H fun vs H1 => r vs H1 Q
/-- f(e, ..), f a built-in function -/
theorem pe_callB (hc : CallR X (.builtin id) r) (hg : Gl X x) (hm : X.mg x = none) (hv : bootBuiltins x = some (.builtin id)) (ha : PA X (e :: es) t) (hn : x ≠ "__name__" := by decide) (hdb : (x == ("__debug__" : Str)) = false := by decide)
    (he : starEach (e :: es) X.env = (false, eval e X.env) :: starEach es X.env := by rfl) (hpl : (backTo pos (starEach es X.env)).any (·.1) = false := by rfl) : PE X (.Call (.Name x p) (e :: es) [] pos) (tCB r t) := by
  intro pins s σ H Q I h
  refine wpAny_Call_Name_kw (ld_blt I hg hm hv ?_ hn hdb)
  exact PyProof.Rows.callWith_builtin1 (thn (ha pos pins s σ H _ I h) fun us s1 ⟨vs, H1, I1, r1, q1⟩ => hc pins s1 σ H1 vs us Q I1 r1 q1) he hpl
/-- T(e, ..), T a built-in type -/
theorem pe_callTy (hc : CallR X (.type T) r) (hg : Gl X x) (hm : X.mg x = none) (hv : bootBuiltins x = some (.type T)) (ha : PA X (e :: es) t) (hn : x ≠ "__name__" := by decide) (hdb : (x == ("__debug__" : Str)) = false := by decide)
    (he : starEach (e :: es) X.env = (false, eval e X.env) :: starEach es X.env := by rfl) (hpl : (backTo pos (starEach es X.env)).any (·.1) = false := by rfl) : PE X (.Call (.Name x p) (e :: es) [] pos) (tCB r t) := by
  intro pins s σ H Q I h
  refine wpAny_Call_Name_kw (ld_blt I hg hm hv ?_ hn hdb)
  exact PyProof.Rows.callWith_type1 (thn (ha pos pins s σ H _ I h) fun us s1 ⟨vs, H1, I1, r1, q1⟩ => hc pins s1 σ H1 vs us Q I1 r1 q1) he hpl
end
end L2

namespace HT
open PySem PyProof.Rows

/-- t < u of tuples of ints -/
def lexLt : List Int → List Int → Bool
  | [], [] => false
  | [], _ :: _ => true
  | _ :: _, [] => false
  | x :: xs, y :: ys => if x = y then lexLt xs ys else decide (x < y)


section
open PySem.SeqAt
open PySem.AutoSeq1 (wpAny_loadPart')
open PySem.MeetsSeq PySem.MeetsSeq2 PySem.MeetsSeq3

end

section
variable {prog : Program} {w : World} {A : Around} {E : Value → Shared → Prop} {s : Shared}



/-! ### t[a:b], not the whole -/
/-- a slice's bound as a place among n (d where it is left out) -/
def sIx (n d : Nat) : Option Int → Nat
  | none => d
  | some v => if v < 0 then (v + (n : Int)).toNat else min v.toNat n
theorem sIx_none (n d : Nat) : sIx n d none = d := rfl
theorem sIx_nat (n d k : Nat) : sIx n d (some (k : Int)) = min k n := by
  show (if (k : Int) < 0 then ((k : Int) + (n : Int)).toNat else min (k : Int).toNat n) = min k n
  rw [if_neg (by omega), Int.toNat_natCast]

end
end HT

namespace L2
open PySem PySem.Spec PyProof.Rows

/-! ### the parts of a slice -/
abbrev TO := St → Hp → (Option Int → Hp → Prop) → Prop
/-- a slice's part (left out, or an int) -/
def PO (X : Cx) (e : Option Expr) (t : TO) : Prop :=
  ∀ (pins : List (Addr × Obj)) (s : Shared) (σ : St) (H : Hp) (Q : Option Int → Hp → Prop), Inv X pins σ H s → t σ H Q →
    wpAny (model X.prog X.w) X.A (evalPart e X.env) (fun u s' => ∃ o H', Inv X pins σ H' s' ∧ IsPart u o ∧ Q o H') X.xe s
def tNoPart : TO := fun _ H Q => Q none H
def tPart (t : TE) : TO := fun σ H Q => t σ H fun x H1 => ∃ i, x = .int i ∧ Q (some i) H1


section
variable {X : Cx} {e : Expr} {te : TE} {lo hi : Option Expr} {tl th : TO} {pos p2 : Pos}

theorem po_none : PO X none tNoPart := by
  intro pins s σ H Q I h
  rw [evalPart_none]
  exact wpAny_pure ⟨none, H, I, .none, h⟩
theorem po_some (h : PE X e te) : PO X (some e) (tPart te) := by
  intro pins s σ H Q I hw
  rw [evalPart_some]
  refine thn (h pins s σ H _ I hw) fun u s1 ⟨x, H1, I1, r1, q1⟩ => ?_
  obtain ⟨i, rfl, q⟩ := q1
  obtain ⟨t, rfl⟩ := r1
  exact ⟨some i, H1, I1, .int i t, q⟩

/-- what a slice of a value is, by values: the slice object stands at sl -/
def SlR (X : Cx) (r : V → Option Int → Option Int → Hp → VK → Prop) : Prop :=
  ∀ (pins : List (Addr × Obj)) (s : Shared) (σ : St) (H : Hp) (x : V) (v vl vu : Value) (lo hi : Option Int) (sl : Addr) (Q : VK), Inv X pins σ H s → RelV x v → s.heap.IsSliceOf sl vl vu .none → IsPart vl lo → IsPart vu hi → r x lo hi H Q →
    ∃ T id, typeLookup (.type T) "__getitem__" = pure (some (.builtin id)) ∧ s.TypeIs v T ∧ wpAny (model X.prog X.w) X.A (getItem v (.ref sl)) (EP X pins σ Q) X.xe s
def tSl (r : V → Option Int → Option Int → Hp → VK → Prop) (te : TE) (tl th : TO) : TE := fun σ H Q => te σ H fun x H1 => tl σ H1 fun l H2 => th σ H2 fun u H3 => r x l u H3 Q
/-- a[lo:hi], any a -/
theorem pe_slice {r : V → Option Int → Option Int → Hp → VK → Prop} (hr : SlR X r) (he : PE X e te) (hl : PO X lo tl) (hu : PO X hi th) : PE X (.Subscript e (.Slice lo hi none p2) pos) (tSl r te tl th) := by
  intro pins s σ H Q I h
  refine Subscript_ (thn (he pins s σ H _ I h) fun v s1 ⟨x, H1, I1, r1, q1⟩ => ?_)
  refine wpAny_Slice (thn (hl pins s1 σ H1 _ I1 q1) fun vl s2 ⟨l, H2, I2, pl, q2⟩ => thn (hu pins s2 σ H2 _ I2 q2) fun vu s3 ⟨u, H3, I3, pu, q3⟩ => ?_)
  rw [evalPart_none]
  refine wpAny_pure ?_
  have I4 : Inv X pins σ H3 { s3 with heap := s3.heap.push { cls := .type "slice", data := .fields #[vl, vu, .none] } } := I3.kept (t' := s3.toks) fun b ob q => Heap.get?_push_of_some _ q
  obtain ⟨T, id, hT, ht, hg⟩ := hr pins { s3 with heap := s3.heap.push { cls := .type "slice", data := .fields #[vl, vu, .none] } } σ H3 x v vl vu l u s3.heap.objs.size Q I4 r1 (Heap.IsSliceOf.new ..) pl pu q3
  show wpAny (model X.prog X.w) X.A (subscriptTail e (.Slice lo hi none p2) v (.ref s3.heap.objs.size)) (EP X pins σ Q) X.xe { s3 with heap := s3.heap.push { cls := .type "slice", data := .fields #[vl, vu, .none] } }
  exact tail_any (ops := [.ref s3.heap.objs.size, v]) ht hT hg (by with_unfolding_all rfl)

/-- the items of xs[lo:hi] -/
def cutV (xs : List V) (lo hi : Option Int) : List V := (xs.drop (HT.sIx xs.length 0 lo)).take (HT.sIx xs.length xs.length hi - HT.sIx xs.length 0 lo)
theorem cutV_length (xs : List V) (lo hi : Option Int) : (cutV xs lo hi).length ≤ xs.length := by
  unfold cutV
  rw [List.length_take, List.length_drop]
  omega
/-- t[lo:hi], not the whole of it (the whole would be t itself) -/
def rSlT (K : PySem.W.Frag) : V → Option Int → Option Int → Hp → VK → Prop := fun x lo hi H Q => ∃ a xs, x = .ref a ∧ SqT K H a xs ∧
  ¬ (HT.sIx xs.length 0 lo = 0 ∧ HT.sIx xs.length xs.length hi = xs.length) ∧ ∀ p, H p = none → Q (.ref p) (upd H p (.tup (cutV xs lo hi)))

/-! ### t < u, t + u -/
def rLtT (K : PySem.W.Frag) : R2 := fun x y H Q => ∃ a b ns ms, x = .ref a ∧ y = .ref b ∧ SqT K H a (ns.map V.int) ∧ SqT K H b (ms.map V.int) ∧ Q (.bl (HT.lexLt ns ms)) H
/-- t + u, t not empty: u empty gives t itself -/
def rCatT (K : PySem.W.Frag) : R2 := fun x y H Q => ∃ a b xs ys, x = .ref a ∧ y = .ref b ∧ SqT K H a xs ∧ SqT K H b ys ∧ xs ≠ [] ∧ xs.length + ys.length ≤ sizeLine ∧
  (ys = [] → Q (.ref a) H) ∧ (ys ≠ [] → ∀ p, H p = none → Q (.ref p) (upd H p (.tup (xs ++ ys))))
end
end L2

namespace L2
open PySem PySem.Spec PyProof.Rows

/-! ### places -/
/-- the place that an index of any sign means -/
def ixN (n : Nat) (i : Int) : Option Nat := if 0 ≤ i then (if i < n then some i.toNat else none) else if -(n : Int) ≤ i then some (i + n).toNat else none
def atI {α : Type} (xs : List α) (i : Int) : Option α := (ixN xs.length i).bind fun j => xs[j]?
theorem ixN_seq {n : Nat} {i : Int} {j : Nat} (h : ixN n i = some j) : seqIndex? i n = some j ∧ j < n ∧ -(n : Int) ≤ i ∧ i < n := by
  unfold ixN at h
  by_cases h0 : 0 ≤ i
  · rw [if_pos h0] at h
    by_cases h1 : i < n
    · rw [if_pos h1] at h
      have e : i.toNat = j := Option.some.inj h
      exact ⟨by rw [seqIndex_of h0 h1, e], by omega, by omega, h1⟩
    · rw [if_neg h1] at h; cases h
  · rw [if_neg h0] at h
    by_cases h1 : -(n : Int) ≤ i
    · rw [if_pos h1] at h
      have e : (i + n).toNat = j := Option.some.inj h
      exact ⟨by rw [seqIndex_neg (by omega) h1, e], by omega, h1, by omega⟩
    · rw [if_neg h1] at h; cases h
theorem atI_get {α : Type} {xs : List α} {i : Int} {v : α} (h : atI xs i = some v) : ∃ j, seqIndex? i xs.length = some j ∧ xs[j]? = some v ∧ j < xs.length ∧ -(xs.length : Int) ≤ i ∧ i < xs.length := by
  unfold atI at h
  cases e : ixN xs.length i with
  | none => rw [e] at h; cases h
  | some j =>
    rw [e] at h
    obtain ⟨h1, h2, h3, h4⟩ := ixN_seq e
    exact ⟨j, h1, h, h2, h3, h4⟩
theorem atI_nat {α : Type} {xs : List α} {j : Nat} {v : α} (h : xs[j]? = some v) : atI xs (j : Int) = some v := by
  have hj : j < xs.length := (List.getElem?_eq_some_iff.mp h).1
  have e : ixN xs.length (j : Int) = some j := by
    unfold ixN
    rw [if_pos (by omega), if_pos (by omega)]; simp
  unfold atI; rw [e]; exact h

/-! ### what may be subscripted -/
/-- what stands as an index of a plain subscript -/
def PlainIx (b : Expr) : Prop := ∀ o i, subscripted b false o i = operate [o, i] (getItem o i)
/-- a subscript by values -/
def IxR (X : Cx) (r : R2) : Prop :=
  ∀ (value slice : Expr) (pins : List (Addr × Obj)) (s : Shared) (σ : St) (H : Hp) (x y : V) (v u : Value) (Q : VK), Inv X pins σ H s → RelV x v → RelV y u → r x y H Q →
    subscripted slice false v u = operate [v, u] (getItem v u) → wpAny (model X.prog X.w) X.A (subscriptTail value slice v u) (EP X pins σ Q) X.xe s
/-- a call of a builtin's method by values: the receiver, the arguments -/
def MtR (X : Cx) (id : String) (r : V → List V → Hp → VK → Prop) : Prop :=
  ∀ (pins : List (Addr × Obj)) (s : Shared) (σ : St) (H : Hp) (x : V) (xs : List V) (v : Value) (us : List Value) (Q : VK), Inv X pins σ H s → RelV x v → Vals xs us → r x xs H Q →
    wpAny (model X.prog X.w) X.A (call (.builtin id) (v :: us)) (EP X pins σ Q) X.xe s
section
variable {X : Cx} {a b : Expr} {ta tb : TE} {pos : Pos}
/-- a[b] -/
theorem pe_ix {r : R2} (hr : IxR X r) (ha : PE X a ta) (hb : PE X b tb) (hs : PlainIx b) : PE X (.Subscript a b pos) (tOp r ta tb) := by
  intro pins s σ H Q I h
  exact Subscript_ (binT ha hb I h fun v u s2 x y H2 I2 rx ry q => hr a b pins s2 σ H2 x y v u Q I2 rx ry q (hs _ _))

def rIxL (K : PySem.W.Frag) : R2 := fun x y H Q => ∃ p xs i v, x = .ref p ∧ y = .int i ∧ SqL K H p xs ∧ atI xs i = some v ∧ Q v H
def rIxT (K : PySem.W.Frag) : R2 := fun x y H Q => ∃ p xs i v, x = .ref p ∧ y = .int i ∧ SqT K H p xs ∧ atI xs i = some v ∧ Q v H
def rIxS : R2 := fun x y H Q => ∃ z i c, x = .str z ∧ y = .int i ∧ z.length ≤ sizeLine ∧ atI z.cps.toList i = some c ∧ Q (.str ⟨#[c]⟩) H
theorem ix_list : IxR X (rIxL X.K) := by
  intro value slice pins s σ H x y v u Q I rx ry h hs
  obtain ⟨p, xs, i, z, rfl, rfl, hq, he, q⟩ := h
  cases rx
  obtain ⟨t, rfl⟩ := ry
  obtain ⟨its, r, pl, hz⟩ := I.list hq
  obtain ⟨j, h1, h2, h3, h4, h5⟩ := atI_get he
  obtain ⟨w, ew, rw'⟩ := r.get h2
  have hl := r.length
  have hn := line63
  have fin : EP X pins σ Q w s := ⟨z, H, I, rw', q⟩
  by_cases h0 : 0 ≤ i
  · have hj : i.toNat = j := by
      rw [seqIndex_of h0 h5] at h1
      exact Option.some.inj h1
    exact item_listR pl.isList h0 (by omega) (by rw [hj]; simpa using ew) fin hs
  · have hj : (i + (its.toArray.size : Int)).toNat = j := by
      rw [seqIndex_neg (by omega) h4] at h1
      rw [List.size_toArray, ← hl]
      exact Option.some.inj h1
    exact subscriptTail_builtinR (x := w) pl.isList.typeIs slot_list_getitem.lookup
      (wpAny_getItem_list_neg (Q := fun r s' => r = w ∧ EP X pins σ Q r s') pl.isList (by omega) (by rw [List.size_toArray] <;> omega) (by omega) (by rw [hj]; simpa using ew) ⟨rfl, fin⟩) hs
theorem ix_tup : IxR X (rIxT X.K) := by
  intro value slice pins s σ H x y v u Q I rx ry h hs
  obtain ⟨p, xs, i, z, rfl, rfl, hq, he, q⟩ := h
  cases rx
  obtain ⟨t, rfl⟩ := ry
  obtain ⟨its, r, pl, hz⟩ := I.tuple hq
  obtain ⟨j, h1, h2, h3, h4, h5⟩ := atI_get he
  obtain ⟨w, ew, rw'⟩ := r.get h2
  have hl := r.length
  have hn := line63
  have fin : EP X pins σ Q w s := ⟨z, H, I, rw', q⟩
  exact subscriptTail_builtinR (x := w) pl.typeIs slot_tuple_getitem.lookup
    (getItem_tuple (j := j) (Q := fun r s' => r = w ∧ EP X pins σ Q r s') pl (by omega) (by omega) (by rw [List.size_toArray, ← hl]; exact h1) (by simpa using ew) ⟨rfl, fin⟩) hs
/-- list, tuple or str -/
def rIx (K : PySem.W.Frag) : R2 := fun x y H Q => rIxL K x y H Q ∨ rIxT K x y H Q ∨ rIxS x y H Q

/-! ### xs[i] = v, any sign -/
/-- the list's object behind a store -/
theorem mapSeq_set (its : List Value) (n j : Nat) (u : Value) : Obj.mapSeq (·.setIfInBounds j u) { cls := .type "list", data := .seq its.toArray n } = { cls := .type "list", data := .seq (its.set j u).toArray n } := by
  simp [Obj.mapSeq]
theorem Inv.lst {pins : List (Addr × Obj)} {σ : St} {H : Hp} {s : Shared} {p : Addr} {xs : List V} (I : Inv X pins σ H s) (h : H p = some (.lst xs)) :
    ∃ (its : List Value) (n : Nat), Vals xs its ∧ s.heap.get? p = some { cls := .type "list", data := .seq its.toArray n } ∧ xs.length ≤ sizeLine := by
  obtain ⟨z, its, n, r, e⟩ := I.hok p _ h
  exact ⟨its, n, r, e, z⟩
/-- the list at p is written by an update of its object -/
theorem Inv.lstUpd {pins : List (Addr × Obj)} {σ : St} {H : Hp} {s : Shared} {p : Addr} {xs ys : List V} {its its' : List Value} {n n' : Nat} {f : Obj → Obj} (I : Inv X pins σ H s) (h : H p = some (.lst xs))
    (ho : s.heap.get? p = some { cls := .type "list", data := .seq its.toArray n }) (hf : f { cls := .type "list", data := .seq its.toArray n } = { cls := .type "list", data := .seq its'.toArray n' }) (r : Vals ys its') (hz : ys.length ≤ sizeLine) (t : Nat) :
    Inv X pins σ (upd H p (.lst ys)) { s with heap := s.heap.update p f, toks := t } := by
  have e : (s.heap.update p f).get? p = some { cls := .type "list", data := .seq its'.toArray n' } := by
    rw [Heap.get?_update_self f ho (by rw [hf] <;> rfl), hf]
  refine I.write (x := p) (e := p) (by rw [h]; trivial) (.inl rfl) (fun b u hb q => (Heap.get?_update_other _ _ (Ne.symm hb)).trans q) ⟨_, e⟩ ?_
  exact ⟨hz, its', n', r, e⟩
def rSetL : V → V → V → Hp → (Hp → Prop) → Prop := fun o i v H Q => ∃ p xs k j, o = .ref p ∧ i = .int k ∧ H p = some (.lst xs) ∧ ixN xs.length k = some j ∧ Q (upd H p (.lst (xs.set j v)))
theorem set_list : PSet X rSetL := by
  intro pins s σ H o i v ov iv u Q I ro ri rv h
  obtain ⟨p, xs, k, j, rfl, rfl, hp, hj, q⟩ := h
  cases ro
  obtain ⟨t, rfl⟩ := ri
  obtain ⟨its, n, r, ho, hz⟩ := I.lst hp
  obtain ⟨h1, h2, h3, h4⟩ := ixN_seq hj
  have hl := r.length
  have hn := line63
  have I' : Inv X pins σ (upd H p (.lst (xs.set j v))) { s with heap := s.heap.update p (Obj.mapSeq (·.setIfInBounds j u)) } :=
    I.lstUpd hp ho (mapSeq_set its n j u) (r.set rv j) (by rw [List.length_set]; exact hz) s.toks
  by_cases h0 : 0 ≤ k
  · have hk : k.toNat = j := by
      rw [seqIndex_of h0 h4] at h1
      exact Option.some.inj h1
    exact PySem.W.ki_setAt ho h0 (by omega) (by rw [List.size_toArray, ← hl]; exact h4) (by rw [hk]; exact ⟨_, I', q⟩)
  · have hk : (k + (its.toArray.size : Int)).toNat = j := by
      rw [seqIndex_neg (by omega) h3] at h1
      rw [List.size_toArray, ← hl]
      exact Option.some.inj h1
    exact PySem.W.ki_setBack ho (by omega) (by rw [List.size_toArray, ← hl]; exact h3) (by omega) (by rw [hk]; exact ⟨_, I', q⟩)

/-! ### slices -/
theorem slice_bounds (lo hi : Option Int) (n : Nat) : (sliceBounds lo hi none n).1 = ((HT.sIx n 0 lo : Nat) : Int) ∧ (sliceBounds lo hi none n).2.1 = ((HT.sIx n n hi : Nat) : Int) ∧ (sliceBounds lo hi none n).2.2 = 1 := by
  refine ⟨?_, ?_, rfl⟩
  · cases lo with
    | none => simp [sliceBounds, HT.sIx]
    | some i =>
      simp only [sliceBounds, HT.sIx, Option.getD_none, show (1 : Int) > 0 by decide, if_true]
      by_cases h : i < 0
      · simp only [h, if_true] <;> omega
      · simp only [h, if_false] <;> omega
  · cases hi with
    | none => simp [sliceBounds, HT.sIx]
    | some i =>
      simp only [sliceBounds, HT.sIx, Option.getD_none, show (1 : Int) > 0 by decide, if_true]
      by_cases h : i < 0
      · simp only [h, if_true] <;> omega
      · simp only [h, if_false] <;> omega
theorem slicePick_cut (its : List Value) (lo hi : Option Int) : slicePick its.toArray lo hi none = ((its.drop (HT.sIx its.length 0 lo)).take (HT.sIx its.length its.length hi - HT.sIx its.length 0 lo)).toArray := by
  obtain ⟨h1, h2, h3⟩ := slice_bounds lo hi its.toArray.size
  unfold slicePick
  rw [h1, h2, h3]
  simp only [sliceRange_one, pick_run, List.size_toArray] <;> rfl
/-- xs[lo:hi] of a list: a new list -/
def rSlL (K : PySem.W.Frag) : V → Option Int → Option Int → Hp → VK → Prop := fun x lo hi H Q => ∃ a xs, x = .ref a ∧ SqL K H a xs ∧ ∀ p, H p = none → Q (.ref p) (upd H p (.lst (cutV xs lo hi)))
theorem sl_list : SlR X (rSlL X.K) := by
  intro pins s σ H x v vl vu lo hi sl Q I rx hs pl pu h
  obtain ⟨a, xs, rfl, hx, q⟩ := h
  cases rx
  obtain ⟨its, r, ht, hz⟩ := I.list hx
  have hlen := r.length
  refine ⟨"list", _, slot_list_getitem.lookup, ht.isList.typeIs, ?_⟩
  refine wpAny_getItem_list_slice ht.isList hs pl pu .none (by simp) ?_ (by rw [List.size_toArray] <;> omega)
  rw [slicePick_cut, ← hlen]
  refine ⟨.ref s.heap.objs.size, _, I.laid (t' := s.toks) (o := .lst (cutV xs lo hi)) (fun b ob q => Heap.get?_push_of_some _ q) (Nat.le_refl _) ?_, rfl, q _ (I.hok.fresh (Nat.le_refl _))⟩
  exact ⟨Nat.le_trans (cutV_length xs lo hi) hz, _, 0, (r.drop (HT.sIx xs.length 0 lo)).take (HT.sIx xs.length xs.length hi - HT.sIx xs.length 0 lo), Heap.get?_push_size _ rfl⟩

/-! ### in, not in: flat items -/
def flatV : V → Bool
  | .non => true
  | .bl _ => true
  | .int _ => true
  | .str _ => true
  | _ => false
/-- == of flat values -/
def eqV : V → V → Bool
  | .non, .non => true
  | .bl a, .bl b => a == b
  | .bl a, .int b => (if a then 1 else 0) == b
  | .int a, .bl b => a == (if b then 1 else 0)
  | .int a, .int b => a == b
  | .str a, .str b => a == b
  | _, _ => false
theorem eqAt_V {A : Around} {s : Shared} {y x : V} {u v : Value} (ry : RelV y u) (rx : RelV x v) (fy : flatV y = true) (fx : flatV x = true) : SeqAt.EqAt A s u v (eqV y x) := by
  cases y with
  | non =>
    cases ry
    cases x with
    | non => cases rx; exact SeqAt.EqAt.same _
    | bl b => cases rx; exact SeqAt.EqAt.none_bool b
    | int b => obtain ⟨t, rfl⟩ := rx; exact SeqAt.EqAt.none_int b t
    | str b => obtain ⟨t, rfl⟩ := rx; exact SeqAt.EqAt.none_str b t
    | _ => exact absurd (show false = true from fx) Bool.false_ne_true
  | bl a =>
    cases ry
    cases x with
    | non => cases rx; exact SeqAt.EqAt.bool_none a
    | bl b => cases rx; exact SeqAt.EqAt.bool_bool a b
    | int b => obtain ⟨t, rfl⟩ := rx; exact SeqAt.EqAt.bool_int a b t
    | str b => obtain ⟨t, rfl⟩ := rx; exact SeqAt.EqAt.bool_str a b t
    | _ => exact absurd (show false = true from fx) Bool.false_ne_true
  | int a =>
    obtain ⟨t', rfl⟩ := ry
    cases x with
    | non => cases rx; exact SeqAt.EqAt.int_none a t'
    | bl b => cases rx; exact SeqAt.EqAt.int_bool a t' b
    | int b => obtain ⟨t, rfl⟩ := rx; exact SeqAt.EqAt.int_int a t' b t
    | str b => obtain ⟨t, rfl⟩ := rx; exact SeqAt.EqAt.int_str a t' b t
    | _ => exact absurd (show false = true from fx) Bool.false_ne_true
  | str a =>
    obtain ⟨t', rfl⟩ := ry
    cases x with
    | non => cases rx; exact SeqAt.EqAt.str_none a t'
    | bl b => cases rx; exact SeqAt.EqAt.str_bool a t' b
    | int b => obtain ⟨t, rfl⟩ := rx; exact SeqAt.EqAt.str_int a t' b t
    | str b => obtain ⟨t, rfl⟩ := rx; exact SeqAt.EqAt.str_str a t' b t
    | _ => exact absurd (show false = true from fx) Bool.false_ne_true
  | _ => exact absurd (show false = true from fy) Bool.false_ne_true
/-- the items' answers, read off the values (a value's own answer does not lean on its token) -/
def eqU (x : V) (u : Value) : Bool := match u with
  | .none => eqV .non x
  | .bool b => eqV (.bl b) x
  | .int i _ => eqV (.int i) x
  | .str z _ => eqV (.str z) x
  | _ => false
theorem eqU_of {x y : V} {u : Value} (r : RelV y u) (f : flatV y = true) : eqU x u = eqV y x := by
  cases y with
  | non => cases r; rfl
  | bl b => cases r; rfl
  | int i => obtain ⟨t, rfl⟩ := r; rfl
  | str z => obtain ⟨t, rfl⟩ := r; rfl
  | _ => exact absurd (show false = true from f) Bool.false_ne_true
theorem any_eqU {x : V} : ∀ {xs : List V} {us : List Value}, Vals xs us → xs.all flatV = true → us.any (eqU x) = xs.any fun y => eqV y x
  | _, _, .nil, _ => rfl
  | y :: xs, u :: us, .cons r t, f => by
    rw [List.all_cons, Bool.and_eq_true] at f
    rw [List.any_cons, List.any_cons, eqU_of r f.1, any_eqU t f.2]
theorem mem_eqAt {A : Around} {s : Shared} {x : V} {v : Value} (rx : RelV x v) (fx : flatV x = true) : ∀ {xs : List V} {us : List Value}, Vals xs us → xs.all flatV = true → ∀ u ∈ us, SeqAt.EqAt A s u v (eqU x u)
  | _, _, .nil, _ => fun u hu => by cases hu
  | y :: xs, u :: us, .cons r t, f => fun u' hu => by
    rw [List.all_cons, Bool.and_eq_true] at f
    rcases List.mem_cons.mp hu with rfl | hu
    · rw [eqU_of r f.1]; exact eqAt_V r rx f.1 fx
    · exact mem_eqAt rx fx t f.2 u' hu
def inV (x : V) (xs : List V) : Bool := xs.any fun y => eqV y x
/-- x in a list or tuple of flat items -/
def rIn (K : PySem.W.Frag) (neg : Bool) : R2 := fun x y H Q => ∃ p xs, y = .ref p ∧ (SqL K H p xs ∨ SqT K H p xs) ∧ flatV x = true ∧ xs.all flatV = true ∧ Q (.bl (if neg then !inV x xs else inV x xs)) H
theorem op_in_seq : OpR X (compareOp .In) (rIn X.K false) := by
  intro pins s σ H x y v u Q I rx ry h
  obtain ⟨p, xs, rfl, hq, fx, fs, q⟩ := h
  cases ry
  rcases hq with hq | hq
  · obtain ⟨its, r, pl, hz⟩ := I.list hq
    refine SeqAt.in_listAt (eqU x) pl.isList (fun w hw => mem_eqAt rx fx r fs w (by simpa using hw)) ⟨.bl _, H, I, rfl, ?_⟩
    rw [show its.toArray.any (eqU x) = its.any (eqU x) by simp, any_eqU r fs]
    exact q
  · obtain ⟨its, r, pl, hz⟩ := I.tuple hq
    refine SeqAt.in_tupleAt (eqU x) pl (fun w hw => mem_eqAt rx fx r fs w (by simpa using hw)) ⟨.bl _, H, I, rfl, ?_⟩
    rw [show its.toArray.any (eqU x) = its.any (eqU x) by simp, any_eqU r fs]
    exact q

/-! ### len, list(x), tuple(x) of any list or tuple that is read -/
theorem call_len_seq : CallR X (.builtin "len") (fun xs H Q => ∃ p ys, xs = [.ref p] ∧ (SqL X.K H p ys ∨ SqT X.K H p ys) ∧ Q (.int ys.length) H) := by
  intro pins s σ H xs us Q I r h
  obtain ⟨p, ys, rfl, hq, q⟩ := h
  obtain ⟨u, rfl, rx⟩ := vals1 r
  cases rx
  have hn := line63
  rcases hq with hq | hq
  · obtain ⟨its, r', pl, hz⟩ := I.list hq
    have hlen := r'.length
    exact Calls.call_len_list pl.isList (by simp only [List.size_toArray] <;> omega) ⟨.int ys.length, H, I.tok _, ⟨s.toks + 1, by rw [List.size_toArray, hlen]⟩, q⟩
  · obtain ⟨its, r', pl, hz⟩ := I.tuple hq
    have hlen := r'.length
    exact len_tuple pl (by simp only [List.size_toArray] <;> omega) ⟨.int ys.length, H, I.tok _, ⟨s.toks + 1, by rw [List.size_toArray, hlen]⟩, q⟩
theorem call_list_of : CallR X (.type "list") (fun xs H Q => ∃ p ys, xs = [.ref p] ∧ (SqL X.K H p ys ∨ SqT X.K H p ys) ∧ ∀ l, H l = none → Q (.ref l) (upd H l (.lst ys))) := by
  intro pins s σ H xs us Q I r h
  obtain ⟨p, ys, rfl, hq, q⟩ := h
  obtain ⟨u, rfl, rx⟩ := vals1 r
  cases rx
  have fin : ∀ (its : List Value), Vals ys its → ys.length ≤ sizeLine → ∀ (h' : Heap) (c' : Nat), (∀ b o', s.heap.get? b = some o' → h'.get? b = some o') →
      h'.get? s.heap.objs.size = some { cls := .type "list", dict := none, data := .seq its.toArray c', slots := #[] } → EP X pins σ Q (.ref s.heap.objs.size) { s with heap := h' } := fun its r' hz h' c' kp e =>
    ⟨.ref s.heap.objs.size, _, I.laid (t' := s.toks) kp (Nat.le_refl _) (show ObjOk X.prog X.w _ h' _ (.lst ys) from ⟨hz, its, c', r', e⟩), rfl, q _ (I.hok.fresh (Nat.le_refl _))⟩
  rcases hq with hq | hq
  · obtain ⟨its, r', pl, hz⟩ := I.list hq
    have hlen := r'.length
    obtain ⟨o, ho, hc, n, hd⟩ := pl.isList
    exact call_list_seq p (.inl rfl) ho hc hd (fun h' c' kp e => fin its r' hz h' c' kp e) (by simp only [List.size_toArray] <;> omega)
  · obtain ⟨its, r', pl, hz⟩ := I.tuple hq
    have hlen := r'.length
    obtain ⟨o, ho, hc, n, hd⟩ := pl
    exact call_list_seq p (.inr rfl) ho hc hd (fun h' c' kp e => fin its r' hz h' c' kp e) (by simp only [List.size_toArray] <;> omega)

/-! ### the call of a builtin's method: o.m(..) -/
/-- the value is of that builtin type -/
def tyV (K : PySem.W.Frag) (T : String) (x : V) (H : Hp) : Prop := match x with
  | .str _ => T = "str"
  | .int _ => T = "int"
  | .ref p => (T = "list" ∧ ∃ xs, SqL K H p xs) ∨ (T = "tuple" ∧ ∃ o, K.lookup p = some o ∧ o.cls = .type "tuple" ∧ o.dict = none) ∨
      (T = "dict" ∧ ((∃ kvs, H p = some (.dK kvs)) ∨ ∃ kvs, H p = some (.dT kvs))) ∨ (T = "set" ∧ ∃ S n, H p = some (.set S n))
  | _ => False
theorem tyV_is {pins : List (Addr × Obj)} {σ : St} {H : Hp} {s : Shared} {T : String} {x : V} {v : Value} (I : Inv X pins σ H s) (r : RelV x v) (ty : tyV X.K T x H) :
    s.TypeIs v T ∧ ∀ a, v = .ref a → ∃ ob, s.heap.get? a = some ob ∧ ob.dict = none := by
  cases x with
  | str z =>
    obtain ⟨t, rfl⟩ := r
    cases (show T = "str" from ty)
    exact ⟨typeIs_str s z t, fun _ e => nomatch e⟩
  | int i =>
    obtain ⟨t, rfl⟩ := r
    cases (show T = "int" from ty)
    exact ⟨typeIs_int s i t, fun _ e => nomatch e⟩
  | ref p =>
    cases r
    rcases ty with ⟨rfl, xs, hq⟩ | ⟨rfl, o, hk, hc, hd⟩ | ⟨rfl, hk⟩ | ⟨rfl, S, n, hk⟩
    · obtain ⟨its, _, pl, _⟩ := I.list hq
      refine ⟨pl.isList.typeIs, fun a e => ?_⟩
      cases e
      obtain ⟨o, n, e, c, hd, _⟩ := pl
      exact ⟨o, e, hd⟩
    · refine ⟨⟨o, I.kIn p o hk, hc⟩, fun a e => ?_⟩
      cases e
      exact ⟨o, I.kIn _ o hk, hd⟩
    · have z : ∃ o, s.heap.get? p = some o ∧ o.ExactDict := by
        rcases hk with ⟨kvs, hk⟩ | ⟨kvs, hk⟩
        · obtain ⟨_, _, _, _, o, _, _, e, ex, _⟩ := I.hok p _ hk
          exact ⟨o, e, ex⟩
        · obtain ⟨_, _, _, _, o, _, _, e, ex, _⟩ := I.hok p _ hk
          exact ⟨o, e, ex⟩
      obtain ⟨o, e, ex⟩ := z
      refine ⟨⟨o, e, ex.1⟩, fun a e2 => ?_⟩
      cases e2
      exact ⟨o, e, ex.2.1⟩
    · obtain ⟨o, _, _, _, e, ex, _⟩ := I.hok p _ hk
      refine ⟨⟨o, e, ex.1⟩, fun a e2 => ?_⟩
      cases e2
      exact ⟨o, e, ex.2.1⟩
  | _ => exact False.elim ty
def tBM0 (K : PySem.W.Frag) (T : String) (r : V → List V → Hp → VK → Prop) (to : TE) : TE := fun σ H Q => to σ H fun x H1 => tyV K T x H1 ∧ r x [] H1 Q
def tBM (K : PySem.W.Frag) (T : String) (r : V → List V → Hp → VK → Prop) (to : TE) (t : TA) : TE := fun σ H Q => to σ H fun x H1 => tyV K T x H1 ∧ t σ H1 fun xs H2 => r x xs H2 Q
variable {o e : Expr} {es : List Expr} {to : TE} {t : TA} {name : Str} {apos cpos : Pos} {T id : String} {r : V → List V → Hp → VK → Prop}
theorem pe_bm (pa : PlainAttrs T) (slot : Slot T name id) (hty : typeOf (.builtin id) = pure (.type "method_descriptor")) (hm : MtR X id r) (ho : PE X o to) (ha : PA X (e :: es) t)
    (hbase : attributeBase o name X.env (eval o X.env) = eval o X.env := by rfl)
    (hfew : ((backTo cpos (starEach (e :: es) X.env)).all (fun x => !x.1) && (backToKw cpos (keywordEach [] X.env)).all (fun x => x.1.isSome)
      && decide ((e :: es).length + ([] : List Keyword).length + (if ([] : List Keyword).isEmpty then 0 else 1) < 30)) = true := by rfl)
    (hline : (apos.endLine == cpos.line) = true := by rfl) (hs : starEach (e :: es) X.env = (false, eval e X.env) :: starEach es X.env := by rfl) (hplain : (backTo cpos (starEach es X.env)).any (·.1) = false := by rfl) :
    PE X (.Call (.Attribute o name apos) (e :: es) [] cpos) (tBM X.K T r to t) := by
  intro pins s σ H Q I h
  refine wpAny_Call_method_late hbase hfew hline rfl (thn (ho pins s σ H _ I h) fun v s1 ⟨x, H1, I1, r1, ty, q1⟩ => ?_)
  obtain ⟨h1, h2⟩ := tyV_is I1 r1 ty
  refine ⟨T, id, pa, slot, hty, h1, h2, ?_⟩
  have hA := ha cpos pins s1 σ H1 _ I1 q1
  rw [hs] at hA ⊢
  refine Calls.callWith_builtin (by show (false || (backTo cpos (starEach es X.env)).any (·.1)) = false; rw [hplain] <;> rfl) (Calls.evalArgs_plain ?_)
  exact thn hA fun us s2 ⟨vs, H2, I2, r2, q2⟩ => hm pins s2 σ H2 x vs v us Q I2 r1 r2 q2
/- xs.append(e), list.index on a module's tuple .. are MtR facts of 06m -/
end
end L2

namespace L2
open PySem PySem.Spec PyProof.Rows

def MtM (X : Cx) (id : String) (r : V → List V → Hp → VK → Prop) : Prop :=
  ∀ (pins : List (Addr × Obj)) (s : Shared) (σ : St) (H : Hp) (x : V) (xs : List V) (v : Value) (us : List Value) (Q : VK), Inv X pins σ H s → RelV x v → Vals xs us → r x xs H Q →
    wpAny (model X.prog X.w) X.A (call (.builtin id) (v :: us)) (EP X pins σ Q) X.xe s

/-! ### lists of values -/
theorem Vals.one : ∀ {x : V} {us : List Value}, Vals [x] us → ∃ u, us = [u] ∧ RelV x u
  | _, _, .cons r .nil => ⟨_, rfl, r⟩

section
variable {X : Cx} {pins : List (Addr × Obj)} {σ : St} {H : Hp} {s : Shared} {l b : Addr} {xs ys zs : List V}

/-! ### the two steps: a tracked list is rewritten, a new list is laid -/
theorem Inv.lset {its its' : List Value} {n : Nat} {f : Array Value → Array Value} {t' : Nat} (I : Inv X pins σ H s) (hH : H l = some (.lst xs))
    (e : s.heap.get? l = some { cls := .type "list", data := .seq its.toArray n }) (hf : f its.toArray = its'.toArray) (hv : Vals ys its') (hz : ys.length ≤ sizeLine) :
    Inv X pins σ (upd H l (.lst ys)) { s with heap := s.heap.update l (Obj.mapSeq f), toks := t' } := by
  have q := PySem.IsL.update e f
  rw [hf] at q
  refine I.write (x := l) (e := l) (by rw [hH]; exact trivial) (.inl rfl) (fun b' u hb hu => (Heap.get?_update_other s.heap (Obj.mapSeq f) (Ne.symm hb)).trans hu) ⟨_, q⟩ ?_
  exact ⟨hz, its', _, hv, q⟩
theorem Inv.lnew {its : List Value} {t' : Nat} (I : Inv X pins σ H s) (hv : Vals ys its) (hz : ys.length ≤ sizeLine) :
    Inv X pins σ (upd H s.heap.objs.size (.lst ys)) { s with heap := s.heap.push { cls := .type "list", data := .seq its.toArray }, toks := t' } :=
  I.laid (fun _ _ q => Heap.get?_push_of_some _ q) (Nat.le_refl _) ⟨hz, its, 0, hv, Heap.get?_push_size _ rfl⟩
theorem Inv.fresh (I : Inv X pins σ H s) : H s.heap.objs.size = none := I.hok.fresh (Nat.le_refl _)
theorem Inv.lstM (I : Inv X pins σ H s) (hH : H l = some (.lst xs)) : xs.length ≤ sizeLine ∧ ∃ (its : List Value) (n : Nat), Vals xs its ∧ xs.length = its.length ∧ s.heap.get? l = some { cls := .type "list", data := .seq its.toArray n } := by
  obtain ⟨z, its, n, r, e⟩ := I.hok l _ hH
  exact ⟨z, its, n, r, r.length, e⟩

end

section
variable {X : Cx}

/-! ### methods -/
def rAppend : V → List V → Hp → VK → Prop := fun x vs H Q => ∃ l xs y, x = .ref l ∧ vs = [y] ∧ H l = some (.lst xs) ∧ xs.length < sizeLine ∧ Q .non (upd H l (.lst (xs ++ [y])))
theorem mt_append : MtM X "list.append" rAppend := by
  intro pins s σ H x vs v us Q I rx rv h
  obtain ⟨l, xs, y, rfl, rfl, hH, hz, q⟩ := h
  cases rx
  obtain ⟨u, rfl, ru⟩ := rv.one
  obtain ⟨z, its, n, r, hl, e⟩ := I.lstM hH
  refine call_meets F.slot_list_append ⟨_, e, rfl⟩ F.entry_list_append (F.args_list_append_2 _ _) (PySem.list_append l its.toArray n u (by rw [List.size_toArray]; omega)) ⟨e, ?_⟩
  refine ⟨.non, _, I.lset (its' := its ++ [u]) hH e (by simp) (r.append (.cons ru .nil)) ?_, rfl, q⟩
  rw [List.length_append, List.length_singleton]
  omega

def rExtend : V → List V → Hp → VK → Prop := fun x vs H Q => ∃ l b xs zs, x = .ref l ∧ vs = [.ref b] ∧ H l = some (.lst xs) ∧ H b = some (.lst zs) ∧ xs.length + zs.length ≤ sizeLine ∧ Q .non (upd H l (.lst (xs ++ zs)))

def rPop : V → List V → Hp → VK → Prop := fun x vs H Q => ∃ l xs y, x = .ref l ∧ vs = [] ∧ H l = some (.lst xs) ∧ xs[xs.length - 1]? = some y ∧ Q y (upd H l (.lst xs.dropLast))

def rPopAt : V → List V → Hp → VK → Prop := fun x vs H Q => ∃ l xs i k y, x = .ref l ∧ vs = [.int i] ∧ H l = some (.lst xs) ∧ -(2 ^ 63) ≤ i ∧ i < 2 ^ 63 ∧ seqIndex? i xs.length = some k ∧ xs[k]? = some y ∧ Q y (upd H l (.lst (xs.eraseIdx k)))

def rReverse : V → List V → Hp → VK → Prop := fun x vs H Q => ∃ l xs, x = .ref l ∧ vs = [] ∧ H l = some (.lst xs) ∧ Q .non (upd H l (.lst xs.reverse))

def rClear : V → List V → Hp → VK → Prop := fun x vs H Q => ∃ l xs, x = .ref l ∧ vs = [] ∧ H l = some (.lst xs) ∧ Q .non (upd H l (.lst []))

/-! ### list + list, list += list, list * int -/
def rCat : R2 := fun x y H Q => ∃ l b xs zs, x = .ref l ∧ y = .ref b ∧ H l = some (.lst xs) ∧ H b = some (.lst zs) ∧ xs.length + zs.length ≤ sizeLine ∧ ∀ p, H p = none → Q (.ref p) (upd H p (.lst (xs ++ zs)))
theorem op_cat : OpR X (binaryOp .Add) rCat := by
  intro pins s σ H x y v u Q I rx ry h
  obtain ⟨l, b, xs, zs, rfl, rfl, hH, hB, hz, q⟩ := h
  cases rx
  cases ry
  obtain ⟨z, its, n, r, hl, e⟩ := I.lstM hH
  obtain ⟨z2, its2, n2, r2, hl2, e2⟩ := I.lstM hB
  refine PySem.P.add_list e e2 ?_ (by rw [List.size_toArray, List.size_toArray]; omega)
  have ea : its.toArray ++ its2.toArray = (its ++ its2).toArray := by simp
  rw [ea]
  exact ⟨.ref _, _, I.lnew (t' := s.toks) (r.append r2) (by rw [List.length_append]; omega), rfl, q _ I.fresh⟩
/-- a list times an int (a negative one is nothing) -/
def rRep : R2 := fun x y H Q => ∃ l k xs, x = .ref l ∧ y = .int k ∧ H l = some (.lst xs) ∧ -(2 ^ 63) ≤ k ∧ k < 2 ^ 63 ∧ xs.length * k.toNat ≤ sizeLine ∧
  ∀ p, H p = none → Q (.ref p) (upd H p (.lst (List.replicate k.toNat xs).flatten))

/-! ### del xs[i] -/
end

/-! ### xs[a:b] = ys -/
section
variable {prog : Program} {w : World} {A : Around} {E : Value → Shared → Prop} {s : Shared}
end

section
variable {X : Cx}
end
end L2

namespace Att
open PySem PySem.W PySem.Calls PyProof.Rows

/-! ### the script -/
theorem ints_of_wellAll {P : Params} {h : Heap} : ∀ (ns : List Int) (vs : List Value), WellAll P h vs (ns.map WData.int) → IntsAre vs ns := by
  intro ns
  induction ns with
  | nil =>
    intro vs w
    rw [List.map_nil] at w
    cases w
    exact .nil
  | cons n ns ih =>
    intro vs w
    rw [List.map_cons] at w
    cases w with
    | cons a b =>
      cases a
      exact .cons _ _ (ih _ b)

theorem script_of {l : OpenLaw} {n : Nat} (hn : l.most = some n) {P : Params} {h : Heap} {args : List WData} {vals : List Value}
    (hpre : l.row.toRowW.claim.pre args = true) (hwl : WellAll P h vals args) :
    ∃ a vs ns, vals = [Value.ref a] ∧ args = [WData.list (ns.map WData.int)] ∧ h.get? a = some { cls := .type "list", data := .seq vs.toArray } ∧ IntsAre vs ns ∧ ns.length ≤ n := by
  have hsh : WShape.hasAll [] args [.list .int] = true := (pre_splitW hpre).1
  have hc : l.pre.holds [] { args := args } = true := (pre_splitW hpre).2
  obtain ⟨d, r, rfl, h1, h2⟩ := hasAllW_cons hsh
  obtain rfl := hasAllW_nil h2
  obtain ⟨xs, rfl, h3⟩ := hasW_list h1
  obtain ⟨ns, rfl⟩ := items_int h3
  have hlen : ns.length ≤ n := by
    unfold OpenLaw.pre at hc
    have h4 : (WTm.not (.lt (.lit (.int (n : Int))) (.len (.arg 0)))).holds [] { args := [.list (ns.map .int)] } = true := by
      have h4 := (holds_andW hc).1
      rw [hn] at h4
      exact h4
    have h5 := condW_of h4 (w_not (w_lt w_lit (w_len_list (w_arg rfl))))
    rw [List.length_map] at h5
    refine Nat.le_of_not_lt fun q => ?_
    have q' : (n : Int) < ((ns.length : Nat) : Int) := by omega
    first
      | (rw [decide_eq_true q'] at h5; exact absurd h5 (by decide))
      | (simp at h5; omega)
  cases hwl with
  | cons w1 w2 =>
    cases w2
    cases w1 with
    | list ho hall => exact ⟨_, _, ns, rfl, rfl, ho, ints_of_wellAll ns _ hall, hlen⟩

theorem post_true (l : OpenLaw) (args : List WData) : l.row.toRowW.claim.post args (.bool true) args = true :=
  postW_of (r := l.row.toRowW) (X := (true == true))
    (show WShape.has [] (.bool true) .bool = true by first | rfl | decide | simp [WShape.has, WShape.arms, WShape.armsAll])
    (show (WTm.eq .res (.lit (.bool true))).value [] { args := args, res := some (.bool true), after := args } = some (.bool (true == true)) from w_eq_bool (w_res rfl) w_lit) rfl

/-! ### the attachment: holds_open's last premise (the goal 'hc' behind k_head) from a wpAny of the law's body -/



/-! ### rules over ANY heap (no ledger) from facts about the written part K: the library's own take a ledger (News) for what they write -/
section
variable {prog : Program} {w : World} {A : Around} {E : Value → Shared → Prop} {s : Shared} {K : Frag}





/-! the whole heap as the ledger: makes every rule that writes through a ledger a rule over any heap -/
def noObjs (h : Heap) : Heap := { h with objs := #[] }
def ledger (h : Heap) (L d : Addr) : List (Addr × Obj) := (List.range h.objs.size).filterMap fun a => if a = L ∨ a = d then none else (h.get? a).map fun o => (a, o)

end
end Att

namespace L2
open PySem PySem.Spec PyProof.Rows

theorem vals_ints : ∀ {vs : List Value} {ns : List Int}, IntsAre vs ns → Vals (ns.map V.int) vs
  | _, _, .nil => .nil
  | _, _, .cons n t h => .cons ⟨t, rfl⟩ (vals_ints h)

/-- nothing is tracked but the script, known to the object (or it is an object of the module) -/
def Only (H : Hp) : Prop := ∀ b, H b = none ∨ ∃ o xs, H b = some (.frz o (.lst xs))

/-- THE HEAD: the law's promise, at the heap behind the top. F, the promise of the law's def, may use that base is part of the heap (so K.In base, base.Ns mainGlobals mg stand in Mod) -/
theorem law_call {P : Program} {w : World} {K : PySem.W.Frag} {mg mb : Str → Option Value} {CX : CXT} {k : Nat} {fa a : Addr} {fd : FuncData} {x : Str} {sp : Sp} {s₁ : Shared} {vs : List Value} {ns : List Int}
    (KX : K.In s₁.heap) (hns : s₁.heap.Ns mainGlobals mg) (hb : s₁.heap.Ns builtinsNs mb) (hbb : ∀ x : Str, x ≠ "__name__" → mb x = bootBuiltins x) (hlim : s₁.heap.NoLimit) (hg : s₁.gens = #[])
    (ha : s₁.heap.get? a = some { cls := .type "list", data := .seq vs.toArray }) (hi : IntsAre vs ns) (hl : ns.length ≤ sizeLine) (hr : Room k callerA)
    (F : ∀ base : Heap, K.In base → base.Ns mainGlobals mg → FnOk P w K mg base CX k fa fd [x] sp) (hbind : ∀ (s : Shared) (u : Value), BindsTo s fd ⟨[u], []⟩ [(x, u)])
    (hsp : ∀ H : Hp, Only H → SqL K H a (ns.map V.int) → sp [.ref a] H (fun v _ => v = .bl true) fun _ _ _ => False)
    (hCX : ∀ H e s', CX [] H s₁ (fun _ _ _ => False) e s' → False) :
    codeAny (model P w) callerA (.call (.ref fa) ⟨[.ref a], []⟩) (fun r s' => r = .ok (.ret (.bool true)) ∧ OldK s₁.heap s'.heap ∧ s'.os = s₁.os ∧ AllBare s'.gens) s₁ := by
  have rv := vals_ints hi
  have lenV := hi.length
  -- from an abstract heap in which nothing but the script may be tracked
  have core : ∀ H : Hp, Only H → SqL K H a (ns.map V.int) → HOk P w H s₁.heap → (∀ b, H b ≠ none → b = a) → (H a ≠ none → K.lookup a = none) →
      codeAny (model P w) callerA (.call (.ref fa) ⟨[.ref a], []⟩) (fun r s' => r = .ok (.ret (.bool true)) ∧ OldK s₁.heap s'.heap ∧ s'.os = s₁.os ∧ AllBare s'.gens) s₁ := by
    intro H hO hS hok hA hK
    have base_of : ∀ {b : Addr} {o : Obj}, s₁.heap.get? b = some o → H b = none → (hidT s₁.heap H).get? b = some o := fun e n => hidT_get e n
    have noA : ∀ {b : Addr} {o : Obj} {es : Array DictEntry} {ep : Nat}, s₁.heap.get? b = some o → o.data = .dict es ep → H b = none := fun {b o es ep} e d => by
      cases q : H b with
      | none => rfl
      | some u =>
        have e' : b = a := hA b (by rw [q]; simp)
        subst e'
        rw [ha] at e; cases e
        have d' : Data.seq vs.toArray _ = Data.dict es ep := d
        cases d'
    have nsK : ∀ {b : Addr} {m : Str → Option Value}, s₁.heap.Ns b m → (hidT s₁.heap H).Ns b m := fun {b m} ⟨o, es, ep, e, d, r⟩ => ⟨o, es, ep, base_of e (noA e d), d, r⟩
    have hKb : K.In (hidT s₁.heap H) := fun b o e => base_of (KX b o e) (by
      cases q : H b with
      | none => rfl
      | some u =>
        have e' : b = a := hA b (by rw [q]; simp)
        subst e'
        rw [hK (by rw [q]; simp)] at e; cases e)
    have hM : Mod K mg (hidT s₁.heap H) := ⟨hKb, nsK hns, ⟨mb, nsK hb, hbb⟩, let ⟨mc, h1, h2⟩ := hlim; ⟨mc, nsK h1, h2⟩⟩
    have e0 : Env0 P w K mg (hidT s₁.heap H) callerA [] s₁ H := ⟨rfl, hM, fun b o e => of_hidT e, Nat.le_of_eq (hidT_size _ _), trivial, fun b hb => absurd (show b ∈ ([] : List Addr) from hb) (by simp), hok, .of_eq hg⟩
    refine codeAny_mono ((F _ hKb (nsK hns)).run callerA [] s₁ H ⟨[.ref a], []⟩ [.ref a] [.ref a] _ _ hr e0 (hbind s₁ (.ref a)) (.cons rfl .nil) (hsp H hO hS)) fun r s' h => ?_
    cases r with
    | error e => exact (hCX H e s' h).elim
    | ok fl =>
      cases fl with
      | next => exact False.elim h
      | brk => exact False.elim h
      | cont => exact False.elim h
      | ret u =>
        obtain ⟨v, H', os, bare, un, hok', r', q⟩ := h
        have q' : v = .bl true := q
        subst q'
        obtain rfl : u = Value.bool true := r'
        refine ⟨rfl, OldK.of_keep fun b o e => ?_, os, bare⟩
        cases q : H b with
        | none => exact un.keep b o e q (by intro z; exact absurd (show b ∈ ([] : List Addr) from z) (by simp)) (by simp)
        | some u =>
          rcases hO b with z | ⟨ob, xs, z⟩
          · rw [q] at z; cases z
          · have z2 := un.frzs b ob _ z
            obtain ⟨e1, _⟩ := hok b _ z
            obtain ⟨e2, _⟩ := hok' b _ z2
            rw [e] at e1; cases e1
            exact e2
  cases hk : K.lookup a with
  | some o =>
    -- the script is one of the module's own objects
    have e := KX a o hk
    rw [ha] at e
    cases e
    refine core (fun _ => none) (fun _ => .inl rfl) (.inr ⟨_, vs.toArray, _, hk, rfl, rfl, rfl, by rw [List.size_toArray, lenV]; exact hl, by simpa using rv⟩) (fun b u z => by have z' : (none : Option HO) = some u := z; cases z') (fun b z => absurd rfl z) fun z => absurd rfl z
  | none =>
    refine core (fun b => if b = a then some (.frz { cls := .type "list", data := .seq vs.toArray } (.lst (ns.map V.int))) else none) (fun b => ?_) (.inl (.inr ⟨{ cls := .type "list", data := .seq vs.toArray }, if_pos rfl⟩)) (fun b u z => ?_) (fun b z => ?_) fun _ => hk
    · by_cases hb : b = a
      · exact .inr ⟨_, _, if_pos hb⟩
      · exact .inl (if_neg hb)
    · by_cases hb : b = a
      · have z' := (if_pos hb).symm.trans z
        cases z'
        subst hb
        exact ⟨ha, by rw [List.length_map]; exact hl, vs, _, rv, ha⟩
      · have z' := (if_neg hb).symm.trans z
        cases z'
    · by_cases hb : b = a
      · exact hb
      · exact absurd (if_neg hb) z
end L2

namespace L2
open PySem PySem.Spec PyProof.Rows

abbrev KOf {K : PySem.W.Frag} {h : Heap} (_ : K.In h) : PySem.W.Frag := K

end L2

/- THE LAST THEOREM (shape; LID, My.* are yours):
   My.Adr: a structure of the addresses that your layer names (classes, functions); My.Txt K t: a structure (Prop) of the equations over K;
   My.txt_mk : {K} {implicit addresses ..} (e1 : nsIn K mainGlobals "law" = some (some (.ref f))) (e2 : K.lookup f = some ⟨oc, od, .func (fnOf "law" "law" params body scope dV kV doc pm an cdv ct), sl⟩) (e3 : codeIn K cdv "law" = true) .. : ∃ t, My.Txt K t

(the tactic k_is has no namespace: write k_is) -/

/-! SHORT WORDS over the layer: a def of the text, its body, what a loop and a test want. -/
namespace L2
open PySem PySem.Spec PyProof.Rows

/-! ### the text by places -/
/-- the j-th statement of a class's body -/
def inClass (s : Stmt) (j : Nat) : Stmt := match s with
  | .ClassDef _ _ _ body _ _ _ _ _ _ _ => body.getD j (.Pass ⟨0, 0, 0, 0⟩)
  | _ => .Pass ⟨0, 0, 0, 0⟩
def defArgs (s : Stmt) : Arguments := match s with
  | .FunctionDef _ a _ _ _ _ _ _ _ _ => a
  | _ => { posonlyargs := [], args := [], vararg := none, kwonlyargs := [], kw_defaults := [], kwarg := none, defaults := [] }
def defBody (s : Stmt) : List Stmt := match s with
  | .FunctionDef _ _ b _ _ _ _ _ _ _ => b
  | _ => []
def defScope (s : Stmt) : Scope := match s with
  | .FunctionDef _ _ _ _ _ _ sc _ _ _ => sc
  | _ => { kind := .function, names := [], isGenerator := false, isCoroutine := false }

/-! ### no exception leaves a def -/
abbrev CX0 : CXT := fun _ _ _ _ _ _ => False
abbrev E0 : XK := fun _ _ _ => False
theorem pass0 {X : Cx} : Passes CX0 X E0 := fun _ _ _ _ _ _ _ h => h.elim

/-! ### a def (or method) of the text as it stands behind the top -/
structure Fun (K : PySem.W.Frag) (x qual : Str) (st : Stmt) (f : Addr) (fd : FuncData) : Prop where
  ex : ∃ (oc : Value) (od : Option Addr) (kV doc pm : Value) (an : Option Addr) (cdv ct : Value) (osl : Array (Option Value)),
    fd = PySem.W.fnOf x qual (defArgs st) (defBody st) (defScope st) .none kV doc pm an cdv ct ∧ K.lookup f = some ⟨oc, od, .func fd, osl⟩ ∧ PySem.W.codeIn K cdv qual = true
  kp : PySem.W.keepIn K (.ref f) = true
section
variable {P : Program} {w : World} {K : PySem.W.Frag} {mg : Str → Option Value} {base : Heap}
/-- THE RULE for a def: its body as a term of rules, and the reading of that term -/
theorem Fun.ok {x qual : Str} {st : Stmt} {f : Addr} {fd : FuncData} {N ps : List Str} {k : Nat} {sp : Sp} (F : Fun K x qual st f fd) (S : FnScope N ps (defScope st)) (len : ∀ vs H Q E, sp vs H Q E → vs.length = ps.length)
    (hbody : ∀ (cdv : Value) (A : Around) (outer : List Env) (s : Shared) (H : Hp) (vs : List V) (Q : VK) (E : XK), Room k (A.deeper (envOfC qual (defScope st) s.heap.objs.size f cdv)) → sp vs H Q E →
      ∃ t, PSs (cxOf CX0 P w K mg base N qual (defScope st) f cdv A outer s H E).nox (defBody st) t ∧ t { nx := fun _ H' => Q .non H', rt := Q } (start N vs) H) : FnOk P w K mg base CX0 (k + 1) f fd ps sp := by
  obtain ⟨oc, od, kV, doc, pm, an, cdv, ct, osl, rfl, lk, hcd⟩ := F.ex
  refine fn_of lk hcd S len fun A outer s H vs Q E hr hsp => ?_
  obtain ⟨t, h, q⟩ := hbody cdv A outer s H vs Q E hr hsp
  exact ⟨t, h.nox, q⟩
/-- how its arguments bind (no defaults): h is «fun _ _ _ _ _ _ us hl => match us, hl with | [_, _], _ => rfl», one _ a parameter -/
theorem Fun.binds {x qual : Str} {st : Stmt} {f : Addr} {fd : FuncData} {ps : List Str} (F : Fun K x qual st f fd)
    (h : ∀ (kV doc pm : Value) (an : Option Addr) (cdv ct : Value) (us : List Value), us.length = ps.length → bindArgs (PySem.W.fnOf x qual (defArgs st) (defBody st) (defScope st) .none kV doc pm an cdv ct) ⟨us, []⟩ = pure (ps.zip us)) : Binds K fd ps [] := by
  obtain ⟨oc, od, kV, doc, pm, an, cdv, ct, osl, rfl, lk, hcd⟩ := F.ex
  exact .all (h kV doc pm an cdv ct)
theorem fun_mk {x qual : Str} {st : Stmt} {f : Addr} {oc : Value} {od an : Option Addr} {osl : Array (Option Value)} {kV doc pm cdv ct : Value} (l : K.lookup f = some ⟨oc, od, .func (PySem.W.fnOf x qual (defArgs st) (defBody st) (defScope st) .none kV doc pm an cdv ct), osl⟩)
    (c : PySem.W.codeIn K cdv qual = true) (k : PySem.W.keepIn K (.ref f) = true) : Fun K x qual st f (PySem.W.fnOf x qual (defArgs st) (defBody st) (defScope st) .none kV doc pm an cdv ct) := ⟨⟨oc, od, kV, doc, pm, an, cdv, ct, osl, rfl, l, c⟩, k⟩
end
theorem small1000 {n : Nat} (h : n ≤ 1000) : n < sizeLine := Nat.lt_of_le_of_lt h (by decide)

/-! ### expressions in short: the name that stands in the i-th slot -/
section
variable {X : Cx}
theorem pv (i : Nat) {x : Str} {pos : Pos} (hN : X.N[i]? = some x := by rfl) (hv : Vis X.env.scope x := by first | exact Or.inl rfl | exact Or.inr (Or.inl rfl) | exact Or.inr (Or.inr rfl)) (hd : (x == ("__debug__" : Str)) = false := by decide)
    (hcd : (x == ("__classdict__" : Str)) = false := by decide) : PE X (.Name x pos) (tVar i) := pe_var hN hv hd hcd
end

/-! ### tests -/
theorem iteF {A B : Prop} (h : B) : if false = true then A else B := by
  rw [if_neg Bool.false_ne_true]
  exact h
theorem iteT {A B : Prop} (h : A) : if true = true then A else B := by
  rw [if_pos rfl]
  exact h
theorem ite2 {c A B : Prop} [Decidable c] (h1 : c → A) (h2 : ¬ c → B) : if c then A else B := by
  by_cases h : c
  · rw [if_pos h]
    exact h1 h
  · rw [if_neg h]
    exact h2 h
theorem iteNS {c A B : Prop} [Decidable c] (hc : c) (h : B) : if (!decide c) = true then A else B := by
  rw [decide_eq_true hc]
  exact iteF h

/-! ### heaps -/
/-- all that was tracked is as it was -/
def Same (H H' : Hp) : Prop := ∀ b o, H b = some o → H' b = some o
theorem Same.refl (H : Hp) : Same H H := fun _ _ h => h
theorem Same.trans {H H1 H2 : Hp} (a : Same H H1) (b : Same H1 H2) : Same H H2 := fun c o h => b c o (a c o h)
theorem Same.free {H H' : Hp} (e : Same H H') {l : Addr} (h : H' l = Option.none) : H l = Option.none := by
  cases q : H l with
  | none => rfl
  | some o =>
    rw [e l o q] at h
    cases h
theorem Same.seq {K : PySem.W.Frag} {H H' : Hp} {a : Addr} {xs : List V} (e : Same H H') (h : SqL K H a xs) : SqL K H' a xs := by
  rcases h with (h | ⟨o, h⟩) | h
  · exact .inl (.inl (e _ _ h))
  · exact .inl (.inr ⟨o, e _ _ h⟩)
  · exact .inr h

end L2

set_option maxHeartbeats 4000000
set_option exponentiation.threshold 300
/-! ### MORE RULES: products and quotients of long numbers, isinstance, a list comprehension of one clause -/
namespace L2
open PySem PySem.Spec PyProof.Rows
section
variable {X : Cx}
theorem bits_le {k : Int} {n : Nat} (h : k.natAbs < 2 ^ n) : Builtin.Int.intBits k ≤ n := by
  unfold Builtin.Int.intBits
  split
  · exact Nat.zero_le _
  · rename_i h0
    have hz : k.natAbs ≠ 0 := by
      intro z
      apply h0
      have : k = 0 := by omega
      simp [this]
    have : k.natAbs.log2 < n := (Nat.log2_lt hz).mpr h
    omega
/-- both below 2 ^ 9000 -/
def CMulB (i j : Int) : Prop := i.natAbs < 2 ^ 9000 ∧ j.natAbs < 2 ^ 9000
theorem CMulB.ok {i j : Int} (h : CMulB i j) : IntMulOk i j := by
  refine IntMulOk.of_bits (Nat.le_trans (bits_le h.1) (by decide)) (Nat.le_trans (bits_le h.2) (by decide))
theorem op_mulB : OpR X (binaryOp .Mult) (rI CMulB fun i j => .int (i * j)) := opI fun _ _ _ _ _ _ _ hc q => mul_int q hc.ok
def CDivB (_ j : Int) : Prop := j ≠ 0 ∧ j.natAbs < 2 ^ 9000
theorem CDivB.ok {i j : Int} (h : CDivB i j) : Builtin.divisionGoesByPylong i j = false :=
  PyProof.noPylong_of_log2 ((Nat.log2_lt (by have := h.1; omega)).mpr h.2)
theorem op_fdivB : OpR X (binaryOp .FloorDiv) (rI CDivB fun i j => .int (i.fdiv j)) := opI fun _ _ _ _ _ _ _ hc q => floordiv_int hc.1 q (.inl hc.ok)

/-- isinstance(x, c), the class c a value of the text or of the machine -/
def rIsI (K : PySem.W.Frag) (c : Value) : List V → Hp → VK → Prop := fun vs H Q => ∃ x y t b, vs = [x, y] ∧ (∀ u, RelV y u → u = c) ∧ TyOf K H x t ∧ PySem.W.kitOne K t c = some b ∧ Q (.bl b) H
theorem call_isI {c : Value} : CallR X (.builtin "isinstance") (rIsI X.K c) := by
  intro pins s σ H xs us Q I r h
  obtain ⟨x, y, t, b, rfl, hc, ty, e, q⟩ := h
  cases r with
  | cons r1 r2 =>
    cases r2 with
    | cons r3 r4 =>
      cases r4
      have := hc _ r3
      subst this
      exact isinst_ok I r1 ty e fun tk => ⟨.bl b, H, I.tok tk, rfl, q⟩
end

/-! ### a list comprehension -/
section
variable {X : Cx}

/-- the block's context -/
def cxComp (X : Cx) (pins : List (Addr × Obj)) (N' : List Str) (scope : Scope) (cl : List (Str × Addr)) (C : Addr) (fp : List Addr) (s : Shared) (H : Hp) : Cx :=
  { X with N := N', s₀ := s, H₀ := H, env := compEnvC scope cl C X.env, outer := X.stack, stack := X.stack, ex := fp, fn := fun _ => false, pn := X.pn ++ pins, xe := fun _ _ => False }
/-- the cells that the block sees -/
structure Clos (X : Cx) (scope : Scope) (cl : List (Str × Addr)) : Prop where
  clos : closureFor scope X.env = pure cl
  sub : ∀ y c, cl.lookup y = some c → X.env.cells.lookup y = some c
  has : ∀ y, ((relabel scope X.env).names.lookup y = some .cell ∨ (relabel scope X.env).names.lookup y = some .free) → ∃ c, cl.lookup y = some c
theorem relabel_none {scope : Scope} {env : Env} (hf : ∀ x ∈ scope.names, x.2 ≠ .free) : relabel scope env = scope := by
  unfold relabel
  have : (scope.names.map fun (n, k) => if (k == NameKind.free && env.scope.kind == .function && env.kindOf n == some .cell) then (n, NameKind.cell) else (n, k)) = scope.names := by
    refine map_eq_self fun x hx => ?_
    obtain ⟨n, k⟩ := x
    have h1 : (k == NameKind.free) = false := by simpa using hf _ hx
    simp [h1]
  rw [this]
theorem Clos.none {scope : Scope} (hf : ∀ x ∈ scope.names, x.2 ≠ .free) (hc : ∀ x ∈ scope.names, x.2 ≠ .cell) : Clos X scope [] := by
  refine ⟨closureFor_none hf, fun y c h => by simp at h, fun y h => ?_⟩
  rw [relabel_none hf] at h
  rcases h with h | h
  · exact absurd rfl (hc _ (PySem.mem_of_lookup h))
  · exact absurd rfl (hf _ (PySem.mem_of_lookup h))

/-- what the block reads of the frame: the names behind the first are cells of the frame's -/
def Reads (X : Cx) (scope : Scope) (rest : List Str) (sel : St → St) : Prop :=
  ∀ σ, (sel σ).length = rest.length ∧ ∀ (i : Nat) (y : Str) (v : V), rest[i]? = some y → (sel σ)[i]? = some (some v) → ∃ j : Nat, X.N[j]? = some y ∧ σ[j]? = some (some v) ∧ X.env.scope.names.lookup y = some .cell ∧ (relabel scope X.env).names.lookup y = some .cell

/-- the reading: x, the clause's name, stands first -/
def tComp (wi : TI) (te : TE) (sel : St → St) : TE := fun σ H Q => wi σ H fun J H1 => ∀ l, H1 l = none → ∃ W : Nat → Nat → Hp → Prop, (∃ m, W 0 m (upd H1 l (.lst []))) ∧ ∀ i m H, W i m H →
  (J.stop i H ∧ Q (.ref l) H) ∨ (J.go i H ∧ ∀ x H', J.yld i H x H' → te (some x :: sel σ) H' fun y H2 => ∃ ys, H2 l = some (.lst ys) ∧ ys.length < sizeLine ∧ ∃ m', m' < m ∧ W (i + 1) m' (upd H2 l (.lst (ys ++ [y]))))



end
end L2
namespace L2
open PySem PySem.Spec PyProof.Rows
theorem ifV {k m : Int} {A B : Prop} (h1 : k = m → A) (h2 : k ≠ m → B) : if decide (V.int k = V.int m) = true then A else B := by
  by_cases h : k = m
  · rw [if_pos (by rw [h]; exact decide_eq_true rfl)]
    exact h1 h
  · rw [if_neg (by rw [decide_eq_false (by intro z; exact h (V.int.inj z))]; decide)]
    exact h2 h
theorem ifB {c A B : Prop} [Decidable c] (h1 : c → A) (h2 : ¬ c → B) : if decide c = true then A else B := by
  by_cases h : c
  · rw [if_pos (decide_eq_true h)]
    exact h1 h
  · rw [if_neg (by rw [decide_eq_false h]; decide)]
    exact h2 h
theorem iteC {c : Bool} {A B : Prop} (h : c = true) (a : A) : if c = true then A else B := by
  rw [if_pos h]
  exact a
theorem iteD {c : Bool} {A B : Prop} (h : c = false) (b : B) : if c = true then A else B := by
  rw [if_neg (by rw [h]; decide)]
  exact b
theorem neV {k m : Int} (h : k ≠ m) : decide (V.int k = V.int m) = false := decide_eq_false (by intro z; exact h (V.int.inj z))
end L2
namespace L2
open PySem PySem.Spec PyProof.Rows
section
variable {X : Cx} {st : Stmt} {rest : List Stmt} {t u : TS}
/-- a statement, what holds behind it, the rest -/
def tCut (t u : TS) : TS := fun D σ H => ∃ M : St → Hp → Prop, t { D with nx := M } σ H ∧ ∀ σ' H', M σ' H' → u D σ' H'
theorem pss_cut (h1 : PS X st t) (h2 : PSs X rest u) : PSs X (st :: rest) (tCut t u) := by
  intro pins s σ H D I ⟨M, h, hM⟩
  refine wpAny_execs_cons (thn (h1 pins s σ H { D with nx := M } I h) fun f s1 q => ?_)
  cases f with
  | next =>
    obtain ⟨σ', H', I', q⟩ := q
    exact h2 pins s1 σ' H' D I' (hM σ' H' q)
  | ret v => exact q
  | brk => exact q
  | cont => exact q
end
def rLen (K : PySem.W.Frag) : List V → Hp → VK → Prop := fun xs H Q => ∃ p ys, xs = [.ref p] ∧ (SqL K H p ys ∨ SqT K H p ys) ∧ Q (.int ys.length) H
theorem call_lenK {X : Cx} : CallR X (.builtin "len") (rLen X.K) := call_len_seq
end L2
/-! ### exceptions: how they leave a frame -/
namespace L2
open PySem
/-- the trail of an exception: none yet, or its record T, not in flight -/
def Trail (h : Heap) (e : Addr) (vs : Array Value) : Option Addr → Prop
  | none => vs[1]? = some .none
  | some T => vs[1]? = some (.ref T) ∧ T ≠ e ∧ ∃ oT ts, h.get? T = some oT ∧ oT.data = .fields ts ∧ ts[3]? = some .none
/-- what the passing of an exception changes: its own record, its trail, slots of frames -/
structure Noted (l : List Env) (e : Addr) (oe : Obj) (vs : Array Value) (tr : Option Addr) (h h' : Heap) : Prop where
  exc : ∃ vs' T, h'.get? e = some { oe with data := .fields vs' } ∧ vs'[0]? = vs[0]? ∧ h.objs.size ≤ T ∧ Trail h' e vs' (some T)
  keep : ∀ b o, b ≠ e → tr ≠ some b → b ∉ l.filterMap (·.frame) → h.get? b = some o → h'.get? b = some o
  slot : ∀ b o, b ≠ e → tr ≠ some b → b ∈ l.filterMap (·.frame) → h.get? b = some o → ∃ sl, h'.get? b = some { o with slots := sl }
section
variable {M : Model} {A : Around} {E : Value → Shared → Prop} {s : Shared} {base : Heap} {env : Env} {outer : List Env} {L e : Addr} {oe : Obj} {vs : Array Value} {Q : Unit → Shared → Prop}
end
end L2
/-! ### exceptions: the state in which one is on its way -/
namespace L2
open PySem PySem.Spec PyProof.Rows
section
variable {P : Program} {w : World} {H : Hp} {h : Heap} {a : Addr} {o : HO}
end
section
variable {X : Cx} {pins : List (Addr × Obj)} {σ : St} {H H' : Hp} {s s' : Shared} {h' : Heap}
/-- a record that is none of the frame's: not its names, not a caller's frame, no cell, not pinned; new since the entry -/
def Off (X : Cx) (pins : List (Addr × Obj)) (b : Addr) : Prop :=
  X.s₀.heap.get? b = none ∧ b ≠ X.env.locals ∧ b ∉ X.fs ∧ (∀ x c, X.env.cells.lookup x = some c → c ≠ b) ∧ ∀ p ∈ X.pn ++ pins, p.1 ≠ b
/-- an exception on its way, in the frame at hand -/
def XFly (X : Cx) (pins : List (Addr × Obj)) (H : Hp) (h : Heap) (x : Addr) (cls : Value) (d : Option Addr) : Prop :=
  H x = none ∧ Off X pins x ∧ ∃ vs sl tr, h.get? x = some ⟨cls, d, .fields vs, sl⟩ ∧ Trail h x vs tr ∧ ∀ T, tr = some T → H T = none ∧ Off X pins T
def XP (X : Cx) (pins : List (Addr × Obj)) (σ : St) (E : XK) (e : Value) (s' : Shared) : Prop := ∃ x cls d H', e = .ref x ∧ Inv X pins σ H' s' ∧ XFly X pins H' s'.heap x cls d ∧ E cls d H'
/-- .. behind a call -/
def Fly (g : Heap) (H : Hp) (h : Heap) (x : Addr) (cls : Value) (d : Option Addr) : Prop :=
  g.get? x = none ∧ H x = none ∧ ∃ vs sl tr, h.get? x = some ⟨cls, d, .fields vs, sl⟩ ∧ Trail h x vs tr ∧ ∀ T, tr = some T → g.get? T = none ∧ H T = none
def CX1 (P : Program) (w : World) : CXT := fun outer H s E e s' => ∃ x cls d H', e = .ref x ∧ s'.os = s.os ∧ AllBare s'.gens ∧ Un (frs outer) [] H H' s.heap s'.heap ∧ HOk P w H' s'.heap ∧ Fly s.heap H' s'.heap x cls d ∧ E cls d H'
end
section
variable {P : Program} {w : World} {K : PySem.W.Frag} {mg : Str → Option Value} {base : Heap} {N : List Str} {qual : Str} {scope : Scope} {f : Addr} {cd : Value} {A : Around} {outer : List Env} {s₀ : Shared} {H₀ : Hp} {E : XK}
end
end L2
/-! ### exceptions: raise, try, except -/
namespace L2
open PySem PySem.Spec PyProof.Rows
/-- ValueError's own classes above -/
abbrev bmV : List Value := [.type "ValueError", .type "Exception", .type "BaseException", .type "object"]
section
variable {X : Cx} {E : XK}
/-- what leaves this body as an exception is what is wanted of it -/
def XOut (X : Cx) (E : XK) : Prop := ∀ pins σ e s', XP X pins σ E e s' → X.xe e s'
def tRaise (C : Addr) (E : XK) (t : TA) : TS := fun _ σ H => t σ H fun vs H1 => vs.length ≤ sizeLine ∧ E (.ref C) none H1
/-! ### a body that is tried: the names are as they were when the exception comes -/
/-- an expression that may raise, from the names at hand -/
def PX (X : Cx) (e : Expr) (t : XK → TE) : Prop :=
  ∀ (pins : List (Addr × Obj)) (s : Shared) (σ : St) (H : Hp) (Q : VK) (E : XK), Inv X pins σ H s → t E σ H Q → wpAny (model X.prog X.w) X.A (eval e X.env) (EP X pins σ Q) (XP X pins σ E) s
def PSX (X : Cx) (st : List Stmt) (t : XK → TS) : Prop :=
  ∀ (pins : List (Addr × Obj)) (s : Shared) (σ : St) (H : Hp) (D : Ends) (E : XK), Inv X pins σ H s → t E D σ H → wpAny (model X.prog X.w) X.A (execs st X.env) (SP X pins D) (XP X pins σ E) s
variable {k : Nat} {f C : Addr} {fd : FuncData} {ps : List Str} {sp : Sp} {dvs : List V} {ds : List Value} {x m : Str} {p pos apos : Pos} {e o : Expr} {es : List Expr} {ta : TE} {t : TA}
/-- a statement of a tried body -/
def PSx (X : Cx) (st : Stmt) (t : XK → TS) : Prop :=
  ∀ (pins : List (Addr × Obj)) (s : Shared) (σ : St) (H : Hp) (D : Ends) (E : XK), Inv X pins σ H s → t E D σ H → wpAny (model X.prog X.w) X.A (exec st X.env) (SP X pins D) (XP X pins σ E) s
end
/-! ### the clauses -/
section
variable {X : Cx}
/-- within a clause's suite -/
abbrev Cx.hnd (X : Cx) (x : Addr) : Cx := { X with A := X.A.mark (some (.ref x)), calm := false, xe := fun _ _ => False }
variable {pins : List (Addr × Obj)} {σ : St} {H : Hp} {s : Shared} {x : Addr}
/-- an exception that was caught: its class, its dict -/
def XO (x C : Addr) (d : Option Addr) : HO := .ext fun h => ∃ vs sl, h.get? x = some ⟨.ref C, d, .fields vs, sl⟩
/-- an exception that was noted here -/
def XHeld (X : Cx) (pins : List (Addr × Obj)) (H : Hp) (h : Heap) (x : Addr) (cls : Value) (d : Option Addr) : Prop :=
  H x = none ∧ Off X pins x ∧ ∃ vs sl T, h.get? x = some ⟨cls, d, .fields vs, sl⟩ ∧ Trail h x vs (some T) ∧ H T = none ∧ Off X pins T
abbrev TH := Ends → St → Value → Option Addr → Hp → Prop
def PH (X : Cx) (hs : List ExceptHandler) (t : TH) : Prop :=
  ∀ (pins : List (Addr × Obj)) (s : Shared) (σ : St) (H : Hp) (D : Ends) (x : Addr) (cls : Value) (d : Option Addr), Inv X pins σ H s → XHeld X pins H s.heap x cls d → t D σ cls d H →
    wpAny (model X.prog X.w) X.A (handleBy (.ref x) X.env hs) (SP X pins D) X.xe s
/-- a class of the text that is caught -/
structure Catches (K : PySem.W.Frag) (C : Addr) : Prop where
  tu : PySem.W.instIn K (.ref C) (.type "tuple") = some false
  cl : ∃ cd, PySem.W.clsIn K C = some cd
  ex : PySem.W.subIn K (.ref C) (.type "BaseException") = some true
def hNever : TH := fun _ _ _ _ _ => False
def hBare (K : PySem.W.Frag) (C' : Addr) (t : TS) (tr : TH) : TH := fun D σ cls d H => ∃ C b, cls = .ref C ∧ PySem.W.subIn K (.ref C) (.ref C') = some b ∧ if b = true then t D σ H else tr D σ cls d H
def hAs (K : PySem.W.Frag) (C' : Addr) (i : Nat) (t : TS) (tr : TH) : TH := fun D σ cls d H => ∃ C b, cls = .ref C ∧ PySem.W.subIn K (.ref C) (.ref C') = some b ∧
  if b = true then ∀ x, H x = none → t { nx := fun σ' H' => D.nx (σ'.set i none) H', rt := D.rt, bk := fun σ' H' => D.bk (σ'.set i none) H', ct := fun σ' H' => D.ct (σ'.set i none) H' } (σ.set i (some (.ref x))) (upd H x (XO x C d)) else tr D σ cls d H
def tTry (tb : XK → TS) (th : TH) : TS := fun D σ H => tb (fun cls d H' => th D σ cls d H') D σ H
end
end L2
/-! ### defs, methods and classes in bundles -/
namespace L2
open PySem PySem.Spec PyProof.Rows
/-- a def of the text under its name, and what it promises -/
def FnB (P : Program) (w : World) (K : PySem.W.Frag) (mg : Str → Option Value) (base : Heap) (CX : CXT) (x : Str) (k : Nat) (ps : List Str) (sp : Sp) : Prop :=
  ∃ f fd, mg x = some (.ref f) ∧ PySem.W.keepIn K (.ref f) = true ∧ Binds K fd ps [] ∧ FnOk P w K mg base CX k f fd ps sp
/-- a method m of the class at C -/
def MtB (P : Program) (w : World) (K : PySem.W.Frag) (mg : Str → Option Value) (base : Heap) (CX : CXT) (C : Addr) (m : Str) (k : Nat) (ps : List Str) (sp : Sp) : Prop :=
  ∃ f fd, Meth K C m f ∧ Binds K fd ps [] ∧ FnOk P w K mg base CX k f fd ps sp
/-- the making of an instance of the class at C, the last of the arguments left out -/
def MkB (P : Program) (w : World) (K : PySem.W.Frag) (mg : Str → Option Value) (base : Heap) (CX : CXT) (C : Addr) (k : Nat) (ps : List Str) (dvs : List V) (sp : Sp) : Prop :=
  ∃ f fd ds, Mk K C f ∧ Binds K fd ps ds ∧ Vals dvs ds ∧ FnOk P w K mg base CX k f fd ps sp
section
variable {P : Program} {w : World} {K : PySem.W.Frag} {mg : Str → Option Value} {base : Heap} {CX : CXT} {x m : Str} {C : Addr} {k : Nat} {ps : List Str} {sp : Sp} {dvs : List V}
end
section
variable {X : Cx} {CX : CXT} {k j : Nat} {C : Addr} {ps : List Str} {sp : Sp} {dvs : List V} {E : XK} {x m : Str} {p pos apos : Pos} {e o : Expr} {es : List Expr} {ta : TE} {t : TA}
theorem pe_fn (F : FnB X.prog X.w X.K X.mg X.base CX x k ps sp) (hr : Room j X.A) (hx : Passes CX X E) (ha : PA X (e :: es) t) (hj : k ≤ j := by decide) (hg : Gl X x := by rfl) (hdb : (x == ("__debug__" : Str)) = false := by decide)
    (he : starEach (e :: es) X.env = (false, eval e X.env) :: starEach es X.env := by rfl) (hpl : (backTo pos (starEach es X.env)).any (·.1) = false := by rfl) : PE X (.Call (.Name x p) (e :: es) [] pos) (tCall sp [] E t) := by
  obtain ⟨f, fd, a, b, c, d⟩ := F
  exact pe_call d (hr.mono hj) hg a b c .nil hx ha hdb he hpl
end
/-- a def as the top has made it: its text, its name, how it binds -/
def FDe (K : PySem.W.Frag) (mg : Str → Option Value) (x : Str) (st : Stmt) (ps : List Str) : Prop := ∃ f fd, Fun K x x st f fd ∧ mg x = some (.ref f) ∧ Binds K fd ps []
def MDe (K : PySem.W.Frag) (C : Addr) (x qual : Str) (st : Stmt) (ps : List Str) : Prop := ∃ f fd, Fun K x qual st f fd ∧ Meth K C x f ∧ Binds K fd ps []
section
variable {P : Program} {w : World} {K : PySem.W.Frag} {mg : Str → Option Value} {base : Heap} {x qual : Str} {C : Addr} {st : Stmt} {N ps : List Str} {k : Nat} {sp : Sp}
/-- no exception leaves it -/
theorem FDe.ok (F : FDe K mg x st ps) (S : FnScope N ps (defScope st)) (len : ∀ vs H Q E, sp vs H Q E → vs.length = ps.length)
    (hbody : ∀ (f : Addr) (cdv : Value) (A : Around) (outer : List Env) (s : Shared) (H : Hp) (vs : List V) (Q : VK) (E : XK), Room k (A.deeper (envOfC x (defScope st) s.heap.objs.size f cdv)) → sp vs H Q E →
      ∃ t, PSs (cxOf CX0 P w K mg base N x (defScope st) f cdv A outer s H E).nox (defBody st) t ∧ t { nx := fun _ H' => Q .non H', rt := Q } (start N vs) H) : FnB P w K mg base CX0 x (k + 1) ps sp :=
  let ⟨f, fd, a, b, c⟩ := F
  ⟨f, fd, b, a.kp, c, a.ok S len (hbody f)⟩
theorem MDe.ok (F : MDe K C x qual st ps) (S : FnScope N ps (defScope st)) (len : ∀ vs H Q E, sp vs H Q E → vs.length = ps.length)
    (hbody : ∀ (f : Addr) (cdv : Value) (A : Around) (outer : List Env) (s : Shared) (H : Hp) (vs : List V) (Q : VK) (E : XK), Room k (A.deeper (envOfC qual (defScope st) s.heap.objs.size f cdv)) → sp vs H Q E →
      ∃ t, PSs (cxOf CX0 P w K mg base N qual (defScope st) f cdv A outer s H E).nox (defBody st) t ∧ t { nx := fun _ H' => Q .non H', rt := Q } (start N vs) H) : MtB P w K mg base CX0 C x (k + 1) ps sp :=
  let ⟨f, fd, a, b, c⟩ := F
  ⟨f, fd, b, c, a.ok S len (hbody f)⟩
end
/-- a def's text, whatever its defaults -/
def FunG (K : PySem.W.Frag) (x qual : Str) (st : Stmt) (f : Addr) (fd : FuncData) : Prop := ∃ (oc : Value) (od : Option Addr) (dV kV doc pm : Value) (an : Option Addr) (cdv ct : Value) (osl : Array (Option Value)),
    fd = PySem.W.fnOf x qual (defArgs st) (defBody st) (defScope st) dV kV doc pm an cdv ct ∧ K.lookup f = some ⟨oc, od, .func fd, osl⟩ ∧ PySem.W.codeIn K cdv qual = true
/-- a def with defaults -/
structure FunD (K : PySem.W.Frag) (x qual : Str) (st : Stmt) (f : Addr) (fd : FuncData) (ds : Array Value) : Prop where
  ex : ∃ (oc : Value) (od : Option Addr) (T : Addr) (kV doc pm : Value) (an : Option Addr) (cdv ct : Value) (osl : Array (Option Value)) (o : Obj) (n : Nat),
    fd = PySem.W.fnOf x qual (defArgs st) (defBody st) (defScope st) (.ref T) kV doc pm an cdv ct ∧ K.lookup f = some ⟨oc, od, .func fd, osl⟩ ∧ PySem.W.codeIn K cdv qual = true ∧ K.lookup T = some o ∧ o.data = .seq ds n
section
variable {P : Program} {w : World} {K : PySem.W.Frag} {mg : Str → Option Value} {base : Heap} {x qual : Str} {C : Addr} {st : Stmt} {f : Addr} {fd : FuncData} {ds : Array Value} {N ps : List Str} {k : Nat} {sp : Sp}
theorem FunD.gen (F : FunD K x qual st f fd ds) : FunG K x qual st f fd := let ⟨oc, od, T, kV, doc, pm, an, cdv, ct, osl, _, _, e, l, c, _⟩ := F.ex; ⟨oc, od, .ref T, kV, doc, pm, an, cdv, ct, osl, e, l, c⟩
theorem FunD.binds {es : List Value} (F : FunD K x qual st f fd ds)
    (h : ∀ (T : Addr) (kV doc pm : Value) (an : Option Addr) (cdv ct : Value) (us : List Value), (us ++ es).length = ps.length → ∃ k, bindArgs (PySem.W.fnOf x qual (defArgs st) (defBody st) (defScope st) (.ref T) kV doc pm an cdv ct) ⟨us, []⟩ = seqItems? (.ref T) >>= k ∧ k (some ds) = pure (ps.zip (us ++ es))) : Binds K fd ps es := by
  obtain ⟨oc, od, T, kV, doc, pm, an, cdv, ct, osl, o, n, rfl, lk, hcd, lt, hd⟩ := F.ex
  intro s us KX hl
  obtain ⟨k, h1, h2⟩ := h T kV doc pm an cdv ct us hl
  exact PySem.W.binds_K KX rfl lt hd h1 h2
theorem funD_mk {T : Addr} {oc : Value} {od an : Option Addr} {osl : Array (Option Value)} {kV doc pm cdv ct : Value} {o : Obj} {n : Nat} (l : K.lookup f = some ⟨oc, od, .func (PySem.W.fnOf x qual (defArgs st) (defBody st) (defScope st) (.ref T) kV doc pm an cdv ct), osl⟩)
    (c : PySem.W.codeIn K cdv qual = true) (t : K.lookup T = some o) (hd : o.data = .seq ds n) : FunD K x qual st f (PySem.W.fnOf x qual (defArgs st) (defBody st) (defScope st) (.ref T) kV doc pm an cdv ct) ds := ⟨⟨oc, od, T, kV, doc, pm, an, cdv, ct, osl, o, n, rfl, l, c, t, hd⟩⟩
theorem FunG.ok (F : FunG K x qual st f fd) (S : FnScope N ps (defScope st)) (len : ∀ vs H Q E, sp vs H Q E → vs.length = ps.length)
    (hbody : ∀ (cdv : Value) (A : Around) (outer : List Env) (s : Shared) (H : Hp) (vs : List V) (Q : VK) (E : XK), Room k (A.deeper (envOfC qual (defScope st) s.heap.objs.size f cdv)) → sp vs H Q E →
      ∃ t, PSs (cxOf CX0 P w K mg base N qual (defScope st) f cdv A outer s H E).nox (defBody st) t ∧ t { nx := fun _ H' => Q .non H', rt := Q } (start N vs) H) : FnOk P w K mg base CX0 (k + 1) f fd ps sp := by
  obtain ⟨oc, od, dV, kV, doc, pm, an, cdv, ct, osl, rfl, lk, hcd⟩ := F
  refine fn_of lk hcd S len fun A outer s H vs Q E hr hsp => ?_
  obtain ⟨t, h, q⟩ := hbody cdv A outer s H vs Q E hr hsp
  exact ⟨t, h.nox, q⟩
/-- an __init__ as the top has made it, and the defaults that may fill up -/
def IDe (K : PySem.W.Frag) (C : Addr) (qual : Str) (st : Stmt) (ps : List Str) (dvss : List (List V)) : Prop := ∃ f fd, FunG K "__init__" qual st f fd ∧ Mk K C f ∧ ∀ dvs ∈ dvss, ∃ es, Vals dvs es ∧ Binds K fd ps es
theorem IDe.ok {dvss : List (List V)} (F : IDe K C qual st ps dvss) (S : FnScope N ps (defScope st)) (len : ∀ vs H Q E, sp vs H Q E → vs.length = ps.length)
    (hbody : ∀ (f : Addr) (cdv : Value) (A : Around) (outer : List Env) (s : Shared) (H : Hp) (vs : List V) (Q : VK) (E : XK), Room k (A.deeper (envOfC qual (defScope st) s.heap.objs.size f cdv)) → sp vs H Q E →
      ∃ t, PSs (cxOf CX0 P w K mg base N qual (defScope st) f cdv A outer s H E).nox (defBody st) t ∧ t { nx := fun _ H' => Q .non H', rt := Q } (start N vs) H) : ∀ dvs ∈ dvss, MkB P w K mg base CX0 C (k + 1) ps dvs sp := fun dvs hd =>
  let ⟨f, fd, a, b, c⟩ := F
  let ⟨es, v, d⟩ := c dvs hd
  ⟨f, fd, es, b, d, v, a.ok S len (hbody f)⟩
end
end L2
/-! ### the law's entry, with the size of the script's ints -/
namespace L2
open PySem PySem.Spec PyProof.Rows PySem.W PySem.Calls
theorem weight_mem : ∀ (ns : List Int) (n : Int), n ∈ ns → Builtin.Int.intBits n ≤ WData.weightAll (ns.map WData.int)
  | m :: r, n, h => by
    rw [List.map_cons]
    show Builtin.Int.intBits n ≤ WData.weight (.int m) + 1 + WData.weightAll (r.map WData.int)
    rcases List.mem_cons.mp h with z | z
    · subst z
      have : WData.weight (.int n) = Builtin.Int.intBits n := by
        simp only [WData.weight, Builtin.Int.intBits]
      omega
    · have := weight_mem r n z
      omega
theorem bits_of_lay {ns : List Int} (h : WData.layableAll [WData.list (ns.map WData.int)] = true) : ∀ n ∈ ns, Builtin.Int.intBits n ≤ 2 ^ 20 := fun n hn => by
  have h1 : (WData.list (ns.map WData.int)).layable = true := by
    unfold WData.layableAll at h
    simpa using h
  have h2 := (layableW_iff.mp h1).2.2
  have h3 := weight_mem ns n hn
  exact Nat.le_trans h3 h2
theorem walk_ofB {l : PySem.W.OpenLaw} {n k : Nat} {q : Program} {loose : List Str} {XP : (Str → Option Value) → Heap → Prop} {YP : World → Heap → Prop} {d : DefRec} {K : Params → PySem.W.Frag} {CX : World → CXT} {sp : World → Sp} {x : Str}
    (hn : l.most = some n) (hn2 : n ≤ sizeLine) (hdf : d.params.defaults = []) (hr : Room k callerA)
    (hY : ∀ (w : World) (h : Heap), YP w h → (K w.params).In h)
    (F : ∀ (w : World) (mg : Str → Option Value) (fa : Addr) (h : Heap), (K w.params).In h → h.Ns mainGlobals mg → mg d.name = some (.ref fa) →
      ∃ fd : FuncData, (∀ (s : Shared) (u : Value), BindsTo s fd ⟨[u], []⟩ [(x, u)]) ∧
        ∀ base : Heap, (K w.params).In base → base.Ns mainGlobals mg → FnOk l.prog w (K w.params) mg base (CX w) k fa fd [x] (sp w))
    (hsp : ∀ (w : World) (H : Hp) (a : Addr) (ns : List Int), ns.length ≤ n → (∀ i ∈ ns, Builtin.Int.intBits i ≤ 2 ^ 20) → Only H → SqL (K w.params) H a (ns.map V.int) → sp w [.ref a] H (fun v _ => v = .bl true) fun _ _ _ => False)
    (hCX : ∀ (w : World) (H : Hp) (s : Shared) (e : Value) (s' : Shared), CX w [] H s (fun _ _ _ => False) e s' → False) :
    PySem.W.WalkO q loose XP YP l.row.toRowW d [] (fun f vs => PySem.call f vs) := by
  intro w s₀ s₁ mg mb G Y fa o pm cd doc dV kV ho hd hcd hD hmg hg args vals as hpre hlay hrd hwl hlo
  obtain rfl : dV = .none := Dflts.none hD hdf
  obtain rfl : kV = .none := Dflts.noKw hD
  obtain ⟨a, vs, ns, rfl, rfl, hobj, hints, hlen⟩ := Att.script_of hn hpre hwl
  have hbits := bits_of_lay hlay
  have KX := hY w _ Y
  obtain ⟨fd, hb, hF⟩ := F w mg fa _ KX G.T.g hmg
  refine enter_call (codeAny_mono (law_call KX G.T.g G.T.b G.T.builtins G.T.nolimit hg hobj hints (Nat.le_trans hlen hn2) hr hF hb (fun H hO hS => hsp w H a ns hlen hbits hO hS) fun H e s' => hCX w H s₁ e s') fun r s' hq => ?_)
  obtain ⟨rfl, h2, h3, h4⟩ := hq
  exact ⟨.inl ⟨.bool true, .bool true, [], rfl, fun _ => rfl, .bool true, Att.post_true l _, fun _ => ⟨List.Pairwise.nil, fun _ hm => (nomatch hm)⟩⟩, h2, h3, h4⟩
section
variable {X : Cx}
/-- any product that the machine takes -/
theorem op_mulG : OpR X (binaryOp .Mult) (rI IntMulOk fun i j => .int (i * j)) := opI fun _ _ _ _ _ _ _ hc q => mul_int q hc
end
theorem mulOk_bits {i j : Int} (h : Builtin.Int.intBits i + Builtin.Int.intBits j ≤ 2 ^ 27) : IntMulOk i j := by
  have : Builtin.Int.intTooBig (Builtin.Int.intBits i + Builtin.Int.intBits j) = false := by
    unfold Builtin.Int.intTooBig bitsLine
    exact decide_eq_false (by omega)
  unfold IntMulOk
  rw [this]
  simp
end L2
/-! ### an exception that was caught: what it is, what it tells -/
namespace L2
open PySem PySem.Spec PyProof.Rows
section
variable {prog : Program} {w : World} {A : Around} {E : Value → Shared → Prop} {s : Shared} {K : PySem.W.Frag} {x D : Addr} {ox : Obj} {od : Option Obj} {name : Str}
/-- an exception class of the text, as its instances are asked -/
structure ExA (K : PySem.W.Frag) (D : Addr) : Prop where
  ga : PySem.W.findIn K (.ref D) "__getattribute__" = some (some (.builtin "BaseException.__getattribute__"))
  gh : PySem.W.findIn K (.ref D) "__getattr__" = some none
  be : PySem.W.mroIn K D (.type "BaseException") = some true
  ca : PySem.W.findIn K (.ref D) "__class__" = some (some (.builtin "object.__class__"))
  gs : PySem.W.specialIn K (.builtin "object.__class__") "__get__" = some (some (.builtin "getset_descriptor.__get__"))
  tk : PySem.W.takesIn K (.builtin "object.__class__") = some true
  ob : PySem.W.mroIn K D (.type "object") = some true
  cl : ∃ cd, PySem.W.clsIn K D = some cd
end
section
variable {X : Cx}
/-- a caught exception without a dict -/
def XAt (H : Hp) (x D : Addr) : Prop := H x = some (XO x D none)
def rIsX (K : PySem.W.Frag) (c : Value) : List V → Hp → VK → Prop := fun vs H Q => ∃ x D y b, vs = [.ref x, y] ∧ (∀ u, RelV y u → u = c) ∧ XAt H x D ∧ ExA K D ∧ PySem.W.kitOne K (.ref D) c = some b ∧ Q (.bl b) H
/-! ### lists of flat items, one == the other -/
def eqVs : List V → List V → Bool
  | [], [] => true
  | x :: xs, y :: ys => eqV x y && eqVs xs ys
  | _, _ => false
theorem eqVs_len : ∀ {xs ys : List V}, xs.length ≠ ys.length → eqVs xs ys = false
  | [], [], h => absurd rfl h
  | [], _ :: _, _ => rfl
  | _ :: _, [], _ => rfl
  | x :: xs, y :: ys, h => by
    show (eqV x y && eqVs xs ys) = false
    rw [eqVs_len (fun z => h (congrArg (· + 1) z)), Bool.and_false]
def eqAtJ (xs ys : List V) (j : Nat) : Bool := match xs[j]?, ys[j]? with | some x, some y => eqV x y | _, _ => true
theorem eqVs_all : ∀ {xs ys : List V}, xs.length = ys.length → (List.range xs.length).all (eqAtJ xs ys) = eqVs xs ys
  | [], [], _ => rfl
  | x :: xs, y :: ys, h => by
    rw [List.length_cons, List.range_succ_eq_map, List.all_cons, List.all_map]
    show (eqV x y && _) = (eqV x y && eqVs xs ys)
    rw [← eqVs_all (Nat.succ.inj h)]
    rfl
theorem vals_at {xs : List V} {us : List Value} (r : Vals xs us) : ∀ {j : Nat} {x : V} {u : Value}, xs[j]? = some x → us[j]? = some u → RelV x u := by
  induction r with
  | nil => intro j x u h; cases h
  | cons r1 _ ih =>
    intro j x u h1 h2
    cases j with
    | zero => cases h1; cases h2; exact r1
    | succ j => exact ih h1 h2
def rEqL (K : PySem.W.Frag) : R2 := fun x y H Q => ∃ p q xs ys, x = .ref p ∧ y = .ref q ∧ SqL K H p xs ∧ SqL K H q ys ∧ xs.all flatV = true ∧ ys.all flatV = true ∧ Q (.bl (eqVs xs ys)) H
theorem op_eqL (hu : X.A.units < cLine) : OpR X (compareOp .Eq) (rEqL X.K) := by
  intro pins s σ H x y v u Q I rx ry h
  obtain ⟨p, q, xs, ys, rfl, rfl, hp, hq, fx, fy, k⟩ := h
  cases rx
  cases ry
  obtain ⟨us, r, pl, hz⟩ := I.list hp
  obtain ⟨ws, r', pl', hz'⟩ := I.list hq
  have e1 := r.length
  have e2 := r'.length
  by_cases hl : xs.length = ys.length
  · refine SeqAt.eq_listAt (e := eqAtJ xs ys) pl.isList pl'.isList (by simp; omega) hu (fun j h1 h2 => ?_) ⟨.bl _, H, I, rfl, ?_⟩
    · have j1 : j < us.length := by simpa using h1
      have j2 : j < ws.length := by simpa using h2
      have g1 : xs[j]? = some (xs[j]'(by omega)) := List.getElem?_eq_getElem _
      have g2 : ys[j]? = some (ys[j]'(by omega)) := List.getElem?_eq_getElem _
      have g3 : us[j]? = some us[j] := List.getElem?_eq_getElem _
      have g4 : ws[j]? = some ws[j] := List.getElem?_eq_getElem _
      have : eqAtJ xs ys j = eqV (xs[j]'(by omega)) (ys[j]'(by omega)) := by unfold eqAtJ; rw [g1, g2]
      rw [this]
      simp only [List.getElem_toArray]
      exact eqAt_V (vals_at r g1 g3) (vals_at r' g2 g4) (List.all_eq_true.mp fx _ (List.getElem_mem _)) (List.all_eq_true.mp fy _ (List.getElem_mem _))
    · rw [List.size_toArray, ← e1, eqVs_all hl]
      exact k
  · refine SeqAt.eq_list_lengthsAt pl.isList pl'.isList (by simp; omega) hu ⟨.bl _, H, I, rfl, ?_⟩
    rw [← eqVs_len hl]
    exact k
end
end L2
/-! ### methods of an object whose class only the walk knows; a def called by its class -/
namespace L2
open PySem PySem.Spec PyProof.Rows
def tMethD (P : Program) (w : World) (K : PySem.W.Frag) (mg : Str → Option Value) (base : Heap) (CX : CXT) (m : Str) (j : Nat) (E : XK) (ta : TE) (t : TA) : TE := fun σ H Q => ta σ H fun x H1 =>
  ∃ a C dx fs k ps sp, x = .ref a ∧ H1 a = some (.ins C dx fs) ∧ fs.lookup m = none ∧ Cls K C ∧ k ≤ j ∧ MtB P w K mg base CX C m k ps sp ∧ t σ H1 fun vs H2 => sp ((.ref a :: vs) ++ []) H2 Q E
/-- the class is one of the text, and its attributes are read plainly -/
structure ClsRd (K : PySem.W.Frag) (C : Addr) : Prop where
  rd : PySem.W.readsIn K C (.type "type") = true
  sg : PySem.W.specialIn K (.ref C) "__getattribute__" = some (some (.builtin "type.__getattribute__"))
/-- a def m of the class at C, as it is called by the class -/
def CfB (P : Program) (w : World) (K : PySem.W.Frag) (mg : Str → Option Value) (base : Heap) (CX : CXT) (C : Addr) (m : Str) (k : Nat) (ps : List Str) (sp : Sp) : Prop :=
  ∃ f fd, ClsRd K C ∧ PySem.W.findCls K (.ref C) (.type "type") m = some (.val (.ref f)) ∧ PySem.W.keepIn K (.ref f) = true ∧ Binds K fd ps [] ∧ FnOk P w K mg base CX k f fd ps sp
section
variable {X : Cx} {CX : CXT} {k j : Nat} {C : Addr} {ps : List Str} {sp : Sp} {E : XK} {x m : Str} {p pos apos : Pos} {e o : Expr} {es : List Expr} {ta : TE} {t : TA}
/-- a text, so many times -/
def rRepS : R2 := fun x y H Q => ∃ z n, x = .str z ∧ y = .int n ∧ z.length = 1 ∧ n.natAbs < 1000 ∧ Q (.str (Txt.mul z n)) H
end
section
variable {P : Program} {w : World} {K : PySem.W.Frag} {mg : Str → Option Value} {base : Heap} {x qual : Str} {C : Addr} {st : Stmt} {N ps : List Str} {k : Nat} {sp : Sp}
/-- an __init__ that is called by its class -/
def CDe (K : PySem.W.Frag) (C : Addr) (qual : Str) (st : Stmt) (ps : List Str) : Prop := ∃ f fd, FunG K "__init__" qual st f fd ∧ ClsRd K C ∧ PySem.W.findCls K (.ref C) (.type "type") "__init__" = some (.val (.ref f)) ∧ PySem.W.keepIn K (.ref f) = true ∧ Binds K fd ps []
end
end L2
/-! ### a list taken apart -/
namespace L2
open PySem PySem.Spec PyProof.Rows
section
variable {prog : Program} {w : World} {A : Around} {E : Value → Shared → Prop} {s : Shared}
end
section
variable {X : Cx} {pos : Pos}
def gLst (K : PySem.W.Frag) (n : Nat) (t : TGs) : TG := fun v σ H Q => ∃ a xs, v = .ref a ∧ SqL K H a xs ∧ xs.length = n ∧ t xs σ H Q
end
end L2
namespace L2
open PySem PySem.Spec PyProof.Rows
/-- what is asked of a def's suite -/
def BodyOk (P : Program) (w : World) (K : PySem.W.Frag) (mg : Str → Option Value) (base : Heap) (qual : Str) (st : Stmt) (N : List Str) (k : Nat) (sp : Sp) : Prop :=
  ∀ (f : Addr) (cdv : Value) (A : Around) (outer : List Env) (s : Shared) (H : Hp) (vs : List V) (Q : VK) (E : XK), Room k (A.deeper (envOfC qual (defScope st) s.heap.objs.size f cdv)) → sp vs H Q E →
    ∃ t, PSs (cxOf CX0 P w K mg base N qual (defScope st) f cdv A outer s H E).nox (defBody st) t ∧ t { nx := fun _ H' => Q .non H', rt := Q } (start N vs) H
def BodyX (P : Program) (w : World) (K : PySem.W.Frag) (mg : Str → Option Value) (base : Heap) (qual : Str) (st : Stmt) (N : List Str) (k : Nat) (sp : Sp) : Prop :=
  ∀ (f : Addr) (cdv : Value) (A : Around) (outer : List Env) (s : Shared) (H : Hp) (vs : List V) (Q : VK) (E : XK), Room k (A.deeper (envOfC qual (defScope st) s.heap.objs.size f cdv)) → sp vs H Q E →
    ∃ t, PSs (cxOf (CX1 P w) P w K mg base N qual (defScope st) f cdv A outer s H E) (defBody st) t ∧ t { nx := fun _ H' => Q .non H', rt := Q } (start N vs) H
end L2
/-! ### an exception class with an __init__ of its own -/
namespace L2
open PySem PySem.Spec PyProof.Rows
section
variable {prog : Program} {w : World} {A : Around} {E : Value → Shared → Prop} {h : Heap} {g : Array GenState} {d : Drawn} {t : Nat} {os : OsState}
variable {nm q : Str} {C N : Addr} {bs bm bmB : List Value} {hdct : Bool} {sn : List Str} {sub : List Value} {ab : Bool} {col : Option Bool} {dd : Option Addr} {k0 k1 k2 k3 k5 : Option Value} {B newId initId : String}
end
end L2
/-! #### what is stored in an exception -/
namespace L2
open PySem PySem.Spec PyProof.Rows
open Builtin Builtin.ObjectAttr
section
theorem refuse_bmV (self : Value) : refuseLoop self "__setattr__" bmV = pure () := by kernel_rfl
/-- an exception class of the text with an __init__ of its own -/
structure ExI (K : PySem.W.Frag) (C : Addr) : Prop where
  cl : ∃ (cd : ClassData) (tl : List Addr), PySem.W.clsIn K C = some cd ∧ cd.mro = tl.map Value.ref ++ bmV ∧ cd.hasDict = true
  sa : PySem.W.findIn K (.ref C) "__setattr__" = some (some (.builtin "object.__setattr__"))
variable {prog : Program} {w : World} {A : Around} {E : Value → Shared → Prop} {s : Shared} {K : PySem.W.Frag} {x C : Addr} {o : Obj} {od : Option Obj} {name : Str} {v : Value}
/-- where the __init__ of an exception class of the text lies -/
def excFI (K : PySem.W.Frag) (C : Addr) (bmB : List Value) (newId : String) : Option Addr := match K.lookup C with
  | some ⟨.type "type", _, .cls cd, sl⟩ => (match cd.mro, sl.toList with
    | .ref C' :: bm, [_, _, _, _, some (.builtin n), _] => if (C' == C && n == newId && !cd.hasDel && PySem.W.tailIn K bmB bm && PySem.W.nsOkIn K cd.ns) = true then (match PySem.W.nsIn K cd.ns "__init__" with | some (some (.ref f)) => some f | _ => none) else none
    | _, _ => none)
  | _ => none
end
end L2
/-! #### raise C(..), C with an __init__ of its own -/
namespace L2
open PySem PySem.Spec PyProof.Rows
section
variable {prog : Program} {w : World} {A : Around} {E : Value → Shared → Prop} {s : Shared} {env : Env}
variable {nm q : Str} {C N : Addr} {bs bm bmB : List Value} {hdct : Bool} {sn : List Str} {sub : List Value} {ab : Bool} {col : Option Bool} {dd : Option Addr} {k0 k1 k2 k3 k5 : Option Value} {B newId initId : String}
end
/-- an exception in the making -/
def XI (e C : Addr) (d : Option Addr) : HO := .ext fun h => ∃ t, h.get? e = some ⟨.ref C, d, .fields #[.ref t, .none, .none, .none, .bool false, .none], #[]⟩
def del (H : Hp) (e : Addr) : Hp := fun b => if b = e then none else H b
section
variable {X : Cx} {pins : List (Addr × Obj)} {σ : St} {H : Hp} {s : Shared} {x : Addr}
end
end L2
namespace L2
open PySem PySem.Spec PyProof.Rows
/-- the __init__ of an exception class, and what it promises -/
def XiB (P : Program) (w : World) (K : PySem.W.Frag) (mg : Str → Option Value) (base : Heap) (C : Addr) (k : Nat) (ps : List Str) (sp : Sp) : Prop :=
  ∃ f fd, excFI K C bmV "ValueError.__new__" = some f ∧ PySem.W.typeIn K (.ref f) = some (.type "function") ∧ Binds K fd ps [] ∧ FnOk P w K mg base CX0 k f fd ps sp
section
variable {X : Cx} {E : XK}
def tRaiseI (C : Addr) (sp : Sp) (E : XK) (t : TA) : TS := fun _ σ H => t σ H fun vs H1 => vs.length ≤ sizeLine ∧
  ∀ e, H1 e = none → sp ((.ref e :: vs) ++ []) (upd H1 e (XI e C none)) (fun v H2 => v = .non ∧ ∃ d, H2 e = some (XI e C d) ∧ E (.ref C) d (del H2 e)) E0
end
end L2
/-! ### within the __init__ of an exception -/
namespace L2
open PySem PySem.Spec PyProof.Rows
section
variable {X : Cx} {e e1 e2 value : Expr} {es : List Expr} {pos apos np pos' : Pos} {t : TA} {ta tv t1 t2 : TE} {x f : Str} {G : Addr}
def tBI (K : PySem.W.Frag) (t : TA) : TE := fun σ H Q => t σ H fun vs H1 => ∃ e C d rest f, vs = .ref e :: rest ∧ H1 e = some (XI e C d) ∧ excFI K C bmV "ValueError.__new__" = some f ∧ rest.length ≤ sizeLine ∧ Q .non H1
def tJ2 (t1 t2 : TE) : TE := fun σ H Q => t1 σ H fun x H1 => ∃ a, x = .str a ∧ a.length ≤ sizeLine ∧ t2 σ H1 fun y H2 => ∃ b, y = .str b ∧ a.length + b.length ≤ sizeLine ∧ Q (.str (a ++ b)) H2
def tFv (tv : TE) : TE := fun σ H Q => tv σ H fun x H1 => ∃ z, x = .str z ∧ z.length ≤ sizeLine ∧ Q (.str z) H1
/-- self.f = value, the first attribute of an exception in the making -/
def sXf (K : PySem.W.Frag) (ta tv : TE) (f : Str) : TS := fun D σ H => tv σ H fun y H1 => ta σ H1 fun x H2 => ∃ a C, x = .ref a ∧ H2 a = some (XI a C none) ∧ ExI K C ∧ NoAttr K C f ∧
  ∀ dx, H2 dx = none → D.nx σ (upd (upd H2 a (XI a C (some dx))) dx (.xd [(f, y)]))
/-- caught.f -/
def tXf (K : PySem.W.Frag) (ta : TE) (f : Str) : TE := fun σ H Q => ta σ H fun x H1 => ∃ a C dx fs v, x = .ref a ∧ H1 a = some (XO a C (some dx)) ∧ H1 dx = some (.xd fs) ∧ ExA K C ∧ PySem.W.hasDictIn K C = true ∧ PySem.W.findIn K (.ref C) f = some none ∧ fs.lookup f = some v ∧ Q v H1
/-- an exception that was caught, its attributes if there are any -/
def XAtD (H : Hp) (x C : Addr) (fs : List (Str × V)) : Prop := ∃ dx, H x = some (XO x C (some dx)) ∧ H dx = some (.xd fs)
def rIsXD (K : PySem.W.Frag) (c : Value) : List V → Hp → VK → Prop := fun vs H Q => ∃ x D y b fs, vs = [.ref x, y] ∧ (∀ u, RelV y u → u = c) ∧ XAtD H x D fs ∧ ExA K D ∧ PySem.W.kitOne K (.ref D) c = some b ∧ Q (.bl b) H
end
end L2
namespace L2
open PySem PySem.Spec PyProof.Rows
section
variable {P : Program} {w : World} {K : PySem.W.Frag} {mg : Str → Option Value} {base : Heap} {qual : Str} {C : Addr} {st : Stmt} {N ps : List Str} {k : Nat} {sp : Sp}
/-- the __init__ of an exception class, as the top has made it -/
def XiDe (K : PySem.W.Frag) (C : Addr) (qual : Str) (st : Stmt) (ps : List Str) : Prop := ∃ f fd, FunG K "__init__" qual st f fd ∧ excFI K C bmV "ValueError.__new__" = some f ∧ PySem.W.typeIn K (.ref f) = some (.type "function") ∧ Binds K fd ps []
end
end L2
namespace L2
open PySem PySem.Spec PyProof.Rows

/-! ### lists of pairs as tables -/
section
variable {κ : Type} [DecidableEq κ]
def valV (kvs : List (κ × V)) (k : κ) : Option V := (kvs.find? fun kv => decide (kv.1 = k)).map (·.2)
/-- in its place, or at the end -/
def putK (kvs : List (κ × V)) (k : κ) (v : V) : List (κ × V) :=
  if (kvs.any fun kv => decide (kv.1 = k)) = true then kvs.map (fun kv => if kv.1 = k then (kv.1, v) else kv) else kvs ++ [(k, v)]
def dropK (kvs : List (κ × V)) (k : κ) : List (κ × V) := kvs.filter fun kv => decide (kv.1 ≠ k)

theorem valV_pos {p : κ × V} {r : List (κ × V)} {k : κ} (e : p.1 = k) : valV (p :: r) k = some p.2 := by simp [valV, List.find?_cons, e]
theorem valV_neg {p : κ × V} {r : List (κ × V)} {k : κ} (e : ¬ p.1 = k) : valV (p :: r) k = valV r k := by simp [valV, List.find?_cons, e]
theorem length_putK (kvs : List (κ × V)) (k : κ) (v : V) : (putK kvs k v).length ≤ kvs.length + 1 := by
  unfold putK
  split
  · rw [List.length_map]; omega
  · rw [List.length_append, List.length_cons, List.length_nil]; omega


end


/-! ### a tracked dict, its keys ints and texts or tuples of these -/
theorem kV_is {P : Program} {w : World} {k : Key} {u : Value} (r : RelV (kV k) u) : (mixKind P w).is k u = true := by
  cases k with
  | inl i => obtain ⟨t, e⟩ := (show ∃ t, u = Value.int i t from r); subst e; exact mixKind_int P w i t
  | inr x => obtain ⟨t, e⟩ := (show ∃ t, u = Value.str x t from r); subst e; exact mixKind_str P w x t
theorem kV_inj {a b : Key} (e : kV a = kV b) : a = b := by
  cases a with
  | inl i => cases b with
    | inl j => have e' : V.int i = V.int j := e; injection e' with e'; rw [e']
    | inr y => exact nomatch (show V.int i = V.str y from e)
  | inr x => cases b with
    | inl j => exact nomatch (show V.str x = V.int j from e)
    | inr y => have e' : V.str x = V.str y := e; injection e' with e'; rw [e']

/-- raw entries of a dict with tuple keys -/
abbrev KT (H : Hp) : List (List Key × V) → List (List Key × Addr × Value) → Prop := Paired fun p q => p.1 = q.1 ∧ H q.2.1 = some (.tup (p.1.map kV)) ∧ RelV p.2 q.2.2

section
variable {P : Program} {w : World} {H : Hp} {h : Heap} {a : Addr}
end

/-- what the dict at a holds at the key y -/
def DGet (H : Hp) (a : Addr) (y : V) (r : Option V) : Prop :=
  (∃ kvs k, Rd H a (.dK kvs) ∧ y = kV k ∧ r = valV kvs k) ∨ ∃ kvs k b, Rd H a (.dT kvs) ∧ y = .ref b ∧ H b = some (.tup (k.map kV)) ∧ r = valV kvs k
/-- the heap behind a[y] = v -/
def DPut (H : Hp) (a : Addr) (y v : V) (H' : Hp) : Prop :=
  (∃ kvs k, H a = some (.dK kvs) ∧ y = kV k ∧ kvs.length < sizeLine ∧ H' = upd H a (.dK (putK kvs k v))) ∨
  ∃ kvs k b, H a = some (.dT kvs) ∧ y = .ref b ∧ H b = some (.tup (k.map kV)) ∧ kvs.length < sizeLine ∧ H' = upd H a (.dT (putK kvs k v))


section
variable {X : Cx} {pins : List (Addr × Obj)} {σ : St} {H : Hp} {s : Shared} {a : Addr} {y v : V} {u r : Value} {o : Option V} {A : Around} {E : Value → Shared → Prop}


end

section
variable {X : Cx} {pins : List (Addr × Obj)} {σ : St} {H : Hp} {s : Shared} {a : Addr} {kvs : List (Key × V)} {k : Key} {u : Value} {A : Around} {E : Value → Shared → Prop}
end


/-! ### readings and rules -/
/-- the element of a subscription, not a slice -/
def NoSl (i : Expr) : Prop := ∀ ov iv, subscripted i false ov iv = operate [ov, iv] (getItem ov iv)


/-- d[y] -/
def tDGet (td ty : TE) : TE := fun σ H Q => td σ H fun x H1 => ty σ H1 fun y H2 => ∃ a v, x = .ref a ∧ DGet H2 a y (some v) ∧ Q v H2
/-- y in d, y not in d -/
def tDIn (ty td : TE) : TE := fun σ H Q => ty σ H fun y H1 => td σ H1 fun x H2 => ∃ a o, x = .ref a ∧ DGet H2 a y o ∧ Q (.bl o.isSome) H2
def tDNotIn (ty td : TE) : TE := fun σ H Q => ty σ H fun y H1 => td σ H1 fun x H2 => ∃ a o, x = .ref a ∧ DGet H2 a y o ∧ Q (.bl (!o.isSome)) H2
/-- d[y] = v -/
def sDPut (td ty tv : TE) : TS := fun D σ H => tv σ H fun v H1 => td σ H1 fun x H2 => ty σ H2 fun y H3 => ∃ a H4, x = .ref a ∧ DPut H3 a y v H4 ∧ D.nx σ H4
/-- d[y] op= v -/
def sDAug (td ty tv : TE) (rd : V → V → Hp → VK → Prop) : TS := fun D σ H => td σ H fun x H1 => ty σ H1 fun y H2 => ∃ a v, x = .ref a ∧ DGet H2 a y (some v) ∧
  tv σ H2 fun y2 H3 => rd v y2 H3 fun z H4 => ∃ H5, DPut H4 a y z H5 ∧ D.nx σ H5
/-- del d[y] -/
def sDDel (td ty : TE) : TS := fun D σ H => td σ H fun x H1 => ty σ H1 fun y H2 => ∃ a kvs k, x = .ref a ∧ H2 a = some (.dK kvs) ∧ y = kV k ∧ (valV kvs k).isSome = true ∧ D.nx σ (upd H2 a (.dK (dropK kvs k)))

section
variable {X : Cx} {o i e value : Expr} {pos pos' tpos : Pos} {td ty tv : TE}
end


/-! ### displays -/
/-- {}, to be a dict of the kind that is wanted -/
def tDNewK : TE := fun _ H Q => ∀ p, H p = none → Q (.ref p) (upd H p (.dK []))
def tDNewT : TE := fun _ H Q => ∀ p, H p = none → Q (.ref p) (upd H p (.dT []))
section
variable {X : Cx} {pos : Pos}
end

/-- the pairs of a display, from the left -/
def tPairs : List (TE × TE) → St → Hp → (List (V × V) → Hp → Prop) → Prop
  | [], _, H, Q => Q [] H
  | (tk, tv) :: r, σ, H, Q => tk σ H fun x H1 => tv σ H1 fun y H2 => tPairs r σ H2 fun ps H3 => Q ((x, y) :: ps) H3
abbrev VV : List (V × V) → List (Value × Value) → Prop := Paired fun p q => RelV p.1 q.1 ∧ RelV p.2 q.2
def PPs (X : Cx) (pos : Pos) (keys : List (Option Expr)) (values : List Expr) (trs : List (TE × TE)) : Prop :=
  ∀ (pins : List (Addr × Obj)) (s : Shared) (σ : St) (H : Hp) (Q : List (V × V) → Hp → Prop), Inv X pins σ H s → tPairs trs σ H Q →
    wpAny (model X.prog X.w) X.A (evalPairs (pairTrees keys values X.env pos)) (fun vs s' => ∃ ps H', Inv X pins σ H' s' ∧ VV ps vs ∧ Q ps H') X.xe s

def mergeK (kvs more : List (Key × V)) : List (Key × V) := more.foldl (fun acc kv => putK acc kv.1 kv.2) kvs
/-- {k: v, ..} with keys ints and texts; the new dict stands empty while the pairs are made -/
def tDisp (trs : List (TE × TE)) : TE := fun σ H Q => ∀ p, H p = none → tPairs trs σ (upd H p (.dK [])) fun ps H2 => H2 p = some (.dK []) ∧ ∃ kvs : List (Key × V), ps = kvs.map (fun kv => (kV kv.1, kv.2)) ∧ kvs.length ≤ 15 ∧ Q (.ref p) (upd H2 p (.dK (mergeK [] kvs)))


/-! ### methods -/
/-- a method call o.m(e) of a built-in, with one argument: what must be seen of the text -/
structure M1 (X : Cx) (o : Expr) (m : Str) (apos : Pos) (e : Expr) (cpos : Pos) : Prop where
  base : attributeBase o m X.env (eval o X.env) = eval o X.env
  few : ((backTo cpos (starEach [e] X.env)).all (fun x => !x.1) && (backToKw cpos (keywordEach [] X.env)).all (fun x => x.1.isSome)
    && decide (([e] : List Expr).length + ([] : List Keyword).length + (if ([] : List Keyword).isEmpty then 0 else 1) < 30)) = true
  line : (apos.endLine == cpos.line) = true
  trees : backTo cpos (starEach [e] X.env) = [(false, eval e X.env)]
structure M2 (X : Cx) (o : Expr) (m : Str) (apos : Pos) (e f : Expr) (cpos : Pos) : Prop where
  base : attributeBase o m X.env (eval o X.env) = eval o X.env
  few : ((backTo cpos (starEach [e, f] X.env)).all (fun x => !x.1) && (backToKw cpos (keywordEach [] X.env)).all (fun x => x.1.isSome)
    && decide (([e, f] : List Expr).length + ([] : List Keyword).length + (if ([] : List Keyword).isEmpty then 0 else 1) < 30)) = true
  line : (apos.endLine == cpos.line) = true
  trees : backTo cpos (starEach [e, f] X.env) = [(false, eval e X.env), (false, eval f X.env)]

/-- a is a dict, whatever its keys -/
def IsD (H : Hp) (a : Addr) : Prop := (∃ kvs, Rd H a (.dK kvs)) ∨ ∃ kvs, Rd H a (.dT kvs)

section
variable {X : Cx} {pins : List (Addr × Obj)} {σ : St} {H : Hp} {s : Shared} {a : Addr} {y d : V} {u r : Value} {o : Option V} {A : Around} {E : Value → Shared → Prop}
end

def tDGet1 (td ty : TE) : TE := fun σ H Q => td σ H fun x H1 => ∃ a, x = .ref a ∧ IsD H1 a ∧ ty σ H1 fun y H2 => ∃ o, DGet H2 a y o ∧ Q (o.getD .non) H2
def tDGet2 (td ty tx : TE) : TE := fun σ H Q => td σ H fun x H1 => ∃ a, x = .ref a ∧ IsD H1 a ∧ ty σ H1 fun y H2 => tx σ H2 fun z H3 => ∃ o, DGet H3 a y o ∧ Q (o.getD z) H3
/-- d.pop(k): there; d.pop(k, x): there or not -/
def tDPop1 (td ty : TE) : TE := fun σ H Q => td σ H fun x H1 => ∃ a, x = .ref a ∧ IsD H1 a ∧ ty σ H1 fun y H2 => ∃ kvs k v, H2 a = some (.dK kvs) ∧ y = kV k ∧ valV kvs k = some v ∧ Q v (upd H2 a (.dK (dropK kvs k)))
def tDPop2 (td ty tx : TE) : TE := fun σ H Q => td σ H fun x H1 => ∃ a, x = .ref a ∧ IsD H1 a ∧ ty σ H1 fun y H2 => tx σ H2 fun z H3 => ∃ kvs k, H3 a = some (.dK kvs) ∧ y = kV k ∧
  (∀ v, valV kvs k = some v → Q v (upd H3 a (.dK (dropK kvs k)))) ∧ (valV kvs k = none → Q z H3)
section
variable {X : Cx} {o e f : Expr} {apos cpos : Pos} {td ty tx : TE}
end

/-! ### dict(d): a copy -/
section
variable {X : Cx} {pins : List (Addr × Obj)} {σ : St} {H : Hp} {s : Shared} {a : Addr} {kvs : List (Key × V)} {A : Around} {E : Value → Shared → Prop}
end


section
variable {X : Cx} {pins : List (Addr × Obj)} {σ : St} {H : Hp} {s : Shared} {a : Addr} {y : V} {u : Value} {A : Around} {E : Value → Shared → Prop}
end
end L2
namespace L2
open PySem PySem.Spec PyProof.Rows
section
variable {X : Cx}
end
end L2
namespace L2
open PySem PySem.Spec PyProof.Rows
/-! ### a dict's pairs: keys that differ -/
section
variable {κ : Type} [DecidableEq κ]
theorem dropK_pos {p : κ × V} {r : List (κ × V)} {k : κ} (e : p.1 = k) : dropK (p :: r) k = dropK r k := by
  unfold dropK
  rw [List.filter_cons, if_neg (by simp [e])]
theorem dropK_neg {p : κ × V} {r : List (κ × V)} {k : κ} (e : ¬ p.1 = k) : dropK (p :: r) k = p :: dropK r k := by
  unfold dropK
  rw [List.filter_cons, if_pos (by simp [e])]
theorem dropK_no : ∀ {kvs : List (κ × V)} {k : κ}, ¬ k ∈ kvs.map (·.1) → dropK kvs k = kvs
  | [], _, _ => rfl
  | p :: r, k, h => by
    have h' : ¬ k ∈ r.map (·.1) := fun m => by
      obtain ⟨q, hq, e⟩ := List.mem_map.mp m
      exact h (List.mem_map.mpr ⟨q, List.mem_cons.mpr (Or.inr hq), e⟩)
    rw [dropK_neg fun e => h (List.mem_map.mpr ⟨p, List.mem_cons.mpr (Or.inl rfl), e⟩), dropK_no h']
theorem dropK_mem {kvs : List (κ × V)} {k : κ} {p : κ × V} (h : p ∈ dropK kvs k) : p ∈ kvs := (List.mem_filter.mp h).1
end
end L2

/-! ### a list comprehension with any target, a test, any number of cells -/
namespace L2
open PySem PySem.Spec PyProof.Rows
section
variable {X : Cx}
/-- the tests of a clause -/
def PTs (X : Cx) (ifs : List Expr) (t : TT) : Prop :=
  ∀ (pins : List (Addr × Obj)) (s : Shared) (σ : St) (H : Hp) (Q : Bool → Hp → Prop), Inv X pins σ H s → t σ H Q →
    wpAny (model X.prog X.w) X.A (forIn ifs true fun c r => if r = true then do let ok ← isTrue c X.env (eval c X.env); pure (ForInStep.yield ok) else pure (ForInStep.yield r)) (TP X pins σ Q) X.xe s
def tYes : TT := fun _ H Q => Q true H
theorem pts_nil : PTs X [] tYes := fun pins s σ H Q I h => wpAny_tests_nil ⟨H, I, h⟩
/-- the cells that a block sees, by a row of names -/
def ClSub (X : Cx) : List (Str × Addr) → Prop
  | [] => True
  | p :: r => X.env.cells.lookup p.1 = some p.2 ∧ ClSub X r
theorem ClSub.at : ∀ {cl : List (Str × Addr)}, ClSub X cl → ∀ y c, cl.lookup y = some c → X.env.cells.lookup y = some c
  | [], _, y, c, e => by simp at e
  | (z, d) :: r, h, y, c, e => by
    by_cases q : y = z
    · subst q
      simp at e
      subst e
      exact h.1
    · rw [List.lookup_cons, beq_eq_false_iff_ne.mpr q] at e
      exact ClSub.at h.2 y c e
theorem lookup_has {cl : List (Str × Addr)} {y : Str} : y ∈ cl.map (·.1) → ∃ c, cl.lookup y = some c := by
  induction cl with
  | nil => intro h; simp at h
  | cons p r ih =>
    intro h
    by_cases q : y = p.1
    · subst q
      exact ⟨p.2, by cases p; simp⟩
    · obtain ⟨c, e⟩ := ih (by
        rcases List.mem_cons.mp h with z | z
        · exact absurd z q
        · exact z)
      exact ⟨c, by rw [List.lookup_cons, beq_eq_false_iff_ne.mpr q]; exact e⟩
theorem relabel_names {scope : Scope} {env : Env} {z : Str} {k : NameKind} (h : (z, k) ∈ (relabel scope env).names) (hk : k = .cell ∨ k = .free) : (z, NameKind.cell) ∈ scope.names ∨ (z, NameKind.free) ∈ scope.names := by
  unfold relabel at h
  obtain ⟨⟨n, k'⟩, hm, e⟩ := List.mem_map.mp h
  dsimp only at e
  split at e
  · rename_i c
    cases e
    have : k' = .free := by
      have := (Bool.and_eq_true_iff.mp (Bool.and_eq_true_iff.mp c).1).1
      simpa using this
    subst this
    exact .inr hm
  · cases e
    rcases hk with rfl | rfl
    · exact .inl hm
    · exact .inr hm
theorem Clos.many {scope : Scope} {cl : List (Str × Addr)} {ys : List Str} (h : closureFor scope X.env = pure cl) (hs : ClSub X cl) (hy : cl.map (·.1) = ys)
    (hr : ∀ p ∈ scope.names, (p.2 = .cell ∨ p.2 = .free) → p.1 ∈ ys) : Clos X scope cl := by
  refine ⟨h, fun y c e => hs.at y c e, fun y hz => lookup_has ?_⟩
  rw [hy]
  rcases hz with q | q
  · rcases relabel_names (PySem.mem_of_lookup q) (.inl rfl) with m | m
    · exact hr _ m (.inl rfl)
    · exact hr _ m (.inr rfl)
  · rcases relabel_names (PySem.mem_of_lookup q) (.inr rfl) with m | m
    · exact hr _ m (.inl rfl)
    · exact hr _ m (.inr rfl)
/-- the frame's slots that a block reads -/
def RdAll (X : Cx) (scope : Scope) : List Str → List Nat → Prop
  | [], [] => True
  | y :: ys, j :: js => (X.N[j]? = some y ∧ X.env.scope.names.lookup y = some .cell ∧ (relabel scope X.env).names.lookup y = some .cell) ∧ RdAll X scope ys js
  | _, _ => False
theorem RdAll.len {scope : Scope} : ∀ {ys : List Str} {js : List Nat}, RdAll X scope ys js → js.length = ys.length
  | [], [], _ => rfl
  | y :: ys, j :: js, h => by rw [List.length_cons, List.length_cons, RdAll.len h.2]
theorem RdAll.at {scope : Scope} : ∀ {ys : List Str} {js : List Nat}, RdAll X scope ys js → ∀ (i : Nat) (y : Str) (j : Nat), ys[i]? = some y → js[i]? = some j → X.N[j]? = some y ∧ X.env.scope.names.lookup y = some .cell ∧ (relabel scope X.env).names.lookup y = some .cell
  | [], [], _, i, y, j, e, _ => by simp at e
  | y' :: ys, j' :: js, h, 0, y, j, e1, e2 => by
    simp at e1 e2
    subst e1 e2
    exact h.1
  | y' :: ys, j' :: js, h, i + 1, y, j, e1, e2 => RdAll.at h.2 i y j (by simpa using e1) (by simpa using e2)
theorem Reads.many {scope : Scope} {ys : List Str} {js : List Nat} (h : RdAll X scope ys js) : Reads X scope ys (fun σ => js.map fun j => σ.getD j Option.none) := by
  refine fun σ => ⟨by rw [List.length_map, h.len], fun i y v e1 e2 => ?_⟩
  rw [List.getElem?_map] at e2
  cases q : js[i]? with
  | none => rw [q] at e2; cases e2
  | some j =>
    rw [q] at e2
    obtain ⟨h1, h2, h3⟩ := h.at i y j e1 q
    refine ⟨j, h1, ?_, h2, h3⟩
    have e3 : σ.getD j Option.none = some v := Option.some.inj e2
    rw [List.getD_eq_getElem?_getD] at e3
    cases z : σ[j]? with
    | none => rw [z] at e3; cases e3
    | some o => rw [z] at e3; exact congrArg some e3
/-- the reading: the target's names stand first -/
def tCompG (k : Nat) (wi : TI) (g : TG) (tc : TT) (te : TE) (sel : St → St) : TE := fun σ H Q => wi σ H fun J H1 => ∀ l, H1 l = none → ∃ W : Nat → Nat → Hp → Prop, (∃ m, W 0 m (upd H1 l (.lst []))) ∧ ∀ i m H, W i m H →
  (J.stop i H ∧ Q (.ref l) H) ∨ (J.go i H ∧ ∀ x H', J.yld i H x H' → ∀ zs : St, zs.length = k → g x (zs ++ sel σ) H' fun σ2 H2 => (∃ zs' : St, zs'.length = k ∧ σ2 = zs' ++ sel σ) ∧ tc σ2 H2 fun b H3 => if b = true then te σ2 H3 fun y H4 => ∃ ys, H4 l = some (.lst ys) ∧ ys.length < sizeLine ∧ ∃ m', m' < m ∧ W (i + 1) m' (upd H4 l (.lst (ys ++ [y]))) else ∃ m', m' < m ∧ W (i + 1) m' H3)
theorem codeAny_compLoop_ownG {prog : Program} {w : World} {A : Around} {R : Result → Shared → Prop} {s : Shared} {elt target iter : Expr} {ifs : List Expr} {scope : Scope} {pos : Pos} {it acc : Value} {env : Env} (I : Nat → Shared → Prop)
    (turn : ∀ n s, I n s → wpAny (model prog w) A (pyNext it) (fun r s₁ => match r with
      | none => R (.ok .next) s₁
      | some v => wpAny (model prog w) A (letOwnedTupleGo target it v) (fun _ s₁' => wpAny (model prog w) A (assign target env v) (fun _ s₂ =>
          wpAny (model prog w) A (forIn ifs true fun c r => if r = true then do let ok ← isTrue c env (eval c env); pure (ForInStep.yield ok) else pure (ForInStep.yield r)) (fun ok s₃ => if ok = true then wpAny (model prog w) A (eval elt env) (fun x s₄ =>
            wpAny (model prog w) A (call (.builtin "list.append") [acc, x]) (fun _ s₅ => ∃ m, m < n ∧ I m s₅) (fun _ _ => False) s₄) (fun _ _ => False) s₃ else ∃ m, m < n ∧ I m s₃) (fun _ _ => False) s₂) (fun _ _ => False) s₁') (fun _ _ => False) s₁) (fun _ _ => False) s)
    (n : Nat) (h : I n s) :
    codeAny (model prog w) A (.compLoop (.ListComp elt [⟨target, iter, ifs, 0⟩] scope pos) 0 it acc env) R s := by
  refine codeAny_loop rfl I (fun n s hI => ?_) n h
  show wpAny _ _ ((compTurn (.ListComp elt [⟨target, iter, ifs, 0⟩] scope pos) 0 it acc env).onRaise (fun x => do noteFrame x env; theTreesLotGoes x)) _ _ s
  refine wpAny_noted ?_
  rw [compTurn_list]
  refine wpAny_bind (wpAny_standAt (wpAny_bind (wpAny_mono (turn n s hI) (fun r s₁ h₁ => ?_) fun _ _ h' => h'.elim)))
  cases r with
  | none => exact wpAny_pure h₁
  | some v =>
    refine wpAny_bind (wpAny_mono h₁ (fun _ s₁' h₁' => ?_) fun _ _ h' => h'.elim)
    refine wpAny_bind (wpAny_mono h₁' (fun _ s₂ h₂ => wpAny_bind (wpAny_mono h₂ (fun ok s₃ h₃ => ?_) fun _ _ h' => h'.elim)) fun _ _ h' => h'.elim)
    cases ok with
    | false => exact wpAny_pure ⟨rfl, h₃⟩
    | true => exact wpAny_bind (wpAny_bind (wpAny_mono h₃ (fun x s₄ h₄ => wpAny_bind (wpAny_mono h₄ (fun _ s₅ h₅ => wpAny_pure (wpAny_pure ⟨rfl, h₅⟩)) fun _ _ h' => h'.elim)) fun _ _ h' => h'.elim))
/-- the block: what is laid, walked and handed on -/
theorem comp_blockG {elt iter tg : Expr} {ifs : List Expr} {xs : List Str} {pos : Pos} {scope : Scope} {cl : List (Str × Addr)} {rest : List Str} {sel : St → St} {g : TG} {tc : TT} {te : TE} {pins : List (Addr × Obj)} {σ : St} {H : Hp} {s : Shared} {Q : VK}
    {it : Addr} {fp : List Addr} {tn : Nat → Heap → Prop} {J : It} {RR : Value → Addr → Result → Shared → Prop} {E : Value → Shared → Prop}
    (hcalm : X.calm = true) (hkind : scope.kind = .function) (hcell : ∀ z ∈ scope.names, z.2 ≠ .cell) (hc : Clos X scope cl) (hr : Reads X scope rest sel)
    (hg : ∀ (C : Addr) (s : Shared) (H : Hp), PG (cxComp X pins (xs ++ rest) scope cl C fp s H) tg g) (ht : ∀ (C : Addr) (s : Shared) (H : Hp), PTs (cxComp X pins (xs ++ rest) scope cl C fp s H) ifs tc)
    (he : ∀ (C : Addr) (s : Shared) (H : Hp), PE (cxComp X pins (xs ++ rest) scope cl C fp s H) elt te)
    (I : Inv X pins σ H s) (T : Turn X.prog X.w X.K tg J fp it tn) (t0 : tn 0 s.heap) (hf : ∀ b ∈ fp, FpOk X pins H b)
    (h : ∀ l, H l = none → ∃ W : Nat → Nat → Hp → Prop, (∃ m, W 0 m (upd H l (.lst []))) ∧ ∀ i m H, W i m H →
      (J.stop i H ∧ Q (.ref l) H) ∨ (J.go i H ∧ ∀ x H', J.yld i H x H' → ∀ zs : St, zs.length = xs.length → g x (zs ++ sel σ) H' fun σ2 H2 => (∃ zs' : St, zs'.length = xs.length ∧ σ2 = zs' ++ sel σ) ∧ tc σ2 H2 fun b H3 => if b = true then te σ2 H3 fun y H4 => ∃ ys, H4 l = some (.lst ys) ∧ ys.length < sizeLine ∧ ∃ m', m' < m ∧ W (i + 1) m' (upd H4 l (.lst (ys ++ [y]))) else ∃ m', m' < m ∧ W (i + 1) m' H3))
    (hRR : ∀ (D C : Addr) (H' : Hp) (s' : Shared), Inv X pins σ H' s' → FpOk X pins H' C → (∃ m, s'.heap.Ns C m) → Q (.ref D) H' → RR (.ref D) C (.ok .next) s') :
    wpAny (model X.prog X.w) X.A (newList []) (fun acc s₃ => wpAny (model X.prog X.w) X.A (newFunctionEnv scope X.env.globals cl [] X.env.qual none .none (some X.env)) (fun cenv s₄ =>
      codeAny (model X.prog X.w) X.A (.compStart (.ListComp elt [⟨tg, iter, ifs, 0⟩] scope pos) 0 (.ref it) acc { cenv with scope := relabel scope X.env }) (RR acc cenv.locals) s₄) E s₃) E s := by
  have hD : H s.heap.objs.size = none := I.hok.fresh (Nat.le_refl _)
  obtain ⟨W, ⟨m0, w0⟩, turn⟩ := h _ hD
  refine wpAny_newObj_type ?_
  have I3 : Inv X pins σ (upd H s.heap.objs.size (.lst [])) { s with heap := s.heap.push { cls := .type "list", dict := none, data := .seq ([] : List Value).toArray } } :=
    I.laid (t' := s.toks) (fun b u e => Heap.get?_push_of_some _ e) (Nat.le_refl _) ⟨Nat.zero_le _, [], 0, .nil, Heap.get?_push_size _ rfl⟩
  generalize hs3 : ({ s with heap := s.heap.push { cls := .type "list", dict := none, data := .seq ([] : List Value).toArray } } : Shared) = s3 at I3 ⊢
  have old3 : ∀ b o, s.heap.get? b = some o → s3.heap.get? b = some o := fun b o e => by rw [← hs3]; exact Heap.get?_push_of_some _ e
  refine wpAny_newFunctionEnv hcell (by intro y hy; simp at hy) (fun h1 hns1 hsb1 => ?_) hkind
  have old4 : ∀ b o, s3.heap.get? b = some o → h1.get? b = some o := fun b o e => hsb1.extBut b o (Nat.ne_of_lt (Heap.lt_size e)) (Heap.get?_push_of_some _ e)
  have fD : ∀ b ∈ fp, b ≠ s.heap.objs.size := fun b hb z => by
    obtain ⟨o, e, _⟩ := T.obj 0 _ t0 b hb
    exact absurd (Heap.lt_size e) (by rw [z]; exact Nat.lt_irrefl _)
  have hf3 : ∀ b ∈ fp, FpOk X pins (upd H s.heap.objs.size (.lst [])) b := fun b hb => ⟨by rw [upd_ne (fD b hb)]; exact (hf b hb).1, (hf b hb).2⟩
  have fC : ∀ b ∈ fp, b ≠ s3.heap.objs.size := fun b hb z => by
    obtain ⟨o, e, _⟩ := T.obj 0 _ t0 b hb
    exact absurd (Heap.lt_size (old3 b o e)) (by rw [z]; exact Nat.lt_irrefl _)
  have cC : ∀ y c, cl.lookup y = some c → c ≠ s3.heap.objs.size := fun y c e z => by
    obtain ⟨v, q⟩ := I3.cell y c (hc.sub y c e)
    exact absurd q.lt (by rw [z]; exact Nat.lt_irrefl _)
  have fstk : ∀ b ∈ fp, b ∉ frs X.stack := fun b hb z => (List.mem_cons.mp (I3.stkSub b z)).elim (hf b hb).2.1 (hf b hb).2.2.1
  -- the block's context holds
  have ok : (cxComp X pins (xs ++ rest) scope cl s3.heap.objs.size fp s3 (upd H s.heap.objs.size (.lst []))).Ok := by
    refine ⟨I.ok.mod, hkind, I.ok.glob, I.ok.blt, Nat.le_refl _, fun y z c e1 e2 => I.ok.inj y z c (hc.sub y c e1) (hc.sub z c e2), fun y hy => hc.has y hy, fun y c e => (nomatch e), I.ok.hd, I.ok.frames, .inl rfl, fun b hb => ⟨fC b hb, fun y c e => (hf b hb).2.2.2.2.1 y c (hc.sub y c e)⟩,
      I3.bs, Nat.le_trans I.ok.bsz I3.sz, fun b o e hb => ?_, fstk, I3.stack, I3.stkFree⟩
    rcases (hf b hb).2.2.2.1 with z | z
    · exact I.ok.noex b o e z
    · exact absurd (Nat.lt_of_lt_of_le (Heap.lt_size e) I.ok.bsz) (Nat.not_lt.mpr z)
  have I4 : Inv (cxComp X pins (xs ++ rest) scope cl s3.heap.objs.size fp s3 (upd H s.heap.objs.size (.lst []))) [] (xs.map (fun _ => none) ++ sel σ) (upd H s.heap.objs.size (.lst [])) { s3 with heap := h1, toks := s3.toks + ([] : List (Str × Value)).length } := by
    refine ⟨ok, rfl, I3.bare, Un.kept old4, ⟨_, hns1, fun i y v e1 e2 e3 => ?_⟩, fun y c e => ?_, I3.hok.fresh (Nat.le_refl _), fun y c e => I3.freeC y c (hc.sub y c e), fun p hp => ?_, I3.hok.kept old4, ?_⟩
    · have hge : xs.length ≤ i := by
        apply Classical.byContradiction
        intro hlt
        rw [List.getElem?_append_left (by rw [List.length_map]; omega), List.getElem?_map] at e2
        cases q : xs[i]? with
        | none => rw [q] at e2; cases e2
        | some z => rw [q] at e2; cases e2
      have e1' : rest[i - xs.length]? = some y := by
        have e1 : (xs ++ rest)[i]? = some y := e1
        rw [List.getElem?_append_right hge] at e1
        exact e1
      have e2' : (sel σ)[i - xs.length]? = some (some v) := by
        rw [List.getElem?_append_right (by rw [List.length_map]; exact hge), List.length_map] at e2
        exact e2
      obtain ⟨j, q1, q2, q3, q4⟩ := (hr σ).2 _ y v e1' e2'
      obtain ⟨m, hn, hl⟩ := I3.loc
      obtain ⟨u, r, l⟩ := hl j y v q1 q2 (.inr (.inl q3))
      refine ⟨u, r, .inr ⟨.inl q4, ?_⟩⟩
      obtain ⟨c, ec⟩ := hc.has y (.inl q4)
      refine ⟨c, ec, ?_⟩
      rcases l with ⟨k, _⟩ | ⟨_, c', e', z⟩
      · have k' : X.env.scope.names.lookup y = some .local := k
        rw [q3] at k'; cases k'
      · rw [hc.sub y c ec] at e'
        cases e'
        obtain ⟨o, ho, hd⟩ := z
        exact ⟨o, old4 c o ho, hd⟩
    · obtain ⟨v, o, ho, hd⟩ := I3.cell y c (hc.sub y c e)
      exact ⟨v, o, old4 c o ho, hd⟩
    · have hp' : p ∈ X.pn ++ pins := by simpa [cxComp] using hp
      obtain ⟨e, n, ne, nf, d⟩ := I3.pin p hp'
      exact ⟨old4 _ _ e, n, Nat.ne_of_lt (Heap.lt_size e), fun z => (List.mem_cons.mp (I3.stkSub _ z)).elim ne nf, d⟩
    · show (xs.map (fun _ => none) ++ sel σ).length = (xs ++ rest).length
      rw [List.length_append, List.length_append, List.length_map, (hr σ).1]
  -- the iterator, seen from the block
  have stat : ∀ {H' : Hp}, (∀ b ∈ fp, H' b = none) → ∀ b ∈ fp, FpOk (cxComp X pins (xs ++ rest) scope cl s3.heap.objs.size fp s3 (upd H s.heap.objs.size (.lst []))) [] H' b := fun hn b hb =>
    ⟨hn b hb, fC b hb, fstk b hb, .inl hb, fun y c e => (hf b hb).2.2.2.2.1 y c (hc.sub y c e), fun p hp => (hf b hb).2.2.2.2.2 p (by simpa [cxComp] using hp)⟩
  have t4 : tn 0 h1 := T.keep _ _ _ t0 fun b hb o e => old4 b o (old3 b o e)
  have loop : ∀ s4 : Shared, s4 = { s3 with heap := h1, toks := s3.toks + ([] : List (Str × Value)).length } →
      codeAny (model X.prog X.w) X.A (.compLoop (.ListComp elt [⟨tg, iter, ifs, 0⟩] scope pos) 0 (.ref it) (.ref s.heap.objs.size) (compEnvC scope cl s3.heap.objs.size X.env)) (RR (.ref s.heap.objs.size) s3.heap.objs.size) s4 := by
    rintro s4 rfl
    refine codeAny_compLoop_ownG (fun n s' => ∃ i zs H', zs.length = xs.length ∧ Inv (cxComp X pins (xs ++ rest) scope cl s3.heap.objs.size fp s3 (upd H s.heap.objs.size (.lst []))) [] (zs ++ sel σ) H' s' ∧ tn i s'.heap ∧ (∀ b ∈ fp, H' b = none) ∧ W i n H') ?_ m0
      ⟨0, _, _, List.length_map _, I4, t4, fun b hb => (hf3 b hb).1, w0⟩
    rintro n s5 ⟨i, zs, H5, hzs, I5, t5, f5, w5⟩
    rcases turn i n H5 w5 with ⟨stop, qn⟩ | ⟨go, step⟩
    · refine thn (T.done (cxComp X pins (xs ++ rest) scope cl s3.heap.objs.size fp s3 (upd H s.heap.objs.size (.lst []))) rfl rfl rfl hcalm i [] s5 _ H5 _ I5 (stat f5) t5 stop) fun r s6 ⟨er, I6⟩ => ?_
      subst er
      have J6 : Inv X pins σ H5 s6 := I3.call' (ch := fp) I6.os I6.base I6.hok I6.bare fun b hb => ⟨(hf b hb).2.2.2.1, (hf b hb).2.1, (hf b hb).2.2.2.2.1, (hf b hb).2.2.2.2.2⟩
      exact hRR _ _ H5 s6 J6 (I3.fpOk (Nat.le_refl _) I6.free) (let ⟨m, hn, _⟩ := I6.loc; ⟨m, hn⟩) qn
    · refine thn (T.item (cxComp X pins (xs ++ rest) scope cl s3.heap.objs.size fp s3 (upd H s.heap.objs.size (.lst []))) rfl rfl rfl hcalm i [] s5 _ H5 _ I5 (stat f5) t5 go) fun r s6 ⟨u, er, h6⟩ => ?_
      subst er
      refine thn h6 fun _ s7 ⟨y, H7, I7, r7, y7, t7, f7⟩ => ?_
      have I7' := I7.pinned (stat f7) (T.obj _ _ t7)
      refine thn (hg _ _ _ _ s7 _ H7 y u _ I7' r7 (step y H7 y7 zs hzs)) fun _ s8 ⟨σ8, H8, I8, ⟨zs', hz', e8⟩, q8⟩ => ?_
      subst e8
      refine thn (ht _ _ _ _ s8 _ H8 _ I8 q8) fun b s9 ⟨H9, I9, q9⟩ => ?_
      cases b with
      | false =>
        rw [if_neg Bool.false_ne_true] at q9 ⊢
        obtain ⟨m', hm, w9⟩ := q9
        refine ⟨m', hm, i + 1, zs', _, hz', I9.unpinned, T.keep _ _ _ t7 fun b hb o e => (I9.pin (b, o) (List.mem_append_right _ (List.mem_append_right _ (mem_pinsAt hb e)))).1, fun b hb => ?_, w9⟩
        obtain ⟨o, e, d⟩ := T.obj _ _ t7 b hb
        exact (I9.pin (b, o) (List.mem_append_right _ (List.mem_append_right _ (mem_pinsAt hb e)))).2.1
      | true =>
        rw [if_pos rfl] at q9 ⊢
        refine thn (he _ _ _ _ s9 _ H9 _ I9 q9) fun z s9 ⟨yv, H9, I9, r9, ys, hl, hz, m', hm, w9⟩ => ?_
        refine thn (mt_append (X := cxComp X pins (xs ++ rest) scope cl s3.heap.objs.size fp s3 (upd H s.heap.objs.size (.lst []))) _ s9 _ H9 (.ref s.heap.objs.size) [yv] (.ref s.heap.objs.size) [z]
          (fun v H' => H' = upd H9 s.heap.objs.size (.lst (ys ++ [yv]))) I9 rfl (.cons r9 .nil) ⟨_, ys, yv, rfl, rfl, hl, hz, rfl⟩) fun _ s10 ⟨v10, H10, I10, _, e10⟩ => ?_
        subst e10
        refine ⟨m', hm, i + 1, zs', _, hz', I10.unpinned, T.keep _ _ _ t7 fun b hb o e => (I10.pin (b, o) (List.mem_append_right _ (List.mem_append_right _ (mem_pinsAt hb e)))).1, fun b hb => ?_, w9⟩
        obtain ⟨o, e, d⟩ := T.obj _ _ t7 b hb
        exact (I10.pin (b, o) (List.mem_append_right _ (List.mem_append_right _ (mem_pinsAt hb e)))).2.1
  exact codeAny_compStart_list (loop _ rfl) (T.self _ 0 _ _ _ t4 (loop _ rfl))

theorem pe_compG {elt iter tg : Expr} {ifs : List Expr} {xs : List Str} {pos : Pos} {scope : Scope} {cl : List (Str × Addr)} {rest : List Str} {sel : St → St} {g : TG} {tc : TT} {te : TE} {wi : TI}
    (hcalm : X.calm = true) (hi : PI X tg iter wi) (hg : ∀ (pins : List (Addr × Obj)) (fp : List Addr) (C : Addr) (s : Shared) (H : Hp), PG (cxComp X pins (xs ++ rest) scope cl C fp s H) tg g) (ht : ∀ (pins : List (Addr × Obj)) (fp : List Addr) (C : Addr) (s : Shared) (H : Hp), PTs (cxComp X pins (xs ++ rest) scope cl C fp s H) ifs tc)
    (he : ∀ (pins : List (Addr × Obj)) (fp : List Addr) (C : Addr) (s : Shared) (H : Hp), PE (cxComp X pins (xs ++ rest) scope cl C fp s H) elt te)
    (hc : Clos X scope cl) (hr : Reads X scope rest sel) (hkind : scope.kind = .function := by rfl) (hcell : ∀ z ∈ scope.names, z.2 ≠ .cell := by decide +kernel) (hnames : ∀ z ∈ scope.names, z.2 = .local → scope.names.lookup z.1 = some .local := by decide +kernel)
    (hs : ∀ x, foldedSetIterable iter X.env x = pure x := by intro _; rfl) :
    PE X (.ListComp elt [⟨tg, iter, ifs, 0⟩] scope pos) (tCompG xs.length wi g tc te sel) := by
  intro pins s σ H Q I h
  rw [eval_ListComp]
  refine wpAny_comprehension_free (use := none) rfl hs hc.clos hkind hnames (thn (hi pins s σ H _ I h) fun v s1 h1 => thn h1 fun itv s2 h2 => ?_)
  obtain ⟨it, fp, tn, J, H2, rfl, I2, T, t2, f2, q2⟩ := h2
  refine comp_blockG (RR := fun acc C => compPost (model X.prog X.w) X.A X.xe none (EP X pins σ Q) acc C) hcalm hkind hcell hc hr (hg pins fp) (ht pins fp) (he pins fp) I2 T t2 f2 q2 fun D C H' s' I' fC ⟨m, hn⟩ q => ?_
  exact ⟨m, hn, fun h' sb => ⟨.ref D, H', I'.turned (t' := s'.toks) (fun b o hb e => (sb.2 b hb).trans e) fC.1 fC.2.1 fC.2.2.2.1 fC.2.2.2.2.1 fC.2.2.2.2.2, rfl, q⟩⟩
/-- name = [elt for .. in iter ..] upon one row -/
theorem ps_compG {i : Nat} {y : Str} {py spos : Pos} {elt iter tg : Expr} {ifs : List Expr} {xs : List Str} {pos : Pos} {scope : Scope} {cl : List (Str × Addr)} {rest : List Str} {sel : St → St} {g : TG} {tc : TT} {te : TE} {wi : TI}
    (hNX : X.N.Nodup) (hi' : X.N[i]? = some y) (hy : X.env.scope.names.lookup y = some .local)
    (hcalm : X.calm = true) (hi : PI X tg iter wi) (hg : ∀ (pins : List (Addr × Obj)) (fp : List Addr) (C : Addr) (s : Shared) (H : Hp), PG (cxComp X pins (xs ++ rest) scope cl C fp s H) tg g) (ht : ∀ (pins : List (Addr × Obj)) (fp : List Addr) (C : Addr) (s : Shared) (H : Hp), PTs (cxComp X pins (xs ++ rest) scope cl C fp s H) ifs tc)
    (he : ∀ (pins : List (Addr × Obj)) (fp : List Addr) (C : Addr) (s : Shared) (H : Hp), PE (cxComp X pins (xs ++ rest) scope cl C fp s H) elt te)
    (hc : Clos X scope cl) (hr : Reads X scope rest sel) (hkind : scope.kind = .function := by rfl) (hcell : ∀ z ∈ scope.names, z.2 ≠ .cell := by decide +kernel) (hnames : ∀ z ∈ scope.names, z.2 = .local → scope.names.lookup z.1 = some .local := by decide +kernel)
    (hs : ∀ x, foldedSetIterable iter X.env x = pure x := by intro _; rfl)
    (hsw : swapsWith (.ListComp elt [⟨tg, iter, ifs, 0⟩] scope pos) (some (.Name y py)) spos.line X.env = pure true := by rfl) :
    PS X (.Assign [.Name y py] (.ListComp elt [⟨tg, iter, ifs, 0⟩] scope pos) spos) (tAsg (tCompG xs.length wi g tc te sel) (gName i)) := by
  intro pins s σ H D I h
  rw [exec_Assign_Name_used _ _ _ _ hsw]
  refine wpAny_bind (wpAny_standAt (wpAny_bind ?_))
  show wpAny _ X.A (do let _ ← comprehension (.ListComp elt [⟨tg, iter, ifs, 0⟩] scope pos) scope X.env _ (newList []) false (eval iter X.env) (some (assign (.Name y py) X.env))) _ _ s
  refine wpAny_bind (wpAny_mono (wpAny_comprehension_free (use := some (assign (.Name y py) X.env)) (Q := fun _ s' => SP X pins D .next s') rfl hs hc.clos hkind hnames
    (thn (hi pins s σ H _ I h) fun v s1 h1 => thn h1 fun itv s2 h2 => ?_)) (fun _ s' hq => wpAny_pure (wpAny_pure hq)) fun _ _ e => e)
  obtain ⟨it, fp, tn, J, H2, rfl, I2, T, t2, f2, q2⟩ := h2
  refine comp_blockG (Q := fun x H1 => gName i x σ H1 D.nx) (RR := fun acc C => compPost (model X.prog X.w) X.A X.xe (some (assign (.Name y py) X.env)) (fun _ s' => SP X pins D .next s') acc C) hcalm hkind hcell hc hr (hg pins fp) (ht pins fp) (he pins fp) I2 T t2 f2 q2 fun L C H' s' I' fC ⟨m, hn⟩ q => ?_
  show wpAny _ X.A (assign (.Name y py) X.env (.ref L)) _ _ _
  refine wpAny_assign_Name (store_ok2 I' hNX hi' (.inl hy) (v := .ref L) rfl (fun s2 I2' ⟨a, sb, ha⟩ => ?_) (.inr hy))
  have hCa : C ≠ a := fun z => by
    rcases ha with z' | z'
    · exact fC.2.1 (z.trans z')
    · exact fC.2.2.2.2.1 y a z' z.symm
  exact ⟨m, hn.sameBut sb hCa, fun h' sb' => ⟨_, H', I2'.turned (t' := s2.toks) (fun b o hb e => (sb'.2 b hb).trans e) fC.1 fC.2.1 fC.2.2.2.1 fC.2.2.2.2.1 fC.2.2.2.2.2, q⟩⟩
end
end L2
/-! ### a dict walked by its keys: frozen while it is walked -/
namespace L2
open PySem PySem.Spec PyProof.Rows
section
variable {X : Cx} {pins : List (Addr × Obj)} {σ : St} {H : Hp} {s : Shared} {a : Addr} {o : Obj} {u : HO}
/-- behind e the dict at a is free again -/
def tThaw (t : TE) : TE := fun σ H Q => ∃ a u, H a = some u ∧ (∀ o' u', u ≠ .frz o' u') ∧ t σ H fun v H' => ∃ o, H' a = some (.frz o u) ∧ Q v (upd H' a u)
def tThawS (t : TS) : TS := fun D σ H => ∃ a u, H a = some u ∧ (∀ o' u', u ≠ .frz o' u') ∧ t { D with nx := fun σ' H' => ∃ o, H' a = some (.frz o u) ∧ D.nx σ' (upd H' a u), rt := fun v H' => ∃ o, H' a = some (.frz o u) ∧ D.rt v (upd H' a u), ct := fun σ' H' => ∃ o, H' a = some (.frz o u) ∧ D.ct σ' (upd H' a u), bk := fun σ' H' => ∃ o, H' a = some (.frz o u) ∧ D.bk σ' (upd H' a u) } σ H
/-- the keys of a frozen dict -/
def Itd (a : Addr) (o : Obj) (kvs : List (Key × V)) : It :=
  ⟨fun i H => H a = some (.frz o (.dK kvs)) ∧ i < kvs.length, fun i H x H' => H' = H ∧ ∃ kv, kvs[i]? = some kv ∧ x = kV kv.1, fun i H => H a = some (.frz o (.dK kvs)) ∧ kvs.length ≤ i⟩
def iDic (tl : TE) : TI := fun σ H R => tl σ H fun x H1 => ∃ a kvs, x = .ref a ∧ H1 a = some (.dK kvs) ∧ ∀ o, R (Itd a o kvs) (upd H1 a (.frz o (.dK kvs)))
end
/-! the forms one uses: Pv speaks of the heap with the dict frozen -/
end L2
/-! ### the forms one uses, for a comprehension -/
namespace L2
open PySem PySem.Spec PyProof.Rows
def NextP (n : Nat) (Pv : Nat → Hp → Prop) (i : Nat) (H : Hp) : Prop := ∃ m', m' < n - i ∧ m' = n - (i + 1) ∧ i + 1 ≤ n ∧ Pv (i + 1) H
theorem nextP {n i : Nat} {Pv : Nat → Hp → Prop} {H : Hp} (hi : i < n) (h : Pv (i + 1) H) : NextP n Pv i H := ⟨n - (i + 1), by omega, rfl, hi, h⟩
section
variable {l : Addr} {k : Nat} {g : TG} {tc : TT} {te : TE} {ρ : St} {R : Hp → Prop} {H₀ : Hp}
theorem compG_by {J : It} {n : Nat} (Pv : Nat → Hp → Prop) (h0 : Pv 0 (upd H₀ l (.lst []))) (hgo : ∀ i H, i < n → Pv i H → J.go i H) (hst : ∀ H, Pv n H → J.stop n H)
    (hs : ∀ i x H H', i < n → J.yld i H x H' → Pv i H → ∀ zs : St, zs.length = k → g x (zs ++ ρ) H' fun σ2 H2 => (∃ zs' : St, zs'.length = k ∧ σ2 = zs' ++ ρ) ∧ tc σ2 H2 fun b H3 => if b = true then te σ2 H3 fun y H4 => ∃ ys, H4 l = some (.lst ys) ∧ ys.length < sizeLine ∧ NextP n Pv i (upd H4 l (.lst (ys ++ [y]))) else NextP n Pv i H3)
    (hd : ∀ H, Pv n H → R H) :
    ∃ W : Nat → Nat → Hp → Prop, (∃ m, W 0 m (upd H₀ l (.lst []))) ∧ ∀ i m H, W i m H →
      (J.stop i H ∧ R H) ∨ (J.go i H ∧ ∀ x H', J.yld i H x H' → ∀ zs : St, zs.length = k → g x (zs ++ ρ) H' fun σ2 H2 => (∃ zs' : St, zs'.length = k ∧ σ2 = zs' ++ ρ) ∧ tc σ2 H2 fun b H3 => if b = true then te σ2 H3 fun y H4 => ∃ ys, H4 l = some (.lst ys) ∧ ys.length < sizeLine ∧ ∃ m', m' < m ∧ W (i + 1) m' (upd H4 l (.lst (ys ++ [y]))) else ∃ m', m' < m ∧ W (i + 1) m' H3) := by
  refine ⟨fun i m H => m = n - i ∧ i ≤ n ∧ Pv i H, ⟨n, by simp, Nat.zero_le _, h0⟩, ?_⟩
  rintro i m H ⟨rfl, hi, p⟩
  by_cases hlt : i < n
  · exact .inr ⟨hgo i H hlt p, fun x H' y => hs i x H H' hlt y p⟩
  · have e : i = n := by omega
    subst e
    exact .inl ⟨hst H p, hd H p⟩
theorem compG_list {K : PySem.W.Frag} {a : Addr} {xs : List V} (Pv : Nat → Hp → Prop) (h0 : Pv 0 (upd H₀ l (.lst []))) (hl : ∀ i H, Pv i H → SqL K H a xs)
    (hs : ∀ i x H, xs[i]? = some x → Pv i H → ∀ zs : St, zs.length = k → g x (zs ++ ρ) H fun σ2 H2 => (∃ zs' : St, zs'.length = k ∧ σ2 = zs' ++ ρ) ∧ tc σ2 H2 fun b H3 => if b = true then te σ2 H3 fun y H4 => ∃ ys, H4 l = some (.lst ys) ∧ ys.length < sizeLine ∧ NextP xs.length Pv i (upd H4 l (.lst (ys ++ [y]))) else NextP xs.length Pv i H3)
    (hd : ∀ H, Pv xs.length H → R H) :
    ∃ W : Nat → Nat → Hp → Prop, (∃ m, W 0 m (upd H₀ l (.lst []))) ∧ ∀ i m H, W i m H →
      ((Itl K a).stop i H ∧ R H) ∨ ((Itl K a).go i H ∧ ∀ x H', (Itl K a).yld i H x H' → ∀ zs : St, zs.length = k → g x (zs ++ ρ) H' fun σ2 H2 => (∃ zs' : St, zs'.length = k ∧ σ2 = zs' ++ ρ) ∧ tc σ2 H2 fun b H3 => if b = true then te σ2 H3 fun y H4 => ∃ ys, H4 l = some (.lst ys) ∧ ys.length < sizeLine ∧ ∃ m', m' < m ∧ W (i + 1) m' (upd H4 l (.lst (ys ++ [y]))) else ∃ m', m' < m ∧ W (i + 1) m' H3) :=
  compG_by (n := xs.length) Pv h0 (fun i H hi p => ⟨xs, xs[i], hl i H p, List.getElem?_eq_getElem hi⟩) (fun H p => ⟨xs, hl _ H p, Nat.le_refl _⟩) (fun i x H H' hi y p => by
    obtain ⟨e, y⟩ := y
    subst e
    exact hs i x _ (y xs (hl i _ p)) p) hd
theorem compG_range {lo : Int} {n : Nat} (Pv : Nat → Hp → Prop) (h0 : Pv 0 (upd H₀ l (.lst [])))
    (hs : ∀ i H, i < n → Pv i H → ∀ zs : St, zs.length = k → g (.int (lo + i)) (zs ++ ρ) H fun σ2 H2 => (∃ zs' : St, zs'.length = k ∧ σ2 = zs' ++ ρ) ∧ tc σ2 H2 fun b H3 => if b = true then te σ2 H3 fun y H4 => ∃ ys, H4 l = some (.lst ys) ∧ ys.length < sizeLine ∧ NextP n Pv i (upd H4 l (.lst (ys ++ [y]))) else NextP n Pv i H3)
    (hd : ∀ H, Pv n H → R H) :
    ∃ W : Nat → Nat → Hp → Prop, (∃ m, W 0 m (upd H₀ l (.lst []))) ∧ ∀ i m H, W i m H →
      ((Itr lo n).stop i H ∧ R H) ∨ ((Itr lo n).go i H ∧ ∀ x H', (Itr lo n).yld i H x H' → ∀ zs : St, zs.length = k → g x (zs ++ ρ) H' fun σ2 H2 => (∃ zs' : St, zs'.length = k ∧ σ2 = zs' ++ ρ) ∧ tc σ2 H2 fun b H3 => if b = true then te σ2 H3 fun y H4 => ∃ ys, H4 l = some (.lst ys) ∧ ys.length < sizeLine ∧ ∃ m', m' < m ∧ W (i + 1) m' (upd H4 l (.lst (ys ++ [y]))) else ∃ m', m' < m ∧ W (i + 1) m' H3) :=
  compG_by (n := n) Pv h0 (fun i H hi p => hi) (fun H p => Nat.le_refl _) (fun i x H H' hi y p => by
    obtain ⟨e, y⟩ := y
    subst e y
    exact hs i _ hi p) hd
end
/-- a target that is one name -/
theorem g1 {v : V} {ρ : St} {H : Hp} {Q : St → Hp → Prop} (h : Q (some v :: ρ) H) : ∀ zs : St, zs.length = 1 → gName 0 v (zs ++ ρ) H Q := fun zs hz => by
  match zs, hz with
  | [z], _ => exact h
theorem yes {σ : St} {H : Hp} {A B : Hp → Prop} (h : A H) : tYes σ H (fun b H3 => if b = true then A H3 else B H3) := by
  show if true = true then A H else B H
  rw [if_pos rfl]
  exact h
end L2
/-! ### for k, v in d.items() -/
namespace L2
open PySem PySem.Spec PyProof.Rows
section
variable {X : Cx}
def Iti (a : Addr) (o : Obj) (kvs : List (Key × V)) : It :=
  ⟨fun i H => H a = some (.frz o (.dK kvs)) ∧ i < kvs.length, fun i H x H' => ∃ kv t, kvs[i]? = some kv ∧ H t = none ∧ x = .ref t ∧ H' = upd H t (.tup [kV kv.1, kv.2]), fun i H => H a = some (.frz o (.dK kvs)) ∧ kvs.length ≤ i⟩
theorem Inv.trackI {pins : List (Addr × Obj)} {σ : St} {H : Hp} {s : Shared} {t : Addr} {o : HO} (I : Inv X pins σ H s) (h0 : X.s₀.heap.objs.size ≤ t) (hn : H t = none) (hL : t ≠ X.env.locals) (hc : ∀ x c, X.env.cells.lookup x = some c → c ≠ t) (hp : ∀ p ∈ X.pn ++ pins, p.1 ≠ t) (hok : HOk X.prog X.w (upd H t o) s.heap) : Inv X pins σ (upd H t o) s := by
  have up : ∀ c, c ≠ t → H c = none → upd H t o c = none := fun c n r => by rw [upd_ne n]; exact r
  refine ⟨I.ok, I.os, I.bare, ⟨I.base.keep, I.base.slot, fun b ob e n hx => up b (Nat.ne_of_lt (Nat.lt_of_lt_of_le (Heap.lt_size e) h0)) (I.base.free b ob e n hx), I.base.there, fun b xs e => ?_, fun b ob z e => ?_, fun b ps e => ?_⟩, I.loc, I.cell, up _ hL.symm I.free, fun x c e => up _ (hc x c e) (I.freeC x c e), fun p hp' => ?_, hok, I.len⟩
  · have q := I.base.tups b xs e
    rw [upd_ne (ne_of_none q hn)]
    exact q
  · have q := I.base.frzs b ob z e
    rw [upd_ne (ne_of_none q hn)]
    exact q
  · obtain ⟨m, q⟩ := I.base.tbls b ps e
    exact ⟨m, by rw [upd_ne (ne_of_none q hn)]; exact q⟩
  · obtain ⟨e, n, r⟩ := I.pin p hp'
    exact ⟨e, up _ (hp p hp') n, r⟩
def iItems (to : TE) : TI := fun σ H R => to σ H fun x H1 => ∃ a kvs, x = .ref a ∧ H1 a = some (.dK kvs) ∧ ∀ o, R (Iti a o kvs) (upd H1 a (.frz o (.dK kvs)))
end
end L2
/-! ### list(d), list(d.values()) -/
namespace L2
open PySem PySem.Spec PyProof.Rows
section
variable {X : Cx}
/-- the values of the dict at d, looked at from v -/
def ViewO (v d : Addr) : HO := .ext fun h => h.IsValuesView v d
def rValues : V → List V → Hp → VK → Prop := fun x vs H Q => ∃ a kvs, x = .ref a ∧ vs = [] ∧ Rd H a (.dK kvs) ∧ ∀ v, H v = none → Q (.ref v) (upd H v (ViewO v a))
end
end L2
/-! ### plans: dict(d), d.clear(), comprehensions over d.items() -/
namespace L2
open PySem PySem.Spec PyProof.Rows
section
variable {X : Cx}
def rDClear : V → List V → Hp → VK → Prop := fun x vs H Q => ∃ a kvs, x = .ref a ∧ vs = [] ∧ H a = some (.dK kvs) ∧ Q .non (upd H a (.dK []))
end
section
variable {l : Addr} {k : Nat} {g : TG} {tc : TT} {te : TE} {ρ : St} {R : Hp → Prop} {H₀ : Hp}
end
section
variable {X : Cx} {CX : CXT} {j : Nat} {E : XK} {m : Str} {pos apos : Pos} {e o : Expr} {es : List Expr} {ta : TE} {t : TA}
theorem pg_tupK {K : PySem.W.Frag} {es : List Expr} {k : Nat} {t : TGs} {n : Nat} (hK : X.K = K) (hc : X.calm = true) (h : PGs X es t)
    (hn : (assignEach es X.env).length = n := by rfl) (hst : (assignEach es X.env).findIdx? (·.1) = none := by rfl) : PG X (.Tuple es k pos) (gTup K n t) := by
  subst hK
  exact pg_tup hc h hn hst
end
section
variable {X : Cx}
end
end L2
/-! ### zip of two lists -/
namespace L2
open PySem PySem.Spec PyProof.Rows
section
variable {X : Cx}
/-- some iterators went on -/
theorem Inv.turnedL {pins : List (Addr × Obj)} {σ : St} {H : Hp} {s : Shared} {h' : Heap} {t' : Nat} {its : List Addr} (I : Inv X pins σ H s) (k : ∀ b o, b ∉ its → s.heap.get? b = some o → h'.get? b = some o) (hf : ∀ b ∈ its, FpOk X pins H b) : Inv X pins σ H { s with heap := h', toks := t' } := by
  have nit : ∀ b u, H b = some u → b ∉ its := fun b u e z => by rw [(hf b z).1] at e; cases e
  have hL : X.env.locals ∉ its := fun z => (hf _ z).2.1 rfl
  refine I.step (g' := s.gens) (d' := s.drawn) (ch := its) (fun b hb => ?_) (fun b o _ _ hc e _ => k b o hc e) (fun b o _ _ hc e _ => ⟨o.slots, k b o hc e⟩) (fun _ _ _ _ n => n)
    (fun b o hc e => ⟨o, k b o hc e⟩) (fun _ _ e => e) (fun _ _ _ e => e) (fun b ps e => ⟨#[], by rw [e]; simp⟩) (fun m hm => ?_) (fun b u e => ?_) I.bare
  · obtain ⟨_, h1, _, h3, h4, h5⟩ := hf b hb
    exact ⟨h3, h1, h4, h5⟩
  · obtain ⟨o, es, ep, ho, r⟩ := hm
    exact ⟨o, es, ep, k _ o hL ho, r⟩
  · refine (I.hok b u e).stay (fun c v hc q => k c v ?_ q) (fun _ q => q) fun _ _ q => q
    rcases hc with z | z
    · rw [z]; exact nit b u e
    · exact nit c _ z
def Itz (K : PySem.W.Frag) (a b : Addr) (xs ys : List V) : It :=
  ⟨fun i H => SqL K H a xs ∧ SqL K H b ys ∧ i < xs.length ∧ i < ys.length, fun i H v H' => ∃ x y t, xs[i]? = some x ∧ ys[i]? = some y ∧ H t = none ∧ v = .ref t ∧ H' = upd H t (.tup [x, y]), fun i H => SqL K H a xs ∧ SqL K H b ys ∧ (xs.length ≤ i ∨ ys.length ≤ i)⟩
theorem vals_get : ∀ {xs : List V} {us : List Value}, Vals xs us → ∀ {i : Nat} {x : V}, xs[i]? = some x → ∃ u, us[i]? = some u ∧ RelV x u
  | _, _, .nil, i, x, e => by simp at e
  | _, _, .cons r t, 0, x, e => by
    simp at e
    subst e
    exact ⟨_, rfl, r⟩
  | _, _, .cons r t, i + 1, x, e => by
    obtain ⟨u, h1, h2⟩ := vals_get t (i := i) (x := x) (by simpa using e)
    exact ⟨u, by simpa using h1, h2⟩
theorem turn_zip {P : Program} {w : World} {K : PySem.W.Frag} {elts : List Expr} {x1} {tpos : Pos} {z TI TO i1 i2 a b : Addr} (D : ZipApart z TI TO i1 i2 a b) (xs ys : List V) :
    Turn P w K (.Tuple elts x1 tpos) (Itz K a b xs ys) [z, TI, TO, i1, i2] z (fun i h => ∃ p q, IsZip h z TI TO .none ∧ IsPair h TI (.ref i1) (.ref i2) ∧ IsPair h TO p q ∧ h.IsListIter i1 a i ∧ h.IsListIter i2 b i) where
  mem := by simp
  obj := fun i h st c hc => by
    obtain ⟨p, q, h1, h2, h3, ⟨o4, e4, _, d4⟩, ⟨o5, e5, _, d5⟩⟩ := st
    simp only [List.mem_cons, List.not_mem_nil, or_false] at hc
    rcases hc with rfl | rfl | rfl | rfl | rfl
    · exact ⟨_, h1, fun v z => by have z' : Data.fields _ = Data.cell v := z; cases z'⟩
    · exact ⟨_, h2, fun v z => by have z' : Data.seq _ = Data.cell v := z; cases z'⟩
    · exact ⟨_, h3, fun v z => by have z' : Data.seq _ = Data.cell v := z; cases z'⟩
    · exact ⟨_, e4, fun v z => by rw [d4] at z; cases z⟩
    · exact ⟨_, e5, fun v z => by rw [d5] at z; cases z⟩
  keep := fun i h h' st k => by
    obtain ⟨p, q, h1, h2, h3, ⟨o4, e4, r4⟩, ⟨o5, e5, r5⟩⟩ := st
    exact ⟨p, q, k z (by simp) _ h1, k TI (by simp) _ h2, k TO (by simp) _ h3, ⟨o4, k i1 (by simp) _ e4, r4⟩, ⟨o5, k i2 (by simp) _ e5, r5⟩⟩
  item := by
    intro X hP hw hK hc i pins s σ H E I hf st hg
    subst hP hw hK
    obtain ⟨ha, hb, hx, hy⟩ := hg
    obtain ⟨p, q, h1, h2, h3, h4, h5⟩ := st
    obtain ⟨us, ru, pu, _⟩ := I.list ha
    obtain ⟨ws, rw', pw, _⟩ := I.list hb
    have ex : xs[i]? = some xs[i] := List.getElem?_eq_getElem hx
    have ey : ys[i]? = some ys[i] := List.getElem?_eq_getElem hy
    obtain ⟨u, eu, rux⟩ := vals_get ru ex
    obtain ⟨v, ev, rvy⟩ := vals_get rw' ey
    refine wpAny_pyNext_zip_item D h1 h2 h3 h4 h5 pu.isList pw.isList (by simpa using eu) (by simpa using ev) fun h' a1 a2 a3 a4 a5 a6 a7 => ?_
    refine ⟨_, rfl, ?_⟩
    refine wpAny_letOwnedTupleGo_zip (s := { s with heap := h' }) a1 fun h2' z2 sb => ?_
    have nt : s.heap.objs.size ≠ z := Nat.ne_of_gt (Heap.lt_size h1)
    have I1 : Inv X pins σ H { s with heap := h2', toks := s.toks } := I.turnedL (its := [z, TI, TO, i1, i2]) (t' := s.toks) (fun c o hc e => by
      simp only [List.mem_cons, List.not_mem_nil, or_false, not_or] at hc
      exact (sb.2 c hc.1).trans (a7 c o hc.1 hc.2.2.1 hc.2.2.2.1 hc.2.2.2.2 e)) hf
    have hn : H s.heap.objs.size = none := I.hok.fresh (Nat.le_refl _)
    have ht2 : h2'.get? s.heap.objs.size = some { cls := .type "tuple", data := .seq #[u, v] } := (sb.2 _ nt).trans a5
    have hok : HOk X.prog X.w (upd H s.heap.objs.size (.tup [xs[i], ys[i]])) h2' := fun c o e => by
      by_cases hb : c = s.heap.objs.size
      · subst hb
        rw [upd_same] at e
        cases e
        exact ⟨by show 2 ≤ sizeLine; decide, [u, v], .cons rux (.cons rvy .nil), _, ht2, rfl, _, rfl⟩
      · rw [upd_ne hb] at e
        exact (I1.hok c o e).stay (fun _ _ _ q => q) (fun c q => by rw [upd_ne (ne_of_none q hn)]; exact q) fun c xs q => by rw [upd_ne (ne_of_none q hn)]; exact q
    have I2 := I1.trackI (t := s.heap.objs.size) I.sz hn (Nat.ne_of_gt I.lt) (fun x c e z => by
      obtain ⟨v, q⟩ := I.cell x c e
      exact absurd q.lt (by rw [z]; exact Nat.lt_irrefl _)) (fun p hp z => absurd (Heap.lt_size (I.pin p hp).1) (by rw [z]; exact Nat.lt_irrefl _)) hok
    refine ⟨.ref s.heap.objs.size, _, I2, rfl, ⟨_, _, _, ex, ey, hn, rfl, rfl⟩, ⟨u, v, z2, (sb.2 _ D.TIz).trans (a7 _ _ D.TIz D.TITO D.TIi1 D.TIi2 h2), (sb.2 _ D.TOz).trans a2, ?_, ?_⟩, fun c hc => ?_⟩
    · obtain ⟨o, e, r⟩ := a3
      exact ⟨o, (sb.2 _ D.i1z).trans e, r⟩
    · obtain ⟨o, e, r⟩ := a4
      exact ⟨o, (sb.2 _ D.i2z).trans e, r⟩
    · have : c ≠ s.heap.objs.size := by
        obtain ⟨o4, e4, _⟩ := h4
        obtain ⟨o5, e5, _⟩ := h5
        simp only [List.mem_cons, List.not_mem_nil, or_false] at hc
        rcases hc with rfl | rfl | rfl | rfl | rfl
        · exact Nat.ne_of_lt (Heap.lt_size h1)
        · exact Nat.ne_of_lt (Heap.lt_size h2)
        · exact Nat.ne_of_lt (Heap.lt_size h3)
        · exact Nat.ne_of_lt (Heap.lt_size e4)
        · exact Nat.ne_of_lt (Heap.lt_size e5)
      rw [upd_ne this]
      exact (hf c hc).1
  done := by
    intro X hP hw hK hc i pins s σ H E I hf st hg
    subst hP hw hK
    obtain ⟨ha, hb, hend⟩ := hg
    obtain ⟨p, q, h1, h2, h3, h4, h5⟩ := st
    obtain ⟨us, ru, pu, _⟩ := I.list ha
    obtain ⟨ws, rw', pw, _⟩ := I.list hb
    have lu := ru.length
    have lw := rw'.length
    refine wpAny_pyNext_zip_end (I.ok.hd hc) D h1 h2 h3 h4 h5 pu.isList pw.isList (hend.imp (fun h => by simp; omega) (fun h => by simp; omega)) fun h' a7 => ⟨rfl, I.turnedL (its := [z, TI, TO, i1, i2]) (t' := s.toks) (fun c o hc e => by
      simp only [List.mem_cons, List.not_mem_nil, or_false, not_or] at hc
      exact a7 c o hc.1 hc.2.2.1 hc.2.2.2.1 hc.2.2.2.2 e) hf⟩
  self := fun _ _ _ _ _ st h => by
    obtain ⟨p, q, h1, _⟩ := st
    exact wpAny_pyIter_zip h1 h
def iZip (K : PySem.W.Frag) (ta : TA) : TI := fun σ H R => ta σ H fun vs H1 => ∃ a b xs ys, vs = [.ref a, .ref b] ∧ SqL K H1 a xs ∧ SqL K H1 b ys ∧ R (Itz K a b xs ys) H1
theorem pi_zip {elts : List Expr} {x1} {tpos : Pos} {a b : Expr} {ta : TA} {p pos : Pos} (hg : Gl X "zip") (hm : X.mg "zip" = none) (ha : PA X [a, b] ta) (hs : starEach [a, b] X.env = [(false, eval a X.env), (false, eval b X.env)] := by rfl) (hs2 : starEach [b] X.env = [(false, eval b X.env)] := by rfl) :
    PI X (.Tuple elts x1 tpos) (.Call (.Name "zip" p) [a, b] [] pos) (iZip X.K ta) := by
  intro pins s σ H R I h
  refine Call_ (ld_blt I hg hm boot_zip (PyProof.Rows.callWith_type1 (thn (ha pos pins s σ H _ I h) fun us s1 ⟨vs, H1, I1, r1, q1⟩ => ?_) (by rw [hs, hs2]) (by rw [hs2]; rfl)))
  obtain ⟨l1, l2, xs, ys, e, h1, h2, q⟩ := q1
  subst e
  cases r1 with
  | cons r rr =>
    cases rr with
    | cons r' rr =>
      cases rr
      cases r
      cases r'
      obtain ⟨us, ru, pu, _⟩ := I1.list h1
      obtain ⟨ws, rw', pw, _⟩ := I1.list h2
      have t1 : l1 < s1.heap.objs.size := by obtain ⟨o, n, e, _⟩ := pu; exact Heap.lt_size e
      have t2 : l2 < s1.heap.objs.size := by obtain ⟨o, n, e, _⟩ := pw; exact Heap.lt_size e
      refine call_zip_2 pu.isList pw.isList fun h' z1 z2 z3 z4 z5 z6 z7 => ?_
      have I2 : Inv X pins σ H1 { s1 with heap := h' } := I1.kept (t' := s1.toks) z7
      refine wpAny_pyIter_zip z1 ⟨_, [s1.heap.objs.size + 4, s1.heap.objs.size + 2, s1.heap.objs.size + 3, s1.heap.objs.size, s1.heap.objs.size + 1], _, _, _, rfl, I2, turn_zip (PySem.W.ktu_apart s1.heap.objs.size l1 l2 t1 t2) xs ys, ⟨.none, .none, z1, z2, z3, z4, z5⟩, fun c hc => ?_, q⟩
      have hb : s1.heap.objs.size ≤ c := by
        simp only [List.mem_cons, List.not_mem_nil, or_false] at hc
        rcases hc with rfl | rfl | rfl | rfl | rfl
        · exact Nat.le_add_right _ _
        · exact Nat.le_add_right _ _
        · exact Nat.le_add_right _ _
        · exact Nat.le_refl _
        · exact Nat.le_add_right _ _
      exact I1.fpOk hb (I1.hok.fresh hb)
end
theorem for_zip {K : PySem.W.Frag} {a b : Addr} {xs ys : List V} {g : TG} {tb : TS} {D : Ends} {σ : St} {H : Hp} (Pv : Nat → St → Hp → Prop) (h0 : Pv 0 σ H) (hl : ∀ i σ H, Pv i σ H → SqL K H a xs ∧ SqL K H b ys)
    (hs : ∀ i x y t σ H, xs[i]? = some x → ys[i]? = some y → H t = none → Pv i σ H → g (.ref t) σ (upd H t (.tup [x, y])) fun σ2 H2 => tb { D with nx := Pv (i + 1), ct := Pv (i + 1), bk := D.nx } σ2 H2) (hd : ∀ σ H, Pv (min xs.length ys.length) σ H → D.nx σ H) :
    ∃ W : Nat → Nat → St → Hp → Prop, (∃ m, W 0 m σ H) ∧ ∀ i m σ H, W i m σ H →
      ((Itz K a b xs ys).stop i H ∧ D.nx σ H) ∨ ((Itz K a b xs ys).go i H ∧ ∃ N : St → Hp → Prop, (∀ σ' H', N σ' H' → ∃ m', m' < m ∧ W (i + 1) m' σ' H') ∧ ∀ x H', (Itz K a b xs ys).yld i H x H' → g x σ H' fun σ2 H2 => tb { D with nx := N, ct := N, bk := D.nx } σ2 H2) := by
  refine ⟨fun i m σ H => m = min xs.length ys.length - i ∧ i ≤ min xs.length ys.length ∧ Pv i σ H, ⟨min xs.length ys.length, by simp, Nat.zero_le _, h0⟩, ?_⟩
  rintro i m σ H ⟨rfl, hi, p⟩
  obtain ⟨q1, q2⟩ := hl i σ H p
  by_cases hlt : i < min xs.length ys.length
  · refine .inr ⟨⟨q1, q2, by omega, by omega⟩, Pv (i + 1), fun σ' H' p' => ⟨min xs.length ys.length - (i + 1), by omega, rfl, hlt, p'⟩, fun v H' y => ?_⟩
    obtain ⟨x, y, t, hx, hy, ht, ev, eh⟩ := y
    subst ev eh
    exact hs i x y t σ _ hx hy ht p
  · have e : i = min xs.length ys.length := by omega
    subst e
    exact .inl ⟨⟨q1, q2, by omega⟩, hd σ H p⟩
section
variable {l : Addr} {k : Nat} {g : TG} {tc : TT} {te : TE} {ρ : St} {R : Hp → Prop} {H₀ : Hp}
theorem compG_zip {K : PySem.W.Frag} {a b : Addr} {xs ys : List V} (Pv : Nat → Hp → Prop) (h0 : Pv 0 (upd H₀ l (.lst []))) (hl : ∀ i H, Pv i H → SqL K H a xs ∧ SqL K H b ys)
    (hs : ∀ i x y t H, xs[i]? = some x → ys[i]? = some y → H t = none → Pv i H → ∀ zs : St, zs.length = k → g (.ref t) (zs ++ ρ) (upd H t (.tup [x, y])) fun σ2 H2 => (∃ zs' : St, zs'.length = k ∧ σ2 = zs' ++ ρ) ∧ tc σ2 H2 fun b H3 => if b = true then te σ2 H3 fun y H4 => ∃ ys', H4 l = some (.lst ys') ∧ ys'.length < sizeLine ∧ NextP (min xs.length ys.length) Pv i (upd H4 l (.lst (ys' ++ [y]))) else NextP (min xs.length ys.length) Pv i H3)
    (hd : ∀ H, Pv (min xs.length ys.length) H → R H) :
    ∃ W : Nat → Nat → Hp → Prop, (∃ m, W 0 m (upd H₀ l (.lst []))) ∧ ∀ i m H, W i m H →
      ((Itz K a b xs ys).stop i H ∧ R H) ∨ ((Itz K a b xs ys).go i H ∧ ∀ x H', (Itz K a b xs ys).yld i H x H' → ∀ zs : St, zs.length = k → g x (zs ++ ρ) H' fun σ2 H2 => (∃ zs' : St, zs'.length = k ∧ σ2 = zs' ++ ρ) ∧ tc σ2 H2 fun b H3 => if b = true then te σ2 H3 fun y H4 => ∃ ys, H4 l = some (.lst ys) ∧ ys.length < sizeLine ∧ ∃ m', m' < m ∧ W (i + 1) m' (upd H4 l (.lst (ys ++ [y]))) else ∃ m', m' < m ∧ W (i + 1) m' H3) :=
  compG_by (n := min xs.length ys.length) Pv h0 (fun i H hi p => ⟨(hl i H p).1, (hl i H p).2, by omega, by omega⟩) (fun H p => ⟨(hl _ H p).1, (hl _ H p).2, by omega⟩) (fun i x H H' hi y p => by
    obtain ⟨x', y', t, hx, hy, ht, ev, eh⟩ := y
    subst ev eh
    exact hs i x' y' t _ hx hy ht p) hd
end
end L2
/-! ### enumerate of a list -/
namespace L2
open PySem PySem.Spec PyProof.Rows
section
variable {X : Cx}
def Ite (K : PySem.W.Frag) (a : Addr) (xs : List V) : It :=
  ⟨fun i H => SqL K H a xs ∧ i < xs.length, fun i H v H' => ∃ x t, xs[i]? = some x ∧ H t = none ∧ v = .ref t ∧ H' = upd H t (.tup [.int i, x]), fun i H => SqL K H a xs ∧ xs.length ≤ i⟩
theorem turn_enum {P : Program} {w : World} {K : PySem.W.Frag} {elts : List Expr} {x1} {tpos : Pos} {e it a : Addr} (ne : e ≠ it) (xs : List V) :
    Turn P w K (.Tuple elts x1 tpos) (Ite K a xs) [e, it] e (fun i h => (∃ old, IsEnum h e it i old) ∧ h.IsListIter it a i) where
  mem := by simp
  obj := fun i h st c hc => by
    obtain ⟨⟨old, h1⟩, ⟨o4, e4, _, d4⟩⟩ := st
    simp only [List.mem_cons, List.not_mem_nil, or_false] at hc
    rcases hc with rfl | rfl
    · exact ⟨_, h1, fun v z => by have z' : Data.fields _ = Data.cell v := z; cases z'⟩
    · exact ⟨_, e4, fun v z => by rw [d4] at z; cases z⟩
  keep := fun i h h' st k => by
    obtain ⟨⟨old, h1⟩, ⟨o4, e4, r4⟩⟩ := st
    exact ⟨⟨old, k e (by simp) _ h1⟩, ⟨o4, k it (by simp) _ e4, r4⟩⟩
  item := by
    intro X hP hw hK hc i pins s σ H E I hf st hg
    subst hP hw hK
    obtain ⟨ha, hx⟩ := hg
    obtain ⟨⟨old, h1⟩, h4⟩ := st
    obtain ⟨us, ru, pu, _⟩ := I.list ha
    have ex : xs[i]? = some xs[i] := List.getElem?_eq_getElem hx
    obtain ⟨u, eu, rux⟩ := vals_get ru ex
    refine wpAny_pyNext_enum_item h1 h4 pu.isList (by simpa using eu) ne fun h' a1 a2 a3 a4 a5 => ?_
    refine ⟨_, rfl, ?_⟩
    refine wpAny_letOwnedTupleGo_enum (s := { s with heap := h', toks := s.toks + 1 }) a1 fun h2' z2 sb => ?_
    have nt : s.heap.objs.size ≠ e := Nat.ne_of_gt (Heap.lt_size h1)
    have I1 : Inv X pins σ H { s with heap := h2', toks := s.toks + 1 } := I.turnedL (its := [e, it]) (t' := s.toks + 1) (fun c o hc q => by
      simp only [List.mem_cons, List.not_mem_nil, or_false, not_or] at hc
      exact (sb.2 c hc.1).trans (a5 c o hc.1 hc.2 q)) hf
    have hn : H s.heap.objs.size = none := I.hok.fresh (Nat.le_refl _)
    have ht2 : h2'.get? s.heap.objs.size = some { cls := .type "tuple", data := .seq #[.int i s.toks, u] } := (sb.2 _ nt).trans a3
    have hok : HOk X.prog X.w (upd H s.heap.objs.size (.tup [.int i, xs[i]])) h2' := fun c o q => by
      by_cases hb : c = s.heap.objs.size
      · subst hb
        rw [upd_same] at q
        cases q
        exact ⟨by show 2 ≤ sizeLine; decide, [.int i s.toks, u], .cons ⟨_, rfl⟩ (.cons rux .nil), _, ht2, rfl, _, rfl⟩
      · rw [upd_ne hb] at q
        exact (I1.hok c o q).stay (fun _ _ _ q => q) (fun c q => by rw [upd_ne (ne_of_none q hn)]; exact q) fun c xs q => by rw [upd_ne (ne_of_none q hn)]; exact q
    have I2 := I1.trackI (t := s.heap.objs.size) I.sz hn (Nat.ne_of_gt I.lt) (fun x c e z => by
      obtain ⟨v, q⟩ := I.cell x c e
      exact absurd q.lt (by rw [z]; exact Nat.lt_irrefl _)) (fun p hp z => absurd (Heap.lt_size (I.pin p hp).1) (by rw [z]; exact Nat.lt_irrefl _)) hok
    refine ⟨.ref s.heap.objs.size, _, I2, rfl, ⟨_, _, ex, hn, rfl, rfl⟩, ⟨⟨_, z2⟩, ?_⟩, fun c hc => ?_⟩
    · obtain ⟨o, q, r⟩ := a2
      exact ⟨o, (sb.2 _ ne.symm).trans q, r⟩
    · have : c ≠ s.heap.objs.size := by
        obtain ⟨o4, e4, _⟩ := h4
        simp only [List.mem_cons, List.not_mem_nil, or_false] at hc
        rcases hc with rfl | rfl
        · exact Nat.ne_of_lt (Heap.lt_size h1)
        · exact Nat.ne_of_lt (Heap.lt_size e4)
      rw [upd_ne this]
      exact (hf c hc).1
  done := by
    intro X hP hw hK hc i pins s σ H E I hf st hg
    subst hP hw hK
    obtain ⟨ha, hend⟩ := hg
    obtain ⟨⟨old, h1⟩, h4⟩ := st
    obtain ⟨us, ru, pu, _⟩ := I.list ha
    have lu := ru.length
    refine wpAny_pyNext_enum_end (I.ok.hd hc) h1 h4 pu.isList (by simp; omega) fun h' a7 => ⟨rfl, I.turnedL (its := [e, it]) (t' := s.toks) (fun c o hc q => by
      simp only [List.mem_cons, List.not_mem_nil, or_false, not_or] at hc
      exact a7 c o hc.2 q) hf⟩
  self := fun _ _ _ _ _ st h => by
    obtain ⟨⟨old, h1⟩, _⟩ := st
    exact wpAny_pyIter_enum h1 h
def iEnum (K : PySem.W.Frag) (ta : TA) : TI := fun σ H R => ta σ H fun vs H1 => ∃ a xs, vs = [.ref a] ∧ SqL K H1 a xs ∧ R (Ite K a xs) H1
theorem pi_enum {elts : List Expr} {x1} {tpos : Pos} {a : Expr} {ta : TA} {p pos : Pos} (hg : Gl X "enumerate") (hm : X.mg "enumerate" = none) (ha : PA X [a] ta) (hs : starEach [a] X.env = [(false, eval a X.env)] := by rfl) : PI X (.Tuple elts x1 tpos) (.Call (.Name "enumerate" p) [a] [] pos) (iEnum X.K ta) := by
  intro pins s σ H R I h
  refine Call_ (ld_blt I hg hm boot_enumerate (PyProof.Rows.callWith_type1 (thn (ha pos pins s σ H _ I h) fun us s1 ⟨vs, H1, I1, r1, q1⟩ => ?_) hs rfl))
  obtain ⟨l1, xs, e, h1, q⟩ := q1
  subst e
  cases r1 with
  | cons r rr =>
    cases rr
    cases r
    obtain ⟨us, ru, pu, _⟩ := I1.list h1
    refine call_enumerate_list pu.isList fun h' z1 z2 z3 z7 => ?_
    have I2 : Inv X pins σ H1 { s1 with heap := h' } := I1.kept (t' := s1.toks) z7
    refine wpAny_pyIter_enum z1 ⟨_, [s1.heap.objs.size + 1, s1.heap.objs.size], _, _, _, rfl, I2, turn_enum (Nat.succ_ne_self _) xs, ⟨⟨_, z1⟩, z2⟩, fun c hc => ?_, q⟩
    have hb : s1.heap.objs.size ≤ c := by
      simp only [List.mem_cons, List.not_mem_nil, or_false] at hc
      rcases hc with rfl | rfl
      · exact Nat.le_add_right _ _
      · exact Nat.le_refl _
    exact I1.fpOk hb (I1.hok.fresh hb)
theorem for_enum {K : PySem.W.Frag} {a : Addr} {xs : List V} {g : TG} {tb : TS} {D : Ends} {σ : St} {H : Hp} (Pv : Nat → St → Hp → Prop) (h0 : Pv 0 σ H) (hl : ∀ i σ H, Pv i σ H → SqL K H a xs)
    (hs : ∀ i x t σ H, xs[i]? = some x → H t = none → Pv i σ H → g (.ref t) σ (upd H t (.tup [.int i, x])) fun σ2 H2 => tb { D with nx := Pv (i + 1), ct := Pv (i + 1), bk := D.nx } σ2 H2) (hd : ∀ σ H, Pv xs.length σ H → D.nx σ H) :
    ∃ W : Nat → Nat → St → Hp → Prop, (∃ m, W 0 m σ H) ∧ ∀ i m σ H, W i m σ H →
      ((Ite K a xs).stop i H ∧ D.nx σ H) ∨ ((Ite K a xs).go i H ∧ ∃ N : St → Hp → Prop, (∀ σ' H', N σ' H' → ∃ m', m' < m ∧ W (i + 1) m' σ' H') ∧ ∀ x H', (Ite K a xs).yld i H x H' → g x σ H' fun σ2 H2 => tb { D with nx := N, ct := N, bk := D.nx } σ2 H2) := by
  refine ⟨fun i m σ H => m = xs.length - i ∧ i ≤ xs.length ∧ Pv i σ H, ⟨xs.length, by simp, Nat.zero_le _, h0⟩, ?_⟩
  rintro i m σ H ⟨rfl, hi, p⟩
  have q1 := hl i σ H p
  by_cases hlt : i < xs.length
  · refine .inr ⟨⟨q1, hlt⟩, Pv (i + 1), fun σ' H' p' => ⟨xs.length - (i + 1), by omega, rfl, hlt, p'⟩, fun v H' y => ?_⟩
    obtain ⟨x, t, hx, ht, ev, eh⟩ := y
    subst ev eh
    exact hs i x t σ _ hx ht p
  · have e : i = xs.length := by omega
    subst e
    exact .inl ⟨⟨q1, Nat.le_refl _⟩, hd σ H p⟩
end
end L2
/-! ### list(range(..)), None in a list of tuples -/
namespace L2
open PySem PySem.Spec PyProof.Rows
def rngV (a : Int) (n : Nat) : List V := (List.range n).map fun (i : Nat) => V.int (a + (i : Int))
/-- the range from a on, b not in it, at r -/
def RngO (r : Addr) (a b : Int) : HO := .ext fun h => ∃ t u v, IsRange h r a b 1 t u v
section
variable {X : Cx}
/-- None in a list whose items are tuples -/
def rInNT (K : PySem.W.Frag) : R2 := fun x y H Q => ∃ p xs, x = .non ∧ y = .ref p ∧ SqL K H p xs ∧ (∀ v ∈ xs, ∃ t ys, v = .ref t ∧ SqT K H t ys) ∧ Q (.bl false) H
theorem vals_mem : ∀ {xs : List V} {us : List Value}, Vals xs us → ∀ u ∈ us, ∃ x ∈ xs, RelV x u
  | _, _, .nil, u, h => by cases h
  | _, _, .cons r t, u, h => by
    rcases List.mem_cons.mp h with rfl | h
    · exact ⟨_, List.mem_cons_self, r⟩
    · obtain ⟨x, h1, h2⟩ := vals_mem t u h
      exact ⟨x, List.mem_cons_of_mem _ h1, h2⟩
theorem op_inNT (hu : X.A.units + 64 < cLine) : OpR X (compareOp .In) (rInNT X.K) := by
  intro pins s σ H x y v u Q I rx ry h
  obtain ⟨p, xs, rfl, rfl, hq, ht, q⟩ := h
  cases rx
  cases ry
  obtain ⟨its, r, pl, hz⟩ := I.list hq
  refine SeqAt.in_listAt (fun _ => false) pl.isList (fun w hw => ?_) ⟨.bl _, H, I, rfl, ?_⟩
  · obtain ⟨x, hx, rx⟩ := vals_mem r w (by simpa using hw)
    obtain ⟨t, ys, rfl, hs⟩ := ht x hx
    cases rx
    obtain ⟨its', r', pl', hz'⟩ := I.tuple hs
    exact SeqAt.EqAt.tuple_none pl' (show X.A.units + 1 < cLine by omega)
  · rw [show its.toArray.any (fun _ => false) = false by simp]
    exact q
end
end L2
/-! ### list.index of a text; a set of texts that differ, its size -/
namespace L2
open PySem PySem.Spec PyProof.Rows
theorem eqV_str (x y : Str) : eqV (.str x) (.str y) = decide (x = y) := by
  unfold eqV
  by_cases h : x = y
  · subst h; simp
  · simp [h]
section
variable {X : Cx}
def rIndexT (K : PySem.W.Frag) : V → List V → Hp → VK → Prop := fun x vs H Q => ∃ (l : Addr) (ts : List Str) (y : Str), x = .ref l ∧ vs = [.str y] ∧ SqL K H l (ts.map V.str) ∧ y ∈ ts ∧ Q (.int (ts.idxOf y : Nat)) H
end
section
variable {prog : Program} {w : World} {A : Around}
variable {E : Value → Shared → Prop} {s : Shared}
/-- the new set's object, empty -/
def freshSet (led : Bool) : Obj := { cls := .type "set", dict := none, data := .set #[] 0 (.fresh 0 0 led) }
end
section
variable {X : Cx}
/-- a set of texts -/
def SetT (P : Program) (w : World) (p : Addr) (ts : List Str) : HO := .ext fun h => h.SetOf (PySem.strKind P w) p (fun x => decide (x ∈ ts)) ts.length
def rNeL (K : PySem.W.Frag) : R2 := fun x y H Q => ∃ p q xs ys, x = .ref p ∧ y = .ref q ∧ SqL K H p xs ∧ SqL K H q ys ∧ xs.all flatV = true ∧ ys.all flatV = true ∧ Q (.bl (!eqVs xs ys)) H
end
end L2
/-! ### tuples of plain values: ==, != -/
namespace L2
open PySem PySem.Spec PyProof.Rows
section
variable {X : Cx}
def rEqT (K : PySem.W.Frag) : R2 := fun x y H Q => ∃ p q xs ys, x = .ref p ∧ y = .ref q ∧ SqT K H p xs ∧ SqT K H q ys ∧ xs.all flatV = true ∧ ys.all flatV = true ∧ Q (.bl (eqVs xs ys)) H
def rNeT (K : PySem.W.Frag) : R2 := fun x y H Q => ∃ p q xs ys, x = .ref p ∧ y = .ref q ∧ SqT K H p xs ∧ SqT K H q ys ∧ xs.all flatV = true ∧ ys.all flatV = true ∧ Q (.bl (!eqVs xs ys)) H
end
end L2
/-! ### a list walked within a comprehension; things that are equal, however deep -/
namespace L2
open PySem PySem.Spec PyProof.Rows
section
variable {X : Cx}
theorem pi_listK {K : PySem.W.Frag} {tg : Expr} {l : Expr} {tl : TE} (hK : X.K = K) (hl : PE X l tl) : PI X tg l (iList K tl) := by
  subst hK
  exact pi_list hl
inductive EqD (K : PySem.W.Frag) (H : Hp) : Nat → V → V → Prop
  | flat {n : Nat} {v : V} (h : flatV v = true) : EqD K H n v v
  | lst {n : Nat} {p q : Addr} {xs ys : List V} (hp : SqL K H p xs) (hq : SqL K H q ys) (hl : xs.length = ys.length) (h : ∀ (j : Nat) (x y : V), xs[j]? = some x → ys[j]? = some y → EqD K H n x y) : EqD K H (n + 1) (.ref p) (.ref q)
  | tup {n : Nat} {p q : Addr} {xs ys : List V} (hp : SqT K H p xs) (hq : SqT K H q ys) (hl : xs.length = ys.length) (h : ∀ (j : Nat) (x y : V), xs[j]? = some x → ys[j]? = some y → EqD K H n x y) : EqD K H (n + 1) (.ref p) (.ref q)
theorem eqV_self {v : V} (h : flatV v = true) : eqV v v = true := by
  cases v with
  | non => rfl
  | bl b => cases b <;> rfl
  | int i => show (i == i) = true; exact beq_self_eq_true i
  | str z => show (z == z) = true; exact beq_self_eq_true z
  | _ => exact absurd (show false = true from h) Bool.false_ne_true
theorem all_tt (n : Nat) : (List.range n).all (fun _ => true) = true := by rw [List.all_eq_true]; exact fun _ _ => rfl
theorem EqD.at {pins : List (Addr × Obj)} {σ : St} {H : Hp} {s : Shared} (I : Inv X pins σ H s) {n : Nat} {v u : V} (h : EqD X.K H n v u) : ∀ {A : Around} {v' u' : Value}, A.units + n < cLine → RelV v v' → RelV u u' → SeqAt.EqAt A s v' u' true := by
  induction h with
  | flat h =>
    intro A v' u' _ r1 r2
    have := eqAt_V (A := A) (s := s) r1 r2 h h
    rw [eqV_self h] at this
    exact this
  | @lst n p q xs ys hp hq hl h ih =>
    intro A v' u' hu r1 r2
    cases r1
    cases r2
    by_cases e : p = q
    · subst e
      exact SeqAt.EqAt.same _
    · obtain ⟨us, r, pl, _⟩ := I.list hp
      obtain ⟨ws, r', pl', _⟩ := I.list hq
      have e1 := r.length
      have e2 := r'.length
      have := SeqAt.RcAt.lists (A := A) (e := fun _ => true) pl.isList pl'.isList (by rw [List.size_toArray, List.size_toArray]; omega) (by omega) (fun j h1 h2 => by
        have j1 : j < us.length := by simpa using h1
        have j2 : j < ws.length := by simpa using h2
        have a1 : xs[j]? = some (xs[j]'(by omega)) := List.getElem?_eq_getElem _
        have a2 : ys[j]? = some (ys[j]'(by omega)) := List.getElem?_eq_getElem _
        rw [List.getElem_toArray, List.getElem_toArray]
        exact ih j _ _ a1 a2 (show A.units + 1 + n < cLine by omega) (vals_at r a1 (List.getElem?_eq_getElem j1)) (vals_at r' a2 (List.getElem?_eq_getElem j2)))
      rw [all_tt] at this
      exact SeqAt.EqAt.of_refs e this
  | @tup n p q xs ys hp hq hl h ih =>
    intro A v' u' hu r1 r2
    cases r1
    cases r2
    by_cases e : p = q
    · subst e
      exact SeqAt.EqAt.same _
    · obtain ⟨us, r, pl, _⟩ := I.tuple hp
      obtain ⟨ws, r', pl', _⟩ := I.tuple hq
      have e1 := r.length
      have e2 := r'.length
      have := SeqAt.RcAt.tuples (A := A) (e := fun _ => true) pl pl' (by omega) (fun j h1 h2 => by
        have j1 : j < us.length := by simpa using h1
        have j2 : j < ws.length := by simpa using h2
        have a1 : xs[j]? = some (xs[j]'(by omega)) := List.getElem?_eq_getElem _
        have a2 : ys[j]? = some (ys[j]'(by omega)) := List.getElem?_eq_getElem _
        rw [List.getElem_toArray, List.getElem_toArray]
        exact ih j _ _ a1 a2 (show A.units + 1 + n < cLine by omega) (vals_at r a1 (List.getElem?_eq_getElem j1)) (vals_at r' a2 (List.getElem?_eq_getElem j2)))
      rw [all_tt, List.size_toArray, List.size_toArray, show us.length = ws.length by omega, beq_self_eq_true, Bool.and_self] at this
      exact SeqAt.EqAt.of_refs e this
/-- two tuples that are equal: != -/
def rNeD (K : PySem.W.Frag) : R2 := fun x y H Q => ∃ p q xs ys, x = .ref p ∧ y = .ref q ∧ SqT K H p xs ∧ SqT K H q ys ∧ xs.length = ys.length ∧ (∀ (j : Nat) (x y : V), xs[j]? = some x → ys[j]? = some y → EqD K H 20 x y) ∧ Q (.bl false) H
theorem op_neD (hu : X.A.units + 64 < cLine) : OpR X (compareOp .NotEq) (rNeD X.K) := by
  intro pins s σ H x y v u Q I rx ry h
  obtain ⟨p, q, xs, ys, rfl, rfl, hp, hq, hl, hd, k⟩ := h
  cases rx
  cases ry
  obtain ⟨us, r, pl, _⟩ := I.tuple hp
  obtain ⟨ws, r', pl', _⟩ := I.tuple hq
  have e1 := r.length
  have e2 := r'.length
  refine SeqAt.RcNeAt.tuples (e := fun _ => true) pl pl' (by omega) (fun j h1 h2 => ?_) X.prog X.w X.xe _ ⟨.bl _, H, I, rfl, ?_⟩
  · have j1 : j < us.length := by simpa using h1
    have j2 : j < ws.length := by simpa using h2
    have a1 : xs[j]? = some (xs[j]'(by omega)) := List.getElem?_eq_getElem _
    have a2 : ys[j]? = some (ys[j]'(by omega)) := List.getElem?_eq_getElem _
    rw [List.getElem_toArray, List.getElem_toArray]
    exact (hd j _ _ a1 a2).at I (show X.A.units + 1 + 20 < cLine by omega) (vals_at r a1 (List.getElem?_eq_getElem j1)) (vals_at r' a2 (List.getElem?_eq_getElem j2))
  · rw [all_tt, List.size_toArray, List.size_toArray, show us.length = ws.length by omega, beq_self_eq_true, Bool.and_self]
    exact k
theorem call_listK {K : PySem.W.Frag} (hK : X.K = K) : CallR X (.type "list") (fun xs H Q => ∃ p ys, xs = [.ref p] ∧ (SqL K H p ys ∨ SqT K H p ys) ∧ ∀ l, H l = none → Q (.ref l) (upd H l (.lst ys))) := by
  subst hK
  exact call_list_of
end
end L2
/-! ### a def that is called while an exception is handled -/
namespace L2
open PySem PySem.Spec PyProof.Rows
structure RoomH (k : Nat) (A : Around) : Prop where
  dp : A.depth + 3 * k + 5 < recursionLimit
  un : A.units + 16 * k + 200 < cLine
structure FnOkH (P : Program) (w : World) (K : PySem.W.Frag) (mg : Str → Option Value) (base : Heap) (CX : CXT) (k : Nat) (f : Addr) (fd : FuncData) (ps : List Str) (sp : Sp) : Prop where
  len : ∀ vs H Q E, sp vs H Q E → vs.length = ps.length
  run : ∀ (A : Around) (outer : List Env) (s : Shared) (H : Hp) (args : Args) (us : List Value) (vs : List V) (Q : VK) (E : XK), RoomH k A → Env0 P w K mg base A outer s H → BindsTo s fd args (ps.zip us) → Vals vs us → sp vs H Q E →
    codeAny (model P w) A (.call (.ref f) args) (CR CX outer P w H s Q E) s
/-- an exception may be under way -/
abbrev Cx.rough (X : Cx) : Cx := { X with calm := false }
section
variable {P : Program} {w : World} {K : PySem.W.Frag} {mg : Str → Option Value} {base : Heap}
def FnBH (P : Program) (w : World) (K : PySem.W.Frag) (mg : Str → Option Value) (base : Heap) (CX : CXT) (x : Str) (k : Nat) (ps : List Str) (sp : Sp) : Prop :=
  ∃ f fd, mg x = some (.ref f) ∧ PySem.W.keepIn K (.ref f) = true ∧ Binds K fd ps [] ∧ FnOkH P w K mg base CX k f fd ps sp
end
section
variable {X : Cx} {CX : CXT} {k j : Nat} {f : Addr} {fd : FuncData} {ps : List Str} {sp : Sp} {dvs : List V} {ds : List Value} {E : XK} {x : Str} {p pos : Pos} {e : Expr} {es : List Expr} {t : TA}
end
end L2
namespace L2
open PySem PySem.Spec PyProof.Rows
section
variable {X : Cx}
/-- int of a truth -/
theorem call_intB : CallR X (.type "int") (fun xs H Q => ∃ k, xs = [.bl k] ∧ Q (.int (if k then 1 else 0)) H) := fun pins s σ H xs us Q I r h => call_int1 pins s σ H xs us Q I r (.inr h)
end
end L2
namespace G
def gcd (a b : Int) : Int := (Int.gcd a b : Int)
theorem gcd_zero (a : Int) (h : 0 ≤ a) : gcd a 0 = a := by
  unfold gcd; rw [Int.gcd_zero_right]; omega
theorem gcd_abs (a b : Int) : gcd (if a < 0 then -a else a) (if b < 0 then -b else b) = gcd a b := by
  unfold gcd; congr 1
  split <;> split <;> simp [Int.neg_gcd, Int.gcd_neg]
theorem gcd_step (a b : Int) (hb : 0 < b) : gcd b (a % b) = gcd a b := by
  unfold gcd; congr 1
  rw [Int.gcd_comm b]
  have e : a = a % b + (a / b) * b := by have := Int.emod_add_mul_ediv a b; rw [Int.mul_comm] at this; omega
  have h := Int.gcd_add_mul_right_left b (a % b) (a / b)
  rw [← e] at h
  exact h.symm
theorem fdiv_nat (a b : Nat) : (a : Int).fdiv (b : Int) = ((a / b : Nat) : Int) := by
  rw [Int.fdiv_eq_ediv_of_nonneg _ (Int.natCast_nonneg _)]; rfl
theorem den_pos (x : Rat) : (0 : Int) < (x.den : Int) := by have := x.den_nz; omega
theorem init_spec (a b : Int) (hb : b ≠ 0) : a.fdiv (if b < 0 then -(gcd a b) else gcd a b) = (Rat.divInt a b).num ∧ b.fdiv (if b < 0 then -(gcd a b) else gcd a b) = ((Rat.divInt a b).den : Int) := by
  have gp : 0 < Int.gcd a b := Int.gcd_pos_of_ne_zero_right a hb
  obtain ⟨k, hk⟩ := Int.gcd_dvd_left a b
  obtain ⟨m, hm⟩ := Int.gcd_dvd_right a b
  have gz : (Int.gcd a b : Int) ≠ 0 := by omega
  rw [Rat.num_divInt, Rat.den_divInt, if_neg hb, Int.gcd_comm b a]
  unfold gcd
  generalize hgg : Int.gcd a b = g at *
  have e1 : ∀ z : Int, (g * z).fdiv g = z := fun z => by rw [Int.mul_comm, Int.mul_fdiv_cancel _ gz]
  have e2 : ∀ z : Int, (g * z).fdiv (-(g : Int)) = -z := fun z => by
    have : (g : Int) * z = (-z) * (-(g : Int)) := by rw [Int.neg_mul_neg, Int.mul_comm]
    rw [this, Int.mul_fdiv_cancel _ (by omega)]
  by_cases hs : b < 0
  · rw [if_pos hs, Int.sign_eq_neg_one_of_neg hs]
    constructor
    · conv => lhs; rw [hk, e2]
      have : -1 * a = -k * g := by rw [hk, Int.mul_comm (g:Int) k, Int.neg_mul, Int.neg_mul, Int.one_mul]
      rw [this, Int.mul_ediv_cancel _ gz]
    · conv => lhs; rw [hm, e2]
      have mneg : m < 0 := by
        rcases Int.lt_trichotomy m 0 with h | h | h
        · exact h
        · rw [h] at hm; omega
        · have := Int.mul_pos (show (0:Int) < g by omega) h; omega
      have : b.natAbs = m.natAbs * g := by rw [hm, Int.natAbs_mul, Int.natAbs_natCast, Nat.mul_comm]
      rw [this, Nat.mul_div_cancel _ gp]; omega
  · rw [if_neg hs, Int.sign_eq_one_of_pos (by omega)]
    constructor
    · conv => lhs; rw [hk, e1]
      have : 1 * a = k * g := by rw [hk, Int.mul_comm (g:Int) k, Int.one_mul]
      rw [this, Int.mul_ediv_cancel _ gz]
    · conv => lhs; rw [hm, e1]
      have mpos : 0 < m := by
        rcases Int.lt_trichotomy m 0 with h | h | h
        · have := Int.mul_neg_of_pos_of_neg (show (0:Int) < g by omega) h; omega
        · rw [h] at hm; omega
        · exact h
      have : b.natAbs = m.natAbs * g := by rw [hm, Int.natAbs_mul, Int.natAbs_natCast, Nat.mul_comm]
      rw [this, Nat.mul_div_cancel _ gp]; omega
theorem fdiv_exact {a : Int} {g : Nat} (h : (g : Int) ∣ a) : a.fdiv (g : Int) = a.tdiv g := by
  rw [Int.fdiv_eq_ediv_of_nonneg _ (Int.natCast_nonneg _), Int.tdiv_eq_ediv_of_dvd h]
theorem add_spec (x y : Rat) :
    let g := gcd x.den y.den
    let own := (x.den : Int).fdiv g
    let top := x.num * ((y.den : Int).fdiv g) + y.num * own
    let left := gcd top g
    top.fdiv left = (x + y).num ∧ own * ((y.den : Int).fdiv left) = ((x + y).den : Int) := by
  have hx := x.den_nz
  have hy := y.den_nz
  have eg : gcd x.den y.den = ((x.den.gcd y.den : Nat) : Int) := by unfold gcd; rw [Int.gcd_natCast_natCast]
  have gpos : 0 < x.den.gcd y.den := Nat.gcd_pos_of_pos_left _ (by omega)
  intro g own top left
  have hown : own = ((x.den / x.den.gcd y.den : Nat) : Int) := by show (x.den : Int).fdiv (gcd x.den y.den) = _; rw [eg, fdiv_nat]
  have htop : top = x.num * ((y.den / x.den.gcd y.den : Nat) : Int) + y.num * ((x.den / x.den.gcd y.den : Nat) : Int) := by
    show x.num * ((y.den : Int).fdiv (gcd x.den y.den)) + y.num * own = _
    rw [hown, eg, fdiv_nat]
  have hleft : left = ((top.natAbs.gcd (x.den.gcd y.den) : Nat) : Int) := by
    show ((Int.gcd top (gcd x.den y.den) : Nat) : Int) = _
    rw [eg]; rfl
  have e1 : x + y = Rat.add x y := rfl
  rw [e1]; delta Rat.add; dsimp only
  rw [hleft, hown]
  split
  · rename_i h1
    rw [htop]
    simp only [h1, Nat.div_one, Nat.gcd_one_right, fdiv_nat]
    simp
  · rename_i h1
    rw [Rat.maybeNormalize_eq]
    dsimp only
    simp only [Int.divExact_eq_tdiv]
    rw [← htop]
    have d1 : ((top.natAbs.gcd (x.den.gcd y.den) : Nat) : Int) ∣ top := Int.ofNat_dvd_left.2 (Nat.gcd_dvd_left _ _)
    have d2 : (top.natAbs.gcd (x.den.gcd y.den) : Nat) ∣ y.den := Nat.dvd_trans (Nat.gcd_dvd_right _ _) (Nat.gcd_dvd_right _ _)
    refine ⟨?_, ?_⟩
    · rw [fdiv_exact d1]
    · rw [fdiv_nat, ← Int.natCast_mul, Nat.mul_div_assoc _ d2]
theorem mul_spec (x y : Rat) :
    let first := gcd x.num y.den
    let second := gcd y.num x.den
    x.num.fdiv first * y.num.fdiv second = (x * y).num ∧ (x.den : Int).fdiv second * (y.den : Int).fdiv first = ((x * y).den : Int) := by
  intro first second
  have e1 : x * y = Rat.mul x y := rfl
  rw [e1]; delta Rat.mul; dsimp only
  have h1 : first = ((x.num.natAbs.gcd y.den : Nat) : Int) := rfl
  have h2 : second = ((y.num.natAbs.gcd x.den : Nat) : Int) := rfl
  rw [h1, h2]
  simp only [Int.divExact_eq_tdiv, Nat.divExact_eq_div]
  rw [fdiv_exact (Int.ofNat_dvd_left.2 (Nat.gcd_dvd_left _ _)), fdiv_exact (Int.ofNat_dvd_left.2 (Nat.gcd_dvd_left _ _)), fdiv_nat, fdiv_nat]
  exact ⟨rfl, by rw [Int.natCast_mul]⟩
theorem inv_pos_spec (y : Rat) (h : 0 < y.num) : (y⁻¹).num = y.den ∧ ((y⁻¹).den : Int) = y.num := by
  rw [Rat.num_inv, Rat.den_inv, Int.sign_eq_one_of_pos h, if_neg (by omega)]; constructor <;> omega
theorem inv_neg_spec (y : Rat) (h : y.num < 0) : (y⁻¹).num = -y.den ∧ ((y⁻¹).den : Int) = -y.num := by
  rw [Rat.num_inv, Rat.den_inv, Int.sign_eq_neg_one_of_neg h, if_neg (by omega)]; constructor <;> omega
end G
namespace G
/-! ### how long the numbers grow -/
def Bd (n : Nat) (x : Rat) : Prop := x.num.natAbs ≤ 2 ^ n ∧ x.den ≤ 2 ^ n
theorem pow_le {m n : Nat} (h : m ≤ n) : 2 ^ m ≤ 2 ^ n := Nat.pow_le_pow_right (by decide) h
theorem Bd.mono {m n : Nat} {x : Rat} (b : Bd m x) (h : m ≤ n) : Bd n x := ⟨Nat.le_trans b.1 (pow_le h), Nat.le_trans b.2 (pow_le h)⟩
theorem natAbs_ediv_le (a : Int) (d : Nat) : (a / (d : Int)).natAbs ≤ a.natAbs := by
  rcases Nat.eq_zero_or_pos d with h | h
  · subst h; simp
  · have hd : (0 : Int) < d := by omega
    rcases Int.le_total 0 a with ha | ha
    · have h1 := Int.ediv_nonneg ha (Int.le_of_lt hd)
      have h2 := Int.ediv_le_self (d : Int) ha
      omega
    · have h1 : a / (d : Int) ≤ 0 := Int.ediv_nonpos_of_nonpos_of_neg ha hd
      have h2 : a ≤ a / (d : Int) := by
        rw [Int.le_ediv_iff_mul_le hd]
        have h3 : 0 ≤ (-a) * ((d : Int) - 1) := Int.mul_nonneg (by omega) (by omega)
        rw [Int.neg_mul, Int.mul_sub, Int.mul_one] at h3
        omega
      omega
theorem Bd.divInt {n : Nat} {a b : Int} (ha : a.natAbs ≤ 2 ^ n) (hb : b.natAbs ≤ 2 ^ n) : Bd n (Rat.divInt a b) := by
  constructor
  · rw [Rat.num_divInt]
    refine Nat.le_trans (natAbs_ediv_le _ _) ?_
    rw [Int.natAbs_mul]
    have : b.sign.natAbs ≤ 1 := by
      rcases Int.lt_trichotomy b 0 with h | h | h
      · rw [Int.sign_eq_neg_one_of_neg h]; decide
      · rw [h]; decide
      · rw [Int.sign_eq_one_of_pos h]; decide
    calc b.sign.natAbs * a.natAbs ≤ 1 * a.natAbs := Nat.mul_le_mul_right _ this
      _ ≤ 2 ^ n := by omega
  · rw [Rat.den_divInt]
    split
    · exact Nat.one_le_two_pow
    · exact Nat.le_trans (Nat.div_le_self _ _) hb
theorem mul_le_pow {a b m n : Nat} (ha : a ≤ 2 ^ m) (hb : b ≤ 2 ^ n) : a * b ≤ 2 ^ (m + n) := by
  rw [Nat.pow_add]; exact Nat.mul_le_mul ha hb
theorem Bd.add {m n : Nat} {x y : Rat} (hx : Bd m x) (hy : Bd n y) : Bd (m + n + 1) (x + y) := by
  constructor
  · rw [Rat.num_add]
    refine Nat.le_trans (natAbs_ediv_le _ _) ?_
    have h1 := mul_le_pow hx.1 hy.2
    have h2 := mul_le_pow hx.2 hy.1
    have e1 : (x.num * (y.den : Int)).natAbs = x.num.natAbs * y.den := by rw [Int.natAbs_mul, Int.natAbs_natCast]
    have e2 : (y.num * (x.den : Int)).natAbs = x.den * y.num.natAbs := by rw [Int.natAbs_mul, Int.natAbs_natCast, Nat.mul_comm]
    have := Int.natAbs_add_le (x.num * (y.den : Int)) (y.num * (x.den : Int))
    rw [e1, e2] at this
    rw [Nat.pow_succ]; omega
  · rw [Rat.den_add]
    refine Nat.le_trans (Nat.div_le_self _ _) (Nat.le_trans (mul_le_pow hx.2 hy.2) (pow_le (by omega)))
theorem Bd.neg {m : Nat} {x : Rat} (hx : Bd m x) : Bd m (-x) := ⟨by rw [Rat.neg_num, Int.natAbs_neg]; exact hx.1, hx.2⟩
theorem Bd.mul {m n : Nat} {x y : Rat} (hx : Bd m x) (hy : Bd n y) : Bd (m + n) (x * y) := by
  constructor
  · rw [Rat.num_mul]
    refine Nat.le_trans (natAbs_ediv_le _ _) ?_
    rw [Int.natAbs_mul]
    exact mul_le_pow hx.1 hy.1
  · rw [Rat.den_mul]
    exact Nat.le_trans (Nat.div_le_self _ _) (mul_le_pow hx.2 hy.2)
theorem Bd.inv {m : Nat} {x : Rat} (hx : Bd m x) : Bd m x⁻¹ := by
  constructor
  · rw [Rat.num_inv, Int.natAbs_mul, Int.natAbs_natCast]
    have : x.num.sign.natAbs ≤ 1 := by
      rcases Int.lt_trichotomy x.num 0 with h | h | h
      · rw [Int.sign_eq_neg_one_of_neg h]; decide
      · rw [h]; decide
      · rw [Int.sign_eq_one_of_pos h]; decide
    calc x.num.sign.natAbs * x.den ≤ 1 * x.den := Nat.mul_le_mul_right _ this
      _ ≤ 2 ^ m := by have := hx.2; omega
  · rw [Rat.den_inv]; split
    · exact Nat.one_le_two_pow
    · exact hx.1
theorem Bd.div {m n : Nat} {x y : Rat} (hx : Bd m x) (hy : Bd n y) : Bd (m + n) (x / y) := by
  rw [Rat.div_def]; exact hx.mul hy.inv
theorem Bd.zero : Bd 0 0 := ⟨by decide, by decide⟩
theorem Bd.one : Bd 0 1 := ⟨by decide, by decide⟩
end G
namespace G
end G
namespace G
open PySem
/-! ### texts -/
/-! ### the names -/
def sgs : Str := "abcdefghijklmnopqrstuvwxyz0123456789."
def sgAt (i : Int) : Nat := sgs.cps.toList.getD i.toNat 0
def turnK (k c : Int) : Int := (k * (1 + c / 5 % 36) + c / 180) % 37
def nameOf (k c : Int) : Str := if c % 3 = 0 then Txt.mul ⟨#[sgAt (c / 3 % 37)]⟩ (turnK k c + 1) else Txt.mul "x" (c / 3 % 25) ++ ⟨#[sgAt (turnK k c)]⟩ ++ Txt.mul "x" (c / 75 % 25)
end G
namespace G
open PySem L2
/-! ### sizes -/
def Sm (i : Int) : Prop := i.natAbs < 2 ^ 9000
def SmR (x : Rat) : Prop := Sm x.num ∧ Sm (x.den : Int)
theorem Sm.le {a b : Int} (h : Sm b) (l : a.natAbs ≤ b.natAbs) : Sm a := Nat.lt_of_le_of_lt l h
theorem fdiv_le (a : Int) {b : Int} (hb : 0 < b) (ha : 0 ≤ a) : (a.fdiv b).natAbs ≤ a.natAbs := by
  rw [Int.fdiv_eq_ediv_of_nonneg a (Int.le_of_lt hb)]
  have h1 := Int.ediv_nonneg ha (Int.le_of_lt hb)
  have h2 := Int.ediv_le_self b ha
  omega
theorem fdiv_le' (a : Int) {b : Int} (hb : 0 < b) (hd : b ∣ a) : (a.fdiv b).natAbs ≤ a.natAbs := by
  obtain ⟨k, rfl⟩ := hd
  have e : (b * k).fdiv b = k := by rw [Int.mul_comm, Int.mul_fdiv_cancel _ (by omega)]
  rw [e, Int.natAbs_mul]
  exact Nat.le_mul_of_pos_left _ (by omega)
theorem gcd_pos_r (a : Int) {b : Int} (h : b ≠ 0) : 0 < gcd a b := by
  have := Int.gcd_pos_of_ne_zero_right a h
  unfold gcd; omega
theorem gcd_le_r (a : Int) {b : Int} (h : b ≠ 0) : (gcd a b).natAbs ≤ b.natAbs := by
  have := Int.gcd_le_natAbs_right a h
  unfold gcd; omega
theorem gcd_dvd_l (a b : Int) : gcd a b ∣ a := Int.gcd_dvd_left a b
theorem Sm.gcd_r (a : Int) {b : Int} (h : b ≠ 0) (s : Sm b) : Sm (gcd a b) := s.le (gcd_le_r a h)
theorem den_ne (x : Rat) : (x.den : Int) ≠ 0 := by have := x.den_nz; omega
/-! ### a Fraction's attributes -/
theorem tb : ¬ (("top" : Str) = "bottom") := by decide +kernel
def ff (t b : Int) : List (Str × V) := [("top", .int t), ("bottom", .int b)]
theorem ff_T (t b : Int) : (ff t b).lookup ("top" : Str) = some (.int t) := rfl
theorem ff_B (t b : Int) : (ff t b).lookup ("bottom" : Str) = some (.int b) := by
  have h : (("bottom" : Str) == "top") = false := by decide +kernel
  show List.lookup ("bottom" : Str) [(("top" : Str), V.int t), ("bottom", V.int b)] = _
  rw [List.lookup_cons, h]
  rfl
theorem ff_no (t b : Int) {m : Str} (h1 : (m == "top") = false) (h2 : (m == "bottom") = false) : (ff t b).lookup m = none := by
  show List.lookup m [(("top" : Str), V.int t), ("bottom", V.int b)] = _
  rw [List.lookup_cons, h1, List.lookup_cons, h2]
  rfl
theorem ff_new (t b : Int) : putF "bottom" (.int b) (putF "top" (.int t) []) = ff t b := by
  show (if ("top" : Str) = "bottom" then _ else (("top" : Str), V.int t) :: [(("bottom" : Str), V.int b)]) = ff t b
  rw [if_neg tb]
  rfl
theorem ff_put (a c t b : Int) : putF "bottom" (.int b) (putF "top" (.int t) (ff a c)) = ff t b := by
  show putF "bottom" (.int b) (if ("top" : Str) = "top" then (("top" : Str), V.int t) :: [(("bottom" : Str), V.int c)] else _) = ff t b
  rw [if_pos rfl]
  show (if ("top" : Str) = "bottom" then _ else (("top" : Str), V.int t) :: (if ("bottom" : Str) = "bottom" then (("bottom" : Str), V.int b) :: [] else _)) = ff t b
  rw [if_neg tb, if_pos rfl]
  rfl
/-- a Fraction of the value x stands at p -/
def FrAt (C : Addr) (H : Hp) (p : Addr) (x : Rat) : Prop := ∃ dx, H p = some (.ins C dx (ff x.num x.den))
theorem FrAt.mono {C : Addr} {H H' : Hp} {p : Addr} {x : Rat} (h : FrAt C H p x) (s : Same H H') : FrAt C H' p x := let ⟨dx, e⟩ := h; ⟨dx, s _ _ e⟩
/-! ### what the program's own rules say of Fractions -/
/-- the class of Fractions -/
structure FrC (K : PySem.W.Frag) (C : Addr) : Prop where
  cl : Cls K C
  nT : NoAttr K C "top"
  nB : NoAttr K C "bottom"
  c1 : PySem.W.findIn K (.ref C) "__class__" = some (some (.builtin "object.__class__"))
  c2 : PySem.W.specialIn K (.builtin "object.__class__") "__get__" = some (some (.builtin "getset_descriptor.__get__"))
  c3 : PySem.W.takesIn K (.builtin "object.__class__") = some true
  c4 : PySem.W.mroIn K C (.type "object") = some true
theorem FrAt.ty {K : PySem.W.Frag} {C : Addr} {H : Hp} {p : Addr} {x : Rat} (F : FrC K C) (h : FrAt C H p x) : TyOf K H (.ref p) (.ref C) := let ⟨_, e⟩ := h; TyOf.ins e F.cl F.c1 F.c2 F.c3 F.c4
def tTop (C : Addr) (ta : TE) : TE := fun σ H Q => ta σ H fun v H1 => ∃ p x, v = .ref p ∧ FrAt C H1 p x ∧ Q (.int x.num) H1
def tBot (C : Addr) (ta : TE) : TE := fun σ H Q => ta σ H fun v H1 => ∃ p x, v = .ref p ∧ FrAt C H1 p x ∧ Q (.int x.den) H1
section
variable {X : Cx} {C : Addr} {e o : Expr} {ta : TE} {pos : Pos}
/-- readings may be weakened -/
def Mono (t : TE) : Prop := ∀ σ H Q Q', (∀ v H1, Q v H1 → Q' v H1) → t σ H Q → t σ H Q'
theorem pe_top (F : FrC X.K C) (he : PE X e ta) (hb : attributeBase e "top" X.env (eval e X.env) = eval e X.env := by rfl) : PE X (.Attribute e "top" pos) (tTop C ta) := by
  intro pins s σ H Q I h
  refine attr_of hb (thn (he pins s σ H _ I h) fun u s1 ⟨v, H1, I1, r, p, x, e, ⟨dx, hp⟩, q⟩ => ?_)
  subst e
  obtain rfl : u = Value.ref p := r
  exact getattr_ok I1 hp F.cl F.nT (ff_T _ _) fun u' s' I' r' => ⟨_, H1, I', r', q⟩
theorem pe_bot (F : FrC X.K C) (he : PE X e ta) (hb : attributeBase e "bottom" X.env (eval e X.env) = eval e X.env := by rfl) : PE X (.Attribute e "bottom" pos) (tBot C ta) := by
  intro pins s σ H Q I h
  refine attr_of hb (thn (he pins s σ H _ I h) fun u s1 ⟨v, H1, I1, r, p, x, e, ⟨dx, hp⟩, q⟩ => ?_)
  subst e
  obtain rfl : u = Value.ref p := r
  exact getattr_ok I1 hp F.cl F.nB (ff_B _ _) fun u' s' I' r' => ⟨_, H1, I', r', q⟩
/-- x.m(..) of a Fraction -/
def tFrM (C : Addr) (sp : Sp) (E : XK) (ta : TE) (t : TA) : TE := fun σ H Q => ta σ H fun v H1 => ∃ p x, v = .ref p ∧ FrAt C H1 p x ∧ t σ H1 fun vs H2 => sp (v :: vs) H2 Q E
variable {CX : CXT} {k j : Nat} {ps : List Str} {sp : Sp} {E : XK} {m : Str} {p apos : Pos} {es : List Expr} {t : TA}
theorem pe_frm {pl : Sem Bool} (F : FrC X.K C) (he : PE X o ta) (M : MtB X.prog X.w X.K X.mg X.base CX C m k ps sp) (hr : Room j X.A) (hx : Passes CX X E) (ha : PA X (e :: es) t) (hj : k ≤ j := by decide) (h1 : (m == "top") = false := by decide +kernel) (h2 : (m == "bottom") = false := by decide +kernel)
    (hst : starEach (e :: es) X.env = (false, eval e X.env) :: starEach es X.env := by rfl) (hpl : (backTo pos (starEach es X.env)).any (·.1) = false := by rfl)
    (ht : eval (.Call (.Attribute o m apos) (e :: es) [] pos) X.env = (do
      let ov ← eval o X.env
      standAt apos.atName
      let (f, first) ← holding [ov] (getMethod ov m pl)
      callWith pos f first (backTo pos (starEach (e :: es) X.env)) (backToKw pos (keywordEach [] X.env))) := by rfl) : PE X (.Call (.Attribute o m apos) (e :: es) [] pos) (tFrM C sp E ta t) := by
  obtain ⟨f, fd, hm, b, d⟩ := M
  intro pins s σ H Q I h
  refine PySem.W.methodCall_KW (pl := pl) (thn (he pins s σ H _ I h) fun u s1 ⟨v, H1, I1, rx, a, x, ex, ⟨dx, ea⟩, q⟩ => ?_) ht
  subst ex
  obtain rfl : u = Value.ref a := rx
  refine getmeth_ok I1 ea F.cl hm (ff_no _ _ h1 h2) ?_
  refine PySem.W.callWith_K (first := [.ref a]) (h₀ := X.base) I.ok.mod.kin hm.kp (thn (ha pos pins s1 σ H1 _ I1 q) fun us s2 ⟨vs, H2, I2, r, q2⟩ => ⟨I2.kIn, ?_⟩) hst hpl
  exact run_fn (us := .ref a :: us) (vs := .ref a :: vs) (dvs := []) d (hr.mono hj) b .nil hx I2 (.cons rfl r) (by simpa using q2)
theorem pe_frm0 {pl : Sem Bool} (F : FrC X.K C) (he : PE X o ta) (M : MtB X.prog X.w X.K X.mg X.base CX C m k ps sp) (hr : Room j X.A) (hx : Passes CX X E) (hj : k ≤ j := by decide) (h1 : (m == "top") = false := by decide +kernel) (h2 : (m == "bottom") = false := by decide +kernel)
    (ht : eval (.Call (.Attribute o m apos) [] [] pos) X.env = (do
      let ov ← eval o X.env
      standAt apos.atName
      let (f, first) ← holding [ov] (getMethod ov m pl)
      callWith pos f first (backTo pos (starEach [] X.env)) (backToKw pos (keywordEach [] X.env))) := by rfl) : PE X (.Call (.Attribute o m apos) [] [] pos) (tFrM C sp E ta tNil) := by
  obtain ⟨f, fd, hm, b, d⟩ := M
  intro pins s σ H Q I h
  refine PySem.W.methodCall_KW (pl := pl) (thn (he pins s σ H _ I h) fun u s1 ⟨v, H1, I1, rx, a, x, ex, ⟨dx, ea⟩, q⟩ => ?_) ht
  subst ex
  obtain rfl : u = Value.ref a := rx
  refine getmeth_ok I1 ea F.cl hm (ff_no _ _ h1 h2) ?_
  exact PySem.W.callWith_K0 (first := [.ref a]) I1.kIn hm.kp (run_fn (us := [.ref a]) (vs := [.ref a]) (dvs := []) d (hr.mono hj) b .nil hx I1 (.cons rfl .nil) q)
/-! ### promises -/
def spDiv : Sp := fun vs H Q _ => ∃ a b : Int, vs = [.int a, .int b] ∧ Q (.int (gcd a b)) H
def spInit (C : Addr) : Sp := fun vs H Q _ => ∃ (p dx : Addr) (a b : Int), vs = [.ref p, .int a, .int b] ∧ H p = some (.ins C dx []) ∧ b ≠ 0 ∧ Sm b ∧ ∀ H', H' = upd H p (.ins C dx (ff (Rat.divInt a b).num (Rat.divInt a b).den)) → Q .non H'
/-- a new Fraction of the value x comes -/
def NewFr (C : Addr) (H : Hp) (Q : VK) (x : Rat) : Prop := ∀ (r : Addr) (H' : Hp), H r = none → Same H H' → FrAt C H' r x → Q (.ref r) H'
def spLow (C : Addr) : Sp := fun vs H Q _ => ∃ t b : Int, vs = [.int t, .int b] ∧ ∀ (r dx : Addr) (H' : Hp), H r = none → Same H H' → H' r = some (.ins C dx (ff t b)) → Q (.ref r) H'
def spR2 (C : Addr) (f : Rat → Rat → Rat) (pre : Rat → Rat → Prop) : Sp := fun vs H Q _ => ∃ (p q : Addr) (x y : Rat), vs = [.ref p, .ref q] ∧ FrAt C H p x ∧ FrAt C H q y ∧ SmR x ∧ SmR y ∧ pre x y ∧ NewFr C H Q (f x y)
/-- a Fraction made -/
theorem mk_fr {H : Hp} {a b : Int} {Q : VK} {E : XK} {x dx : Addr} (nx : H x = none) (nd : H dx = none) (hb : b ≠ 0) (hs : Sm b) (k : ∀ H' : Hp, Same H H' → FrAt C H' x (Rat.divInt a b) → Q .non H') :
    spInit C [.ref x, .int a, .int b] (upd (upd H dx (.own x)) x (.ins C dx [])) Q E := by
  refine ⟨x, dx, a, b, rfl, upd_same, hb, hs, fun H' e => ?_⟩
  subst e
  refine k _ (fun c o e => ?_) ⟨dx, upd_same⟩
  rw [upd_ne (ne_of_none e nx), upd_ne (ne_of_none e nx), upd_ne (ne_of_none e nd)]
  exact e
/-- Fraction(a, b) -/
def tMkFr (C : Addr) (dvs : List V) (t : TA) : TE := fun σ H Q => t σ H fun vs H1 => ∃ a b : Int, vs ++ dvs = [.int a, .int b] ∧ b ≠ 0 ∧ Sm b ∧ NewFr C H1 Q (Rat.divInt a b)
theorem pe_mkfr {dvs : List V} {x : Str} (F : MkB X.prog X.w X.K X.mg X.base CX C k ["self", "top", "bottom"] dvs (spInit C)) (hr : Room j X.A) (hm : X.mg x = some (.ref C)) (hx : Passes CX X E) (ha : PA X (e :: es) t) (hj : k + 1 ≤ j := by decide) (hg : Gl X x := by rfl) (hdb : (x == ("__debug__" : Str)) = false := by decide)
    (he : starEach (e :: es) X.env = (false, eval e X.env) :: starEach es X.env := by rfl) (hpl : (backTo pos (starEach es X.env)).any (·.1) = false := by rfl) : PE X (.Call (.Name x p) (e :: es) [] pos) (tMkFr C dvs t) := by
  obtain ⟨f, fd, ds, M, b, c, d⟩ := F
  intro pins s σ H Q I h
  refine wpAny_Call_Name_kw (ld_glob I hg hm ?_ hdb)
  refine PySem.W.callWith_K (h₀ := X.base) I.ok.mod.kin M.kp (thn (ha pos pins s σ H _ I h) fun us s1 ⟨vs, H1, I1, r, a', b', ev, hb, hs, q⟩ => ⟨I1.kIn, ?_⟩) he hpl
  refine run_make M d (hr.mono hj) b c hx I1 r fun y dx n1 n2 _ => ?_
  rw [ev]
  exact mk_fr n1 n2 hb hs fun H' s' f' => ⟨rfl, q y H' n1 s' f'⟩
/-- isinstance(e, Fraction) of a Fraction -/
def tIsFr (C : Addr) (ta : TE) : TE := fun σ H Q => ta σ H fun v H1 => ∃ p x, v = .ref p ∧ FrAt C H1 p x ∧ Q (.bl true) H1
end
end G
namespace G
open PySem L2
def topS (i : Nat) : Stmt := PySem.Challenge.pw_gainstream_k41_exchanged_holds.main.body.getD i (.Pass ⟨0, 0, 0, 0⟩)
abbrev s_divisor : Stmt := topS 6
abbrev s_in_lowest_terms : Stmt := topS 8
abbrev s_with_other_sign : Stmt := topS 10
abbrev s_row_solved : Stmt := topS 11
abbrev s_row_replaced : Stmt := topS 12
abbrev s_exchanged_table : Stmt := topS 13
abbrev s_exchanged : Stmt := topS 14
abbrev s_law_cell_at : Stmt := topS 16
abbrev s_law_whole : Stmt := topS 17
abbrev s_law_pair : Stmt := topS 18
abbrev s_law_pairs : Stmt := topS 19
abbrev s_law_sum : Stmt := topS 20
abbrev s_law_dot : Stmt := topS 21
abbrev s_law_same : Stmt := topS 22
abbrev s_law_upto : Stmt := topS 23
abbrev s_law_made : Stmt := topS 24
abbrev s_law_tops_and_bottoms : Stmt := topS 25
abbrev s_law_values : Stmt := topS 26
abbrev s_law_lines : Stmt := topS 27
abbrev s_law_holds : Stmt := topS 28
abbrev s_law_numbers : Stmt := topS 29
abbrev s_law_copy : Stmt := topS 30
abbrev s_law_shown : Stmt := topS 31
abbrev s_law : Stmt := topS 32
abbrev s_Fraction_init : Stmt := inClass (topS 7) 0
abbrev s_Fraction_plus : Stmt := inClass (topS 7) 1
abbrev s_Fraction_minus : Stmt := inClass (topS 7) 2
abbrev s_Fraction_times : Stmt := inClass (topS 7) 3
abbrev s_Fraction_over : Stmt := inClass (topS 7) 4
abbrev s_Fraction_sign : Stmt := inClass (topS 7) 7
/-- where the classes lie -/
structure Ad where
  Fraction : Addr
  GainError : Addr
  NoNumber : Addr
  NoExchange : Addr
/-- what the walk asks of the text as the top has made it -/
structure TX (K : PySem.W.Frag) (mg : Str → Option Value) (a : Ad) : Prop where
  d_divisor : FDe K mg "divisor" s_divisor ["one", "other"]
  d_in_lowest_terms : FDe K mg "in_lowest_terms" s_in_lowest_terms ["top", "bottom"]
  d_with_other_sign : FDe K mg "with_other_sign" s_with_other_sign ["number"]
  d_row_solved : FDe K mg "row_solved" s_row_solved ["row", "column"]
  d_row_replaced : FDe K mg "row_replaced" s_row_replaced ["row", "column", "solved"]
  d_exchanged_table : FDe K mg "exchanged_table" s_exchanged_table ["table", "i", "column"]
  d_exchanged : FDe K mg "exchanged" s_exchanged ["grid", "i", "j"]
  d_law_cell_at : FDe K mg "_law_cell_at" s_law_cell_at ["_law_script", "_law_k"]
  d_law_whole : FDe K mg "_law_whole" s_law_whole ["_law_found"]
  d_law_pair : FDe K mg "_law_pair" s_law_pair ["_law_found"]
  d_law_pairs : FDe K mg "_law_pairs" s_law_pairs ["_law_found", "_law_count"]
  d_law_sum : FDe K mg "_law_sum" s_law_sum ["_law_pairs_here"]
  d_law_dot : FDe K mg "_law_dot" s_law_dot ["_law_ones", "_law_others"]
  d_law_same : FDe K mg "_law_same" s_law_same ["_law_one", "_law_other"]
  d_law_made : FDe K mg "_law_made" s_law_made ["_law_pairs_here"]
  d_law_tops_and_bottoms : FDe K mg "_law_tops_and_bottoms" s_law_tops_and_bottoms ["_law_cells", "_law_count"]
  d_law_values : FDe K mg "_law_values" s_law_values ["_law_rows", "_law_bounds", "_law_first"]
  d_law_lines : FDe K mg "_law_lines" s_law_lines ["_law_some", "_law_values_here"]
  d_law_holds : FDe K mg "_law_holds" s_law_holds ["_law_some", "_law_rows", "_law_bounds"]
  d_law_numbers : FDe K mg "_law_numbers" s_law_numbers ["_law_found", "_law_due"]
  d_law_copy : FDe K mg "_law_copy" s_law_copy ["_law_some"]
  d_law_shown : FDe K mg "_law_shown" s_law_shown ["_law_some"]
  d_law : FDe K mg "law" s_law ["_law_script"]
  cl_Fraction : Cls K a.Fraction
  mg_Fraction : mg "Fraction" = some (.ref a.Fraction)
  na_Fraction_top : NoAttr K a.Fraction "top"
  na_Fraction_bottom : NoAttr K a.Fraction "bottom"
  i_Fraction : IDe K a.Fraction "Fraction.__init__" s_Fraction_init ["self", "top", "bottom"] [[], [V.int 1]]
  m_Fraction_plus : MDe K a.Fraction "plus" "Fraction.plus" s_Fraction_plus ["self", "other"]
  m_Fraction_minus : MDe K a.Fraction "minus" "Fraction.minus" s_Fraction_minus ["self", "other"]
  m_Fraction_times : MDe K a.Fraction "times" "Fraction.times" s_Fraction_times ["self", "other"]
  m_Fraction_over : MDe K a.Fraction "over" "Fraction.over" s_Fraction_over ["self", "other"]
  m_Fraction_sign : MDe K a.Fraction "sign" "Fraction.sign" s_Fraction_sign ["self"]
  c1_Fraction : PySem.W.findIn K (.ref a.Fraction) "__class__" = some (some (.builtin "object.__class__"))
  c4_Fraction : PySem.W.mroIn K a.Fraction (.type "object") = some true
  c2 : PySem.W.specialIn K (.builtin "object.__class__") "__get__" = some (some (.builtin "getset_descriptor.__get__"))
  c3 : PySem.W.takesIn K (.builtin "object.__class__") = some true
  k_Fraction_Fraction : PySem.W.kitOne K (.ref a.Fraction) (.ref a.Fraction) = some true
  k_int_bool : PySem.W.kitOne K (.type "int") (.type "bool") = some false
  k_int_int : PySem.W.kitOne K (.type "int") (.type "int") = some true
  k_list_list : PySem.W.kitOne K (.type "list") (.type "list") = some true
  k_tuple_tuple : PySem.W.kitOne K (.type "tuple") (.type "tuple") = some true
  z_abs : mg "abs" = none
  z_bool : mg "bool" = none
  z_enumerate : mg "enumerate" = none
  z_int : mg "int" = none
  z_isinstance : mg "isinstance" = none
  z_len : mg "len" = none
  z_list : mg "list" = none
  z_range : mg "range" = none
  z_tuple : mg "tuple" = none
  z_zip : mg "zip" = none
section
variable {P : Program} {w : World} {K : PySem.W.Frag} {mg : Str → Option Value} {base : Heap} {a : Ad}
theorem sc_divisor : FnScope ["one", "other", "rest"] ["one", "other"] (defScope s_divisor) := ⟨rfl, rfl, rfl, by decide +kernel, rfl, by decide +kernel, by decide +kernel⟩
theorem sc_in_lowest_terms : FnScope ["top", "bottom", "made"] ["top", "bottom"] (defScope s_in_lowest_terms) := ⟨rfl, rfl, rfl, by decide +kernel, rfl, by decide +kernel, by decide +kernel⟩
theorem sc_with_other_sign : FnScope ["number"] ["number"] (defScope s_with_other_sign) := ⟨rfl, rfl, rfl, by decide +kernel, rfl, by decide +kernel, by decide +kernel⟩
theorem sc_row_solved : FnScope ["row", "column", "by", "solved"] ["row", "column"] (defScope s_row_solved) := ⟨rfl, rfl, rfl, by decide +kernel, rfl, by decide +kernel, by decide +kernel⟩
theorem sc_row_replaced : FnScope ["row", "column", "solved", "by", "replaced"] ["row", "column", "solved"] (defScope s_row_replaced) := ⟨rfl, rfl, rfl, by decide +kernel, rfl, by decide +kernel, by decide +kernel⟩
theorem sc_exchanged_table : FnScope ["table", "i", "column", "solved", "fresh"] ["table", "i", "column"] (defScope s_exchanged_table) := ⟨rfl, rfl, rfl, by decide +kernel, rfl, by decide +kernel, by decide +kernel⟩
theorem sc_exchanged : FnScope ["grid", "i", "j", "lefts", "tops", "table"] ["grid", "i", "j"] (defScope s_exchanged) := ⟨rfl, rfl, rfl, by decide +kernel, rfl, by decide +kernel, by decide +kernel⟩
theorem sc_law_cell_at : FnScope ["_law_script", "_law_k"] ["_law_script", "_law_k"] (defScope s_law_cell_at) := ⟨rfl, rfl, rfl, by decide +kernel, rfl, by decide +kernel, by decide +kernel⟩
theorem sc_law_whole : FnScope ["_law_found"] ["_law_found"] (defScope s_law_whole) := ⟨rfl, rfl, rfl, by decide +kernel, rfl, by decide +kernel, by decide +kernel⟩
theorem sc_law_pair : FnScope ["_law_found"] ["_law_found"] (defScope s_law_pair) := ⟨rfl, rfl, rfl, by decide +kernel, rfl, by decide +kernel, by decide +kernel⟩
theorem sc_law_pairs : FnScope ["_law_found", "_law_count", "_law_pairs_here"] ["_law_found", "_law_count"] (defScope s_law_pairs) := ⟨rfl, rfl, rfl, by decide +kernel, rfl, by decide +kernel, by decide +kernel⟩
theorem sc_law_sum : FnScope ["_law_pairs_here", "_law_top", "_law_bottom", "_law_one"] ["_law_pairs_here"] (defScope s_law_sum) := ⟨rfl, rfl, rfl, by decide +kernel, rfl, by decide +kernel, by decide +kernel⟩
theorem sc_law_dot : FnScope ["_law_ones", "_law_others"] ["_law_ones", "_law_others"] (defScope s_law_dot) := ⟨rfl, rfl, rfl, by decide +kernel, rfl, by decide +kernel, by decide +kernel⟩
theorem sc_law_same : FnScope ["_law_one", "_law_other"] ["_law_one", "_law_other"] (defScope s_law_same) := ⟨rfl, rfl, rfl, by decide +kernel, rfl, by decide +kernel, by decide +kernel⟩
theorem sc_law_made : FnScope ["_law_pairs_here"] ["_law_pairs_here"] (defScope s_law_made) := ⟨rfl, rfl, rfl, by decide +kernel, rfl, by decide +kernel, by decide +kernel⟩
theorem sc_law_tops_and_bottoms : FnScope ["_law_cells", "_law_count", "_law_pairs_here", "_law_k", "_law_cell", "_law_at", "_law_top"] ["_law_cells", "_law_count"] (defScope s_law_tops_and_bottoms) := ⟨rfl, rfl, rfl, by decide +kernel, rfl, by decide +kernel, by decide +kernel⟩
theorem sc_law_values : FnScope ["_law_rows", "_law_bounds", "_law_first", "_law_values_here", "_law_row", "_law_bound", "_law_used"] ["_law_rows", "_law_bounds", "_law_first"] (defScope s_law_values) := ⟨rfl, rfl, rfl, by decide +kernel, rfl, by decide +kernel, by decide +kernel⟩
theorem sc_law_lines : FnScope ["_law_some", "_law_values_here", "_law_tops", "_law_line", "_law_left", "_law_told"] ["_law_some", "_law_values_here"] (defScope s_law_lines) := ⟨rfl, rfl, rfl, by decide +kernel, rfl, by decide +kernel, by decide +kernel⟩
theorem sc_law_holds : FnScope ["_law_some", "_law_rows", "_law_bounds", "_law_n", "_law_at", "_law_first"] ["_law_some", "_law_rows", "_law_bounds"] (defScope s_law_holds) := ⟨rfl, rfl, rfl, by decide +kernel, rfl, by decide +kernel, by decide +kernel⟩
theorem sc_law_numbers : FnScope ["_law_found", "_law_due"] ["_law_found", "_law_due"] (defScope s_law_numbers) := ⟨rfl, rfl, rfl, by decide +kernel, rfl, by decide +kernel, by decide +kernel⟩
theorem sc_law_copy : FnScope ["_law_some"] ["_law_some"] (defScope s_law_copy) := ⟨rfl, rfl, rfl, by decide +kernel, rfl, by decide +kernel, by decide +kernel⟩
theorem sc_law_shown : FnScope ["_law_some"] ["_law_some"] (defScope s_law_shown) := ⟨rfl, rfl, rfl, by decide +kernel, rfl, by decide +kernel, by decide +kernel⟩
theorem sc_law : FnScope ["_law_script", "_law_m", "_law_n", "_law_pairs_here", "_law_bounds", "_law_rows", "_law_table", "_law_row", "_law_bound", "_law_some", "_law_cell", "_law_i", "_law_j", "_law_handed", "_law_before", "_law_found", "_law_lefts", "_law_tops", "_law_line"] ["_law_script"] (defScope s_law) := ⟨rfl, rfl, rfl, by decide +kernel, rfl, by decide +kernel, by decide +kernel⟩
theorem sc_Fraction_init : FnScope ["self", "top", "bottom", "common"] ["self", "top", "bottom"] (defScope s_Fraction_init) := ⟨rfl, rfl, rfl, by decide +kernel, rfl, by decide +kernel, by decide +kernel⟩
theorem sc_Fraction_plus : FnScope ["self", "other", "common", "own", "top", "left"] ["self", "other"] (defScope s_Fraction_plus) := ⟨rfl, rfl, rfl, by decide +kernel, rfl, by decide +kernel, by decide +kernel⟩
theorem sc_Fraction_minus : FnScope ["self", "other"] ["self", "other"] (defScope s_Fraction_minus) := ⟨rfl, rfl, rfl, by decide +kernel, rfl, by decide +kernel, by decide +kernel⟩
theorem sc_Fraction_times : FnScope ["self", "other", "first", "second", "top"] ["self", "other"] (defScope s_Fraction_times) := ⟨rfl, rfl, rfl, by decide +kernel, rfl, by decide +kernel, by decide +kernel⟩
theorem sc_Fraction_over : FnScope ["self", "other"] ["self", "other"] (defScope s_Fraction_over) := ⟨rfl, rfl, rfl, by decide +kernel, rfl, by decide +kernel, by decide +kernel⟩
theorem sc_Fraction_sign : FnScope ["self"] ["self"] (defScope s_Fraction_sign) := ⟨rfl, rfl, rfl, by decide +kernel, rfl, by decide +kernel, by decide +kernel⟩
end
end G
open PySem L2 in
local macro_rules | `(tactic| walk_at "kit") => `(tactic| first | exact G.TX.k_Fraction_Fraction (by assumption) | exact G.TX.k_int_bool (by assumption) | exact G.TX.k_int_int (by assumption) | exact G.TX.k_list_list (by assumption) | exact G.TX.k_tuple_tuple (by assumption))
open PySem L2 in
local macro_rules | `(tactic| walk_at "sm") => `(tactic| first | assumption | (refine And.left (?_ : G.SmR _); assumption) | (refine And.right (?_ : G.SmR _); assumption))
open PySem L2 in
local macro_rules | `(tactic| walk_at "fa") => `(tactic| first | rfl | assumption | exact True.intro | exact (fun _ h => h) | ((with_reducible show L2.TyOf _ _ _ _); first | exact TyOf.int _ | exact TyOf.str _ | exact TyOf.bl _ | exact TyOf.non | exact G.FrAt.ty (G.TX.fr (by assumption)) (by walk_at "fa")) | ((with_reducible show PySem.W.kitOne _ _ _ = _); walk_at "kit") | ((with_reducible show G.FrAt _ _ _ _); apply G.FrAt.up; assumption; walk_at "fa") | ((with_reducible show L2.SqL _ _ _ _); apply Same.seq; assumption; walk_at "fa") | (show (0 : Int) < _; decide) | (refine (And.intro ?_ ?_ : CDiv _ _) <;> decide) | (refine (And.intro ?_ (And.intro ?_ ?_) : CPow _ _) <;> decide) | exact (PySem.IntMulOk.of_right (by decide)) | exact (PySem.IntMulOk.of_left (by decide)) | (refine (And.intro ?_ ?_ : CMulB _ _) <;> walk_at "sm"))
open PySem L2 in
local macro_rules | `(tactic| walk_at "rd") => `(tactic| repeat (first | apply @Exists.intro V | apply @Exists.intro Int | apply @Exists.intro Addr | apply @Exists.intro Rat | apply @Exists.intro Bool | apply @Exists.intro Value | apply @Exists.intro (List V) | apply @Exists.intro (List (Str × V)) | apply @Exists.intro Str | apply @Exists.intro (List Int) | refine And.intro (by walk_at "fa") ?_ | refine L2.iteT ?_ | refine L2.iteF ?_))
namespace G
open PySem L2
section
variable {P : Program} {w : World} {K : PySem.W.Frag} {mg : Str → Option Value} {base : Heap} {a : Ad}
theorem TX.fr (T : TX K mg a) : FrC K a.Fraction := ⟨T.cl_Fraction, T.na_Fraction_top, T.na_Fraction_bottom, T.c1_Fraction, T.c2, T.c3, T.c4_Fraction⟩
theorem gcd_turn {a b n m : Int} (h : gcd n m = gcd a b) (hm : 0 ≤ m) (p : m ≠ 0) : 0 ≤ n % m ∧ n % m < m ∧ gcd m (n % m) = gcd a b :=
  ⟨Int.emod_nonneg n p, Int.emod_lt_of_pos n (by omega), by rw [gcd_step n m (by omega), h]⟩
theorem ok_divisor (T : TX K mg a) : FnB P w K mg base CX0 "divisor" 1 ["one", "other"] spDiv := by
  refine T.d_divisor.ok sc_divisor (fun vs H Q E h => ?_) (fun f cdv A outer s H vs Q E hr h => ?_)
  · obtain ⟨a, b, rfl, _⟩ := h
    rfl
  · obtain ⟨a, b, rfl, k⟩ := h
    refine ⟨_, (pss_cons (ps_set (i := 0) sc_divisor.nd rfl (Or.inl rfl) (pe_callB call_abs (by rfl) T.z_abs PyProof.Rows.boot_abs (pa_cons (pv 0) pa_nil)))
      (pss_cons (ps_set (i := 1) sc_divisor.nd rfl (Or.inl rfl) (pe_callB call_abs (by rfl) T.z_abs PyProof.Rows.boot_abs (pa_cons (pv 1) pa_nil)))
      (pss_cons (ps_while PassesOwn.never (pt_cmpR op_ne (pv 1) pe_int (nomark _)) (pss_cons (ps_set (i := 2) sc_divisor.nd rfl (Or.inl rfl) (pe_op op_mod (pv 0) (pv 1)))
      (pss_cons (ps_set (i := 0) sc_divisor.nd rfl (Or.inl rfl) (pv 1))
      (pss_one (ps_set (i := 1) sc_divisor.nd rfl (Or.inl rfl) (pv 2))))))
      (pss_one (ps_ret (pv 0)))))), ?_⟩
    refine ⟨_, rfl, _, rfl, _, rfl, _, rfl, ?_⟩
    refine while_by (fun σ H' => ∃ (n m : Int) (r : Option V), σ = [some (.int n), some (.int m), r] ∧ H' = H ∧ 0 ≤ n ∧ 0 ≤ m ∧ gcd n m = gcd a b) (fun σ _ => match σ with | [_, some (.int m), _] => m.toNat | _ => 0) ?_ ?_ ?_
    · refine ⟨_, _, _, rfl, rfl, ?_, ?_, gcd_abs a b⟩ <;> split <;> omega
    · rintro σ H' ⟨n, m, r, rfl, rfl, hn, hm, hg⟩
      refine ⟨_, rfl, rfl, _, rfl, ?_⟩
      by_cases z : m = 0
      · subst z
        refine iteNS rfl ?_
        refine ⟨_, rfl, ?_⟩
        rw [gcd_zero n hn] at hg
        rw [hg]
        exact k
      · refine iteC (by rw [neV z]; rfl) ?_
        obtain ⟨g1, g2, g3⟩ := gcd_turn hg hm z
        refine ⟨_, rfl, _, rfl, _, _, rfl, rfl, (by show (0 : Int) < m; omega), _, rfl, _, rfl, ⟨_, _, _, rfl, rfl, hm, g1, g3⟩, ?_⟩
        show (n % m).toNat < m.toNat
        omega
    · rintro σ H' Q1 Q2 hq ⟨v, e, s1, c, ec, q⟩
      exact ⟨v, e, s1, c, ec, hq _ _ q⟩
theorem ok_init (T : TX K mg a) : ∀ dvs ∈ [[], [V.int 1]], MkB P w K mg base CX0 a.Fraction 2 ["self", "top", "bottom"] dvs (spInit a.Fraction) := by
  refine T.i_Fraction.ok sc_Fraction_init (fun vs H Q E h => ?_) (fun f cdv A outer s H vs Q E hr h => ?_)
  · obtain ⟨p, dx, n, b, rfl, _⟩ := h
    rfl
  · obtain ⟨p, dx, n, b, rfl, hp, hb, sb, k⟩ := h
    refine ⟨_, (pss_cons (ps_if (pt_cmpR op_eq (pv 2) pe_int (nomark _)) (pss_one ps_never) pss_nil)
      (pss_cons (ps_set (i := 3) sc_Fraction_init.nd rfl (Or.inl rfl) (pe_fn (ok_divisor T) hr pass0 (pa_cons (pv 1) (pa_cons (pv 2) pa_nil))))
      (pss_cons (ps_if (pt_cmpR op_lt (pv 2) pe_int (nomark _)) (pss_one (ps_set (i := 3) sc_Fraction_init.nd rfl (Or.inl rfl) (pe_un un_neg (pv 3)))) pss_nil)
      (pss_cons (ps_fld (pv 0) (pe_op op_fdivB (pv 1) (pv 3)) rfl)
      (pss_one (ps_fld (pv 0) (pe_op op_fdivB (pv 2) (pv 3)) rfl)))))), ?_⟩
    refine ⟨_, rfl, rfl, _, rfl, ?_⟩
    refine iteD (neV hb) ?_
    refine ⟨_, rfl, _, rfl, n, b, rfl, ?_⟩
    refine ⟨_, rfl, _, _, rfl, rfl, _, rfl, ?_⟩
    obtain ⟨i1, i2⟩ := init_spec n b hb
    have gp := gcd_pos_r n hb
    have gs := Sm.gcd_r n hb sb
    have fin : ∀ c : Int, c ≠ 0 → Sm c → n.fdiv c = (Rat.divInt n b).num → b.fdiv c = ((Rat.divInt n b).den : Int) →
        tSeq (sFld K (tVar 0) (tOp (rI CDivB fun i j => .int (i.fdiv j)) (tVar 1) (tVar 3)) "top") (sFld K (tVar 0) (tOp (rI CDivB fun i j => .int (i.fdiv j)) (tVar 2) (tVar 3)) "bottom") { nx := fun _ H' => Q .non H', rt := Q } [some (.ref p), some (.int n), some (.int b), some (.int c)] H := by
      intro c hc hs e1 e2
      refine ⟨_, rfl, _, rfl, _, _, rfl, rfl, ⟨hc, hs⟩, _, rfl, p, a.Fraction, dx, _, rfl, hp, T.cl_Fraction, T.na_Fraction_top, (by show 0 < 1000; decide), ?_⟩
      refine ⟨_, rfl, _, rfl, _, _, rfl, rfl, ⟨hc, hs⟩, _, rfl, p, a.Fraction, dx, _, rfl, upd_same, T.cl_Fraction, T.na_Fraction_bottom, (by show 1 < 1000; decide), ?_⟩
      refine k _ ?_
      rw [upd_upd]
      dsimp only
      rw [e1, e2, ff_new]
    refine ifB (fun hn => ?_) (fun hn => ?_)
    · rw [if_pos hn] at i1 i2
      refine ⟨_, rfl, _, rfl, ?_⟩
      exact fin _ (by omega) (gs.le (by omega)) i1 i2
    · rw [if_neg hn] at i1 i2
      exact fin _ (by omega) gs i1 i2
theorem sm1 : Sm 1 := Nat.one_lt_two_pow (by decide)
theorem mk2 (T : TX K mg a) : MkB P w K mg base CX0 a.Fraction 2 ["self", "top", "bottom"] [] (spInit a.Fraction) := ok_init T _ (by simp)
theorem mk1 (T : TX K mg a) : MkB P w K mg base CX0 a.Fraction 2 ["self", "top", "bottom"] [.int 1] (spInit a.Fraction) := ok_init T _ (by simp)
theorem ok_in_lowest_terms (T : TX K mg a) : FnB P w K mg base CX0 "in_lowest_terms" 4 ["top", "bottom"] (spLow a.Fraction) := by
  refine T.d_in_lowest_terms.ok sc_in_lowest_terms (fun vs H Q E h => ?_) (fun f cdv A outer s H vs Q E hr h => ?_)
  · obtain ⟨t, b, rfl, _⟩ := h
    rfl
  · obtain ⟨t, b, rfl, k⟩ := h
    refine ⟨_, (pss_cons (ps_set (i := 2) sc_in_lowest_terms.nd rfl (Or.inl rfl) (pe_mkfr (mk1 T) hr T.mg_Fraction pass0 (pa_cons pe_int pa_nil)))
      (pss_cons (ps_fld (pv 2) (pv 0) rfl)
      (pss_cons (ps_fld (pv 2) (pv 1) rfl)
      (pss_one (ps_ret (pv 2)))))), ?_⟩
    refine ⟨0, 1, rfl, by decide, sm1, fun x H1 nx s1 ⟨dx, hx⟩ => ?_⟩
    refine ⟨_, rfl, _, rfl, x, a.Fraction, dx, _, rfl, hx, T.cl_Fraction, T.na_Fraction_top, (by show 2 < 1000; decide), ?_⟩
    refine ⟨_, rfl, _, rfl, x, a.Fraction, dx, _, rfl, upd_same, T.cl_Fraction, T.na_Fraction_bottom, (by show 2 < 1000; decide), ?_⟩
    refine ⟨_, rfl, ?_⟩
    refine k x dx _ nx (fun c o e => ?_) ?_
    · rw [upd_ne (ne_of_none e nx), upd_ne (ne_of_none e nx)]
      exact s1 _ _ e
    · rw [upd_same, ff_put]
abbrev always : Rat → Rat → Prop := fun _ _ => True
theorem ok_plus (T : TX K mg a) : MtB P w K mg base CX0 a.Fraction "plus" 5 ["self", "other"] (spR2 a.Fraction (fun x y => x + y) always) := by
  refine T.m_Fraction_plus.ok sc_Fraction_plus (fun vs H Q E h => ?_) (fun f cdv A outer s H vs Q E hr h => ?_)
  · obtain ⟨p, q, x, y, rfl, _⟩ := h
    rfl
  · obtain ⟨p, q, x, y, rfl, hp, hq, sx, sy, _, k⟩ := h
    refine ⟨_, (pss_cons (ps_set (i := 2) sc_Fraction_plus.nd rfl (Or.inl rfl) (pe_fn (ok_divisor T) hr pass0 (pa_cons (pe_bot T.fr (pv 0)) (pa_cons (pe_bot T.fr (pv 1)) pa_nil))))
      (pss_cons (ps_set (i := 3) sc_Fraction_plus.nd rfl (Or.inl rfl) (pe_op op_fdivB (pe_bot T.fr (pv 0)) (pv 2)))
      (pss_cons (ps_set (i := 4) sc_Fraction_plus.nd rfl (Or.inl rfl) (pe_op op_add (pe_op op_mulB (pe_top T.fr (pv 0)) (pe_op op_fdivB (pe_bot T.fr (pv 1)) (pv 2))) (pe_op op_mulB (pe_top T.fr (pv 1)) (pv 3))))
      (pss_cons (ps_set (i := 5) sc_Fraction_plus.nd rfl (Or.inl rfl) (pe_fn (ok_divisor T) hr pass0 (pa_cons (pv 4) (pa_cons (pv 2) pa_nil))))
      (pss_one (ps_ret (pe_fn (ok_in_lowest_terms T) hr pass0 (pa_cons (pe_op op_fdivB (pv 4) (pv 5)) (pa_cons (pe_op op_mulB (pv 3) (pe_op op_fdivB (pe_bot T.fr (pv 1)) (pv 5))) pa_nil))))))))), ?_⟩
    have hx := den_ne x
    have hy := den_ne y
    have xp := den_pos x
    have yp := den_pos y
    have gp := gcd_pos_r (x.den : Int) hy
    have gs := Sm.gcd_r (x.den : Int) hy sy.2
    have gn : gcd x.den y.den ≠ 0 := by omega
    have so : Sm ((x.den : Int).fdiv (gcd x.den y.den)) := sx.2.le (fdiv_le _ gp (by omega))
    have so2 : Sm ((y.den : Int).fdiv (gcd x.den y.den)) := sy.2.le (fdiv_le _ gp (by omega))
    refine ⟨_, rfl, p, x, rfl, hp, _, rfl, q, y, rfl, hq, _, _, rfl, ?_⟩
    refine ⟨_, rfl, p, x, rfl, hp, _, rfl, _, _, rfl, rfl, ⟨by omega, gs⟩, ?_⟩
    refine ⟨_, rfl, p, x, rfl, hp, _, rfl, q, y, rfl, hq, _, rfl, _, _, rfl, rfl, ⟨by omega, gs⟩, _, _, rfl, rfl, ⟨sx.1, so2⟩, _, rfl, q, y, rfl, hq, _, rfl, _, _, rfl, rfl, ⟨sy.1, so⟩, _, _, rfl, rfl, ?_⟩
    refine ⟨_, rfl, _, rfl, _, _, rfl, ?_⟩
    generalize htop : x.num * (y.den : Int).fdiv (gcd x.den y.den) + y.num * (x.den : Int).fdiv (gcd x.den y.den) = top
    have lp := gcd_pos_r top gn
    have ls := Sm.gcd_r top gn gs
    refine ⟨_, rfl, _, rfl, _, _, rfl, rfl, ⟨by omega, ls⟩, _, rfl, _, rfl, q, y, rfl, hq, _, rfl, _, _, rfl, rfl, ⟨by omega, ls⟩, _, _, rfl, rfl, ⟨so, sy.2.le (fdiv_le _ lp (by omega))⟩, _, _, rfl, ?_⟩
    intro r dx H' nr s1 h1
    obtain ⟨e1, e2⟩ := add_spec x y
    try dsimp only at e1 e2
    rw [htop] at e1 e2
    refine k r H' nr s1 ⟨dx, ?_⟩
    show H' r = some (.ins a.Fraction dx (ff (x + y).num (x + y).den))
    rw [htop] at h1
    rw [h1, ← e1, ← e2]
theorem ok_minus (T : TX K mg a) : MtB P w K mg base CX0 a.Fraction "minus" 6 ["self", "other"] (spR2 a.Fraction (fun x y => x - y) always) := by
  refine T.m_Fraction_minus.ok sc_Fraction_minus (fun vs H Q E h => ?_) (fun f cdv A outer s H vs Q E hr h => ?_)
  · obtain ⟨p, q, x, y, rfl, _⟩ := h
    rfl
  · obtain ⟨p, q, x, y, rfl, hp, hq, sx, sy, _, k⟩ := h
    refine ⟨_, (pss_one (ps_ret (pe_frm T.fr (pv 0) (ok_plus T) hr pass0 (pa_cons (pe_fn (ok_in_lowest_terms T) hr pass0 (pa_cons (pe_un un_neg (pe_top T.fr (pv 1))) (pa_cons (pe_bot T.fr (pv 1)) pa_nil))) pa_nil)))), ?_⟩
    refine ⟨_, rfl, p, x, rfl, hp, _, rfl, q, y, rfl, hq, _, rfl, _, rfl, q, y, rfl, hq, _, _, rfl, fun r dx H1 nr s1 h1 => ?_⟩
    have f1 : FrAt a.Fraction H1 r (-y) := ⟨dx, h1⟩
    refine ⟨p, r, x, -y, rfl, hp.mono s1, f1, sx, ⟨by show Sm (-y.num); exact sy.1.le (by omega), sy.2⟩, trivial, fun r' H2 nr' s2 f2 => ?_⟩
    refine k r' H2 (s1.free nr') (s1.trans s2) ?_
    show FrAt a.Fraction H2 r' (x - y)
    rw [Rat.sub_eq_add_neg]
    exact f2
theorem ok_times (T : TX K mg a) : MtB P w K mg base CX0 a.Fraction "times" 5 ["self", "other"] (spR2 a.Fraction (fun x y => x * y) always) := by
  refine T.m_Fraction_times.ok sc_Fraction_times (fun vs H Q E h => ?_) (fun f cdv A outer s H vs Q E hr h => ?_)
  · obtain ⟨p, q, x, y, rfl, _⟩ := h
    rfl
  · obtain ⟨p, q, x, y, rfl, hp, hq, sx, sy, _, k⟩ := h
    refine ⟨_, (pss_cons (ps_set (i := 2) sc_Fraction_times.nd rfl (Or.inl rfl) (pe_fn (ok_divisor T) hr pass0 (pa_cons (pe_top T.fr (pv 0)) (pa_cons (pe_bot T.fr (pv 1)) pa_nil))))
      (pss_cons (ps_set (i := 3) sc_Fraction_times.nd rfl (Or.inl rfl) (pe_fn (ok_divisor T) hr pass0 (pa_cons (pe_top T.fr (pv 1)) (pa_cons (pe_bot T.fr (pv 0)) pa_nil))))
      (pss_cons (ps_set (i := 4) sc_Fraction_times.nd rfl (Or.inl rfl) (pe_op op_mulB (pe_op op_fdivB (pe_top T.fr (pv 0)) (pv 2)) (pe_op op_fdivB (pe_top T.fr (pv 1)) (pv 3))))
      (pss_one (ps_ret (pe_fn (ok_in_lowest_terms T) hr pass0 (pa_cons (pv 4) (pa_cons (pe_op op_mulB (pe_op op_fdivB (pe_bot T.fr (pv 0)) (pv 3)) (pe_op op_fdivB (pe_bot T.fr (pv 1)) (pv 2))) pa_nil)))))))), ?_⟩
    have hx := den_ne x
    have hy := den_ne y
    have xp := den_pos x
    have yp := den_pos y
    have p1 := gcd_pos_r x.num hy
    have p2 := gcd_pos_r y.num hx
    have s1 := Sm.gcd_r x.num hy sy.2
    have s2 := Sm.gcd_r y.num hx sx.2
    have t1 : Sm (x.num.fdiv (gcd x.num y.den)) := sx.1.le (fdiv_le' _ p1 (gcd_dvd_l _ _))
    have t2 : Sm (y.num.fdiv (gcd y.num x.den)) := sy.1.le (fdiv_le' _ p2 (gcd_dvd_l _ _))
    have t3 : Sm ((x.den : Int).fdiv (gcd y.num x.den)) := sx.2.le (fdiv_le _ p2 (by omega))
    have t4 : Sm ((y.den : Int).fdiv (gcd x.num y.den)) := sy.2.le (fdiv_le _ p1 (by omega))
    refine ⟨_, rfl, p, x, rfl, hp, _, rfl, q, y, rfl, hq, _, _, rfl, ?_⟩
    refine ⟨_, rfl, q, y, rfl, hq, _, rfl, p, x, rfl, hp, _, _, rfl, ?_⟩
    refine ⟨_, rfl, p, x, rfl, hp, _, rfl, _, _, rfl, rfl, ⟨by omega, s1⟩, _, rfl, q, y, rfl, hq, _, rfl, _, _, rfl, rfl, ⟨by omega, s2⟩, _, _, rfl, rfl, ⟨t1, t2⟩, ?_⟩
    refine ⟨_, rfl, _, rfl, p, x, rfl, hp, _, rfl, _, _, rfl, rfl, ⟨by omega, s2⟩, _, rfl, q, y, rfl, hq, _, rfl, _, _, rfl, rfl, ⟨by omega, s1⟩, _, _, rfl, rfl, ⟨t3, t4⟩, _, _, rfl, ?_⟩
    intro r dx H' nr s1 h1
    obtain ⟨e1, e2⟩ := mul_spec x y
    refine k r H' nr s1 ⟨dx, ?_⟩
    show H' r = some (.ins a.Fraction dx (ff (x * y).num (x * y).den))
    rw [h1, ← e1, ← e2]
end
end G
namespace G
open PySem L2
section
variable {P : Program} {w : World} {K : PySem.W.Frag} {mg : Str → Option Value} {base : Heap} {a : Ad}
def spB2 (C : Addr) (f : Rat → Rat → Bool) : Sp := fun vs H Q _ => ∃ (p q : Addr) (x y : Rat), vs = [.ref p, .ref q] ∧ FrAt C H p x ∧ FrAt C H q y ∧ SmR x ∧ SmR y ∧ Q (.bl (f x y)) H
def sgn (x : Rat) : Int := if 0 < x.num then 1 else if x.num < 0 then -1 else 0
theorem ok_sign (T : TX K mg a) : MtB P w K mg base CX0 a.Fraction "sign" 1 ["self"] (fun vs H Q _ => ∃ (p : Addr) (x : Rat), vs = [.ref p] ∧ FrAt a.Fraction H p x ∧ Q (.int (sgn x)) H) := by
  refine T.m_Fraction_sign.ok sc_Fraction_sign (fun vs H Q E h => ?_) (fun f cdv A outer s H vs Q E hr h => ?_)
  · obtain ⟨p, x, rfl, _⟩ := h
    rfl
  · obtain ⟨p, x, rfl, hp, k⟩ := h
    refine ⟨_, (pss_cons (ps_if (pt_cmpR op_gt (pe_top T.fr (pv 0)) pe_int (nomark _)) (pss_one (ps_ret pe_int)) pss_nil)
      (pss_cons (ps_if (pt_cmpR op_lt (pe_top T.fr (pv 0)) pe_int (nomark _)) (pss_one (ps_ret (pe_un un_neg pe_int))) pss_nil)
      (pss_one (ps_ret pe_int)))), ?_⟩
    walk_at "rd"
    refine ifB (fun h1 => ?_) (fun h1 => ?_)
    · rw [show sgn x = 1 from if_pos h1] at k
      exact k
    · walk_at "rd"
      refine ifB (fun h2 => ?_) (fun h2 => ?_)
      · rw [show sgn x = -1 from (if_neg h1).trans (if_pos h2)] at k
        walk_at "rd"
        exact k
      · rw [show sgn x = 0 from (if_neg h1).trans (if_neg h2)] at k
        exact k
end
end G
namespace G
open PySem L2
section
variable {P : Program} {w : World} {K : PySem.W.Frag} {mg : Str → Option Value} {base : Heap} {a : Ad}
def cellOf (ns : List Int) (k : Nat) : Int := ns.getD k 0
def spCell (K : PySem.W.Frag) : Sp := fun vs H Q _ => ∃ (l : Addr) (ns : List Int) (k : Nat), vs = [.ref l, .int (k : Int)] ∧ SqL K H l (ns.map V.int) ∧ Q (.int (cellOf ns k)) H
theorem ok_law_cell_at (T : TX K mg a) : FnB P w K mg base CX0 "_law_cell_at" 1 ["_law_script", "_law_k"] (spCell K) := by
  refine T.d_law_cell_at.ok sc_law_cell_at (fun vs H Q E h => ?_) (fun f cdv A outer s H vs Q E hr h => ?_)
  · obtain ⟨l, ns, i, rfl, _⟩ := h
    rfl
  · obtain ⟨l, ns, i, rfl, hS, k⟩ := h
    refine ⟨_, (pss_cons (ps_if (pt_cmpR op_lt (pv 1) (pe_callB call_lenK (by rfl) T.z_len PySem.boot_len (pa_cons (pv 0) pa_nil)) (nomark _)) (pss_one (ps_ret (pe_ix ix_list (pv 0) (pv 1) (fun _ _ => rfl)))) pss_nil)
      (pss_one (ps_ret pe_int))), ?_⟩
    refine ⟨_, rfl, _, rfl, _, _, rfl, .inl hS, _, _, rfl, rfl, _, rfl, ?_⟩
    rw [List.length_map]
    refine ite2 (fun hlt => ?_) (fun hge => ?_)
    · have hlt' : (i : Int) < (ns.length : Int) := of_decide_eq_true hlt
      have hl : i < ns.length := by omega
      refine ⟨_, rfl, _, rfl, _, _, _, _, rfl, rfl, hS, atI_nat (v := .int (ns[i])) ?_, ?_⟩
      · rw [List.getElem?_map, List.getElem?_eq_getElem hl]
        rfl
      · have e : cellOf ns i = ns[i] := by unfold cellOf; rw [List.getD_eq_getElem?_getD, List.getElem?_eq_getElem hl]; rfl
        rw [e] at k
        exact k
    · have hge' : ¬ (i : Int) < (ns.length : Int) := fun z => hge (decide_eq_true z)
      have e : cellOf ns i = 0 := by unfold cellOf; rw [List.getD_eq_getElem?_getD, List.getElem?_eq_none (by omega)]; rfl
      rw [e] at k
      exact k
def spWhole : Sp := fun vs H Q _ => ∃ i : Int, vs = [.int i] ∧ Q (.bl true) H
theorem ok_law_whole (T : TX K mg a) : FnB P w K mg base CX0 "_law_whole" 1 ["_law_found"] spWhole := by
  refine T.d_law_whole.ok sc_law_whole (fun vs H Q E h => ?_) (fun f cdv A outer s H vs Q E hr h => ?_)
  · obtain ⟨i, rfl, _⟩ := h
    rfl
  · obtain ⟨i, rfl, k⟩ := h
    refine ⟨_, (pss_one (ps_ret (pe_and (pe_callB (call_isI (c := .type "int")) (by rfl) T.z_isinstance PyProof.Rows.boot_isinstance (pa_cons (pv 0) (pa_cons (pe_bltn (v := .ty "int") (by rfl) T.z_int PyProof.Rows.boot_int rfl) pa_nil))) (pe_one (pe_not (pe_callB (call_isI (c := .type "bool")) (by rfl) T.z_isinstance PyProof.Rows.boot_isinstance (pa_cons (pv 0) (pa_cons (pe_bltn (v := .ty "bool") (by rfl) T.z_bool PyProof.Rows.boot_bool rfl) pa_nil)))))))), ?_⟩
    refine ⟨_, rfl, _, _, _, _, rfl, (fun u h => h), TyOf.int i, T.k_int_int, _, rfl, ?_⟩
    refine iteT ?_
    refine ⟨_, rfl, _, _, _, _, rfl, (fun u h => h), TyOf.int i, T.k_int_bool, _, rfl, ?_⟩
    exact k
end
end G
namespace G
open PySem L2
section
variable {P : Program} {w : World} {K : PySem.W.Frag} {mg : Str → Option Value} {base : Heap} {a : Ad}
theorem Sm.of_le {a : Int} {n : Nat} (h : a.natAbs ≤ 2 ^ n) (hn : n < 9000) : Sm a := Nat.lt_of_le_of_lt h (Nat.pow_lt_pow_right (by decide) hn)
theorem Bd.smr {n : Nat} {x : Rat} (b : Bd n x) (hn : n < 9000) : SmR x := ⟨Sm.of_le b.1 hn, Sm.of_le (by rw [Int.natAbs_natCast]; exact b.2) hn⟩
theorem emod_in (x : Int) {m : Int} (h : 0 < m) : 0 ≤ x % m ∧ x % m < m := ⟨Int.emod_nonneg x (by omega), Int.emod_lt_of_pos x h⟩
/-- things in a row -/
def RowAt {α : Type} (R : Hp → V → α → Prop) (H : Hp) (ts : List V) (xs : List α) : Prop := ts.length = xs.length ∧ ∀ (i : Nat) (t : V) (x : α), ts[i]? = some t → xs[i]? = some x → R H t x
theorem RowAt.mono {α : Type} {R : Hp → V → α → Prop} {H H' : Hp} {ts : List V} {xs : List α} (hR : ∀ v x, R H v x → R H' v x) (h : RowAt R H ts xs) : RowAt R H' ts xs := ⟨h.1, fun i t x h1 h2 => hR t x (h.2 i t x h1 h2)⟩
theorem RowAt.nil {α : Type} {R : Hp → V → α → Prop} {H : Hp} : RowAt R H [] [] := ⟨rfl, fun i t x h => by simp at h⟩
theorem RowAt.snoc {α : Type} {R : Hp → V → α → Prop} {H : Hp} {ts : List V} {xs : List α} {t : V} {x : α} (d : RowAt R H ts xs) (hf : R H t x) : RowAt R H (ts ++ [t]) (xs ++ [x]) := by
  refine ⟨by rw [List.length_append, List.length_append, d.1]; rfl, fun i u z h1 h2 => ?_⟩
  by_cases hi : i < ts.length
  · rw [List.getElem?_append_left hi] at h1
    rw [List.getElem?_append_left (by rw [← d.1]; exact hi)] at h2
    exact d.2 i u z h1 h2
  · rw [List.getElem?_append_right (by omega)] at h1
    rw [List.getElem?_append_right (by rw [← d.1]; omega), ← d.1] at h2
    have hz : i - ts.length = 0 := by
      have := (List.getElem?_eq_some_iff.mp h1).1
      simp at this
      omega
    rw [hz] at h1 h2
    simp at h1 h2
    subst h1 h2
    exact hf
theorem RowAt.get {α : Type} {R : Hp → V → α → Prop} {H : Hp} {ts : List V} {xs : List α} {i : Nat} {t : V} (d : RowAt R H ts xs) (h : ts[i]? = some t) : ∃ x, xs[i]? = some x ∧ R H t x := by
  have hi : i < xs.length := by rw [← d.1]; exact (List.getElem?_eq_some_iff.mp h).1
  exact ⟨xs[i], List.getElem?_eq_getElem hi, d.2 i t _ h (List.getElem?_eq_getElem hi)⟩
theorem RowAt.get' {α : Type} {R : Hp → V → α → Prop} {H : Hp} {ts : List V} {xs : List α} {i : Nat} {x : α} (d : RowAt R H ts xs) (h : xs[i]? = some x) : ∃ t, ts[i]? = some t ∧ R H t x := by
  have hi : i < ts.length := by rw [d.1]; exact (List.getElem?_eq_some_iff.mp h).1
  exact ⟨ts[i], List.getElem?_eq_getElem hi, d.2 i _ x (List.getElem?_eq_getElem hi) h⟩
theorem same_upd {H : Hp} {d : Addr} {o : HO} (h : H d = none) : Same H (upd H d o) := fun b u e => by rw [upd_ne (ne_of_none e h)]; exact e
theorem same_put {H H' : Hp} {d : Addr} {o : HO} (h : H d = none) (s : Same H H') : Same H (upd H' d o) := fun b u e => by rw [upd_ne (ne_of_none e h)]; exact s _ _ e
theorem RowAt.take {α : Type} {R : Hp → V → α → Prop} {H : Hp} {ts : List V} {xs : List α} (d : RowAt R H ts xs) (k : Nat) : RowAt R H (ts.take k) (xs.take k) := by
  refine ⟨by rw [List.length_take, List.length_take, d.1], fun i t x h1 h2 => ?_⟩
  rw [List.getElem?_take] at h1 h2
  split at h1
  · rw [if_pos ‹_›] at h2
    exact d.2 i t x h1 h2
  · cases h1
theorem RowAt.drop {α : Type} {R : Hp → V → α → Prop} {H : Hp} {ts : List V} {xs : List α} (d : RowAt R H ts xs) (k : Nat) : RowAt R H (ts.drop k) (xs.drop k) := by
  refine ⟨by rw [List.length_drop, List.length_drop, d.1], fun i t x h1 h2 => ?_⟩
  rw [List.getElem?_drop] at h1 h2
  exact d.2 _ t x h1 h2
theorem RowAt.app {α : Type} {R : Hp → V → α → Prop} {H : Hp} {ts us : List V} {xs ys : List α} (d : RowAt R H ts xs) (e : RowAt R H us ys) : RowAt R H (ts ++ us) (xs ++ ys) := by
  refine ⟨by rw [List.length_append, List.length_append, d.1, e.1], fun i t x h1 h2 => ?_⟩
  have hl := d.1
  by_cases hi : i < ts.length
  · rw [List.getElem?_append_left hi] at h1
    rw [List.getElem?_append_left (by omega)] at h2
    exact d.2 i t x h1 h2
  · rw [List.getElem?_append_right (by omega)] at h1
    rw [List.getElem?_append_right (by omega), ← hl] at h2
    exact e.2 _ t x h1 h2
theorem RowAt.one {α : Type} {R : Hp → V → α → Prop} {H : Hp} {t : V} {x : α} (h : R H t x) : RowAt R H [t] [x] := RowAt.snoc RowAt.nil h
theorem RowAt.set {α : Type} {R : Hp → V → α → Prop} {H : Hp} {ts : List V} {xs : List α} {t : V} {x : α} (d : RowAt R H ts xs) (j : Nat) (h : R H t x) : RowAt R H (ts.set j t) (xs.set j x) := by
  refine ⟨by rw [List.length_set, List.length_set, d.1], fun i u y h1 h2 => ?_⟩
  by_cases hj : j = i
  · subst hj
    have hi := (List.getElem?_eq_some_iff.mp h1).1
    have hi2 := (List.getElem?_eq_some_iff.mp h2).1
    rw [List.length_set] at hi hi2
    rw [List.getElem?_set_self hi] at h1
    rw [List.getElem?_set_self hi2] at h2
    cases h1
    cases h2
    exact h
  · rw [List.getElem?_set_ne hj] at h1 h2
    exact d.2 i u y h1 h2
theorem cut_take {xs : List V} (j : Nat) : cutV xs none (some (j : Int)) = xs.take j := by
  unfold cutV
  rw [HT.sIx_none, HT.sIx_nat, List.drop_zero, Nat.sub_zero]
  by_cases h : j ≤ xs.length
  · rw [Nat.min_eq_left h]
  · rw [Nat.min_eq_right (by omega), List.take_length, List.take_of_length_le (by omega)]
theorem cut_both {xs : List V} (i j : Nat) : cutV xs (some (i : Int)) (some (j : Int)) = (xs.drop (min i xs.length)).take (min j xs.length - min i xs.length) := by
  unfold cutV
  rw [HT.sIx_nat, HT.sIx_nat]
theorem cut_drop {xs : List V} (i : Nat) : cutV xs (some (i : Int)) none = xs.drop i := by
  unfold cutV
  rw [HT.sIx_nat, HT.sIx_none]
  by_cases h : i ≤ xs.length
  · rw [Nat.min_eq_left h, List.take_of_length_le (by rw [List.length_drop]; omega)]
  · rw [Nat.min_eq_right (by omega), List.drop_of_length_le (Nat.le_refl _), List.take_nil, List.drop_of_length_le (by omega)]
/-- all but the list at l stays -/
structure KL (l : Addr) (H H' : Hp) : Prop where
  at_ : ∃ xs, H l = some (.lst xs)
  kp : ∀ b o, b ≠ l → H b = some o → H' b = some o
theorem KL.put {l : Addr} {H : Hp} {xs : List V} {o : HO} (h : H l = some (.lst xs)) : KL l H (upd H l o) := ⟨⟨_, h⟩, fun b u hb e => by rw [upd_ne hb]; exact e⟩
theorem KL.up {l b : Addr} {H H' : Hp} {o : HO} (k : KL l H H') (n : ∀ xs, o ≠ .lst xs) (h : H b = some o) : H' b = some o := k.kp b o (fun e => by
  obtain ⟨xs, q⟩ := k.at_
  rw [e, q] at h
  exact n xs (Option.some.inj h).symm) h
/-- a pair -/
def DueIs (H : Hp) (v : V) (c : Int × Int) : Prop := ∃ t, v = .ref t ∧ H t = some (.tup [.int c.1, .int c.2])
theorem DueIs.mono {H H' : Hp} {v : V} {c : Int × Int} (h : DueIs H v c) (s : Same H H') : DueIs H' v c := let ⟨t, e, f⟩ := h; ⟨t, e, s _ _ f⟩
theorem DueIs.kl {l : Addr} {H H' : Hp} {v : V} {c : Int × Int} (h : DueIs H v c) (s : KL l H H') : DueIs H' v c := let ⟨t, e, f⟩ := h; ⟨t, e, s.up (fun _ z => by cases z) f⟩
/-- a Fraction -/
def FrIs (a : Ad) (H : Hp) (v : V) (x : Rat) : Prop := ∃ p, v = .ref p ∧ FrAt a.Fraction H p x
theorem FrIs.mono {H H' : Hp} {v : V} {x : Rat} (h : FrIs a H v x) (s : Same H H') : FrIs a H' v x := let ⟨p, e, f⟩ := h; ⟨p, e, f.mono s⟩
theorem FrIs.kl {l : Addr} {H H' : Hp} {v : V} {x : Rat} (h : FrIs a H v x) (s : KL l H H') : FrIs a H' v x := let ⟨p, e, dx, f⟩ := h; ⟨p, e, dx, s.up (fun _ z => by cases z) f⟩
/-- a list of such -/
def LsIs {α : Type} (R : Hp → V → α → Prop) (H : Hp) (v : V) (xs : List α) : Prop := ∃ p ts, v = .ref p ∧ H p = some (.lst ts) ∧ RowAt R H ts xs
theorem LsIs.mono {α : Type} {R : Hp → V → α → Prop} {H H' : Hp} {v : V} {xs : List α} (hR : ∀ v x, R H v x → R H' v x) (h : LsIs R H v xs) (s : Same H H') : LsIs R H' v xs := let ⟨p, ts, e, f, g⟩ := h; ⟨p, ts, e, s _ _ f, g.mono hR⟩
theorem LsIs.kl {α : Type} {R : Hp → V → α → Prop} {l : Addr} {H H' : Hp} {v : V} {xs : List α} (hR : ∀ v x, R H v x → R H' v x) (h : LsIs R H v xs) (s : KL l H H') (n : v ≠ .ref l) : LsIs R H' v xs := by
  obtain ⟨p, ts, e, f, g⟩ := h
  exact ⟨p, ts, e, s.kp p _ (fun z => n (by rw [e, z])) f, g.mono hR⟩
theorem ne_new {l p : Addr} {H : Hp} {o : HO} (h : H l = some o) (n : H p = none) : V.ref p ≠ V.ref l := fun e => by
  cases e
  rw [h] at n
  cases n
def prR (x : Rat) : Int × Int := (x.num, (x.den : Int))
def spPair (C : Addr) : Sp := fun vs H Q _ => ∃ (p : Addr) (x : Rat), vs = [.ref p] ∧ FrAt C H p x ∧ ∀ t, H t = none → Q (.ref t) (upd H t (.tup [.int x.num, .int x.den]))
theorem ok_law_pair (T : TX K mg a) : FnB P w K mg base CX0 "_law_pair" 2 ["_law_found"] (spPair a.Fraction) := by
  refine T.d_law_pair.ok sc_law_pair (fun vs H Q E h => ?_) (fun f cdv A outer s H vs Q E hr h => ?_)
  · obtain ⟨p, x, rfl, _⟩ := h
    rfl
  · obtain ⟨p, x, rfl, hp, k⟩ := h
    refine ⟨_, (pss_cons (ps_if (PW.pt (pw_or (pt_not (pt_val (pe_callB (call_isI (c := .ref a.Fraction)) (by rfl) T.z_isinstance PyProof.Rows.boot_isinstance (pa_cons (pv 0) (pa_cons (pe_glob (v := .ref a.Fraction) (by rfl) T.mg_Fraction rfl) pa_nil))))) (pw_or (pt_not (pt_val (pe_fn (ok_law_whole T) hr pass0 (pa_cons (pe_top T.fr (pv 0)) pa_nil)))) (pw_or1 (pt_not (pt_val (pe_fn (ok_law_whole T) hr pass0 (pa_cons (pe_bot T.fr (pv 0)) pa_nil)))))))) (pss_one (ps_ret pe_non)) pss_nil)
      (pss_cons (ps_if (pt_cmpR op_lt (pe_bot T.fr (pv 0)) pe_int (nomark _)) (pss_one (ps_ret pe_non)) pss_nil)
      (pss_one (ps_ret (pe_tup (pa_cons (pe_top T.fr (pv 0)) (pa_cons (pe_bot T.fr (pv 0)) pa_nil))))))), ?_⟩
    refine ⟨_, rfl, _, _, _, _, rfl, (fun u h => h), hp.ty T.fr, T.k_Fraction_Fraction, _, rfl, ?_⟩
    walk_at "rd"
    have xp := den_pos x
    refine iteD (decide_eq_false (show ¬ (x.den : Int) < 1 by omega)) ?_
    walk_at "rd"
    exact ⟨by show 2 ≤ sizeLine; decide, k⟩
theorem prs_snoc (xs : List Rat) (x : Rat) : (xs ++ [x]).map prR = xs.map prR ++ [prR x] := by rw [List.map_append]; rfl
def spPairs (a : Ad) : Sp := fun vs H Q _ => ∃ (l : Addr) (ts : List V) (xs : List Rat), vs = [.ref l, .int xs.length] ∧ H l = some (.lst ts) ∧ RowAt (FrIs a) H ts xs ∧ xs.length ≤ 100 ∧
  ∀ p H' us, H p = none → Same H H' → H' p = some (.lst us) → RowAt DueIs H' us (xs.map prR) → Q (.ref p) H'
theorem ok_law_pairs (T : TX K mg a) : FnB P w K mg base CX0 "_law_pairs" 3 ["_law_found", "_law_count"] (spPairs a) := by
  refine T.d_law_pairs.ok sc_law_pairs (fun vs H Q E h => ?_) (fun f cdv A outer s H vs Q E hr h => ?_)
  · obtain ⟨l, ts, xs, rfl, _⟩ := h
    rfl
  · obtain ⟨l, ts, xs, rfl, hl, hr1, l100, k⟩ := h
    refine ⟨_, (pss_cons (ps_if (PW.pt (pw_or (pt_not (pt_val (pe_callB (call_isI (c := .type "list")) (by rfl) T.z_isinstance PyProof.Rows.boot_isinstance (pa_cons (pv 0) (pa_cons (pe_bltn (v := .ty "list") (by rfl) T.z_list PyProof.Rows.boot_list rfl) pa_nil))))) (pw_or1 (pt_cmpR op_ne (pe_callB call_lenK (by rfl) T.z_len PySem.boot_len (pa_cons (pv 0) pa_nil)) (pv 1) (nomark _))))) (pss_one (ps_ret pe_non)) pss_nil)
      (pss_cut (ps_compG (i := 2) (xs := ["_law_one"]) (rest := []) sc_law_pairs.nd rfl rfl rfl (pi_list (pv 0))
      (fun pins fp C' s' H' => (pg_name (i := 0) (show (["_law_one"] : List Str).Nodup by decide +kernel) rfl (Or.inl rfl))) (fun pins fp C' s' H' => pts_nil)
      (fun pins fp C' s' H' => (pe_fn (ok_law_pair T) hr pass0 (pa_cons (pv 0) pa_nil)))
      (Clos.none (by decide +kernel) (by decide +kernel)) (Reads.many (ys := []) (js := []) True.intro))
      (pss_cons (ps_if (pt_cmpR (op_inNT hr.units) pe_non (pv 2) (by with_unfolding_all rfl)) (pss_one (ps_ret pe_non)) pss_nil)
      (pss_one (ps_ret (pv 2)))))), ?_⟩
    have e1 : ts.length = xs.length := hr1.1
    refine ⟨_, rfl, _, _, _, _, rfl, (fun u h => h), TyOf.lst hl, T.k_list_list, _, rfl, iteF ?_⟩
    refine ⟨_, rfl, l, _, rfl, .inl (SqL.of hl), _, rfl, rfl, _, rfl, ?_⟩
    rw [e1]
    refine iteNS rfl ?_
    refine ⟨fun σ' H' => ∃ q us, σ' = [some (.ref l), some (.int xs.length), some (.ref q)] ∧ H q = none ∧ Same H H' ∧ H' q = some (.lst us) ∧ RowAt DueIs H' us (xs.map prR), ?_, ?_⟩
    · refine ⟨_, rfl, l, rfl, ⟨_, SqL.of hl⟩, fun q nq => ?_⟩
      refine compG_list (K := K) (a := l) (xs := ts) (fun i H2 => i ≤ xs.length ∧ Same H H2 ∧ ∃ us, H2 q = some (.lst us) ∧ RowAt DueIs H2 us ((xs.take i).map prR)) ⟨Nat.zero_le _, same_upd nq, [], upd_same, RowAt.nil⟩ (fun i H2 ⟨_, s2, _⟩ => SqL.of (s2 _ _ hl)) ?_ ?_
      · rintro i x H2 hx ⟨_, s2, us, h2, hv⟩
        obtain ⟨r, er, p, rfl, hp⟩ := hr1.get hx
        have hi : i < xs.length := (List.getElem?_eq_some_iff.mp er).1
        refine g1 ⟨⟨[_], rfl, rfl⟩, yes ?_⟩
        refine ⟨_, rfl, p, r, rfl, hp.mono s2, fun t nt => ?_⟩
        have s3 := same_upd (o := .tup [.int r.num, .int r.den]) nt
        have ht : upd H2 t (.tup [.int r.num, .int r.den]) t = some (.tup [.int r.num, .int r.den]) := upd_same
        generalize upd H2 t (.tup [.int r.num, .int r.den]) = H3 at s3 ht ⊢
        have h3 := s3 _ _ h2
        have lus : us.length ≤ 100 := by rw [hv.1, List.length_map, List.length_take]; omega
        refine ⟨_, h3, small1000 (by omega), nextP (by rw [e1]; exact hi) ⟨hi, same_put nq (s2.trans s3), _, upd_same, ?_⟩⟩
        rw [List.take_add_one, er, Option.toList_some, prs_snoc]
        exact RowAt.snoc (hv.mono fun v x z => (z.mono s3).kl (KL.put h3)) (DueIs.kl ⟨t, rfl, ht⟩ (KL.put h3))
      · rintro H2 ⟨_, s2, us, h2, hv⟩
        rw [e1, List.take_length] at hv
        exact ⟨q, us, rfl, nq, s2, h2, hv⟩
    rintro σ' H1 ⟨q, us, rfl, nq, s1, hq, hv⟩
    refine ⟨_, rfl, q, us, rfl, rfl, SqL.of hq, fun v hm => ?_, _, rfl, iteF ⟨_, rfl, k q H1 us nq s1 hq hv⟩⟩
    obtain ⟨i, hi⟩ := List.mem_iff_getElem?.mp hm
    obtain ⟨c, _, t, e, ht⟩ := hv.get hi
    exact ⟨t, _, e, SqT.of ht⟩
def vR (c : Int × Int) : Rat := Rat.divInt c.1 c.2
def spMade (K : PySem.W.Frag) (a : Ad) : Sp := fun vs H Q _ => ∃ (l : Addr) (ts : List V) (cs : List (Int × Int)), vs = [.ref l] ∧ SqL K H l ts ∧ RowAt DueIs H ts cs ∧ cs.length ≤ 100 ∧ (∀ c ∈ cs, c.2 ≠ 0 ∧ Sm c.2) ∧
  ∀ p H' us, H p = none → Same H H' → H' p = some (.lst us) → RowAt (FrIs a) H' us (cs.map vR) → Q (.ref p) H'
theorem ok_law_made (T : TX K mg a) : FnB P w K mg base CX0 "_law_made" 4 ["_law_pairs_here"] (spMade K a) := by
  refine T.d_law_made.ok sc_law_made (fun vs H Q E h => ?_) (fun f cdv A outer s H vs Q E hr h => ?_)
  · obtain ⟨l, ts, cs, rfl, _⟩ := h
    rfl
  · obtain ⟨l, ts, cs, rfl, hl, hr1, l100, hok, k⟩ := h
    refine ⟨_, (pss_one (ps_ret (pe_compG (xs := ["_law_one"]) (rest := []) rfl (pi_list (pv 0))
      (fun pins fp C' s' H' => (pg_name (i := 0) (show (["_law_one"] : List Str).Nodup by decide +kernel) rfl (Or.inl rfl))) (fun pins fp C' s' H' => pts_nil)
      (fun pins fp C' s' H' => (pe_mkfr (mk2 T) hr T.mg_Fraction pass0 (pa_cons (pe_ix (r := rIxT K) ix_tup (pv 0) pe_int (fun _ _ => rfl)) (pa_cons (pe_ix (r := rIxT K) ix_tup (pv 0) pe_int (fun _ _ => rfl)) pa_nil))))
      (Clos.none (by decide +kernel) (by decide +kernel)) (Reads.many (ys := []) (js := []) True.intro)))), ?_⟩
    have e1 : ts.length = cs.length := hr1.1
    refine ⟨_, rfl, l, rfl, ⟨_, hl⟩, fun q nq => ?_⟩
    refine compG_list (K := K) (a := l) (xs := ts) (fun i H2 => i ≤ cs.length ∧ Same H H2 ∧ ∃ us, H2 q = some (.lst us) ∧ RowAt (FrIs a) H2 us ((cs.take i).map vR)) ⟨Nat.zero_le _, same_upd nq, [], upd_same, RowAt.nil⟩ (fun i H2 ⟨_, s2, _⟩ => s2.seq hl) ?_ ?_
    · rintro i x H2 hx ⟨_, s2, us, h2, hv⟩
      obtain ⟨c, er, p, rfl, hp⟩ := hr1.get hx
      have hi : i < cs.length := (List.getElem?_eq_some_iff.mp er).1
      obtain ⟨c0, cm⟩ := hok c (List.mem_of_getElem? er)
      refine g1 ⟨⟨[_], rfl, rfl⟩, yes ?_⟩
      have sq := SqT.of (K := K) (s2 _ _ hp)
      refine ⟨_, rfl, p, _, _, _, rfl, rfl, sq, rfl, _, rfl, p, _, _, _, rfl, rfl, sq, rfl, c.1, c.2, rfl, c0, cm, fun t H3 nt s3 ht => ?_⟩
      have h3 := s3 _ _ h2
      have lus : us.length ≤ 100 := by rw [hv.1, List.length_map, List.length_take]; omega
      refine ⟨_, h3, small1000 (by omega), nextP (by rw [e1]; exact hi) ⟨hi, same_put nq (s2.trans s3), _, upd_same, ?_⟩⟩
      rw [List.take_add_one, er, Option.toList_some, List.map_append]
      exact RowAt.snoc (hv.mono fun v x z => (z.mono s3).kl (KL.put h3)) (FrIs.kl ⟨t, rfl, ht⟩ (KL.put h3))
    · rintro H2 ⟨_, s2, us, h2, hv⟩
      rw [e1, List.take_length] at hv
      exact k q H2 us nq s2 h2 hv
def spOther (C : Addr) : Sp := fun vs H Q _ => ∃ (p : Addr) (x : Rat), vs = [.ref p] ∧ FrAt C H p x ∧ SmR x ∧ ∀ r H', H r = none → Same H H' → FrAt C H' r (-x) → Q (.ref r) H'
theorem sub0 (x : Rat) : Rat.divInt 0 1 - x = -x := by rw [Rat.zero_divInt, Rat.sub_eq_add_neg, Rat.zero_add]
theorem ok_with_other_sign (T : TX K mg a) : FnB P w K mg base CX0 "with_other_sign" 7 ["number"] (spOther a.Fraction) := by
  refine T.d_with_other_sign.ok sc_with_other_sign (fun vs H Q E h => ?_) (fun f cdv A outer s H vs Q E hr h => ?_)
  · obtain ⟨p, x, rfl, _⟩ := h
    rfl
  · obtain ⟨p, x, rfl, hp, sx, k⟩ := h
    refine ⟨_, (pss_one (ps_ret (pe_frm T.fr (pe_mkfr (mk1 T) hr T.mg_Fraction pass0 (pa_cons pe_int pa_nil)) (ok_minus T) hr pass0 (pa_cons (pv 0) pa_nil)))), ?_⟩
    refine ⟨0, 1, rfl, by decide, sm1, fun q H1 nq s1 hq => ?_⟩
    refine ⟨q, Rat.divInt 0 1, rfl, hq, _, rfl, q, p, Rat.divInt 0 1, x, rfl, hq, hp.mono s1, ?_, sx, trivial, fun r H2 nr s2 hr2 => ?_⟩
    · rw [Rat.zero_divInt]
      exact Bd.zero.smr (by decide)
    · exact k r H2 (s1.free nr) (s1.trans s2) (by rw [← sub0]; exact hr2)
end
end G
namespace G
open PySem L2
section
variable {P : Program} {w : World} {K : PySem.W.Frag} {mg : Str → Option Value} {base : Heap} {a : Ad}
theorem ixN_nat {n j : Nat} (h : j < n) : ixN n (j : Int) = some j := by
  unfold ixN
  rw [if_pos (by omega), if_pos (by omega)]
  rfl
/-- of one list, none of them this list -/
def NeIs {α : Type} (R : Hp → V → α → Prop) (l : Addr) (H : Hp) (v : V) (x : α) : Prop := R H v x ∧ v ≠ .ref l
theorem ok_over (T : TX K mg a) : MtB P w K mg base CX0 a.Fraction "over" 6 ["self", "other"] (spR2 a.Fraction (fun x y => x / y) (fun _ y => y ≠ 0)) := by
  refine T.m_Fraction_over.ok sc_Fraction_over (fun vs H Q E h => ?_) (fun f cdv A outer s H vs Q E hr h => ?_)
  · obtain ⟨p, q, x, y, rfl, _⟩ := h
    rfl
  · obtain ⟨p, q, x, y, rfl, hp, hq, sx, sy, hy0, k⟩ := h
    refine ⟨_, (pss_cons (ps_if (pt_cmpR op_eq (pe_top T.fr (pv 1)) pe_int (nomark _)) (pss_one ps_never) pss_nil)
      (pss_cons (ps_if (pt_cmpR op_lt (pe_top T.fr (pv 1)) pe_int (nomark _)) (pss_one (ps_ret (pe_frm T.fr (pv 0) (ok_times T) hr pass0 (pa_cons (pe_fn (ok_in_lowest_terms T) hr pass0 (pa_cons (pe_un un_neg (pe_bot T.fr (pv 1))) (pa_cons (pe_un un_neg (pe_top T.fr (pv 1))) pa_nil))) pa_nil)))) pss_nil)
      (pss_one (ps_ret (pe_frm T.fr (pv 0) (ok_times T) hr pass0 (pa_cons (pe_fn (ok_in_lowest_terms T) hr pass0 (pa_cons (pe_bot T.fr (pv 1)) (pa_cons (pe_top T.fr (pv 1)) pa_nil))) pa_nil)))))), ?_⟩
    walk_at "rd"
    refine ifV (fun h1 => ?_) (fun h1 => ?_)
    · exact absurd (Rat.num_eq_zero.mp h1) hy0
    walk_at "rd"
    refine ifB (fun hn => ?_) (fun hn => ?_)
    · obtain ⟨e1, e2⟩ := inv_neg_spec y hn
      walk_at "rd"
      intro r dx H1 nr s1 h1
      have f1 : FrAt a.Fraction H1 r (y⁻¹) := ⟨dx, by rw [h1, e1, e2]⟩
      refine ⟨p, r, x, y⁻¹, rfl, hp.mono s1, f1, sx, ⟨by rw [e1]; exact sy.2.le (by omega), by rw [e2]; exact sy.1.le (by omega)⟩, trivial, fun r' H2 nr' s2 f2 => ?_⟩
      exact k r' H2 (s1.free nr') (s1.trans s2) f2
    · obtain ⟨e1, e2⟩ := inv_pos_spec y (by omega)
      walk_at "rd"
      intro r dx H1 nr s1 h1
      have f1 : FrAt a.Fraction H1 r (y⁻¹) := ⟨dx, by rw [h1, e1, e2]⟩
      refine ⟨p, r, x, y⁻¹, rfl, hp.mono s1, f1, sx, ⟨by rw [e1]; exact sy.2, by rw [e2]; exact sy.1⟩, trivial, fun r' H2 nr' s2 f2 => ?_⟩
      exact k r' H2 (s1.free nr') (s1.trans s2) f2
def solvedR (xs : List Rat) (c : Nat) (y : Rat) : List Rat := (xs.map fun x => -(x / y)).set c (1 / y)
def spSolved (a : Ad) : Sp := fun vs H Q _ => ∃ (l : Addr) (ts : List V) (xs : List Rat) (c : Nat) (y : Rat), vs = [.ref l, .int c] ∧ H l = some (.lst ts) ∧ RowAt (FrIs a) H ts xs ∧ xs.length ≤ 10 ∧ xs[c]? = some y ∧ y ≠ 0 ∧ (∀ x ∈ xs, Bd 2000 x) ∧
  ∀ p H' us, H p = none → Same H H' → H' p = some (.lst us) → RowAt (FrIs a) H' us (solvedR xs c y) → Q (.ref p) H'
theorem ok_row_solved (T : TX K mg a) : FnB P w K mg base CX0 "row_solved" 9 ["row", "column"] (spSolved a) := by
  refine T.d_row_solved.ok sc_row_solved (fun vs H Q E h => ?_) (fun f cdv A outer s H vs Q E hr h => ?_)
  · obtain ⟨l, ts, xs, c, y, rfl, _⟩ := h
    rfl
  · obtain ⟨l, ts, xs, c, y, rfl, hl, hr1, l10, ec, y0, bd, k⟩ := h
    refine ⟨_, (pss_cons (ps_set (i := 2) sc_row_solved.nd rfl (Or.inr rfl) (pe_ix ix_list (pv 0) (pv 1) (fun _ _ => rfl)))
      (pss_cut (ps_compG (i := 3) (xs := ["number"]) (rest := ["by"]) sc_row_solved.nd rfl rfl rfl (pi_list (pv 0))
      (fun pins fp C' s' H' => (pg_name (i := 0) (show (["number", "by"] : List Str).Nodup by decide +kernel) rfl (Or.inl rfl))) (fun pins fp C' s' H' => pts_nil)
      (fun pins fp C' s' H' => (pe_fn (ok_with_other_sign T) hr pass0 (pa_cons (pe_frm T.fr (pv 0) (ok_over T) hr pass0 (pa_cons (pv 1) pa_nil)) pa_nil)))
      (Clos.many (ys := ["by"]) rfl ⟨rfl, True.intro⟩ rfl (by decide +kernel)) (Reads.many (ys := ["by"]) (js := [2]) ⟨⟨rfl, rfl, rfl⟩, True.intro⟩))
      (pss_cons (ps_asg (pe_frm T.fr (pe_mkfr (mk1 T) hr T.mg_Fraction pass0 (pa_cons pe_int pa_nil)) (ok_over T) hr pass0 (pa_cons (pv 2) pa_nil)) (pg_sub (pv 3) (pv 1) set_list))
      (pss_one (ps_ret (pv 3)))))), ?_⟩
    obtain ⟨v, ev, py, rfl, hy⟩ := hr1.get' ec
    have e1 : ts.length = xs.length := hr1.1
    have hc : c < xs.length := (List.getElem?_eq_some_iff.mp ec).1
    have by_ := bd y (List.mem_of_getElem? ec)
    refine ⟨_, rfl, _, rfl, l, _, _, _, rfl, rfl, SqL.of hl, atI_nat ev, ?_⟩
    refine ⟨fun σ' H' => ∃ q us, σ' = [some (.ref l), some (.int c), some (.ref py), some (.ref q)] ∧ H q = none ∧ Same H H' ∧ H' q = some (.lst us) ∧ RowAt (FrIs a) H' us (xs.map fun x => -(x / y)), ?_, ?_⟩
    · refine ⟨_, rfl, l, rfl, ⟨_, SqL.of hl⟩, fun q nq => ?_⟩
      refine compG_list (K := K) (a := l) (xs := ts) (fun i H2 => i ≤ xs.length ∧ Same H H2 ∧ ∃ us, H2 q = some (.lst us) ∧ RowAt (FrIs a) H2 us ((xs.take i).map fun x => -(x / y))) ⟨Nat.zero_le _, same_upd nq, [], upd_same, RowAt.nil⟩ (fun i H2 ⟨_, s2, _⟩ => SqL.of (s2 _ _ hl)) ?_ ?_
      · rintro i x H2 hx ⟨_, s2, us, h2, hv⟩
        obtain ⟨r, er, pr, rfl, hpr⟩ := hr1.get hx
        have hi : i < xs.length := (List.getElem?_eq_some_iff.mp er).1
        have br := bd r (List.mem_of_getElem? er)
        refine g1 ⟨⟨[_], rfl, rfl⟩, yes ?_⟩
        refine ⟨_, rfl, pr, r, rfl, hpr.mono s2, _, rfl, pr, py, r, y, rfl, hpr.mono s2, hy.mono s2, br.smr (by decide), by_.smr (by decide), y0, fun t H3 nt s3 ht => ?_⟩
        refine ⟨t, r / y, rfl, ht, (br.div by_).smr (by decide), fun u H4 nu s4 hu => ?_⟩
        have s34 := s3.trans s4
        have h4 := s34 _ _ h2
        have lus : us.length ≤ 10 := by rw [hv.1, List.length_map, List.length_take]; omega
        refine ⟨_, h4, small1000 (by omega), nextP (by rw [e1]; exact hi) ⟨hi, same_put nq (s2.trans s34), _, upd_same, ?_⟩⟩
        rw [List.take_add_one, er, Option.toList_some, List.map_append]
        exact RowAt.snoc (hv.mono fun v x z => (z.mono s34).kl (KL.put h4)) (FrIs.kl ⟨u, rfl, hu⟩ (KL.put h4))
      · rintro H2 ⟨_, s2, us, h2, hv⟩
        rw [e1, List.take_length] at hv
        exact ⟨q, us, rfl, nq, s2, h2, hv⟩
    rintro σ' H1 ⟨q, us, rfl, nq, s1, hq, hv⟩
    refine ⟨1, 1, rfl, by decide, sm1, fun t H2 nt s2 ht => ?_⟩
    have o1 : Rat.divInt 1 1 = 1 := rfl
    rw [o1] at ht
    refine ⟨t, 1, rfl, ht, _, rfl, t, py, 1, y, rfl, ht, hy.mono (s1.trans s2), Bd.one.smr (by decide), by_.smr (by decide), y0, fun u H3 nu s3 hu => ?_⟩
    have h3 := (s2.trans s3) _ _ hq
    have kl := KL.put (o := .lst (us.set c (.ref u))) h3
    refine ⟨_, rfl, _, rfl, q, us, _, c, rfl, rfl, h3, ixN_nat (by rw [hv.1, List.length_map]; exact hc), ?_⟩
    refine ⟨_, rfl, k q _ _ nq (same_put nq (s1.trans (s2.trans s3))) upd_same ?_⟩
    exact RowAt.set (hv.mono fun v x z => (z.mono (s2.trans s3)).kl kl) c (FrIs.kl ⟨u, rfl, hu⟩ kl)
def replR (xs os : List Rat) (c : Nat) (y o : Rat) : List Rat := (List.zipWith (fun x z => x + y * z) xs os).set c (y * o)
theorem zw_snoc {xs os : List Rat} {i : Nat} {x z y : Rat} (h1 : xs[i]? = some x) (h2 : os[i]? = some z) : List.zipWith (fun x z => x + y * z) (xs.take (i + 1)) (os.take (i + 1)) = List.zipWith (fun x z => x + y * z) (xs.take i) (os.take i) ++ [x + y * z] := by
  have l1 := (List.getElem?_eq_some_iff.mp h1).1
  have l2 := (List.getElem?_eq_some_iff.mp h2).1
  rw [List.take_add_one, List.take_add_one, h1, h2, Option.toList_some, Option.toList_some, List.zipWith_append (by rw [List.length_take, List.length_take]; omega)]
  rfl
def spRepl (a : Ad) : Sp := fun vs H Q _ => ∃ (l m : Addr) (ts us : List V) (xs os : List Rat) (c : Nat) (y o : Rat), vs = [.ref l, .int c, .ref m] ∧ H l = some (.lst ts) ∧ RowAt (FrIs a) H ts xs ∧ H m = some (.lst us) ∧ RowAt (FrIs a) H us os ∧ xs.length ≤ 10 ∧ xs.length = os.length ∧ xs[c]? = some y ∧ os[c]? = some o ∧ (∀ x ∈ xs, Bd 2000 x) ∧ (∀ x ∈ os, Bd 4000 x) ∧
  ∀ p H' ws, H p = none → Same H H' → H' p = some (.lst ws) → RowAt (FrIs a) H' ws (replR xs os c y o) → Q (.ref p) H'
theorem ok_row_replaced (T : TX K mg a) : FnB P w K mg base CX0 "row_replaced" 7 ["row", "column", "solved"] (spRepl a) := by
  refine T.d_row_replaced.ok sc_row_replaced (fun vs H Q E h => ?_) (fun f cdv A outer s H vs Q E hr h => ?_)
  · obtain ⟨l, m, ts, us, xs, os, c, y, o, rfl, _⟩ := h
    rfl
  · obtain ⟨l, m, ts, us, xs, os, c, y, o, rfl, hl, hr1, hm, hr2, l10, leq, ec, eo, bd, bo, k⟩ := h
    refine ⟨_, (pss_cons (ps_set (i := 3) sc_row_replaced.nd rfl (Or.inr rfl) (pe_ix ix_list (pv 0) (pv 1) (fun _ _ => rfl)))
      (pss_cut (ps_compG (i := 4) (xs := ["number", "other"]) (rest := ["by"]) sc_row_replaced.nd rfl rfl rfl (pi_zip (by rfl) T.z_zip (pa_cons (pv 0) (pa_cons (pv 2) pa_nil)))
      (fun pins fp C' s' H' => by exact (pg_tupK (K := K) (n := 2) rfl rfl (pgs_cons (pg_name (i := 0) (show (["number", "other", "by"] : List Str).Nodup by decide +kernel) rfl (Or.inl rfl)) (pgs_cons (pg_name (i := 1) (show (["number", "other", "by"] : List Str).Nodup by decide +kernel) rfl (Or.inl rfl)) pgs_nil)))) (fun pins fp C' s' H' => by exact pts_nil)
      (fun pins fp C' s' H' => by exact (pe_frm T.fr (pv 0) (ok_plus T) hr pass0 (pa_cons (pe_frm T.fr (pv 2) (ok_times T) hr pass0 (pa_cons (pv 1) pa_nil)) pa_nil)))
      (Clos.many (ys := ["by"]) rfl ⟨rfl, True.intro⟩ rfl (by decide +kernel)) (Reads.many (ys := ["by"]) (js := [3]) ⟨⟨rfl, rfl, rfl⟩, True.intro⟩))
      (pss_cons (ps_asg (pe_frm T.fr (pv 3) (ok_times T) hr pass0 (pa_cons (pe_ix ix_list (pv 2) (pv 1) (fun _ _ => rfl)) pa_nil)) (pg_sub (pv 4) (pv 1) set_list))
      (pss_one (ps_ret (pv 4)))))), ?_⟩
    obtain ⟨v, ev, py, rfl, hy⟩ := hr1.get' ec
    obtain ⟨v2, ev2, po, rfl, ho⟩ := hr2.get' eo
    have e1 : ts.length = xs.length := hr1.1
    have e2 : us.length = xs.length := by rw [hr2.1, leq]
    have hc : c < xs.length := (List.getElem?_eq_some_iff.mp ec).1
    have by_ := bd y (List.mem_of_getElem? ec)
    have bo_ := bo o (List.mem_of_getElem? eo)
    refine ⟨_, rfl, _, rfl, l, _, _, _, rfl, rfl, SqL.of hl, atI_nat ev, ?_⟩
    refine ⟨fun σ' H' => ∃ q ws, σ' = [some (.ref l), some (.int c), some (.ref m), some (.ref py), some (.ref q)] ∧ H q = none ∧ Same H H' ∧ H' q = some (.lst ws) ∧ RowAt (FrIs a) H' ws (List.zipWith (fun x z => x + y * z) xs os), ?_, ?_⟩
    · refine ⟨_, rfl, _, rfl, l, m, ts, us, rfl, SqL.of hl, SqL.of hm, fun q nq => ?_⟩
      refine compG_zip (K := K) (fun i H2 => i ≤ xs.length ∧ Same H H2 ∧ ∃ ws, H2 q = some (.lst ws) ∧ RowAt (FrIs a) H2 ws (List.zipWith (fun x z => x + y * z) (xs.take i) (os.take i))) ⟨Nat.zero_le _, same_upd nq, [], upd_same, RowAt.nil⟩ (fun i H2 ⟨_, s2, _⟩ => ⟨SqL.of (s2 _ _ hl), SqL.of (s2 _ _ hm)⟩) ?_ ?_
      · rintro i x z t H2 hx hz nt ⟨_, s2, ws, h2, hv⟩ zs hzs
        obtain ⟨r, er, pr, rfl, hpr⟩ := hr1.get hx
        obtain ⟨d, ed, pd, rfl, hpd⟩ := hr2.get hz
        have hi : i < xs.length := (List.getElem?_eq_some_iff.mp er).1
        have br := bd r (List.mem_of_getElem? er)
        have bd' := bo d (List.mem_of_getElem? ed)
        have s3 := s2.trans (same_upd (o := .tup [.ref pr, .ref pd]) nt)
        have h3 := same_upd (o := .tup [.ref pr, .ref pd]) nt _ _ h2
        have hv3 := hv.mono fun v x z => FrIs.mono z (same_upd (o := .tup [.ref pr, .ref pd]) nt)
        have ht : upd H2 t (.tup [.ref pr, .ref pd]) t = some (.tup [.ref pr, .ref pd]) := upd_same
        generalize upd H2 t (.tup [.ref pr, .ref pd]) = H3 at s3 h3 hv3 ht ⊢
        match zs, hzs with
        | [w1, w2], _ =>
          refine ⟨t, [.ref pr, .ref pd], rfl, SqT.of ht, rfl, .ref pr, [.ref pd], rfl, ⟨.ref pd, [], rfl, ⟨rfl, ⟨[_, _], rfl, rfl⟩, yes ?_⟩⟩⟩
          refine ⟨_, rfl, pr, r, rfl, hpr.mono s3, _, rfl, py, y, rfl, hy.mono s3, _, rfl, py, pd, y, d, rfl, hy.mono s3, hpd.mono s3, by_.smr (by decide), bd'.smr (by decide), trivial, fun u H4 nu s4 hu => ?_⟩
          refine ⟨pr, u, r, y * d, rfl, hpr.mono (s3.trans s4), hu, br.smr (by decide), (by_.mul bd').smr (by decide), trivial, fun u2 H5 nu2 s5 hu2 => ?_⟩
          have s35 := s4.trans s5
          have h5 := s35 _ _ h3
          have lws : ws.length ≤ 10 := by rw [hv.1, List.length_zipWith, List.length_take]; omega
          refine ⟨_, h5, small1000 (by omega), nextP (by rw [e1, e2]; omega) ⟨hi, same_put nq (s3.trans s35), _, upd_same, ?_⟩⟩
          rw [zw_snoc er ed]
          exact RowAt.snoc (hv3.mono fun v x z => (z.mono s35).kl (KL.put h5)) (FrIs.kl ⟨u2, rfl, hu2⟩ (KL.put h5))
      · rintro H2 ⟨_, s2, ws, h2, hv⟩
        rw [e1, e2, Nat.min_self, List.take_length, leq, List.take_length] at hv
        exact ⟨q, ws, rfl, nq, s2, h2, hv⟩
    rintro σ' H1 ⟨q, ws, rfl, nq, s1, hq, hv⟩
    refine ⟨_, rfl, py, y, rfl, hy.mono s1, _, rfl, _, rfl, m, _, _, _, rfl, rfl, SqL.of (s1 _ _ hm), atI_nat ev2, py, po, y, o, rfl, hy.mono s1, ho.mono s1, by_.smr (by decide), bo_.smr (by decide), trivial, fun u H3 nu s3 hu => ?_⟩
    have h3 := s3 _ _ hq
    have kl := KL.put (o := .lst (ws.set c (.ref u))) h3
    refine ⟨_, rfl, _, rfl, q, ws, _, c, rfl, rfl, h3, ixN_nat (by rw [hv.1, List.length_zipWith]; omega), ?_⟩
    refine ⟨_, rfl, k q _ _ nq (same_put nq (s1.trans s3)) upd_same ?_⟩
    exact RowAt.set (hv.mono fun v x z => (z.mono s3).kl kl) c (FrIs.kl ⟨u, rfl, hu⟩ kl)
def tabR (tab : List (List Rat)) (ri : List Rat) (i c : Nat) (y : Rat) : List (List Rat) := (tab.map fun r => replR r (solvedR ri c y) c (r.getD c 0) (1 / y)).set i (solvedR ri c y)
theorem solvedR_len (xs : List Rat) (c : Nat) (y : Rat) : (solvedR xs c y).length = xs.length := by unfold solvedR; rw [List.length_set, List.length_map]
theorem replR_len {xs os : List Rat} {c : Nat} {y o : Rat} (h : xs.length = os.length) : (replR xs os c y o).length = xs.length := by unfold replR; rw [List.length_set, List.length_zipWith]; omega
theorem solvedR_bd {xs : List Rat} {c : Nat} {y : Rat} {B : Nat} (b : ∀ x ∈ xs, Bd B x) (hy : Bd B y) : ∀ x ∈ solvedR xs c y, Bd (2 * B) x := fun x hx => by
  unfold solvedR at hx
  rcases List.mem_or_eq_of_mem_set hx with h | h
  · obtain ⟨z, hz, rfl⟩ := List.mem_map.mp h
    exact ((b z hz).div hy).neg.mono (by omega)
  · rw [h]
    exact (Bd.one.div hy).mono (by omega)
theorem solvedR_at {xs : List Rat} {c : Nat} {y : Rat} (h : c < xs.length) : (solvedR xs c y)[c]? = some (1 / y) := by
  unfold solvedR
  rw [List.getElem?_set_self (by rw [List.length_map]; exact h)]
def spTab (a : Ad) : Sp := fun vs H Q _ => ∃ (l : Addr) (ts : List V) (tab : List (List Rat)) (i c n : Nat) (ri : List Rat) (y : Rat), vs = [.ref l, .int i, .int c] ∧ H l = some (.lst ts) ∧ RowAt (LsIs (FrIs a)) H ts tab ∧ tab.length ≤ 10 ∧ n ≤ 10 ∧ (∀ r ∈ tab, r.length = n ∧ ∀ x ∈ r, Bd 2000 x) ∧ tab[i]? = some ri ∧ ri[c]? = some y ∧ y ≠ 0 ∧
  ∀ p H' us, H p = none → Same H H' → H' p = some (.lst us) → RowAt (LsIs (FrIs a)) H' us (tabR tab ri i c y) → (∀ v ∈ us, ∀ q, v = .ref q → H q = none) → Q (.ref p) H'
theorem ok_exchanged_table (T : TX K mg a) : FnB P w K mg base CX0 "exchanged_table" 10 ["table", "i", "column"] (spTab a) := by
  refine T.d_exchanged_table.ok sc_exchanged_table (fun vs H Q E h => ?_) (fun f cdv A outer s H vs Q E hr h => ?_)
  · obtain ⟨l, ts, tab, i, c, n, ri, y, rfl, _⟩ := h
    rfl
  · obtain ⟨l, ts, tab, i, c, n, ri, y, rfl, hl, hr1, l10, n10, rok, ei, ec, y0, k⟩ := h
    refine ⟨_, (pss_cons (ps_set (i := 3) sc_exchanged_table.nd rfl (Or.inr rfl) (pe_fn (ok_row_solved T) hr pass0 (pa_cons (pe_ix ix_list (pv 0) (pv 1) (fun _ _ => rfl)) (pa_cons (pv 2) pa_nil))))
      (pss_cut (ps_compG (i := 4) (xs := ["row"]) (rest := ["column", "solved"]) sc_exchanged_table.nd rfl rfl rfl (pi_list (pv 0))
      (fun pins fp C' s' H' => (pg_name (i := 0) (show (["row", "column", "solved"] : List Str).Nodup by decide +kernel) rfl (Or.inl rfl))) (fun pins fp C' s' H' => pts_nil)
      (fun pins fp C' s' H' => (pe_fn (ok_row_replaced T) hr pass0 (pa_cons (pv 0) (pa_cons (pv 1) (pa_cons (pv 2) pa_nil)))))
      (Clos.many (ys := ["solved", "column"]) rfl ⟨rfl, rfl, True.intro⟩ rfl (by decide +kernel)) (Reads.many (ys := ["column", "solved"]) (js := [2, 3]) ⟨⟨rfl, rfl, rfl⟩, ⟨rfl, rfl, rfl⟩, True.intro⟩))
      (pss_cons (ps_asg (pv 3) (pg_sub (pv 4) (pv 1) set_list))
      (pss_one (ps_ret (pv 4)))))), ?_⟩
    obtain ⟨v, ev, pr, tr, rfl, hpr, hrr⟩ := hr1.get' ei
    obtain ⟨lri, bri⟩ := rok ri (List.mem_of_getElem? ei)
    have hi : i < tab.length := (List.getElem?_eq_some_iff.mp ei).1
    have hc : c < ri.length := (List.getElem?_eq_some_iff.mp ec).1
    have by_ := bri y (List.mem_of_getElem? ec)
    have e1 : ts.length = tab.length := hr1.1
    refine ⟨_, rfl, _, rfl, l, _, _, _, rfl, rfl, SqL.of hl, atI_nat ev, _, rfl, pr, tr, ri, c, y, rfl, hpr, hrr, by omega, ec, y0, bri, fun q H1 us nq s1 hq hv => ?_⟩
    have sb := solvedR_bd (c := c) bri by_
    refine ⟨fun σ' H' => ∃ d ws, σ' = [some (.ref l), some (.int i), some (.int c), some (.ref q), some (.ref d)] ∧ H1 d = none ∧ Same H1 H' ∧ H' d = some (.lst ws) ∧ RowAt (NeIs (LsIs (FrIs a)) d) H' ws (tab.map fun r => replR r (solvedR ri c y) c (r.getD c 0) (1 / y)) ∧ ∀ v ∈ ws, ∀ q, v = .ref q → H q = none, ?_, ?_⟩
    · refine ⟨_, rfl, l, rfl, ⟨_, SqL.of (s1 _ _ hl)⟩, fun d nd => ?_⟩
      refine compG_list (K := K) (a := l) (xs := ts) (fun j H2 => j ≤ tab.length ∧ Same H1 H2 ∧ ∃ ws, H2 d = some (.lst ws) ∧ RowAt (NeIs (LsIs (FrIs a)) d) H2 ws ((tab.take j).map fun r => replR r (solvedR ri c y) c (r.getD c 0) (1 / y)) ∧ ∀ v ∈ ws, ∀ q, v = .ref q → H q = none) ⟨Nat.zero_le _, same_upd nd, [], upd_same, RowAt.nil, fun v hv => absurd hv List.not_mem_nil⟩ (fun j H2 ⟨_, s2, _⟩ => SqL.of ((s1.trans s2) _ _ hl)) ?_ ?_
      · rintro j x H2 hx ⟨_, s2, ws, h2, hw, fr⟩
        obtain ⟨r, er, p2, t2, rfl, hp2, hr2⟩ := hr1.get hx
        have hj : j < tab.length := (List.getElem?_eq_some_iff.mp er).1
        obtain ⟨lr, br⟩ := rok r (List.mem_of_getElem? er)
        have s12 := s1.trans s2
        have erc : r[c]? = some (r.getD c 0) := by
          rw [List.getD_eq_getElem?_getD, List.getElem?_eq_getElem (show c < r.length by omega)]
          rfl
        refine g1 ⟨⟨[_], rfl, rfl⟩, yes ?_⟩
        refine ⟨_, rfl, _, rfl, _, rfl, p2, q, t2, us, r, solvedR ri c y, c, r.getD c 0, 1 / y, rfl, s12 _ _ hp2, hr2.mono (fun _ _ z => z.mono s12), s2 _ _ hq, hv.mono (fun _ _ z => z.mono s2), by omega, by rw [solvedR_len]; omega, erc, solvedR_at hc, br, sb, fun u H3 us3 nu s3 hu hru => ?_⟩
        have h3 := s3 _ _ h2
        have kl := KL.put (o := .lst (ws ++ [.ref u])) h3
        have ne : V.ref u ≠ V.ref d := ne_new h2 nu
        have lws : ws.length ≤ 10 := by rw [hw.1, List.length_map, List.length_take]; omega
        refine ⟨_, h3, small1000 (by omega), nextP (by rw [e1]; exact hj) ⟨hj, same_put nd (s2.trans s3), _, upd_same, ?_, fun v hv q e => ?_⟩⟩
        · rw [List.take_add_one, er, Option.toList_some, List.map_append]
          exact RowAt.snoc (hw.mono fun v x z => ⟨(z.1.mono (fun _ _ y => y.mono s3) s3).kl (fun _ _ y => y.kl kl) kl z.2, z.2⟩) ⟨LsIs.kl (fun _ _ y => y.kl kl) ⟨u, _, rfl, hu, hru⟩ kl ne, ne⟩
        · rcases List.mem_append.mp hv with z | z
          · exact fr v z q e
          · rw [List.mem_singleton.mp z] at e
            cases e
            exact s12.free nu
      · rintro H2 ⟨_, s2, ws, h2, hw, fr⟩
        rw [e1, List.take_length] at hw
        exact ⟨d, ws, rfl, nd, s2, h2, hw, fr⟩
    rintro σ' H2 ⟨d, ws, rfl, nd, s2, hd, hw, fr⟩
    have kl := KL.put (o := .lst (ws.set i (.ref q))) hd
    have ne : V.ref q ≠ V.ref d := fun e => by
      cases e
      rw [hq] at nd
      cases nd
    refine ⟨_, rfl, _, rfl, _, rfl, d, ws, _, i, rfl, rfl, hd, ixN_nat (by rw [hw.1, List.length_map]; exact hi), ?_⟩
    have fin := RowAt.set (hw.mono fun v x z => ⟨(z.1.kl (fun _ _ y => y.kl kl) kl z.2 : LsIs (FrIs a) _ v x), z.2⟩) i (show NeIs (LsIs (FrIs a)) d (upd H2 d (.lst (ws.set i (.ref q)))) (.ref q) (solvedR ri c y) from ⟨LsIs.kl (fun _ _ y => y.kl kl) ⟨q, us, rfl, s2 _ _ hq, hv.mono fun _ _ z => z.mono s2⟩ kl ne, ne⟩)
    refine ⟨_, rfl, k d _ _ (s1.free nd) (same_put (s1.free nd) (s1.trans s2)) upd_same ⟨fin.1, fun i t x h1 h2 => (fin.2 i t x h1 h2).1⟩ fun v hv q' e => ?_⟩
    rcases List.mem_or_eq_of_mem_set hv with z | z
    · exact fr v z q' e
    · rw [z] at e
      cases e
      exact nq
def GridAt (a : Ad) (H : Hp) (t : Addr) (ls us : List Int) (tab : List (List Rat)) : Prop := ∃ p q r ts, H t = some (.tup [.ref p, .ref q, .ref r]) ∧ H p = some (.lst (ls.map V.int)) ∧ H q = some (.lst (us.map V.int)) ∧ H r = some (.lst ts) ∧ RowAt (LsIs (FrIs a)) H ts tab
theorem GridAt.mono {H H' : Hp} {t : Addr} {ls us : List Int} {tab : List (List Rat)} (h : GridAt a H t ls us tab) (s : Same H H') : GridAt a H' t ls us tab :=
  let ⟨p, q, r, ts, h1, h2, h3, h4, h5⟩ := h; ⟨p, q, r, ts, s _ _ h1, s _ _ h2, s _ _ h3, s _ _ h4, h5.mono fun _ _ z => z.mono (fun _ _ y => y.mono s) s⟩
/-- the same, its lines new -/
def GridNew (a : Ad) (H₀ H : Hp) (t : Addr) (ls us : List Int) (tab : List (List Rat)) : Prop := ∃ p q r ts, H t = some (.tup [.ref p, .ref q, .ref r]) ∧ H p = some (.lst (ls.map V.int)) ∧ H q = some (.lst (us.map V.int)) ∧ H r = some (.lst ts) ∧ RowAt (LsIs (FrIs a)) H ts tab ∧ (H₀ p = none ∧ H₀ q = none ∧ H₀ r = none) ∧ ∀ v ∈ ts, ∀ q, v = .ref q → H₀ q = none
theorem GridNew.at {H₀ H : Hp} {t : Addr} {ls us : List Int} {tab : List (List Rat)} (h : GridNew a H₀ H t ls us tab) : GridAt a H t ls us tab := let ⟨p, q, r, ts, h1, h2, h3, h4, h5, _⟩ := h; ⟨p, q, r, ts, h1, h2, h3, h4, h5⟩
structure GOk (B : Nat) (ls us : List Int) (tab : List (List Rat)) : Prop where
  l1 : ls.length = tab.length
  l5 : tab.length ≤ 5
  u5 : us.length ≤ 5
  rl : ∀ r ∈ tab, r.length = us.length + 1
  bd : ∀ r ∈ tab, ∀ x ∈ r, Bd B x
theorem at_int {ls : List Int} {i : Nat} (h : i < ls.length) : atI (ls.map V.int) (i : Int) = some (.int (ls.getD i 0)) := atI_nat (by rw [List.getElem?_map, List.getD_eq_getElem?_getD, List.getElem?_eq_getElem h]; rfl)
theorem sgn_zero {y : Rat} : sgn y = 0 ↔ y = 0 := by
  unfold sgn
  rw [← Rat.num_eq_zero]
  split
  · omega
  · split <;> omega
def spExch (a : Ad) : Sp := fun vs H Q _ => ∃ (t : Addr) (ls us : List Int) (tab : List (List Rat)) (i j : Nat) (ri : List Rat) (y : Rat), vs = [.ref t, .int i, .int j] ∧ GridAt a H t ls us tab ∧ GOk 2000 ls us tab ∧ tab[i]? = some ri ∧ j < us.length ∧ ri[j + 1]? = some y ∧ y ≠ 0 ∧
  ∀ t' H', H t' = none → Same H H' → GridNew a H H' t' (ls.set i (us.getD j 0)) (us.set j (ls.getD i 0)) (tabR tab ri i (j + 1) y) → Q (.ref t') H'
theorem ok_exchanged (T : TX K mg a) : FnB P w K mg base CX0 "exchanged" 11 ["grid", "i", "j"] (spExch a) := by
  refine T.d_exchanged.ok sc_exchanged (fun vs H Q E h => ?_) (fun f cdv A outer s H vs Q E hr h => ?_)
  · obtain ⟨t, ls, us, tab, i, j, ri, y, rfl, _⟩ := h
    rfl
  · obtain ⟨t, ls, us, tab, i, j, ri, y, rfl, ⟨p, q, r, ts, ht, hp, hq, hr', hts⟩, G, ei, hj, ey, y0, k⟩ := h
    refine ⟨_, (pss_cons (ps_set (i := 3) sc_exchanged.nd rfl (Or.inl rfl) (pe_callTy call_list_of (by rfl) T.z_list PyProof.Rows.boot_list (pa_cons (pe_ix ix_tup (pv 0) pe_int (fun _ _ => rfl)) pa_nil)))
      (pss_cons (ps_set (i := 4) sc_exchanged.nd rfl (Or.inl rfl) (pe_callTy call_list_of (by rfl) T.z_list PyProof.Rows.boot_list (pa_cons (pe_ix ix_tup (pv 0) pe_int (fun _ _ => rfl)) pa_nil)))
      (pss_cons (ps_set (i := 5) sc_exchanged.nd rfl (Or.inl rfl) (pe_ix ix_tup (pv 0) pe_int (fun _ _ => rfl)))
      (pss_cons (ps_if (pt_cmpR op_eq (pe_frm0 T.fr (pe_ix ix_list (pe_ix ix_list (pv 5) (pv 1) (fun _ _ => rfl)) (pe_op op_add (pv 2) pe_int) (fun _ _ => rfl)) (ok_sign T) hr pass0) pe_int (nomark _)) (pss_one ps_never) pss_nil)
      (pss_cons (ps_asg (pe_ix ix_list (pe_ix ix_tup (pv 0) pe_int (fun _ _ => rfl)) (pv 2) (fun _ _ => rfl)) (pg_sub (pv 3) (pv 1) set_list))
      (pss_cons (ps_asg (pe_ix ix_list (pe_ix ix_tup (pv 0) pe_int (fun _ _ => rfl)) (pv 1) (fun _ _ => rfl)) (pg_sub (pv 4) (pv 2) set_list))
      (pss_one (ps_ret (pe_tup (pa_cons (pv 3) (pa_cons (pv 4) (pa_cons (pe_fn (ok_exchanged_table T) hr pass0 (pa_cons (pv 5) (pa_cons (pv 1) (pa_cons (pe_op op_add (pv 2) pe_int) pa_nil)))) pa_nil)))))))))))), ?_⟩
    have hi : i < tab.length := (List.getElem?_eq_some_iff.mp ei).1
    have hil : i < ls.length := by rw [G.l1]; exact hi
    obtain ⟨v, ev, pr, tr, rfl, hpr, hrr⟩ := hts.get' ei
    obtain ⟨vy, evy, py, rfl, hpy⟩ := hrr.get' ey
    refine ⟨_, rfl, t, _, _, _, rfl, rfl, SqT.of ht, rfl, p, _, rfl, .inl (SqL.of hp), fun l1 n1 => ?_⟩
    have s1 := same_upd (o := .lst (ls.map V.int)) n1
    have h1 : upd H l1 (.lst (ls.map V.int)) l1 = some (.lst (ls.map V.int)) := upd_same
    generalize upd H l1 (.lst (ls.map V.int)) = H1 at s1 h1 ⊢
    refine ⟨_, rfl, t, _, _, _, rfl, rfl, SqT.of (s1 _ _ ht), rfl, q, _, rfl, .inl (SqL.of (s1 _ _ hq)), fun l2 n2 => ?_⟩
    have s2 := same_upd (o := .lst (us.map V.int)) n2
    have h2 : upd H1 l2 (.lst (us.map V.int)) l2 = some (.lst (us.map V.int)) := upd_same
    generalize upd H1 l2 (.lst (us.map V.int)) = H2 at s2 h2 ⊢
    have s12 := s1.trans s2
    have ne12 : l2 ≠ l1 := fun e => by rw [e, h1] at n2; cases n2
    refine ⟨_, rfl, t, _, _, _, rfl, rfl, SqT.of (s12 _ _ ht), rfl, ?_⟩
    have ej : (j : Int) + 1 = ((j + 1 : Nat) : Int) := rfl
    refine ⟨_, rfl, _, rfl, r, _, _, _, rfl, rfl, SqL.of (s12 _ _ hr'), atI_nat ev, _, rfl, _, _, rfl, rfl, pr, _, _, _, rfl, rfl, SqL.of (s12 _ _ hpr), atI_nat (j := j + 1) evy, py, y, rfl, hpy.mono s12, py, y, rfl, hpy.mono s12, ?_⟩
    refine ⟨rfl, _, rfl, ifV (fun z => absurd (sgn_zero.mp z) y0) (fun _ => ?_)⟩
    have h12 := s2 _ _ h1
    refine ⟨_, rfl, t, _, _, _, rfl, rfl, SqT.of (s12 _ _ ht), rfl, _, rfl, q, _, _, _, rfl, rfl, SqL.of (s12 _ _ hq), at_int hj, _, rfl, _, rfl, l1, _, _, i, rfl, rfl, h12, ixN_nat (by rw [List.length_map]; exact hil), ?_⟩
    have eset : (ls.map V.int).set i (.int (us.getD j 0)) = (ls.set i (us.getD j 0)).map V.int := List.map_set.symm
    have s3 : Same H (upd H2 l1 (.lst ((ls.map V.int).set i (.int (us.getD j 0))))) := same_put n1 s12
    have h3 : upd H2 l1 (.lst ((ls.map V.int).set i (.int (us.getD j 0)))) l1 = some (.lst ((ls.set i (us.getD j 0)).map V.int)) := by rw [upd_same, eset]
    have h3b : upd H2 l1 (.lst ((ls.map V.int).set i (.int (us.getD j 0)))) l2 = some (.lst (us.map V.int)) := by rw [upd_ne ne12]; exact h2
    generalize upd H2 l1 (.lst ((ls.map V.int).set i (.int (us.getD j 0)))) = H3 at s3 h3 h3b ⊢
    refine ⟨_, rfl, t, _, _, _, rfl, rfl, SqT.of (s3 _ _ ht), rfl, _, rfl, p, _, _, _, rfl, rfl, SqL.of (s3 _ _ hp), at_int hil, _, rfl, _, rfl, l2, _, _, j, rfl, rfl, h3b, ixN_nat (by rw [List.length_map]; exact hj), ?_⟩
    have eset2 : (us.map V.int).set j (.int (ls.getD i 0)) = (us.set j (ls.getD i 0)).map V.int := List.map_set.symm
    have s4 : Same H (upd H3 l2 (.lst ((us.map V.int).set j (.int (ls.getD i 0))))) := same_put (s1.free n2) s3
    have h4 : upd H3 l2 (.lst ((us.map V.int).set j (.int (ls.getD i 0)))) l1 = some (.lst ((ls.set i (us.getD j 0)).map V.int)) := by rw [upd_ne ne12.symm]; exact h3
    have h4b : upd H3 l2 (.lst ((us.map V.int).set j (.int (ls.getD i 0)))) l2 = some (.lst ((us.set j (ls.getD i 0)).map V.int)) := by rw [upd_same, eset2]
    generalize upd H3 l2 (.lst ((us.map V.int).set j (.int (ls.getD i 0)))) = H4 at s4 h4 h4b ⊢
    refine ⟨_, rfl, _, rfl, _, rfl, _, rfl, _, rfl, _, _, rfl, rfl, r, ts, tab, i, j + 1, us.length + 1, ri, y, rfl, s4 _ _ hr', hts.mono (fun _ _ z => z.mono (fun _ _ y => y.mono s4) s4), by have := G.l5; omega, by have := G.u5; omega, fun r hr => ⟨G.rl r hr, G.bd r hr⟩, ei, ey, y0, fun d H5 ws nd s5 hd hw fr => ?_⟩
    refine ⟨by show 3 ≤ sizeLine; decide, fun t' nt' => ?_⟩
    have s6 := same_upd (o := .tup [.ref l1, .ref l2, .ref d]) nt'
    refine k t' _ (s4.free (s5.free nt')) (s4.trans (s5.trans s6)) ⟨l1, l2, d, ws, upd_same, (s5.trans s6) _ _ h4, (s5.trans s6) _ _ h4b, s6 _ _ hd, hw.mono (fun _ _ z => z.mono (fun _ _ y => y.mono s6) s6), ⟨n1, s1.free n2, s4.free nd⟩, fun v hv q e => s4.free (fr v hv q e)⟩
end
end G
namespace G
open PySem L2
section
variable {P : Program} {w : World} {K : PySem.W.Frag} {mg : Str → Option Value} {base : Heap} {a : Ad}
def ShownAt (H : Hp) (t : Addr) (ls us : List Int) (tab : List (List Rat)) : Prop := ∃ p q r ts, H t = some (.tup [.ref p, .ref q, .ref r]) ∧ H p = some (.lst (ls.map V.int)) ∧ H q = some (.lst (us.map V.int)) ∧ H r = some (.lst ts) ∧ RowAt (LsIs DueIs) H ts (tab.map (·.map prR))
theorem ShownAt.mono {H H' : Hp} {t : Addr} {ls us : List Int} {tab : List (List Rat)} (h : ShownAt H t ls us tab) (s : Same H H') : ShownAt H' t ls us tab :=
  let ⟨p, q, r, ts, h1, h2, h3, h4, h5⟩ := h; ⟨p, q, r, ts, s _ _ h1, s _ _ h2, s _ _ h3, s _ _ h4, h5.mono fun _ _ z => z.mono (fun _ _ y => DueIs.mono y s) s⟩
theorem eqd_ints {H : Hp} {p q : Addr} {ls : List Int} {n : Nat} (h1 : H p = some (.lst (ls.map V.int))) (h2 : H q = some (.lst (ls.map V.int))) : EqD K H (n + 1) (.ref p) (.ref q) := by
  refine EqD.lst (SqL.of h1) (SqL.of h2) rfl fun j x y e1 e2 => ?_
  rw [e1] at e2
  cases e2
  rw [List.getElem?_map] at e1
  cases e : ls[j]? with
  | none => rw [e] at e1; cases e1
  | some c => rw [e] at e1; cases e1; exact EqD.flat rfl
theorem eqd_due {H : Hp} {v u : V} {c : Int × Int} {n : Nat} (h1 : DueIs H v c) (h2 : DueIs H u c) : EqD K H (n + 1) v u := by
  obtain ⟨t, rfl, h1⟩ := h1
  obtain ⟨t', rfl, h2⟩ := h2
  refine EqD.tup (SqT.of h1) (SqT.of h2) rfl fun j x y e1 e2 => ?_
  rw [e1] at e2
  cases e2
  match j, e1 with
  | 0, e1 => cases e1; exact EqD.flat rfl
  | 1, e1 => cases e1; exact EqD.flat rfl
  | j + 2, e1 => cases e1
theorem eqd_ls {α : Type} {R : Hp → V → α → Prop} {H : Hp} {v u : V} {xs : List α} {n : Nat} (hR : ∀ v u x, R H v x → R H u x → EqD K H n v u) (h1 : LsIs R H v xs) (h2 : LsIs R H u xs) : EqD K H (n + 1) v u := by
  obtain ⟨p, ts, rfl, h1, r1⟩ := h1
  obtain ⟨q, us, rfl, h2, r2⟩ := h2
  refine EqD.lst (SqL.of h1) (SqL.of h2) (by rw [r1.1, r2.1]) fun j x y e1 e2 => ?_
  obtain ⟨z, ez, hz⟩ := r1.get e1
  exact hR x y z hz (r2.2 j y z e2 ez)
theorem ShownAt.ne {H : Hp} {t t' : Addr} {ls us : List Int} {tab : List (List Rat)} {Q : VK} (h1 : ShownAt H t ls us tab) (h2 : ShownAt H t' ls us tab) (k : Q (.bl false) H) : rNeD K (.ref t) (.ref t') H Q := by
  obtain ⟨p, q, r, ts, h, hp, hq, hr, hts⟩ := h1
  obtain ⟨p', q', r', ts', h', hp', hq', hr', hts'⟩ := h2
  refine ⟨t, t', _, _, rfl, rfl, SqT.of h, SqT.of h', rfl, fun j x y e1 e2 => ?_, k⟩
  match j, e1, e2 with
  | 0, e1, e2 => cases e1; cases e2; exact eqd_ints hp hp'
  | 1, e1, e2 => cases e1; cases e2; exact eqd_ints hq hq'
  | 2, e1, e2 => cases e1; cases e2; exact eqd_ls (n := 19) (fun v u x h1 h2 => eqd_ls (n := 18) (fun v u x h1 h2 => eqd_due (n := 17) h1 h2) h1 h2) ⟨r, ts, rfl, hr, hts⟩ ⟨r', ts', rfl, hr', hts'⟩
  | j + 3, e1, e2 => cases e1
def spShown (a : Ad) : Sp := fun vs H Q _ => ∃ (t : Addr) (ls us : List Int) (tab : List (List Rat)), vs = [.ref t] ∧ GridAt a H t ls us tab ∧ tab.length ≤ 10 ∧ (∀ r ∈ tab, r.length ≤ 10) ∧ ∀ t' H', H t' = none → Same H H' → ShownAt H' t' ls us tab → Q (.ref t') H'
theorem ok_law_shown (T : TX K mg a) : FnB P w K mg base CX0 "_law_shown" 4 ["_law_some"] (spShown a) := by
  refine T.d_law_shown.ok sc_law_shown (fun vs H Q E h => ?_) (fun f cdv A outer s H vs Q E hr h => ?_)
  · obtain ⟨t, ls, us, tab, rfl, _⟩ := h
    rfl
  · obtain ⟨t, ls, us, tab, rfl, ⟨p, q, r, ts, ht, hp, hq, hr', hts⟩, l10, r10, k⟩ := h
    refine ⟨_, (pss_one (ps_ret (pe_tup (pa_cons (pe_callTy call_list_of (by rfl) T.z_list PyProof.Rows.boot_list (pa_cons (pe_ix ix_tup (pv 0) pe_int (fun _ _ => rfl)) pa_nil)) (pa_cons (pe_callTy call_list_of (by rfl) T.z_list PyProof.Rows.boot_list (pa_cons (pe_ix ix_tup (pv 0) pe_int (fun _ _ => rfl)) pa_nil)) (pa_cons (pe_compG (xs := ["_law_line"]) (rest := []) rfl (pi_list (pe_ix ix_tup (pv 0) pe_int (fun _ _ => rfl)))
      (fun pins fp C' s' H' => (pg_name (i := 0) (show (["_law_line"] : List Str).Nodup by decide +kernel) rfl (Or.inl rfl))) (fun pins fp C' s' H' => pts_nil)
      (fun pins fp C' s' H' => (pe_compG (xs := ["_law_one"]) (rest := []) rfl (pi_listK (K := K) rfl (pv 0))
      (fun pins fp C' s' H' => (pg_name (i := 0) (show (["_law_one"] : List Str).Nodup by decide +kernel) rfl (Or.inl rfl))) (fun pins fp C' s' H' => pts_nil)
      (fun pins fp C' s' H' => (pe_fn (ok_law_pair T) hr pass0 (pa_cons (pv 0) pa_nil)))
      (Clos.none (by decide +kernel) (by decide +kernel)) (Reads.many (ys := []) (js := []) True.intro)))
      (Clos.none (by decide +kernel) (by decide +kernel)) (Reads.many (ys := []) (js := []) True.intro)) pa_nil)))))), ?_⟩
    have e1 : ts.length = tab.length := hts.1
    refine ⟨_, rfl, t, _, _, _, rfl, rfl, SqT.of ht, rfl, p, _, rfl, .inl (SqL.of hp), fun l1 n1 => ?_⟩
    have s1 := same_upd (o := .lst (ls.map V.int)) n1
    have h1 : upd H l1 (.lst (ls.map V.int)) l1 = some (.lst (ls.map V.int)) := upd_same
    generalize upd H l1 (.lst (ls.map V.int)) = H1 at s1 h1 ⊢
    refine ⟨_, rfl, t, _, _, _, rfl, rfl, SqT.of (s1 _ _ ht), rfl, q, _, rfl, .inl (SqL.of (s1 _ _ hq)), fun l2 n2 => ?_⟩
    have s2 := same_upd (o := .lst (us.map V.int)) n2
    have h2 : upd H1 l2 (.lst (us.map V.int)) l2 = some (.lst (us.map V.int)) := upd_same
    generalize upd H1 l2 (.lst (us.map V.int)) = H2 at s2 h2 ⊢
    have s12 := s1.trans s2
    refine ⟨_, rfl, t, _, _, _, rfl, rfl, SqT.of (s12 _ _ ht), rfl, r, rfl, ⟨_, SqL.of (s12 _ _ hr')⟩, fun d nd => ?_⟩
    refine compG_list (K := K) (a := r) (xs := ts) (fun j H3 => j ≤ tab.length ∧ Same H2 H3 ∧ ∃ ws, H3 d = some (.lst ws) ∧ RowAt (NeIs (LsIs DueIs) d) H3 ws ((tab.take j).map (·.map prR))) ⟨Nat.zero_le _, same_upd nd, [], upd_same, RowAt.nil⟩ (fun j H3 ⟨_, s3, _⟩ => SqL.of ((s12.trans s3) _ _ hr')) ?_ ?_
    · rintro j x H3 hx ⟨_, s3, ws, h3, hw⟩
      obtain ⟨row, er, pr, tr, rfl, hpr, hrr⟩ := hts.get hx
      have hj : j < tab.length := (List.getElem?_eq_some_iff.mp er).1
      have lr := r10 row (List.mem_of_getElem? er)
      have s13 := s12.trans s3
      have e2 : tr.length = row.length := hrr.1
      refine g1 ⟨⟨[_], rfl, rfl⟩, yes ?_⟩
      refine ⟨_, rfl, pr, rfl, ⟨_, SqL.of (s13 _ _ hpr)⟩, fun c nc => ?_⟩
      refine compG_list (K := K) (a := pr) (xs := tr) (fun i H4 => i ≤ row.length ∧ Same H3 H4 ∧ ∃ vs, H4 c = some (.lst vs) ∧ RowAt DueIs H4 vs ((row.take i).map prR)) ⟨Nat.zero_le _, same_upd nc, [], upd_same, RowAt.nil⟩ (fun i H4 ⟨_, s4, _⟩ => SqL.of ((s13.trans s4) _ _ hpr)) ?_ ?_
      · rintro i y H4 hy ⟨_, s4, vs, h4, hv⟩
        obtain ⟨x, ex, px, rfl, hpx⟩ := hrr.get hy
        have hi : i < row.length := (List.getElem?_eq_some_iff.mp ex).1
        refine g1 ⟨⟨[_], rfl, rfl⟩, yes ?_⟩
        refine ⟨_, rfl, px, x, rfl, hpx.mono (s13.trans s4), fun u nu => ?_⟩
        have s5 := same_upd (o := .tup [.int x.num, .int x.den]) nu
        have hu : upd H4 u (.tup [.int x.num, .int x.den]) u = some (.tup [.int x.num, .int x.den]) := upd_same
        generalize upd H4 u (.tup [.int x.num, .int x.den]) = H5 at s5 hu ⊢
        have h5 := s5 _ _ h4
        have lvs : vs.length ≤ 10 := by rw [hv.1, List.length_map, List.length_take]; omega
        refine ⟨_, h5, small1000 (by omega), nextP (by rw [e2]; exact hi) ⟨hi, same_put nc (s4.trans s5), _, upd_same, ?_⟩⟩
        rw [List.take_add_one, ex, Option.toList_some, List.map_append]
        exact RowAt.snoc (hv.mono fun v x z => (z.mono s5).kl (KL.put h5)) (DueIs.kl ⟨u, rfl, hu⟩ (KL.put h5))
      · rintro H4 ⟨_, s4, vs, h4, hv⟩
        rw [e2, List.take_length] at hv
        have h34 := s4 _ _ h3
        have kl := KL.put (o := .lst (ws ++ [.ref c])) h34
        have ne : V.ref c ≠ V.ref d := ne_new h3 nc
        have lws : ws.length ≤ 10 := by rw [hw.1, List.length_map, List.length_take]; omega
        refine ⟨_, h34, small1000 (by omega), nextP (by rw [e1]; exact hj) ⟨hj, same_put nd (s3.trans s4), _, upd_same, ?_⟩⟩
        rw [List.take_add_one, er, Option.toList_some, List.map_append]
        exact RowAt.snoc (hw.mono fun v x z => ⟨(z.1.mono (fun _ _ y => DueIs.mono y s4) s4).kl (fun _ _ y => DueIs.kl y kl) kl z.2, z.2⟩) ⟨LsIs.kl (fun _ _ y => DueIs.kl y kl) ⟨c, _, rfl, h4, hv⟩ kl ne, ne⟩
    · rintro H3 ⟨_, s3, ws, h3, hw⟩
      rw [e1, List.take_length] at hw
      refine ⟨by show 3 ≤ sizeLine; decide, fun t' nt' => ?_⟩
      have s4 := same_upd (o := .tup [.ref l1, .ref l2, .ref d]) nt'
      exact k t' _ (s12.free (s3.free nt')) (s12.trans (s3.trans s4)) ⟨l1, l2, d, ws, upd_same, s4 _ _ (s3 _ _ (s2 _ _ h1)), s4 _ _ (s3 _ _ h2), s4 _ _ h3, hw.1, fun i t x h1 h2 => (hw.2 i t x h1 h2).1.mono (fun _ _ y => DueIs.mono y s4) s4⟩
end
end G
namespace G
open PySem L2
section
variable {P : Program} {w : World} {K : PySem.W.Frag} {mg : Str → Option Value} {base : Heap} {a : Ad}
/-! ### rows times values -/
def dotR (xs ws : List Rat) : Rat := (List.zipWith (fun x y => x * y) xs ws).sum
theorem dotR_nil (ws : List Rat) : dotR [] ws = 0 := rfl
theorem dotR_nil' (xs : List Rat) : dotR xs [] = 0 := by unfold dotR; rw [List.zipWith_nil_right]; rfl
theorem dotR_cons (x y : Rat) (xs ys : List Rat) : dotR (x :: xs) (y :: ys) = x * y + dotR xs ys := by unfold dotR; rw [List.zipWith_cons_cons, List.sum_cons]
theorem dot_set {a b : Rat} : ∀ {xs ws : List Rat} {c : Nat} {x z : Rat}, xs[c]? = some x → ws[c]? = some z → dotR (xs.set c a) (ws.set c b) = dotR xs ws - x * z + a * b
  | [], _, _, _, _, h, _ => by cases h
  | _ :: _, [], _, _, _, _, h => by cases h
  | x' :: xs, z' :: ws, 0, x, z, h1, h2 => by
    cases h1
    cases h2
    rw [List.set_cons_zero, List.set_cons_zero, dotR_cons, dotR_cons]
    grind
  | x' :: xs, z' :: ws, c + 1, x, z, h1, h2 => by
    rw [List.getElem?_cons_succ] at h1 h2
    rw [List.set_cons_succ, List.set_cons_succ, dotR_cons, dotR_cons, dot_set h1 h2]
    grind
theorem dot_setr {b : Rat} : ∀ {xs ws : List Rat} {c : Nat} {x z : Rat}, xs[c]? = some x → ws[c]? = some z → dotR xs (ws.set c b) = dotR xs ws - x * z + x * b
  | [], _, _, _, _, h, _ => by cases h
  | _ :: _, [], _, _, _, _, h => by cases h
  | x' :: xs, z' :: ws, 0, x, z, h1, h2 => by
    cases h1
    cases h2
    rw [List.set_cons_zero, dotR_cons, dotR_cons]
    grind
  | x' :: xs, z' :: ws, c + 1, x, z, h1, h2 => by
    rw [List.getElem?_cons_succ] at h1 h2
    rw [List.set_cons_succ, dotR_cons, dotR_cons, dot_setr h1 h2]
    grind
theorem dot_over (y : Rat) : ∀ (xs ws : List Rat), dotR (xs.map fun x => -(x / y)) ws = -(dotR xs ws * y⁻¹)
  | [], ws => by rw [List.map_nil, dotR_nil, Rat.zero_mul]; rfl
  | x :: xs, [] => by rw [dotR_nil', dotR_nil', Rat.zero_mul]; rfl
  | x :: xs, z :: ws => by
    rw [List.map_cons, dotR_cons, dotR_cons, dot_over y xs ws, Rat.div_def]
    grind
theorem dot_plus (b : Rat) : ∀ (xs os ws : List Rat), xs.length = os.length → dotR (List.zipWith (fun x z => x + b * z) xs os) ws = dotR xs ws + b * dotR os ws
  | [], [], ws, _ => by rw [List.zipWith_nil_left, dotR_nil, Rat.mul_zero, Rat.zero_add]
  | [], _ :: _, _, h => by cases h
  | _ :: _, [], _, h => by cases h
  | x :: xs, o :: os, [], _ => by rw [dotR_nil', dotR_nil', dotR_nil', Rat.mul_zero, Rat.zero_add]
  | x :: xs, o :: os, z :: ws, h => by
    rw [List.zipWith_cons_cons, dotR_cons, dotR_cons, dotR_cons, dot_plus b xs os ws (Nat.succ.inj h)]
    grind
theorem ring1 {D y L i z : Rat} (hy : y * i = 1) (e : L = D) : -(D * i) - -(y * i) * z + i * L = z := by grind
theorem dot_solved {xs ws : List Rat} {c : Nat} {y z : Rat} (h1 : xs[c]? = some y) (h2 : ws[c]? = some z) (y0 : y ≠ 0) : dotR (solvedR xs c y) (ws.set c (dotR xs ws)) = z := by
  unfold solvedR
  have e1 : (xs.map fun x => -(x / y))[c]? = some (-(y / y)) := by rw [List.getElem?_map, h1]; rfl
  rw [dot_set e1 h2, dot_over, Rat.div_def, Rat.div_def, Rat.one_mul]
  exact ring1 (Rat.mul_inv_cancel y y0) rfl
theorem dot_repl {xs os ws : List Rat} {c : Nat} {b i z L : Rat} (hl : xs.length = os.length) (h1 : xs[c]? = some b) (h2 : os[c]? = some i) (h3 : ws[c]? = some z) (hs : dotR os (ws.set c L) = z) : dotR (replR xs os c b i) (ws.set c L) = dotR xs ws := by
  unfold replR
  have e1 : (List.zipWith (fun x z => x + b * z) xs os)[c]? = some (b + b * i) := by rw [List.getElem?_zipWith, h1, h2]
  rw [dot_set e1 h3, dot_plus b xs os ws hl]
  rw [dot_setr h2 h3] at hs
  grind
/-- each line tells its left by the tops -/
def HoldsV (v : Int → Rat) (ls us : List Int) (tab : List (List Rat)) : Prop := ∀ (k : Nat) (row : List Rat) (l : Int), tab[k]? = some row → ls[k]? = some l → v l = dotR row (1 :: us.map v)
theorem HoldsV.exch {v : Int → Rat} {B : Nat} {ls us : List Int} {tab : List (List Rat)} {i j : Nat} {ri : List Rat} {y : Rat} (h : HoldsV v ls us tab) (G : GOk B ls us tab) (ei : tab[i]? = some ri) (hj : j < us.length) (ey : ri[j + 1]? = some y) (y0 : y ≠ 0) :
    HoldsV v (ls.set i (us.getD j 0)) (us.set j (ls.getD i 0)) (tabR tab ri i (j + 1) y) := by
  have hi : i < tab.length := (List.getElem?_eq_some_iff.mp ei).1
  have eli : ls[i]? = some (ls.getD i 0) := by
    rw [List.getD_eq_getElem?_getD, List.getElem?_eq_getElem (by rw [G.l1]; exact hi)]
    rfl
  have euj : us[j]? = some (us.getD j 0) := by
    rw [List.getD_eq_getElem?_getD, List.getElem?_eq_getElem hj]
    rfl
  have h0 := h i ri _ ei eli
  have ew : 1 :: (us.set j (ls.getD i 0)).map v = (1 :: us.map v).set (j + 1) (dotR ri (1 :: us.map v)) := by
    rw [List.set_cons_succ, ← h0, List.map_set]
  have ez : (1 :: us.map v)[j + 1]? = some (v (us.getD j 0)) := by rw [List.getElem?_cons_succ, List.getElem?_map, euj]; rfl
  have hs := dot_solved ey ez y0
  intro k row l hk hl
  rw [ew]
  unfold tabR at hk
  by_cases e : i = k
  · subst e
    rw [List.getElem?_set_self (by rw [List.length_map]; exact hi)] at hk
    rw [List.getElem?_set_self (by rw [G.l1]; exact hi)] at hl
    cases hk
    cases hl
    exact hs.symm
  · rw [List.getElem?_set_ne e] at hl
    rw [List.getElem?_set_ne e, List.getElem?_map] at hk
    cases er : tab[k]? with
    | none => rw [er] at hk; cases hk
    | some r =>
      rw [er] at hk
      cases hk
      have lr := G.rl r (List.mem_of_getElem? er)
      have lri := G.rl ri (List.mem_of_getElem? ei)
      have erc : r[j + 1]? = some (r.getD (j + 1) 0) := by
        rw [List.getD_eq_getElem?_getD, List.getElem?_eq_getElem (show j + 1 < r.length by omega)]
        rfl
      rw [dot_repl (by rw [solvedR_len, lr, lri]) erc (solvedR_at (by omega)) ez hs]
      exact h k r l er hl
/-- numbers of unknowns -/
def InN (n : Nat) (xs : List Int) : Prop := ∀ x ∈ xs, 0 ≤ x ∧ x < (n : Int)
theorem InN.get {n : Nat} {xs : List Int} (h : InN n xs) (hn : 0 < n) (i : Nat) : 0 ≤ xs.getD i 0 ∧ xs.getD i 0 < (n : Int) := by
  rw [List.getD_eq_getElem?_getD]
  cases e : xs[i]? with
  | none => exact ⟨Int.le_refl _, by show (0 : Int) < n; omega⟩
  | some x => exact h x (List.mem_of_getElem? e)
theorem InN.set {n : Nat} {xs : List Int} {x : Int} (h : InN n xs) (i : Nat) (hx : 0 ≤ x ∧ x < (n : Int)) : InN n (xs.set i x) := fun y hy => by
  rcases List.mem_or_eq_of_mem_set hy with z | z
  · exact h y z
  · rw [z]
    exact hx
end
end G
namespace G
open PySem L2
section
variable {P : Program} {w : World} {K : PySem.W.Frag} {mg : Str → Option Value} {base : Heap} {a : Ad}
theorem mul_ok {i j : Int} {x y : Nat} (h : i.natAbs ≤ 2 ^ x) (g : j.natAbs ≤ 2 ^ y) (s : x + y ≤ 1000000) : IntMulOk i j := mulOk_bits (by
  have h1 := bits_le (k := i) (n := x + 1) (Nat.lt_of_le_of_lt h (Nat.pow_lt_pow_right (by decide) (by omega)))
  have h2 := bits_le (k := j) (n := y + 1) (Nat.lt_of_le_of_lt g (Nat.pow_lt_pow_right (by decide) (by omega)))
  have : (1000002 : Nat) ≤ 2 ^ 27 := by decide
  omega)
/-- pairs of at most so many bits -/
structure PN (n : Nat) (c : Int × Int) : Prop where
  b1 : c.1.natAbs ≤ 2 ^ n
  b2 : 1 ≤ c.2
  b3 : c.2.natAbs ≤ 2 ^ n
theorem PN.mono {m n : Nat} {c : Int × Int} (h : PN m c) (l : m ≤ n) : PN n c := ⟨Nat.le_trans h.b1 (pow_le l), h.b2, Nat.le_trans h.b3 (pow_le l)⟩
theorem PN.nz {n : Nat} {c : Int × Int} (h : PN n c) : c.2 ≠ 0 := by have := h.b2; omega
theorem sum_snocR (xs : List Rat) (x : Rat) : (xs ++ [x]).sum = xs.sum + x := by rw [List.sum_append, List.sum_cons, List.sum_nil, Rat.add_zero]
theorem natAbs_mul_le {x y : Int} {m n : Nat} (h : x.natAbs ≤ 2 ^ m) (g : y.natAbs ≤ 2 ^ n) : (x * y).natAbs ≤ 2 ^ (m + n) := by rw [Int.natAbs_mul, Nat.pow_add]; exact Nat.mul_le_mul h g
theorem natAbs_add_le' {x y : Int} {n : Nat} (h : x.natAbs ≤ 2 ^ n) (g : y.natAbs ≤ 2 ^ n) : (x + y).natAbs ≤ 2 ^ (n + 1) := by
  have := Int.natAbs_add_le x y
  rw [Nat.pow_succ]
  omega
theorem vR_add {p q : Int × Int} (hp : p.2 ≠ 0) (hq : q.2 ≠ 0) : vR (p.1 * q.2 + q.1 * p.2, p.2 * q.2) = vR p + vR q := by
  unfold vR
  rw [Rat.divInt_add_divInt _ _ hp hq]
theorem vR_mul {p q : Int × Int} : vR (p.1 * q.1, p.2 * q.2) = vR p * vR q := by
  unfold vR
  rw [Rat.divInt_mul_divInt]
theorem vR_neg (c : Int × Int) : -(vR c) = vR (0 - c.1, c.2) := by
  unfold vR
  rw [Int.zero_sub, Rat.neg_divInt]
def spSum (K : PySem.W.Frag) : Sp := fun vs H Q _ => ∃ (l : Addr) (ts : List V) (cs : List (Int × Int)) (B : Nat), vs = [.ref l] ∧ SqL K H l ts ∧ RowAt DueIs H ts cs ∧ cs.length ≤ 10 ∧ (∀ c ∈ cs, PN B c) ∧ B ≤ 40000 ∧
  ∀ t c H', H t = none → Same H H' → H' t = some (.tup [.int c.1, .int c.2]) → PN (cs.length * (B + 1)) c → vR c = (cs.map vR).sum → Q (.ref t) H'
theorem ok_law_sum (T : TX K mg a) : FnB P w K mg base CX0 "_law_sum" 1 ["_law_pairs_here"] (spSum K) := by
  refine T.d_law_sum.ok sc_law_sum (fun vs H Q E h => ?_) (fun f cdv A outer s H vs Q E hr h => ?_)
  · obtain ⟨l, ts, cs, B, rfl, _⟩ := h
    rfl
  · obtain ⟨l, ts, cs, B, rfl, hl, hr1, l10, pn, b4, k⟩ := h
    refine ⟨_, (pss_cons (ps_set (i := 1) sc_law_sum.nd rfl (Or.inl rfl) pe_int)
      (pss_cons (ps_set (i := 2) sc_law_sum.nd rfl (Or.inl rfl) pe_int)
      (pss_cons (ps_for PassesOwn.never rfl (pi_list (pv 0)) (pg_name (i := 3) sc_law_sum.nd rfl (Or.inl rfl)) (pss_cons (ps_set (i := 1) sc_law_sum.nd rfl (Or.inl rfl) (pe_op op_add (pe_op op_mulG (pv 1) (pe_ix ix_tup (pv 3) pe_int (fun _ _ => rfl))) (pe_op op_mulG (pe_ix ix_tup (pv 3) pe_int (fun _ _ => rfl)) (pv 2))))
      (pss_one (ps_set (i := 2) sc_law_sum.nd rfl (Or.inl rfl) (pe_op op_mulG (pv 2) (pe_ix ix_tup (pv 3) pe_int (fun _ _ => rfl)))))))
      (pss_one (ps_ret (pe_tup (pa_cons (pv 1) (pa_cons (pv 2) pa_nil)))))))), ?_⟩
    have e1 : ts.length = cs.length := hr1.1
    refine ⟨_, rfl, l, rfl, ⟨_, hl⟩, for_list (K := K) (a := l) (xs := ts) (fun i σ H' => i ≤ cs.length ∧ ∃ (c : Int × Int) (z3 : Option V), σ = [some (.ref l), some (.int c.1), some (.int c.2), z3] ∧ H' = H ∧ PN (i * (B + 1)) c ∧ vR c = ((cs.take i).map vR).sum) ⟨Nat.zero_le _, (0, 1), _, rfl, rfl, ⟨by show (0 : Int).natAbs ≤ _; exact Nat.zero_le _, by show (1 : Int) ≤ 1; decide, by show (1 : Int).natAbs ≤ _; exact Nat.one_le_two_pow⟩, by show Rat.divInt 0 1 = _; rw [Rat.zero_divInt]; rfl⟩ (fun i σ H' _ ⟨_, _, _, _, e, _⟩ => by rw [e]; exact hl) ?_ ?_⟩
    · rintro i x σ H' hx ⟨_, c, z3, rfl, rfl, pc, ev⟩
      obtain ⟨d, ed, p, rfl, hp⟩ := hr1.get hx
      have hi : i < cs.length := (List.getElem?_eq_some_iff.mp ed).1
      have pd := pn d (List.mem_of_getElem? ed)
      have sq := SqT.of (K := K) hp
      have hb : i * (B + 1) + B ≤ 1000000 := by
        have : i * (B + 1) ≤ 10 * 40001 := Nat.mul_le_mul (by omega) (by omega)
        omega
      refine ⟨_, rfl, _, rfl, p, _, _, _, rfl, rfl, sq, rfl, _, _, rfl, rfl, mul_ok pc.b1 pd.b3 hb, _, rfl, p, _, _, _, rfl, rfl, sq, rfl, _, rfl, _, _, rfl, rfl, mul_ok pd.b1 pc.b3 (by omega), _, _, rfl, rfl, ?_⟩
      refine ⟨_, rfl, _, rfl, p, _, _, _, rfl, rfl, sq, rfl, _, _, rfl, rfl, mul_ok pc.b3 pd.b3 hb, ?_⟩
      refine ⟨hi, (c.1 * d.2 + d.1 * c.2, c.2 * d.2), _, rfl, rfl, ⟨?_, Int.mul_pos (by have := pc.b2; omega) (by have := pd.b2; omega), ?_⟩, ?_⟩
      · rw [Nat.add_mul, Nat.one_mul, ← Nat.add_assoc]
        refine natAbs_add_le' (natAbs_mul_le pc.b1 pd.b3) ?_
        rw [Nat.add_comm (i * (B + 1)) B]
        exact natAbs_mul_le pd.b1 pc.b3
      · rw [Nat.add_mul, Nat.one_mul]
        exact Nat.le_trans (natAbs_mul_le pc.b3 pd.b3) (pow_le (by omega))
      · rw [vR_add pc.nz pd.nz, ev, List.take_add_one, ed, Option.toList_some, List.map_append, List.map_cons, List.map_nil, sum_snocR]
    · rintro σ H' ⟨_, c, z3, rfl, rfl, pc, ev⟩
      rw [e1] at pc ev
      rw [List.take_length] at ev
      exact ⟨_, rfl, _, rfl, by show 2 ≤ sizeLine; decide, fun t nt => k t c _ nt (same_upd nt) upd_same pc ev⟩
def spDot (K : PySem.W.Frag) : Sp := fun vs H Q _ => ∃ (l m : Addr) (ts us : List V) (cs ds : List (Int × Int)) (B C : Nat), vs = [.ref l, .ref m] ∧ SqL K H l ts ∧ RowAt DueIs H ts cs ∧ SqL K H m us ∧ RowAt DueIs H us ds ∧ cs.length = ds.length ∧ cs.length ≤ 10 ∧ (∀ c ∈ cs, PN B c) ∧ (∀ c ∈ ds, PN C c) ∧ B + C ≤ 40000 ∧
  ∀ t c H', H t = none → Same H H' → H' t = some (.tup [.int c.1, .int c.2]) → PN (cs.length * (B + C + 1)) c → vR c = dotR (cs.map vR) (ds.map vR) → Q (.ref t) H'
theorem mulP_snoc {cs ds : List (Int × Int)} {i : Nat} {c d : Int × Int} (h1 : cs[i]? = some c) (h2 : ds[i]? = some d) : List.zipWith (fun (c d : Int × Int) => (c.1 * d.1, c.2 * d.2)) (cs.take (i + 1)) (ds.take (i + 1)) = List.zipWith (fun (c d : Int × Int) => (c.1 * d.1, c.2 * d.2)) (cs.take i) (ds.take i) ++ [(c.1 * d.1, c.2 * d.2)] := by
  have l1 := (List.getElem?_eq_some_iff.mp h1).1
  have l2 := (List.getElem?_eq_some_iff.mp h2).1
  rw [List.take_add_one, List.take_add_one, h1, h2, Option.toList_some, Option.toList_some, List.zipWith_append (by rw [List.length_take, List.length_take]; omega)]
  rfl
theorem mulP_val : ∀ (cs ds : List (Int × Int)), ((List.zipWith (fun (c d : Int × Int) => (c.1 * d.1, c.2 * d.2)) cs ds).map vR).sum = dotR (cs.map vR) (ds.map vR)
  | [], ds => by rw [List.zipWith_nil_left]; rfl
  | c :: cs, [] => by rw [List.zipWith_nil_right, List.map_nil, dotR_nil']; rfl
  | c :: cs, d :: ds => by rw [List.zipWith_cons_cons, List.map_cons, List.sum_cons, mulP_val cs ds, vR_mul, List.map_cons, List.map_cons, dotR_cons]
theorem ok_law_dot (T : TX K mg a) : FnB P w K mg base CX0 "_law_dot" 2 ["_law_ones", "_law_others"] (spDot K) := by
  refine T.d_law_dot.ok sc_law_dot (fun vs H Q E h => ?_) (fun f cdv A outer s H vs Q E hr h => ?_)
  · obtain ⟨l, m, ts, us, cs, ds, B, C, rfl, _⟩ := h
    rfl
  · obtain ⟨l, m, ts, us, cs, ds, B, C, rfl, hl, hr1, hm, hr2, leq, l10, pn, pm, b4, k⟩ := h
    refine ⟨_, (pss_one (ps_ret (pe_fn (ok_law_sum T) hr pass0 (pa_cons (pe_compG (xs := ["_law_one", "_law_other"]) (rest := []) rfl (pi_zip (by rfl) T.z_zip (pa_cons (pv 0) (pa_cons (pv 1) pa_nil)))
      (fun pins fp C' s' H' => by exact (pg_tupK (K := K) (n := 2) rfl rfl (pgs_cons (pg_name (i := 0) (show (["_law_one", "_law_other"] : List Str).Nodup by decide +kernel) rfl (Or.inl rfl)) (pgs_cons (pg_name (i := 1) (show (["_law_one", "_law_other"] : List Str).Nodup by decide +kernel) rfl (Or.inl rfl)) pgs_nil)))) (fun pins fp C' s' H' => by exact pts_nil)
      (fun pins fp C' s' H' => by exact (pe_tup (pa_cons (pe_op op_mulG (pe_ix (r := rIxT K) ix_tup (pv 0) pe_int (fun _ _ => rfl)) (pe_ix (r := rIxT K) ix_tup (pv 1) pe_int (fun _ _ => rfl))) (pa_cons (pe_op op_mulG (pe_ix (r := rIxT K) ix_tup (pv 0) pe_int (fun _ _ => rfl)) (pe_ix (r := rIxT K) ix_tup (pv 1) pe_int (fun _ _ => rfl))) pa_nil))))
      (Clos.none (by decide +kernel) (by decide +kernel)) (Reads.many (ys := []) (js := []) True.intro)) pa_nil)))), ?_⟩
    have e1 : ts.length = cs.length := hr1.1
    have e2 : us.length = cs.length := by rw [hr2.1, leq]
    refine ⟨_, rfl, _, rfl, l, m, ts, us, rfl, hl, hm, fun q nq => ?_⟩
    refine compG_zip (K := K) (fun i H2 => i ≤ cs.length ∧ Same H H2 ∧ ∃ ws, H2 q = some (.lst ws) ∧ RowAt DueIs H2 ws (List.zipWith (fun (c d : Int × Int) => (c.1 * d.1, c.2 * d.2)) (cs.take i) (ds.take i))) ⟨Nat.zero_le _, same_upd nq, [], upd_same, RowAt.nil⟩ (fun i H2 ⟨_, s2, _⟩ => ⟨s2.seq hl, s2.seq hm⟩) ?_ ?_
    · rintro i x z t H2 hx hz nt ⟨_, s2, ws, h2, hv⟩ zs hzs
      obtain ⟨c, ec, pc, rfl, hpc⟩ := hr1.get hx
      obtain ⟨d, ed, pd, rfl, hpd⟩ := hr2.get hz
      have hi : i < cs.length := (List.getElem?_eq_some_iff.mp ec).1
      have bc := pn c (List.mem_of_getElem? ec)
      have bd := pm d (List.mem_of_getElem? ed)
      have s3 := s2.trans (same_upd (o := .tup [.ref pc, .ref pd]) nt)
      have h3 := same_upd (o := .tup [.ref pc, .ref pd]) nt _ _ h2
      have hv3 := hv.mono fun v x z => DueIs.mono z (same_upd (o := .tup [.ref pc, .ref pd]) nt)
      have ht : upd H2 t (.tup [.ref pc, .ref pd]) t = some (.tup [.ref pc, .ref pd]) := upd_same
      generalize upd H2 t (.tup [.ref pc, .ref pd]) = H3 at s3 h3 hv3 ht ⊢
      match zs, hzs with
      | [w1, w2], _ =>
        refine ⟨t, [.ref pc, .ref pd], rfl, SqT.of ht, rfl, .ref pc, [.ref pd], rfl, ⟨.ref pd, [], rfl, ⟨rfl, ⟨[_, _], rfl, rfl⟩, yes ?_⟩⟩⟩
        have sc := SqT.of (K := K) (s3 _ _ hpc)
        have sd := SqT.of (K := K) (s3 _ _ hpd)
        refine ⟨_, rfl, pc, _, _, _, rfl, rfl, sc, rfl, _, rfl, pd, _, _, _, rfl, rfl, sd, rfl, _, _, rfl, rfl, mul_ok bc.b1 bd.b1 (by omega), _, rfl, pc, _, _, _, rfl, rfl, sc, rfl, _, rfl, pd, _, _, _, rfl, rfl, sd, rfl, _, _, rfl, rfl, mul_ok bc.b3 bd.b3 (by omega), by show 2 ≤ sizeLine; decide, fun u nu => ?_⟩
        have s4 := same_upd (o := .tup [.int (c.1 * d.1), .int (c.2 * d.2)]) nu
        have hu : upd H3 u (.tup [.int (c.1 * d.1), .int (c.2 * d.2)]) u = some (.tup [.int (c.1 * d.1), .int (c.2 * d.2)]) := upd_same
        generalize upd H3 u (.tup [.int (c.1 * d.1), .int (c.2 * d.2)]) = H4 at s4 hu ⊢
        have h4 := s4 _ _ h3
        have lws : ws.length ≤ 10 := by rw [hv.1, List.length_zipWith, List.length_take]; omega
        refine ⟨_, h4, small1000 (by omega), nextP (by rw [e1, e2]; omega) ⟨hi, same_put nq (s3.trans s4), _, upd_same, ?_⟩⟩
        rw [mulP_snoc ec ed]
        exact RowAt.snoc (hv3.mono fun v x z => (z.mono s4).kl (KL.put h4)) (DueIs.kl ⟨u, rfl, hu⟩ (KL.put h4))
    · rintro H2 ⟨_, s2, ws, h2, hv⟩
      rw [e1, e2, Nat.min_self, List.take_length, leq, List.take_length] at hv
      have lz : (List.zipWith (fun (c d : Int × Int) => (c.1 * d.1, c.2 * d.2)) cs ds).length = cs.length := by rw [List.length_zipWith]; omega
      refine ⟨q, ws, _, B + C, rfl, SqL.of h2, hv, by omega, fun c hc => ?_, b4, fun t c H3 nt s3 ht pc ev => ?_⟩
      · obtain ⟨i, hi⟩ := List.mem_iff_getElem?.mp hc
        rw [List.getElem?_zipWith] at hi
        cases e3 : cs[i]? with
        | none => rw [e3] at hi; cases hi
        | some x =>
          cases e4 : ds[i]? with
          | none => rw [e3, e4] at hi; cases hi
          | some y =>
            rw [e3, e4] at hi
            cases hi
            have b1 := pn x (List.mem_of_getElem? e3)
            have b2 := pm y (List.mem_of_getElem? e4)
            exact ⟨natAbs_mul_le b1.b1 b2.b1, Int.mul_pos (by have := b1.b2; omega) (by have := b2.b2; omega), natAbs_mul_le b1.b3 b2.b3⟩
      · rw [lz] at pc
        rw [mulP_val] at ev
        exact k t c H3 (s2.free nt) (s2.trans s3) ht pc ev
def spSameG : Sp := fun vs H Q _ => ∃ (p q : Addr) (c d : Int × Int) (B C : Nat), vs = [.ref p, .ref q] ∧ H p = some (.tup [.int c.1, .int c.2]) ∧ H q = some (.tup [.int d.1, .int d.2]) ∧ PN B c ∧ PN C d ∧ B + C ≤ 900000 ∧ vR c = vR d ∧ Q (.bl true) H
theorem ok_law_same (T : TX K mg a) : FnB P w K mg base CX0 "_law_same" 1 ["_law_one", "_law_other"] spSameG := by
  refine T.d_law_same.ok sc_law_same (fun vs H Q E h => ?_) (fun f cdv A outer s H vs Q E hr h => ?_)
  · obtain ⟨p, q, c, d, B, C, rfl, _⟩ := h
    rfl
  · obtain ⟨p, q, c, d, B, C, rfl, hp, hq, pc, pd, hb, ev, k⟩ := h
    refine ⟨_, (pss_one (ps_ret (pe_cmpR op_eq (pe_op op_mulG (pe_ix ix_tup (pv 0) pe_int (fun _ _ => rfl)) (pe_ix ix_tup (pv 1) pe_int (fun _ _ => rfl))) (pe_op op_mulG (pe_ix ix_tup (pv 1) pe_int (fun _ _ => rfl)) (pe_ix ix_tup (pv 0) pe_int (fun _ _ => rfl))) (nomark _)))), ?_⟩
    have s1 := SqT.of (K := K) hp
    have s2 := SqT.of (K := K) hq
    refine ⟨_, rfl, p, _, _, _, rfl, rfl, s1, rfl, _, rfl, q, _, _, _, rfl, rfl, s2, rfl, _, _, rfl, rfl, mul_ok pc.b1 pd.b3 (by omega), _, rfl, q, _, _, _, rfl, rfl, s2, rfl, _, rfl, p, _, _, _, rfl, rfl, s1, rfl, _, _, rfl, rfl, mul_ok pd.b1 pc.b3 (by omega), rfl, ?_⟩
    show Q (.bl (decide (V.int (c.1 * d.2) = V.int (d.1 * c.2)))) H
    rw [show c.1 * d.2 = d.1 * c.2 from (Rat.divInt_eq_divInt_iff pc.nz pd.nz).mp ev, decide_eq_true rfl]
    exact k
def restR (css : List (List (Int × Int))) (cs fs : List (Int × Int)) : List Rat := List.zipWith (fun r b => vR b - dotR (r.map vR) (fs.map vR)) css cs
theorem restR_snoc {css : List (List (Int × Int))} {cs fs : List (Int × Int)} {i : Nat} {r : List (Int × Int)} {b : Int × Int} (h1 : css[i]? = some r) (h2 : cs[i]? = some b) : restR (css.take (i + 1)) (cs.take (i + 1)) fs = restR (css.take i) (cs.take i) fs ++ [vR b - dotR (r.map vR) (fs.map vR)] := by
  have l1 := (List.getElem?_eq_some_iff.mp h1).1
  have l2 := (List.getElem?_eq_some_iff.mp h2).1
  unfold restR
  rw [List.take_add_one, List.take_add_one, h1, h2, Option.toList_some, Option.toList_some, List.zipWith_append (by rw [List.length_take, List.length_take]; omega)]
  rfl
/-- rows and bounds -/
structure RB_ (H : Hp) (lr lb : Addr) (tr tb : List V) (css : List (List (Int × Int))) (cs : List (Int × Int)) (m n : Nat) : Prop where
  hr : H lr = some (.lst tr)
  rr : RowAt (LsIs DueIs) H tr css
  lr : css.length = m
  pr : ∀ r ∈ css, r.length = n ∧ ∀ c ∈ r, PN 28 c
  hb : H lb = some (.lst tb)
  rb : RowAt DueIs H tb cs
  lb : cs.length = m
  pb : ∀ c ∈ cs, PN 28 c
theorem RB_.mono {H H' : Hp} {lr lb : Addr} {tr tb : List V} {css : List (List (Int × Int))} {cs : List (Int × Int)} {m n : Nat} (d : RB_ H lr lb tr tb css cs m n) (s : Same H H') : RB_ H' lr lb tr tb css cs m n :=
  { d with hb := s _ _ d.hb, rb := d.rb.mono fun _ _ z => z.mono s, hr := s _ _ d.hr, rr := d.rr.mono fun _ _ z => z.mono (fun _ _ y => y.mono s) s }
def spValues : Sp := fun vs H Q _ => ∃ (lr lb lf : Addr) (tr tb tf : List V) (css : List (List (Int × Int))) (cs fs : List (Int × Int)) (m n : Nat), vs = [.ref lr, .ref lb, .ref lf] ∧ RB_ H lr lb tr tb css cs m n ∧ m ≤ 5 ∧ n ≤ 5 ∧ H lf = some (.lst tf) ∧ RowAt DueIs H tf fs ∧ fs.length = n ∧ (∀ c ∈ fs, PN 1 c) ∧
  ∀ p H' ws es, H p = none → Same H H' → H' p = some (.lst ws) → RowAt DueIs H' ws es → es.length = n + m → (∀ c ∈ es, PN 400 c) → es.map vR = fs.map vR ++ restR css cs fs → Q (.ref p) H'
theorem ok_law_values (T : TX K mg a) : FnB P w K mg base CX0 "_law_values" 3 ["_law_rows", "_law_bounds", "_law_first"] spValues := by
  refine T.d_law_values.ok sc_law_values (fun vs H Q E h => ?_) (fun f cdv A outer s H vs Q E hr h => ?_)
  · obtain ⟨lr, lb, lf, tr, tb, tf, css, cs, fs, m, n, rfl, _⟩ := h
    rfl
  · obtain ⟨lr, lb, lf, tr, tb, tf, css, cs, fs, m, n, rfl, D, m5, n5, hf, hfs, lfs, pf, k⟩ := h
    refine ⟨_, (pss_cons (ps_set (i := 3) sc_law_values.nd rfl (Or.inl rfl) (pe_callTy call_list_of (by rfl) T.z_list PyProof.Rows.boot_list (pa_cons (pv 2) pa_nil)))
      (pss_cons (ps_for PassesOwn.never rfl (pi_zip (by rfl) T.z_zip (pa_cons (pv 0) (pa_cons (pv 1) pa_nil))) (pg_tup rfl (pgs_cons (pg_name (i := 4) sc_law_values.nd rfl (Or.inl rfl)) (pgs_cons (pg_name (i := 5) sc_law_values.nd rfl (Or.inl rfl)) pgs_nil))) (pss_cons (ps_set (i := 6) sc_law_values.nd rfl (Or.inl rfl) (pe_fn (ok_law_dot T) hr pass0 (pa_cons (pv 4) (pa_cons (pv 2) pa_nil))))
      (pss_one (ps_expr (pe_bm PySem.F.plainAttrs_list PySem.F.slot_list_append PySem.F.type_list_append mt_append (pv 3) (pa_cons (pe_fn (ok_law_sum T) hr pass0 (pa_cons (pe_lst (pa_cons (pv 5) (pa_cons (pe_tup (pa_cons (pe_op op_sub pe_int (pe_ix ix_tup (pv 6) pe_int (fun _ _ => rfl))) (pa_cons (pe_ix ix_tup (pv 6) pe_int (fun _ _ => rfl)) pa_nil))) pa_nil))) pa_nil)) pa_nil))))))
      (pss_one (ps_ret (pv 3))))), ?_⟩
    have etr : tr.length = m := by rw [D.rr.1, D.lr]
    have etb : tb.length = m := by rw [D.rb.1, D.lb]
    refine ⟨_, rfl, lf, _, rfl, .inl (SqL.of hf), fun p np => ?_⟩
    have s0 := same_upd (o := .lst tf) np
    refine ⟨_, rfl, _, rfl, lr, lb, tr, tb, rfl, SqL.of (s0 _ _ D.hr), SqL.of (s0 _ _ D.hb), ?_⟩
    refine for_zip (K := K) (fun i σ H' => i ≤ m ∧ ∃ ws es z4 z5 z6, σ = [some (.ref lr), some (.ref lb), some (.ref lf), some (.ref p), z4, z5, z6] ∧ Same H H' ∧ H' p = some (.lst ws) ∧ RowAt DueIs H' ws es ∧ es.length = n + i ∧ (∀ c ∈ es, PN 400 c) ∧ es.map vR = fs.map vR ++ restR (css.take i) (cs.take i) fs)
      ⟨Nat.zero_le _, tf, fs, _, _, _, rfl, s0, upd_same, hfs.mono fun _ _ z => z.mono s0, lfs, fun c hc => (pf c hc).mono (by decide), by show _ = _ ++ []; rw [List.append_nil]⟩ (fun i σ H' ⟨_, _, _, _, _, _, _, s1, _⟩ => ⟨SqL.of (s1 _ _ D.hr), SqL.of (s1 _ _ D.hb)⟩) ?_ ?_
    · rintro i x y t σ H1 hx hy nt ⟨_, ws, es, z4, z5, z6, rfl, s1, hp, hv, les, pes, ev⟩
      obtain ⟨r, er, p1, t1, rfl, hp1, hr1⟩ := D.rr.get hx
      obtain ⟨b, eb, p2, rfl, hp2⟩ := D.rb.get hy
      have hi : i < m := by rw [← D.lr]; exact (List.getElem?_eq_some_iff.mp er).1
      obtain ⟨rl, rp⟩ := D.pr r (List.mem_of_getElem? er)
      have pbb := D.pb b (List.mem_of_getElem? eb)
      have s12 := same_upd (o := .tup [.ref p1, .ref p2]) nt
      have ht : upd H1 t (.tup [.ref p1, .ref p2]) t = some (.tup [.ref p1, .ref p2]) := upd_same
      generalize upd H1 t (.tup [.ref p1, .ref p2]) = H2 at s12 ht ⊢
      have s2 := s1.trans s12
      refine ⟨t, [.ref p1, .ref p2], rfl, SqT.of ht, rfl, .ref p1, [.ref p2], rfl, ⟨.ref p2, [], rfl, ⟨rfl, ?_⟩⟩⟩
      refine ⟨_, rfl, _, rfl, p1, lf, t1, tf, r, fs, 28, 1, rfl, SqL.of (s2 _ _ hp1), hr1.mono (fun _ _ z => DueIs.mono z s2), SqL.of (s2 _ _ hf), hfs.mono (fun _ _ z => z.mono s2), by rw [rl, lfs], by omega, rp, pf, by decide, fun u c H3 nu s3 hu pc evc => ?_⟩
      have pc' : PN 150 c := pc.mono (Nat.le_trans (Nat.mul_le_mul_right _ (show r.length ≤ 5 by omega)) (by decide))
      have squ := SqT.of (K := K) hu
      have s13 := s12.trans s3
      refine ⟨_, rfl, .inl ⟨rfl, _, SqL.of (s13 _ _ hp)⟩, _, rfl, _, rfl, u, _, _, _, rfl, rfl, squ, rfl, _, _, rfl, rfl, _, rfl, u, _, _, _, rfl, rfl, squ, rfl, by show 2 ≤ sizeLine; decide, fun t2 nt2 => ?_⟩
      have s4 := same_upd (o := .tup [.int (0 - c.1), .int c.2]) nt2
      have ht2 : upd H3 t2 (.tup [.int (0 - c.1), .int c.2]) t2 = some (.tup [.int (0 - c.1), .int c.2]) := upd_same
      generalize upd H3 t2 (.tup [.int (0 - c.1), .int c.2]) = H4 at s4 ht2 ⊢
      refine ⟨by show 2 ≤ sizeLine; decide, fun l2 nl2 => ?_⟩
      have s5 := same_upd (o := .lst [.ref p2, .ref t2]) nl2
      have hl2 : upd H4 l2 (.lst [.ref p2, .ref t2]) l2 = some (.lst [.ref p2, .ref t2]) := upd_same
      generalize upd H4 l2 (.lst [.ref p2, .ref t2]) = H5 at s5 hl2 ⊢
      have s35 := s4.trans s5
      have r2 : RowAt DueIs H5 [.ref p2, .ref t2] ([b] ++ [(0 - c.1, c.2)]) := RowAt.snoc (RowAt.one ⟨p2, rfl, (s2.trans (s3.trans s35)) _ _ hp2⟩) ⟨t2, rfl, s5 _ _ ht2⟩
      refine ⟨l2, _, _, 150, rfl, SqL.of hl2, r2, by show 2 ≤ 10; decide, fun d hd => ?_, by decide, fun t3 e H6 nt3 s6 ht3 pe eve => ?_⟩
      · rcases List.mem_append.mp hd with z | z
        · rw [List.mem_singleton.mp z]
          exact pbb.mono (by decide)
        · rw [List.mem_singleton.mp z]
          exact ⟨by show (0 - c.1).natAbs ≤ _; rw [Int.zero_sub, Int.natAbs_neg]; exact pc'.b1, pc'.b2, pc'.b3⟩
      have s16 := s13.trans (s35.trans s6)
      have hp6 := s16 _ _ hp
      have lws : ws.length ≤ 20 := by rw [hv.1, les]; omega
      have kl := KL.put (o := .lst (ws ++ [.ref t3])) hp6
      refine ⟨p, _, _, rfl, rfl, hp6, small1000 (by omega), hi, _, es ++ [e], _, _, _, rfl, same_put np (s1.trans s16), upd_same, RowAt.snoc (hv.mono fun v x z => (z.mono s16).kl kl) (DueIs.kl ⟨t3, rfl, ht3⟩ kl), by rw [List.length_append, les]; rfl, fun d hd => ?_, ?_⟩
      · rcases List.mem_append.mp hd with z | z
        · exact pes d z
        · rw [List.mem_singleton.mp z]
          exact pe.mono (by show 2 * 151 ≤ 400; decide)
      · rw [List.map_append, ev, restR_snoc er eb, List.append_assoc]
        have : vR e = vR b - dotR (r.map vR) (fs.map vR) := by
          rw [eve, ← evc, Rat.sub_eq_add_neg, vR_neg]
          show (vR b :: [vR (0 - c.1, c.2)]).sum = _
          rw [List.sum_cons, List.sum_cons, List.sum_nil, Rat.add_zero]
        rw [← this]
        rfl
    · rintro σ H1 ⟨_, ws, es, z4, z5, z6, rfl, s1, hp, hv, les, pes, ev⟩
      rw [etr, etb, Nat.min_self] at les ev
      rw [List.take_of_length_le (by rw [D.lr]; exact Nat.le_refl _), List.take_of_length_le (by rw [D.lb]; exact Nat.le_refl _)] at ev
      exact ⟨_, rfl, k p H1 ws es np s1 hp hv les pes ev⟩
theorem prR_val (x : Rat) : vR (prR x) = x := Rat.num_divInt_den x
def valOf (es : List (Int × Int)) (x : Int) : Rat := vR (es.getD x.toNat (0, 1))
def spLines (a : Ad) : Sp := fun vs H Q _ => ∃ (t lv : Addr) (ls us : List Int) (tab : List (List Rat)) (tv : List V) (es : List (Int × Int)), vs = [.ref t, .ref lv] ∧ GridAt a H t ls us tab ∧ GOk 7000 ls us tab ∧ H lv = some (.lst tv) ∧ RowAt DueIs H tv es ∧ (∀ c ∈ es, PN 400 c) ∧ InN es.length ls ∧ InN es.length us ∧ HoldsV (valOf es) ls us tab ∧ ∀ H', Same H H' → Q (.bl true) H'
theorem ok_law_lines (T : TX K mg a) : FnB P w K mg base CX0 "_law_lines" 4 ["_law_some", "_law_values_here"] (spLines a) := by
  refine T.d_law_lines.ok sc_law_lines (fun vs H Q E h => ?_) (fun f cdv A outer s H vs Q E hr h => ?_)
  · obtain ⟨t, lv, ls, us, tab, tv, es, rfl, _⟩ := h
    rfl
  · obtain ⟨t, lv, ls, us, tab, tv, es, rfl, ⟨p, q, r, ts, ht, hp, hq, hr', hts⟩, G, hlv, hes, pes, inl, inu, hold, k⟩ := h
    refine ⟨_, (pss_cut (ps_compG (i := 2) (xs := ["_law_number"]) (rest := ["_law_values_here"]) sc_law_lines.nd rfl rfl rfl (pi_list (pe_ix ix_tup (pv 0) pe_int (fun _ _ => rfl)))
      (fun pins fp C' s' H' => (pg_name (i := 0) (show (["_law_number", "_law_values_here"] : List Str).Nodup by decide +kernel) rfl (Or.inl rfl))) (fun pins fp C' s' H' => pts_nil)
      (fun pins fp C' s' H' => (pe_ix (r := rIxL K) ix_list (pv 1) (pv 0) (fun _ _ => rfl)))
      (Clos.many (ys := ["_law_values_here"]) rfl ⟨rfl, True.intro⟩ rfl (by decide +kernel)) (Reads.many (ys := ["_law_values_here"]) (js := [1]) ⟨⟨rfl, rfl, rfl⟩, True.intro⟩))
      (pss_cons (ps_for PassesOwn.never rfl (pi_zip (by rfl) T.z_zip (pa_cons (pe_ix ix_tup (pv 0) pe_int (fun _ _ => rfl)) (pa_cons (pe_ix ix_tup (pv 0) pe_int (fun _ _ => rfl)) pa_nil))) (pg_tup rfl (pgs_cons (pg_name (i := 3) sc_law_lines.nd rfl (Or.inl rfl)) (pgs_cons (pg_name (i := 4) sc_law_lines.nd rfl (Or.inl rfl)) pgs_nil))) (pss_cons (ps_set (i := 5) sc_law_lines.nd rfl (Or.inl rfl) (pe_fn (ok_law_pairs T) hr pass0 (pa_cons (pv 3) (pa_cons (pe_op op_add pe_int (pe_callB call_lenK (by rfl) T.z_len PySem.boot_len (pa_cons (pv 2) pa_nil))) pa_nil))))
      (pss_cons (ps_if (pt_cmpR op_isN (pv 5) pe_non (nomark _)) (pss_one (ps_ret pe_bl)) pss_nil)
      (pss_one (ps_if (pt_not (pt_val (pe_fn (ok_law_same T) hr pass0 (pa_cons (pe_ix ix_list (pv 1) (pv 4) (fun _ _ => rfl)) (pa_cons (pe_fn (ok_law_sum T) hr pass0 (pa_cons (pe_lst (pa_cons (pe_ix ix_list (pv 5) pe_int (fun _ _ => rfl)) (pa_cons (pe_fn (ok_law_dot T) hr pass0 (pa_cons (pe_slice sl_list (pv 5) (po_some pe_int) po_none) (pa_cons (pv 2) pa_nil))) pa_nil))) pa_nil)) pa_nil))))) (pss_one (ps_ret pe_bl)) pss_nil)))))
      (pss_one (ps_ret pe_bl)))), ?_⟩
    have u5 := G.u5
    have getx : ∀ (x : Int), 0 ≤ x ∧ x < (es.length : Int) → ∃ v, atI tv x = some v ∧ DueIs H v (es.getD x.toNat (0, 1)) := fun x ⟨h0, h1⟩ => by
      obtain ⟨j, rfl⟩ := Int.eq_ofNat_of_zero_le h0
      have hj : j < es.length := by omega
      have e1 : es[j]? = some (es.getD j (0, 1)) := by rw [List.getD_eq_getElem?_getD, List.getElem?_eq_getElem hj]; rfl
      obtain ⟨v, ev, hv⟩ := hes.get' e1
      exact ⟨v, atI_nat ev, hv⟩
    have getp : ∀ (x : Int), 0 ≤ x ∧ x < (es.length : Int) → PN 400 (es.getD x.toNat (0, 1)) := fun x ⟨h0, h1⟩ => by
      rw [List.getD_eq_getElem?_getD, List.getElem?_eq_getElem (by omega)]
      exact pes _ (List.getElem_mem _)
    refine ⟨fun σ' H' => ∃ lt ws, σ' = [some (.ref t), some (.ref lv), some (.ref lt), none, none, none] ∧ Same H H' ∧ H' lt = some (.lst ws) ∧ RowAt DueIs H' ws (us.map fun x => es.getD x.toNat (0, 1)), ?_, ?_⟩
    · refine ⟨_, rfl, t, _, _, _, rfl, rfl, SqT.of ht, rfl, q, rfl, ⟨_, SqL.of hq⟩, fun lt nlt => ?_⟩
      refine compG_list (K := K) (a := q) (xs := us.map V.int) (fun i H1 => i ≤ us.length ∧ Same H H1 ∧ ∃ ws, H1 lt = some (.lst ws) ∧ RowAt DueIs H1 ws ((us.take i).map fun x => es.getD x.toNat (0, 1))) ⟨Nat.zero_le _, same_upd nlt, [], upd_same, RowAt.nil⟩ (fun i H1 ⟨_, s1, _⟩ => SqL.of (s1 _ _ hq)) ?_ ?_
      · rintro i x H1 hx ⟨_, s1, ws, h1, hw⟩
        rw [List.getElem?_map] at hx
        cases e : us[i]? with
        | none => rw [e] at hx; cases hx
        | some y =>
          rw [e] at hx
          cases hx
          have hi : i < us.length := (List.getElem?_eq_some_iff.mp e).1
          obtain ⟨v, ev, hv⟩ := getx y (inu y (List.mem_of_getElem? e))
          refine g1 ⟨⟨[_], rfl, rfl⟩, yes ?_⟩
          refine ⟨_, rfl, _, rfl, lv, _, _, _, rfl, rfl, SqL.of (s1 _ _ hlv), ev, ?_⟩
          have lws : ws.length ≤ 10 := by rw [hw.1, List.length_map, List.length_take]; omega
          refine ⟨_, h1, small1000 (by omega), nextP (by rw [List.length_map]; exact hi) ⟨hi, same_put nlt s1, _, upd_same, ?_⟩⟩
          rw [List.take_add_one, e, Option.toList_some, List.map_append]
          exact RowAt.snoc (hw.mono fun v x z => z.kl (KL.put h1)) ((hv.mono s1).kl (KL.put h1))
      · rintro H1 ⟨_, s1, ws, h1, hw⟩
        rw [List.length_map, List.take_length] at hw
        exact ⟨lt, ws, rfl, s1, h1, hw⟩
    rintro σ' H1 ⟨lt, ws, rfl, s1, hlt, hws⟩
    have lws : ws.length = us.length := by rw [hws.1, List.length_map]
    refine ⟨_, rfl, t, _, _, _, rfl, rfl, SqT.of (s1 _ _ ht), rfl, _, rfl, t, _, _, _, rfl, rfl, SqT.of (s1 _ _ ht), rfl, r, p, ts, _, rfl, SqL.of (s1 _ _ hr'), SqL.of (s1 _ _ hp), ?_⟩
    refine for_zip (K := K) (fun i σ H' => ∃ z3 z4 z5, σ = [some (.ref t), some (.ref lv), some (.ref lt), z3, z4, z5] ∧ Same H1 H') ⟨_, _, _, rfl, Same.refl _⟩ (fun i σ H' ⟨_, _, _, _, s2⟩ => ⟨SqL.of ((s1.trans s2) _ _ hr'), SqL.of ((s1.trans s2) _ _ hp)⟩) ?_ ?_
    · rintro i x y u σ H2 hx hy nu ⟨z3, z4, z5, rfl, s2⟩
      obtain ⟨row, er, p1, t1, rfl, hp1, hr1⟩ := hts.get hx
      rw [List.getElem?_map] at hy
      cases e : ls[i]? with
      | none => rw [e] at hy; cases hy
      | some l =>
        rw [e] at hy
        cases hy
        have lrow := G.rl row (List.mem_of_getElem? er)
        have inl' := inl l (List.mem_of_getElem? e)
        have hold' := hold i row l er e
        have s3 := s2.trans (same_upd (o := .tup [.ref p1, .int l]) nu)
        have hu : upd H2 u (.tup [.ref p1, .int l]) u = some (.tup [.ref p1, .int l]) := upd_same
        generalize upd H2 u (.tup [.ref p1, .int l]) = H3 at s3 hu ⊢
        have s13 := s1.trans s3
        refine ⟨u, [.ref p1, .int l], rfl, SqT.of hu, rfl, .ref p1, [.int l], rfl, ⟨.int l, [], rfl, ⟨rfl, ?_⟩⟩⟩
        refine ⟨_, rfl, _, rfl, lt, _, rfl, .inl (SqL.of (s3 _ _ hlt)), _, _, rfl, rfl, p1, t1, row, ?_, s13 _ _ hp1, hr1.mono (fun _ _ z => z.mono s13), by omega, fun d H4 ds nd s4 hd hds => ?_⟩
        · show [V.ref p1, V.int (1 + (ws.length : Int))] = _
          rw [lws, show (1 : Int) + (us.length : Int) = (row.length : Int) by omega]
        have s14 := s13.trans s4
        refine ⟨_, rfl, rfl, _, rfl, iteF ?_⟩
        obtain ⟨vl, evl, hvl⟩ := getx l inl'
        obtain ⟨pl, rfl, hpl⟩ := hvl
        cases row with
        | nil => rw [List.length_nil] at lrow; omega
        | cons x0 xs =>
          have lds : ds.length = us.length + 1 := by rw [hds.1, List.length_map, lrow]
          obtain ⟨v0, ev0, p0, rfl, hp0⟩ := hds.get' (i := 0) (x := prR x0) rfl
          have a0 : atI ds 0 = some (.ref p0) := atI_nat (j := 0) ev0
          refine ⟨_, rfl, _, rfl, lv, _, _, _, rfl, rfl, SqL.of (s14 _ _ hlv), evl, _, rfl, d, _, _, _, rfl, rfl, SqL.of hd, a0, _, rfl, _, rfl, d, _, rfl, SqL.of hd, fun g ng => ?_⟩
          have s5 := same_upd (o := .lst (cutV ds (some 1) none)) ng
          have hg : upd H4 g (.lst (cutV ds (some 1) none)) g = some (.lst (cutV ds (some 1) none)) := upd_same
          generalize upd H4 g (.lst (cutV ds (some 1) none)) = H5 at s5 hg ⊢
          rw [show cutV ds (some 1) none = ds.drop 1 from cut_drop 1] at hg
          have rdrop : RowAt DueIs H5 (ds.drop 1) (xs.map prR) := (hds.drop 1).mono fun _ _ z => DueIs.mono z s5
          have s35 := s4.trans s5
          have bprR : ∀ c ∈ xs.map prR, PN 7000 c := fun c hc => by
            obtain ⟨x, hx, rfl⟩ := List.mem_map.mp hc
            have b := G.bd _ (List.mem_of_getElem? er) x (List.mem_cons_of_mem _ hx)
            exact ⟨b.1, by show (1 : Int) ≤ (x.den : Int); have := den_pos x; omega, by show ((x.den : Int)).natAbs ≤ _; rw [Int.natAbs_natCast]; exact b.2⟩
          have b0 := G.bd _ (List.mem_of_getElem? er) x0 List.mem_cons_self
          have bp0 : PN 7000 (prR x0) := ⟨b0.1, by show (1 : Int) ≤ (x0.den : Int); have := den_pos x0; omega, by show ((x0.den : Int)).natAbs ≤ _; rw [Int.natAbs_natCast]; exact b0.2⟩
          have lxs : xs.length = us.length := by rw [List.length_cons] at lrow; omega
          refine ⟨_, rfl, g, lt, _, _, _, _, 7000, 400, rfl, SqL.of hg, rdrop, SqL.of ((s3.trans s35) _ _ hlt), hws.mono (fun _ _ z => DueIs.mono z (s3.trans s35)), by rw [List.length_map, List.length_map, lxs], by rw [List.length_map]; omega, bprR, fun c hc => ?_, by decide, fun v c H6 nv s6 hv pc evc => ?_⟩
          · obtain ⟨x, hx, rfl⟩ := List.mem_map.mp hc
            exact getp x (inu x hx)
          refine ⟨by show 2 ≤ sizeLine; decide, fun l2 nl2 => ?_⟩
          have s7 := same_upd (o := .lst [.ref p0, .ref v]) nl2
          have hl2 : upd H6 l2 (.lst [.ref p0, .ref v]) l2 = some (.lst [.ref p0, .ref v]) := upd_same
          generalize upd H6 l2 (.lst [.ref p0, .ref v]) = H7 at s7 hl2 ⊢
          have r2 : RowAt DueIs H7 [.ref p0, .ref v] ([prR x0] ++ [c]) := RowAt.snoc (RowAt.one ⟨p0, rfl, (s5.trans (s6.trans s7)) _ _ hp0⟩) ⟨v, rfl, s7 _ _ hv⟩
          have pc' : PN 37100 c := pc.mono (by
            rw [List.length_map]
            exact Nat.le_trans (Nat.mul_le_mul_right _ (show xs.length ≤ 5 by omega)) (by decide))
          refine ⟨l2, _, _, 37100, rfl, SqL.of hl2, r2, by show 2 ≤ 10; decide, fun d hd => ?_, by decide, fun t3 e3 H8 nt3 s8 ht3 pe eve => ?_⟩
          · rcases List.mem_append.mp hd with z | z
            · rw [List.mem_singleton.mp z]
              exact bp0.mono (by decide)
            · rw [List.mem_singleton.mp z]
              exact pc'
          have s48 := s5.trans (s6.trans (s7.trans s8))
          have l2' : ([prR x0] ++ [c]).length = 2 := rfl
          rw [l2'] at pe
          refine ⟨pl, t3, _, e3, 400, 80000, rfl, (s14.trans s48) _ _ hpl, ht3, getp l inl', pe.mono (by decide), by decide, ?_, ?_⟩
          · rw [eve]
            show valOf es l = (vR (prR x0) :: [vR c]).sum
            rw [hold', dotR_cons, Rat.mul_one, prR_val, List.sum_cons, List.sum_cons, List.sum_nil, Rat.add_zero, evc, List.map_map, List.map_map]
            congr 2
            rw [show (vR ∘ prR) = id from funext prR_val, List.map_id]
          · exact ⟨_, rfl, iteF ⟨_, _, _, rfl, s3.trans (s4.trans s48)⟩⟩
    · rintro σ H2 ⟨z3, z4, z5, rfl, s2⟩
      exact k H2 (s1.trans s2)
def vOf (css : List (List (Int × Int))) (cs fs : List (Int × Int)) (x : Int) : Rat := (fs.map vR ++ restR css cs fs).getD x.toNat 0
theorem valOf_eq {es : List (Int × Int)} {css : List (List (Int × Int))} {cs fs : List (Int × Int)} (h : es.map vR = fs.map vR ++ restR css cs fs) : valOf es = vOf css cs fs := funext fun x => by
  unfold valOf vOf
  rw [← h, List.getD_eq_getElem?_getD, List.getD_eq_getElem?_getD, List.getElem?_map]
  cases es[x.toNat]? with
  | none => rfl
  | some c => rfl
def spHolds (a : Ad) : Sp := fun vs H Q _ => ∃ (t lr lb : Addr) (ls us : List Int) (tab : List (List Rat)) (tr tb : List V) (css : List (List (Int × Int))) (cs : List (Int × Int)) (m n : Nat), vs = [.ref t, .ref lr, .ref lb] ∧ GridAt a H t ls us tab ∧ GOk 7000 ls us tab ∧ RB_ H lr lb tr tb css cs m n ∧ 1 ≤ m ∧ m ≤ 5 ∧ n ≤ 5 ∧ tab.length = m ∧ InN (n + m) ls ∧ InN (n + m) us ∧ (∀ fs : List (Int × Int), fs.length = n → HoldsV (vOf css cs fs) ls us tab) ∧ ∀ H', Same H H' → Q (.bl true) H'
theorem ok_law_holds (T : TX K mg a) : FnB P w K mg base CX0 "_law_holds" 5 ["_law_some", "_law_rows", "_law_bounds"] (spHolds a) := by
  refine T.d_law_holds.ok sc_law_holds (fun vs H Q E h => ?_) (fun f cdv A outer s H vs Q E hr h => ?_)
  · obtain ⟨t, lr, lb, ls, us, tab, tr, tb, css, cs, m, n, rfl, _⟩ := h
    rfl
  · obtain ⟨t, lr, lb, ls, us, tab, tr, tb, css, cs, m, n, rfl, hG, G, D, m1, m5, n5, ltab, inl, inu, hold, k⟩ := h
    refine ⟨_, (pss_cons (ps_set (i := 3) sc_law_holds.nd rfl (Or.inl rfl) (pe_callB call_lenK (by rfl) T.z_len PySem.boot_len (pa_cons (pe_ix ix_list (pv 1) pe_int (fun _ _ => rfl)) pa_nil)))
      (pss_cons (ps_if (PW.pt (pw_or (pt_not (pt_val (pe_callB (call_isI (c := .type "tuple")) (by rfl) T.z_isinstance PyProof.Rows.boot_isinstance (pa_cons (pv 0) (pa_cons (pe_bltn (v := .ty "tuple") (by rfl) T.z_tuple PyProof.Rows.boot_tuple rfl) pa_nil))))) (pw_or (pt_cmpR op_ne (pe_callB call_lenK (by rfl) T.z_len PySem.boot_len (pa_cons (pv 0) pa_nil)) pe_int (nomark _)) (pw_or (pt_not (pt_val (pe_callB (call_isI (c := .type "list")) (by rfl) T.z_isinstance PyProof.Rows.boot_isinstance (pa_cons (pe_ix ix_tup (pv 0) pe_int (fun _ _ => rfl)) (pa_cons (pe_bltn (v := .ty "list") (by rfl) T.z_list PyProof.Rows.boot_list rfl) pa_nil))))) (pw_or1 (pt_cmpR op_ne (pe_callB call_lenK (by rfl) T.z_len PySem.boot_len (pa_cons (pe_ix ix_tup (pv 0) pe_int (fun _ _ => rfl)) pa_nil)) (pe_callB call_lenK (by rfl) T.z_len PySem.boot_len (pa_cons (pv 1) pa_nil)) (nomark _))))))) (pss_one (ps_ret pe_bl)) pss_nil)
      (pss_cons (ps_for PassesOwn.never rfl (pi_range1 rfl T.z_range (pa_cons (pe_op op_add (pv 3) pe_int) pa_nil)) (pg_name (i := 4) sc_law_holds.nd rfl (Or.inr rfl)) (pss_cons (ps_compG (i := 5) (xs := ["_law_k"]) (rest := ["_law_at"]) sc_law_holds.nd rfl rfl rfl (pi_range1 rfl T.z_range (pa_cons (pv 3) pa_nil))
      (fun pins fp C' s' H' => (pg_name (i := 0) (show (["_law_k", "_law_at"] : List Str).Nodup by decide +kernel) rfl (Or.inl rfl))) (fun pins fp C' s' H' => pts_nil)
      (fun pins fp C' s' H' => (pe_tup (pa_cons (pe_callTy call_intB (by rfl) T.z_int PyProof.Rows.boot_int (pa_cons (pe_cmpR op_eq (pv 0) (pv 1) (nomark _)) pa_nil)) (pa_cons pe_int pa_nil))))
      (Clos.many (ys := ["_law_at"]) rfl ⟨rfl, True.intro⟩ rfl (by decide +kernel)) (Reads.many (ys := ["_law_at"]) (js := [4]) ⟨⟨rfl, rfl, rfl⟩, True.intro⟩))
      (pss_one (ps_if (pt_not (pt_val (pe_fn (ok_law_lines T) hr pass0 (pa_cons (pv 0) (pa_cons (pe_fn (ok_law_values T) hr pass0 (pa_cons (pv 1) (pa_cons (pv 2) (pa_cons (pv 5) pa_nil)))) pa_nil))))) (pss_one (ps_ret pe_bl)) pss_nil))))
      (pss_one (ps_ret pe_bl))))), ?_⟩
    have hG' := hG
    obtain ⟨p, q, r, ts, ht, hp, hq, hr', hts⟩ := hG'
    have e0 : css[0]? = some (css[0]'(by rw [D.lr]; omega)) := List.getElem?_eq_getElem _
    generalize css[0]'(by rw [D.lr]; omega) = row0 at e0
    have l0 := (D.pr row0 (List.mem_of_getElem? e0)).1
    obtain ⟨v0, ev0, p0, t0, rfl, hp0, hr0⟩ := D.rr.get' e0
    have lt0 : t0.length = n := by rw [hr0.1, l0]
    have lts : ts.length = m := by rw [hts.1, ltab]
    have ltr : tr.length = m := by rw [D.rr.1, D.lr]
    have sqt := SqT.of (K := K) ht
    refine ⟨_, rfl, lr, _, _, _, rfl, rfl, SqL.of D.hr, atI_nat (j := 0) ev0, p0, _, rfl, .inl (SqL.of hp0), ?_⟩
    refine ⟨_, rfl, _, _, _, _, rfl, (fun u h => h), TyOf.tup ht, T.k_tuple_tuple, _, rfl, iteF ?_⟩
    refine ⟨_, rfl, t, _, rfl, .inr sqt, rfl, _, rfl, iteNS rfl ?_⟩
    refine ⟨_, rfl, t, _, _, _, rfl, rfl, sqt, rfl, _, _, _, _, rfl, (fun u h => h), TyOf.lst hr', T.k_list_list, _, rfl, iteF ?_⟩
    refine ⟨_, rfl, t, _, _, _, rfl, rfl, sqt, rfl, r, _, rfl, .inl (SqL.of hr'), _, rfl, lr, _, rfl, .inl (SqL.of D.hr), rfl, _, rfl, ?_⟩
    rw [lts, ltr]
    refine iteNS rfl ?_
    refine ⟨_, rfl, _, _, rfl, rfl, (t0.length : Int) + 1, rfl, by omega, by omega, ?_⟩
    refine for_range (n := t0.length + 1) (fun i σ H' => ∃ z4 z5, σ = [some (.ref t), some (.ref lr), some (.ref lb), some (.int t0.length), z4, z5] ∧ Same H H') ⟨_, _, rfl, Same.refl _⟩ ?_ ?_
    · rintro i σ H1 hi ⟨z4, z5, rfl, s1⟩
      refine ⟨_, rfl, (t0.length : Int), rfl, by omega, by omega, fun lf nlf => ?_⟩
      refine compG_range (n := t0.length) (fun j H2 => j ≤ n ∧ Same H1 H2 ∧ ∃ ws fs, H2 lf = some (.lst ws) ∧ RowAt DueIs H2 ws fs ∧ fs.length = j ∧ ∀ c ∈ fs, PN 1 c) ⟨Nat.zero_le _, same_upd nlf, [], [], upd_same, RowAt.nil, rfl, fun c hc => absurd hc List.not_mem_nil⟩ ?_ ?_
      · rintro j H2 hj ⟨_, s2, ws, fs, h2, hw, lf2, pf⟩
        have hj' : j < n := by rw [← lt0]; simpa using hj
        refine g1 ⟨⟨[_], rfl, rfl⟩, yes ?_⟩
        refine ⟨_, rfl, _, rfl, rfl, _, rfl, by show 2 ≤ sizeLine; decide, fun u nu => ?_⟩
        have s3 := same_upd (o := .tup [.int (if decide (V.int (0 + (j : Int)) = V.int (0 + (i : Int))) then 1 else 0), .int 1]) nu
        have hu : upd H2 u (.tup [.int (if decide (V.int (0 + (j : Int)) = V.int (0 + (i : Int))) then 1 else 0), .int 1]) u = some (.tup [.int (if decide (V.int (0 + (j : Int)) = V.int (0 + (i : Int))) then 1 else 0), .int 1]) := upd_same
        generalize upd H2 u (.tup [.int (if decide (V.int (0 + (j : Int)) = V.int (0 + (i : Int))) then 1 else 0), .int 1]) = H3 at s3 hu ⊢
        have hpn : PN 1 ((if decide (V.int (0 + (j : Int)) = V.int (0 + (i : Int))) then 1 else 0 : Int), 1) := ⟨by show (if decide (V.int (0 + (j : Int)) = V.int (0 + (i : Int))) then 1 else 0 : Int).natAbs ≤ _; split <;> decide, by show (1 : Int) ≤ 1; decide, by show (1 : Int).natAbs ≤ 2 ^ 1; decide⟩
        have hdu : DueIs H3 (.ref u) ((if decide (V.int (0 + (j : Int)) = V.int (0 + (i : Int))) then 1 else 0 : Int), 1) := ⟨u, rfl, hu⟩
        generalize ((if decide (V.int (0 + (j : Int)) = V.int (0 + (i : Int))) then 1 else 0 : Int), (1 : Int)) = c at hpn hdu
        have h3 := s3 _ _ h2
        refine ⟨_, h3, small1000 (by rw [hw.1, lf2]; omega), nextP (by simpa using hj) ⟨hj', same_put nlf (s2.trans s3), _, fs ++ [c], upd_same, RowAt.snoc (hw.mono fun v x z => (z.mono s3).kl (KL.put h3)) (hdu.kl (KL.put h3)), by rw [List.length_append, lf2]; rfl, fun d hd => ?_⟩⟩
        rcases List.mem_append.mp hd with z | z
        · exact pf d z
        · rw [List.mem_singleton.mp z]
          exact hpn
      · rintro H2 ⟨_, s2, ws, fs, h2, hw, lf2, pf⟩
        have lf2 : fs.length = n := by rw [← lt0]; simpa using lf2
        have s12 := s1.trans s2
        refine ⟨_, rfl, _, rfl, _, rfl, _, rfl, lr, lb, lf, tr, tb, ws, css, cs, fs, m, n, rfl, D.mono s12, m5, n5, h2, hw, lf2, pf, fun lv H3 tv es nlv s3 hlv hes les pes ev => ?_⟩
        have s13 := s12.trans s3
        refine ⟨t, lv, ls, us, tab, tv, es, rfl, hG.mono s13, G, hlv, hes, pes, by rw [les]; exact inl, by rw [les]; exact inu, by rw [valOf_eq ev]; exact hold fs lf2, fun H4 s4 => ?_⟩
        exact ⟨_, rfl, iteF ⟨_, _, rfl, s13.trans s4⟩⟩
    · rintro σ H1 ⟨z4, z5, rfl, s1⟩
      exact k H1 s1
theorem eqVs_flat : ∀ {xs : List V}, xs.all flatV = true → eqVs xs xs = true
  | [], _ => rfl
  | v :: xs, h => by
    rw [List.all_cons, Bool.and_eq_true] at h
    have h1 : eqV v v = true := by
      cases v with
      | non => rfl
      | bl b => cases b <;> rfl
      | int i => show (i == i) = true; exact beq_self_eq_true i
      | str z => show (z == z) = true; exact beq_self_eq_true z
      | _ => exact absurd (show false = true from h.1) Bool.false_ne_true
    show (eqV v v && eqVs xs xs) = true
    rw [h1, eqVs_flat h.2]
    rfl
theorem flat_yes (n : Nat) : (List.replicate n (V.bl true)).all flatV = true := by
  rw [List.all_eq_true]
  intro v hv
  rw [(List.mem_replicate.mp hv).2]
  rfl
theorem in_yes (n : Nat) : inV (.bl false) (List.replicate n (V.bl true)) = false := by
  unfold inV
  rw [List.any_eq_false]
  intro v hv
  rw [(List.mem_replicate.mp hv).2]
  decide
theorem rep_snoc (n : Nat) : List.replicate n (V.bl true) ++ [V.bl true] = List.replicate (n + 1) (V.bl true) := List.replicate_succ'.symm
theorem flat_ints (ls : List Int) : (ls.map V.int).all flatV = true := by
  rw [List.all_map, List.all_eq_true]
  exact fun _ _ => rfl
def spNums (K : PySem.W.Frag) : Sp := fun vs H Q _ => ∃ (p q : Addr) (ls : List Int), vs = [.ref p, .ref q] ∧ H p = some (.lst (ls.map V.int)) ∧ SqL K H q (ls.map V.int) ∧ ls.length ≤ 10 ∧ ∀ H', Same H H' → Q (.bl true) H'
theorem ok_law_numbers (T : TX K mg a) : FnB P w K mg base CX0 "_law_numbers" 2 ["_law_found", "_law_due"] (spNums K) := by
  refine T.d_law_numbers.ok sc_law_numbers (fun vs H Q E h => ?_) (fun f cdv A outer s H vs Q E hr h => ?_)
  · obtain ⟨p, q, ls, rfl, _⟩ := h
    rfl
  · obtain ⟨p, q, ls, rfl, hp, hq, l10, k⟩ := h
    refine ⟨_, (pss_cons (ps_if (PW.pt (pw_or (pt_not (pt_val (pe_callB (call_isI (c := .type "list")) (by rfl) T.z_isinstance PyProof.Rows.boot_isinstance (pa_cons (pv 0) (pa_cons (pe_bltn (v := .ty "list") (by rfl) T.z_list PyProof.Rows.boot_list rfl) pa_nil))))) (pw_or1 (pt_cmpR op_in_seq pe_bl (pe_compG (xs := ["_law_number"]) (rest := []) rfl (pi_list (pv 0))
      (fun pins fp C' s' H' => (pg_name (i := 0) (show (["_law_number"] : List Str).Nodup by decide +kernel) rfl (Or.inl rfl))) (fun pins fp C' s' H' => pts_nil)
      (fun pins fp C' s' H' => (pe_fn (ok_law_whole T) hr pass0 (pa_cons (pv 0) pa_nil)))
      (Clos.none (by decide +kernel) (by decide +kernel)) (Reads.many (ys := []) (js := []) True.intro)) (by with_unfolding_all rfl))))) (pss_one (ps_ret pe_bl)) pss_nil)
      (pss_one (ps_ret (pe_cmpR (op_eqL hr.units0) (pv 0) (pv 1) (nomark _))))), ?_⟩
    refine ⟨_, rfl, _, _, _, _, rfl, (fun u h => h), TyOf.lst hp, T.k_list_list, _, rfl, iteF ?_⟩
    refine ⟨_, rfl, p, rfl, ⟨_, SqL.of hp⟩, fun c nc => ?_⟩
    refine compG_list (K := K) (a := p) (xs := ls.map V.int) (fun j H1 => Same H H1 ∧ H1 c = some (.lst (List.replicate j (.bl true)))) ⟨same_upd nc, upd_same⟩ (fun j H1 ⟨s1, _⟩ => SqL.of (s1 _ _ hp)) ?_ ?_
    · rintro j x H1 hx ⟨s1, h1⟩
      have hj := (List.getElem?_eq_some_iff.mp hx).1
      obtain ⟨i, _, rfl⟩ := List.mem_map.mp (List.mem_of_getElem? hx)
      refine g1 ⟨⟨[_], rfl, rfl⟩, yes ?_⟩
      refine ⟨_, rfl, i, rfl, ?_⟩
      refine ⟨_, h1, small1000 (by rw [List.length_map] at hj; rw [List.length_replicate]; omega), nextP hj ⟨same_put nc s1, ?_⟩⟩
      rw [upd_same, rep_snoc]
    rintro H1 ⟨s1, h1⟩
    refine ⟨c, _, rfl, .inl (SqL.of h1), rfl, flat_yes _, _, rfl, iteD (in_yes _) ?_⟩
    refine ⟨_, rfl, _, rfl, p, q, _, _, rfl, rfl, SqL.of (s1 _ _ hp), s1.seq hq, flat_ints _, flat_ints _, ?_⟩
    rw [eqVs_flat (flat_ints _)]
    exact k _ s1
def spCopy (a : Ad) : Sp := fun vs H Q _ => ∃ (t : Addr) (ls us : List Int) (tab : List (List Rat)), vs = [.ref t] ∧ GridAt a H t ls us tab ∧ tab.length ≤ 10 ∧ ∀ t' H', H t' = none → Same H H' → GridNew a H H' t' ls us tab → Q (.ref t') H'
theorem ok_law_copy (T : TX K mg a) : FnB P w K mg base CX0 "_law_copy" 1 ["_law_some"] (spCopy a) := by
  refine T.d_law_copy.ok sc_law_copy (fun vs H Q E h => ?_) (fun f cdv A outer s H vs Q E hr h => ?_)
  · obtain ⟨t, ls, us, tab, rfl, _⟩ := h
    rfl
  · obtain ⟨t, ls, us, tab, rfl, ⟨p, q, r, ts, ht, hp, hq, hr', hts⟩, l10, k⟩ := h
    refine ⟨_, (pss_one (ps_ret (pe_tup (pa_cons (pe_callTy call_list_of (by rfl) T.z_list PyProof.Rows.boot_list (pa_cons (pe_ix ix_tup (pv 0) pe_int (fun _ _ => rfl)) pa_nil)) (pa_cons (pe_callTy call_list_of (by rfl) T.z_list PyProof.Rows.boot_list (pa_cons (pe_ix ix_tup (pv 0) pe_int (fun _ _ => rfl)) pa_nil)) (pa_cons (pe_compG (xs := ["_law_line"]) (rest := []) rfl (pi_list (pe_ix ix_tup (pv 0) pe_int (fun _ _ => rfl)))
      (fun pins fp C' s' H' => (pg_name (i := 0) (show (["_law_line"] : List Str).Nodup by decide +kernel) rfl (Or.inl rfl))) (fun pins fp C' s' H' => pts_nil)
      (fun pins fp C' s' H' => (pe_callTy (call_listK (K := K) rfl) (by rfl) T.z_list PyProof.Rows.boot_list (pa_cons (pv 0) pa_nil)))
      (Clos.none (by decide +kernel) (by decide +kernel)) (Reads.many (ys := []) (js := []) True.intro)) pa_nil)))))), ?_⟩
    have e1 : ts.length = tab.length := hts.1
    refine ⟨_, rfl, t, _, _, _, rfl, rfl, SqT.of ht, rfl, p, _, rfl, .inl (SqL.of hp), fun l1 n1 => ?_⟩
    have s1 := same_upd (o := .lst (ls.map V.int)) n1
    have h1 : upd H l1 (.lst (ls.map V.int)) l1 = some (.lst (ls.map V.int)) := upd_same
    generalize upd H l1 (.lst (ls.map V.int)) = H1 at s1 h1 ⊢
    refine ⟨_, rfl, t, _, _, _, rfl, rfl, SqT.of (s1 _ _ ht), rfl, q, _, rfl, .inl (SqL.of (s1 _ _ hq)), fun l2 n2 => ?_⟩
    have s2 := same_upd (o := .lst (us.map V.int)) n2
    have h2 : upd H1 l2 (.lst (us.map V.int)) l2 = some (.lst (us.map V.int)) := upd_same
    generalize upd H1 l2 (.lst (us.map V.int)) = H2 at s2 h2 ⊢
    have s12 := s1.trans s2
    refine ⟨_, rfl, t, _, _, _, rfl, rfl, SqT.of (s12 _ _ ht), rfl, r, rfl, ⟨_, SqL.of (s12 _ _ hr')⟩, fun d nd => ?_⟩
    refine compG_list (K := K) (a := r) (xs := ts) (fun j H3 => j ≤ tab.length ∧ Same H2 H3 ∧ ∃ ws, H3 d = some (.lst ws) ∧ RowAt (NeIs (LsIs (FrIs a)) d) H3 ws (tab.take j) ∧ ∀ v ∈ ws, ∀ q, v = .ref q → H q = none) ⟨Nat.zero_le _, same_upd nd, [], upd_same, RowAt.nil, fun v hv => absurd hv List.not_mem_nil⟩ (fun j H3 ⟨_, s3, _⟩ => SqL.of ((s12.trans s3) _ _ hr')) ?_ ?_
    · rintro j x H3 hx ⟨_, s3, ws, h3, hw, fr⟩
      obtain ⟨row, er, pr, tr, rfl, hpr, hrr⟩ := hts.get hx
      have hj : j < tab.length := (List.getElem?_eq_some_iff.mp er).1
      have s13 := s12.trans s3
      refine g1 ⟨⟨[_], rfl, rfl⟩, yes ?_⟩
      refine ⟨_, rfl, pr, _, rfl, .inl (SqL.of (s13 _ _ hpr)), fun c nc => ?_⟩
      have s4 := same_upd (o := .lst tr) nc
      have hc : upd H3 c (.lst tr) c = some (.lst tr) := upd_same
      generalize upd H3 c (.lst tr) = H4 at s4 hc ⊢
      have h4 := s4 _ _ h3
      have kl := KL.put (o := .lst (ws ++ [.ref c])) h4
      have ne : V.ref c ≠ V.ref d := ne_new h3 nc
      have lws : ws.length ≤ 10 := by rw [hw.1, List.length_take]; omega
      refine ⟨_, h4, small1000 (by omega), nextP (by rw [e1]; exact hj) ⟨hj, same_put nd (s3.trans s4), _, upd_same, ?_, fun v hv q e => ?_⟩⟩
      · rw [List.take_add_one, er, Option.toList_some]
        exact RowAt.snoc (hw.mono fun v x z => ⟨(z.1.mono (fun _ _ y => y.mono s4) s4).kl (fun _ _ y => y.kl kl) kl z.2, z.2⟩) ⟨LsIs.kl (fun _ _ y => y.kl kl) ⟨c, _, rfl, hc, hrr.mono fun _ _ z => z.mono (s13.trans s4)⟩ kl ne, ne⟩
      · rcases List.mem_append.mp hv with z | z
        · exact fr v z q e
        · rw [List.mem_singleton.mp z] at e
          cases e
          exact s13.free nc
    · rintro H3 ⟨_, s3, ws, h3, hw, fr⟩
      rw [e1, List.take_length] at hw
      refine ⟨by show 3 ≤ sizeLine; decide, fun t' nt' => ?_⟩
      have s4 := same_upd (o := .tup [.ref l1, .ref l2, .ref d]) nt'
      exact k t' _ (s12.free (s3.free nt')) (s12.trans (s3.trans s4)) ⟨l1, l2, d, ws, upd_same, s4 _ _ (s3 _ _ (s2 _ _ h1)), s4 _ _ (s3 _ _ h2), s4 _ _ h3, ⟨hw.1, fun i t x h1 h2 => (hw.2 i t x h1 h2).1.mono (fun _ _ y => y.mono s4) s4⟩, ⟨n1, s1.free n2, s12.free nd⟩, fr⟩
/-- pairs behind i steps -/
structure PT (i : Nat) (c : Int × Int) : Prop where
  b1 : c.1.natAbs ≤ i * 2 ^ 21
  b2 : 1 ≤ c.2
  b3 : c.2 ≤ 3
theorem PT.mono {i j : Nat} {c : Int × Int} (h : PT i c) (hij : i ≤ j) : PT j c := ⟨Nat.le_trans h.b1 (Nat.mul_le_mul_right _ hij), h.b2, h.b3⟩
theorem PT.pn {c : Int × Int} (h : PT 63 c) : PN 27 c := ⟨Nat.le_trans h.b1 (by decide), h.b2, by have := h.b2; have := h.b3; exact Nat.le_trans (show c.2.natAbs ≤ 2 ^ 2 by omega) (pow_le (by decide))⟩
def spTB (K : PySem.W.Frag) : Sp := fun vs H Q _ => ∃ (l : Addr) (ns : List Int) (n : Nat), vs = [.ref l, .int n] ∧ SqL K H l (ns.map V.int) ∧ ns.length ≤ 63 ∧ 1 ≤ n ∧ n ≤ 100 ∧
  ∀ p H' us cs, H p = none → Same H H' → H' p = some (.lst us) → RowAt DueIs H' us cs → cs.length = n → (∀ c ∈ cs, PN 27 c) → Q (.ref p) H'
theorem ok_law_tops_and_bottoms (T : TX K mg a) : FnB P w K mg base CX0 "_law_tops_and_bottoms" 1 ["_law_cells", "_law_count"] (spTB K) := by
  refine T.d_law_tops_and_bottoms.ok sc_law_tops_and_bottoms (fun vs H Q E h => ?_) (fun f cdv A outer s H vs Q E hr h => ?_)
  · obtain ⟨l, ns, n, rfl, _⟩ := h
    rfl
  · obtain ⟨l, ns, n, rfl, hS, l63, n1, n100, k⟩ := h
    refine ⟨_, (pss_cut (ps_compG (i := 2) (xs := ["_law_k"]) (rest := []) sc_law_tops_and_bottoms.nd rfl rfl rfl (pi_range1 rfl T.z_range (pa_cons (pv 1) pa_nil))
      (fun pins fp C' s' H' => (pg_name (i := 0) (show (["_law_k"] : List Str).Nodup by decide +kernel) rfl (Or.inl rfl))) (fun pins fp C' s' H' => pts_nil)
      (fun pins fp C' s' H' => (pe_tup (pa_cons pe_int (pa_cons pe_int pa_nil))))
      (Clos.none (by decide +kernel) (by decide +kernel)) (Reads.many (ys := []) (js := []) True.intro))
      (pss_cons (ps_for PassesOwn.never rfl (pi_enum (by rfl) T.z_enumerate (pa_cons (pv 0) pa_nil)) (pg_tup rfl (pgs_cons (pg_name (i := 3) sc_law_tops_and_bottoms.nd rfl (Or.inl rfl)) (pgs_cons (pg_name (i := 4) sc_law_tops_and_bottoms.nd rfl (Or.inl rfl)) pgs_nil))) (pss_cons (ps_set (i := 5) sc_law_tops_and_bottoms.nd rfl (Or.inl rfl) (pe_op op_mod (pv 3) (pv 1)))
      (pss_cons (ps_set (i := 6) sc_law_tops_and_bottoms.nd rfl (Or.inl rfl) (pe_op op_sub (pe_op op_add (pe_ix ix_tup (pe_ix ix_list (pv 2) (pv 5) (fun _ _ => rfl)) pe_int (fun _ _ => rfl)) (pe_op op_mod (pv 4) pe_int)) pe_int))
      (pss_cut (ps_if (pt_cmpR op_eq (pe_op op_mod (pe_op op_fdiv (pv 4) pe_int) pe_int) pe_int (nomark _)) (pss_one (ps_set (i := 6) sc_law_tops_and_bottoms.nd rfl (Or.inl rfl) (pe_op op_sub (pe_op op_add (pv 6) (pe_op op_mod (pv 4) pe_int)) pe_int))) pss_nil)
      (pss_one (ps_asg (pe_tup (pa_cons (pv 6) (pa_cons (pe_op op_add pe_int (pe_op op_mod (pe_op op_fdiv (pv 4) pe_int) pe_int)) pa_nil))) (pg_sub (pv 2) (pv 5) set_list)))))))
      (pss_one (ps_ret (pv 2))))), ?_⟩
    refine ⟨fun σ' H' => ∃ q us cs, σ' = [some (.ref l), some (.int n), some (.ref q), none, none, none, none] ∧ H q = none ∧ Same H H' ∧ H' q = some (.lst us) ∧ RowAt DueIs H' us cs ∧ cs.length = n ∧ ∀ c ∈ cs, PT 0 c, ?_, ?_⟩
    · refine ⟨_, rfl, (n : Int), rfl, by omega, by omega, fun q nq => ?_⟩
      refine compG_range (fun i H2 => i ≤ n ∧ Same H H2 ∧ ∃ us cs, H2 q = some (.lst us) ∧ RowAt DueIs H2 us cs ∧ cs.length = i ∧ ∀ c ∈ cs, PT 0 c) ⟨Nat.zero_le _, same_upd nq, [], [], upd_same, RowAt.nil, rfl, fun c hc => absurd hc List.not_mem_nil⟩ ?_ ?_
      · rintro i H2 hi ⟨_, s2, us, cs, h2, hv, lc, pb⟩
        have hi' : i < n := by simpa using hi
        refine g1 ⟨⟨[_], rfl, rfl⟩, yes ?_⟩
        refine ⟨by show 2 ≤ sizeLine; decide, fun t nt => ?_⟩
        have s3 := same_upd (o := .tup [.int 0, .int 1]) nt
        have ht : upd H2 t (.tup [.int 0, .int 1]) t = some (.tup [.int 0, .int 1]) := upd_same
        generalize upd H2 t (.tup [.int 0, .int 1]) = H3 at s3 ht ⊢
        have h3 := s3 _ _ h2
        refine ⟨_, h3, small1000 (by rw [hv.1, lc]; omega), nextP (by simpa using hi) ⟨hi', same_put nq (s2.trans s3), _, cs ++ [(0, 1)], upd_same, ?_, by rw [List.length_append, lc]; rfl, fun c hc => ?_⟩⟩
        · exact RowAt.snoc (hv.mono fun v x z => (z.mono s3).kl (KL.put h3)) (DueIs.kl ⟨t, rfl, ht⟩ (KL.put h3))
        · rcases List.mem_append.mp hc with z | z
          · exact pb c z
          · rw [List.mem_singleton.mp z]
            exact ⟨by decide, by decide, by decide⟩
      · rintro H2 ⟨_, s2, us, cs, h2, hv, lc, pb⟩
        exact ⟨q, us, cs, rfl, nq, s2, h2, hv, by simpa using lc, pb⟩
    rintro σ' H1 ⟨q, us, cs, rfl, nq, s1, hq, hv, lc, pb⟩
    refine ⟨_, rfl, l, _, rfl, s1.seq hS, ?_⟩
    refine for_enum (K := K) (fun i σ H' => ∃ us cs z3 z4 z5 z6, σ = [some (.ref l), some (.int n), some (.ref q), z3, z4, z5, z6] ∧ Same H H' ∧ H' q = some (.lst us) ∧ RowAt DueIs H' us cs ∧ cs.length = n ∧ ∀ c ∈ cs, PT i c) ⟨us, cs, _, _, _, _, rfl, s1, hq, hv, lc, pb⟩ (fun i σ H' ⟨_, _, _, _, _, _, _, s2, _⟩ => s2.seq hS) ?_ ?_
    · rintro i x t σ H2 hx nt ⟨us, cs, z3, z4, z5, z6, rfl, s2, hq, hv, lc, pb⟩
      obtain ⟨c, rfl⟩ : ∃ c, x = V.int c := by
        rw [List.getElem?_map] at hx
        cases e : ns[i]? with
        | none => rw [e] at hx; cases hx
        | some c => rw [e] at hx; exact ⟨c, (Option.some.inj hx).symm⟩
      have s3 := same_upd (o := .tup [.int i, .int c]) nt
      have ht : upd H2 t (.tup [.int i, .int c]) t = some (.tup [.int i, .int c]) := upd_same
      generalize upd H2 t (.tup [.int i, .int c]) = H3 at s3 ht ⊢
      refine ⟨t, [.int i, .int c], rfl, SqT.of ht, rfl, .int i, [.int c], rfl, ⟨.int c, [], rfl, ⟨rfl, ?_⟩⟩⟩
      have hq3 := s3 _ _ hq
      have lus : us.length = n := by rw [hv.1, lc]
      obtain ⟨j, hj⟩ : ∃ j : Nat, (i : Int) % (n : Int) = j := Int.eq_ofNat_of_zero_le (Int.emod_nonneg _ (by omega))
      have hjn : j < n := by have := Int.emod_lt_of_pos (i : Int) (show (0 : Int) < (n : Int) by omega); omega
      refine ⟨_, rfl, _, rfl, _, _, rfl, rfl, by show (0 : Int) < (n : Int); omega, ?_⟩
      have ec : cs[j]? = some (cs[j]'(by omega)) := List.getElem?_eq_getElem _
      generalize cs[j]'(by omega) = cj at ec
      obtain ⟨u, eu, pj, rfl, hpj⟩ := hv.get' ec
      have at1 : atI us ((i : Int) % (n : Int)) = some (.ref pj) := by rw [hj]; exact atI_nat eu
      have sqj := SqT.of (K := K) (s3 _ _ hpj)
      have pj' := pb cj (List.mem_of_getElem? ec)
      refine ⟨_, rfl, _, rfl, q, _, _, _, rfl, rfl, SqL.of hq3, at1, _, _, _, _, rfl, rfl, sqj, rfl, _, rfl, _, _, rfl, rfl, by show (0 : Int) < 9; decide, _, _, rfl, rfl, _, _, rfl, rfl, ?_⟩
      have e21 : (2 : Nat) ^ 21 = 2097152 := by decide
      have pj1 := pj'.b1
      refine ⟨fun σ' H' => ∃ top : Int, σ' = [some (.ref l), some (.int n), some (.ref q), some (.int i), some (.int c), some (.int ((i : Int) % (n : Int))), some (.int top)] ∧ H' = H3 ∧ top.natAbs ≤ (i + 1) * 2 ^ 21, ?_, ?_⟩
      · obtain ⟨c0, c1⟩ := emod_in c (show (0 : Int) < 9 by decide)
        refine ⟨_, rfl, _, _, rfl, rfl, ⟨by decide, by decide⟩, _, _, rfl, rfl, by show (0 : Int) < 8; decide, rfl, _, rfl, ifV (fun h2 => ?_) (fun h2 => ?_)⟩
        · refine ⟨_, rfl, _, rfl, _, _, rfl, rfl, by show (0 : Int) < 1000003; decide, _, _, rfl, rfl, _, _, rfl, rfl, ?_⟩
          obtain ⟨d0, d1⟩ := emod_in c (show (0 : Int) < 1000003 by decide)
          refine ⟨cj.1 + c % 9 - 4 + c % 1000003 - 400001, rfl, rfl, ?_⟩
          rw [e21, Nat.add_mul]
          rw [e21] at pj1
          omega
        · refine ⟨cj.1 + c % 9 - 4, rfl, rfl, ?_⟩
          rw [e21, Nat.add_mul]
          rw [e21] at pj1
          omega
      rintro σ' H4 ⟨top, rfl, rfl, ht0⟩
      refine ⟨_, rfl, _, rfl, _, _, rfl, rfl, ⟨by decide, by decide⟩, _, _, rfl, rfl, by show (0 : Int) < 3; decide, _, _, rfl, rfl, by show 2 ≤ sizeLine; decide, fun t2 nt2 => ?_⟩
      obtain ⟨f0, f1⟩ := emod_in (c / 9) (show (0 : Int) < 3 by decide)
      have ptn : PT (i + 1) (top, 1 + c / 9 % 3) := ⟨ht0, by show 1 ≤ 1 + c / 9 % 3; omega, by show 1 + c / 9 % 3 ≤ 3; omega⟩
      have s4 := same_upd (o := .tup [.int top, .int (1 + c / 9 % 3)]) nt2
      have ht2 : upd H4 t2 (.tup [.int top, .int (1 + c / 9 % 3)]) t2 = some (.tup [.int top, .int (1 + c / 9 % 3)]) := upd_same
      generalize upd H4 t2 (.tup [.int top, .int (1 + c / 9 % 3)]) = H5 at s4 ht2 ⊢
      have hdu : DueIs H5 (.ref t2) (top, 1 + c / 9 % 3) := ⟨t2, rfl, ht2⟩
      generalize (top, 1 + c / 9 % 3) = cn at ptn hdu
      have hq4 := s4 _ _ hq3
      have kl := KL.put (o := .lst (us.set j (.ref t2))) hq4
      have s24 := s3.trans s4
      refine ⟨_, rfl, _, rfl, q, us, _, j, rfl, rfl, hq4, by rw [lus, hj]; exact ixN_nat hjn, us.set j (.ref t2), cs.set j cn, _, _, _, _, rfl, same_put nq (s2.trans s24), upd_same, ?_, by rw [List.length_set, lc], fun x hx => ?_⟩
      · exact RowAt.set (hv.mono fun v x z => (z.mono s24).kl kl) j (hdu.kl kl)
      · rcases List.mem_or_eq_of_mem_set hx with z | z
        · exact (pb x z).mono (by omega)
        · rw [z]
          exact ptn
    · rintro σ H2 ⟨us, cs, z3, z4, z5, z6, rfl, s2, hq, hv, lc, pb⟩
      exact ⟨_, rfl, k q H2 us cs nq s2 hq hv lc fun c hc => ((pb c hc).mono (by rw [List.length_map]; exact l63)).pn⟩
end
end G
namespace G
open PySem L2
section
variable {P : Program} {w : World} {K : PySem.W.Frag} {mg : Str → Option Value} {base : Heap} {a : Ad}
structure Bt (i : Int) : Prop where
  le : Builtin.Int.intBits i ≤ 2 ^ 20
def spLaw (K : PySem.W.Frag) : Sp := fun vs H Q _ => ∃ (l : Addr) (ns : List Int), vs = [.ref l] ∧ SqL K H l (ns.map V.int) ∧ ns.length ≤ 63 ∧ (∀ i ∈ ns, Bt i) ∧ ∀ H', Q (.bl true) H'
theorem cut_ints (ns : List Int) (i j : Nat) : ∃ ms : List Int, cutV (ns.map V.int) (some (i : Int)) (some (j : Int)) = ms.map V.int ∧ ms.length ≤ ns.length := ⟨(ns.drop (min i (ns.map V.int).length)).take (min j (ns.map V.int).length - min i (ns.map V.int).length), by rw [cut_both, List.map_take, List.map_drop], by rw [List.length_take, List.length_drop]; omega⟩
theorem row_len {m n i : Nat} (h : i < m) : m + i * n + n ≤ m * (n + 1) := by
  have : (i + 1) * n ≤ m * n := Nat.mul_le_mul_right n h
  rw [Nat.mul_add, Nat.mul_one]
  rw [Nat.add_mul, Nat.one_mul] at this
  omega
theorem RowAt.cut {α : Type} {R : Hp → V → α → Prop} {H : Hp} {us : List V} {cs : List α} (h : RowAt R H us cs) (i j : Nat) (hj : i + j ≤ us.length) : RowAt R H (cutV us (some ((i : Nat) : Int)) (some ((i + j : Nat) : Int))) ((cs.drop i).take j) := by
  rw [cut_both, Nat.min_eq_left (show i ≤ us.length by omega), Nat.min_eq_left hj, Nat.add_sub_cancel_left]
  exact (h.drop i).take j
/-- what was exchanged is not too large, either -/
theorem GOk.exch {B : Nat} {ls us : List Int} {tab : List (List Rat)} {i j : Nat} {ri : List Rat} {y : Rat} (G : GOk B ls us tab) (ei : tab[i]? = some ri) (ey : ri[j + 1]? = some y) (x z : Int) : GOk (4 * B + 1) (ls.set i x) (us.set j z) (tabR tab ri i (j + 1) y) := by
  have hri := List.mem_of_getElem? ei
  have hy := G.bd ri hri y (List.mem_of_getElem? ey)
  have sb := solvedR_bd (c := j + 1) (G.bd ri hri) hy
  refine ⟨?_, ?_, by rw [List.length_set]; exact G.u5, fun r hr => ?_, fun r hr v hv => ?_⟩
  · unfold tabR
    rw [List.length_set, List.length_set, List.length_map]
    exact G.l1
  · unfold tabR
    rw [List.length_set, List.length_map]
    exact G.l5
  · unfold tabR at hr
    rw [List.length_set]
    rcases List.mem_or_eq_of_mem_set hr with z | z
    · obtain ⟨r', h', rfl⟩ := List.mem_map.mp z
      rw [replR_len (by rw [solvedR_len, G.rl r' h', G.rl ri hri])]
      exact G.rl r' h'
    · rw [z, solvedR_len]
      exact G.rl ri hri
  · unfold tabR at hr
    rcases List.mem_or_eq_of_mem_set hr with z | z
    · obtain ⟨r', h', rfl⟩ := List.mem_map.mp z
      have bg : Bd B (r'.getD (j + 1) 0) := by
        rw [List.getD_eq_getElem?_getD]
        cases e : r'[j + 1]? with
        | none => exact Bd.zero.mono (Nat.zero_le _)
        | some x => exact G.bd r' h' x (List.mem_of_getElem? e)
      unfold replR at hv
      rcases List.mem_or_eq_of_mem_set hv with u | u
      · obtain ⟨k, hk⟩ := List.mem_iff_getElem?.mp u
        rw [List.getElem?_zipWith] at hk
        cases e1 : r'[k]? with
        | none => rw [e1] at hk; cases hk
        | some x1 =>
          cases e2 : (solvedR ri (j + 1) y)[k]? with
          | none => rw [e1, e2] at hk; cases hk
          | some x2 =>
            rw [e1, e2] at hk
            cases hk
            exact ((G.bd r' h' x1 (List.mem_of_getElem? e1)).add (bg.mul (sb x2 (List.mem_of_getElem? e2)))).mono (by omega)
      · rw [u]
        exact (bg.mul (Bd.one.div hy)).mono (by omega)
    · rw [z] at hv
      exact (sb v hv).mono (by omega)
def Bo : Nat → Nat
  | 0 => 27
  | n + 1 => 4 * Bo n + 1
theorem GOk.mono {B C : Nat} {ls us : List Int} {tab : List (List Rat)} (G : GOk B ls us tab) (h : B ≤ C) : GOk C ls us tab := { G with bd := fun r hr x hx => (G.bd r hr x hx).mono h }
/-- all but these lists stays -/
def KS (ps : List V) (H H' : Hp) : Prop := ∀ b o, V.ref b ∉ ps → H b = some o → H' b = some o
theorem GridNew.ks {H₀ H H' : Hp} {t : Addr} {ls us : List Int} {tab : List (List Rat)} {ps : List V} (h : GridNew a H₀ H t ls us tab) (nt : H₀ t = none) (s : Same H₀ H) (hps : ∀ v ∈ ps, ∃ p xs, v = .ref p ∧ H₀ p = some (.lst xs)) (ks : KS ps H H') : GridAt a H' t ls us tab := by
  obtain ⟨p, q, r, ts, h1, h2, h3, h4, h5, ⟨n1, n2, n3⟩, fr⟩ := h
  have nf : ∀ b, H₀ b = none → V.ref b ∉ ps := fun b hb hm => by
    obtain ⟨p', xs, e, hp'⟩ := hps _ hm
    cases e
    rw [hb] at hp'
    cases hp'
  have no : ∀ b o, (∀ xs, o ≠ .lst xs) → H b = some o → V.ref b ∉ ps := fun b o ho hb hm => by
    obtain ⟨p', xs, e, hp'⟩ := hps _ hm
    cases e
    rw [s _ _ hp'] at hb
    exact ho xs (Option.some.inj hb).symm
  refine ⟨p, q, r, ts, ks _ _ (nf t nt) h1, ks _ _ (nf p n1) h2, ks _ _ (nf q n2) h3, ks _ _ (nf r n3) h4, h5.1, fun i v x e1 e2 => ?_⟩
  obtain ⟨d, ws, rfl, hd, hw⟩ := h5.2 i v x e1 e2
  refine ⟨d, ws, rfl, ks _ _ (nf d (fr _ (List.mem_of_getElem? e1) d rfl)) hd, hw.mono fun u z ⟨g, e, dx, hg⟩ => ⟨g, e, dx, ks _ _ (no g _ (fun _ z => by cases z) hg) hg⟩⟩
/-- a grid's list of lines is none of the lines -/
theorem grid_ne {H : Hp} {r : Addr} {ts : List V} {tab : List (List Rat)} (h : H r = some (.lst ts)) (hts : RowAt (LsIs (FrIs a)) H ts tab) : V.ref r ∉ ts := fun hm => by
  obtain ⟨i, hi⟩ := List.mem_iff_getElem?.mp hm
  obtain ⟨row, er, p, us, e, hp, hu⟩ := hts.get hi
  cases e
  rw [h] at hp
  cases hp
  obtain ⟨x, _, g, e2, dx, hg⟩ := hu.get hi
  cases e2
  rw [h] at hg
  cases hg
def tab0 (css : List (List (Int × Int))) (cs : List (Int × Int)) : List (List Rat) := List.zipWith (fun r b => vR b :: r.map (fun c => -(vR c))) css cs
theorem tab0_snoc {css : List (List (Int × Int))} {cs : List (Int × Int)} {i : Nat} {r : List (Int × Int)} {b : Int × Int} (h1 : css[i]? = some r) (h2 : cs[i]? = some b) : tab0 (css.take (i + 1)) (cs.take (i + 1)) = tab0 (css.take i) (cs.take i) ++ [vR b :: r.map (fun c => -(vR c))] := by
  have l1 := (List.getElem?_eq_some_iff.mp h1).1
  have l2 := (List.getElem?_eq_some_iff.mp h2).1
  unfold tab0
  rw [List.take_add_one, List.take_add_one, h1, h2, Option.toList_some, Option.toList_some, List.zipWith_append (by rw [List.length_take, List.length_take]; omega)]
  rfl
theorem dot_neg : ∀ (r : List (Int × Int)) (ws : List Rat), dotR (r.map fun c => -(vR c)) ws = -(dotR (r.map vR) ws)
  | [], ws => by rw [List.map_nil, List.map_nil, dotR_nil]; rfl
  | c :: r, [] => by rw [dotR_nil', dotR_nil']; rfl
  | c :: r, z :: ws => by
    rw [List.map_cons, List.map_cons, dotR_cons, dotR_cons, dot_neg r ws]
    grind
def ls0 (m n : Nat) : List Int := (List.range m).map fun (k : Nat) => (n : Int) + (k : Int)
def us0 (n : Nat) : List Int := (List.range n).map fun (k : Nat) => (k : Int)
theorem us0_map {n : Nat} {L M : List Rat} (h : L.length = n) : (us0 n).map (fun x => (L ++ M).getD x.toNat 0) = L := by
  refine List.ext_getElem? fun i => ?_
  unfold us0
  rw [List.map_map, List.getElem?_map]
  by_cases hi : i < n
  · rw [List.getElem?_range hi]
    show some ((L ++ M).getD ((i : Int)).toNat 0) = L[i]?
    rw [List.getD_eq_getElem?_getD, Int.toNat_natCast, List.getElem?_append_left (by omega), List.getElem?_eq_getElem (by omega)]
    rfl
  · rw [List.getElem?_eq_none (by rw [List.length_range]; omega), List.getElem?_eq_none (by omega)]
    rfl
theorem hold0 {css : List (List (Int × Int))} {cs fs : List (Int × Int)} {m n : Nat} (lm : css.length = m) (lb : cs.length = m) (lf : fs.length = n) : HoldsV (vOf css cs fs) (ls0 m n) (us0 n) (tab0 css cs) := by
  intro k row l hk hl
  have hkm : k < m := by
    have := (List.getElem?_eq_some_iff.mp hl).1
    unfold ls0 at this
    rw [List.length_map, List.length_range] at this
    exact this
  have e1 : css[k]? = some (css[k]'(by omega)) := List.getElem?_eq_getElem _
  have e2 : cs[k]? = some (cs[k]'(by omega)) := List.getElem?_eq_getElem _
  generalize css[k]'(by omega) = r at e1
  generalize cs[k]'(by omega) = b at e2
  unfold tab0 at hk
  rw [List.getElem?_zipWith, e1, e2] at hk
  cases hk
  unfold ls0 at hl
  rw [List.getElem?_map, List.getElem?_range hkm] at hl
  cases hl
  have lfm : (fs.map vR).length = n := by rw [List.length_map, lf]
  have eu : (us0 n).map (vOf css cs fs) = fs.map vR := us0_map lfm
  rw [eu, dotR_cons, dot_neg, Rat.mul_one]
  unfold vOf
  rw [List.getD_eq_getElem?_getD, show ((n : Int) + (k : Int)).toNat = n + k by omega, List.getElem?_append_right (by omega), lfm, Nat.add_sub_cancel_left]
  unfold restR
  rw [List.getElem?_zipWith, e1, e2, ← Rat.sub_eq_add_neg]
  rfl
theorem set_cat {ls : List Int} {i : Nat} {x : Int} (h : i < ls.length) : ls.take i ++ [x] ++ ls.drop (i + 1) = ls.set i x := by
  rw [List.set_eq_take_append_cons_drop, if_pos h, List.append_assoc]
  rfl
theorem ls0_succ (m n : Nat) : ls0 (m + 1) n = ls0 m n ++ [(n : Int) + (m : Int)] := by unfold ls0; rw [List.range_succ, List.map_append]; rfl
theorem us0_succ (n : Nat) : us0 (n + 1) = us0 n ++ [(n : Int)] := by unfold us0; rw [List.range_succ, List.map_append]; rfl
/-- a grid that holds -/
structure GI (a : Ad) (css : List (List (Int × Int))) (bs : List (Int × Int)) (m n B : Nat) (H : Hp) (t : Addr) (ls us : List Int) (tab : List (List Rat)) : Prop where
  at_ : GridAt a H t ls us tab
  ok : GOk B ls us tab
  lt : tab.length = m
  lu : us.length = n
  il : InN (n + m) ls
  iu : InN (n + m) us
  ho : ∀ fs : List (Int × Int), fs.length = n → HoldsV (vOf css bs fs) ls us tab
theorem GI.mono {css : List (List (Int × Int))} {bs : List (Int × Int)} {m n B : Nat} {H H' : Hp} {t : Addr} {ls us : List Int} {tab : List (List Rat)} (g : GI a css bs m n B H t ls us tab) (s : Same H H') : GI a css bs m n B H' t ls us tab := { g with at_ := g.at_.mono s }
theorem cut4 (ns : List Int) : ∃ ms : List Int, cutV (ns.map V.int) (some 4) (some 8) = ms.map V.int ∧ ms.length ≤ 4 := ⟨(ns.drop (min 4 (ns.map V.int).length)).take (min 8 (ns.map V.int).length - min 4 (ns.map V.int).length), by rw [show cutV (ns.map V.int) (some 4) (some 8) = _ from cut_both 4 8, List.map_take, List.map_drop], by rw [List.length_take]; omega⟩
theorem gi0 {css : List (List (Int × Int))} {bs : List (Int × Int)} {m n : Nat} {H : Hp} {t : Addr} (hG : GridAt a H t (ls0 m n) (us0 n) (tab0 css bs)) (lm : css.length = m) (lb : bs.length = m) (m5 : m ≤ 5) (n5 : n ≤ 5) (rl : ∀ r ∈ css, r.length = n) (p27 : ∀ r ∈ css, ∀ c ∈ r, PN 27 c) (pb : ∀ c ∈ bs, PN 27 c) : GI a css bs m n 27 H t (ls0 m n) (us0 n) (tab0 css bs) := by
  have l1 : (ls0 m n).length = m := by unfold ls0; rw [List.length_map, List.length_range]
  have l2 : (us0 n).length = n := by unfold us0; rw [List.length_map, List.length_range]
  have l3 : (tab0 css bs).length = m := by unfold tab0; rw [List.length_zipWith]; omega
  have get : ∀ r ∈ tab0 css bs, ∃ r' ∈ css, ∃ b ∈ bs, r = vR b :: r'.map (fun c => -(vR c)) := fun r hr => by
    obtain ⟨i, hi⟩ := List.mem_iff_getElem?.mp hr
    unfold tab0 at hi
    rw [List.getElem?_zipWith] at hi
    cases e1 : css[i]? with
    | none => rw [e1] at hi; cases hi
    | some x =>
      cases e2 : bs[i]? with
      | none => rw [e1, e2] at hi; cases hi
      | some y =>
        rw [e1, e2] at hi
        cases hi
        exact ⟨x, List.mem_of_getElem? e1, y, List.mem_of_getElem? e2, rfl⟩
  refine ⟨hG, ⟨by rw [l1, l3], by omega, by omega, fun r hr => ?_, fun r hr x hx => ?_⟩, l3, l2, fun x hx => ?_, fun x hx => ?_, fun fs lf => hold0 lm lb lf⟩
  · obtain ⟨r', h', b, _, rfl⟩ := get r hr
    rw [List.length_cons, List.length_map, rl r' h', l2]
  · obtain ⟨r', h', b, hb, rfl⟩ := get r hr
    rcases List.mem_cons.mp hx with z | z
    · rw [z]
      exact Bd.divInt (pb b hb).b1 (pb b hb).b3
    · obtain ⟨c, hc, rfl⟩ := List.mem_map.mp z
      exact Bd.neg (Bd.divInt (p27 r' h' c hc).b1 (p27 r' h' c hc).b3)
  · obtain ⟨k, hk, rfl⟩ := List.mem_map.mp hx
    have := List.mem_range.mp hk
    omega
  · obtain ⟨k, hk, rfl⟩ := List.mem_map.mp hx
    have := List.mem_range.mp hk
    omega
end
end G
namespace G
open PySem L2
section
variable {P : Program} {w : World} {K : PySem.W.Frag} {mg : Str → Option Value} {base : Heap} {a : Ad}
theorem ok_law {f : Addr} {fd : FuncData} (N : Fun K "law" "law" s_law f fd) (T : TX K mg a) : FnOk P w K mg base CX0 14 f fd ["_law_script"] (spLaw K) := by
  refine N.ok sc_law (fun vs H Q E h => ?_) (fun cdv A outer s H vs Q E hr h => ?_)
  · obtain ⟨l, ns, rfl, _⟩ := h
    rfl
  · obtain ⟨l, ns, rfl, hS, hlen, hbt, k⟩ := h
    refine ⟨_, (pss_cons (ps_set (i := 1) sc_law.nd rfl (Or.inr rfl) (pe_op op_add pe_int (pe_op op_mod (pe_fn (ok_law_cell_at T) hr pass0 (pa_cons (pv 0) (pa_cons pe_int pa_nil))) pe_int)))
      (pss_cut (ps_set (i := 2) sc_law.nd rfl (Or.inr rfl) (pe_op op_add pe_int (pe_op op_mod (pe_fn (ok_law_cell_at T) hr pass0 (pa_cons (pv 0) (pa_cons pe_int pa_nil))) pe_int)))
      (pss_cons (ps_set (i := 3) sc_law.nd rfl (Or.inr rfl) (pe_fn (ok_law_tops_and_bottoms T) hr pass0 (pa_cons (pe_slice sl_list (pv 0) (po_some pe_int) (po_some pe_int)) (pa_cons (pe_op op_mulB (pv 1) (pe_op op_add (pv 2) pe_int)) pa_nil))))
      (pss_cons (ps_set (i := 4) sc_law.nd rfl (Or.inl rfl) (pe_slice sl_list (pv 3) po_none (po_some (pv 1))))
      (pss_cut (ps_compG (i := 5) (xs := ["_law_i"]) (rest := ["_law_m", "_law_n", "_law_pairs_here"]) sc_law.nd rfl rfl rfl (pi_range1 rfl T.z_range (pa_cons (pv 1) pa_nil))
      (fun pins fp C' s' H' => (pg_name (i := 0) (show (["_law_i", "_law_m", "_law_n", "_law_pairs_here"] : List Str).Nodup by decide +kernel) rfl (Or.inl rfl))) (fun pins fp C' s' H' => pts_nil)
      (fun pins fp C' s' H' => (pe_slice (r := rSlL K) sl_list (pv 3) (po_some (pe_op op_add (pv 1) (pe_op op_mulB (pv 0) (pv 2)))) (po_some (pe_op op_add (pe_op op_add (pv 1) (pe_op op_mulB (pv 0) (pv 2))) (pv 2)))))
      (Clos.many (ys := ["_law_pairs_here", "_law_n", "_law_m"]) rfl ⟨rfl, rfl, rfl, True.intro⟩ rfl (by decide +kernel)) (Reads.many (ys := ["_law_m", "_law_n", "_law_pairs_here"]) (js := [1, 2, 3]) ⟨⟨rfl, rfl, rfl⟩, ⟨rfl, rfl, rfl⟩, ⟨rfl, rfl, rfl⟩, True.intro⟩))
      (pss_cons (ps_set (i := 6) sc_law.nd rfl (Or.inl rfl) (pe_lst pa_nil))
      (pss_cut (ps_for PassesOwn.never rfl (pi_zip (by rfl) T.z_zip (pa_cons (pv 5) (pa_cons (pv 4) pa_nil))) (pg_tup rfl (pgs_cons (pg_name (i := 7) sc_law.nd rfl (Or.inl rfl)) (pgs_cons (pg_name (i := 8) sc_law.nd rfl (Or.inl rfl)) pgs_nil))) (pss_one (ps_expr (pe_bm PySem.F.plainAttrs_list PySem.F.slot_list_append PySem.F.type_list_append mt_append (pv 6) (pa_cons (pe_fn (ok_law_made T) hr pass0 (pa_cons (pe_op op_cat (pe_lst (pa_cons (pv 8) pa_nil)) (pe_compG (xs := ["_law_one"]) (rest := []) rfl (pi_list (pv 7))
      (fun pins fp C' s' H' => (pg_name (i := 0) (show (["_law_one"] : List Str).Nodup by decide +kernel) rfl (Or.inl rfl))) (fun pins fp C' s' H' => pts_nil)
      (fun pins fp C' s' H' => (pe_tup (pa_cons (pe_op op_sub pe_int (pe_ix (r := rIxT K) ix_tup (pv 0) pe_int (fun _ _ => rfl))) (pa_cons (pe_ix (r := rIxT K) ix_tup (pv 0) pe_int (fun _ _ => rfl)) pa_nil))))
      (Clos.none (by decide +kernel) (by decide +kernel)) (Reads.many (ys := []) (js := []) True.intro))) pa_nil)) pa_nil)))))
      (pss_cut (ps_set (i := 9) sc_law.nd rfl (Or.inl rfl) (pe_tup (pa_cons (pe_compG (xs := ["_law_k"]) (rest := ["_law_n"]) rfl (pi_range1 rfl T.z_range (pa_cons (pv 1) pa_nil))
      (fun pins fp C' s' H' => (pg_name (i := 0) (show (["_law_k", "_law_n"] : List Str).Nodup by decide +kernel) rfl (Or.inl rfl))) (fun pins fp C' s' H' => pts_nil)
      (fun pins fp C' s' H' => (pe_op op_add (pv 1) (pv 0)))
      (Clos.many (ys := ["_law_n"]) rfl ⟨rfl, True.intro⟩ rfl (by decide +kernel)) (Reads.many (ys := ["_law_n"]) (js := [2]) ⟨⟨rfl, rfl, rfl⟩, True.intro⟩)) (pa_cons (pe_compG (xs := ["_law_k"]) (rest := []) rfl (pi_range1 rfl T.z_range (pa_cons (pv 2) pa_nil))
      (fun pins fp C' s' H' => (pg_name (i := 0) (show (["_law_k"] : List Str).Nodup by decide +kernel) rfl (Or.inl rfl))) (fun pins fp C' s' H' => pts_nil)
      (fun pins fp C' s' H' => (pv 0))
      (Clos.none (by decide +kernel) (by decide +kernel)) (Reads.many (ys := []) (js := []) True.intro)) (pa_cons (pv 6) pa_nil)))))
      (pss_cons (ps_for PassesOwn.never rfl (pi_list (pe_slice sl_list (pv 0) (po_some pe_int) (po_some pe_int))) (pg_name (i := 10) sc_law.nd rfl (Or.inl rfl)) (pss_cons (ps_set (i := 11) sc_law.nd rfl (Or.inl rfl) (pe_op op_mod (pv 10) (pv 1)))
      (pss_cut (ps_set (i := 12) sc_law.nd rfl (Or.inl rfl) (pe_op op_mod (pe_op op_fdiv (pv 10) pe_int) (pv 2)))
      (pss_one (ps_if (pt_cmpR op_ne (pe_top T.fr (pe_ix ix_list (pe_ix ix_list (pe_ix ix_tup (pv 9) pe_int (fun _ _ => rfl)) (pv 11) (fun _ _ => rfl)) (pe_op op_add (pv 12) pe_int) (fun _ _ => rfl))) pe_int (nomark _)) (pss_cons (ps_set (i := 13) sc_law.nd rfl (Or.inl rfl) (pe_fn (ok_law_copy T) hr pass0 (pa_cons (pv 9) pa_nil)))
      (pss_cons (ps_set (i := 14) sc_law.nd rfl (Or.inl rfl) (pe_fn (ok_law_shown T) hr pass0 (pa_cons (pv 9) pa_nil)))
      (pss_cons (ps_set (i := 15) sc_law.nd rfl (Or.inl rfl) (pe_fn (ok_exchanged T) hr pass0 (pa_cons (pv 13) (pa_cons (pv 11) (pa_cons (pv 12) pa_nil)))))
      (pss_cons (ps_if (PW.pt (pw_or (pt_cmpR (op_neD hr.units) (pe_fn (ok_law_shown T) hr pass0 (pa_cons (pv 13) pa_nil)) (pv 14) (nomark _)) (pw_or (pt_not (pt_val (pe_callB (call_isI (c := .type "tuple")) (by rfl) T.z_isinstance PyProof.Rows.boot_isinstance (pa_cons (pv 15) (pa_cons (pe_bltn (v := .ty "tuple") (by rfl) T.z_tuple PyProof.Rows.boot_tuple rfl) pa_nil))))) (pw_or1 (pt_cmpR op_ne (pe_callB call_lenK (by rfl) T.z_len PySem.boot_len (pa_cons (pv 15) pa_nil)) pe_int (nomark _)))))) (pss_one (ps_ret pe_bl)) pss_nil)
      (pss_cons (ps_set (i := 16) sc_law.nd rfl (Or.inl rfl) (pe_op op_cat (pe_op op_cat (pe_slice sl_list (pe_ix ix_tup (pv 9) pe_int (fun _ _ => rfl)) po_none (po_some (pv 11))) (pe_lst (pa_cons (pe_ix ix_list (pe_ix ix_tup (pv 9) pe_int (fun _ _ => rfl)) (pv 12) (fun _ _ => rfl)) pa_nil))) (pe_slice sl_list (pe_ix ix_tup (pv 9) pe_int (fun _ _ => rfl)) (po_some (pe_op op_add (pv 11) pe_int)) po_none)))
      (pss_cons (ps_set (i := 17) sc_law.nd rfl (Or.inl rfl) (pe_op op_cat (pe_op op_cat (pe_slice sl_list (pe_ix ix_tup (pv 9) pe_int (fun _ _ => rfl)) po_none (po_some (pv 12))) (pe_lst (pa_cons (pe_ix ix_list (pe_ix ix_tup (pv 9) pe_int (fun _ _ => rfl)) (pv 11) (fun _ _ => rfl)) pa_nil))) (pe_slice sl_list (pe_ix ix_tup (pv 9) pe_int (fun _ _ => rfl)) (po_some (pe_op op_add (pv 12) pe_int)) po_none)))
      (pss_cons (ps_if (PW.pt (pw_or (pt_not (pt_val (pe_fn (ok_law_numbers T) hr pass0 (pa_cons (pe_ix ix_tup (pv 15) pe_int (fun _ _ => rfl)) (pa_cons (pv 16) pa_nil))))) (pw_or1 (pt_not (pt_val (pe_fn (ok_law_numbers T) hr pass0 (pa_cons (pe_ix ix_tup (pv 15) pe_int (fun _ _ => rfl)) (pa_cons (pv 17) pa_nil)))))))) (pss_one (ps_ret pe_bl)) pss_nil)
      (pss_cons (ps_if (pt_not (pt_val (pe_fn (ok_law_holds T) hr pass0 (pa_cons (pv 15) (pa_cons (pv 5) (pa_cons (pv 4) pa_nil)))))) (pss_one (ps_ret pe_bl)) pss_nil)
      (pss_cons (ps_set (i := 9) sc_law.nd rfl (Or.inl rfl) (pe_fn (ok_law_copy T) hr pass0 (pa_cons (pv 15) pa_nil)))
      (pss_cut (ps_for PassesOwn.never rfl (pi_list (pe_ix ix_tup (pv 15) pe_int (fun _ _ => rfl))) (pg_name (i := 18) sc_law.nd rfl (Or.inl rfl)) (pss_one (ps_expr (pe_bm PySem.F.plainAttrs_list PySem.F.slot_list_append PySem.F.type_list_append mt_append (pv 18) (pa_cons (pe_ix ix_list (pv 18) pe_int (fun _ _ => rfl)) pa_nil)))))
      (pss_one (ps_if (pt_cmpR (op_neD hr.units) (pe_fn (ok_law_shown T) hr pass0 (pa_cons (pv 13) pa_nil)) (pv 14) (nomark _)) (pss_one (ps_ret pe_bl)) pss_nil)))))))))))) pss_nil)))))
      (pss_one (ps_ret pe_bl))))))))))), ?_⟩
    obtain ⟨m0, m1⟩ := emod_in (cellOf ns 0) (show (0 : Int) < 3 by decide)
    obtain ⟨n0, n1⟩ := emod_in (cellOf ns 1) (show (0 : Int) < 3 by decide)
    obtain ⟨m, hm⟩ : ∃ m : Nat, 1 + cellOf ns 0 % 3 = m := Int.eq_ofNat_of_zero_le (by omega)
    obtain ⟨n, hn⟩ : ∃ n : Nat, 1 + cellOf ns 1 % 3 = n := Int.eq_ofNat_of_zero_le (by omega)
    have m1 : 1 ≤ m := by omega
    have m3 : m ≤ 3 := by omega
    have n1 : 1 ≤ n := by omega
    have n3 : n ≤ 3 := by omega
    refine ⟨_, rfl, l, ns, 0, rfl, hS, _, _, rfl, rfl, by show (0 : Int) < 3; decide, _, _, rfl, rfl, ?_⟩
    refine ⟨fun σ' H' => σ' = [some (.ref l), some (.int m), some (.int n), none, none, none, none, none, none, none, none, none, none, none, none, none, none, none, none] ∧ H' = H, ?_, ?_⟩
    · refine ⟨_, rfl, l, ns, 1, rfl, hS, _, _, rfl, rfl, by show (0 : Int) < 3; decide, _, _, rfl, rfl, ?_, rfl⟩
      rw [← hm, ← hn]
      rfl
    rintro σ' H0 ⟨rfl, eH⟩
    subst eH
    -- what is drawn
    refine ⟨_, rfl, _, rfl, _, rfl, l, _, rfl, hS, fun q nq => ?_⟩
    obtain ⟨ms, hms, lms⟩ := cut_ints ns 2 63
    have s1 := same_upd (o := .lst (cutV (ns.map V.int) (some 2) (some 63))) nq
    have hq : upd H0 q (.lst (cutV (ns.map V.int) (some 2) (some 63))) q = some (.lst (cutV (ns.map V.int) (some 2) (some 63))) := upd_same
    generalize upd H0 q (.lst (cutV (ns.map V.int) (some 2) (some 63))) = H1 at s1 hq ⊢
    rw [show cutV (ns.map V.int) (some 2) (some 63) = ms.map V.int from hms] at hq
    have mn12 : m * (n + 1) ≤ 12 := Nat.mul_le_mul (show m ≤ 3 by omega) (show n + 1 ≤ 4 by omega)
    have mn1 : 1 ≤ m * (n + 1) := Nat.mul_le_mul (show 1 ≤ m by omega) (show 1 ≤ n + 1 by omega)
    refine ⟨_, rfl, _, rfl, _, _, rfl, rfl, _, _, rfl, rfl, ⟨Sm.of_le (n := 10) (by omega) (by decide), Sm.of_le (n := 10) (by show ((n : Int) + 1).natAbs ≤ _; omega) (by decide)⟩, q, ms, m * (n + 1), ?_, SqL.of hq, by omega, mn1, by omega, fun pp H3 us cs np s3 hp hv lc pb => ?_⟩
    · show [V.ref q, V.int ((m : Int) * ((n : Int) + 1))] = _
      rw [show (m : Int) * ((n : Int) + 1) = ((m * (n + 1) : Nat) : Int) by rw [Int.natCast_mul]; rfl]
    have lus : us.length = m * (n + 1) := by rw [hv.1, lc]
    refine ⟨_, rfl, _, rfl, _, rfl, pp, _, rfl, SqL.of hp, fun lb nlb => ?_⟩
    have s4 := same_upd (o := .lst (cutV us none (some (m : Int)))) nlb
    have hlb : upd H3 lb (.lst (cutV us none (some (m : Int)))) lb = some (.lst (cutV us none (some (m : Int)))) := upd_same
    generalize upd H3 lb (.lst (cutV us none (some (m : Int)))) = H4 at s4 hlb ⊢
    rw [cut_take] at hlb
    have mle : m ≤ m * (n + 1) := Nat.le_mul_of_pos_right m (by omega)
    have hp4 := s4 _ _ hp
    have hv4 := hv.mono fun v x z => DueIs.mono z s4
    have s04 := (s1.trans s3).trans s4
    refine ⟨fun σ' H' => ∃ lr tr css, σ' = [some (.ref l), some (.int m), some (.int n), some (.ref pp), some (.ref lb), some (.ref lr), none, none, none, none, none, none, none, none, none, none, none, none, none] ∧ Same H0 H' ∧ RB_ H' lr lb tr (us.take m) css (cs.take m) m n ∧ (∀ r ∈ css, ∀ c ∈ r, PN 27 c) ∧ ∀ c ∈ cs.take m, PN 27 c, ?_, ?_⟩
    · refine ⟨_, rfl, (m : Int), rfl, by omega, by omega, fun lr nlr => ?_⟩
      refine compG_range (fun i H5 => i ≤ m ∧ Same H4 H5 ∧ ∃ ts css, H5 lr = some (.lst ts) ∧ RowAt (NeIs (LsIs DueIs) lr) H5 ts css ∧ css.length = i ∧ ∀ r ∈ css, r.length = n ∧ ∀ c ∈ r, PN 27 c) ⟨Nat.zero_le _, same_upd nlr, [], [], upd_same, RowAt.nil, rfl, fun c hc => absurd hc List.not_mem_nil⟩ ?_ ?_
      · rintro i H5 hi ⟨_, s5, ts, css, h5, hw, lcs, pr⟩
        have hi' : i < m := by simpa using hi
        have rl := row_len (n := n) hi'
        refine g1 ⟨⟨[_], rfl, rfl⟩, yes ?_⟩
        have sm1' : Sm (0 + (i : Int)) := Sm.of_le (n := 10) (by omega) (by decide)
        have sm2' : Sm (n : Int) := Sm.of_le (n := 10) (by omega) (by decide)
        refine ⟨_, rfl, _, rfl, _, rfl, _, rfl, _, _, rfl, rfl, ⟨sm1', sm2'⟩, _, _, rfl, rfl, _, rfl, _, rfl, _, rfl, _, rfl, _, _, rfl, rfl, ⟨sm1', sm2'⟩, _, _, rfl, rfl, _, rfl, _, _, rfl, rfl, _, rfl, pp, _, rfl, SqL.of (s5 _ _ hp4), fun d nd => ?_⟩
        have s6 := same_upd (o := .lst (cutV us (some ((m : Int) + (0 + (i : Int)) * n)) (some ((m : Int) + (0 + (i : Int)) * n + n)))) nd
        have hd : upd H5 d (.lst (cutV us (some ((m : Int) + (0 + (i : Int)) * n)) (some ((m : Int) + (0 + (i : Int)) * n + n)))) d = some (.lst (cutV us (some ((m : Int) + (0 + (i : Int)) * n)) (some ((m : Int) + (0 + (i : Int)) * n + n)))) := upd_same
        generalize upd H5 d (.lst (cutV us (some ((m : Int) + (0 + (i : Int)) * n)) (some ((m : Int) + (0 + (i : Int)) * n + n)))) = H6 at s6 hd ⊢
        rw [show (m : Int) + (0 + (i : Int)) * n = ((m + i * n : Nat) : Int) by rw [Int.zero_add, Int.natCast_add, Int.natCast_mul], show ((m + i * n : Nat) : Int) + n = ((m + i * n + n : Nat) : Int) from rfl] at hd
        have h6 := s6 _ _ h5
        have kl := KL.put (o := .lst (ts ++ [.ref d])) h6
        have ne : V.ref d ≠ V.ref lr := ne_new h5 nd
        refine ⟨_, h6, small1000 (by rw [hw.1, lcs]; omega), nextP (by simpa using hi) ⟨hi', same_put nlr (s5.trans s6), _, css ++ [(cs.drop (m + i * n)).take n], upd_same, ?_, by rw [List.length_append, lcs]; rfl, fun r hr => ?_⟩⟩
        · refine RowAt.snoc (hw.mono fun v x z => ⟨(z.1.mono (fun _ _ y => y.mono s6) s6).kl (fun _ _ y => y.kl kl) kl z.2, z.2⟩) ⟨LsIs.kl (fun _ _ y => y.kl kl) ⟨d, _, rfl, hd, ?_⟩ kl ne, ne⟩
          exact RowAt.cut (hv4.mono fun v x z => DueIs.mono z (s5.trans s6)) _ _ (by rw [lus]; exact rl)
        · rcases List.mem_append.mp hr with z | z
          · exact pr r z
          · rw [List.mem_singleton.mp z]
            exact ⟨by rw [List.length_take, List.length_drop, lc]; omega, fun c hc => pb c (List.mem_of_mem_drop (List.mem_of_mem_take hc))⟩
      · rintro H5 ⟨_, s5, ts, css, h5, hw, lcs, pr⟩
        exact ⟨lr, ts, css, rfl, s04.trans s5, ⟨h5, ⟨hw.1, fun i t x h1 h2 => (hw.2 i t x h1 h2).1⟩, by simpa using lcs, fun r hr => ⟨(pr r hr).1, fun c hc => ((pr r hr).2 c hc).mono (by decide)⟩, s5 _ _ hlb, (hv4.take m).mono fun v x z => DueIs.mono z s5, by rw [List.length_take, lc]; omega, fun c hc => (pb c (List.mem_of_mem_take hc)).mono (by decide)⟩, fun r hr => (pr r hr).2, fun c hc => pb c (List.mem_of_mem_take hc)⟩
    rintro σ' H5 ⟨lr, tr, css, rfl, s05, D, p27, pb27⟩
    clear hlb hp4 hv4 hp hv hq hms s1 s3 s4 s04 lus lc mle pb
    generalize us.take m = tb at D
    generalize cs.take m = bs at D pb27
    -- the table
    refine ⟨by show 0 ≤ sizeLine; decide, fun lt nlt => ?_⟩
    refine ⟨fun σ' H' => ∃ tt z7 z8, σ' = [some (.ref l), some (.int m), some (.int n), some (.ref pp), some (.ref lb), some (.ref lr), some (.ref lt), z7, z8, none, none, none, none, none, none, none, none, none, none] ∧ Same H5 H' ∧ H' lt = some (.lst tt) ∧ RowAt (LsIs (FrIs a)) H' tt (tab0 css bs), ?_, ?_⟩
    · have ltr : tr.length = m := by rw [D.rr.1, D.lr]
      have ltb : tb.length = m := by rw [D.rb.1, D.lb]
      have s6 := same_upd (o := .lst []) nlt
      refine ⟨_, rfl, _, rfl, lr, lb, tr, tb, rfl, SqL.of (s6 _ _ D.hr), SqL.of (s6 _ _ D.hb), ?_⟩
      refine for_zip (K := K) (fun i σ H' => i ≤ m ∧ ∃ ts z7 z8, σ = [some (.ref l), some (.int m), some (.int n), some (.ref pp), some (.ref lb), some (.ref lr), some (.ref lt), z7, z8, none, none, none, none, none, none, none, none, none, none] ∧ Same H5 H' ∧ H' lt = some (.lst ts) ∧ RowAt (NeIs (LsIs (FrIs a)) lt) H' ts (tab0 (css.take i) (bs.take i)))
        ⟨Nat.zero_le _, [], _, _, rfl, s6, upd_same, RowAt.nil⟩ (fun i σ H' ⟨_, _, _, _, _, s7, _⟩ => ⟨SqL.of (s7 _ _ D.hr), SqL.of (s7 _ _ D.hb)⟩) ?_ ?_
      · rintro i x y t σ H7 hx hy nt ⟨_, ts, z7, z8, rfl, s7, hlt, hw⟩
        obtain ⟨row, erow, pr, t1, rfl, hpr, hrr⟩ := D.rr.get hx
        obtain ⟨b, eb, p2, rfl, hp2⟩ := D.rb.get hy
        have hi : i < m := by rw [← D.lr]; exact (List.getElem?_eq_some_iff.mp erow).1
        obtain ⟨rl, rp⟩ := D.pr row (List.mem_of_getElem? erow)
        have pbb := D.pb b (List.mem_of_getElem? eb)
        have lt1 : t1.length = row.length := hrr.1
        have s78 := same_upd (o := .tup [.ref pr, .ref p2]) nt
        have ht : upd H7 t (.tup [.ref pr, .ref p2]) t = some (.tup [.ref pr, .ref p2]) := upd_same
        generalize upd H7 t (.tup [.ref pr, .ref p2]) = H8 at s78 ht ⊢
        have s8 := s7.trans s78
        refine ⟨t, [.ref pr, .ref p2], rfl, SqT.of ht, rfl, .ref pr, [.ref p2], rfl, ⟨.ref p2, [], rfl, ⟨rfl, ?_⟩⟩⟩
        refine ⟨_, rfl, .inl ⟨rfl, _, SqL.of (s78 _ _ hlt)⟩, _, rfl, by show 1 ≤ sizeLine; decide, fun b1 nb1 => ?_⟩
        have s89 := same_upd (o := .lst [.ref p2]) nb1
        have hb1 : upd H8 b1 (.lst [.ref p2]) b1 = some (.lst [.ref p2]) := upd_same
        generalize upd H8 b1 (.lst [.ref p2]) = H9 at s89 hb1 ⊢
        have s9 := s8.trans s89
        have hpr9 := s9 _ _ hpr
        refine ⟨_, rfl, pr, rfl, ⟨_, SqL.of hpr9⟩, fun c nc => ?_⟩
        refine compG_list (K := K) (a := pr) (xs := t1) (fun j H10 => j ≤ row.length ∧ Same H9 H10 ∧ ∃ vs, H10 c = some (.lst vs) ∧ RowAt DueIs H10 vs ((row.take j).map fun d => (0 - d.1, d.2))) ⟨Nat.zero_le _, same_upd nc, [], upd_same, RowAt.nil⟩ (fun j H10 ⟨_, s10, _⟩ => SqL.of (s10 _ _ hpr9)) ?_ ?_
        · rintro j x H10 hx10 ⟨_, s10, vs, h10, hu⟩
          obtain ⟨d, ed, pd, rfl, hpd⟩ := hrr.get hx10
          have hj : j < row.length := (List.getElem?_eq_some_iff.mp ed).1
          refine g1 ⟨⟨[_], rfl, rfl⟩, yes ?_⟩
          have sqd := SqT.of (K := K) ((s9.trans s10) _ _ hpd)
          refine ⟨_, rfl, pd, _, _, _, rfl, rfl, sqd, rfl, _, _, rfl, rfl, _, rfl, pd, _, _, _, rfl, rfl, sqd, rfl, by show 2 ≤ sizeLine; decide, fun u nu => ?_⟩
          have s11 := same_upd (o := .tup [.int (0 - d.1), .int d.2]) nu
          have hu' : upd H10 u (.tup [.int (0 - d.1), .int d.2]) u = some (.tup [.int (0 - d.1), .int d.2]) := upd_same
          generalize upd H10 u (.tup [.int (0 - d.1), .int d.2]) = H11 at s11 hu' ⊢
          have h11 := s11 _ _ h10
          have lvs : vs.length ≤ 10 := by rw [hu.1, List.length_map, List.length_take]; omega
          refine ⟨_, h11, small1000 (by omega), nextP (by rw [lt1]; exact hj) ⟨hj, same_put nc (s10.trans s11), _, upd_same, ?_⟩⟩
          rw [List.take_add_one, ed, Option.toList_some, List.map_append]
          exact RowAt.snoc (hu.mono fun v x z => (z.mono s11).kl (KL.put h11)) (DueIs.kl ⟨u, rfl, hu'⟩ (KL.put h11))
        · rintro H10 ⟨_, s10, vs, h10, hu⟩
          rw [lt1, List.take_length] at hu
          have lvs : vs.length ≤ 10 := by rw [hu.1, List.length_map]; omega
          refine ⟨b1, c, _, vs, rfl, rfl, s10 _ _ hb1, h10, Nat.le_trans (show 1 + vs.length ≤ 1000 by omega) (by decide), fun d nd => ?_⟩
          have s11 := same_upd (o := .lst ([.ref p2] ++ vs)) nd
          have hd : upd H10 d (.lst ([.ref p2] ++ vs)) d = some (.lst ([.ref p2] ++ vs)) := upd_same
          generalize upd H10 d (.lst ([.ref p2] ++ vs)) = H11 at s11 hd ⊢
          have rA : RowAt DueIs H11 ([.ref p2] ++ vs) ([b] ++ row.map fun d => (0 - d.1, d.2)) := RowAt.app (RowAt.one ⟨p2, rfl, (s9.trans (s10.trans s11)) _ _ hp2⟩) (hu.mono fun _ _ z => z.mono s11)
          refine ⟨d, _, _, rfl, SqL.of hd, rA, by rw [List.length_append, List.length_map]; show 1 + _ ≤ _; omega, fun e he => ?_, fun g H12 us12 ng s12 hg hu12 => ?_⟩
          · rcases List.mem_append.mp he with z | z
            · rw [List.mem_singleton.mp z]
              exact ⟨pbb.nz, Sm.of_le pbb.b3 (by decide)⟩
            · obtain ⟨x, hx, rfl⟩ := List.mem_map.mp z
              exact ⟨(rp x hx).nz, Sm.of_le (rp x hx).b3 (by decide)⟩
          have s712 := s78.trans (s89.trans (s10.trans (s11.trans s12)))
          have hlt12 := s712 _ _ hlt
          have lts : ts.length ≤ 10 := by rw [hw.1]; unfold tab0; rw [List.length_zipWith, List.length_take]; omega
          have kl := KL.put (o := .lst (ts ++ [.ref g])) hlt12
          have ne : V.ref g ≠ V.ref lt := ne_new ((s78.trans (s89.trans (s10.trans s11))) _ _ hlt) ng
          refine ⟨lt, _, _, rfl, rfl, hlt12, small1000 (by omega), hi, _, _, _, rfl, same_put nlt (s7.trans s712), upd_same, ?_⟩
          rw [tab0_snoc erow eb]
          refine RowAt.snoc (hw.mono fun v x z => ⟨(z.1.mono (fun _ _ y => y.mono s712) s712).kl (fun _ _ y => y.kl kl) kl z.2, z.2⟩) ⟨LsIs.kl (fun _ _ y => y.kl kl) ⟨g, _, rfl, hg, ?_⟩ kl ne, ne⟩
          have ee : ([b] ++ row.map fun (d : Int × Int) => (0 - d.1, d.2)).map vR = vR b :: row.map (fun c => -(vR c)) := by
            rw [List.map_append, List.map_map]
            show [vR b] ++ _ = [vR b] ++ _
            rw [show (vR ∘ fun (d : Int × Int) => (0 - d.1, d.2)) = fun c => -(vR c) from funext fun c => (vR_neg c).symm]
          rw [← ee]
          exact hu12
      · rintro σ H7 ⟨_, ts, z7, z8, rfl, s7, hlt, hw⟩
        rw [ltr, ltb, Nat.min_self, List.take_of_length_le (by rw [D.lr]; exact Nat.le_refl _), List.take_of_length_le (by rw [D.lb]; exact Nat.le_refl _)] at hw
        exact ⟨ts, z7, z8, rfl, s7, hlt, hw.1, fun i t x h1 h2 => (hw.2 i t x h1 h2).1⟩
    rintro σ' H6 ⟨tt, z7, z8, rfl, s56, hlt, htt⟩
    -- the first grid
    refine ⟨fun σ' H' => ∃ t, σ' = [some (.ref l), some (.int m), some (.int n), some (.ref pp), some (.ref lb), some (.ref lr), some (.ref lt), z7, z8, some (.ref t), none, none, none, none, none, none, none, none, none] ∧ Same H6 H' ∧ GridAt a H' t (ls0 m n) (us0 n) (tab0 css bs), ?_, ?_⟩
    · refine ⟨_, rfl, (m : Int), rfl, by omega, by omega, fun p1 np1 => ?_⟩
      refine compG_range (fun i H7 => i ≤ m ∧ Same H6 H7 ∧ H7 p1 = some (.lst ((ls0 i n).map V.int))) ⟨Nat.zero_le _, same_upd np1, upd_same⟩ ?_ ?_
      · rintro i H7 hi ⟨_, s7, h7⟩
        have hi' : i < m := by simpa using hi
        refine g1 ⟨⟨[_], rfl, rfl⟩, yes ?_⟩
        refine ⟨_, rfl, _, rfl, _, _, rfl, rfl, ?_⟩
        refine ⟨_, h7, small1000 (by unfold ls0; rw [List.length_map, List.length_map, List.length_range]; omega), nextP (by simpa using hi) ⟨hi', same_put np1 s7, ?_⟩⟩
        rw [upd_same, ls0_succ, List.map_append, Int.zero_add]
        rfl
      · rintro H7 ⟨_, s7, h7⟩
        refine ⟨_, rfl, (n : Int), rfl, by omega, by omega, fun p2 np2 => ?_⟩
        refine compG_range (fun i H8 => i ≤ n ∧ Same H7 H8 ∧ H8 p2 = some (.lst ((us0 i).map V.int))) ⟨Nat.zero_le _, same_upd np2, upd_same⟩ ?_ ?_
        · rintro i H8 hi ⟨_, s8, h8⟩
          have hi' : i < n := by simpa using hi
          refine g1 ⟨⟨[_], rfl, rfl⟩, yes ?_⟩
          refine ⟨_, rfl, ?_⟩
          refine ⟨_, h8, small1000 (by unfold us0; rw [List.length_map, List.length_map, List.length_range]; omega), nextP (by simpa using hi) ⟨hi', same_put np2 s8, ?_⟩⟩
          rw [upd_same, us0_succ, List.map_append, Int.zero_add]
          rfl
        · rintro H8 ⟨_, s8, h8⟩
          refine ⟨_, rfl, by show 3 ≤ sizeLine; decide, fun t nt => ?_⟩
          have s9 := same_upd (o := .tup [.ref p1, .ref p2, .ref lt]) nt
          have s79 := s7.trans (s8.trans s9)
          exact ⟨t, rfl, s79, p1, p2, lt, tt, upd_same, by simpa using (s8.trans s9) _ _ h7, by simpa using s9 _ _ h8, s79 _ _ hlt, htt.mono fun _ _ z => z.mono (fun _ _ y => y.mono s79) s79⟩
    rintro σ' H7 ⟨t0, rfl, s67, hG0⟩
    have s57 := s56.trans s67
    replace D := D.mono s57
    have G0 := gi0 hG0 D.lr D.lb (by omega) (by omega) (fun r hr => (D.pr r hr).1) p27 pb27
    clear htt hlt nlt hG0
    -- the exchanges
    refine ⟨_, rfl, _, rfl, _, rfl, l, _, rfl, (s05.trans s57).seq hS, fun q nq => ?_⟩
    obtain ⟨ks, hks, lks⟩ := cut4 ns
    have s8 := same_upd (o := .lst (cutV (ns.map V.int) (some 4) (some 8))) nq
    have hq : upd H7 q (.lst (cutV (ns.map V.int) (some 4) (some 8))) q = some (.lst (cutV (ns.map V.int) (some 4) (some 8))) := upd_same
    generalize upd H7 q (.lst (cutV (ns.map V.int) (some 4) (some 8))) = H8 at s8 hq ⊢
    rw [hks] at hq
    replace D := D.mono s8
    replace G0 := G0.mono s8
    refine ⟨q, rfl, ⟨_, SqL.of hq⟩, ?_⟩
    refine for_list (K := K) (a := q) (xs := ks.map V.int) (fun i σ H' => i ≤ ks.length ∧ ∃ t ls us tab z10 z11 z12 z13 z14 z15 z16 z17 z18, σ = [some (.ref l), some (.int m), some (.int n), some (.ref pp), some (.ref lb), some (.ref lr), some (.ref lt), z7, z8, some (.ref t), z10, z11, z12, z13, z14, z15, z16, z17, z18] ∧ Same H8 H' ∧ GI a css bs m n (Bo i) H' t ls us tab) ⟨Nat.zero_le _, t0, _, _, _, _, _, _, _, _, _, _, _, _, rfl, Same.refl _, G0⟩ (fun i σ H' _ ⟨_, _, _, _, _, _, _, _, _, _, _, _, _, _, _, s9, _⟩ => SqL.of (s9 _ _ hq)) ?_ ?_
    · rintro i x σ H9 hx ⟨_, t, ls, us, tab, z10, z11, z12, z13, z14, z15, z16, z17, z18, rfl, s9, g⟩
      have hi : i < ks.length := by have := (List.getElem?_eq_some_iff.mp hx).1; rw [List.length_map] at this; exact this
      obtain ⟨c, _, rfl⟩ := List.mem_map.mp (List.mem_of_getElem? hx)
      obtain ⟨i0, i1⟩ := emod_in c (show (0 : Int) < (m : Int) by omega)
      obtain ⟨j0, j1⟩ := emod_in (c / 3) (show (0 : Int) < (n : Int) by omega)
      obtain ⟨ii, hii⟩ : ∃ ii : Nat, c % (m : Int) = ii := Int.eq_ofNat_of_zero_le i0
      obtain ⟨jj, hjj⟩ : ∃ jj : Nat, c / 3 % (n : Int) = jj := Int.eq_ofNat_of_zero_le j0
      have iim : ii < m := by omega
      have jjn : jj < n := by omega
      refine ⟨_, rfl, _, rfl, _, _, rfl, rfl, by show (0 : Int) < (m : Int); omega, ?_⟩
      refine ⟨fun σ' H' => σ' = [some (.ref l), some (.int m), some (.int n), some (.ref pp), some (.ref lb), some (.ref lr), some (.ref lt), z7, z8, some (.ref t), some (.int c), some (.int ii), some (.int jj), z13, z14, z15, z16, z17, z18] ∧ H' = H9, ?_, ?_⟩
      · refine ⟨_, rfl, _, _, rfl, rfl, ⟨by decide, by decide⟩, _, rfl, _, _, rfl, rfl, by show (0 : Int) < (n : Int); omega, ?_, rfl⟩
        rw [← hii, ← hjj]
        rfl
      rintro σ' H9' ⟨rfl, eH⟩
      subst eH
      have l5 := g.ok.l5
      have u5 := g.ok.u5
      have ltab := g.lt
      have lu := g.lu
      have ll := g.ok.l1
      have hil : ii < ls.length := by omega
      have hju : jj < us.length := by omega
      have ei : tab[ii]? = some (tab[ii]'(by omega)) := List.getElem?_eq_getElem _
      generalize tab[ii]'(by omega) = ri at ei
      have lri := g.ok.rl ri (List.mem_of_getElem? ei)
      have ey : ri[jj + 1]? = some (ri[jj + 1]'(by omega)) := List.getElem?_eq_getElem _
      generalize ri[jj + 1]'(by omega) = y at ey
      obtain ⟨p, q1, r, ts, ht, hp, hq1, hr', hts⟩ := g.at_
      obtain ⟨v, ev, pr, tr', rfl, hpr, hrr⟩ := hts.get' ei
      obtain ⟨vy, evy, py, rfl, hpy⟩ := hrr.get' ey
      refine ⟨_, rfl, t, _, _, _, rfl, rfl, SqT.of ht, rfl, _, rfl, r, _, _, _, rfl, rfl, SqL.of hr', atI_nat ev, _, rfl, _, _, rfl, rfl, pr, _, _, _, rfl, rfl, SqL.of hpr, atI_nat (j := jj + 1) evy, py, y, rfl, hpy, rfl, _, rfl, ?_⟩
      by_cases yn : y.num = 0
      · refine iteD (by rw [yn]; rfl) ?_
        exact ⟨hi, t, ls, us, tab, _, _, _, _, _, _, _, _, _, rfl, s9, { g with ok := g.ok.mono (show Bo i ≤ 4 * Bo i + 1 by omega) }⟩
      · refine iteC (by rw [neV yn]; rfl) ?_
        have y0 : y ≠ 0 := fun z => yn (Rat.num_eq_zero.mpr z)
        have bo : Bo i ≤ 2000 := by
          match i, hi with
          | 0, _ => decide
          | 1, _ => decide
          | 2, _ => decide
          | 3, _ => decide
          | i + 4, hi => omega
        have bo' : Bo (i + 1) ≤ 7000 := by
          match i, hi with
          | 0, _ => decide
          | 1, _ => decide
          | 2, _ => decide
          | 3, _ => decide
          | i + 4, hi => omega
        have r10 : ∀ r ∈ tab, r.length ≤ 10 := fun r hr => by have := g.ok.rl r hr; omega
        refine ⟨_, rfl, t, ls, us, tab, rfl, g.at_, by omega, fun t1 H10 nt1 s10 hN1 => ?_⟩
        refine ⟨_, rfl, t, ls, us, tab, rfl, g.at_.mono s10, by omega, r10, fun tb1 H11 ntb1 s11 hB => ?_⟩
        have s911 := s10.trans s11
        have hG1 := hN1.at.mono s11
        refine ⟨_, rfl, _, rfl, _, rfl, t1, ls, us, tab, ii, jj, ri, y, rfl, hG1, g.ok.mono bo, ei, hju, ey, y0, fun t2 H12 nt2 s12 hN2 => ?_⟩
        have gok2 : GOk (Bo (i + 1)) (ls.set ii (us.getD jj 0)) (us.set jj (ls.getD ii 0)) (tabR tab ri ii (jj + 1) y) := g.ok.exch ei ey _ _
        have lt2 : (tabR tab ri ii (jj + 1) y).length = m := by unfold tabR; rw [List.length_set, List.length_map]; exact ltab
        have il2 : InN (n + m) (ls.set ii (us.getD jj 0)) := g.il.set ii (g.iu.get (by omega) jj)
        have iu2 : InN (n + m) (us.set jj (ls.getD ii 0)) := g.iu.set jj (g.il.get (by omega) ii)
        have ho2 : ∀ fs : List (Int × Int), fs.length = n → HoldsV (vOf css bs fs) (ls.set ii (us.getD jj 0)) (us.set jj (ls.getD ii 0)) (tabR tab ri ii (jj + 1) y) := fun fs lf => (g.ho fs lf).exch g.ok ei hju ey y0
        refine ⟨_, rfl, t1, ls, us, tab, rfl, hG1.mono s12, by omega, r10, fun tb2 H13 ntb2 s13 hB2 => ?_⟩
        refine ⟨_, rfl, ShownAt.ne hB2 (hB.mono (s12.trans s13)) ⟨_, rfl, iteF ?_⟩⟩
        have hG2 := hN2.at
        obtain ⟨p2, q2, r2, ts2, ht2, hp2, hq2, hr2, hts2, _, fr2⟩ := hN2
        refine ⟨_, rfl, _, _, _, _, rfl, (fun u h => h), TyOf.tup (s13 _ _ ht2), T.k_tuple_tuple, _, rfl, iteF ?_⟩
        refine ⟨_, rfl, t2, _, rfl, .inr (SqT.of (s13 _ _ ht2)), rfl, _, rfl, iteNS rfl ?_⟩
        have s913 := s911.trans (s12.trans s13)
        have ht13 := s913 _ _ ht
        have hp13 := s913 _ _ hp
        have hq13 := s913 _ _ hq1
        refine ⟨_, rfl, t, _, _, _, rfl, rfl, SqT.of ht13, rfl, _, rfl, _, rfl, p, _, rfl, SqL.of hp13, fun a1 na1 => ?_⟩
        have sa1 := same_upd (o := .lst (cutV (ls.map V.int) none (some ((ii : Nat) : Int)))) na1
        have ha1 : upd H13 a1 (.lst (cutV (ls.map V.int) none (some ((ii : Nat) : Int)))) a1 = some (.lst (cutV (ls.map V.int) none (some ((ii : Nat) : Int)))) := upd_same
        generalize upd H13 a1 (.lst (cutV (ls.map V.int) none (some ((ii : Nat) : Int)))) = Ha1 at sa1 ha1 ⊢
        rw [cut_take, ← List.map_take] at ha1
        refine ⟨_, rfl, t, _, _, _, rfl, rfl, SqT.of (sa1 _ _ ht13), rfl, _, rfl, q1, _, _, _, rfl, rfl, SqL.of (sa1 _ _ hq13), at_int hju, by show 1 ≤ sizeLine; decide, fun a2 na2 => ?_⟩
        have sa2 := same_upd (o := .lst [.int (us.getD jj 0)]) na2
        have ha2 : upd Ha1 a2 (.lst [.int (us.getD jj 0)]) a2 = some (.lst [.int (us.getD jj 0)]) := upd_same
        generalize upd Ha1 a2 (.lst [.int (us.getD jj 0)]) = Ha2 at sa2 ha2 ⊢
        refine ⟨a1, a2, _, _, rfl, rfl, sa2 _ _ ha1, ha2, Nat.le_trans (show ((ls.take ii).map V.int).length + 1 ≤ 1000 by rw [List.length_map, List.length_take]; omega) (by decide), fun a3 na3 => ?_⟩
        have sa3 := same_upd (o := .lst ((ls.take ii).map V.int ++ [.int (us.getD jj 0)])) na3
        have ha3 : upd Ha2 a3 (.lst ((ls.take ii).map V.int ++ [.int (us.getD jj 0)])) a3 = some (.lst ((ls.take ii).map V.int ++ [.int (us.getD jj 0)])) := upd_same
        generalize upd Ha2 a3 (.lst ((ls.take ii).map V.int ++ [.int (us.getD jj 0)])) = Ha3 at sa3 ha3 ⊢
        have sa13 := sa1.trans (sa2.trans sa3)
        refine ⟨_, rfl, t, _, _, _, rfl, rfl, SqT.of (sa13 _ _ ht13), rfl, _, rfl, _, _, rfl, rfl, _, rfl, p, _, rfl, SqL.of (sa13 _ _ hp13), fun a4 na4 => ?_⟩
        have sa4 := same_upd (o := .lst (cutV (ls.map V.int) (some (((ii : Nat) : Int) + 1)) none)) na4
        have ha4 : upd Ha3 a4 (.lst (cutV (ls.map V.int) (some (((ii : Nat) : Int) + 1)) none)) a4 = some (.lst (cutV (ls.map V.int) (some (((ii : Nat) : Int) + 1)) none)) := upd_same
        generalize upd Ha3 a4 (.lst (cutV (ls.map V.int) (some (((ii : Nat) : Int) + 1)) none)) = Ha4 at sa4 ha4 ⊢
        rw [show cutV (ls.map V.int) (some (((ii : Nat) : Int) + 1)) none = _ from cut_drop (ii + 1), ← List.map_drop] at ha4
        refine ⟨a3, a4, _, _, rfl, rfl, sa4 _ _ ha3, ha4, Nat.le_trans (show ((ls.take ii).map V.int ++ [V.int (us.getD jj 0)]).length + ((ls.drop (ii + 1)).map V.int).length ≤ 1000 by rw [List.length_append, List.length_map, List.length_map, List.length_take, List.length_drop]; show _ + 1 + _ ≤ _; omega) (by decide), fun a5 na5 => ?_⟩
        have sa5 := same_upd (o := .lst ((ls.take ii).map V.int ++ [.int (us.getD jj 0)] ++ (ls.drop (ii + 1)).map V.int)) na5
        have ha5 : upd Ha4 a5 (.lst ((ls.take ii).map V.int ++ [.int (us.getD jj 0)] ++ (ls.drop (ii + 1)).map V.int)) a5 = some (.lst ((ls.take ii).map V.int ++ [.int (us.getD jj 0)] ++ (ls.drop (ii + 1)).map V.int)) := upd_same
        generalize upd Ha4 a5 (.lst ((ls.take ii).map V.int ++ [.int (us.getD jj 0)] ++ (ls.drop (ii + 1)).map V.int)) = H14 at sa5 ha5 ⊢
        have sa15 := sa13.trans (sa4.trans sa5)
        rw [show (ls.take ii).map V.int ++ [.int (us.getD jj 0)] ++ (ls.drop (ii + 1)).map V.int = (ls.set ii (us.getD jj 0)).map V.int by rw [← set_cat hil, List.map_append, List.map_append]; rfl] at ha5
        have ht14 := sa15 _ _ ht13
        have hp14 := sa15 _ _ hp13
        have hq14 := sa15 _ _ hq13
        refine ⟨_, rfl, t, _, _, _, rfl, rfl, SqT.of ht14, rfl, _, rfl, _, rfl, q1, _, rfl, SqL.of hq14, fun b1 nb1 => ?_⟩
        have sb1 := same_upd (o := .lst (cutV (us.map V.int) none (some ((jj : Nat) : Int)))) nb1
        have hb1 : upd H14 b1 (.lst (cutV (us.map V.int) none (some ((jj : Nat) : Int)))) b1 = some (.lst (cutV (us.map V.int) none (some ((jj : Nat) : Int)))) := upd_same
        generalize upd H14 b1 (.lst (cutV (us.map V.int) none (some ((jj : Nat) : Int)))) = Hb1 at sb1 hb1 ⊢
        rw [cut_take, ← List.map_take] at hb1
        refine ⟨_, rfl, t, _, _, _, rfl, rfl, SqT.of (sb1 _ _ ht14), rfl, _, rfl, p, _, _, _, rfl, rfl, SqL.of (sb1 _ _ hp14), at_int hil, by show 1 ≤ sizeLine; decide, fun b2 nb2 => ?_⟩
        have sb2 := same_upd (o := .lst [.int (ls.getD ii 0)]) nb2
        have hb2 : upd Hb1 b2 (.lst [.int (ls.getD ii 0)]) b2 = some (.lst [.int (ls.getD ii 0)]) := upd_same
        generalize upd Hb1 b2 (.lst [.int (ls.getD ii 0)]) = Hb2 at sb2 hb2 ⊢
        refine ⟨b1, b2, _, _, rfl, rfl, sb2 _ _ hb1, hb2, Nat.le_trans (show ((us.take jj).map V.int).length + 1 ≤ 1000 by rw [List.length_map, List.length_take]; omega) (by decide), fun b3 nb3 => ?_⟩
        have sb3 := same_upd (o := .lst ((us.take jj).map V.int ++ [.int (ls.getD ii 0)])) nb3
        have hb3 : upd Hb2 b3 (.lst ((us.take jj).map V.int ++ [.int (ls.getD ii 0)])) b3 = some (.lst ((us.take jj).map V.int ++ [.int (ls.getD ii 0)])) := upd_same
        generalize upd Hb2 b3 (.lst ((us.take jj).map V.int ++ [.int (ls.getD ii 0)])) = Hb3 at sb3 hb3 ⊢
        have sb13 := sb1.trans (sb2.trans sb3)
        refine ⟨_, rfl, t, _, _, _, rfl, rfl, SqT.of (sb13 _ _ ht14), rfl, _, rfl, _, _, rfl, rfl, _, rfl, q1, _, rfl, SqL.of (sb13 _ _ hq14), fun b4 nb4 => ?_⟩
        have sb4 := same_upd (o := .lst (cutV (us.map V.int) (some (((jj : Nat) : Int) + 1)) none)) nb4
        have hb4 : upd Hb3 b4 (.lst (cutV (us.map V.int) (some (((jj : Nat) : Int) + 1)) none)) b4 = some (.lst (cutV (us.map V.int) (some (((jj : Nat) : Int) + 1)) none)) := upd_same
        generalize upd Hb3 b4 (.lst (cutV (us.map V.int) (some (((jj : Nat) : Int) + 1)) none)) = Hb4 at sb4 hb4 ⊢
        rw [show cutV (us.map V.int) (some (((jj : Nat) : Int) + 1)) none = _ from cut_drop (jj + 1), ← List.map_drop] at hb4
        refine ⟨b3, b4, _, _, rfl, rfl, sb4 _ _ hb3, hb4, Nat.le_trans (show ((us.take jj).map V.int ++ [V.int (ls.getD ii 0)]).length + ((us.drop (jj + 1)).map V.int).length ≤ 1000 by rw [List.length_append, List.length_map, List.length_map, List.length_take, List.length_drop]; show _ + 1 + _ ≤ _; omega) (by decide), fun b5 nb5 => ?_⟩
        have sb5 := same_upd (o := .lst ((us.take jj).map V.int ++ [.int (ls.getD ii 0)] ++ (us.drop (jj + 1)).map V.int)) nb5
        have hb5 : upd Hb4 b5 (.lst ((us.take jj).map V.int ++ [.int (ls.getD ii 0)] ++ (us.drop (jj + 1)).map V.int)) b5 = some (.lst ((us.take jj).map V.int ++ [.int (ls.getD ii 0)] ++ (us.drop (jj + 1)).map V.int)) := upd_same
        generalize upd Hb4 b5 (.lst ((us.take jj).map V.int ++ [.int (ls.getD ii 0)] ++ (us.drop (jj + 1)).map V.int)) = H15 at sb5 hb5 ⊢
        have sb15 := sb13.trans (sb4.trans sb5)
        rw [show (us.take jj).map V.int ++ [.int (ls.getD ii 0)] ++ (us.drop (jj + 1)).map V.int = (us.set jj (ls.getD ii 0)).map V.int by rw [← set_cat hju, List.map_append, List.map_append]; rfl] at hb5
        have s1215 := s13.trans (sa15.trans sb15)
        have l2 : (ls.set ii (us.getD jj 0)).length ≤ 10 := by rw [List.length_set]; omega
        have l3 : (us.set jj (ls.getD ii 0)).length ≤ 10 := by rw [List.length_set]; omega
        refine ⟨_, rfl, t2, _, _, _, rfl, rfl, SqT.of (s1215 _ _ ht2), rfl, _, rfl, p2, a5, _, rfl, s1215 _ _ hp2, SqL.of (sb15 _ _ ha5), l2, fun H16 s16 => ⟨_, rfl, iteF ?_⟩⟩
        have s1216 := s1215.trans s16
        refine ⟨_, rfl, t2, _, _, _, rfl, rfl, SqT.of (s1216 _ _ ht2), rfl, _, rfl, q2, b5, _, rfl, s1216 _ _ hq2, SqL.of (s16 _ _ hb5), l3, fun H17 s17 => ⟨_, rfl, iteF ?_⟩⟩
        have s1217 := s1216.trans s17
        have s817 := s9.trans (s911.trans (s12.trans s1217))
        refine ⟨_, rfl, _, rfl, _, rfl, t2, lr, lb, _, _, _, tr, tb, css, bs, m, n, rfl, hG2.mono s1217, gok2.mono bo', D.mono s817, m1, by omega, by omega, lt2, il2, iu2, ho2, fun H18 s18 => ⟨_, rfl, iteF ?_⟩⟩
        have s1218 := s1217.trans s18
        refine ⟨_, rfl, t2, _, _, _, rfl, hG2.mono s1218, by omega, fun t3 H19 nt3 s19 hN3 => ?_⟩
        have s1219 := s1218.trans s19
        have lts2 : ts2.length = m := by rw [hts2.1, lt2]
        -- the lines told are spoilt
        refine ⟨fun σ' H' => ∃ zl, σ' = [some (.ref l), some (.int m), some (.int n), some (.ref pp), some (.ref lb), some (.ref lr), some (.ref lt), z7, z8, some (.ref t3), some (.int c), some (.int ii), some (.int jj), some (.ref t1), some (.ref tb1), some (.ref t2), some (.ref a5), some (.ref b5), zl] ∧ KS ts2 H19 H', ?_, ?_⟩
        · have hr219 := s1219 _ _ hr2
          have hts219 := hts2.mono fun _ _ z => z.mono (fun _ _ y => FrIs.mono y s1219) s1219
          have nr := grid_ne hr219 hts219
          refine ⟨_, rfl, t2, _, _, _, rfl, rfl, SqT.of (s1219 _ _ ht2), rfl, r2, rfl, ⟨_, SqL.of hr219⟩, ?_⟩
          refine for_list (K := K) (a := r2) (xs := ts2) (fun e σ H' => ∃ zl, σ = [some (.ref l), some (.int m), some (.int n), some (.ref pp), some (.ref lb), some (.ref lr), some (.ref lt), z7, z8, some (.ref t3), some (.int c), some (.int ii), some (.int jj), some (.ref t1), some (.ref tb1), some (.ref t2), some (.ref a5), some (.ref b5), zl] ∧ KS ts2 H19 H' ∧ ∀ v ∈ ts2, ∃ p us, v = .ref p ∧ H' p = some (.lst us) ∧ us ≠ [] ∧ us.length ≤ 20 + e) ⟨_, rfl, fun _ _ _ h => h, fun v hv => ?_⟩ (fun e σ H' _ ⟨_, _, ks', _⟩ => SqL.of (ks' _ _ nr hr219)) ?_ ?_
          · obtain ⟨e, he⟩ := List.mem_iff_getElem?.mp hv
            obtain ⟨row, er, pl, ul, rfl, hpl, hul⟩ := hts219.get he
            have lrow := gok2.rl row (List.mem_of_getElem? er)
            rw [List.length_set] at lrow
            refine ⟨pl, ul, rfl, hpl, fun z => ?_, by rw [hul.1]; omega⟩
            have := hul.1
            rw [z, List.length_nil] at this
            omega
          · rintro e x σ H20 hx ⟨zl, rfl, ks', hl⟩
            have he := (List.getElem?_eq_some_iff.mp hx).1
            have hm := List.mem_of_getElem? hx
            obtain ⟨pl, ul, rfl, hpl, une, ull⟩ := hl x hm
            cases ul with
            | nil => exact absurd rfl une
            | cons u0 ur =>
              refine ⟨_, rfl, .inl ⟨rfl, _, SqL.of hpl⟩, _, rfl, pl, _, _, _, rfl, rfl, SqL.of hpl, atI_nat (j := 0) (v := u0) rfl, pl, _, _, rfl, rfl, hpl, small1000 (by omega), _, rfl, fun b o hb h => ?_, fun v hv => ?_⟩
              · rw [upd_ne (fun z => hb (by rw [z]; exact hm))]
                exact ks' b o hb h
              · by_cases ev : v = .ref pl
                · exact ⟨pl, _, ev, upd_same, by simp, by rw [List.length_append]; show _ + 1 ≤ _; omega⟩
                · obtain ⟨p', us', rfl, hp', u1, u2⟩ := hl v hv
                  exact ⟨p', us', rfl, by rw [upd_ne (fun z => ev (by rw [z]))]; exact hp', u1, by omega⟩
          · rintro σ H20 ⟨zl, rfl, ks', _⟩
            exact ⟨zl, rfl, ks'⟩
        rintro σ' H20 ⟨zl, rfl, ks'⟩
        have s1120 : Same H11 H20 := fun b o h => ks' b o (fun hm => by
          have := fr2 _ hm b rfl
          rw [h] at this
          cases this) ((s12.trans s1219) _ _ h)
        have hG3 := hN3.ks nt3 s19 (fun v hv => by
          obtain ⟨e, he⟩ := List.mem_iff_getElem?.mp hv
          obtain ⟨row, er, pl, ul, rfl, hpl, _⟩ := hts2.get he
          exact ⟨pl, ul, rfl, s1218 _ _ hpl⟩) ks'
        refine ⟨_, rfl, t1, ls, us, tab, rfl, hG1.mono s1120, by omega, r10, fun tb3 H21 ntb3 s21 hB3 => ?_⟩
        refine ⟨_, rfl, ShownAt.ne hB3 (hB.mono (s1120.trans s21)) ⟨_, rfl, iteF ?_⟩⟩
        exact ⟨hi, t3, _, _, _, _, _, _, _, _, _, _, _, _, rfl, s9.trans (s911.trans (s1120.trans s21)), ⟨hG3.mono s21, gok2, lt2, by rw [List.length_set]; exact lu, il2, iu2, ho2⟩⟩
    · rintro σ H9 ⟨_, t, ls, us, tab, z10, z11, z12, z13, z14, z15, z16, z17, z18, rfl, s9, g⟩
      exact k _
end
end G
namespace G
open PySem L2
theorem all_mk {l : PySem.W.OpenLaw} {w : World} {K : PySem.W.Frag} {h : Heap} {mg : Str → Option Value} {fa A_Fraction A_GainError A_NoNumber A_NoExchange : Addr} (X : K.In h) (G : h.Ns mainGlobals mg) (hfa : mg "law" = some (.ref fa))
    {fQ0 : Addr} {odQ0 anQ0 : Option Addr} {slQ0 : Array (Option Value)} {ocQ0 kVQ0 dcQ0 pmQ0 cdQ0 ctQ0 : Value}
    {fQ1 : Addr} {odQ1 anQ1 : Option Addr} {slQ1 : Array (Option Value)} {ocQ1 kVQ1 dcQ1 pmQ1 cdQ1 ctQ1 : Value}
    {fQ2 : Addr} {odQ2 anQ2 : Option Addr} {slQ2 : Array (Option Value)} {ocQ2 kVQ2 dcQ2 pmQ2 cdQ2 ctQ2 : Value}
    {fQ3 : Addr} {odQ3 anQ3 : Option Addr} {slQ3 : Array (Option Value)} {ocQ3 kVQ3 dcQ3 pmQ3 cdQ3 ctQ3 : Value}
    {fQ4 : Addr} {odQ4 anQ4 : Option Addr} {slQ4 : Array (Option Value)} {ocQ4 kVQ4 dcQ4 pmQ4 cdQ4 ctQ4 : Value}
    {fQ5 : Addr} {odQ5 anQ5 : Option Addr} {slQ5 : Array (Option Value)} {ocQ5 kVQ5 dcQ5 pmQ5 cdQ5 ctQ5 : Value}
    {fQ6 : Addr} {odQ6 anQ6 : Option Addr} {slQ6 : Array (Option Value)} {ocQ6 kVQ6 dcQ6 pmQ6 cdQ6 ctQ6 : Value}
    {fQ7 : Addr} {odQ7 anQ7 : Option Addr} {slQ7 : Array (Option Value)} {ocQ7 kVQ7 dcQ7 pmQ7 cdQ7 ctQ7 : Value}
    {fQ8 : Addr} {odQ8 anQ8 : Option Addr} {slQ8 : Array (Option Value)} {ocQ8 kVQ8 dcQ8 pmQ8 cdQ8 ctQ8 : Value}
    {fQ9 : Addr} {odQ9 anQ9 : Option Addr} {slQ9 : Array (Option Value)} {ocQ9 kVQ9 dcQ9 pmQ9 cdQ9 ctQ9 : Value}
    {fQ10 : Addr} {odQ10 anQ10 : Option Addr} {slQ10 : Array (Option Value)} {ocQ10 kVQ10 dcQ10 pmQ10 cdQ10 ctQ10 : Value}
    {fQ11 : Addr} {odQ11 anQ11 : Option Addr} {slQ11 : Array (Option Value)} {ocQ11 kVQ11 dcQ11 pmQ11 cdQ11 ctQ11 : Value}
    {fQ12 : Addr} {odQ12 anQ12 : Option Addr} {slQ12 : Array (Option Value)} {ocQ12 kVQ12 dcQ12 pmQ12 cdQ12 ctQ12 : Value}
    {fQ13 : Addr} {odQ13 anQ13 : Option Addr} {slQ13 : Array (Option Value)} {ocQ13 kVQ13 dcQ13 pmQ13 cdQ13 ctQ13 : Value}
    {fQ14 : Addr} {odQ14 anQ14 : Option Addr} {slQ14 : Array (Option Value)} {ocQ14 kVQ14 dcQ14 pmQ14 cdQ14 ctQ14 : Value}
    {fQ15 : Addr} {odQ15 anQ15 : Option Addr} {slQ15 : Array (Option Value)} {ocQ15 kVQ15 dcQ15 pmQ15 cdQ15 ctQ15 : Value}
    {fQ16 : Addr} {odQ16 anQ16 : Option Addr} {slQ16 : Array (Option Value)} {ocQ16 kVQ16 dcQ16 pmQ16 cdQ16 ctQ16 : Value}
    {fQ17 : Addr} {odQ17 anQ17 : Option Addr} {slQ17 : Array (Option Value)} {ocQ17 kVQ17 dcQ17 pmQ17 cdQ17 ctQ17 : Value}
    {fQ18 : Addr} {odQ18 anQ18 : Option Addr} {slQ18 : Array (Option Value)} {ocQ18 kVQ18 dcQ18 pmQ18 cdQ18 ctQ18 : Value}
    {fQ19 : Addr} {odQ19 anQ19 : Option Addr} {slQ19 : Array (Option Value)} {ocQ19 kVQ19 dcQ19 pmQ19 cdQ19 ctQ19 : Value}
    {fQ20 : Addr} {odQ20 anQ20 : Option Addr} {slQ20 : Array (Option Value)} {ocQ20 kVQ20 dcQ20 pmQ20 cdQ20 ctQ20 : Value}
    {fQ21 : Addr} {odQ21 anQ21 : Option Addr} {slQ21 : Array (Option Value)} {ocQ21 kVQ21 dcQ21 pmQ21 cdQ21 ctQ21 : Value}
    {fDlaw : Addr} {odDlaw anDlaw : Option Addr} {slDlaw : Array (Option Value)} {ocDlaw kVDlaw dcDlaw pmDlaw cdDlaw ctDlaw : Value}
    {fIFraction TIFraction : Addr} {oIFraction : Obj} {nIFraction : Nat} {tkIFraction0 : Tok} {odIFraction anIFraction : Option Addr} {slIFraction : Array (Option Value)} {ocIFraction kVIFraction dcIFraction pmIFraction cdIFraction ctIFraction : Value}
    {fQ22 : Addr} {odQ22 anQ22 : Option Addr} {slQ22 : Array (Option Value)} {ocQ22 kVQ22 dcQ22 pmQ22 cdQ22 ctQ22 : Value}
    {fQ23 : Addr} {odQ23 anQ23 : Option Addr} {slQ23 : Array (Option Value)} {ocQ23 kVQ23 dcQ23 pmQ23 cdQ23 ctQ23 : Value}
    {fQ24 : Addr} {odQ24 anQ24 : Option Addr} {slQ24 : Array (Option Value)} {ocQ24 kVQ24 dcQ24 pmQ24 cdQ24 ctQ24 : Value}
    {fQ25 : Addr} {odQ25 anQ25 : Option Addr} {slQ25 : Array (Option Value)} {ocQ25 kVQ25 dcQ25 pmQ25 cdQ25 ctQ25 : Value}
    {fQ26 : Addr} {odQ26 anQ26 : Option Addr} {slQ26 : Array (Option Value)} {ocQ26 kVQ26 dcQ26 pmQ26 cdQ26 ctQ26 : Value}
    (n_Fraction : PySem.W.nsIn K mainGlobals "Fraction" = some (some (.ref A_Fraction)))
    (n_GainError : PySem.W.nsIn K mainGlobals "GainError" = some (some (.ref A_GainError)))
    (n_NoNumber : PySem.W.nsIn K mainGlobals "NoNumber" = some (some (.ref A_NoNumber)))
    (n_NoExchange : PySem.W.nsIn K mainGlobals "NoExchange" = some (some (.ref A_NoExchange)))
    (aQ0 : PySem.W.nsIn K mainGlobals "divisor" = some (some (.ref fQ0)))
    (lQ0 : K.lookup fQ0 = some ⟨ocQ0, odQ0, .func (PySem.W.fnOf "divisor" "divisor" (defArgs s_divisor) (defBody s_divisor) (defScope s_divisor) .none kVQ0 dcQ0 pmQ0 anQ0 cdQ0 ctQ0), slQ0⟩)
    (cQ0 : PySem.W.codeIn K cdQ0 "divisor" = true)
    (kQ0 : PySem.W.keepIn K (.ref fQ0) = true)
    (aQ1 : PySem.W.nsIn K mainGlobals "in_lowest_terms" = some (some (.ref fQ1)))
    (lQ1 : K.lookup fQ1 = some ⟨ocQ1, odQ1, .func (PySem.W.fnOf "in_lowest_terms" "in_lowest_terms" (defArgs s_in_lowest_terms) (defBody s_in_lowest_terms) (defScope s_in_lowest_terms) .none kVQ1 dcQ1 pmQ1 anQ1 cdQ1 ctQ1), slQ1⟩)
    (cQ1 : PySem.W.codeIn K cdQ1 "in_lowest_terms" = true)
    (kQ1 : PySem.W.keepIn K (.ref fQ1) = true)
    (aQ2 : PySem.W.nsIn K mainGlobals "with_other_sign" = some (some (.ref fQ2)))
    (lQ2 : K.lookup fQ2 = some ⟨ocQ2, odQ2, .func (PySem.W.fnOf "with_other_sign" "with_other_sign" (defArgs s_with_other_sign) (defBody s_with_other_sign) (defScope s_with_other_sign) .none kVQ2 dcQ2 pmQ2 anQ2 cdQ2 ctQ2), slQ2⟩)
    (cQ2 : PySem.W.codeIn K cdQ2 "with_other_sign" = true)
    (kQ2 : PySem.W.keepIn K (.ref fQ2) = true)
    (aQ3 : PySem.W.nsIn K mainGlobals "row_solved" = some (some (.ref fQ3)))
    (lQ3 : K.lookup fQ3 = some ⟨ocQ3, odQ3, .func (PySem.W.fnOf "row_solved" "row_solved" (defArgs s_row_solved) (defBody s_row_solved) (defScope s_row_solved) .none kVQ3 dcQ3 pmQ3 anQ3 cdQ3 ctQ3), slQ3⟩)
    (cQ3 : PySem.W.codeIn K cdQ3 "row_solved" = true)
    (kQ3 : PySem.W.keepIn K (.ref fQ3) = true)
    (aQ4 : PySem.W.nsIn K mainGlobals "row_replaced" = some (some (.ref fQ4)))
    (lQ4 : K.lookup fQ4 = some ⟨ocQ4, odQ4, .func (PySem.W.fnOf "row_replaced" "row_replaced" (defArgs s_row_replaced) (defBody s_row_replaced) (defScope s_row_replaced) .none kVQ4 dcQ4 pmQ4 anQ4 cdQ4 ctQ4), slQ4⟩)
    (cQ4 : PySem.W.codeIn K cdQ4 "row_replaced" = true)
    (kQ4 : PySem.W.keepIn K (.ref fQ4) = true)
    (aQ5 : PySem.W.nsIn K mainGlobals "exchanged_table" = some (some (.ref fQ5)))
    (lQ5 : K.lookup fQ5 = some ⟨ocQ5, odQ5, .func (PySem.W.fnOf "exchanged_table" "exchanged_table" (defArgs s_exchanged_table) (defBody s_exchanged_table) (defScope s_exchanged_table) .none kVQ5 dcQ5 pmQ5 anQ5 cdQ5 ctQ5), slQ5⟩)
    (cQ5 : PySem.W.codeIn K cdQ5 "exchanged_table" = true)
    (kQ5 : PySem.W.keepIn K (.ref fQ5) = true)
    (aQ6 : PySem.W.nsIn K mainGlobals "exchanged" = some (some (.ref fQ6)))
    (lQ6 : K.lookup fQ6 = some ⟨ocQ6, odQ6, .func (PySem.W.fnOf "exchanged" "exchanged" (defArgs s_exchanged) (defBody s_exchanged) (defScope s_exchanged) .none kVQ6 dcQ6 pmQ6 anQ6 cdQ6 ctQ6), slQ6⟩)
    (cQ6 : PySem.W.codeIn K cdQ6 "exchanged" = true)
    (kQ6 : PySem.W.keepIn K (.ref fQ6) = true)
    (aQ7 : PySem.W.nsIn K mainGlobals "_law_cell_at" = some (some (.ref fQ7)))
    (lQ7 : K.lookup fQ7 = some ⟨ocQ7, odQ7, .func (PySem.W.fnOf "_law_cell_at" "_law_cell_at" (defArgs s_law_cell_at) (defBody s_law_cell_at) (defScope s_law_cell_at) .none kVQ7 dcQ7 pmQ7 anQ7 cdQ7 ctQ7), slQ7⟩)
    (cQ7 : PySem.W.codeIn K cdQ7 "_law_cell_at" = true)
    (kQ7 : PySem.W.keepIn K (.ref fQ7) = true)
    (aQ8 : PySem.W.nsIn K mainGlobals "_law_whole" = some (some (.ref fQ8)))
    (lQ8 : K.lookup fQ8 = some ⟨ocQ8, odQ8, .func (PySem.W.fnOf "_law_whole" "_law_whole" (defArgs s_law_whole) (defBody s_law_whole) (defScope s_law_whole) .none kVQ8 dcQ8 pmQ8 anQ8 cdQ8 ctQ8), slQ8⟩)
    (cQ8 : PySem.W.codeIn K cdQ8 "_law_whole" = true)
    (kQ8 : PySem.W.keepIn K (.ref fQ8) = true)
    (aQ9 : PySem.W.nsIn K mainGlobals "_law_pair" = some (some (.ref fQ9)))
    (lQ9 : K.lookup fQ9 = some ⟨ocQ9, odQ9, .func (PySem.W.fnOf "_law_pair" "_law_pair" (defArgs s_law_pair) (defBody s_law_pair) (defScope s_law_pair) .none kVQ9 dcQ9 pmQ9 anQ9 cdQ9 ctQ9), slQ9⟩)
    (cQ9 : PySem.W.codeIn K cdQ9 "_law_pair" = true)
    (kQ9 : PySem.W.keepIn K (.ref fQ9) = true)
    (aQ10 : PySem.W.nsIn K mainGlobals "_law_pairs" = some (some (.ref fQ10)))
    (lQ10 : K.lookup fQ10 = some ⟨ocQ10, odQ10, .func (PySem.W.fnOf "_law_pairs" "_law_pairs" (defArgs s_law_pairs) (defBody s_law_pairs) (defScope s_law_pairs) .none kVQ10 dcQ10 pmQ10 anQ10 cdQ10 ctQ10), slQ10⟩)
    (cQ10 : PySem.W.codeIn K cdQ10 "_law_pairs" = true)
    (kQ10 : PySem.W.keepIn K (.ref fQ10) = true)
    (aQ11 : PySem.W.nsIn K mainGlobals "_law_sum" = some (some (.ref fQ11)))
    (lQ11 : K.lookup fQ11 = some ⟨ocQ11, odQ11, .func (PySem.W.fnOf "_law_sum" "_law_sum" (defArgs s_law_sum) (defBody s_law_sum) (defScope s_law_sum) .none kVQ11 dcQ11 pmQ11 anQ11 cdQ11 ctQ11), slQ11⟩)
    (cQ11 : PySem.W.codeIn K cdQ11 "_law_sum" = true)
    (kQ11 : PySem.W.keepIn K (.ref fQ11) = true)
    (aQ12 : PySem.W.nsIn K mainGlobals "_law_dot" = some (some (.ref fQ12)))
    (lQ12 : K.lookup fQ12 = some ⟨ocQ12, odQ12, .func (PySem.W.fnOf "_law_dot" "_law_dot" (defArgs s_law_dot) (defBody s_law_dot) (defScope s_law_dot) .none kVQ12 dcQ12 pmQ12 anQ12 cdQ12 ctQ12), slQ12⟩)
    (cQ12 : PySem.W.codeIn K cdQ12 "_law_dot" = true)
    (kQ12 : PySem.W.keepIn K (.ref fQ12) = true)
    (aQ13 : PySem.W.nsIn K mainGlobals "_law_same" = some (some (.ref fQ13)))
    (lQ13 : K.lookup fQ13 = some ⟨ocQ13, odQ13, .func (PySem.W.fnOf "_law_same" "_law_same" (defArgs s_law_same) (defBody s_law_same) (defScope s_law_same) .none kVQ13 dcQ13 pmQ13 anQ13 cdQ13 ctQ13), slQ13⟩)
    (cQ13 : PySem.W.codeIn K cdQ13 "_law_same" = true)
    (kQ13 : PySem.W.keepIn K (.ref fQ13) = true)
    (aQ14 : PySem.W.nsIn K mainGlobals "_law_made" = some (some (.ref fQ14)))
    (lQ14 : K.lookup fQ14 = some ⟨ocQ14, odQ14, .func (PySem.W.fnOf "_law_made" "_law_made" (defArgs s_law_made) (defBody s_law_made) (defScope s_law_made) .none kVQ14 dcQ14 pmQ14 anQ14 cdQ14 ctQ14), slQ14⟩)
    (cQ14 : PySem.W.codeIn K cdQ14 "_law_made" = true)
    (kQ14 : PySem.W.keepIn K (.ref fQ14) = true)
    (aQ15 : PySem.W.nsIn K mainGlobals "_law_tops_and_bottoms" = some (some (.ref fQ15)))
    (lQ15 : K.lookup fQ15 = some ⟨ocQ15, odQ15, .func (PySem.W.fnOf "_law_tops_and_bottoms" "_law_tops_and_bottoms" (defArgs s_law_tops_and_bottoms) (defBody s_law_tops_and_bottoms) (defScope s_law_tops_and_bottoms) .none kVQ15 dcQ15 pmQ15 anQ15 cdQ15 ctQ15), slQ15⟩)
    (cQ15 : PySem.W.codeIn K cdQ15 "_law_tops_and_bottoms" = true)
    (kQ15 : PySem.W.keepIn K (.ref fQ15) = true)
    (aQ16 : PySem.W.nsIn K mainGlobals "_law_values" = some (some (.ref fQ16)))
    (lQ16 : K.lookup fQ16 = some ⟨ocQ16, odQ16, .func (PySem.W.fnOf "_law_values" "_law_values" (defArgs s_law_values) (defBody s_law_values) (defScope s_law_values) .none kVQ16 dcQ16 pmQ16 anQ16 cdQ16 ctQ16), slQ16⟩)
    (cQ16 : PySem.W.codeIn K cdQ16 "_law_values" = true)
    (kQ16 : PySem.W.keepIn K (.ref fQ16) = true)
    (aQ17 : PySem.W.nsIn K mainGlobals "_law_lines" = some (some (.ref fQ17)))
    (lQ17 : K.lookup fQ17 = some ⟨ocQ17, odQ17, .func (PySem.W.fnOf "_law_lines" "_law_lines" (defArgs s_law_lines) (defBody s_law_lines) (defScope s_law_lines) .none kVQ17 dcQ17 pmQ17 anQ17 cdQ17 ctQ17), slQ17⟩)
    (cQ17 : PySem.W.codeIn K cdQ17 "_law_lines" = true)
    (kQ17 : PySem.W.keepIn K (.ref fQ17) = true)
    (aQ18 : PySem.W.nsIn K mainGlobals "_law_holds" = some (some (.ref fQ18)))
    (lQ18 : K.lookup fQ18 = some ⟨ocQ18, odQ18, .func (PySem.W.fnOf "_law_holds" "_law_holds" (defArgs s_law_holds) (defBody s_law_holds) (defScope s_law_holds) .none kVQ18 dcQ18 pmQ18 anQ18 cdQ18 ctQ18), slQ18⟩)
    (cQ18 : PySem.W.codeIn K cdQ18 "_law_holds" = true)
    (kQ18 : PySem.W.keepIn K (.ref fQ18) = true)
    (aQ19 : PySem.W.nsIn K mainGlobals "_law_numbers" = some (some (.ref fQ19)))
    (lQ19 : K.lookup fQ19 = some ⟨ocQ19, odQ19, .func (PySem.W.fnOf "_law_numbers" "_law_numbers" (defArgs s_law_numbers) (defBody s_law_numbers) (defScope s_law_numbers) .none kVQ19 dcQ19 pmQ19 anQ19 cdQ19 ctQ19), slQ19⟩)
    (cQ19 : PySem.W.codeIn K cdQ19 "_law_numbers" = true)
    (kQ19 : PySem.W.keepIn K (.ref fQ19) = true)
    (aQ20 : PySem.W.nsIn K mainGlobals "_law_copy" = some (some (.ref fQ20)))
    (lQ20 : K.lookup fQ20 = some ⟨ocQ20, odQ20, .func (PySem.W.fnOf "_law_copy" "_law_copy" (defArgs s_law_copy) (defBody s_law_copy) (defScope s_law_copy) .none kVQ20 dcQ20 pmQ20 anQ20 cdQ20 ctQ20), slQ20⟩)
    (cQ20 : PySem.W.codeIn K cdQ20 "_law_copy" = true)
    (kQ20 : PySem.W.keepIn K (.ref fQ20) = true)
    (aQ21 : PySem.W.nsIn K mainGlobals "_law_shown" = some (some (.ref fQ21)))
    (lQ21 : K.lookup fQ21 = some ⟨ocQ21, odQ21, .func (PySem.W.fnOf "_law_shown" "_law_shown" (defArgs s_law_shown) (defBody s_law_shown) (defScope s_law_shown) .none kVQ21 dcQ21 pmQ21 anQ21 cdQ21 ctQ21), slQ21⟩)
    (cQ21 : PySem.W.codeIn K cdQ21 "_law_shown" = true)
    (kQ21 : PySem.W.keepIn K (.ref fQ21) = true)
    (aDlaw : PySem.W.nsIn K mainGlobals "law" = some (some (.ref fDlaw)))
    (lDlaw : K.lookup fDlaw = some ⟨ocDlaw, odDlaw, .func (PySem.W.fnOf "law" "law" (defArgs s_law) (defBody s_law) (defScope s_law) .none kVDlaw dcDlaw pmDlaw anDlaw cdDlaw ctDlaw), slDlaw⟩)
    (cDlaw : PySem.W.codeIn K cdDlaw "law" = true)
    (kDlaw : PySem.W.keepIn K (.ref fDlaw) = true)
    (pg_Fraction : PySem.W.plainGet K A_Fraction Str.empty = true)
    (hd_Fraction : PySem.W.hasDictIn K A_Fraction = true)
    (po_Fraction : PySem.W.plainOver K A_Fraction = true)
    (sa_Fraction : PySem.W.findIn K (.ref A_Fraction) "__setattr__" = some (some (.builtin "object.__setattr__")))
    (na_Fraction_top : PySem.W.findIn K (.ref A_Fraction) "top" = some none)
    (na_Fraction_bottom : PySem.W.findIn K (.ref A_Fraction) "bottom" = some none)
    (mk_Fraction : PySem.W.makesIn K A_Fraction = true)
    (ka_Fraction : PySem.W.keepIn K (.ref A_Fraction) = true)
    (a_Fraction_init : PySem.W.findIn K (.ref A_Fraction) "__init__" = some (some (.ref fIFraction)))
    (iIFraction : PySem.W.isFn K (.ref fIFraction) = true)
    (lIFraction : K.lookup fIFraction = some ⟨ocIFraction, odIFraction, .func (PySem.W.fnOf "__init__" "Fraction.__init__" (defArgs s_Fraction_init) (defBody s_Fraction_init) (defScope s_Fraction_init) (.ref TIFraction) kVIFraction dcIFraction pmIFraction anIFraction cdIFraction ctIFraction), slIFraction⟩)
    (cIFraction : PySem.W.codeIn K cdIFraction "Fraction.__init__" = true)
    (tIFraction : K.lookup TIFraction = some oIFraction)
    (dIFraction : oIFraction.data = .seq #[.int 1 tkIFraction0] nIFraction)
    (a_Fraction_plus : PySem.W.findIn K (.ref A_Fraction) "plus" = some (some (.ref fQ22)))
    (lQ22 : K.lookup fQ22 = some ⟨ocQ22, odQ22, .func (PySem.W.fnOf "plus" "Fraction.plus" (defArgs s_Fraction_plus) (defBody s_Fraction_plus) (defScope s_Fraction_plus) .none kVQ22 dcQ22 pmQ22 anQ22 cdQ22 ctQ22), slQ22⟩)
    (cQ22 : PySem.W.codeIn K cdQ22 "Fraction.plus" = true)
    (kQ22 : PySem.W.keepIn K (.ref fQ22) = true)
    (iQ22 : PySem.W.isFn K (.ref fQ22) = true)
    (a_Fraction_minus : PySem.W.findIn K (.ref A_Fraction) "minus" = some (some (.ref fQ23)))
    (lQ23 : K.lookup fQ23 = some ⟨ocQ23, odQ23, .func (PySem.W.fnOf "minus" "Fraction.minus" (defArgs s_Fraction_minus) (defBody s_Fraction_minus) (defScope s_Fraction_minus) .none kVQ23 dcQ23 pmQ23 anQ23 cdQ23 ctQ23), slQ23⟩)
    (cQ23 : PySem.W.codeIn K cdQ23 "Fraction.minus" = true)
    (kQ23 : PySem.W.keepIn K (.ref fQ23) = true)
    (iQ23 : PySem.W.isFn K (.ref fQ23) = true)
    (a_Fraction_times : PySem.W.findIn K (.ref A_Fraction) "times" = some (some (.ref fQ24)))
    (lQ24 : K.lookup fQ24 = some ⟨ocQ24, odQ24, .func (PySem.W.fnOf "times" "Fraction.times" (defArgs s_Fraction_times) (defBody s_Fraction_times) (defScope s_Fraction_times) .none kVQ24 dcQ24 pmQ24 anQ24 cdQ24 ctQ24), slQ24⟩)
    (cQ24 : PySem.W.codeIn K cdQ24 "Fraction.times" = true)
    (kQ24 : PySem.W.keepIn K (.ref fQ24) = true)
    (iQ24 : PySem.W.isFn K (.ref fQ24) = true)
    (a_Fraction_over : PySem.W.findIn K (.ref A_Fraction) "over" = some (some (.ref fQ25)))
    (lQ25 : K.lookup fQ25 = some ⟨ocQ25, odQ25, .func (PySem.W.fnOf "over" "Fraction.over" (defArgs s_Fraction_over) (defBody s_Fraction_over) (defScope s_Fraction_over) .none kVQ25 dcQ25 pmQ25 anQ25 cdQ25 ctQ25), slQ25⟩)
    (cQ25 : PySem.W.codeIn K cdQ25 "Fraction.over" = true)
    (kQ25 : PySem.W.keepIn K (.ref fQ25) = true)
    (iQ25 : PySem.W.isFn K (.ref fQ25) = true)
    (a_Fraction_sign : PySem.W.findIn K (.ref A_Fraction) "sign" = some (some (.ref fQ26)))
    (lQ26 : K.lookup fQ26 = some ⟨ocQ26, odQ26, .func (PySem.W.fnOf "sign" "Fraction.sign" (defArgs s_Fraction_sign) (defBody s_Fraction_sign) (defScope s_Fraction_sign) .none kVQ26 dcQ26 pmQ26 anQ26 cdQ26 ctQ26), slQ26⟩)
    (cQ26 : PySem.W.codeIn K cdQ26 "Fraction.sign" = true)
    (kQ26 : PySem.W.keepIn K (.ref fQ26) = true)
    (iQ26 : PySem.W.isFn K (.ref fQ26) = true)
    (c1_Fraction : PySem.W.findIn K (.ref A_Fraction) "__class__" = some (some (.builtin "object.__class__")))
    (c4_Fraction : PySem.W.mroIn K A_Fraction (.type "object") = some true)
    (c2 : PySem.W.specialIn K (.builtin "object.__class__") "__get__" = some (some (.builtin "getset_descriptor.__get__")))
    (c3 : PySem.W.takesIn K (.builtin "object.__class__") = some true)
    (k_Fraction_Fraction : PySem.W.kitOne K (.ref A_Fraction) (.ref A_Fraction) = some true)
    (k_int_bool : PySem.W.kitOne K (.type "int") (.type "bool") = some false)
    (k_int_int : PySem.W.kitOne K (.type "int") (.type "int") = some true)
    (k_list_list : PySem.W.kitOne K (.type "list") (.type "list") = some true)
    (k_tuple_tuple : PySem.W.kitOne K (.type "tuple") (.type "tuple") = some true)
    (z_abs : PySem.W.nsIn K mainGlobals "abs" = some none)
    (z_bool : PySem.W.nsIn K mainGlobals "bool" = some none)
    (z_enumerate : PySem.W.nsIn K mainGlobals "enumerate" = some none)
    (z_int : PySem.W.nsIn K mainGlobals "int" = some none)
    (z_isinstance : PySem.W.nsIn K mainGlobals "isinstance" = some none)
    (z_len : PySem.W.nsIn K mainGlobals "len" = some none)
    (z_list : PySem.W.nsIn K mainGlobals "list" = some none)
    (z_range : PySem.W.nsIn K mainGlobals "range" = some none)
    (z_tuple : PySem.W.nsIn K mainGlobals "tuple" = some none)
    (z_zip : PySem.W.nsIn K mainGlobals "zip" = some none) :
    ∃ fd : FuncData, (∀ (s : Shared) (v : Value), BindsTo s fd ⟨[v], []⟩ [("_law_script", v)]) ∧ ∀ base : Heap, K.In base → base.Ns mainGlobals mg → FnOk l.prog w K mg base CX0 14 fa fd ["_law_script"] (spLaw K) := by
  have e := hfa.symm.trans (PySem.W.mg_of X G aDlaw)
  cases e
  have N_Q0 := fun_mk (st := s_divisor) lQ0 cQ0 kQ0
  have N_Q1 := fun_mk (st := s_in_lowest_terms) lQ1 cQ1 kQ1
  have N_Q2 := fun_mk (st := s_with_other_sign) lQ2 cQ2 kQ2
  have N_Q3 := fun_mk (st := s_row_solved) lQ3 cQ3 kQ3
  have N_Q4 := fun_mk (st := s_row_replaced) lQ4 cQ4 kQ4
  have N_Q5 := fun_mk (st := s_exchanged_table) lQ5 cQ5 kQ5
  have N_Q6 := fun_mk (st := s_exchanged) lQ6 cQ6 kQ6
  have N_Q7 := fun_mk (st := s_law_cell_at) lQ7 cQ7 kQ7
  have N_Q8 := fun_mk (st := s_law_whole) lQ8 cQ8 kQ8
  have N_Q9 := fun_mk (st := s_law_pair) lQ9 cQ9 kQ9
  have N_Q10 := fun_mk (st := s_law_pairs) lQ10 cQ10 kQ10
  have N_Q11 := fun_mk (st := s_law_sum) lQ11 cQ11 kQ11
  have N_Q12 := fun_mk (st := s_law_dot) lQ12 cQ12 kQ12
  have N_Q13 := fun_mk (st := s_law_same) lQ13 cQ13 kQ13
  have N_Q14 := fun_mk (st := s_law_made) lQ14 cQ14 kQ14
  have N_Q15 := fun_mk (st := s_law_tops_and_bottoms) lQ15 cQ15 kQ15
  have N_Q16 := fun_mk (st := s_law_values) lQ16 cQ16 kQ16
  have N_Q17 := fun_mk (st := s_law_lines) lQ17 cQ17 kQ17
  have N_Q18 := fun_mk (st := s_law_holds) lQ18 cQ18 kQ18
  have N_Q19 := fun_mk (st := s_law_numbers) lQ19 cQ19 kQ19
  have N_Q20 := fun_mk (st := s_law_copy) lQ20 cQ20 kQ20
  have N_Q21 := fun_mk (st := s_law_shown) lQ21 cQ21 kQ21
  have N_Dlaw := fun_mk (st := s_law) lDlaw cDlaw kDlaw
  have N_IFraction := funD_mk (st := s_Fraction_init) lIFraction cIFraction tIFraction dIFraction
  have N_Q22 := fun_mk (st := s_Fraction_plus) lQ22 cQ22 kQ22
  have N_Q23 := fun_mk (st := s_Fraction_minus) lQ23 cQ23 kQ23
  have N_Q24 := fun_mk (st := s_Fraction_times) lQ24 cQ24 kQ24
  have N_Q25 := fun_mk (st := s_Fraction_over) lQ25 cQ25 kQ25
  have N_Q26 := fun_mk (st := s_Fraction_sign) lQ26 cQ26 kQ26
  have T : TX K mg ⟨A_Fraction, A_GainError, A_NoNumber, A_NoExchange⟩ := {
    d_divisor := ⟨_, _, N_Q0, PySem.W.mg_of X G aQ0, N_Q0.binds (ps := ["one", "other"]) fun _ _ _ _ _ _ us hl => match us, hl with | [_, _], _ => rfl⟩
    d_in_lowest_terms := ⟨_, _, N_Q1, PySem.W.mg_of X G aQ1, N_Q1.binds (ps := ["top", "bottom"]) fun _ _ _ _ _ _ us hl => match us, hl with | [_, _], _ => rfl⟩
    d_with_other_sign := ⟨_, _, N_Q2, PySem.W.mg_of X G aQ2, N_Q2.binds (ps := ["number"]) fun _ _ _ _ _ _ us hl => match us, hl with | [_], _ => rfl⟩
    d_row_solved := ⟨_, _, N_Q3, PySem.W.mg_of X G aQ3, N_Q3.binds (ps := ["row", "column"]) fun _ _ _ _ _ _ us hl => match us, hl with | [_, _], _ => rfl⟩
    d_row_replaced := ⟨_, _, N_Q4, PySem.W.mg_of X G aQ4, N_Q4.binds (ps := ["row", "column", "solved"]) fun _ _ _ _ _ _ us hl => match us, hl with | [_, _, _], _ => rfl⟩
    d_exchanged_table := ⟨_, _, N_Q5, PySem.W.mg_of X G aQ5, N_Q5.binds (ps := ["table", "i", "column"]) fun _ _ _ _ _ _ us hl => match us, hl with | [_, _, _], _ => rfl⟩
    d_exchanged := ⟨_, _, N_Q6, PySem.W.mg_of X G aQ6, N_Q6.binds (ps := ["grid", "i", "j"]) fun _ _ _ _ _ _ us hl => match us, hl with | [_, _, _], _ => rfl⟩
    d_law_cell_at := ⟨_, _, N_Q7, PySem.W.mg_of X G aQ7, N_Q7.binds (ps := ["_law_script", "_law_k"]) fun _ _ _ _ _ _ us hl => match us, hl with | [_, _], _ => rfl⟩
    d_law_whole := ⟨_, _, N_Q8, PySem.W.mg_of X G aQ8, N_Q8.binds (ps := ["_law_found"]) fun _ _ _ _ _ _ us hl => match us, hl with | [_], _ => rfl⟩
    d_law_pair := ⟨_, _, N_Q9, PySem.W.mg_of X G aQ9, N_Q9.binds (ps := ["_law_found"]) fun _ _ _ _ _ _ us hl => match us, hl with | [_], _ => rfl⟩
    d_law_pairs := ⟨_, _, N_Q10, PySem.W.mg_of X G aQ10, N_Q10.binds (ps := ["_law_found", "_law_count"]) fun _ _ _ _ _ _ us hl => match us, hl with | [_, _], _ => rfl⟩
    d_law_sum := ⟨_, _, N_Q11, PySem.W.mg_of X G aQ11, N_Q11.binds (ps := ["_law_pairs_here"]) fun _ _ _ _ _ _ us hl => match us, hl with | [_], _ => rfl⟩
    d_law_dot := ⟨_, _, N_Q12, PySem.W.mg_of X G aQ12, N_Q12.binds (ps := ["_law_ones", "_law_others"]) fun _ _ _ _ _ _ us hl => match us, hl with | [_, _], _ => rfl⟩
    d_law_same := ⟨_, _, N_Q13, PySem.W.mg_of X G aQ13, N_Q13.binds (ps := ["_law_one", "_law_other"]) fun _ _ _ _ _ _ us hl => match us, hl with | [_, _], _ => rfl⟩
    d_law_made := ⟨_, _, N_Q14, PySem.W.mg_of X G aQ14, N_Q14.binds (ps := ["_law_pairs_here"]) fun _ _ _ _ _ _ us hl => match us, hl with | [_], _ => rfl⟩
    d_law_tops_and_bottoms := ⟨_, _, N_Q15, PySem.W.mg_of X G aQ15, N_Q15.binds (ps := ["_law_cells", "_law_count"]) fun _ _ _ _ _ _ us hl => match us, hl with | [_, _], _ => rfl⟩
    d_law_values := ⟨_, _, N_Q16, PySem.W.mg_of X G aQ16, N_Q16.binds (ps := ["_law_rows", "_law_bounds", "_law_first"]) fun _ _ _ _ _ _ us hl => match us, hl with | [_, _, _], _ => rfl⟩
    d_law_lines := ⟨_, _, N_Q17, PySem.W.mg_of X G aQ17, N_Q17.binds (ps := ["_law_some", "_law_values_here"]) fun _ _ _ _ _ _ us hl => match us, hl with | [_, _], _ => rfl⟩
    d_law_holds := ⟨_, _, N_Q18, PySem.W.mg_of X G aQ18, N_Q18.binds (ps := ["_law_some", "_law_rows", "_law_bounds"]) fun _ _ _ _ _ _ us hl => match us, hl with | [_, _, _], _ => rfl⟩
    d_law_numbers := ⟨_, _, N_Q19, PySem.W.mg_of X G aQ19, N_Q19.binds (ps := ["_law_found", "_law_due"]) fun _ _ _ _ _ _ us hl => match us, hl with | [_, _], _ => rfl⟩
    d_law_copy := ⟨_, _, N_Q20, PySem.W.mg_of X G aQ20, N_Q20.binds (ps := ["_law_some"]) fun _ _ _ _ _ _ us hl => match us, hl with | [_], _ => rfl⟩
    d_law_shown := ⟨_, _, N_Q21, PySem.W.mg_of X G aQ21, N_Q21.binds (ps := ["_law_some"]) fun _ _ _ _ _ _ us hl => match us, hl with | [_], _ => rfl⟩
    d_law := ⟨_, _, N_Dlaw, PySem.W.mg_of X G aDlaw, N_Dlaw.binds (ps := ["_law_script"]) fun _ _ _ _ _ _ us hl => match us, hl with | [_], _ => rfl⟩
    cl_Fraction := ⟨pg_Fraction, hd_Fraction, po_Fraction, sa_Fraction⟩
    mg_Fraction := PySem.W.mg_of X G n_Fraction
    na_Fraction_top := na_Fraction_top
    na_Fraction_bottom := na_Fraction_bottom
    i_Fraction := ⟨fIFraction, _, N_IFraction.gen, ⟨mk_Fraction, a_Fraction_init, iIFraction, ka_Fraction⟩, fun dvs hd => by
      simp only [List.mem_cons, List.not_mem_nil, or_false] at hd
      rcases hd with rfl | rfl
      · exact ⟨[], .nil, N_IFraction.binds (es := []) fun T kV doc pm an cdv ct us hl => match us, hl with | [_, _, _], _ => ⟨_, rfl, rfl⟩ | [], hl => by simp at hl | [_], hl => by simp at hl | [_, _], hl => by simp at hl | _ :: _ :: _ :: _ :: _, hl => by simp at hl⟩
      · exact ⟨[.int 1 tkIFraction0], (.cons ⟨_, rfl⟩ (.nil)), N_IFraction.binds (es := [.int 1 tkIFraction0]) fun T kV doc pm an cdv ct us hl => match us, hl with | [_, _], _ => ⟨_, rfl, rfl⟩ | [], hl => by simp at hl | [_], hl => by simp at hl | _ :: _ :: _ :: _, hl => by simp at hl⟩⟩
    m_Fraction_plus := ⟨fQ22, _, N_Q22, ⟨a_Fraction_plus, iQ22, kQ22⟩, N_Q22.binds (ps := ["self", "other"]) fun _ _ _ _ _ _ us hl => match us, hl with | [_, _], _ => rfl⟩
    m_Fraction_minus := ⟨fQ23, _, N_Q23, ⟨a_Fraction_minus, iQ23, kQ23⟩, N_Q23.binds (ps := ["self", "other"]) fun _ _ _ _ _ _ us hl => match us, hl with | [_, _], _ => rfl⟩
    m_Fraction_times := ⟨fQ24, _, N_Q24, ⟨a_Fraction_times, iQ24, kQ24⟩, N_Q24.binds (ps := ["self", "other"]) fun _ _ _ _ _ _ us hl => match us, hl with | [_, _], _ => rfl⟩
    m_Fraction_over := ⟨fQ25, _, N_Q25, ⟨a_Fraction_over, iQ25, kQ25⟩, N_Q25.binds (ps := ["self", "other"]) fun _ _ _ _ _ _ us hl => match us, hl with | [_, _], _ => rfl⟩
    m_Fraction_sign := ⟨fQ26, _, N_Q26, ⟨a_Fraction_sign, iQ26, kQ26⟩, N_Q26.binds (ps := ["self"]) fun _ _ _ _ _ _ us hl => match us, hl with | [_], _ => rfl⟩
    c1_Fraction := c1_Fraction
    c4_Fraction := c4_Fraction
    c2 := c2
    c3 := c3
    k_Fraction_Fraction := k_Fraction_Fraction
    k_int_bool := k_int_bool
    k_int_int := k_int_int
    k_list_list := k_list_list
    k_tuple_tuple := k_tuple_tuple
    z_abs := PySem.W.mg_none_of X G z_abs
    z_bool := PySem.W.mg_none_of X G z_bool
    z_enumerate := PySem.W.mg_none_of X G z_enumerate
    z_int := PySem.W.mg_none_of X G z_int
    z_isinstance := PySem.W.mg_none_of X G z_isinstance
    z_len := PySem.W.mg_none_of X G z_len
    z_list := PySem.W.mg_none_of X G z_list
    z_range := PySem.W.mg_none_of X G z_range
    z_tuple := PySem.W.mg_none_of X G z_tuple
    z_zip := PySem.W.mg_none_of X G z_zip
  }
  exact ⟨PySem.W.fnOf "law" "law" (defArgs s_law) (defBody s_law) (defScope s_law) .none kVDlaw dcDlaw pmDlaw anDlaw cdDlaw ctDlaw, fun s v => .of_eq rfl, fun base _ _ => ok_law N_Dlaw T⟩
theorem walkL {l : PySem.W.OpenLaw} {q : Program} {loose : List Str} {XP : (Str → Option Value) → Heap → Prop} {YP : World → Heap → Prop} {d : DefRec} {K : Params → PySem.W.Frag} (hn : l.most = some 63) (hdf : d.params.defaults = [])
    (hY : ∀ (w : World) (h : Heap), YP w h → (K w.params).In h)
    (F : ∀ (w : World) (mg : Str → Option Value) (fa : Addr) (h : Heap), (K w.params).In h → h.Ns mainGlobals mg → mg d.name = some (.ref fa) →
      ∃ fd : FuncData, (∀ (s : Shared) (u : Value), BindsTo s fd ⟨[u], []⟩ [("_law_script", u)]) ∧ ∀ base : Heap, (K w.params).In base → base.Ns mainGlobals mg → FnOk l.prog w (K w.params) mg base CX0 14 fa fd ["_law_script"] (spLaw (K w.params))) :
    PySem.W.WalkO q loose XP YP l.row.toRowW d [] (fun f vs => PySem.call f vs) :=
  L2.walk_ofB (n := 63) (k := 14) (x := "_law_script") (CX := fun _ => CX0) (sp := fun w => spLaw (K w.params)) hn (by decide) hdf ⟨rfl, by decide, by decide⟩ hY F (fun _ _ a ns hl hb _ hS => ⟨a, ns, rfl, hS, hl, fun i hi => ⟨hb i hi⟩, fun _ => rfl⟩) fun _ _ _ _ _ z => z
end G
def PySem.W.Fast.tw4768862854494016660 : Unit := ()
def PySem.W.Fast.tw9094421520594901418 : Unit := ()
def PySem.W.Fast.tw12843654911016994079 : Unit := ()
def PySem.W.Fast.tw14014256202537364449 : Unit := ()
def PySem.W.Fast.tw9137044843316423090 : Unit := ()
def PySem.W.Fast.tw12334900608900449615 : Unit := ()
def PySem.W.Fast.tw9294639172549507794 : Unit := ()
def PySem.W.Fast.tw9175581742949489566 : Unit := ()
def PySem.W.Fast.tw10205929322198535382 : Unit := ()
def PySem.W.Fast.tw3035198027625002800 : Unit := ()
def PySem.W.Fast.tw8700297367437882595 : Unit := ()
def PySem.W.Fast.tw1809097047537036848 : Unit := ()
open PySem PySem.W PyProof.Rows
set_option maxRecDepth 100000 in
set_option maxHeartbeats 0 in
theorem PySem.Challenge.cw_gainstream_k41_exchanged_holds_holds : PySem.Challenge.rw_gainstream_k41_exchanged_holds.Holds := by
  w_on; o_law; k_head; (case hw => w_witness2)
  k_fill
  refine G.walkL (l := PySem.Challenge.rw_gainstream_k41_exchanged_holds) rfl rfl (fun w h Y => PySem.W.kIn_of Y) ?F
  case F =>
    intro w mg fa h KX GN hmg
    refine' G.all_mk KX GN hmg ?o0 ?o1 ?o2 ?o3 ?o4 ?o5 ?o6 ?o7 ?o8 ?o9 ?o10 ?o11 ?o12 ?o13 ?o14 ?o15 ?o16 ?o17 ?o18 ?o19 ?o20 ?o21 ?o22 ?o23 ?o24 ?o25 ?o26 ?o27 ?o28 ?o29 ?o30 ?o31 ?o32 ?o33 ?o34 ?o35 ?o36 ?o37 ?o38 ?o39 ?o40 ?o41 ?o42 ?o43 ?o44 ?o45 ?o46 ?o47 ?o48 ?o49 ?o50 ?o51 ?o52 ?o53 ?o54 ?o55 ?o56 ?o57 ?o58 ?o59 ?o60 ?o61 ?o62 ?o63 ?o64 ?o65 ?o66 ?o67 ?o68 ?o69 ?o70 ?o71 ?o72 ?o73 ?o74 ?o75 ?o76 ?o77 ?o78 ?o79 ?o80 ?o81 ?o82 ?o83 ?o84 ?o85 ?o86 ?o87 ?o88 ?o89 ?o90 ?o91 ?o92 ?o93 ?o94 ?o95 ?o96 ?o97 ?o98 ?o99 ?o100 ?o101 ?o102 ?o103 ?o104 ?o105 ?o106 ?o107 ?o108 ?o109 ?o110 ?o111 ?o112 ?o113 ?o114 ?o115 ?o116 ?o117 ?o118 ?o119 ?o120 ?o121 ?o122 ?o123 ?o124 ?o125 ?o126 ?o127 ?o128 ?o129 ?o130 ?o131 ?o132 ?o133 ?o134 ?o135 ?o136 ?o137 ?o138 ?o139 ?o140 ?o141 ?o142 ?o143 ?o144 ?o145 ?o146 ?o147 ?o148 ?o149 ?o150 ?o151 ?o152 ?o153
    (case o0 => k_is)
    (case o1 => k_is)
    (case o2 => k_is)
    (case o3 => k_is)
    (case o4 => k_is)
    (case o5 => k_is)
    (case o6 => k_is)
    (case o7 => k_is)
    (case o8 => k_is)
    (case o9 => k_is)
    (case o10 => k_is)
    (case o11 => k_is)
    (case o12 => k_is)
    (case o13 => k_is)
    (case o14 => k_is)
    (case o15 => k_is)
    (case o16 => k_is)
    (case o17 => k_is)
    (case o18 => k_is)
    (case o19 => k_is)
    (case o20 => k_is)
    (case o21 => k_is)
    (case o22 => k_is)
    (case o23 => k_is)
    (case o24 => k_is)
    (case o25 => k_is)
    (case o26 => k_is)
    (case o27 => k_is)
    (case o28 => k_is)
    (case o29 => k_is)
    (case o30 => k_is)
    (case o31 => k_is)
    (case o32 => k_is)
    (case o33 => k_is)
    (case o34 => k_is)
    (case o35 => k_is)
    (case o36 => k_is)
    (case o37 => k_is)
    (case o38 => k_is)
    (case o39 => k_is)
    (case o40 => k_is)
    (case o41 => k_is)
    (case o42 => k_is)
    (case o43 => k_is)
    (case o44 => k_is)
    (case o45 => k_is)
    (case o46 => k_is)
    (case o47 => k_is)
    (case o48 => k_is)
    (case o49 => k_is)
    (case o50 => k_is)
    (case o51 => k_is)
    (case o52 => k_is)
    (case o53 => k_is)
    (case o54 => k_is)
    (case o55 => k_is)
    (case o56 => k_is)
    (case o57 => k_is)
    (case o58 => k_is)
    (case o59 => k_is)
    (case o60 => k_is)
    (case o61 => k_is)
    (case o62 => k_is)
    (case o63 => k_is)
    (case o64 => k_is)
    (case o65 => k_is)
    (case o66 => k_is)
    (case o67 => k_is)
    (case o68 => k_is)
    (case o69 => k_is)
    (case o70 => k_is)
    (case o71 => k_is)
    (case o72 => k_is)
    (case o73 => k_is)
    (case o74 => k_is)
    (case o75 => k_is)
    (case o76 => k_is)
    (case o77 => k_is)
    (case o78 => k_is)
    (case o79 => k_is)
    (case o80 => k_is)
    (case o81 => k_is)
    (case o82 => k_is)
    (case o83 => k_is)
    (case o84 => k_is)
    (case o85 => k_is)
    (case o86 => k_is)
    (case o87 => k_is)
    (case o88 => k_is)
    (case o89 => k_is)
    (case o90 => k_is)
    (case o91 => k_is)
    (case o92 => k_is)
    (case o93 => k_is)
    (case o94 => k_is)
    (case o95 => k_is)
    (case o96 => k_is)
    (case o97 => k_is)
    (case o98 => k_is)
    (case o99 => k_is)
    (case o100 => k_is)
    (case o101 => k_is)
    (case o102 => k_is)
    (case o103 => k_is)
    (case o104 => k_is)
    (case o105 => k_is)
    (case o106 => k_is)
    (case o107 => k_is)
    (case o108 => k_is)
    (case o109 => rfl)
    (case o110 => k_is)
    (case o111 => k_is)
    (case o112 => k_is)
    (case o113 => k_is)
    (case o114 => k_is)
    (case o115 => k_is)
    (case o116 => k_is)
    (case o117 => k_is)
    (case o118 => k_is)
    (case o119 => k_is)
    (case o120 => k_is)
    (case o121 => k_is)
    (case o122 => k_is)
    (case o123 => k_is)
    (case o124 => k_is)
    (case o125 => k_is)
    (case o126 => k_is)
    (case o127 => k_is)
    (case o128 => k_is)
    (case o129 => k_is)
    (case o130 => k_is)
    (case o131 => k_is)
    (case o132 => k_is)
    (case o133 => k_is)
    (case o134 => k_is)
    (case o135 => k_is)
    (case o136 => k_is)
    (case o137 => k_is)
    (case o138 => k_is)
    (case o139 => kit_is)
    (case o140 => kit_is)
    (case o141 => kit_is)
    (case o142 => kit_is)
    (case o143 => kit_is)
    (case o144 => k_is)
    (case o145 => k_is)
    (case o146 => k_is)
    (case o147 => k_is)
    (case o148 => k_is)
    (case o149 => k_is)
    (case o150 => k_is)
    (case o151 => k_is)
    (case o152 => k_is)
    (case o153 => k_is)
#print axioms PySem.Challenge.cw_gainstream_k41_exchanged_holds_holds
