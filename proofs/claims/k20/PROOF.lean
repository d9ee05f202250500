import PyProof.Rows.All
import Wide.All
import OpenK.AllK
import Wide.FinOn
import Lean
import PyProof.EqAt
import PyProof.EqKinds
import PyProof.TupleCall
import PyProof.NeKinds
import KE.KSortTup
import PySem.Challenge.RW_overfold_k20_layers_written
set_option Elab.async false
set_option linter.all false
set_option maxRecDepth 100000
/-! THE HAND LAYER, for ints, bools, texts, own classes, LISTS and tuples (index, slices, in, append, pop ..), calls, loops. Paste it whole ahead of your own text; what your proof does not reach may be deleted. -/
namespace L2
open PySem PySem.Spec PyProof.Rows

/-- a key: an int or a str -/
abbrev Key := Sum Int Str
def keyIs : Key → Value → Bool
  | .inl k, v => Value.isInt k v
  | .inr x, v => Value.isStrOf x v
def keyH (w : World) : Key → Int
  | .inl k => hashInt k
  | .inr x => hashStr w x
theorem keyIs_shape : ∀ {k : Key} {v : Value}, keyIs k v = true → (∃ i t, k = Sum.inl i ∧ v = Value.int i t) ∨ (∃ x t, k = Sum.inr x ∧ v = Value.str x t)
  | .inl i, v, h => by
    obtain ⟨t, e⟩ := Value.isInt_shape (k := i) (v := v) h
    exact .inl ⟨i, t, rfl, e⟩
  | .inr x, v, h => by
    obtain ⟨t, e⟩ := Value.isStrOf_shape (x := x) (v := v) h
    exact .inr ⟨x, t, rfl, e⟩
theorem keyIs_int (i : Int) (t : Tok) : keyIs (.inl i) (.int i t) = true := by simp [keyIs, Value.isInt]
theorem keyIs_str (x : Str) (t : Tok) : keyIs (.inr x) (.str x t) = true := by simp [keyIs, Value.isStrOf]
theorem key_ll (a b : Int) : decide ((Sum.inl a : Key) = Sum.inl b) = (a == b) := by
  by_cases e : a = b
  · subst e; simp
  · have h : ¬ (Sum.inl a : Key) = Sum.inl b := fun q => e (Sum.inl.inj q)
    rw [decide_eq_false h]
    exact (beq_eq_false_iff_ne.mpr e).symm
theorem key_rr (a b : Str) : decide ((Sum.inr a : Key) = Sum.inr b) = decide (a = b) := by
  by_cases e : a = b
  · subst e; simp
  · have h : ¬ (Sum.inr a : Key) = Sum.inr b := fun q => e (Sum.inr.inj q)
    rw [decide_eq_false h, decide_eq_false e]
theorem key_lr (a : Int) (b : Str) : decide ((Sum.inl a : Key) = Sum.inr b) = false := decide_eq_false (fun q => nomatch q)
theorem key_rl (a : Str) (b : Int) : decide ((Sum.inr a : Key) = Sum.inl b) = false := decide_eq_false (fun q => nomatch q)

def mixKind (prog : Program) (w : World) : PySem.KeyKind prog w Key where
  is := keyIs
  hash := keyH w
  inj := fun v a b ha hb => by
    rcases keyIs_shape ha with ⟨i, t, rfl, rfl⟩ | ⟨x, t, rfl, rfl⟩
    · rcases keyIs_shape hb with ⟨j, u, rfl, e⟩ | ⟨y, u, rfl, e⟩
      · injection e with e1 _; rw [e1]
      · exact nomatch e
    · rcases keyIs_shape hb with ⟨j, u, rfl, e⟩ | ⟨y, u, rfl, e⟩
      · exact nomatch e
      · injection e with e1 _; rw [e1]
  byValue := fun k v h => by
    rcases keyIs_shape h with ⟨i, t, rfl, rfl⟩ | ⟨x, t, rfl, rfl⟩ <;> rfl
  pyHash := fun hv h => by
    rcases keyIs_shape hv with ⟨i, t, rfl, rfl⟩ | ⟨x, t, rfl, rfl⟩
    · exact wpAny_pyHash_int h
    · exact wpAny_pyHash_str h
  eqBool := fun hu hv h => by
    rcases keyIs_shape hu with ⟨i, t, rfl, rfl⟩ | ⟨x, t, rfl, rfl⟩
    · rcases keyIs_shape hv with ⟨j, u, rfl, rfl⟩ | ⟨y, u, rfl, rfl⟩
      · rw [key_ll] at h; exact wpAny_eqBool_int h
      · rw [key_lr] at h; exact SeqAt.EqAt.int_str i t y u _ _ _ _ h
    · rcases keyIs_shape hv with ⟨j, u, rfl, rfl⟩ | ⟨y, u, rfl, rfl⟩
      · rw [key_rl] at h; exact SeqAt.EqAt.str_int x t j u _ _ _ _ h
      · rw [key_rr] at h; exact wpAny_eqBool_str h
  «strs» := fun k x t v h => by
    rcases keyIs_shape h with ⟨i, u, rfl, e⟩ | ⟨y, u, rfl, e⟩
    · exact nomatch e
    · injection e with e1 _
      subst e1
      cases v <;> rfl

theorem mixKind_is (prog : Program) (w : World) (k : Key) (v : Value) : (mixKind prog w).is k v = keyIs k v := rfl
theorem mixKind_int (prog : Program) (w : World) (i : Int) (t : Tok) : (mixKind prog w).is (.inl i) (.int i t) = true := keyIs_int i t
theorem mixKind_str (prog : Program) (w : World) (x : Str) (t : Tok) : (mixKind prog w).is (.inr x) (.str x t) = true := keyIs_str x t
end L2

namespace L2
open PySem PySem.Spec PyProof.Rows

/-- a value, without the heap -/
inductive V where
  | non | bl (b : Bool) | int (i : Int) | str (x : Str) | byt (b : Array UInt8) | flt (b : UInt64) | ref (a : Addr) | ty (n : String)
  deriving DecidableEq

def RelV : V → Value → Prop
  | .non, u => u = Value.none
  | .bl b, u => u = Value.bool b
  | .int i, u => ∃ t, u = Value.int i t
  | .str x, u => ∃ t, u = Value.str x t
  | .byt b, u => ∃ t, u = Value.bytes b t
  | .flt b, u => ∃ t, u = Value.float b t
  | .ref a, u => u = Value.ref a
  | .ty n, u => u = Value.type n

abbrev Vals : List V → List Value → Prop := Paired RelV
theorem Vals.length {xs : List V} {us : List Value} (r : Vals xs us) : xs.length = us.length := Paired.length r
theorem Vals.get : ∀ {xs : List V} {us : List Value} {i : Nat} {x : V}, Vals xs us → xs[i]? = some x → ∃ u, us[i]? = some u ∧ RelV x u
  | _, _, _, _, .nil, e => by simp at e
  | _, _, 0, _, .cons r _, e => by simp at e; subst e; exact ⟨_, rfl, r⟩
  | _, _, i + 1, x, .cons _ t, e => by
    obtain ⟨u, h1, h2⟩ := Vals.get (i := i) (x := x) t (by simpa using e)
    exact ⟨u, by simpa using h1, h2⟩
theorem Vals.set {x : V} {u : Value} (r : RelV x u) : ∀ {xs : List V} {us : List Value} (i : Nat), Vals xs us → Vals (xs.set i x) (us.set i u)
  | _, _, _, .nil => .nil
  | _, _, 0, .cons _ t => .cons r t
  | _, _, i + 1, .cons q t => .cons q (Vals.set r i t)
theorem Vals.append : ∀ {xs ys : List V} {us ws : List Value}, Vals xs us → Vals ys ws → Vals (xs ++ ys) (us ++ ws)
  | _, _, _, _, .nil, s => s
  | _, _, _, _, .cons r t, s => .cons r (Vals.append t s)
theorem Vals.take : ∀ {xs : List V} {us : List Value} (n : Nat), Vals xs us → Vals (xs.take n) (us.take n)
  | _, _, 0, _ => .nil
  | _, _, _ + 1, .nil => .nil
  | _, _, n + 1, .cons r t => .cons r (Vals.take n t)
theorem Vals.drop : ∀ {xs : List V} {us : List Value} (n : Nat), Vals xs us → Vals (xs.drop n) (us.drop n)
  | _, _, 0, r => r
  | _, _, _ + 1, .nil => .nil
  | _, _, n + 1, .cons _ t => Vals.drop n t
theorem Vals.none_of : ∀ {xs : List V} {us : List Value} {i : Nat}, Vals xs us → xs[i]? = none → us[i]? = none := fun {xs us i} r e => by
  have h1 := r.length
  have h2 : xs.length ≤ i := List.getElem?_eq_none_iff.mp e
  exact List.getElem?_eq_none_iff.mpr (by omega)

def RelO : Option V → Option Value → Prop
  | some v, some u => RelV v u
  | none, none => True
  | _, _ => False
def KV {κ : Type} : List (κ × V) → List (κ × Value) → Prop := Paired fun (p : κ × V) (q : κ × Value) => p.1 = q.1 ∧ RelV p.2 q.2

/-- a key of a dict (00_mix): an int or a text -/
def kV : Key → V
  | .inl i => .int i
  | .inr x => .str x

/-- what stands at a tracked address -/
inductive HO where
  /-- a list -/
  | lst (xs : List V)
  /-- a tuple (never changes) -/
  | tup (xs : List V)
  /-- a dict whose keys are ints and texts; one whose keys are tuples of ints and texts (the empty one is both) -/
  | dK (kvs : List (Key × V)) | dT (kvs : List (List Key × V))
  /-- a set of ints: its members, its size -/
  | set (S : Int → Bool) (n : Nat)
  /-- an instance of the class at C, its dict at dx, its attributes -/
  | ins (C dx : Addr) (fs : List (Str × V))
  /-- the dict of the instance at x -/
  | own (x : Addr)
  /-- the dict of an exception -/
  | xd (fs : List (Str × V))
  /-- a bound method, f of x -/
  | met (f x : Addr)
  /-- a range object lo, lo + 1, .. below hi -/
  | rng (lo hi : Int)
  /-- a thing that is known to the object (the script; a dict while a loop walks it): read, never written while it is so -/
  | frz (o : Obj) (u : HO)
  /-- a code object's table -/
  | tbl (ps : Array Value)
  /-- any other thing, by what is true of its one object (a def of one's own: SetO a S n := HO.ext fun h => ..) -/
  | ext (φ : Heap → Prop)

abbrev Hp := Addr → Option HO
def upd (H : Hp) (a : Addr) (o : HO) : Hp := fun b => if b = a then some o else H b
theorem upd_same {H : Hp} {a : Addr} {o : HO} : upd H a o a = some o := by unfold upd; rw [if_pos rfl]
theorem upd_ne {H : Hp} {a b : Addr} {o : HO} (h : b ≠ a) : upd H a o b = H b := by unfold upd; rw [if_neg h]
theorem upd_upd {H : Hp} {a : Addr} {o u : HO} : upd (upd H a o) a u = upd H a u := by
  funext b; unfold upd; split <;> rfl
/-- two objects of different content stand apart -/
theorem ne_of {H : Hp} {a b : Addr} {o u : HO} (h : H a = some o) (h' : H b = some u) (d : o ≠ u) : a ≠ b := by
  intro e; subst e; rw [h] at h'; exact d (Option.some.inj h')
theorem ne_of_none {H : Hp} {a b : Addr} {o : HO} (h : H a = some o) (h' : H b = none) : a ≠ b := by
  intro e; subst e; rw [h] at h'; cases h'

section
variable (P : Program) (w : World)
def ObjOk (H : Hp) (h : Heap) (a : Addr) : HO → Prop
  | .lst xs => xs.length ≤ sizeLine ∧ ∃ (its : List Value) (n : Nat), Vals xs its ∧ h.get? a = some { cls := .type "list", data := .seq its.toArray n }
  | .tup xs => xs.length ≤ sizeLine ∧ ∃ its : List Value, Vals xs its ∧ IsTup h a its.toArray
  | .dK kvs => kvs.length ≤ sizeLine ∧ (a == sysModules) = false ∧ ∃ vs, KV kvs vs ∧ h.DictOf (mixKind P w) a vs
  | .dT kvs => kvs.length ≤ sizeLine ∧ (a == sysModules) = false ∧ ∃ xs : List (List Key × Addr × Value),
      Paired (fun (p : List Key × V) (q : List Key × Addr × Value) => p.1 = q.1 ∧ H q.2.1 = some (.tup (p.1.map kV)) ∧ RelV p.2 q.2.2) kvs xs ∧
      ∃ o es ep, h.get? a = some o ∧ o.ExactDict ∧ o.data = .dict es ep ∧ es.toList = xs.map (entryOfKey (tupleKind (mixKind P w))) ∧ (xs.map (·.1)).Nodup
  | .set S n => h.SetOf (intKind P w) a S n
  | .ins C dx fs => H dx = some (.own a) ∧ fs.length ≤ 1000 ∧ dx ≠ a ∧ h.get? a = some (PySem.W.instObj C dx) ∧
      ∃ mA, h.Ns1 dx mA ∧ (∀ f, RelO (fs.lookup f) (mA f)) ∧ PySem.Within mA (fs.map (·.1))
  | .own _ => ∃ o, h.get? a = some o
  | .xd fs => ∃ mA, h.Ns1 a mA ∧ ∀ f, RelO (fs.lookup f) (mA f)
  | .rng lo hi => ∃ t u v, h.get? a = some { cls := .type "range", data := .fields #[.int lo t, .int hi u, .int 1 v] }
  | .frz o u => h.get? a = some o ∧ ObjOk H h a u
  | .tbl ps => h.get? a = some { cls := .none, data := .fields ps }
  | .met f x => h.get? a = some (PySem.W.methodObj (.ref f) (.ref x))
  | .ext φ => φ h ∧ (∃ o, h.get? a = some o) ∧ ∀ h1 h2 : Heap, φ h1 → (∀ o, h1.get? a = some o → h2.get? a = some o) → φ h2
/-- the abstract heap is held -/
def HOk (H : Hp) (h : Heap) : Prop := ∀ a o, H a = some o → ObjOk P w H h a o
end

section
variable {P : Program} {w : World} {H H' : Hp} {h h' : Heap} {a : Addr} {o : HO}
theorem ObjOk.lt (x : ObjOk P w H h a o) : a < h.objs.size := by
  cases o with
  | lst xs => obtain ⟨_, _, _, _, e⟩ := x; exact Heap.lt_size e
  | tup xs => obtain ⟨_, _, _, p⟩ := x; exact p.lt
  | dK kvs => obtain ⟨_, _, _, _, o, _, _, e, _⟩ := x; exact Heap.lt_size e
  | dT kvs => obtain ⟨_, _, _, _, o, _, _, e, _⟩ := x; exact Heap.lt_size e
  | set S n => obtain ⟨o, _, _, _, e, _⟩ := x; exact Heap.lt_size e
  | ins C dx fs => obtain ⟨_, _, _, e, _⟩ := x; exact Heap.lt_size e
  | own y => obtain ⟨_, e⟩ := x; exact Heap.lt_size e
  | xd fs => obtain ⟨_, ⟨_, _, _, e, _⟩, _⟩ := x; exact Heap.lt_size e
  | rng lo hi => obtain ⟨_, _, _, e⟩ := x; exact Heap.lt_size e
  | frz ob u => obtain ⟨e, _⟩ := x; exact Heap.lt_size e
  | tbl ps => exact Heap.lt_size (show h.get? a = some _ from x)
  | met f y => exact Heap.lt_size (show h.get? a = some _ from x)
  | ext φ => obtain ⟨_, ⟨_, e⟩, _⟩ := x; exact Heap.lt_size e
theorem Paired.mapP {α β : Type} {F G : α → β → Prop} : ∀ {l₁ : List α} {l₂ : List β}, Paired F l₁ l₂ → (∀ a b, F a b → G a b) → Paired G l₁ l₂
  | _, _, .nil, _ => .nil
  | _, _, .cons r t, f => .cons (f _ _ r) (Paired.mapP t f)
theorem Paired.imp' {α β : Type} {F G : α → β → Prop} (f : ∀ a b, F a b → G a b) {l₁ : List α} {l₂ : List β} (r : Paired F l₁ l₂) : Paired G l₁ l₂ := Paired.mapP r f
/-- what an object's description leans on: its own object, its own dict, the tuples -/
theorem ObjOk.stay (x : ObjOk P w H h a o) (k : ∀ b u, (b = a ∨ H b = some (.own a)) → h.get? b = some u → h'.get? b = some u)
    (ho : ∀ b, H b = some (.own a) → H' b = some (.own a)) (ht : ∀ b xs, H b = some (.tup xs) → H' b = some (.tup xs)) : ObjOk P w H' h' a o := by
  induction o with
  | lst xs => obtain ⟨z, its, n, r, e⟩ := x; exact ⟨z, its, n, r, k _ _ (.inl rfl) e⟩
  | tup xs => obtain ⟨z, its, r, ob, e, c⟩ := x; exact ⟨z, its, r, ob, k _ _ (.inl rfl) e, c⟩
  | dK kvs => obtain ⟨z, y, vs, r, ob, es, ep, e, c⟩ := x; exact ⟨z, y, vs, r, ob, es, ep, k _ _ (.inl rfl) e, c⟩
  | dT kvs =>
    obtain ⟨z, y, xs, r, ob, es, ep, e, c⟩ := x
    exact ⟨z, y, xs, Paired.mapP r fun p q z => ⟨z.1, ht _ _ z.2.1, z.2.2⟩, ob, es, ep, k _ _ (.inl rfl) e, c⟩
  | set S n => obtain ⟨ob, es, ep, t, e, c⟩ := x; exact ⟨ob, es, ep, t, k _ _ (.inl rfl) e, c⟩
  | ins C dx fs =>
    obtain ⟨d, z, ne, e, mA, ⟨od, es, ep, e2, c⟩, r⟩ := x
    exact ⟨ho _ d, z, ne, k _ _ (.inl rfl) e, mA, ⟨od, es, ep, k _ _ (.inr d) e2, c⟩, r⟩
  | own y => obtain ⟨ob, e⟩ := x; exact ⟨ob, k _ _ (.inl rfl) e⟩
  | xd fs => obtain ⟨mA, ⟨od, es, ep, e, c⟩, r⟩ := x; exact ⟨mA, ⟨od, es, ep, k _ _ (.inl rfl) e, c⟩, r⟩
  | rng lo hi => obtain ⟨t, u, v, e⟩ := x; exact ⟨t, u, v, k _ _ (.inl rfl) e⟩
  | frz ob u ih => obtain ⟨e, q⟩ := x; exact ⟨k _ _ (.inl rfl) e, ih q⟩
  | tbl ps =>
    have e : h.get? a = some { cls := .none, data := .fields ps } := x
    show h'.get? a = some { cls := .none, data := .fields ps }
    exact k a _ (.inl rfl) e
  | met f y =>
    have e : h.get? a = some (PySem.W.methodObj (.ref f) (.ref y)) := x
    show h'.get? a = some (PySem.W.methodObj (.ref f) (.ref y))
    exact k a _ (.inl rfl) e
  | ext φ => obtain ⟨p, ⟨o, e⟩, st⟩ := x; exact ⟨st _ _ p fun o q => k _ _ (.inl rfl) q, ⟨o, k _ _ (.inl rfl) e⟩, st⟩
theorem HOk.lt (x : HOk P w H h) (e : H a = some o) : a < h.objs.size := (x a o e).lt
theorem HOk.fresh (x : HOk P w H h) (e : h.objs.size ≤ a) : H a = none := by
  cases q : H a with
  | none => rfl
  | some u => exact absurd (Nat.lt_of_lt_of_le (x.lt q) e) (Nat.lt_irrefl _)
/-- every object of the heap is kept -/
theorem HOk.kept (x : HOk P w H h) (k : ∀ b u, h.get? b = some u → h'.get? b = some u) : HOk P w H h' := fun a o e =>
  (x a o e).stay (fun b u _ q => k b u q) (fun _ q => q) fun _ _ q => q
/-- a new object is laid and tracked -/
theorem HOk.laid (x : HOk P w H h) (k : ∀ b u, h.get? b = some u → h'.get? b = some u) (hp : h.objs.size ≤ a) (new : ObjOk P w (upd H a o) h' a o) : HOk P w (upd H a o) h' := fun b u e => by
  have hn := x.fresh hp
  by_cases hb : b = a
  · subst hb; rw [upd_same] at e; cases e; exact new
  · rw [upd_ne hb] at e
    exact (x b u e).stay (fun c v _ q => k c v q) (fun c q => by rw [upd_ne (ne_of_none q hn)]; exact q) fun c xs q => by rw [upd_ne (ne_of_none q hn)]; exact q
end

/-- what may be read as u: it is u, or a known u -/
def Rd (H : Hp) (a : Addr) (u : HO) : Prop := H a = some u ∨ ∃ o, H a = some (.frz o u)
theorem Rd.of {H : Hp} {a : Addr} {u : HO} (h : H a = some u) : Rd H a u := .inl h
theorem Rd.ok {P : Program} {w : World} {H : Hp} {h : Heap} {a : Addr} {u : HO} (r : Rd H a u) (x : HOk P w H h) : ObjOk P w H h a u := by
  rcases r with r | ⟨o, r⟩
  · exact x a u r
  · obtain ⟨_, q⟩ := x a _ r
    exact q
/-- what may be written -/
def Mut : Option HO → Prop
  | some (.lst _) => True
  | some (.dK _) => True
  | some (.dT _) => True
  | some (.set _ _) => True
  | some (.ins _ _ _) => True
  | some (.ext _) => True
  | _ => False
section
variable {P : Program} {w : World} {H : Hp} {h h' : Heap} {x e : Addr} {o' : HO}
/-- the object at e is changed: x itself, or the dict of the instance x -/
theorem HOk.write (ok : HOk P w H h) (mu : Mut (H x)) (he : e = x ∨ H e = some (.own x)) (k : ∀ b u, b ≠ e → h.get? b = some u → h'.get? b = some u) (heo : ∃ u, h'.get? e = some u)
    (new : ObjOk P w (upd H x o') h' x o') : HOk P w (upd H x o') h' := fun b u q => by
  have nown : ∀ c y, H c = some (.own y) → c ≠ x := fun c y r z => by subst z; rw [r] at mu; exact mu
  have ntup : ∀ c xs, H c = some (.tup xs) → c ≠ x := fun c xs r z => by subst z; rw [r] at mu; exact mu
  by_cases hb : b = x
  · subst hb; rw [upd_same] at q; cases q; exact new
  · rw [upd_ne hb] at q
    by_cases hbe : b = e
    · have q' : H b = some (.own x) := by
        rcases he with z | z
        · exact absurd (hbe.trans z) hb
        · rw [hbe]; exact z
      rw [q] at q'; cases q'
      obtain ⟨v, hv⟩ := heo
      exact ⟨v, by rw [hbe]; exact hv⟩
    · refine (ok b u q).stay (fun c v hc r => k c v ?_ r) (fun c r => by rw [upd_ne (nown c b r)]; exact r) fun c xs r => by rw [upd_ne (ntup c xs r)]; exact r
      rcases hc with rfl | hc
      · exact hbe
      · rintro rfl
        rcases he with z | z
        · exact nown c b hc z
        · rw [hc] at z; cases z; exact hb rfl
end

/-! ### kept unless tracked; of the frames at fs (the callers') the slots may change (an exception that passes writes there); of the records at ex (iterators) nothing is said -/
structure Un (fs ex : List Addr) (H H' : Hp) (h h' : Heap) : Prop where
  keep : ∀ b o, h.get? b = some o → H b = none → b ∉ fs → b ∉ ex → h'.get? b = some o
  slot : ∀ b o, h.get? b = some o → H b = none → b ∈ fs → b ∉ ex → ∃ sl, h'.get? b = some { o with slots := sl }
  free : ∀ b o, h.get? b = some o → H b = none → b ∉ ex → H' b = none
  there : ∀ b o, h.get? b = some o → b ∉ ex → ∃ o', h'.get? b = some o'
  tups : ∀ b xs, H b = some (.tup xs) → H' b = some (.tup xs)
  frzs : ∀ b o u, H b = some (.frz o u) → H' b = some (.frz o u)
  tbls : ∀ b ps, H b = some (.tbl ps) → ∃ more, H' b = some (.tbl (ps ++ more))
section
variable {fs fs' ex ex' : List Addr} {H H1 H2 : Hp} {h h1 h2 h' : Heap} {a x e : Addr} {o : HO}
theorem Un.any (u : Un fs ex H H1 h h1) {b : Addr} {ob : Obj} (q : h.get? b = some ob) (n : H b = none) (hx : b ∉ ex) : ∃ sl, h1.get? b = some { ob with slots := sl } := by
  by_cases hb : b ∈ fs
  · exact u.slot b ob q n hb hx
  · exact ⟨ob.slots, u.keep b ob q n hb hx⟩
theorem Un.trans (a : Un fs ex H H1 h h1) (b : Un fs ex H1 H2 h1 h2) : Un fs ex H H2 h h2 where
  keep := fun c ob q n hc hx => b.keep c ob (a.keep c ob q n hc hx) (a.free c ob q n hx) hc hx
  slot := fun c ob q n hc hx => by
    obtain ⟨sl, e1⟩ := a.slot c ob q n hc hx
    obtain ⟨sl', e2⟩ := b.slot c _ e1 (a.free c ob q n hx) hc hx
    exact ⟨sl', e2⟩
  free := fun c ob q n hx => by
    obtain ⟨o', e1⟩ := a.there c ob q hx
    exact b.free c o' e1 (a.free c ob q n hx) hx
  there := fun c ob q hx => by
    obtain ⟨o', e1⟩ := a.there c ob q hx
    exact b.there c o' e1 hx
  tups := fun c xs q => b.tups c xs (a.tups c xs q)
  frzs := fun c ob xs q => b.frzs c ob xs (a.frzs c ob xs q)
  tbls := fun c ps q => by
    obtain ⟨m1, e1⟩ := a.tbls c ps q
    obtain ⟨m2, e2⟩ := b.tbls c _ e1
    exact ⟨m1 ++ m2, by rw [e2, Array.append_assoc]⟩
theorem Un.kept (k : ∀ b u, h.get? b = some u → h'.get? b = some u) : Un fs ex H H h h' :=
  ⟨fun b ob q _ _ _ => k b ob q, fun b ob q _ _ _ => ⟨ob.slots, k b ob q⟩, fun _ _ _ n _ => n, fun b ob q _ => ⟨ob, k b ob q⟩, fun _ _ q => q, fun _ _ _ q => q, fun _ ps q => ⟨#[], by rw [q]; simp⟩⟩
theorem Un.refl : Un fs ex H H h h := Un.kept fun _ _ q => q
theorem Un.laid (k : ∀ b u, h.get? b = some u → h'.get? b = some u) (hp : h.objs.size ≤ a) (hn : H a = none) : Un fs ex H (upd H a o) h h' where
  keep := fun b u q _ _ _ => k b u q
  slot := fun b u q _ _ _ => ⟨u.slots, k b u q⟩
  free := fun b u q n _ => by rw [upd_ne (Nat.ne_of_lt (Nat.lt_of_lt_of_le (Heap.lt_size q) hp))]; exact n
  there := fun b u q _ => ⟨u, k b u q⟩
  tups := fun b xs q => by rw [upd_ne (ne_of_none q hn)]; exact q
  frzs := fun b u xs q => by rw [upd_ne (ne_of_none q hn)]; exact q
  tbls := fun b ps q => ⟨#[], by rw [upd_ne (ne_of_none q hn), q]; simp⟩
theorem Un.write (mu : Mut (H x)) (he : e = x ∨ H e = some (.own x)) (k : ∀ b u, b ≠ e → h.get? b = some u → h'.get? b = some u) (heo : ∃ u, h'.get? e = some u) : Un fs ex H (upd H x o) h h' := by
  have hx : ∀ b, H b = none → b ≠ x := fun b n z => by subst z; rw [n] at mu; exact mu
  have hb : ∀ b, H b = none → b ≠ e := fun b n z => by
    subst z
    rcases he with r | r
    · exact hx b n r
    · rw [n] at r; cases r
  have hm : ∀ b u, H b = some u → ¬ Mut (some u) → b ≠ x := fun b u q nm z => by subst z; rw [q] at mu; exact nm mu
  refine ⟨fun b u q n _ _ => k b u (hb b n) q, fun b u q n _ _ => ⟨u.slots, k b u (hb b n) q⟩, fun b u q n _ => by rw [upd_ne (hx b n)]; exact n, fun b u q _ => ?_,
    fun b xs q => by rw [upd_ne (hm b _ q fun z => z)]; exact q, fun b u xs q => by rw [upd_ne (hm b _ q fun z => z)]; exact q, fun b ps q => ⟨#[], by rw [upd_ne (hm b _ q fun z => z), q]; simp⟩⟩
  by_cases hbe : b = e
  · subst hbe; exact heo
  · exact ⟨u, k b u hbe q⟩
theorem Un.mono (u : Un fs ex H H1 h h1) (hs : ∀ b ∈ fs, b ∈ fs') (hx : ∀ b ∈ ex, b ∈ ex') : Un fs' ex' H H1 h h1 :=
  ⟨fun b ob q n hb he => u.keep b ob q n (fun z => hb (hs b z)) fun z => he (hx b z), fun _ _ q n _ he => u.any q n fun z => he (hx _ z), fun b ob q n he => u.free b ob q n fun z => he (hx b z), fun b ob q he => u.there b ob q fun z => he (hx b z), u.tups, u.frzs, u.tbls⟩
end

/-! ### the heap without what is tracked -/
def trk (h : Heap) (H : Hp) : List Addr := (List.range h.objs.size).filter fun a => (H a).isSome
def hidT (h : Heap) (H : Hp) : Heap := PySem.W.hideAll h (trk h H)
theorem hidT_size (h : Heap) (H : Hp) : (hidT h H).objs.size = h.objs.size := PySem.W.hideAll_size _ _
theorem hidT_get {h : Heap} {H : Hp} {b : Addr} {o : Obj} (e : h.get? b = some o) (n : H b = none) : (hidT h H).get? b = some o :=
  PySem.W.hideAll_get _ e fun hm => by
    have q : (H b).isSome = true := (List.mem_filter.mp hm).2
    rw [n] at q; simp at q
theorem of_hidT {h : Heap} {H : Hp} {b : Addr} {o : Obj} (e : (hidT h H).get? b = some o) : h.get? b = some o ∧ H b = none := by
  have e' : h.get? b = some o := PySem.W.of_hideAll (trk h H) e
  refine ⟨e', ?_⟩
  cases q : H b with
  | none => rfl
  | some x =>
    have hm : b ∈ trk h H := List.mem_filter.mpr ⟨List.mem_range.mpr (Heap.lt_size e'), by simp [q]⟩
    have z : (hidT h H).get? b = none := PySem.W.hideAll_none (trk h H) hm
    rw [z] at e; cases e

/-! ### OpenK's ledger, filled with every new object but one -/
def allNews (g h : Heap) (L : Addr) : List (Addr × Obj) := (List.range h.objs.size).filterMap fun a => if a = L ∨ (g.get? a).isSome = true then none else (h.get? a).map fun o => (a, o)
theorem mem_allNews {g h : Heap} {L a : Addr} {o : Obj} (h1 : a ≠ L) (h2 : g.get? a = none) (h3 : h.get? a = some o) : (a, o) ∈ allNews g h L :=
  List.mem_filterMap.mpr ⟨a, List.mem_range.mpr (Heap.lt_size h3), by simp [h1, h2, h3]⟩
theorem of_mem_allNews {g h : Heap} {L : Addr} {p : Addr × Obj} (hp : p ∈ allNews g h L) : p.1 ≠ L ∧ g.get? p.1 = none ∧ h.get? p.1 = some p.2 := by
  obtain ⟨b, _, e⟩ := List.mem_filterMap.mp hp
  split at e
  · cases e
  · rename_i hn
    cases q : h.get? b with
    | none => rw [q] at e; simp at e
    | some u =>
      rw [q] at e
      simp only [Option.map_some, Option.some.injEq] at e
      subst e
      refine ⟨fun z => hn (.inl z), ?_, q⟩
      show g.get? b = none
      cases r : g.get? b with
      | none => rfl
      | some v => exact (hn (.inr (by simp [r]))).elim
def rest (g h : Heap) (L d : Addr) : List (Addr × Obj) := (allNews g h L).filter fun p => decide (p.1 ≠ d)
theorem rest_ne {g h : Heap} {L d : Addr} : ∀ p ∈ rest g h L d, p.1 ≠ d := fun p hp => of_decide_eq_true (List.mem_filter.mp hp).2
theorem mem_rest {g h : Heap} {L d a : Addr} {o : Obj} (h1 : a ≠ L) (h2 : g.get? a = none) (h3 : h.get? a = some o) (h4 : a ≠ d) : (a, o) ∈ rest g h L d :=
  List.mem_filter.mpr ⟨mem_allNews h1 h2 h3, decide_eq_true h4⟩
theorem news_all {g h : Heap} {L : Addr} : News g L h (allNews g h L) := fun p hp => let ⟨a, b, c⟩ := of_mem_allNews hp; ⟨c, a, b⟩
theorem news_at {g h : Heap} {L d : Addr} {o : Obj} (h1 : d ≠ L) (h2 : g.get? d = none) (h3 : h.get? d = some o) : News g L h ((d, o) :: rest g h L d) := fun p hp => by
  rcases List.mem_cons.mp hp with rfl | hp
  · exact ⟨h3, h1, h2⟩
  · exact news_all p (List.mem_filter.mp hp).1
/-- behind a rule that changed d alone: all else but the frame is kept -/
theorem kept_of_news {g h h' : Heap} {L d : Addr} {m : Str → Option Value} (k : ∀ b o, g.get? b = some o → h.get? b = some o) (F : Fr g L h' m) (N : News g L h' (rest g h L d)) :
    ∀ b o, b ≠ L → b ≠ d → h.get? b = some o → h'.get? b = some o := fun b o h1 h2 e => by
  cases q : g.get? b with
  | some u =>
    have := k b u q
    rw [e] at this; cases this
    exact F.keep b _ q
  | none => exact (N (b, o) (mem_rest h1 q e h2)).1
end L2

namespace L2
open PySem PySem.Spec PyProof.Rows

/-- the module's facts, over the base: the heap at the law's entry without what is tracked there -/
structure Mod (K : PySem.W.Frag) (mg : Str → Option Value) (base : Heap) : Prop where
  kin : K.In base
  glob : base.Ns mainGlobals mg
  blt : ∃ mb, base.Ns builtinsNs mb ∧ ∀ x : Str, x ≠ "__name__" → mb x = bootBuiltins x
  nolimit : base.NoLimit

/-- the context: a def's body (or a comprehension's block) running. base: fixed through the whole law; s₀, H₀: the entry; outer: the frames whose slots others may change (a def's callers); stack: all frames that run;
   ex: iterators that were made ahead of the entry and are walked here (a comprehension's); fn: the names whose cells were made at the entry (a def: all; a comprehension's block: its own); calm: not within an except suite; pn: pins that every state bears; xe: what is wanted of an exception that leaves the code -/
structure Cx where
  prog : Program
  w : World
  K : PySem.W.Frag
  mg : Str → Option Value
  base : Heap
  A : Around
  N : List Str
  s₀ : Shared
  H₀ : Hp
  env : Env
  outer : List Env
  stack : List Env
  ex : List Addr
  fn : Str → Bool
  calm : Bool
  pn : List (Addr × Obj)
  xe : Value → Shared → Prop
/-- the callers' frames -/
def frs (l : List Env) : List Addr := l.filterMap (·.frame)
abbrev Cx.fs (X : Cx) : List Addr := frs X.outer

def Vis (sc : Scope) (x : Str) : Prop := sc.names.lookup x = some .local ∨ sc.names.lookup x = some .cell ∨ sc.names.lookup x = some .free
def Loc (sc : Scope) (x : Str) : Prop := sc.names.lookup x = some .local ∨ sc.names.lookup x = some .cell
def Look (env : Env) (h : Heap) (m : Str → Option Value) (x : Str) (u : Value) : Prop :=
  (env.kindOf x = some .local ∧ m x = some u) ∨ ((env.kindOf x = some .cell ∨ env.kindOf x = some .free) ∧ ∃ c, env.cells.lookup x = some c ∧ h.IsCell c (some u))

structure Cx.Ok (X : Cx) : Prop where
  mod : Mod X.K X.mg X.base
  kind : X.env.scope.kind = .function
  glob : X.env.globals = mainGlobals
  blt : X.env.builtins = builtinsNs
  above : X.s₀.heap.objs.size ≤ X.env.locals
  inj : ∀ x y c, X.env.cells.lookup x = some c → X.env.cells.lookup y = some c → x = y
  has : ∀ x, (X.env.kindOf x = some .cell ∨ X.env.kindOf x = some .free) → ∃ c, X.env.cells.lookup x = some c
  cab : ∀ x c, X.fn x = true → X.env.cells.lookup x = some c → X.s₀.heap.objs.size ≤ c
  hd : X.calm = true → X.A.handled = none
  frames : X.A.frames = some X.stack
  stk : X.stack = X.outer ∨ (X.stack = X.env :: X.outer ∧ X.env.frame = some X.env.locals)
  exf : ∀ b ∈ X.ex, b ≠ X.env.locals ∧ ∀ x c, X.env.cells.lookup x = some c → c ≠ b
  bs : ∀ b o, X.base.get? b = some o → X.s₀.heap.get? b = some o ∧ X.H₀ b = none
  bsz : X.base.objs.size ≤ X.s₀.heap.objs.size
  noex : ∀ b o, X.base.get? b = some o → b ∉ X.ex
  exfs : ∀ b ∈ X.ex, b ∉ X.fs
  funs : X.s₀.heap.FunFrames X.base X.outer
  frf : ∀ b ∈ X.fs, X.H₀ b = none

structure Inv (X : Cx) (pins : List (Addr × Obj)) (σ : List (Option V)) (H : Hp) (s : Shared) : Prop where
  ok : X.Ok
  os : s.os = X.s₀.os
  bare : AllBare s.gens
  base : Un X.fs X.ex X.H₀ H X.s₀.heap s.heap
  loc : ∃ m, s.heap.Ns X.env.locals m ∧ ∀ (i : Nat) (x : Str) (v : V), X.N[i]? = some x → σ[i]? = some (some v) → Vis X.env.scope x → ∃ u, RelV v u ∧ Look X.env s.heap m x u
  cell : ∀ x c, X.env.cells.lookup x = some c → ∃ v, s.heap.IsCell c v
  free : H X.env.locals = none
  freeC : ∀ x c, X.env.cells.lookup x = some c → H c = none
  pin : ∀ p ∈ X.pn ++ pins, s.heap.get? p.1 = some p.2 ∧ H p.1 = none ∧ p.1 ≠ X.env.locals ∧ p.1 ∉ X.fs ∧ ∀ v, p.2.data ≠ .cell v
  hok : HOk X.prog X.w H s.heap
  len : σ.length = X.N.length

section
variable {X : Cx} {pins : List (Addr × Obj)} {σ : List (Option V)} {H H' : Hp} {s : Shared} {h' : Heap}

theorem Cx.Ok.nofr (ok : X.Ok) {b : Addr} {o : Obj} (e : X.base.get? b = some o) : b ∉ X.fs := fun hb => by
  have := (ok.funs.mem hb).1
  rw [e] at this; cases this
theorem Inv.bs (I : Inv X pins σ H s) : ∀ b o, X.base.get? b = some o → s.heap.get? b = some o ∧ H b = none := fun b o e =>
  ⟨I.base.keep b o (I.ok.bs b o e).1 (I.ok.bs b o e).2 (I.ok.nofr e) (I.ok.noex b o e), I.base.free b o (I.ok.bs b o e).1 (I.ok.bs b o e).2 (I.ok.noex b o e)⟩
theorem Inv.bk (I : Inv X pins σ H s) : ∀ b o, X.base.get? b = some o → s.heap.get? b = some o := fun b o e => (I.bs b o e).1
theorem Inv.mod (I : Inv X pins σ H s) : Mod X.K X.mg X.base := I.ok.mod
theorem Inv.kIn (I : Inv X pins σ H s) : X.K.In s.heap := I.ok.mod.kin.keeps I.bk
theorem Inv.nolimit (I : Inv X pins σ H s) : s.heap.NoLimit := I.ok.mod.nolimit.keeps I.bk
/-- the frame over the base: for OpenK's rules (K.In X.base is I.mod.kin) -/
theorem Inv.fr (I : Inv X pins σ H s) : ∃ m, Fr X.base X.env.locals s.heap m :=
  let ⟨m, hn, _⟩ := I.loc
  ⟨m, hn, I.bk, Nat.le_trans I.ok.bsz I.ok.above⟩
theorem Inv.lt (I : Inv X pins σ H s) : X.env.locals < s.heap.objs.size := let ⟨_, hn, _⟩ := I.loc; hn.lt
theorem Inv.sz (I : Inv X pins σ H s) : X.s₀.heap.objs.size ≤ s.heap.objs.size := Nat.le_trans I.ok.above (Nat.le_of_lt I.lt)
theorem Inv.nofs (I : Inv X pins σ H s) {a : Addr} (h : s.heap.objs.size ≤ a) : a ∉ X.fs := fun hb => by
  obtain ⟨_, o, ho, _⟩ := I.ok.funs.mem hb
  exact absurd (Nat.lt_of_lt_of_le (Heap.lt_size ho) (Nat.le_trans I.sz h)) (Nat.lt_irrefl _)
theorem Inv.cne (I : Inv X pins σ H s) : ∀ x c, X.env.cells.lookup x = some c → c ≠ X.env.locals := fun x c e z => by
  obtain ⟨v, o, ho, hd⟩ := I.cell x c e
  obtain ⟨m, ⟨o', es, ep, ho', hd', _⟩, _⟩ := I.loc
  rw [z, ho'] at ho; cases ho; rw [hd'] at hd; cases hd
theorem Inv.funs (I : Inv X pins σ H s) : s.heap.FunFrames X.base X.outer := by
  have all : ∀ (l : List Env), (∀ b ∈ frs l, b ∈ X.fs) → X.s₀.heap.FunFrames X.base l → s.heap.FunFrames X.base l := by
    intro l
    induction l with
    | nil => intro _ _; trivial
    | cons env r ih =>
      intro hs hl
      obtain ⟨hk, ⟨L, o, hf, hn, ho, hd⟩, hr⟩ := hl
      have hL : L ∈ X.fs := hs L (by unfold frs; rw [List.filterMap_cons, hf]; exact List.mem_cons_self)
      obtain ⟨sl, e⟩ := I.base.slot L o ho (I.ok.frf L hL) hL fun z => I.ok.exfs L z hL
      exact ⟨hk, ⟨L, _, hf, hn, e, hd⟩, ih (fun b hb => hs b (by unfold frs; rw [List.filterMap_cons, hf]; exact List.mem_cons_of_mem _ hb)) hr⟩
  exact all X.outer (fun _ hb => hb) I.ok.funs

/-- the frames that run, for a call -/
theorem Inv.stack (I : Inv X pins σ H s) : s.heap.FunFrames X.base X.stack := by
  rcases I.ok.stk with e | ⟨e, hf⟩
  · rw [e]; exact I.funs
  · rw [e]
    obtain ⟨m, hn, _⟩ := I.loc
    refine .cons (by rw [I.ok.kind]; decide) hf hn ?_ I.funs
    exact Heap.get?_none_of_le (Nat.le_trans I.ok.bsz I.ok.above)
theorem Inv.stkSub (I : Inv X pins σ H s) : ∀ b ∈ frs X.stack, b ∈ X.env.locals :: X.fs := fun b hb => by
  rcases I.ok.stk with e | ⟨e, hf⟩
  · rw [e] at hb; exact List.mem_cons_of_mem _ hb
  · rw [e] at hb
    unfold frs at hb
    rw [List.filterMap_cons, hf] at hb
    exact hb
theorem Inv.stkFree (I : Inv X pins σ H s) : ∀ b ∈ frs X.stack, H b = none := fun b hb => by
  rcases List.mem_cons.mp (I.stkSub b hb) with e | hb
  · rw [e]; exact I.free
  · obtain ⟨_, o, ho, _⟩ := I.ok.funs.mem hb
    exact I.base.free b o ho (I.ok.frf b hb) fun z => I.ok.exfs b z hb

/-- THE STEP: the untracked objects but the frame and the records at ch are kept (the callers' frames up to slots), the frame's map is kept, the new abstract heap is held -/
theorem Inv.step {g' : Array GenState} {t' : Nat} {d' : Drawn} {ch : List Addr} (I : Inv X pins σ H s)
    (hch : ∀ b ∈ ch, (b ∈ X.ex ∨ X.s₀.heap.objs.size ≤ b) ∧ b ≠ X.env.locals ∧ (∀ x c, X.env.cells.lookup x = some c → c ≠ b) ∧ ∀ p ∈ X.pn ++ pins, p.1 ≠ b)
    (keep : ∀ b o, b ≠ X.env.locals → b ∉ X.fs → b ∉ ch → s.heap.get? b = some o → H b = none → h'.get? b = some o)
    (slot : ∀ b o, b ≠ X.env.locals → b ∈ X.fs → b ∉ ch → s.heap.get? b = some o → H b = none → ∃ sl, h'.get? b = some { o with slots := sl }) (free : ∀ b o, b ∉ ch → s.heap.get? b = some o → H b = none → H' b = none)
    (there : ∀ b o, b ∉ ch → s.heap.get? b = some o → ∃ o', h'.get? b = some o')
    (tups : ∀ b xs, H b = some (.tup xs) → H' b = some (.tup xs)) (frzs : ∀ b o u, H b = some (.frz o u) → H' b = some (.frz o u)) (tbls : ∀ b ps, H b = some (.tbl ps) → ∃ more, H' b = some (.tbl (ps ++ more)))
    (ns : ∀ m, s.heap.Ns X.env.locals m → h'.Ns X.env.locals m) (hok : HOk X.prog X.w H' h') (hg : AllBare g') :
    Inv X pins σ H' { s with heap := h', gens := g', drawn := d', toks := t' } := by
  have neL : ∀ b o, X.s₀.heap.get? b = some o → b ≠ X.env.locals := fun b o e => Nat.ne_of_lt (Nat.lt_of_lt_of_le (Heap.lt_size e) I.ok.above)
  have neC : ∀ b o, X.s₀.heap.get? b = some o → b ∉ X.ex → b ∉ ch := fun b o e hx hb => by
    rcases (hch b hb).1 with z | z
    · exact hx z
    · exact absurd (Nat.lt_of_lt_of_le (Heap.lt_size e) z) (Nat.lt_irrefl _)
  have cellK : ∀ x c, X.env.cells.lookup x = some c → ∀ v, s.heap.IsCell c v → h'.IsCell c v := fun x c e v ⟨o, ho, hd⟩ => by
    have nch : c ∉ ch := fun z => (hch c z).2.2.1 x c e rfl
    by_cases hc : c ∈ X.fs
    · obtain ⟨sl, q⟩ := slot c o (I.cne x c e) hc nch ho (I.freeC x c e)
      exact ⟨_, q, hd⟩
    · exact ⟨o, keep c o (I.cne x c e) hc nch ho (I.freeC x c e), hd⟩
  refine ⟨I.ok, I.os, hg, ⟨fun b o e n hb hx => ?_, fun b o e n hb hx => ?_, fun b o e n hx => ?_, fun b o e hx => ?_, fun b xs e => tups b xs (I.base.tups b xs e), fun b o xs e => frzs b o xs (I.base.frzs b o xs e), fun b ps e => ?_⟩, ?_, fun x c e => ?_, ?_, fun x c e => ?_, fun p hp => ?_, hok, I.len⟩
  · exact keep b o (neL b o e) hb (neC b o e hx) (I.base.keep b o e n hb hx) (I.base.free b o e n hx)
  · obtain ⟨sl, e1⟩ := I.base.slot b o e n hb hx
    obtain ⟨sl', e2⟩ := slot b _ (neL b o e) hb (neC b o e hx) e1 (I.base.free b o e n hx)
    exact ⟨sl', e2⟩
  · obtain ⟨o', e1⟩ := I.base.there b o e hx
    exact free b o' (neC b o e hx) e1 (I.base.free b o e n hx)
  · obtain ⟨o', e1⟩ := I.base.there b o e hx
    exact there b o' (neC b o e hx) e1
  · obtain ⟨m1, e1⟩ := I.base.tbls b ps e
    obtain ⟨m2, e2⟩ := tbls b _ e1
    exact ⟨m1 ++ m2, by rw [e2, Array.append_assoc]⟩
  · obtain ⟨m, hn, hl⟩ := I.loc
    refine ⟨m, ns m hn, fun i x v e1 e2 e3 => ?_⟩
    obtain ⟨u, r, l⟩ := hl i x v e1 e2 e3
    refine ⟨u, r, ?_⟩
    rcases l with l | ⟨k, c, e, z⟩
    · exact .inl l
    · exact .inr ⟨k, c, e, cellK x c e _ z⟩
  · obtain ⟨v, z⟩ := I.cell x c e
    exact ⟨v, cellK x c e v z⟩
  · obtain ⟨m, ⟨o, _, _, ho, _⟩, _⟩ := I.loc
    exact free _ o (fun z => (hch _ z).2.1 rfl) ho I.free
  · obtain ⟨v, o, ho, hd⟩ := I.cell x c e
    exact free c o (fun z => (hch c z).2.2.1 x c e rfl) ho (I.freeC x c e)
  · obtain ⟨e, n, ne, nf, d⟩ := I.pin p hp
    have nch : p.1 ∉ ch := fun z => (hch p.1 z).2.2.2 p hp rfl
    exact ⟨keep p.1 p.2 ne nf nch e n, free p.1 p.2 nch e n, ne, nf, d⟩
/-- .. where the frame's own object is kept too -/
theorem Inv.un {t' : Nat} (I : Inv X pins σ H s) (u : Un X.fs [] H H' s.heap h') (hok : HOk X.prog X.w H' h') : Inv X pins σ H' { s with heap := h', toks := t' } := by
  obtain ⟨m, ⟨o, es, ep, ho, r⟩, _⟩ := id I.loc
  obtain ⟨sl, hL⟩ := u.any ho I.free (by simp)
  exact I.step (g' := s.gens) (d' := s.drawn) (ch := []) (fun _ z => nomatch z) (fun b o _ hb _ e n => u.keep b o e n hb (by simp)) (fun b o _ hb _ e n => u.slot b o e n hb (by simp)) (fun b o _ e n => u.free b o e n (by simp)) (fun b o _ e => u.there b o e (by simp)) u.tups u.frzs u.tbls (fun m' hm => by
    obtain ⟨o', es', ep', ho', r'⟩ := hm
    rw [ho] at ho'; cases ho'
    exact ⟨_, es', ep', hL, r'⟩) hok I.bare
/-- behind a call (or a comprehension's block): the slots of this frame may have changed too, the records at ch may have turned -/
theorem Inv.call {g' : Array GenState} {t' : Nat} {d' : Drawn} {ch : List Addr} (I : Inv X pins σ H s) (u : Un (frs X.stack) ch H H' s.heap h') (hok : HOk X.prog X.w H' h') (hg : AllBare g')
    (hch : ∀ b ∈ ch, (b ∈ X.ex ∨ X.s₀.heap.objs.size ≤ b) ∧ b ≠ X.env.locals ∧ (∀ x c, X.env.cells.lookup x = some c → c ≠ b) ∧ ∀ p ∈ X.pn ++ pins, p.1 ≠ b) :
    Inv X pins σ H' { s with heap := h', gens := g', drawn := d', toks := t' } := by
  obtain ⟨m, ⟨o, es, ep, ho, r⟩, _⟩ := id I.loc
  obtain ⟨sl, hL⟩ := u.any ho I.free fun z => (hch _ z).2.1 rfl
  exact I.step (ch := ch) hch (fun b o hL hb hc e n => u.keep b o e n (fun z => (List.mem_cons.mp (I.stkSub b z)).elim hL hb) hc) (fun b o _ _ hc e n => u.any e n hc) (fun b o hc e n => u.free b o e n hc) (fun b o hc e => u.there b o e hc) u.tups u.frzs u.tbls (fun m' hm => by
    obtain ⟨o', es', ep', ho', r'⟩ := hm
    rw [ho] at ho'; cases ho'
    exact ⟨_, es', ep', hL, r'⟩) hok hg
/-- an untracked record of ours (an iterator) has turned -/
theorem Inv.turned {t' : Nat} {it : Addr} (I : Inv X pins σ H s) (k : ∀ b o, b ≠ it → s.heap.get? b = some o → h'.get? b = some o) (hn : H it = none) (hL : it ≠ X.env.locals)
    (h1 : it ∈ X.ex ∨ X.s₀.heap.objs.size ≤ it) (h2 : ∀ x c, X.env.cells.lookup x = some c → c ≠ it) (h3 : ∀ p ∈ X.pn ++ pins, p.1 ≠ it) : Inv X pins σ H { s with heap := h', toks := t' } := by
  have nit : ∀ b u, H b = some u → b ≠ it := fun b u e z => by rw [z, hn] at e; cases e
  refine I.step (g' := s.gens) (d' := s.drawn) (ch := [it]) (fun b hb => ?_) (fun b o _ _ hc e _ => k b o (fun z => hc (by simp [z])) e) (fun b o _ _ hc e _ => ⟨o.slots, k b o (fun z => hc (by simp [z])) e⟩) (fun _ _ _ _ n => n)
    (fun b o hc e => ⟨o, k b o (fun z => hc (by simp [z])) e⟩) (fun _ _ e => e) (fun _ _ _ e => e) (fun b ps e => ⟨#[], by rw [e]; simp⟩) (fun m hm => ?_) (fun b u e => ?_) I.bare
  · have e : b = it := by simpa using hb
    subst e
    exact ⟨h1, hL, h2, h3⟩
  · obtain ⟨o, es, ep, ho, r⟩ := hm
    exact ⟨o, es, ep, k _ o (Ne.symm hL) ho, r⟩
  · refine (I.hok b u e).stay (fun c v hc q => k c v ?_ q) (fun _ q => q) fun _ _ q => q
    rcases hc with z | z
    · rw [z]; exact nit b u e
    · exact nit c _ z
theorem Inv.tok (I : Inv X pins σ H s) (t : Nat) : Inv X pins σ H { s with toks := t } := I.un (h' := s.heap) (t' := t) Un.refl I.hok
/-- all objects kept -/
theorem Inv.kept {t' : Nat} (I : Inv X pins σ H s) (k : ∀ b u, s.heap.get? b = some u → h'.get? b = some u) : Inv X pins σ H { s with heap := h', toks := t' } := I.un (Un.kept k) (I.hok.kept k)
/-- a new object laid and tracked -/
theorem Inv.laid {a : Addr} {o : HO} {t' : Nat} (I : Inv X pins σ H s) (k : ∀ b u, s.heap.get? b = some u → h'.get? b = some u) (hp : s.heap.objs.size ≤ a) (new : ObjOk X.prog X.w (upd H a o) h' a o) :
    Inv X pins σ (upd H a o) { s with heap := h', toks := t' } := I.un (Un.laid k hp (I.hok.fresh hp)) (I.hok.laid k hp new)
/-- an object written -/
theorem Inv.write {x e : Addr} {o : HO} {t' : Nat} (I : Inv X pins σ H s) (mu : Mut (H x)) (he : e = x ∨ H e = some (.own x)) (k : ∀ b u, b ≠ e → s.heap.get? b = some u → h'.get? b = some u) (heo : ∃ u, h'.get? e = some u)
    (new : ObjOk X.prog X.w (upd H x o) h' x o) : Inv X pins σ (upd H x o) { s with heap := h', toks := t' } := I.un (Un.write mu he k heo) (I.hok.write mu he k heo new)
/-- forgetting slots, pins -/
theorem Inv.weak {σ' : List (Option V)} (I : Inv X pins σ H s) (hl : σ'.length = σ.length) (w : ∀ (i : Nat) v, σ'[i]? = some (some v) → σ[i]? = some (some v)) : Inv X pins σ' H s :=
  ⟨I.ok, I.os, I.bare, I.base, let ⟨m, hn, hl'⟩ := I.loc; ⟨m, hn, fun i x v e1 e2 e3 => hl' i x v e1 (w i v e2) e3⟩, I.cell, I.free, I.freeC, I.pin, I.hok, hl.trans I.len⟩
theorem Inv.pins_of {pins' : List (Addr × Obj)} (I : Inv X pins σ H s) (h : ∀ p ∈ pins', s.heap.get? p.1 = some p.2 ∧ H p.1 = none ∧ p.1 ≠ X.env.locals ∧ p.1 ∉ X.fs ∧ ∀ v, p.2.data ≠ .cell v) : Inv X pins' σ H s :=
  ⟨I.ok, I.os, I.bare, I.base, I.loc, I.cell, I.free, I.freeC, fun p hp => (List.mem_append.mp hp).elim (fun z => I.pin p (List.mem_append_left _ z)) (h p), I.hok, I.len⟩

theorem nodup_ix {N : List Str} (hN : N.Nodup) {i j : Nat} {x : Str} (a : N[i]? = some x) (b : N[j]? = some x) : i = j := by
  obtain ⟨h1, e1⟩ := List.getElem?_eq_some_iff.mp a
  obtain ⟨h2, e2⟩ := List.getElem?_eq_some_iff.mp b
  exact (List.getElem_inj hN).mp (e1.trans e2.symm)

/-- a name is stored; what changed -/
theorem store_ok2 {M : Model} {A : Around} {E : Value → Shared → Prop} {i : Nat} {x : Str} {v : V} {u : Value} {Q : Unit → Shared → Prop} (I : Inv X pins σ H s) (hN : X.N.Nodup) (hi : X.N[i]? = some x) (hx : Loc X.env.scope x) (r : RelV v u)
    (h : ∀ s', Inv X pins (σ.set i (some v)) H s' → (∃ a, Heap.SameBut a s.heap s'.heap ∧ (a = X.env.locals ∨ X.env.cells.lookup x = some a)) → Q () s') (hf : X.fn x = true ∨ X.env.scope.names.lookup x = some .local := by first | exact .inl rfl | exact .inr rfl | assumption) : wpAny M A (storeName X.env x u) Q E s := by
  obtain ⟨m, hn, hl⟩ := id I.loc
  have hcls : (X.env.scope.kind == .class || (X.env.scope.kind == .module && X.env.locals != X.env.globals)) = false := by rw [I.ok.kind]; rfl
  have hiσ : i < σ.length := by rw [I.len]; exact (List.getElem?_eq_some_iff.mp hi).1
  have cne := I.cne
  have tracked : ∀ {a : Addr} {h' : Heap}, (∃ o, s.heap.get? a = some o ∧ H a = none) → Heap.SameBut a s.heap h' → HOk X.prog X.w H h' := fun {a h'} ha hs b ob e => by
    obtain ⟨_, _, hfree⟩ := ha
    refine (I.hok b ob e).stay (fun c w' hc q => (hs.2 c ?_).trans q) (fun _ q => q) fun _ _ q => q
    rintro rfl
    rcases hc with rfl | hc
    · rw [hfree] at e; cases e
    · rw [hfree] at hc; cases hc
  rcases hx with hk | hk
  · refine wpAny_storeName_local hk hn (fun h' hn' hs => ?_) hcls
    obtain ⟨oL, _, _, hoL, _⟩ := id hn
    refine h _ ⟨I.ok, I.os, I.bare, ⟨fun b o e n hb hx => ?_, fun b o e n hb hx => ?_, I.base.free, fun b o e hx => ?_, I.base.tups, I.base.frzs, I.base.tbls⟩, ⟨_, hn', fun j y v' e1 e2 e3 => ?_⟩, fun y c e => ?_, I.free, I.freeC, fun p hp => ?_, tracked ⟨oL, hoL, I.free⟩ hs, by simpa using I.len⟩ ⟨_, hs, .inl rfl⟩
    · exact (hs.2 b (Nat.ne_of_lt (Nat.lt_of_lt_of_le (Heap.lt_size e) I.ok.above))).trans (I.base.keep b o e n hb hx)
    · obtain ⟨sl, e1⟩ := I.base.slot b o e n hb hx
      exact ⟨sl, (hs.2 b (Nat.ne_of_lt (Nat.lt_of_lt_of_le (Heap.lt_size e) I.ok.above))).trans e1⟩
    · obtain ⟨o', e1⟩ := I.base.there b o e hx
      exact ⟨o', (hs.2 b (Nat.ne_of_lt (Nat.lt_of_lt_of_le (Heap.lt_size e) I.ok.above))).trans e1⟩
    · by_cases hj : j = i
      · subst hj
        rw [hi] at e1; cases e1
        rw [List.getElem?_set_self hiσ] at e2
        cases e2
        exact ⟨u, r, .inl ⟨hk, by simp⟩⟩
      · rw [List.getElem?_set_ne (Ne.symm hj)] at e2
        obtain ⟨u', r', q⟩ := hl j y v' e1 e2 e3
        refine ⟨u', r', ?_⟩
        rcases q with ⟨k, e⟩ | ⟨k, c, e, z⟩
        · refine .inl ⟨k, ?_⟩
          have : y ≠ x := fun e => hj (nodup_ix hN e1 (e ▸ hi))
          simp [this, e]
        · exact .inr ⟨k, c, e, z.sameBut hs (cne y c e)⟩
    · obtain ⟨w', z⟩ := I.cell y c e
      exact ⟨w', z.sameBut hs (cne y c e)⟩
    · obtain ⟨e, n, ne, nf, d⟩ := I.pin p hp
      exact ⟨(hs.2 p.1 ne).trans e, n, ne, nf, d⟩
  · have hfn : X.fn x = true := by
      rcases hf with z | z
      · exact z
      · rw [z] at hk; cases hk
    obtain ⟨c, hc⟩ := I.ok.has x (.inl hk)
    obtain ⟨w', z⟩ := I.cell x c hc
    refine wpAny_storeName_cell I.ok.kind hk hc z (fun h' hc' hs => ?_)
    obtain ⟨oc, hoc, hocd⟩ := id z
    refine h { s with heap := h' } ⟨I.ok, I.os, I.bare, ⟨fun b o e n hb hx => ?_, fun b o e n hb hx => ?_, I.base.free, fun b o e hx => ?_, I.base.tups, I.base.frzs, I.base.tbls⟩, ⟨m, hn.sameBut hs (Ne.symm (cne x c hc)), fun j y v' e1 e2 e3 => ?_⟩, fun y c' e => ?_, I.free, I.freeC, fun p hp => ?_, tracked ⟨oc, hoc, I.freeC x c hc⟩ hs, by simpa using I.len⟩ ⟨c, hs, .inr hc⟩
    · exact (hs.2 b (Nat.ne_of_lt (Nat.lt_of_lt_of_le (Heap.lt_size e) (I.ok.cab x c hfn hc)))).trans (I.base.keep b o e n hb hx)
    · obtain ⟨sl, e1⟩ := I.base.slot b o e n hb hx
      exact ⟨sl, (hs.2 b (Nat.ne_of_lt (Nat.lt_of_lt_of_le (Heap.lt_size e) (I.ok.cab x c hfn hc)))).trans e1⟩
    · obtain ⟨o', e1⟩ := I.base.there b o e hx
      exact ⟨o', (hs.2 b (Nat.ne_of_lt (Nat.lt_of_lt_of_le (Heap.lt_size e) (I.ok.cab x c hfn hc)))).trans e1⟩
    · by_cases hj : j = i
      · subst hj
        rw [hi] at e1; cases e1
        rw [List.getElem?_set_self hiσ] at e2
        cases e2
        exact ⟨u, r, .inr ⟨.inl hk, c, hc, hc'⟩⟩
      · rw [List.getElem?_set_ne (Ne.symm hj)] at e2
        obtain ⟨u', r', q⟩ := hl j y v' e1 e2 e3
        refine ⟨u', r', ?_⟩
        rcases q with q | ⟨k, c', e, z'⟩
        · exact .inl q
        · refine .inr ⟨k, c', e, z'.sameBut hs ?_⟩
          rintro rfl
          exact hj (nodup_ix hN e1 (I.ok.inj _ _ _ e hc ▸ hi))
    · by_cases hcc : c' = c
      · subst hcc; exact ⟨_, hc'⟩
      · obtain ⟨w2, z2⟩ := I.cell y c' e
        exact ⟨w2, z2.sameBut hs hcc⟩
    · obtain ⟨e, n, ne, nf, d⟩ := I.pin p hp
      refine ⟨(hs.2 p.1 ?_).trans e, n, ne, nf, d⟩
      intro q
      rw [q, hoc] at e
      have q' : oc = p.2 := Option.some.inj e
      exact d w' (by rw [← q']; exact hocd)
theorem store_ok {M : Model} {A : Around} {E : Value → Shared → Prop} {i : Nat} {x : Str} {v : V} {u : Value} {Q : Unit → Shared → Prop} (I : Inv X pins σ H s) (hN : X.N.Nodup) (hi : X.N[i]? = some x) (hx : Loc X.env.scope x) (r : RelV v u)
    (h : ∀ s', Inv X pins (σ.set i (some v)) H s' → Q () s') (hf : X.fn x = true ∨ X.env.scope.names.lookup x = some .local := by first | exact .inl rfl | exact .inr rfl | assumption) : wpAny M A (storeName X.env x u) Q E s :=
  store_ok2 I hN hi hx r (fun s' I' _ => h s' I') hf
/-- behind a call or a block, the state as it is -/
theorem Inv.call' {s' : Shared} {ch : List Addr} (I : Inv X pins σ H s) (ho : s'.os = s.os) (u : Un (frs X.stack) ch H H' s.heap s'.heap) (hok : HOk X.prog X.w H' s'.heap) (hg : AllBare s'.gens)
    (hch : ∀ b ∈ ch, (b ∈ X.ex ∨ X.s₀.heap.objs.size ≤ b) ∧ b ≠ X.env.locals ∧ (∀ x c, X.env.cells.lookup x = some c → c ≠ b) ∧ ∀ p ∈ X.pn ++ pins, p.1 ≠ b) : Inv X pins σ H' s' := by
  obtain ⟨h', g', d', t', o'⟩ := s'
  have e : o' = s.os := ho
  subst e
  exact I.call (g' := g') (t' := t') (d' := d') u hok hg hch
end

/-! ### the judgements -/
/-- an exception: its class, its own dict's address (where it has one), the abstract heap behind it -/
abbrev XK := Value → Option Addr → Hp → Prop
abbrev St := List (Option V)
abbrev VK := V → Hp → Prop
/-- an expression's reading; a test's; an argument list's -/
abbrev TE := St → Hp → VK → Prop
abbrev TT := St → Hp → (Bool → Hp → Prop) → Prop
abbrev TA := St → Hp → (List V → Hp → Prop) → Prop
/-- what is wanted behind a statement -/
structure Ends where
  nx : St → Hp → Prop
  rt : VK
  bk : St → Hp → Prop := fun _ _ => False
  ct : St → Hp → Prop := fun _ _ => False
abbrev TS := Ends → St → Hp → Prop

def EP (X : Cx) (pins : List (Addr × Obj)) (σ : St) (Q : VK) (u : Value) (s' : Shared) : Prop := ∃ v H', Inv X pins σ H' s' ∧ RelV v u ∧ Q v H'
def TP (X : Cx) (pins : List (Addr × Obj)) (σ : St) (Q : Bool → Hp → Prop) (b : Bool) (s' : Shared) : Prop := ∃ H', Inv X pins σ H' s' ∧ Q b H'
def AP (X : Cx) (pins : List (Addr × Obj)) (σ : St) (Q : List V → Hp → Prop) (us : List Value) (s' : Shared) : Prop := ∃ vs H', Inv X pins σ H' s' ∧ Vals vs us ∧ Q vs H'
def SP (X : Cx) (pins : List (Addr × Obj)) (D : Ends) (f : Flow) (s' : Shared) : Prop :=
  match f with
  | .next => ∃ σ' H', Inv X pins σ' H' s' ∧ D.nx σ' H'
  | .brk => ∃ σ' H', Inv X pins σ' H' s' ∧ D.bk σ' H'
  | .cont => ∃ σ' H', Inv X pins σ' H' s' ∧ D.ct σ' H'
  | .ret u => ∃ v σ' H', Inv X pins σ' H' s' ∧ RelV v u ∧ D.rt v H'

structure PE (X : Cx) (e : Expr) (t : TE) : Prop where
  run :
    ∀ (pins : List (Addr × Obj)) (s : Shared) (σ : St) (H : Hp) (Q : VK), Inv X pins σ H s → t σ H Q → wpAny (model X.prog X.w) X.A (eval e X.env) (EP X pins σ Q) X.xe s
instance {X : Cx} {e : Expr} {t : TE} : CoeFun (PE X e t) (fun _ =>
    ∀ (pins : List (Addr × Obj)) (s : Shared) (σ : St) (H : Hp) (Q : VK), Inv X pins σ H s → t σ H Q → wpAny (model X.prog X.w) X.A (eval e X.env) (EP X pins σ Q) X.xe s
  ) := ⟨PE.run⟩
structure PT (X : Cx) (e : Expr) (t : TT) : Prop where
  run :
    ∀ (pins : List (Addr × Obj)) (s : Shared) (σ : St) (H : Hp) (Q : Bool → Hp → Prop), Inv X pins σ H s → t σ H Q → wpAny (model X.prog X.w) X.A (isTrue e X.env (eval e X.env)) (TP X pins σ Q) X.xe s
instance {X : Cx} {e : Expr} {t : TT} : CoeFun (PT X e t) (fun _ =>
    ∀ (pins : List (Addr × Obj)) (s : Shared) (σ : St) (H : Hp) (Q : Bool → Hp → Prop), Inv X pins σ H s → t σ H Q → wpAny (model X.prog X.w) X.A (isTrue e X.env (eval e X.env)) (TP X pins σ Q) X.xe s
  ) := ⟨PT.run⟩
/-- a test whatever its 'whole' is (and, or) -/
structure PW (X : Cx) (e : Expr) (t : TT) : Prop where
  run :
    ∀ (whole : Sem Value) (pins : List (Addr × Obj)) (s : Shared) (σ : St) (H : Hp) (Q : Bool → Hp → Prop), Inv X pins σ H s → t σ H Q → wpAny (model X.prog X.w) X.A (isTrue e X.env whole) (TP X pins σ Q) X.xe s
instance {X : Cx} {e : Expr} {t : TT} : CoeFun (PW X e t) (fun _ =>
    ∀ (whole : Sem Value) (pins : List (Addr × Obj)) (s : Shared) (σ : St) (H : Hp) (Q : Bool → Hp → Prop), Inv X pins σ H s → t σ H Q → wpAny (model X.prog X.w) X.A (isTrue e X.env whole) (TP X pins σ Q) X.xe s
  ) := ⟨PW.run⟩
theorem PW.pt {X : Cx} {e : Expr} {t : TT} (h : PW X e t) : PT X e t := ⟨h.run _⟩
/-- an argument list (no star), from the left -/
structure PA (X : Cx) (es : List Expr) (t : TA) : Prop where
  run :
    ∀ (pos : Pos) (pins : List (Addr × Obj)) (s : Shared) (σ : St) (H : Hp) (Q : List V → Hp → Prop), Inv X pins σ H s → t σ H Q → wpAny (model X.prog X.w) X.A (spliced (backTo pos (starEach es X.env))) (AP X pins σ Q) X.xe s
instance {X : Cx} {es : List Expr} {t : TA} : CoeFun (PA X es t) (fun _ =>
    ∀ (pos : Pos) (pins : List (Addr × Obj)) (s : Shared) (σ : St) (H : Hp) (Q : List V → Hp → Prop), Inv X pins σ H s → t σ H Q → wpAny (model X.prog X.w) X.A (spliced (backTo pos (starEach es X.env))) (AP X pins σ Q) X.xe s
  ) := ⟨PA.run⟩
structure PS (X : Cx) (st : Stmt) (t : TS) : Prop where
  run :
    ∀ (pins : List (Addr × Obj)) (s : Shared) (σ : St) (H : Hp) (D : Ends), Inv X pins σ H s → t D σ H → wpAny (model X.prog X.w) X.A (exec st X.env) (SP X pins D) X.xe s
instance {X : Cx} {st : Stmt} {t : TS} : CoeFun (PS X st t) (fun _ =>
    ∀ (pins : List (Addr × Obj)) (s : Shared) (σ : St) (H : Hp) (D : Ends), Inv X pins σ H s → t D σ H → wpAny (model X.prog X.w) X.A (exec st X.env) (SP X pins D) X.xe s
  ) := ⟨PS.run⟩
structure PSs (X : Cx) (st : List Stmt) (t : TS) : Prop where
  run :
    ∀ (pins : List (Addr × Obj)) (s : Shared) (σ : St) (H : Hp) (D : Ends), Inv X pins σ H s → t D σ H → wpAny (model X.prog X.w) X.A (execs st X.env) (SP X pins D) X.xe s
instance {X : Cx} {st : List Stmt} {t : TS} : CoeFun (PSs X st t) (fun _ =>
    ∀ (pins : List (Addr × Obj)) (s : Shared) (σ : St) (H : Hp) (D : Ends), Inv X pins σ H s → t D σ H → wpAny (model X.prog X.w) X.A (execs st X.env) (SP X pins D) X.xe s
  ) := ⟨PSs.run⟩
/-- weaken the end -/
theorem thn {α : Type} {t : Sem α} {Q Q' : α → Shared → Prop} {M : Model} {A : Around} {E : Value → Shared → Prop} {s : Shared} (h : wpAny M A t Q E s) (hQ : ∀ a s, Q a s → Q' a s) : wpAny M A t Q' E s := wpAny_mono h hQ fun _ _ x => x
end L2

namespace L2
open PySem PySem.Spec PyProof.Rows
section
variable {X : Cx}

/-- two expressions in a row -/
theorem bin {a b : Expr} {ta tb : TE} (ha : PE X a ta) (hb : PE X b tb) {pins : List (Addr × Obj)} {s : Shared} {σ : St} {H : Hp} {R : V → V → Hp → Prop} (I : Inv X pins σ H s) (h : ta σ H fun x H1 => tb σ H1 fun y H2 => R x y H2)
    {α : Type} {Q : α → Shared → Prop} {f : Value → Value → Sem α}
    (hf : ∀ v u s2 x y H2, Inv X pins σ H2 s2 → RelV x v → RelV y u → R x y H2 → wpAny (model X.prog X.w) X.A (f v u) Q X.xe s2) :
    wpAny (model X.prog X.w) X.A (eval a X.env) (fun v s₁ => wpAny (model X.prog X.w) X.A (eval b X.env) (fun u s₂ => wpAny (model X.prog X.w) X.A (f v u) Q X.xe s₂) X.xe s₁) X.xe s := by
  refine thn (ha pins s σ H _ I h) fun v s1 ⟨x, H1, I1, r1, q1⟩ => ?_
  refine thn (hb pins s1 σ H1 _ I1 q1) fun u s2 ⟨y, H2, I2, r2, q2⟩ => ?_
  exact hf v u s2 x y H2 I2 r1 r2 q2

/-! ### names and constants -/
def tVar (i : Nat) : TE := fun σ H Q => ∃ v, σ[i]? = some (some v) ∧ Q v H
def tC (v : V) : TE := fun _ H Q => Q v H
theorem pe_var {i : Nat} {x : Str} {pos : Pos} (hN : X.N[i]? = some x) (hv : Vis X.env.scope x) (hd : (x == ("__debug__" : Str)) = false := by decide) (hcd : (x == ("__classdict__" : Str)) = false := by decide) : PE X (.Name x pos) (tVar i) := by
  (first | constructor | skip)
  intro pins s σ H Q I h
  obtain ⟨v, e, h⟩ := h
  obtain ⟨m, hn, hl⟩ := I.loc
  obtain ⟨u, r, l⟩ := hl i x v hN e hv
  have fin : EP X pins σ Q u s := ⟨v, H, I, r, h⟩
  rcases l with ⟨hk, hm⟩ | ⟨hk, c, hc, hcell⟩
  · exact wpAny_Name (wpAny_loadName_local I.ok.kind hk hn hm fin) hd
  · rcases hk with hk | hk
    · exact wpAny_Name (wpAny_loadName_cell I.ok.kind hk hc hcell fin) hd
    · exact wpAny_Name (wpAny_loadName_free I.ok.kind hk hc hcell fin hcd) hd
theorem pe_int {i j pos} : PE X (.Constant (.int i) j pos) (tC (.int i)) := .mk fun _ _ _ H _ I h => wpAny_Constant_int ⟨.int i, H, I.tok _, ⟨_, rfl⟩, h⟩
theorem pe_bl {b j pos} : PE X (.Constant (.bool b) j pos) (tC (.bl b)) := .mk fun _ _ _ H _ I h => Constant_bool ⟨.bl b, H, I, rfl, h⟩
theorem pe_non {j pos} : PE X (.Constant .none j pos) (tC .non) := .mk fun _ _ _ H _ I h => Constant_none ⟨.non, H, I, rfl, h⟩
theorem pe_str {x j pos} : PE X (.Constant (.str x) j pos) (tC (.str x)) := .mk fun _ _ _ H _ I h => Calls.Constant_str ⟨.str x, H, I.tok _, ⟨_, rfl⟩, h⟩

/-- a global name of the def -/
def Gl (X : Cx) (x : Str) : Prop := X.env.kindOf x = some .globalImplicit
theorem ld_glob {E : Value → Shared → Prop} {pins : List (Addr × Obj)} {s : Shared} {σ : St} {H : Hp} {x : Str} {u : Value} {pos : Pos} {Q : Value → Shared → Prop} (I : Inv X pins σ H s) (hg : Gl X x) (hm : X.mg x = some u) (h : Q u s)
    (hd : (x == ("__debug__" : Str)) = false := by decide) : wpAny (model X.prog X.w) X.A (eval (.Name x pos) X.env) Q E s :=
  Calls.Name_function_global I.ok.kind hg (Calls.loadGlobal_global (by rw [I.ok.glob]; exact I.mod.glob.keeps I.bk) hm h) hd
theorem ld_blt {E : Value → Shared → Prop} {pins : List (Addr × Obj)} {s : Shared} {σ : St} {H : Hp} {x : Str} {u : Value} {pos : Pos} {Q : Value → Shared → Prop} (I : Inv X pins σ H s) (hg : Gl X x) (hm : X.mg x = none) (hv : bootBuiltins x = some u) (h : Q u s)
    (hn : x ≠ "__name__" := by decide) (hd : (x == ("__debug__" : Str)) = false := by decide) : wpAny (model X.prog X.w) X.A (eval (.Name x pos) X.env) Q E s := by
  obtain ⟨mb, h1, h2⟩ := I.mod.blt
  exact Calls.Name_function_global I.ok.kind hg (Calls.loadGlobal_builtin (by rw [I.ok.glob]; exact I.mod.glob.keeps I.bk) hm (by rw [I.ok.blt]; exact h1.keeps I.bk) ((h2 x hn).trans hv) h) hd
/-- a module's constant, a class, a function, as a value -/
theorem pe_glob {x : Str} {v : V} {u : Value} {pos : Pos} (hg : Gl X x) (hm : X.mg x = some u) (r : RelV v u) (hd : (x == ("__debug__" : Str)) = false := by decide) : PE X (.Name x pos) (tC v) := .mk fun _ _ _ H _ I h => ld_glob I hg hm ⟨v, H, I, r, h⟩ hd
theorem pe_bltn {x : Str} {v : V} {u : Value} {pos : Pos} (hg : Gl X x) (hm : X.mg x = none) (hv : bootBuiltins x = some u) (r : RelV v u) (hn : x ≠ "__name__" := by decide) (hd : (x == ("__debug__" : Str)) = false := by decide) : PE X (.Name x pos) (tC v) := .mk fun _ _ _ H _ I h => ld_blt I hg hm hv ⟨v, H, I, r, h⟩ hn hd

/-! ### arithmetic -/
/-- two ints -/
def t2I (ta tb : TE) (k : Int → Int → Hp → Prop) : St → Hp → Prop := fun σ H => ta σ H fun x H1 => tb σ H1 fun y H2 => ∃ i j, x = .int i ∧ y = .int j ∧ k i j H2
def tAdd (ta tb : TE) : TE := fun σ H Q => t2I ta tb (fun i j H2 => Q (.int (i + j)) H2) σ H
def tSub (ta tb : TE) : TE := fun σ H Q => t2I ta tb (fun i j H2 => Q (.int (i - j)) H2) σ H
/-- the left factor below 2^64 -/
def tMul (ta tb : TE) : TE := fun σ H Q => t2I ta tb (fun i j H2 => (-(2 ^ 64) < i ∧ i < 2 ^ 64) ∧ Q (.int (i * j)) H2) σ H
variable {a b : Expr} {ta tb : TE} {pos : Pos}
theorem pe_add (ha : PE X a ta) (hb : PE X b tb) : PE X (.BinOp a .Add b pos) (tAdd ta tb) := by
  (first | constructor | skip)
  intro pins s σ H Q I h
  refine wpAny_BinOp (bin ha hb I h fun v u s2 x y H2 I2 rx ry q => ?_)
  obtain ⟨i, j, rfl, rfl, q⟩ := q
  obtain ⟨t, rfl⟩ := rx
  obtain ⟨t', rfl⟩ := ry
  exact add_int ⟨.int _, H2, I2.tok _, ⟨_, rfl⟩, q⟩
theorem pe_sub (ha : PE X a ta) (hb : PE X b tb) : PE X (.BinOp a .Sub b pos) (tSub ta tb) := by
  (first | constructor | skip)
  intro pins s σ H Q I h
  refine wpAny_BinOp (bin ha hb I h fun v u s2 x y H2 I2 rx ry q => ?_)
  obtain ⟨i, j, rfl, rfl, q⟩ := q
  obtain ⟨t, rfl⟩ := rx
  obtain ⟨t', rfl⟩ := ry
  exact sub_int ⟨.int _, H2, I2.tok _, ⟨_, rfl⟩, q⟩
theorem pe_mul (ha : PE X a ta) (hb : PE X b tb) : PE X (.BinOp a .Mult b pos) (tMul ta tb) := by
  (first | constructor | skip)
  intro pins s σ H Q I h
  refine wpAny_BinOp (bin ha hb I h fun v u s2 x y H2 I2 rx ry q => ?_)
  obtain ⟨i, j, rfl, rfl, ⟨q1, q2⟩, q⟩ := q
  obtain ⟨t, rfl⟩ := rx
  obtain ⟨t', rfl⟩ := ry
  exact mul_int ⟨.int _, H2, I2.tok _, ⟨_, rfl⟩, q⟩ (.of_left (intBits_le_64 q1 q2))

/-! ### comparisons -/
structure PC (X : Cx) (op : CmpOp) (a b : Expr) (t : TE) : Prop where
  run :
    ∀ (pins : List (Addr × Obj)) (s : Shared) (σ : St) (H : Hp) (Q : VK), Inv X pins σ H s → t σ H Q →
      wpAny (model X.prog X.w) X.A (eval a X.env) (fun v s₁ => wpAny (model X.prog X.w) X.A (eval b X.env) (fun u s₂ => wpAny (model X.prog X.w) X.A (compareOp op v u) (EP X pins σ Q) X.xe s₂) X.xe s₁) X.xe s
instance {X : Cx} {op : CmpOp} {a b : Expr} {t : TE} : CoeFun (PC X op a b t) (fun _ =>
    ∀ (pins : List (Addr × Obj)) (s : Shared) (σ : St) (H : Hp) (Q : VK), Inv X pins σ H s → t σ H Q →
      wpAny (model X.prog X.w) X.A (eval a X.env) (fun v s₁ => wpAny (model X.prog X.w) X.A (eval b X.env) (fun u s₂ => wpAny (model X.prog X.w) X.A (compareOp op v u) (EP X pins σ Q) X.xe s₂) X.xe s₁) X.xe s
  ) := ⟨PC.run⟩
theorem nobehind (b : Expr) {op : CmpOp} (h : op ≠ .In) (h2 : op ≠ .NotIn) : behindInMarks op b = false := by
  have e1 : (op == CmpOp.In) = false := by cases op <;> first | rfl | exact absurd rfl h
  have e2 : (op == CmpOp.NotIn) = false := by cases op <;> first | rfl | exact absurd rfl h2
  cases b <;> simp [behindInMarks, e1, e2]
def tCmp (p : Int → Int → Bool) (ta tb : TE) : TE := fun σ H Q => t2I ta tb (fun i j H2 => Q (.bl (p i j)) H2) σ H
abbrev tLt : TE → TE → TE := tCmp fun i j => decide (i < j)
abbrev tLe : TE → TE → TE := tCmp fun i j => decide (i ≤ j)
abbrev tGt : TE → TE → TE := tCmp fun i j => decide (j < i)
abbrev tGe : TE → TE → TE := tCmp fun i j => decide (j ≤ i)
abbrev tEqI : TE → TE → TE := tCmp fun i j => decide (i = j)
abbrev tNeI : TE → TE → TE := tCmp fun i j => !decide (i = j)
/-- a comparison of two ints, by its rule -/
theorem pc_int {op : CmpOp} {p : Int → Int → Bool} (ha : PE X a ta) (hb : PE X b tb)
    (rule : ∀ (i j : Int) (t u : Tok) (Q : Value → Shared → Prop) (s : Shared), Q (.bool (p i j)) s → wpAny (model X.prog X.w) X.A (compareOp op (.int i t) (.int j u)) Q X.xe s) : PC X op a b (tCmp p ta tb) := by
  (first | constructor | skip)
  intro pins s σ H Q I h
  refine bin ha hb I h fun v u s2 x y H2 I2 rx ry q => ?_
  obtain ⟨i, j, rfl, rfl, q⟩ := q
  obtain ⟨t, rfl⟩ := rx
  obtain ⟨t', rfl⟩ := ry
  exact rule i j t t' _ s2 ⟨.bl _, H2, I2, rfl, q⟩
theorem pc_lt (ha : PE X a ta) (hb : PE X b tb) : PC X .Lt a b (tLt ta tb) := pc_int ha hb fun _ _ _ _ _ _ h => lt_int h
theorem pc_le (ha : PE X a ta) (hb : PE X b tb) : PC X .LtE a b (tLe ta tb) := pc_int ha hb fun _ _ _ _ _ _ h => le_int h
theorem pc_gt (ha : PE X a ta) (hb : PE X b tb) : PC X .Gt a b (tGt ta tb) := pc_int ha hb fun _ _ _ _ _ _ h => gt_int h
theorem pc_ge (ha : PE X a ta) (hb : PE X b tb) : PC X .GtE a b (tGe ta tb) := pc_int ha hb fun _ _ _ _ _ _ h => ge_int h
theorem pc_eqI (ha : PE X a ta) (hb : PE X b tb) : PC X .Eq a b (tEqI ta tb) := pc_int ha hb fun _ _ _ _ _ _ h => eq_int (by rw [Bool.beq_eq_decide_eq]; exact h)
theorem pc_neI (ha : PE X a ta) (hb : PE X b tb) : PC X .NotEq a b (tNeI ta tb) := pc_int ha hb fun _ _ _ _ _ _ h => ne_int (by rw [bne, Bool.beq_eq_decide_eq]; exact h)
/-- is None -/
def tIsN (ta : TE) : TE := fun σ H Q => ta σ H fun x H1 => Q (.bl (decide (x = .non))) H1
def tNotN (ta : TE) : TE := fun σ H Q => ta σ H fun x H1 => Q (.bl (!decide (x = .non))) H1
theorem RelV.none_iff {x : V} {v : Value} (r : RelV x v) : (v == Value.none) = decide (x = .non) := by
  cases x with
  | non => cases r; rfl
  | bl _ => cases r; rfl
  | int _ => obtain ⟨t, rfl⟩ := r; rfl
  | str _ => obtain ⟨t, rfl⟩ := r; rfl
  | byt _ => obtain ⟨t, rfl⟩ := r; rfl
  | flt _ => obtain ⟨t, rfl⟩ := r; rfl
  | ref _ => cases r; rfl
  | ty _ => cases r; rfl
theorem pc_isN {j pos'} (ha : PE X a ta) : PC X .Is a (.Constant .none j pos') (tIsN ta) := by
  (first | constructor | skip)
  intro pins s σ H Q I h
  refine thn (ha pins s σ H _ I h) fun v s1 ⟨x, H1, I1, r1, q1⟩ => ?_
  exact Constant_none (is_none_gen ⟨.bl _, H1, I1, by rw [r1.none_iff]; rfl, q1⟩)
theorem pc_notN {j pos'} (ha : PE X a ta) : PC X .IsNot a (.Constant .none j pos') (tNotN ta) := by
  (first | constructor | skip)
  intro pins s σ H Q I h
  refine thn (ha pins s σ H _ I h) fun v s1 ⟨x, H1, I1, r1, q1⟩ => ?_
  exact Constant_none (isnot_none_gen ⟨.bl _, H1, I1, by rw [r1.none_iff]; rfl, q1⟩)
/-- a comparison as a value, as a test -/
def tB (t : TE) : TT := fun σ H Q => t σ H fun x H1 => ∃ c, x = .bl c ∧ Q c H1
theorem pe_cmp {op : CmpOp} {t : TE} (h : PC X op a b t) (h1 : behindInMarks op b = false := by first | exact nobehind _ (by decide) (by decide) | rfl) : PE X (.Compare a [op] [b] pos) t := .mk fun pins s σ H Q I hw => wpAny_Compare1 (h pins s σ H Q I hw) h1
theorem pt_cmp {op : CmpOp} {t : TE} (h : PC X op a b t) (h1 : behindInMarks op b = false := by first | exact nobehind _ (by decide) (by decide) | rfl) : PT X (.Compare a [op] [b] pos) (tB t) := by
  (first | constructor | skip)
  intro pins s σ H Q I hw
  refine wpAny_isTrue_Compare1 (thn (h pins s σ H _ I hw) fun v s1 h1 => thn h1 fun u s2 h2 => thn h2 fun c s3 ⟨x, H1, I1, r1, q1⟩ => ?_) h1
  obtain ⟨d, rfl, q⟩ := q1
  cases r1
  exact wpAny_truthy_bool ⟨H1, I1, q⟩
/-- an expression whose value is a bool, as a test -/
theorem pt_val {e : Expr} {t : TE} (h : PE X e t) (he : ∀ whole, isTrue e X.env whole = (do let v ← whole; standAt e.pos; holding [v] (truthy v)) := by intro _; rfl) : PT X e (tB t) := by
  (first | constructor | skip)
  intro pins s σ H Q I hw
  refine isTrue_plain (thn (h pins s σ H _ I hw) fun v s1 ⟨x, H1, I1, r1, q1⟩ => ?_) (he _)
  obtain ⟨d, rfl, q⟩ := q1
  cases r1
  exact wpAny_truthy_bool ⟨H1, I1, q⟩

/-! ### and, or, not -/
variable {tA tB' : TT} {rest : List Expr}
def tAnd (t u : TT) : TT := fun σ H Q => t σ H fun c H1 => if c = true then u σ H1 Q else Q false H1
def tOr (t u : TT) : TT := fun σ H Q => t σ H fun c H1 => if c = true then Q true H1 else u σ H1 Q
def tNot (t : TT) : TT := fun σ H Q => t σ H fun c H1 => Q (!c) H1
theorem pw_and1 (ha : PT X a tA) : PW X (.BoolOp .And [a] pos) tA := by
  (first | constructor | skip)
  intro wh pins s σ H Q I h
  refine isTrue_and (thn (ha pins s σ H Q I h) fun c s1 e => ?_)
  cases c with
  | true => exact isTrue_and_nil e
  | false => exact e
theorem pw_or1 (ha : PT X a tA) : PW X (.BoolOp .Or [a] pos) tA := by
  (first | constructor | skip)
  intro wh pins s σ H Q I h
  refine isTrue_or (thn (ha pins s σ H Q I h) fun c s1 e => ?_)
  cases c with
  | false => exact isTrue_or_nil e
  | true => exact e
theorem pw_and (ha : PT X a tA) (hb : PW X (.BoolOp .And (b :: rest) pos) tB') : PW X (.BoolOp .And (a :: b :: rest) pos) (tAnd tA tB') := by
  (first | constructor | skip)
  intro wh pins s σ H Q I h
  refine isTrue_and (thn (ha pins s σ H _ I h) fun c s1 ⟨H1, I1, q1⟩ => ?_)
  cases c with
  | true => exact hb wh pins s1 σ H1 Q I1 q1
  | false => exact ⟨H1, I1, q1⟩
theorem pw_or (ha : PT X a tA) (hb : PW X (.BoolOp .Or (b :: rest) pos) tB') : PW X (.BoolOp .Or (a :: b :: rest) pos) (tOr tA tB') := by
  (first | constructor | skip)
  intro wh pins s σ H Q I h
  refine isTrue_or (thn (ha pins s σ H _ I h) fun c s1 ⟨H1, I1, q1⟩ => ?_)
  cases c with
  | true => exact ⟨H1, I1, q1⟩
  | false => exact hb wh pins s1 σ H1 Q I1 q1
theorem pt_not (ha : PT X a tA) : PT X (.UnaryOp .Not a pos) (tNot tA) := by
  (first | constructor | skip)
  intro pins s σ H Q I h
  exact isTrue_not (ha pins s σ H (fun c H1 => Q (!c) H1) I h)
/-- .. as values (bools) -/
def tAndV (ta tb : TE) : TE := fun σ H Q => ta σ H fun x H1 => ∃ c, x = .bl c ∧ if c = true then tb σ H1 Q else Q (.bl false) H1
def tOrV (ta tb : TE) : TE := fun σ H Q => ta σ H fun x H1 => ∃ c, x = .bl c ∧ if c = true then Q (.bl true) H1 else tb σ H1 Q
def tNotV (ta : TE) : TE := fun σ H Q => ta σ H fun x H1 => ∃ c, x = .bl c ∧ Q (.bl (!c)) H1
theorem pe_one {op} {t : TE} (h : PE X a t) : PE X (.BoolOp op [a] pos) t := .mk fun pins s σ H Q I hw => BoolOp_one (h pins s σ H Q I hw)
theorem pe_and (ha : PE X a ta) (hb : PE X (.BoolOp .And (b :: rest) pos) tb) : PE X (.BoolOp .And (a :: b :: rest) pos) (tAndV ta tb) := by
  (first | constructor | skip)
  intro pins s σ H Q I h
  refine BoolOp_and (thn (ha pins s σ H _ I h) fun v s1 ⟨x, H1, I1, r1, q1⟩ => ?_)
  obtain ⟨c, rfl, q1⟩ := q1
  cases r1
  refine wpAny_truthy_bool ?_
  cases c with
  | true => exact hb pins s1 σ H1 Q I1 q1
  | false => exact ⟨.bl false, H1, I1, rfl, q1⟩
theorem pe_or (ha : PE X a ta) (hb : PE X (.BoolOp .Or (b :: rest) pos) tb) : PE X (.BoolOp .Or (a :: b :: rest) pos) (tOrV ta tb) := by
  (first | constructor | skip)
  intro pins s σ H Q I h
  refine BoolOp_or (thn (ha pins s σ H _ I h) fun v s1 ⟨x, H1, I1, r1, q1⟩ => ?_)
  obtain ⟨c, rfl, q1⟩ := q1
  cases r1
  refine wpAny_truthy_bool ?_
  cases c with
  | false => exact hb pins s1 σ H1 Q I1 q1
  | true => exact ⟨.bl true, H1, I1, rfl, q1⟩
theorem pe_not (ha : PE X a ta) : PE X (.UnaryOp .Not a pos) (tNotV ta) := by
  (first | constructor | skip)
  intro pins s σ H Q I h
  refine UnaryOp_ (thn (ha pins s σ H _ I h) fun v s1 ⟨x, H1, I1, r1, q1⟩ => ?_)
  obtain ⟨c, rfl, q1⟩ := q1
  cases r1
  exact not_of (wpAny_truthy_bool ⟨.bl (!c), H1, I1, rfl, q1⟩)
/-- a if t else b -/
def tIf (t : TT) (ta tb : TE) : TE := fun σ H Q => t σ H fun c H1 => if c = true then ta σ H1 Q else tb σ H1 Q
theorem pe_ifExp {c : Expr} (hc : PT X c tA) (ha : PE X a ta) (hb : PE X b tb) : PE X (.IfExp c a b pos) (tIf tA ta tb) := by
  (first | constructor | skip)
  intro pins s σ H Q I h
  refine wpAny_IfExp (thn (hc pins s σ H _ I h) fun d s1 ⟨H1, I1, q1⟩ => ?_)
  cases d with
  | true => exact ha pins s1 σ H1 Q I1 q1
  | false => exact hb pins s1 σ H1 Q I1 q1
end
end L2

namespace L2
open PySem PySem.Spec PyProof.Rows

/-! ### a list, a tuple that is read: tracked, frozen, or an object of the module -/
def SqL (K : PySem.W.Frag) (H : Hp) (a : Addr) (xs : List V) : Prop :=
  Rd H a (.lst xs) ∨
    ∃ (o : Obj) (its : Array Value) (n : Nat), K.lookup a = some o ∧ o.cls = .type "list" ∧ o.dict = none ∧ o.data = .seq its n ∧ its.size ≤ sizeLine ∧ Vals xs its.toList
def SqT (K : PySem.W.Frag) (H : Hp) (a : Addr) (xs : List V) : Prop :=
  Rd H a (.tup xs) ∨
    ∃ (o : Obj) (its : Array Value) (n : Nat), K.lookup a = some o ∧ o.cls = .type "tuple" ∧ o.data = .seq its n ∧ its.size ≤ sizeLine ∧ Vals xs its.toList
def absV : Value → Option V
  | .none => some .non
  | .bool b => some (.bl b)
  | .int i _ => some (.int i)
  | .str x _ => some (.str x)
  | .bytes b _ => some (.byt b)
  | .float b _ => some (.flt b)
  | .ref a => some (.ref a)
  | .type n => some (.ty n)
  | _ => none
theorem RelV.abs {x : V} {u : Value} (r : RelV x u) : absV u = some x := by
  cases x with
  | non => cases r; rfl
  | bl _ => cases r; rfl
  | int _ => obtain ⟨t, rfl⟩ := r; rfl
  | str _ => obtain ⟨t, rfl⟩ := r; rfl
  | byt _ => obtain ⟨t, rfl⟩ := r; rfl
  | flt _ => obtain ⟨t, rfl⟩ := r; rfl
  | ref _ => cases r; rfl
  | ty _ => cases r; rfl
theorem RelV.inj {x y : V} {u : Value} (r : RelV x u) (q : RelV y u) : x = y := Option.some.inj (r.abs.symm.trans q.abs)
theorem Vals.inj : ∀ {xs ys : List V} {us : List Value}, Vals xs us → Vals ys us → xs = ys
  | _, _, _, .nil, .nil => rfl
  | _, _, _, .cons r t, .cons r' t' => by rw [r.inj r', Vals.inj t t']
section
variable {X : Cx} {pins : List (Addr × Obj)} {σ : St} {H : Hp} {s : Shared} {a : Addr} {xs ys : List V}
theorem SqL.of {K : PySem.W.Frag} (h : H a = some (.lst xs)) : SqL K H a xs := .inl (.inl h)
theorem SqT.of {K : PySem.W.Frag} (h : H a = some (.tup xs)) : SqT K H a xs := .inl (.inl h)
theorem Inv.list (I : Inv X pins σ H s) (h : SqL X.K H a xs) : ∃ its : List Value, Vals xs its ∧ PlainL s.heap a its.toArray ∧ xs.length ≤ sizeLine := by
  rcases h with h | ⟨o, its, n, hk, hc, hd, hs, hz, r⟩
  · obtain ⟨z, its, n, r, e⟩ := h.ok I.hok
    exact ⟨its, r, ⟨_, n, e, rfl, rfl, rfl⟩, z⟩
  · refine ⟨its.toList, r, ⟨o, n, I.kIn a o hk, hc, hd, by simpa using hs⟩, ?_⟩
    have e := r.length
    simp only [Array.length_toList] at e
    omega
theorem Inv.tuple (I : Inv X pins σ H s) (h : SqT X.K H a xs) : ∃ its : List Value, Vals xs its ∧ IsTup s.heap a its.toArray ∧ xs.length ≤ sizeLine := by
  rcases h with h | ⟨o, its, n, hk, hc, hs, hz, r⟩
  · obtain ⟨z, its, r, p⟩ := h.ok I.hok
    exact ⟨its, r, p, z⟩
  · refine ⟨its.toList, r, ⟨o, I.kIn a o hk, hc, n, by simpa using hs⟩, ?_⟩
    have e := r.length
    simp only [Array.length_toList] at e
    omega
theorem Inv.list_inj (I : Inv X pins σ H s) (h : SqL X.K H a xs) (h' : SqL X.K H a ys) : xs = ys := by
  obtain ⟨its, r, ⟨o, n, e, _, _, d⟩, _⟩ := I.list h
  obtain ⟨its', r', ⟨o', n', e', _, _, d'⟩, _⟩ := I.list h'
  rw [e] at e'; cases e'
  rw [d] at d'
  injection d' with d1 _
  have : its = its' := by simpa using congrArg Array.toList d1
  subst this
  exact r.inj r'
theorem Inv.tuple_inj (I : Inv X pins σ H s) (h : SqT X.K H a xs) (h' : SqT X.K H a ys) : xs = ys := by
  obtain ⟨its, r, ⟨o, e, _, n, d⟩, _⟩ := I.tuple h
  obtain ⟨its', r', ⟨o', e', _, n', d'⟩, _⟩ := I.tuple h'
  rw [e] at e'; cases e'
  rw [d] at d'
  injection d' with d1 _
  have : its = its' := by simpa using congrArg Array.toList d1
  subst this
  exact r.inj r'
end

/-! ### another wish about exceptions -/
abbrev Cx.wish (X : Cx) (E : Value → Shared → Prop) : Cx := { X with xe := E }
/-- no exception leaves -/
abbrev Cx.nox (X : Cx) : Cx := X.wish fun _ _ => False
theorem Cx.Ok.wish {X : Cx} (ok : X.Ok) (E : Value → Shared → Prop) : (X.wish E).Ok :=
  ⟨ok.mod, ok.kind, ok.glob, ok.blt, ok.above, ok.inj, ok.has, ok.cab, ok.hd, ok.frames, ok.stk, ok.exf, ok.bs, ok.bsz, ok.noex, ok.exfs, ok.funs, ok.frf⟩
theorem Cx.Ok.unwish {X : Cx} {E : Value → Shared → Prop} (ok : (X.wish E).Ok) : X.Ok :=
  ⟨ok.mod, ok.kind, ok.glob, ok.blt, ok.above, ok.inj, ok.has, ok.cab, ok.hd, ok.frames, ok.stk, ok.exf, ok.bs, ok.bsz, ok.noex, ok.exfs, ok.funs, ok.frf⟩
section
variable {X : Cx} {pins : List (Addr × Obj)} {σ : St} {H : Hp} {s : Shared} {E : Value → Shared → Prop}
theorem Inv.wish (I : Inv X pins σ H s) (E : Value → Shared → Prop) : Inv (X.wish E) pins σ H s := ⟨I.ok.wish E, I.os, I.bare, I.base, I.loc, I.cell, I.free, I.freeC, I.pin, I.hok, I.len⟩
theorem Inv.unwish (I : Inv (X.wish E) pins σ H s) : Inv X pins σ H s := ⟨I.ok.unwish, I.os, I.bare, I.base, I.loc, I.cell, I.free, I.freeC, I.pin, I.hok, I.len⟩
theorem SP.unwish {D : Ends} {f : Flow} {s' : Shared} (h : SP (X.wish E) pins D f s') : SP X pins D f s' := by
  cases f with
  | next => obtain ⟨σ', H', I, q⟩ := h; exact ⟨σ', H', I.unwish, q⟩
  | brk => obtain ⟨σ', H', I, q⟩ := h; exact ⟨σ', H', I.unwish, q⟩
  | cont => obtain ⟨σ', H', I, q⟩ := h; exact ⟨σ', H', I.unwish, q⟩
  | ret u => obtain ⟨v, σ', H', I, r, q⟩ := h; exact ⟨v, σ', H', I.unwish, r, q⟩
theorem PE.nox {e : Expr} {t : TE} (h : PE X.nox e t) : PE X e t := .mk fun pins s σ H Q I hw =>
  wpAny_mono (h pins s σ H Q (I.wish _) hw) (fun _ _ ⟨v, H', I', r, q⟩ => ⟨v, H', I'.unwish, r, q⟩) fun _ _ z => False.elim z
theorem PT.nox {e : Expr} {t : TT} (h : PT X.nox e t) : PT X e t := .mk fun pins s σ H Q I hw =>
  wpAny_mono (h pins s σ H Q (I.wish _) hw) (fun _ _ ⟨H', I', q⟩ => ⟨H', I'.unwish, q⟩) fun _ _ z => False.elim z
theorem PSs.nox {st : List Stmt} {t : TS} (h : PSs X.nox st t) : PSs X st t := .mk fun pins s σ H D I hw =>
  wpAny_mono (h pins s σ H D (I.wish _) hw) (fun _ _ q => q.unwish) fun _ _ z => False.elim z
end

/-! ### blocks and small statements -/
section
variable {X : Cx} {st : Stmt} {rest : List Stmt} {t u : TS} {e : Expr} {te : TE} {pos : Pos}
def tNext : TS := fun D σ H => D.nx σ H
def tSeq (t u : TS) : TS := fun D σ H => t { D with nx := u D } σ H
theorem pss_nil : PSs X [] tNext := .mk fun _ _ σ H _ I h => wpAny_execs_nil ⟨σ, H, I, h⟩
theorem pss_cons (h1 : PS X st t) (h2 : PSs X rest u) : PSs X (st :: rest) (tSeq t u) := by
  (first | constructor | skip)
  intro pins s σ H D I h
  refine wpAny_execs_cons (thn (h1 pins s σ H { D with nx := u D } I h) fun f s1 q => ?_)
  cases f with
  | next =>
    obtain ⟨σ', H', I', q⟩ := q
    exact h2 pins s1 σ' H' D I' q
  | ret v => exact q
  | brk => exact q
  | cont => exact q
theorem pss_one (h1 : PS X st t) : PSs X [st] t := by
  (first | constructor | skip)
  intro pins s σ H D I h
  refine wpAny_execs_cons (thn (h1 pins s σ H D I h) fun f s1 q => ?_)
  cases f with
  | next => exact wpAny_execs_nil q
  | ret v => exact q
  | brk => exact q
  | cont => exact q
def tBreak : TS := fun D σ H => D.bk σ H
def tCont : TS := fun D σ H => D.ct σ H
theorem ps_pass : PS X (.Pass pos) tNext := .mk fun _ _ σ H _ I h => wpAny_Pass ⟨σ, H, I, h⟩
theorem ps_break : PS X (.Break pos) tBreak := .mk fun _ _ σ H _ I h => wpAny_Break ⟨σ, H, I, h⟩
theorem ps_continue : PS X (.Continue pos) tCont := .mk fun _ _ σ H _ I h => wpAny_Continue ⟨σ, H, I, h⟩
/-- in a def's body nothing is shown -/
theorem Inv.quiet {pins : List (Addr × Obj)} {σ : St} {H : Hp} {s : Shared} (I : Inv X pins σ H s) : interactive X.env = false := by simp [interactive, I.ok.kind]
/-- a docstring -/
theorem ps_doc {x j pos pos'} : PS X (.Expr (.Constant (.str x) j pos) pos') tNext := .mk fun _ s σ H _ I h => wpAny_Expr (Calls.Constant_str (show SP X _ _ .next { s with toks := s.toks + 1 } from ⟨σ, H, I.tok _, h⟩)) I.quiet
/-- an expression whose value is dropped -/
def tDrop (te : TE) : TS := fun D σ H => te σ H fun _ H1 => D.nx σ H1
theorem ps_expr (he : PE X e te) (hs : swapsWith e none pos.line X.env = pure false := by rfl) : PS X (.Expr e pos) (tDrop te) := by
  (first | constructor | skip)
  intro pins s σ H D I h
  exact wpAny_Expr_any (thn (he pins s σ H _ I h) fun v s1 ⟨x, H1, I1, r1, q1⟩ => ⟨σ, H1, I1, q1⟩) I.quiet hs
def tRet (te : TE) : TS := fun D σ H => te σ H D.rt
theorem ps_ret (he : PE X e te) : PS X (.Return (some e) pos) (tRet te) := by
  (first | constructor | skip)
  intro pins s σ H D I h
  exact wpAny_Return_some (thn (he pins s σ H _ I h) fun v s1 ⟨x, H1, I1, r1, q1⟩ => ⟨x, σ, H1, I1, r1, q1⟩)
def tRetN : TS := fun D _ H => D.rt .non H
theorem ps_retN : PS X (.Return none pos) tRetN := .mk fun _ _ σ H _ I h => wpAny_Return_none ⟨.non, σ, H, I, rfl, h⟩
def tIfS (c : TT) (t u : TS) : TS := fun D σ H => c σ H fun b H1 => if b = true then t D σ H1 else u D σ H1
theorem ps_if {c : Expr} {a b : List Stmt} {tc : TT} (hc : PT X c tc) (ha : PSs X a t) (hb : PSs X b u) : PS X (.If c a b pos) (tIfS tc t u) := by
  (first | constructor | skip)
  intro pins s σ H D I h
  refine wpAny_If (thn (hc pins s σ H _ I h) fun d s1 ⟨H1, I1, q1⟩ => ?_)
  cases d with
  | true => exact ha pins s1 σ H1 D I1 q1
  | false => exact hb pins s1 σ H1 D I1 q1
/-- code that the proof never comes to -/
def tNever : TS := fun _ _ _ => False
theorem ps_never : PS X st tNever := .mk fun _ _ _ _ _ _ h => h.elim
theorem pss_never {sts : List Stmt} : PSs X sts tNever := .mk fun _ _ _ _ _ _ h => h.elim
end

/-! ### targets -/
abbrev TG := V → St → Hp → (St → Hp → Prop) → Prop
abbrev TGs := List V → St → Hp → (St → Hp → Prop) → Prop
structure PG (X : Cx) (target : Expr) (t : TG) : Prop where
  run :
    ∀ (pins : List (Addr × Obj)) (s : Shared) (σ : St) (H : Hp) (v : V) (u : Value) (Q : St → Hp → Prop), Inv X pins σ H s → RelV v u → t v σ H Q →
      wpAny (model X.prog X.w) X.A (assign target X.env u) (fun _ s' => ∃ σ' H', Inv X pins σ' H' s' ∧ Q σ' H') X.xe s
instance {X : Cx} {target : Expr} {t : TG} : CoeFun (PG X target t) (fun _ =>
    ∀ (pins : List (Addr × Obj)) (s : Shared) (σ : St) (H : Hp) (v : V) (u : Value) (Q : St → Hp → Prop), Inv X pins σ H s → RelV v u → t v σ H Q →
      wpAny (model X.prog X.w) X.A (assign target X.env u) (fun _ s' => ∃ σ' H', Inv X pins σ' H' s' ∧ Q σ' H') X.xe s
  ) := ⟨PG.run⟩
/-- several targets, one after another -/
structure PGs (X : Cx) (ts : List Expr) (t : TGs) : Prop where
  run :
    ∀ (pins : List (Addr × Obj)) (s : Shared) (σ : St) (H : Hp) (vs : List V) (us : List Value) (Q : St → Hp → Prop), Inv X pins σ H s → Vals vs us → t vs σ H Q →
      wpAny (model X.prog X.w) X.A (assignInOrder ((assignEach ts X.env).map (·.2)) us) (fun _ s' => ∃ σ' H', Inv X pins σ' H' s' ∧ Q σ' H') X.xe s
instance {X : Cx} {ts : List Expr} {t : TGs} : CoeFun (PGs X ts t) (fun _ =>
    ∀ (pins : List (Addr × Obj)) (s : Shared) (σ : St) (H : Hp) (vs : List V) (us : List Value) (Q : St → Hp → Prop), Inv X pins σ H s → Vals vs us → t vs σ H Q →
      wpAny (model X.prog X.w) X.A (assignInOrder ((assignEach ts X.env).map (·.2)) us) (fun _ s' => ∃ σ' H', Inv X pins σ' H' s' ∧ Q σ' H') X.xe s
  ) := ⟨PGs.run⟩
/-- o[i] = v, by values -/
abbrev TSet := V → V → V → Hp → (Hp → Prop) → Prop
def PSet (X : Cx) (t : TSet) : Prop :=
  ∀ (pins : List (Addr × Obj)) (s : Shared) (σ : St) (H : Hp) (o i v : V) (ov iv u : Value) (Q : Hp → Prop), Inv X pins σ H s → RelV o ov → RelV i iv → RelV v u → t o i v H Q →
    wpAny (model X.prog X.w) X.A (setItem ov iv u) (fun _ s' => ∃ H', Inv X pins σ H' s' ∧ Q H') X.xe s
/-- a op= b, by values -/
abbrev TIp := V → V → Hp → VK → Prop
def PIp (X : Cx) (op : Operator) (t : TIp) : Prop :=
  ∀ (pins : List (Addr × Obj)) (s : Shared) (σ : St) (H : Hp) (x y : V) (v u : Value) (Q : VK), Inv X pins σ H s → RelV x v → RelV y u → t x y H Q →
    wpAny (model X.prog X.w) X.A (inplaceOp op v u) (EP X pins σ Q) X.xe s
section
variable {X : Cx} {pos : Pos}
def gName (i : Nat) : TG := fun v σ H Q => Q (σ.set i (some v)) H
theorem pg_name {i : Nat} {x : Str} (hN : X.N.Nodup) (hi : X.N[i]? = some x) (hx : Loc X.env.scope x) (hf : X.fn x = true ∨ X.env.scope.names.lookup x = some .local := by first | exact .inl rfl | exact .inr rfl | assumption) : PG X (.Name x pos) (gName i) := by
  (first | constructor | skip)
  intro pins s σ H v u Q I r h
  exact wpAny_assign_Name (store_ok I hN hi hx r (fun s' I' => ⟨_, H, I', h⟩) hf)
def gNil : TGs := fun vs σ H Q => vs = [] ∧ Q σ H
def gCons (t : TG) (u : TGs) : TGs := fun vs σ H Q => ∃ v r, vs = v :: r ∧ t v σ H fun σ' H' => u r σ' H' Q
theorem pgs_nil : PGs X [] gNil := by
  (first | constructor | skip)
  intro pins s σ H vs us Q I r h
  obtain ⟨e, h⟩ := h
  subst e
  cases r
  exact assignInOrder_nil ⟨σ, H, I, h⟩
theorem pgs_cons {e : Expr} {es : List Expr} {t : TG} {u : TGs} (h1 : PG X e t) (h2 : PGs X es u)
    (hs : (assignEach (e :: es) X.env).map (·.2) = assign e X.env :: (assignEach es X.env).map (·.2) := by rfl) : PGs X (e :: es) (gCons t u) := by
  (first | constructor | skip)
  intro pins s σ H vs us Q I r h
  obtain ⟨v, vr, e1, h⟩ := h
  subst e1
  cases r with
  | cons r rr =>
    rw [hs]
    refine assignInOrder_cons (thn (h1 pins s σ H _ _ _ I r h) fun _ s1 ⟨σ1, H1, I1, q1⟩ => ?_)
    exact h2 pins s1 σ1 H1 _ _ Q I1 rr q1
/-- (a, b, ..) = a tuple of that length -/
def gTup (K : PySem.W.Frag) (n : Nat) (t : TGs) : TG := fun v σ H Q => ∃ a xs, v = .ref a ∧ SqT K H a xs ∧ xs.length = n ∧ t xs σ H Q
theorem pg_tup {es : List Expr} {k : Nat} {t : TGs} {n : Nat} (hc : X.calm = true) (h : PGs X es t)
    (hn : (assignEach es X.env).length = n := by rfl) (hst : (assignEach es X.env).findIdx? (·.1) = none := by rfl) : PG X (.Tuple es k pos) (gTup X.K n t) := by
  (first | constructor | skip)
  intro pins s σ H v u Q I r hw
  obtain ⟨a, xs, e1, hq, hl, hw⟩ := hw
  subst e1
  cases r
  obtain ⟨its, rv, ht, hz⟩ := I.tuple hq
  refine assign_Tuple_tuple (I.ok.hd hc) ht (by simp [hn, ← hl, rv.length]) hst fun h' hx => ?_
  have I1 : Inv X pins σ H { s with heap := h' } := I.kept (t' := s.toks) fun b o e => hx b o (Nat.ne_of_lt (Heap.lt_size e)) e
  exact h pins _ σ H xs _ Q I1 (by simpa using rv) hw
/-- o[i] = .. -/
def gSub (to ti : TE) (t : TSet) : TG := fun v σ H Q => to σ H fun o H1 => ti σ H1 fun i H2 => t o i v H2 fun H3 => Q σ H3
theorem pg_sub {o i : Expr} {to ti : TE} {t : TSet} (ho : PE X o to) (hi : PE X i ti) (hs : PSet X t)
    (ha : ∀ v, assign (.Subscript o i pos) X.env v = (do
      let ov ← holding [v] (eval o X.env)
      let iv ← holding [v, ov] (eval i X.env)
      standAt pos
      holding [v, ov, iv] (setItem ov iv v)
      release [v, ov, iv] []) := by intro _; rfl) : PG X (.Subscript o i pos) (gSub to ti t) := by
  (first | constructor | skip)
  intro pins s σ H v u Q I r h
  rw [ha]
  refine wpAny_bind (wpAny_holding (thn (ho pins s σ H _ I h) fun ov s1 ⟨x, H1, I1, r1, q1⟩ => ?_))
  refine wpAny_bind (wpAny_holding (thn (hi pins s1 σ H1 _ I1 q1) fun iv s2 ⟨y, H2, I2, r2, q2⟩ => ?_))
  refine wpAny_bind (wpAny_standAt (wpAny_bind (wpAny_holding (thn (hs pins s2 σ H2 x y v ov iv u _ I2 r1 r2 r q2) fun _ s3 ⟨H3, I3, q3⟩ => ?_))))
  exact wpAny_release ⟨σ, H3, I3, q3⟩
/-- target = value -/
def tAsg (te : TE) (g : TG) : TS := fun D σ H => te σ H fun x H1 => g x σ H1 D.nx
theorem ps_asg {tg e : Expr} {te : TE} {g : TG} (he : PE X e te) (hg : PG X tg g) (hs : swapsWithSole [tg] e pos.line X.env = pure false := by rfl) (hw : swappedStores [tg] e X.env = pure none := by rfl)
    (h1 : (assignEach [tg] X.env).map (·.2) = [assign tg X.env] := by rfl) : PS X (.Assign [tg] e pos) (tAsg te g) := by
  (first | constructor | skip)
  intro pins s σ H D I h
  refine wpAny_Assign_stores (thn (he pins s σ H _ I h) fun v s1 ⟨x, H1, I1, r1, q1⟩ => ?_) hs hw
  rw [h1]
  exact thn (hg pins s1 σ H1 x v _ I1 r1 q1) fun _ s2 q => q
/-- name = value -/
theorem ps_set {i : Nat} {x : Str} {e : Expr} {te : TE} {pos' : Pos} (hN : X.N.Nodup) (hi : X.N[i]? = some x) (hx : Loc X.env.scope x) (he : PE X e te) (hs : swapsWith e (some (.Name x pos')) pos.line X.env = pure false := by rfl) (hf : X.fn x = true ∨ X.env.scope.names.lookup x = some .local := by first | exact .inl rfl | exact .inr rfl | assumption) :
    PS X (.Assign [.Name x pos'] e pos) (tAsg te (gName i)) := by
  (first | constructor | skip)
  intro pins s σ H D I h
  refine wpAny_Assign_Name (thn (he pins s σ H _ I h) fun v s1 ⟨y, H1, I1, r1, q1⟩ => ?_) hs
  exact store_ok I1 hN hi hx r1 (fun s2 I2 => ⟨_, H1, I2, q1⟩) hf
/-- a, b = x, y with plain local names: stored from the right; the pair itself is not tracked (the opening rows as in PyProof/Rows/TupAssign.lean:23) -/
def tPar (i j : Nat) (ta : TA) : TS := fun D σ H => ta σ H fun vs H1 => ∃ v w, vs = [v, w] ∧ D.nx ((σ.set i (some v)).set j (some w)) H1
theorem ps_par {i j : Nat} {x y : Str} {a b : Expr} {ta : TA} {px py pt : Pos} {kt k2 pt2} (hc : X.calm = true) (hN : X.N.Nodup) (hi : X.N[i]? = some x) (hj : X.N[j]? = some y) (hij : i ≠ j)
    (hx : X.env.scope.names.lookup x = some .local) (hy : X.env.scope.names.lookup y = some .local) (ha : PA X [a, b] ta)
    (hw : swappedStores [.Tuple [.Name x px, .Name y py] kt pt] (.Tuple [a, b] k2 pt2) X.env = pure (some [x, y]))
    (hs : swapsWithSole [.Tuple [.Name x px, .Name y py] kt pt] (.Tuple [a, b] k2 pt2) pos.line X.env = pure false := by rfl) :
    PS X (.Assign [.Tuple [.Name x px, .Name y py] kt pt] (.Tuple [a, b] k2 pt2) pos) (tPar i j ta) := by
  (first | constructor | skip)
  intro pins s σ H D I h
  rw [exec_Assign_arm]
  refine wpAny_bind (wpAny_standAt ?_)
  rw [hs]
  refine wpAny_bind (wpAny_pure ?_)
  rw [if_neg (by decide)]
  refine wpAny_bind (Tuple_ (thn (ha _ pins s σ H _ I h) fun us s1 ⟨vs, H1, I1, r1, q1⟩ => ?_))
  obtain ⟨v, w, e1, q1⟩ := q1
  subst e1
  obtain ⟨u1, u2, rfl, rv, rw'⟩ : ∃ u1 u2, us = [u1, u2] ∧ RelV v u1 ∧ RelV w u2 := by
    cases r1 with
    | cons p q =>
      cases q with
      | cons p' q' =>
        cases q'
        exact ⟨_, _, rfl, p, p'⟩
  refine wpAny_newObj_type ?_ (by show 2 ≤ sizeLine; decide)
  have I2 : Inv X pins σ H1 { s1 with heap := s1.heap.push { cls := .type "tuple", data := .seq [u1, u2].toArray } } := I1.kept (t' := s1.toks) fun b o e => Heap.get?_push_of_some _ e
  rw [hw]
  refine wpAny_bind (wpAny_pure ?_)
  show wpAny (model X.prog X.w) X.A (do rule "assign.swapped-stores"; let items ← unpackItems (.ref s1.heap.objs.size) 2 none; assignInOrder [fun v => bindName X.env y v, fun v => bindName X.env x v] items.reverse; pure Flow.next) _ _ _
  refine wpAny_bind (wpAny_rule (wpAny_bind (unpackItems_tuple (items := #[u1, u2]) (I.ok.hd hc) (IsTup.new s1.heap _) fun h' hx' => ?_)))
  have I3 := I2.kept (h' := h') (t' := s1.toks) fun b o e => hx' b o (Nat.ne_of_lt (Heap.lt_size e)) e
  show wpAny _ _ (assignInOrder [fun v => bindName X.env y v, fun v => bindName X.env x v] [u2, u1] >>= fun _ => pure Flow.next) _ _ _
  refine wpAny_bind (assignInOrder_cons (wpAny_bindName (store_ok I3 hN hj (.inl hy) rw' (fun s2 I4 => ?_) (.inr hy))))
  refine assignInOrder_cons (wpAny_bindName (store_ok I4 hN hi (.inl hx) rv (fun s3 I5 => assignInOrder_nil (wpAny_pure ?_)) (.inr hx)))
  rw [List.set_comm _ _ (Ne.symm hij)] at I5
  exact ⟨_, H1, I5, q1⟩
/-- name op= e -/
def tAug (i : Nat) (te : TE) (ti : TIp) : TS := fun D σ H => ∃ x, σ[i]? = some (some x) ∧ te σ H fun y H1 => ti x y H1 fun z H2 => D.nx (σ.set i (some z)) H2
theorem ps_aug {i : Nat} {x : Str} {e : Expr} {te : TE} {op : Operator} {ti : TIp} {pos' : Pos} (hN : X.N.Nodup) (hi : X.N[i]? = some x) (hx : Loc X.env.scope x) (he : PE X e te) (ho : PIp X op ti) (hf : X.fn x = true ∨ X.env.scope.names.lookup x = some .local := by first | exact .inl rfl | exact .inr rfl | assumption) :
    PS X (.AugAssign (.Name x pos') op e pos) (tAug i te ti) := by
  (first | constructor | skip)
  intro pins s σ H D I h
  obtain ⟨v, e1, h⟩ := h
  obtain ⟨m, hn, hl⟩ := I.loc
  have vis : Vis X.env.scope x := by rcases hx with k | k; exact .inl k; exact .inr (.inl k)
  obtain ⟨u, r, l⟩ := hl i x v hi e1 vis
  refine wpAny_AugAssign_Name ?_
  have go : wpAny (model X.prog X.w) X.A (eval e X.env) (fun w s₂ => wpAny (model X.prog X.w) X.A (inplaceOp op u w) (fun r s₃ => wpAny (model X.prog X.w) X.A (storeName X.env x r) (fun _ => SP X pins D .next) X.xe s₃) X.xe s₂) X.xe s := by
    refine thn (he pins s σ H _ I h) fun w s1 ⟨y, H1, I1, r1, q1⟩ => ?_
    refine thn (ho pins s1 σ H1 v y u w _ I1 r r1 q1) fun z s2 ⟨zv, H2, I2, r2, q2⟩ => ?_
    exact store_ok I2 hN hi hx r2 (fun s3 I3 => ⟨_, H2, I3, q2⟩) hf
  rcases l with ⟨hk, hm⟩ | ⟨hk, c, hc, hcell⟩
  · exact wpAny_loadName_local I.ok.kind hk hn hm go
  · rcases hk with hk | hk
    · exact wpAny_loadName_cell I.ok.kind hk hc hcell go
    · rcases hx with k | k
      · have : X.env.scope.names.lookup x = some .free := hk
        rw [k] at this; cases this
      · have : X.env.scope.names.lookup x = some .free := hk
        rw [k] at this; cases this
/-- o[i] op= e -/
def tAugS (to ti te : TE) (tget : V → V → Hp → VK → Prop) (tip : TIp) (tset : TSet) : TS := fun D σ H => to σ H fun o H1 => ti σ H1 fun i H2 => tget o i H2 fun x H3 => te σ H3 fun y H4 => tip x y H4 fun z H5 => tset o i z H5 fun H6 => D.nx σ H6
/-- o[i], by values -/
def PGet (X : Cx) (t : V → V → Hp → VK → Prop) : Prop :=
  ∀ (pins : List (Addr × Obj)) (s : Shared) (σ : St) (H : Hp) (o i : V) (ov iv : Value) (Q : VK), Inv X pins σ H s → RelV o ov → RelV i iv → t o i H Q →
    wpAny (model X.prog X.w) X.A (getItem ov iv) (EP X pins σ Q) X.xe s
theorem ps_augS {o i e : Expr} {to ti te : TE} {tget : V → V → Hp → VK → Prop} {tip : TIp} {tset : TSet} {op : Operator} {tpos : Pos} (ho : PE X o to) (hi : PE X i ti) (hg : PGet X tget) (he : PE X e te) (hp : PIp X op tip) (hs : PSet X tset)
    (ha : ∀ ov iv new, augStore i ov iv new = (do holding [new, ov, iv] (setItem ov iv new); release [new, ov, iv] []; pure .next) := by intros; rfl) : PS X (.AugAssign (.Subscript o i tpos) op e pos) (tAugS to ti te tget tip tset) := by
  (first | constructor | skip)
  intro pins s σ H D I h
  refine wpAny_AugAssign_SubscriptAny (thn (ho pins s σ H _ I h) fun ov s1 ⟨x1, H1, I1, r1, q1⟩ => ?_) ha
  refine thn (hi pins s1 σ H1 _ I1 q1) fun iv s2 ⟨x2, H2, I2, r2, q2⟩ => ?_
  refine thn (hg pins s2 σ H2 x1 x2 ov iv _ I2 r1 r2 q2) fun old s3 ⟨x3, H3, I3, r3, q3⟩ => ?_
  refine thn (he pins s3 σ H3 _ I3 q3) fun v s4 ⟨x4, H4, I4, r4, q4⟩ => ?_
  refine thn (hp pins s4 σ H4 x3 x4 old v _ I4 r3 r4 q4) fun new s5 ⟨x5, H5, I5, r5, q5⟩ => ?_
  exact thn (hs pins s5 σ H5 x1 x2 x5 ov iv new _ I5 r1 r2 r5 q5) fun _ s6 ⟨H6, I6, q6⟩ => ⟨σ, H6, I6, q6⟩
/-- ints -/
def ipI (f : Int → Int → Int) : TIp := fun x y H Q => ∃ i j, x = .int i ∧ y = .int j ∧ Q (.int (f i j)) H
theorem ip_add : PIp X .Add (ipI fun i j => i + j) := by
  (first | constructor | skip)
  intro pins s σ H x y v u Q I r1 r2 h
  obtain ⟨i, j, e1, e2, q⟩ := h
  subst e1; subst e2
  obtain ⟨t, rfl⟩ := r1
  obtain ⟨t', rfl⟩ := r2
  exact iadd_int ⟨.int _, H, I.tok _, ⟨_, rfl⟩, q⟩
theorem ip_sub : PIp X .Sub (ipI fun i j => i - j) := by
  (first | constructor | skip)
  intro pins s σ H x y v u Q I r1 r2 h
  obtain ⟨i, j, e1, e2, q⟩ := h
  subst e1; subst e2
  obtain ⟨t, rfl⟩ := r1
  obtain ⟨t', rfl⟩ := r2
  exact isub_int ⟨.int _, H, I.tok _, ⟨_, rfl⟩, q⟩
end

/-! ### while -/
section
variable {X : Cx} {pos : Pos}
/-- the invariant W with its measure -/
def tWhile (c : TT) (tb : TS) : TS := fun D σ H => ∃ W : Nat → St → Hp → Prop, (∃ m, W m σ H) ∧ ∀ m σ H, W m σ H →
  c σ H fun b H1 => if b = true then ∃ N : St → Hp → Prop, (∀ σ' H', N σ' H' → ∃ m', m' < m ∧ W m' σ' H') ∧ tb { D with nx := N, ct := N, bk := D.nx } σ H1 else D.nx σ H1
theorem ps_while {c : Expr} {body : List Stmt} {tc : TT} {tb : TS} (hp : PassesOwn (model X.prog X.w) X.A X.env X.xe) (hc : PT X c tc) (hb : PSs X body tb) : PS X (.While c body [] pos) (tWhile tc tb) := by
  (first | constructor | skip)
  intro pins s σ H D I h
  obtain ⟨W, ⟨m0, w0⟩, turn⟩ := h
  refine wpAny_While (codeAny_whileLoop (fun n s' => ∃ σ' H', Inv X pins σ' H' s' ∧ W n σ' H') ?_ m0 ⟨σ, H, I, w0⟩)
  rintro n s1 ⟨σ1, H1, I1, w1⟩
  refine wpAny_passesOwn hp (thn (hc pins s1 σ1 H1 _ I1 (turn n σ1 H1 w1)) fun b s2 ⟨H2, I2, q2⟩ => ?_)
  cases b with
  | true =>
    obtain ⟨N, hN, q2⟩ := q2
    rw [if_pos rfl]
    refine wpAny_passesOwn hp (thn (hb pins s2 σ1 H2 _ I2 q2) fun f s3 q3 => ?_)
    cases f with
    | next =>
      obtain ⟨σ3, H3, I3, n3⟩ := q3
      obtain ⟨m', hm, w3⟩ := hN σ3 H3 n3
      exact ⟨m', hm, σ3, H3, I3, w3⟩
    | cont =>
      obtain ⟨σ3, H3, I3, n3⟩ := q3
      obtain ⟨m', hm, w3⟩ := hN σ3 H3 n3
      exact ⟨m', hm, σ3, H3, I3, w3⟩
    | brk => exact q3
    | ret v => exact q3
  | false =>
    rw [if_neg Bool.false_ne_true]
    exact wpAny_execs_nil ⟨σ1, H2, I2, q2⟩
end

/-! ### what a loop or a comprehension walks -/
/-- at turn i: it yields x (the heap may grow), or it stops -/
structure It where
  go : Nat → Hp → Prop
  yld : Nat → Hp → V → Hp → Prop
  stop : Nat → Hp → Prop
/-- the iterator's own objects may turn: they are not the frame's, not pinned, younger than the entry (or a comprehension's own) -/
def FpOk (X : Cx) (pins : List (Addr × Obj)) (H : Hp) (b : Addr) : Prop :=
  H b = none ∧ b ≠ X.env.locals ∧ b ∉ X.fs ∧ (b ∈ X.ex ∨ X.s₀.heap.objs.size ≤ b) ∧ (∀ x c, X.env.cells.lookup x = some c → c ≠ b) ∧ ∀ p ∈ X.pn ++ pins, p.1 ≠ b
theorem Inv.fpOk {X : Cx} {pins : List (Addr × Obj)} {σ : St} {H H' : Hp} {s : Shared} {b : Addr} (I : Inv X pins σ H s) (hb : s.heap.objs.size ≤ b) (hn : H' b = none) : FpOk X pins H' b := by
  refine ⟨hn, Nat.ne_of_gt (Nat.lt_of_lt_of_le I.lt hb), I.nofs hb, .inr (Nat.le_trans I.sz hb), fun x c e z => ?_, fun p hp z => ?_⟩
  · obtain ⟨v, q⟩ := I.cell x c e
    exact absurd (Nat.lt_of_lt_of_le q.lt (by rw [z]; exact hb)) (Nat.lt_irrefl _)
  · exact absurd (Nat.lt_of_lt_of_le (Heap.lt_size (I.pin p hp).1) (by rw [z]; exact hb)) (Nat.lt_irrefl _)
structure Turn (P : Program) (w : World) (K : PySem.W.Frag) (tg : Expr) (J : It) (fp : List Addr) (it : Addr) (tn : Nat → Heap → Prop) : Prop where
  mem : it ∈ fp
  obj : ∀ i h, tn i h → ∀ b ∈ fp, ∃ o, h.get? b = some o ∧ ∀ v, o.data ≠ .cell v
  keep : ∀ i h h', tn i h → (∀ b ∈ fp, ∀ o, h.get? b = some o → h'.get? b = some o) → tn i h'
  item : ∀ (X : Cx), X.prog = P → X.w = w → X.K = K → X.calm = true → ∀ (i : Nat) (pins : List (Addr × Obj)) (s : Shared) (σ : St) (H : Hp) (E : Value → Shared → Prop), Inv X pins σ H s → (∀ b ∈ fp, FpOk X pins H b) → tn i s.heap → J.go i H →
    wpAny (model P w) X.A (pyNext (.ref it)) (fun r s1 => ∃ u, r = some u ∧
      wpAny (model P w) X.A (letOwnedTupleGo tg (.ref it) u) (fun _ s2 => ∃ x H', Inv X pins σ H' s2 ∧ RelV x u ∧ J.yld i H x H' ∧ tn (i + 1) s2.heap ∧ ∀ b ∈ fp, H' b = none) E s1) E s
  done : ∀ (X : Cx), X.prog = P → X.w = w → X.K = K → X.calm = true → ∀ (i : Nat) (pins : List (Addr × Obj)) (s : Shared) (σ : St) (H : Hp) (E : Value → Shared → Prop), Inv X pins σ H s → (∀ b ∈ fp, FpOk X pins H b) → tn i s.heap → J.stop i H →
    wpAny (model P w) X.A (pyNext (.ref it)) (fun r s1 => r = none ∧ Inv X pins σ H s1) E s
  self : ∀ (A : Around) (i : Nat) (s : Shared) (Q : Value → Shared → Prop) (E : Value → Shared → Prop), tn i s.heap → Q (.ref it) s → wpAny (model P w) A (pyIter (.ref it)) Q E s
abbrev TI := St → Hp → (It → Hp → Prop) → Prop
/-- an iterator has come -/
def PIE (X : Cx) (pins : List (Addr × Obj)) (σ : St) (tg : Expr) (R : It → Hp → Prop) (itv : Value) (s2 : Shared) : Prop :=
  ∃ (it : Addr) (fp : List Addr) (tn : Nat → Heap → Prop) (J : It) (H' : Hp), itv = .ref it ∧ Inv X pins σ H' s2 ∧ Turn X.prog X.w X.K tg J fp it tn ∧ tn 0 s2.heap ∧ (∀ b ∈ fp, FpOk X pins H' b) ∧ R J H'
structure PI (X : Cx) (tg iter : Expr) (wi : TI) : Prop where
  run :
    ∀ (pins : List (Addr × Obj)) (s : Shared) (σ : St) (H : Hp) (R : It → Hp → Prop), Inv X pins σ H s → wi σ H R →
      wpAny (model X.prog X.w) X.A (eval iter X.env) (fun v s1 => wpAny (model X.prog X.w) X.A (pyIter v) (PIE X pins σ tg R) X.xe s1) X.xe s
instance {X : Cx} {tg iter : Expr} {wi : TI} : CoeFun (PI X tg iter wi) (fun _ =>
    ∀ (pins : List (Addr × Obj)) (s : Shared) (σ : St) (H : Hp) (R : It → Hp → Prop), Inv X pins σ H s → wi σ H R →
      wpAny (model X.prog X.w) X.A (eval iter X.env) (fun v s1 => wpAny (model X.prog X.w) X.A (pyIter v) (PIE X pins σ tg R) X.xe s1) X.xe s
  ) := ⟨PI.run⟩

/-- the step ahead of the store is nothing for an iterator that keeps no tuple -/
theorem go_of {M : Model} {A : Around} {E : Value → Shared → Prop} {s : Shared} {tg : Expr} {it : Addr} {u : Value} {o : Obj} {n : String} {vs : Array Value} {Q : Unit → Shared → Prop} (ho : s.heap.get? it = some o) (hc : o.cls = .type n) (hd : o.data = .fields vs)
    (hn : ["enumerate", "zip", "dict_itemiterator", "dict_reverseitemiterator", "odict_iterator", "itertools.zip_longest", "itertools.pairwise"].contains n = false) (hQ : Q () s) : wpAny M A (letOwnedTupleGo tg (.ref it) u) Q E s := by
  unfold letOwnedTupleGo
  cases tg <;> first
    | exact wpAny_pure hQ
    | (cases u <;> first
        | exact wpAny_pure hQ
        | (refine wpAny_bind (wpAny_load ho ?_)
           rw [hc, hd]
           show wpAny M A (if (["enumerate", "zip", "dict_itemiterator", "dict_reverseitemiterator", "odict_iterator", "itertools.zip_longest", "itertools.pairwise"].contains n && vs[0]? == some (rawInt _)) = true then _ else _) Q E s
           rw [if_neg (by intro h; rw [hn, Bool.false_and] at h; cases h)]
           exact wpAny_pure hQ))

/-- the list at a, as it stands at each turn (a loop may append to it) -/
def Itl (K : PySem.W.Frag) (a : Addr) : It :=
  ⟨fun i H => ∃ xs x, SqL K H a xs ∧ xs[i]? = some x, fun i H x H' => H' = H ∧ ∀ xs, SqL K H a xs → xs[i]? = some x, fun i H => ∃ xs, SqL K H a xs ∧ xs.length ≤ i⟩
def Itt (K : PySem.W.Frag) (a : Addr) : It :=
  ⟨fun i H => ∃ xs x, SqT K H a xs ∧ xs[i]? = some x, fun i H x H' => H' = H ∧ ∀ xs, SqT K H a xs → xs[i]? = some x, fun i H => ∃ xs, SqT K H a xs ∧ xs.length ≤ i⟩
/-- lo, lo + 1, .. (n of them) -/
def Itr (lo : Int) (n : Nat) : It := ⟨fun i _ => i < n, fun i H x H' => H' = H ∧ x = .int (lo + i), fun i _ => n ≤ i⟩
theorem turn_list {P : Program} {w : World} {K : PySem.W.Frag} {tg : Expr} (a it : Addr) : Turn P w K tg (Itl K a) [it] it (fun i h => h.IsListIter it a i) where
  mem := by simp
  obj := fun i h st b hb => by
    have e : b = it := by simpa using hb
    subst e
    obtain ⟨o, e, c, d⟩ := st
    exact ⟨o, e, fun v z => by rw [d] at z; cases z⟩
  keep := fun i h h' st k => st.at fun o e => k it (by simp) o e
  item := by
    intro X hP hw hK hc i pins s σ H E I hf st hg
    subst hP hw hK
    obtain ⟨xs, x, hq, hx⟩ := hg
    obtain ⟨its, rv, p, hz⟩ := I.list hq
    obtain ⟨u, hu, ru⟩ := rv.get hx
    obtain ⟨f0, f1, f2, f3, f4, f5⟩ := hf it (by simp)
    refine wpAny_pyNext_list_item st p.isList (x := u) (by simpa using hu) fun h' st' sb => ?_
    have I1 : Inv X pins σ H { s with heap := h' } := I.turned (t' := s.toks) (fun b o hb e => (sb.2 b hb).trans e) f0 f1 f3 f4 f5
    obtain ⟨o, e, c, d⟩ := id st'
    exact ⟨u, rfl, go_of (s := { s with heap := h' }) e c d (by decide) ⟨x, H, I1, ru, ⟨rfl, fun ys hy => by rw [I.list_inj hy hq]; exact hx⟩, st', fun b hb => (hf b hb).1⟩⟩
  done := by
    intro X hP hw hK hc i pins s σ H E I hf st hg
    subst hP hw hK
    obtain ⟨xs, hq, hx⟩ := hg
    obtain ⟨its, rv, p, hz⟩ := I.list hq
    obtain ⟨f0, f1, f2, f3, f4, f5⟩ := hf it (by simp)
    have hl := rv.length
    exact wpAny_pyNext_list_end (I.ok.hd hc) st p.isList (by simp; omega) fun h' eb => ⟨rfl, I.turned (t' := s.toks) (fun b o hb e => eb b o hb e) f0 f1 f3 f4 f5⟩
  self := fun _ _ _ _ _ st h => wpAny_pyIter_listiter st h
theorem turn_tuple {P : Program} {w : World} {K : PySem.W.Frag} {tg : Expr} (a it : Addr) : Turn P w K tg (Itt K a) [it] it (fun i h => h.IsTupleIter it a i) where
  mem := by simp
  obj := fun i h st b hb => by
    have e : b = it := by simpa using hb
    subst e
    obtain ⟨o, e, c, d⟩ := st
    exact ⟨o, e, fun v z => by rw [d] at z; cases z⟩
  keep := fun i h h' st k => st.at fun o e => k it (by simp) o e
  item := by
    intro X hP hw hK hc i pins s σ H E I hf st hg
    subst hP hw hK
    obtain ⟨xs, x, hq, hx⟩ := hg
    obtain ⟨its, rv, p, hz⟩ := I.tuple hq
    obtain ⟨u, hu, ru⟩ := rv.get hx
    obtain ⟨f0, f1, f2, f3, f4, f5⟩ := hf it (by simp)
    refine wpAny_pyNext_tuple_item st (show s.heap.IsTuple a its.toArray from p) (x := u) (by simpa using hu) fun h' st' sb => ?_
    have I1 : Inv X pins σ H { s with heap := h' } := I.turned (t' := s.toks) (fun b o hb e => (sb.2 b hb).trans e) f0 f1 f3 f4 f5
    obtain ⟨o, e, c, d⟩ := id st'
    exact ⟨u, rfl, go_of (s := { s with heap := h' }) e c d (by decide) ⟨x, H, I1, ru, ⟨rfl, fun ys hy => by rw [I.tuple_inj hy hq]; exact hx⟩, st', fun b hb => (hf b hb).1⟩⟩
  done := by
    intro X hP hw hK hc i pins s σ H E I hf st hg
    subst hP hw hK
    obtain ⟨xs, hq, hx⟩ := hg
    obtain ⟨its, rv, p, hz⟩ := I.tuple hq
    obtain ⟨f0, f1, f2, f3, f4, f5⟩ := hf it (by simp)
    have hl := rv.length
    exact wpAny_pyNext_tuple_end (I.ok.hd hc) st (show s.heap.IsTuple a its.toArray from p) (by simp; omega) fun h' eb => ⟨rfl, I.turned (t' := s.toks) (fun b o hb e => eb b o hb e) f0 f1 f3 f4 f5⟩
  self := fun _ _ _ _ _ st h => wpAny_pyIter_tupleiter st h
theorem turn_range {P : Program} {w : World} {K : PySem.W.Frag} {tg : Expr} (it : Addr) (lo : Int) (n : Nat) : Turn P w K tg (Itr lo n) [it] it (fun i h => IsRangeIter h it (lo + (i : Nat) * 1) ((n : Int) - (i : Nat)) 1) where
  mem := by simp
  obj := fun i h st b hb => by
    have e : b = it := by simpa using hb
    subst e
    exact ⟨_, st, fun v z => by
      have z' : Data.fields _ = Data.cell v := z
      cases z'⟩
  keep := fun i h h' st k => k it (by simp) _ st
  item := by
    intro X hP hw hK hc i pins s σ H E I hf st hg
    subst hP hw hK
    obtain ⟨f0, f1, f2, f3, f4, f5⟩ := hf it (by simp)
    have W := Walks.range (prog := X.prog) (w := X.w) (I.ok.hd hc) it lo 1 n
    refine W.item i s _ _ hg st fun v h' tk hv st' kk => ?_
    obtain ⟨t, rfl⟩ := hv
    have I1 : Inv X pins σ H { s with heap := h', toks := tk } := I.turned (fun b o hb e => kk b o (by simpa using hb) e) f0 f1 f3 f4 f5
    refine ⟨_, rfl, go_of (s := { s with heap := h', toks := tk }) (n := "range_iterator") st' rfl rfl (by decide) ⟨.int (lo + i), H, I1, ⟨t, ?_⟩, ⟨rfl, rfl⟩, st', fun b hb => (hf b hb).1⟩⟩
    rw [Int.mul_one]
  done := by
    intro X hP hw hK hc i pins s σ H E I hf st hg
    subst hP hw hK
    obtain ⟨f0, f1, f2, f3, f4, f5⟩ := hf it (by simp)
    exact wpAny_pyNext_range_end (I.ok.hd hc) st (by have : n ≤ i := hg; omega) fun h' eb => ⟨rfl, I.turned (t' := s.toks) (fun b o hb e => eb b o hb e) f0 f1 f3 f4 f5⟩
  self := fun _ _ _ _ _ st h => wpAny_pyIter_rangeiter st h
end L2

namespace L2
open PySem PySem.Spec PyProof.Rows
section
variable {X : Cx} {tg : Expr}
def iList (K : PySem.W.Frag) (tl : TE) : TI := fun σ H R => tl σ H fun x H1 => ∃ a, x = .ref a ∧ (∃ xs, SqL K H1 a xs) ∧ R (Itl K a) H1
def iTup (K : PySem.W.Frag) (tl : TE) : TI := fun σ H R => tl σ H fun x H1 => ∃ a, x = .ref a ∧ (∃ xs, SqT K H1 a xs) ∧ R (Itt K a) H1
theorem pi_list {l : Expr} {tl : TE} (hl : PE X l tl) : PI X tg l (iList X.K tl) := by
  (first | constructor | skip)
  intro pins s σ H R I h
  refine thn (hl pins s σ H _ I h) fun v s1 ⟨x, H1, I1, r1, q1⟩ => ?_
  obtain ⟨a, e, ⟨xs, hq⟩, q⟩ := q1
  subst e
  cases r1
  obtain ⟨its, rv, p, hz⟩ := I1.list hq
  refine wpAny_pyIter_list p.isList ?_
  refine ⟨s1.heap.objs.size, [s1.heap.objs.size], _, _, H1, rfl, I1.kept (t' := s1.toks) fun b o e => Heap.get?_push_of_some _ e, turn_list a _, ⟨_, Heap.get?_push_size _ rfl, rfl, rfl⟩, fun b hb => ?_, q⟩
  have e : b = s1.heap.objs.size := by simpa using hb
  subst e
  exact I1.fpOk (Nat.le_refl _) (I1.hok.fresh (Nat.le_refl _))
theorem pi_tup {l : Expr} {tl : TE} (hl : PE X l tl) : PI X tg l (iTup X.K tl) := by
  (first | constructor | skip)
  intro pins s σ H R I h
  refine thn (hl pins s σ H _ I h) fun v s1 ⟨x, H1, I1, r1, q1⟩ => ?_
  obtain ⟨a, e, ⟨xs, hq⟩, q⟩ := q1
  subst e
  cases r1
  obtain ⟨its, rv, p, hz⟩ := I1.tuple hq
  refine wpAny_pyIter_tuple (show s1.heap.IsTuple a its.toArray from p) ?_
  refine ⟨s1.heap.objs.size, [s1.heap.objs.size], _, _, H1, rfl, I1.kept (t' := s1.toks) fun b o e => Heap.get?_push_of_some _ e, turn_tuple a _, ⟨_, Heap.get?_push_size _ rfl, rfl, rfl⟩, fun b hb => ?_, q⟩
  have e : b = s1.heap.objs.size := by simpa using hb
  subst e
  exact I1.fpOk (Nat.le_refl _) (I1.hok.fresh (Nat.le_refl _))
/-- a range object just made, walked -/
theorem range_it {pins : List (Addr × Obj)} {σ : St} {H : Hp} {s : Shared} {R : It → Hp → Prop} {E : Value → Shared → Prop} {lo hi : Int} {t u v : Tok} {tk : Nat} (I : Inv X pins σ H s) (h1 : -(2 ^ 62) ≤ lo) (h2 : lo < 2 ^ 62) (h3 : -(2 ^ 62) ≤ hi) (h4 : hi < 2 ^ 62)
    (q : R (Itr lo (hi - lo).toNat) H) : wpAny (model X.prog X.w) X.A (pyIter (.ref s.heap.objs.size)) (PIE X pins σ tg R) E { s with heap := s.heap.push { cls := .type "range", data := .fields #[.int lo t, .int hi u, .int 1 v] }, toks := tk } := by
  refine wpAny_pyIter_range (IsRange.new ..) (small_one h1 h2 h3 h4) ?_
  have I1 : Inv X pins σ H { s with heap := s.heap.push { cls := .type "range", data := .fields #[.int lo t, .int hi u, .int 1 v] }, toks := tk } := I.kept fun b o e => Heap.get?_push_of_some _ e
  refine ⟨(s.heap.push { cls := .type "range", data := .fields #[.int lo t, .int hi u, .int 1 v] }).objs.size, [(s.heap.push { cls := .type "range", data := .fields #[.int lo t, .int hi u, .int 1 v] }).objs.size], _, _, H, rfl,
    I1.kept (t' := tk) fun b o e => Heap.get?_push_of_some _ e, turn_range _ lo (hi - lo).toNat, ?_, fun b hb => ?_, q⟩
  · have e1 : lo + ((0 : Nat) : Int) * 1 = lo := by simp
    have e2 : (((hi - lo).toNat : Nat) : Int) - ((0 : Nat) : Int) = Builtin.Range.rangeSize lo hi 1 := by rw [rangeSize_one]; split <;> omega
    show IsRangeIter _ _ (lo + ((0 : Nat) : Int) * 1) ((((hi - lo).toNat : Nat) : Int) - ((0 : Nat) : Int)) 1
    rw [e1, e2]
    exact Heap.get?_push_size _ rfl
  · have e : b = (s.heap.push { cls := .type "range", data := .fields #[.int lo t, .int hi u, .int 1 v] }).objs.size := by simpa using hb
    subst e
    exact I1.fpOk (Nat.le_refl _) (I1.hok.fresh (Nat.le_refl _))
def iRng1 (ta : TA) : TI := fun σ H R => ta σ H fun vs H1 => ∃ j : Int, vs = [.int j] ∧ -(2 ^ 62) ≤ j ∧ j < 2 ^ 62 ∧ R (Itr 0 j.toNat) H1
def iRng2 (ta : TA) : TI := fun σ H R => ta σ H fun vs H1 => ∃ i j : Int, vs = [.int i, .int j] ∧ (-(2 ^ 62) ≤ i ∧ i < 2 ^ 62 ∧ -(2 ^ 62) ≤ j ∧ j < 2 ^ 62) ∧ R (Itr i (j - i).toNat) H1
theorem pi_range1 {a : Expr} {ta : TA} {p pos : Pos} (hg : Gl X "range") (hm : X.mg "range" = none) (ha : PA X [a] ta) (hs : starEach [a] X.env = [(false, eval a X.env)] := by rfl) : PI X tg (.Call (.Name "range" p) [a] [] pos) (iRng1 ta) := by
  (first | constructor | skip)
  intro pins s σ H R I h
  refine Call_ (ld_blt I hg hm boot_range (PyProof.Rows.callWith_type1 (thn (ha pos pins s σ H _ I h) fun us s1 ⟨vs, H1, I1, r1, q1⟩ => ?_) hs rfl))
  obtain ⟨j, e, q1, q2, q⟩ := q1
  subst e
  cases r1 with
  | cons r rr =>
    cases rr
    obtain ⟨t, rfl⟩ := r
    exact call_range_1 (range_it I1 (by omega) (by omega) q1 q2 (by simpa using q))
theorem pi_range2 {a b : Expr} {ta : TA} {p pos : Pos} (hg : Gl X "range") (hm : X.mg "range" = none) (ha : PA X [a, b] ta) (hs : starEach [a, b] X.env = [(false, eval a X.env), (false, eval b X.env)] := by rfl) (hs2 : starEach [b] X.env = [(false, eval b X.env)] := by rfl) :
    PI X tg (.Call (.Name "range" p) [a, b] [] pos) (iRng2 ta) := by
  (first | constructor | skip)
  intro pins s σ H R I h
  refine Call_ (ld_blt I hg hm boot_range (PyProof.Rows.callWith_type1 (thn (ha pos pins s σ H _ I h) fun us s1 ⟨vs, H1, I1, r1, q1⟩ => ?_) (by rw [hs, hs2]) (by rw [hs2]; rfl)))
  obtain ⟨i, j, e, ⟨q1, q2, q3, q4⟩, q⟩ := q1
  subst e
  cases r1 with
  | cons r rr =>
    cases rr with
    | cons r' rr =>
      cases rr
      obtain ⟨t, rfl⟩ := r
      obtain ⟨t', rfl⟩ := r'
      exact call_range_2 (range_it I1 q1 q2 q3 q4 q)

/-! ### for -/
/-- W: the invariant by the turn and a measure; N: what the body is to reach -/
def tFor (wi : TI) (g : TG) (tb : TS) : TS := fun D σ H => wi σ H fun J H1 => ∃ W : Nat → Nat → St → Hp → Prop, (∃ m, W 0 m σ H1) ∧ ∀ i m σ H, W i m σ H →
  (J.stop i H ∧ D.nx σ H) ∨ (J.go i H ∧ ∃ N : St → Hp → Prop, (∀ σ' H', N σ' H' → ∃ m', m' < m ∧ W (i + 1) m' σ' H') ∧ ∀ x H', J.yld i H x H' → g x σ H' fun σ2 H2 => tb { D with nx := N, ct := N, bk := D.nx } σ2 H2)
/-- the records at fp as they stand -/
def pinsAt (fp : List Addr) (h : Heap) : List (Addr × Obj) := fp.filterMap fun b => (h.get? b).map fun o => (b, o)
theorem mem_pinsAt {fp : List Addr} {h : Heap} {b : Addr} {o : Obj} (hb : b ∈ fp) (e : h.get? b = some o) : (b, o) ∈ pinsAt fp h := List.mem_filterMap.mpr ⟨b, hb, by rw [e]; rfl⟩
theorem of_pinsAt {fp : List Addr} {h : Heap} {p : Addr × Obj} (hp : p ∈ pinsAt fp h) : p.1 ∈ fp ∧ h.get? p.1 = some p.2 := by
  obtain ⟨b, hb, e⟩ := List.mem_filterMap.mp hp
  cases q : h.get? b with
  | none => rw [q] at e; cases e
  | some o =>
    rw [q] at e
    have e' : (b, o) = p := Option.some.inj e
    subst e'
    exact ⟨hb, q⟩
theorem Inv.pinned {pins : List (Addr × Obj)} {σ : St} {H : Hp} {s : Shared} {fp : List Addr} (I : Inv X pins σ H s) (hf : ∀ b ∈ fp, FpOk X pins H b) (ho : ∀ b ∈ fp, ∃ o, s.heap.get? b = some o ∧ ∀ v, o.data ≠ .cell v) : Inv X (pins ++ pinsAt fp s.heap) σ H s :=
  I.pins_of fun p hp => (List.mem_append.mp hp).elim (fun z => I.pin p (List.mem_append_right _ z)) fun z => by
    obtain ⟨hb, e⟩ := of_pinsAt z
    obtain ⟨f0, f1, f2, _⟩ := hf p.1 hb
    obtain ⟨o, e', d⟩ := ho p.1 hb
    rw [e] at e'; cases e'
    exact ⟨e, f0, f1, f2, d⟩
theorem Inv.unpinned {pins pl : List (Addr × Obj)} {σ : St} {H : Hp} {s : Shared} (I : Inv X (pins ++ pl) σ H s) : Inv X pins σ H s := I.pins_of fun p hp => I.pin p (List.mem_append_right _ (List.mem_append_left _ hp))
theorem ps_for {iter : Expr} {body : List Stmt} {wi : TI} {g : TG} {tb : TS} {pos : Pos} (hp : PassesOwn (model X.prog X.w) X.A X.env X.xe) (hc : X.calm = true) (hi : PI X tg iter wi) (hg : PG X tg g) (hb : PSs X body tb)
    (hs : ∀ x, foldedSetIterable iter X.env x = pure x := by intro _; rfl) : PS X (.For tg iter body [] pos) (tFor wi g tb) := by
  (first | constructor | skip)
  intro pins s σ H D I h
  refine wpAny_For (thn (hi pins s σ H _ I h) fun v s1 h1 => thn h1 fun itv s2 h2 => ?_) hs
  obtain ⟨it, fp, tn, J, H2, e, I2, T, st2, f2, W, ⟨m0, w0⟩, turn⟩ := h2
  subst e
  -- what stays true of the iterator's objects through the loop
  have stat : ∀ {H' : Hp}, (∀ b ∈ fp, H' b = none) → ∀ b ∈ fp, FpOk X pins H' b := fun hn b hb => ⟨hn b hb, (f2 b hb).2⟩
  refine codeAny_forLoop_any (fun n s' => ∃ i σ' H', Inv X pins σ' H' s' ∧ tn i s'.heap ∧ (∀ b ∈ fp, H' b = none) ∧ W i n σ' H') ?_ m0 ⟨0, σ, H2, I2, st2, fun b hb => (f2 b hb).1, w0⟩
  rintro n s3 ⟨i, σ3, H3, I3, st3, fr3, w3⟩
  rcases turn i n σ3 H3 w3 with ⟨stop, qn⟩ | ⟨go, N, hN, step⟩
  · refine wpAny_passesOwn hp (thn (T.done X rfl rfl rfl hc i pins s3 σ3 H3 X.xe I3 (stat fr3) st3 stop) fun r s4 ⟨hr, I4⟩ => ?_)
    subst hr
    exact wpAny_execs_nil ⟨σ3, H3, I4, qn⟩
  · refine wpAny_passesOwn hp (thn (T.item X rfl rfl rfl hc i pins s3 σ3 H3 X.xe I3 (stat fr3) st3 go) fun r s4 ⟨u, hr, h4⟩ => ?_)
    subst hr
    refine wpAny_passesOwn hp (thn h4 fun _ s5 ⟨x, H5, I5, r5, y5, st5, fr5⟩ => ?_)
    have I5' := I5.pinned (stat fr5) (T.obj _ _ st5)
    refine wpAny_passesOwn hp (thn (hg _ s5 σ3 H5 x u _ I5' r5 (step x H5 y5)) fun _ s6 ⟨σ6, H6, I6, q6⟩ => ?_)
    refine wpAny_passesOwn hp (thn (hb _ s6 σ6 H6 _ I6 q6) fun f s7 q7 => ?_)
    have again : ∀ {σ7 : St} {H7 : Hp}, Inv X (pins ++ pinsAt fp s5.heap) σ7 H7 s7 → N σ7 H7 → ∃ m, m < n ∧ ∃ i σ' H', Inv X pins σ' H' s7 ∧ tn i s7.heap ∧ (∀ b ∈ fp, H' b = none) ∧ W i m σ' H' := fun {σ7 H7} I7 n7 => by
      obtain ⟨m', hm, w7⟩ := hN σ7 H7 n7
      refine ⟨m', hm, i + 1, σ7, H7, I7.unpinned, T.keep _ _ _ st5 fun b hb o e => (I7.pin (b, o) (List.mem_append_right _ (List.mem_append_right _ (mem_pinsAt hb e)))).1, fun b hb => ?_, w7⟩
      obtain ⟨o, e, d⟩ := T.obj _ _ st5 b hb
      exact (I7.pin (b, o) (List.mem_append_right _ (List.mem_append_right _ (mem_pinsAt hb e)))).2.1
    cases f with
    | next => obtain ⟨σ7, H7, I7, n7⟩ := q7; exact again I7 n7
    | cont => obtain ⟨σ7, H7, I7, n7⟩ := q7; exact again I7 n7
    | brk => obtain ⟨σ7, H7, I7, q7⟩ := q7; exact ⟨σ7, H7, I7.unpinned, q7⟩
    | ret v => obtain ⟨x7, σ7, H7, I7, r7, q7⟩ := q7; exact ⟨x7, σ7, H7, I7.unpinned, r7, q7⟩
end

/-! ### the forms one uses -/
/-- over a list that the body leaves as it is -/
theorem for_list {K : PySem.W.Frag} {a : Addr} {xs : List V} {g : TG} {tb : TS} {D : Ends} {σ : St} {H : Hp} (Pv : Nat → St → Hp → Prop) (h0 : Pv 0 σ H) (hl : ∀ i σ H, i ≤ xs.length → Pv i σ H → SqL K H a xs)
    (hs : ∀ i x σ H, xs[i]? = some x → Pv i σ H → g x σ H fun σ2 H2 => tb { D with nx := Pv (i + 1), ct := Pv (i + 1), bk := D.nx } σ2 H2) (hd : ∀ σ H, Pv xs.length σ H → D.nx σ H) :
    ∃ W : Nat → Nat → St → Hp → Prop, (∃ m, W 0 m σ H) ∧ ∀ i m σ H, W i m σ H →
      ((Itl K a).stop i H ∧ D.nx σ H) ∨ ((Itl K a).go i H ∧ ∃ N : St → Hp → Prop, (∀ σ' H', N σ' H' → ∃ m', m' < m ∧ W (i + 1) m' σ' H') ∧ ∀ x H', (Itl K a).yld i H x H' → g x σ H' fun σ2 H2 => tb { D with nx := N, ct := N, bk := D.nx } σ2 H2) := by
  refine ⟨fun i m σ H => m = xs.length - i ∧ i ≤ xs.length ∧ Pv i σ H, ⟨xs.length, by simp, Nat.zero_le _, h0⟩, ?_⟩
  rintro i m σ H ⟨rfl, hi, p⟩
  have q := hl i σ H hi p
  by_cases hlt : i < xs.length
  · refine .inr ⟨⟨xs, xs[i], q, by simp [hlt]⟩, Pv (i + 1), fun σ' H' p' => ⟨xs.length - (i + 1), by omega, rfl, hlt, p'⟩, fun x H' y => ?_⟩
    obtain ⟨e, y⟩ := y
    subst e
    exact hs i x σ _ (y xs q) p
  · have e : i = xs.length := by omega
    subst e
    exact .inl ⟨⟨xs, q, Nat.le_refl _⟩, hd σ H p⟩
theorem for_tup {K : PySem.W.Frag} {a : Addr} {xs : List V} {g : TG} {tb : TS} {D : Ends} {σ : St} {H : Hp} (Pv : Nat → St → Hp → Prop) (h0 : Pv 0 σ H) (hl : ∀ i σ H, i ≤ xs.length → Pv i σ H → SqT K H a xs)
    (hs : ∀ i x σ H, xs[i]? = some x → Pv i σ H → g x σ H fun σ2 H2 => tb { D with nx := Pv (i + 1), ct := Pv (i + 1), bk := D.nx } σ2 H2) (hd : ∀ σ H, Pv xs.length σ H → D.nx σ H) :
    ∃ W : Nat → Nat → St → Hp → Prop, (∃ m, W 0 m σ H) ∧ ∀ i m σ H, W i m σ H →
      ((Itt K a).stop i H ∧ D.nx σ H) ∨ ((Itt K a).go i H ∧ ∃ N : St → Hp → Prop, (∀ σ' H', N σ' H' → ∃ m', m' < m ∧ W (i + 1) m' σ' H') ∧ ∀ x H', (Itt K a).yld i H x H' → g x σ H' fun σ2 H2 => tb { D with nx := N, ct := N, bk := D.nx } σ2 H2) := by
  refine ⟨fun i m σ H => m = xs.length - i ∧ i ≤ xs.length ∧ Pv i σ H, ⟨xs.length, by simp, Nat.zero_le _, h0⟩, ?_⟩
  rintro i m σ H ⟨rfl, hi, p⟩
  have q := hl i σ H hi p
  by_cases hlt : i < xs.length
  · refine .inr ⟨⟨xs, xs[i], q, by simp [hlt]⟩, Pv (i + 1), fun σ' H' p' => ⟨xs.length - (i + 1), by omega, rfl, hlt, p'⟩, fun x H' y => ?_⟩
    obtain ⟨e, y⟩ := y
    subst e
    exact hs i x σ _ (y xs q) p
  · have e : i = xs.length := by omega
    subst e
    exact .inl ⟨⟨xs, q, Nat.le_refl _⟩, hd σ H p⟩
theorem for_range {lo : Int} {n : Nat} {g : TG} {tb : TS} {D : Ends} {σ : St} {H : Hp} (Pv : Nat → St → Hp → Prop) (h0 : Pv 0 σ H)
    (hs : ∀ i σ H, i < n → Pv i σ H → g (.int (lo + i)) σ H fun σ2 H2 => tb { D with nx := Pv (i + 1), ct := Pv (i + 1), bk := D.nx } σ2 H2) (hd : ∀ σ H, Pv n σ H → D.nx σ H) :
    ∃ W : Nat → Nat → St → Hp → Prop, (∃ m, W 0 m σ H) ∧ ∀ i m σ H, W i m σ H →
      ((Itr lo n).stop i H ∧ D.nx σ H) ∨ ((Itr lo n).go i H ∧ ∃ N : St → Hp → Prop, (∀ σ' H', N σ' H' → ∃ m', m' < m ∧ W (i + 1) m' σ' H') ∧ ∀ x H', (Itr lo n).yld i H x H' → g x σ H' fun σ2 H2 => tb { D with nx := N, ct := N, bk := D.nx } σ2 H2) := by
  refine ⟨fun i m σ H => m = n - i ∧ i ≤ n ∧ Pv i σ H, ⟨n, by simp, Nat.zero_le _, h0⟩, ?_⟩
  rintro i m σ H ⟨rfl, hi, p⟩
  by_cases hlt : i < n
  · refine .inr ⟨hlt, Pv (i + 1), fun σ' H' p' => ⟨n - (i + 1), by omega, rfl, hlt, p'⟩, fun x H' y => ?_⟩
    obtain ⟨e, y⟩ := y
    subst e y
    exact hs i σ _ hlt p
  · have e : i = n := by omega
    subst e
    exact .inl ⟨Nat.le_refl _, hd σ H p⟩
/-- while, by a word and a measure of the state -/
theorem while_by {c : TT} {tb : TS} {D : Ends} {σ : St} {H : Hp} (Pv : St → Hp → Prop) (μ : St → Hp → Nat) (h0 : Pv σ H)
    (hs : ∀ σ H, Pv σ H → c σ H fun b H1 => if b = true then tb { D with nx := fun σ' H' => Pv σ' H' ∧ μ σ' H' < μ σ H, ct := fun σ' H' => Pv σ' H' ∧ μ σ' H' < μ σ H, bk := D.nx } σ H1 else D.nx σ H1)
    (mono : ∀ σ H Q Q', (∀ b H1, Q b H1 → Q' b H1) → c σ H Q → c σ H Q') : tWhile c tb D σ H := by
  refine ⟨fun m σ H => m = μ σ H ∧ Pv σ H, ⟨_, rfl, h0⟩, ?_⟩
  rintro m σ H ⟨rfl, p⟩
  refine mono σ H _ _ (fun b H1 q => ?_) (hs σ H p)
  cases b with
  | true => exact ⟨_, fun σ' H' ⟨p', l⟩ => ⟨_, l, rfl, p'⟩, q⟩
  | false => exact q
end L2

namespace L2
open PySem PySem.Spec PyProof.Rows

abbrev R2 := V → V → Hp → VK → Prop
/-- a two-place operation on values: f is binaryOp op, inplaceOp op or compareOp op -/
def OpR (X : Cx) (f : Value → Value → Sem Value) (r : R2) : Prop :=
  ∀ (pins : List (Addr × Obj)) (s : Shared) (σ : St) (H : Hp) (x y : V) (v u : Value) (Q : VK), Inv X pins σ H s → RelV x v → RelV y u → r x y H Q →
    wpAny (model X.prog X.w) X.A (f v u) (EP X pins σ Q) X.xe s
/-- a one-place operation -/
def UnR (X : Cx) (f : Value → Sem Value) (r : V → Hp → VK → Prop) : Prop :=
  ∀ (pins : List (Addr × Obj)) (s : Shared) (σ : St) (H : Hp) (x : V) (v : Value) (Q : VK), Inv X pins σ H s → RelV x v → r x H Q →
    wpAny (model X.prog X.w) X.A (f v) (EP X pins σ Q) X.xe s
/-- a call of a value that is known (a builtin, a type) with values -/
def CallR (X : Cx) (f : Value) (r : List V → Hp → VK → Prop) : Prop :=
  ∀ (pins : List (Addr × Obj)) (s : Shared) (σ : St) (H : Hp) (xs : List V) (us : List Value) (Q : VK), Inv X pins σ H s → Vals xs us → r xs H Q →
    wpAny (model X.prog X.w) X.A (call f us) (EP X pins σ Q) X.xe s
/-- a value's truth -/
def TruR (X : Cx) (r : V → Hp → (Bool → Hp → Prop) → Prop) : Prop :=
  ∀ (pins : List (Addr × Obj)) (s : Shared) (σ : St) (H : Hp) (x : V) (v : Value) (Q : Bool → Hp → Prop), Inv X pins σ H s → RelV x v → r x H Q →
    wpAny (model X.prog X.w) X.A (truthy v) (TP X pins σ Q) X.xe s

def tOp (r : R2) (ta tb : TE) : TE := fun σ H Q => ta σ H fun x H1 => tb σ H1 fun y H2 => r x y H2 Q
def tUn (r : V → Hp → VK → Prop) (ta : TE) : TE := fun σ H Q => ta σ H fun x H1 => r x H1 Q
/-- ints in, under C, and a value out -/
def rI (C : Int → Int → Prop) (g : Int → Int → V) : R2 := fun x y H Q => ∃ i j, x = .int i ∧ y = .int j ∧ C i j ∧ Q (g i j) H
def rI0 (g : Int → Int → V) : R2 := fun x y H Q => ∃ i j, x = .int i ∧ y = .int j ∧ Q (g i j) H
def rU (g : Int → V) : V → Hp → VK → Prop := fun x H Q => ∃ i, x = .int i ∧ Q (g i) H

section
variable {X : Cx} {a b c : Expr} {ta tb tc : TE} {pos : Pos}

theorem binT (ha : PE X a ta) (hb : PE X b tb) {pins : List (Addr × Obj)} {s : Shared} {σ : St} {H : Hp} {R : V → V → Hp → Prop} (I : Inv X pins σ H s)
    (h : ta σ H fun x H1 => tb σ H1 fun y H2 => R x y H2) {Q : Value → Shared → Prop} {f : Value → Value → Sem Value}
    (hf : ∀ v u s2 x y H2, Inv X pins σ H2 s2 → RelV x v → RelV y u → R x y H2 → wpAny (model X.prog X.w) X.A (f v u) Q X.xe s2) :
    wpAny (model X.prog X.w) X.A (eval a X.env) (fun v s₁ => wpAny (model X.prog X.w) X.A (eval b X.env) (fun u s₂ => wpAny (model X.prog X.w) X.A (f v u) Q X.xe s₂) X.xe s₁) X.xe s := by
  refine thn (ha pins s σ H _ I h) fun v s1 ⟨x, H1, I1, r1, q1⟩ => ?_
  refine thn (hb pins s1 σ H1 _ I1 q1) fun u s2 ⟨y, H2, I2, r2, q2⟩ => ?_
  exact hf v u s2 x y H2 I2 r1 r2 q2

theorem pe_op {op : Operator} {r : R2} (ho : OpR X (binaryOp op) r) (ha : PE X a ta) (hb : PE X b tb) : PE X (.BinOp a op b pos) (tOp r ta tb) := by
  (first | constructor | skip)
  intro pins s σ H Q I h
  exact wpAny_BinOp (binT ha hb I h fun v u s2 x y H2 I2 rx ry q => ho pins s2 σ H2 x y v u Q I2 rx ry q)
theorem pe_un {op : UnaryOp} {r : V → Hp → VK → Prop} (ho : UnR X (unaryOp op) r) (ha : PE X a ta) : PE X (.UnaryOp op a pos) (tUn r ta) := by
  (first | constructor | skip)
  intro pins s σ H Q I h
  exact UnaryOp_ (thn (ha pins s σ H _ I h) fun v s1 ⟨x, H1, I1, r1, q1⟩ => ho pins s1 σ H1 x v Q I1 r1 q1)
/-- a op= e at a name: the name's slot i -/
theorem augR {op : Operator} {r : R2} (ho : OpR X (inplaceOp op) r) {pins : List (Addr × Obj)} {s : Shared} {σ : St} {H : Hp} {x y : V} {v u : Value} {Q : VK} (I : Inv X pins σ H s)
    (rx : RelV x v) (ry : RelV y u) (q : r x y H Q) : wpAny (model X.prog X.w) X.A (inplaceOp op v u) (EP X pins σ Q) X.xe s := ho pins s σ H x y v u Q I rx ry q

/-! ### ints -/
theorem opI {f : Value → Value → Sem Value} {C : Int → Int → Prop} {g : Int → Int → Int}
    (rule : ∀ (i j : Int) (t u : Tok) (s : Shared) (Q : Value → Shared → Prop) (E : Value → Shared → Prop), C i j → Q (.int (g i j) s.toks) { s with toks := s.toks + 1 } → wpAny (model X.prog X.w) X.A (f (.int i t) (.int j u)) Q E s) :
    OpR X f (rI C fun i j => .int (g i j)) := by
  (first | constructor | skip)
  intro pins s σ H x y v u Q I rx ry h
  obtain ⟨i, j, rfl, rfl, hc, q⟩ := h
  obtain ⟨t, rfl⟩ := rx
  obtain ⟨t', rfl⟩ := ry
  exact rule i j t t' s _ _ hc ⟨.int (g i j), H, I.tok _, ⟨_, rfl⟩, q⟩
theorem opI0 {f : Value → Value → Sem Value} {g : Int → Int → Int}
    (rule : ∀ (i j : Int) (t u : Tok) (s : Shared) (Q : Value → Shared → Prop) (E : Value → Shared → Prop), Q (.int (g i j) s.toks) { s with toks := s.toks + 1 } → wpAny (model X.prog X.w) X.A (f (.int i t) (.int j u)) Q E s) :
    OpR X f (rI0 fun i j => .int (g i j)) := by
  (first | constructor | skip)
  intro pins s σ H x y v u Q I rx ry h
  obtain ⟨i, j, rfl, rfl, q⟩ := h
  obtain ⟨t, rfl⟩ := rx
  obtain ⟨t', rfl⟩ := ry
  exact rule i j t t' s _ _ ⟨.int (g i j), H, I.tok _, ⟨_, rfl⟩, q⟩
theorem opB0 {f : Value → Value → Sem Value} {g : Int → Int → Bool}
    (rule : ∀ (i j : Int) (t u : Tok) (s : Shared) (Q : Value → Shared → Prop) (E : Value → Shared → Prop), Q (.bool (g i j)) s → wpAny (model X.prog X.w) X.A (f (.int i t) (.int j u)) Q E s) :
    OpR X f (rI0 fun i j => .bl (g i j)) := by
  (first | constructor | skip)
  intro pins s σ H x y v u Q I rx ry h
  obtain ⟨i, j, rfl, rfl, q⟩ := h
  obtain ⟨t, rfl⟩ := rx
  obtain ⟨t', rfl⟩ := ry
  exact rule i j t t' s _ _ ⟨.bl (g i j), H, I, rfl, q⟩

def CDiv (i j : Int) : Prop := 0 < j ∧ j < 1073741824
def CDivN (i j : Int) : Prop := j ≠ 0 ∧ j.natAbs < 1073741824
def CPow (i j : Int) : Prop := 0 ≤ j ∧ j ≤ 1000000 ∧ i.natAbs < 2 ^ 64
def CMul (i j : Int) : Prop := (-(2 ^ 64) < i ∧ i < 2 ^ 64) ∨ (-(2 ^ 64) < j ∧ j < 2 ^ 64)
theorem CMul.ok {i j : Int} (h : CMul i j) : IntMulOk i j := by
  rcases h with ⟨h1, h2⟩ | ⟨h1, h2⟩
  · exact .of_left (intBits_le_64 h1 h2)
  · exact .of_right (intBits_le_64 h1 h2)
theorem two_pow_nn (k : Nat) : (0 : Int) ≤ 2 ^ k := by
  rw [two_pow_cast]
  exact Int.natCast_nonneg _

theorem op_add : OpR X (binaryOp .Add) (rI0 fun i j => .int (i + j)) := opI0 fun _ _ _ _ _ _ _ q => add_int q
theorem op_sub : OpR X (binaryOp .Sub) (rI0 fun i j => .int (i - j)) := opI0 fun _ _ _ _ _ _ _ q => sub_int q
theorem op_mul : OpR X (binaryOp .Mult) (rI CMul fun i j => .int (i * j)) := opI fun _ _ _ _ _ _ _ hc q => mul_int q hc.ok
/-- // by a positive divisor -/
theorem op_fdiv : OpR X (binaryOp .FloorDiv) (rI CDiv fun i j => .int (i / j)) := opI fun i j _ _ _ _ _ hc q => by
  have h1 : (0 : Int) < j := hc.1
  have h2 : j < 1073741824 := hc.2
  exact floordiv_int (by omega) (by rw [Int.fdiv_eq_ediv_of_nonneg i (by omega)]; exact q) (.inl (PyProof.noPylong_small (by omega)))
theorem op_fdivN : OpR X (binaryOp .FloorDiv) (rI CDivN fun i j => .int (i.fdiv j)) := opI fun _ _ _ _ _ _ _ hc q => floordiv_int hc.1 q (.inl (PyProof.noPylong_small hc.2))
/-- % by a positive divisor of any size -/
theorem op_mod : OpR X (binaryOp .Mod) (rI (fun _ j => 0 < j) fun i j => .int (i % j)) := opI fun i j _ _ _ _ _ hc q => by
  have h1 : (0 : Int) < j := hc
  exact mod_int' (by omega) (by rw [Int.fmod_eq_emod_of_nonneg i (by omega)]; exact q)
theorem op_modN : OpR X (binaryOp .Mod) (rI (fun _ j => j ≠ 0) fun i j => .int (i.fmod j)) := opI fun _ _ _ _ _ _ _ hc q => mod_int' hc q
theorem op_pow : OpR X (binaryOp .Pow) (rI CPow fun i j => .int (i ^ j.toNat)) := opI fun _ _ _ _ _ _ _ hc q => pow_int_small hc.1 hc.2.1 hc.2.2 q
theorem op_shl : OpR X (binaryOp .LShift) (rI CPow fun i j => .int (i * 2 ^ j.toNat)) := opI fun _ _ _ _ _ _ _ hc q => lshift_int_small hc.1 hc.2.1 hc.2.2 q
theorem op_shr : OpR X (binaryOp .RShift) (rI (fun _ j => 0 ≤ j) fun i j => .int (i / 2 ^ j.toNat)) := opI fun i j _ _ _ _ _ hc q =>
  rshift_int hc (by rw [Int.fdiv_eq_ediv_of_nonneg i (two_pow_nn _)]; exact q)
theorem op_and : OpR X (binaryOp .BitAnd) (rI0 fun i j => .int (Builtin.bitAnd i j)) := opI0 fun _ _ _ _ _ _ _ q => and_int q
theorem op_or : OpR X (binaryOp .BitOr) (rI0 fun i j => .int (Builtin.bitOr i j)) := opI0 fun _ _ _ _ _ _ _ q => or_int q
theorem op_xor : OpR X (binaryOp .BitXor) (rI0 fun i j => .int (Builtin.bitXor i j)) := opI0 fun _ _ _ _ _ _ _ q => xor_int q

theorem iop_add : OpR X (inplaceOp .Add) (rI0 fun i j => .int (i + j)) := opI0 fun _ _ _ _ _ _ _ q => iadd_int q
theorem iop_sub : OpR X (inplaceOp .Sub) (rI0 fun i j => .int (i - j)) := opI0 fun _ _ _ _ _ _ _ q => isub_int q
theorem iop_mul : OpR X (inplaceOp .Mult) (rI CMul fun i j => .int (i * j)) := opI fun _ _ _ _ _ _ _ hc q => imul_int q hc.ok
theorem iop_fdiv : OpR X (inplaceOp .FloorDiv) (rI CDiv fun i j => .int (i / j)) := opI fun i j _ _ _ _ _ hc q => by
  have h1 : (0 : Int) < j := hc.1
  have h2 : j < 1073741824 := hc.2
  exact ifloordiv_int (by omega) (by rw [Int.fdiv_eq_ediv_of_nonneg i (by omega)]; exact q) (.inl (PyProof.noPylong_small (by omega)))
theorem iop_mod : OpR X (inplaceOp .Mod) (rI (fun _ j => 0 < j) fun i j => .int (i % j)) := opI fun i j _ _ _ _ _ hc q => by
  have h1 : (0 : Int) < j := hc
  exact imod_int (by omega) (by rw [Int.fmod_eq_emod_of_nonneg i (by omega)]; exact q)
theorem iop_shl : OpR X (inplaceOp .LShift) (rI CPow fun i j => .int (i * 2 ^ j.toNat)) := opI fun _ _ _ _ _ _ _ hc q => ilshift_int_small hc.1 hc.2.1 hc.2.2 q
theorem iop_shr : OpR X (inplaceOp .RShift) (rI (fun _ j => 0 ≤ j) fun i j => .int (i / 2 ^ j.toNat)) := opI fun i j _ _ _ _ _ hc q =>
  irshift_int hc (by rw [Int.fdiv_eq_ediv_of_nonneg i (two_pow_nn _)]; exact q)
theorem iop_and : OpR X (inplaceOp .BitAnd) (rI0 fun i j => .int (Builtin.bitAnd i j)) := opI0 fun _ _ _ _ _ _ _ q => iand_int q
theorem iop_or : OpR X (inplaceOp .BitOr) (rI0 fun i j => .int (Builtin.bitOr i j)) := opI0 fun _ _ _ _ _ _ _ q => ior_int q
theorem iop_xor : OpR X (inplaceOp .BitXor) (rI0 fun i j => .int (Builtin.bitXor i j)) := opI0 fun _ _ _ _ _ _ _ q => ixor_int q

theorem unI {f : Value → Sem Value} {g : Int → Int}
    (rule : ∀ (i : Int) (t : Tok) (s : Shared) (Q : Value → Shared → Prop) (E : Value → Shared → Prop), Q (.int (g i) s.toks) { s with toks := s.toks + 1 } → wpAny (model X.prog X.w) X.A (f (.int i t)) Q E s) :
    UnR X f (rU fun i => .int (g i)) := by
  (first | constructor | skip)
  intro pins s σ H x v Q I rx h
  obtain ⟨i, rfl, q⟩ := h
  obtain ⟨t, rfl⟩ := rx
  exact rule i t s _ _ ⟨.int (g i), H, I.tok _, ⟨_, rfl⟩, q⟩
theorem un_neg : UnR X (unaryOp .USub) (rU fun i => .int (-i)) := unI fun _ _ _ _ _ q => neg_int q
theorem un_inv : UnR X (unaryOp .Invert) (rU fun i => .int (Builtin.bitNot i)) := unI fun _ _ _ _ _ q => invert_int q

/-! ### bools among ints: n += (a < b) -/
theorem op_add_ib : OpR X (binaryOp .Add) (fun x y H Q => ∃ i k, x = .int i ∧ y = .bl k ∧ Q (.int (i + b2i k)) H) := by
  (first | constructor | skip)
  intro pins s σ H x y v u Q I rx ry h
  obtain ⟨i, k, rfl, rfl, q⟩ := h
  obtain ⟨t, rfl⟩ := rx
  cases ry
  exact add_int_bool ⟨.int (i + b2i k), H, I.tok _, ⟨_, rfl⟩, q⟩
end

/-! ### comparisons -/
/-- the scalars that == tells apart as data does -/
def scal : V → V → Bool
  | .non, .non => true | .non, .int _ => true | .int _, .non => true | .non, .bl _ => true | .bl _, .non => true | .non, .str _ => true | .str _, .non => true
  | .int _, .int _ => true | .bl _, .bl _ => true | .str _, .str _ => true | .byt _, .byt _ => true
  | .int _, .str _ => true | .str _, .int _ => true | .bl _, .str _ => true | .str _, .bl _ => true
  | _, _ => false
def rEq : R2 := fun x y H Q => scal x y = true ∧ Q (.bl (decide (x = y))) H
def rNe : R2 := fun x y H Q => scal x y = true ∧ Q (.bl (!decide (x = y))) H

theorem dec_int {i j : Int} : decide (V.int i = V.int j) = (i == j) := by
  rw [Bool.eq_iff_iff]
  simp
theorem dec_bl {i j : Bool} : decide (V.bl i = V.bl j) = (i == j) := by
  rw [Bool.eq_iff_iff]
  simp
theorem dec_str {i j : Str} : decide (V.str i = V.str j) = (i == j) := by
  rw [Bool.eq_iff_iff]
  simp
theorem dec_byt {i j : Array UInt8} : decide (V.byt i = V.byt j) = (i.toList == j.toList) := by
  rw [Bool.eq_iff_iff]
  cases i
  cases j
  simp

section
variable {X : Cx} {a b c : Expr} {ta tb tc : TE} {pos : Pos}
theorem fin_bl {pins : List (Addr × Obj)} {σ : St} {H : Hp} {s : Shared} {Q : VK} {k k' : Bool} (I : Inv X pins σ H s) (q : Q (.bl k) H) (e : k = k') : EP X pins σ Q (.bool k') s := by
  subst e
  exact ⟨.bl k, H, I, rfl, q⟩
theorem op_eq : OpR X (compareOp .Eq) rEq := by
  (first | constructor | skip)
  intro pins s σ H x y v u Q I rx ry h
  obtain ⟨hs, q⟩ := h
  cases x with
  | non =>
    cases rx
    cases y with
    | non => cases ry; exact PySem.EqNone.eq_none_none (fin_bl I q (by simp))
    | bl j => cases ry; exact PySem.EqNone.eq_none_bool (fin_bl I q (by simp))
    | int j => obtain ⟨t', rfl⟩ := ry; exact PySem.EqNone.eq_none_int (fin_bl I q (by simp))
    | str j => obtain ⟨t', rfl⟩ := ry; exact PySem.EqNone.eq_none_str (fin_bl I q (by simp))
    | _ => exact absurd (show false = true from hs) Bool.false_ne_true
  | bl i =>
    cases rx
    cases y with
    | non => cases ry; exact PySem.EqNone.eq_bool_none (fin_bl I q (by simp))
    | bl j => cases ry; exact eq_bool (fin_bl I q dec_bl)
    | str j => obtain ⟨t', rfl⟩ := ry; exact PySem.EqMixed.eq_bool_str (fin_bl I q (by simp))
    | _ => exact absurd (show false = true from hs) Bool.false_ne_true
  | int i =>
    obtain ⟨t, rfl⟩ := rx
    cases y with
    | non => cases ry; exact PySem.EqNone.eq_int_none (fin_bl I q (by simp))
    | int j => obtain ⟨t', rfl⟩ := ry; exact eq_int (fin_bl I q dec_int)
    | str j => obtain ⟨t', rfl⟩ := ry; exact PySem.EqMixed.eq_int_str (fin_bl I q (by simp))
    | _ => exact absurd (show false = true from hs) Bool.false_ne_true
  | str i =>
    obtain ⟨t, rfl⟩ := rx
    cases y with
    | non => cases ry; exact PySem.EqNone.eq_str_none (fin_bl I q (by simp))
    | bl j => cases ry; exact PySem.EqMixed.eq_str_bool (fin_bl I q (by simp))
    | int j => obtain ⟨t', rfl⟩ := ry; exact PySem.EqMixed.eq_str_int (fin_bl I q (by simp))
    | str j => obtain ⟨t', rfl⟩ := ry; exact eq_str (fin_bl I q dec_str)
    | _ => exact absurd (show false = true from hs) Bool.false_ne_true
  | byt i =>
    obtain ⟨t, rfl⟩ := rx
    cases y with
    | byt j => obtain ⟨t', rfl⟩ := ry; exact PySem.W.eq_bytes (fin_bl I q dec_byt)
    | _ => exact absurd (show false = true from hs) Bool.false_ne_true
  | _ => cases y <;> exact absurd (show false = true from hs) Bool.false_ne_true
theorem op_ne : OpR X (compareOp .NotEq) rNe := by
  (first | constructor | skip)
  intro pins s σ H x y v u Q I rx ry h
  obtain ⟨hs, q⟩ := h
  cases x with
  | non =>
    cases rx
    cases y with
    | non => cases ry; exact PySem.EqNone.ne_none_none (fin_bl I q (by simp))
    | bl j => cases ry; exact PySem.EqNone.ne_none_bool (fin_bl I q (by simp))
    | int j => obtain ⟨t', rfl⟩ := ry; exact PySem.EqNone.ne_none_int (fin_bl I q (by simp))
    | str j => obtain ⟨t', rfl⟩ := ry; exact PySem.EqNone.ne_none_str (fin_bl I q (by simp))
    | _ => exact absurd (show false = true from hs) Bool.false_ne_true
  | bl i =>
    cases rx
    cases y with
    | non => cases ry; exact PySem.EqNone.ne_bool_none (fin_bl I q (by simp))
    | bl j => cases ry; exact ne_bool (fin_bl I q (congrArg not dec_bl))
    | str j => obtain ⟨t', rfl⟩ := ry; exact PySem.EqMixed.ne_bool_str (fin_bl I q (by simp))
    | _ => exact absurd (show false = true from hs) Bool.false_ne_true
  | int i =>
    obtain ⟨t, rfl⟩ := rx
    cases y with
    | non => cases ry; exact PySem.EqNone.ne_int_none (fin_bl I q (by simp))
    | int j => obtain ⟨t', rfl⟩ := ry; exact ne_int (fin_bl I q (congrArg not dec_int))
    | str j => obtain ⟨t', rfl⟩ := ry; exact PySem.EqMixed.ne_int_str (fin_bl I q (by simp))
    | _ => exact absurd (show false = true from hs) Bool.false_ne_true
  | str i =>
    obtain ⟨t, rfl⟩ := rx
    cases y with
    | non => cases ry; exact PySem.EqNone.ne_str_none (fin_bl I q (by simp))
    | bl j => cases ry; exact PySem.EqMixed.ne_str_bool (fin_bl I q (by simp))
    | int j => obtain ⟨t', rfl⟩ := ry; exact PySem.EqMixed.ne_str_int (fin_bl I q (by simp))
    | str j => obtain ⟨t', rfl⟩ := ry; exact ne_str (fin_bl I q (congrArg not dec_str))
    | _ => exact absurd (show false = true from hs) Bool.false_ne_true
  | byt i =>
    obtain ⟨t, rfl⟩ := rx
    cases y with
    | byt j => obtain ⟨t', rfl⟩ := ry; exact PySem.W.ne_bytes (fin_bl I q (congrArg not dec_byt))
    | _ => exact absurd (show false = true from hs) Bool.false_ne_true
  | _ => cases y <;> exact absurd (show false = true from hs) Bool.false_ne_true

theorem op_lt : OpR X (compareOp .Lt) (rI0 fun i j => .bl (decide (i < j))) := opB0 fun _ _ _ _ _ _ _ q => lt_int q
theorem op_le : OpR X (compareOp .LtE) (rI0 fun i j => .bl (decide (i ≤ j))) := opB0 fun _ _ _ _ _ _ _ q => le_int q
theorem op_gt : OpR X (compareOp .Gt) (rI0 fun i j => .bl (decide (j < i))) := opB0 fun _ _ _ _ _ _ _ q => gt_int q
theorem op_ge : OpR X (compareOp .GtE) (rI0 fun i j => .bl (decide (j ≤ i))) := opB0 fun _ _ _ _ _ _ _ q => ge_int q
theorem op_lt_str : OpR X (compareOp .Lt) (fun x y H Q => ∃ i j, x = .str i ∧ y = .str j ∧ Q (.bl (decide (i.cps.toList < j.cps.toList))) H) := by
  (first | constructor | skip)
  intro pins s σ H x y v u Q I rx ry h
  obtain ⟨i, j, rfl, rfl, q⟩ := h
  obtain ⟨t, rfl⟩ := rx
  obtain ⟨t', rfl⟩ := ry
  exact lt_str (fin_bl I q rfl)
/-- the one string within the other -/
theorem op_in_str : OpR X (compareOp .In) (fun x y H Q => ∃ i j, x = .str i ∧ y = .str j ∧ Q (.bl (!(Builtin.Str.occurrences j i 0 j.length 1).isEmpty)) H) := by
  (first | constructor | skip)
  intro pins s σ H x y v u Q I rx ry h
  obtain ⟨i, j, rfl, rfl, q⟩ := h
  obtain ⟨t, rfl⟩ := rx
  obtain ⟨t', rfl⟩ := ry
  exact in_str (fin_bl I q rfl)

/-- is None, is not None: the right side a value none -/
theorem op_isN : OpR X (compareOp .Is) (fun x y H Q => y = .non ∧ Q (.bl (decide (x = .non))) H) := by
  (first | constructor | skip)
  intro pins s σ H x y v u Q I rx ry h
  obtain ⟨rfl, q⟩ := h
  cases ry
  refine is_none_gen (fin_bl I q ?_)
  cases x <;> first
    | (cases rx; rfl)
    | (obtain ⟨t, rfl⟩ := rx; rfl)
theorem op_notN : OpR X (compareOp .IsNot) (fun x y H Q => y = .non ∧ Q (.bl (!decide (x = .non))) H) := by
  (first | constructor | skip)
  intro pins s σ H x y v u Q I rx ry h
  obtain ⟨rfl, q⟩ := h
  cases ry
  refine isnot_none_gen (fin_bl I q ?_)
  cases x <;> first
    | (cases rx; rfl)
    | (obtain ⟨t, rfl⟩ := rx; rfl)

theorem op_notin_str : OpR X (compareOp .NotIn) (fun x y H Q => ∃ i j, x = .str i ∧ y = .str j ∧ Q (.bl (!(!(Builtin.Str.occurrences j i 0 j.length 1).isEmpty))) H) := by
  (first | constructor | skip)
  intro pins s σ H x y v u Q I rx ry h
  obtain ⟨i, j, rfl, rfl, q⟩ := h
  obtain ⟨t, rfl⟩ := rx
  obtain ⟨t', rfl⟩ := ry
  exact notIn_str (fin_bl I q rfl)
/-- is, is not of two objects that are tracked lists or instances -/
def isObj : HO → Bool
  | .lst _ => true
  | .ins _ _ _ => true
  | _ => false
theorem obj_there {pins : List (Addr × Obj)} {s : Shared} {σ : St} {H : Hp} {a : Addr} {o : HO} (I : Inv X pins σ H s) (h : H a = some o) (p : isObj o = true) : ∃ ob, s.heap.get? a = some ob ∧ ob.cls ≠ .type "tuple" := by
  cases o with
  | lst xs =>
    obtain ⟨_, its, n, _, e⟩ : xs.length ≤ sizeLine ∧ ∃ (its : List Value) (n : Nat), Vals xs its ∧ s.heap.get? a = some { cls := .type "list", data := .seq its.toArray n } := I.hok a _ h
    exact ⟨_, e, (by show Value.type "list" ≠ .type "tuple"; decide +kernel)⟩
  | ins C dx fs =>
    have x := I.hok a _ h
    obtain ⟨_, _, _, e, _⟩ := x
    exact ⟨_, e, (by show Value.ref C ≠ .type "tuple"; exact fun z => by cases z)⟩
  | _ => exact absurd (show false = true from p) Bool.false_ne_true
theorem op_is_ref : OpR X (compareOp .Is) (fun x y H Q => ∃ a b oa ob, x = .ref a ∧ y = .ref b ∧ H a = some oa ∧ isObj oa = true ∧ H b = some ob ∧ isObj ob = true ∧ Q (.bl (decide (a = b))) H) := by
  (first | constructor | skip)
  intro pins s σ H x y v u Q I rx ry h
  obtain ⟨a, b, oa, ob, rfl, rfl, ha, pa, hb, pb, q⟩ := h
  cases rx
  cases ry
  obtain ⟨o1, e1, n1⟩ := obj_there I ha pa
  obtain ⟨o2, e2, _⟩ := obj_there I hb pb
  by_cases z : a = b
  · subst z
    exact wpAny_is_ref_self (fin_bl I q (by simp))
  · exact wpAny_is_ref_other z e1 e2 n1 (fin_bl I q (by simp [z]))
theorem op_isnot_ref : OpR X (compareOp .IsNot) (fun x y H Q => ∃ a b oa ob, x = .ref a ∧ y = .ref b ∧ H a = some oa ∧ isObj oa = true ∧ H b = some ob ∧ isObj ob = true ∧ Q (.bl (!decide (a = b))) H) := by
  (first | constructor | skip)
  intro pins s σ H x y v u Q I rx ry h
  obtain ⟨a, b, oa, ob, rfl, rfl, ha, pa, hb, pb, q⟩ := h
  cases rx
  cases ry
  obtain ⟨o1, e1, n1⟩ := obj_there I ha pa
  obtain ⟨o2, e2, _⟩ := obj_there I hb pb
  by_cases z : a = b
  · subst z
    exact wpAny_isNot_ref_self (fin_bl I q (by simp))
  · exact wpAny_isNot_ref_other z e1 e2 n1 (fin_bl I q (by simp [z]))

/-- two rules for one operation: by cases -/
theorem OpR.or {f : Value → Value → Sem Value} {r r' : R2} (h : OpR X f r) (h' : OpR X f r') : OpR X f (fun x y H Q => r x y H Q ∨ r' x y H Q) := by
  (first | constructor | skip)
  intro pins s σ H x y v u Q I rx ry q
  rcases q with q | q
  · exact h pins s σ H x y v u Q I rx ry q
  · exact h' pins s σ H x y v u Q I rx ry q

theorem nomark (b : Expr) {op : CmpOp} (h : op ≠ .In := by decide) (h2 : op ≠ .NotIn := by decide) : behindInMarks op b = false := by
  have e1 : (op == CmpOp.In) = false := by cases op <;> first | rfl | exact absurd rfl h
  have e2 : (op == CmpOp.NotIn) = false := by cases op <;> first | rfl | exact absurd rfl h2
  cases b <;> simp [behindInMarks, e1, e2]
/-- a comparison as a value; hm: nomark b, or (for in, not in) by with_unfolding_all rfl -/
theorem pe_cmpR {op : CmpOp} {r : R2} (ho : OpR X (compareOp op) r) (ha : PE X a ta) (hb : PE X b tb) (hm : behindInMarks op b = false) : PE X (.Compare a [op] [b] pos) (tOp r ta tb) := by
  (first | constructor | skip)
  intro pins s σ H Q I h
  exact wpAny_Compare1 (binT ha hb I h fun v u s2 x y H2 I2 rx ry q => ho pins s2 σ H2 x y v u Q I2 rx ry q) hm
/-- a reading of a value as a test -/
def tTest (t : TE) : TT := fun σ H Q => t σ H fun x H' => ∃ k, x = .bl k ∧ Q k H'
theorem pt_cmpR {op : CmpOp} {r : R2} (ho : OpR X (compareOp op) r) (ha : PE X a ta) (hb : PE X b tb) (hm : behindInMarks op b = false) : PT X (.Compare a [op] [b] pos) (tTest (tOp r ta tb)) := by
  (first | constructor | skip)
  intro pins s σ H Q I h
  refine wpAny_isTrue_Compare1 (thn (ha pins s σ H _ I h) fun v s1 ⟨x, H1, I1, r1, q1⟩ => thn (hb pins s1 σ H1 _ I1 q1) fun u s2 ⟨y, H2, I2, r2, q2⟩ =>
    thn (ho pins s2 σ H2 x y v u _ I2 r1 r2 q2) fun c s3 ⟨z, H3, I3, r3, k, e, q3⟩ => ?_) hm
  subst e
  cases r3
  exact wpAny_truthy_bool ⟨H3, I3, q3⟩
/-- a op1 b op2 c -/
def tChain (r r' : R2) (ta tb tc : TE) : TE := fun σ H Q => ta σ H fun x H1 => tb σ H1 fun y H2 => r x y H2 fun z H3 => ∃ k, z = .bl k ∧
  (if k = true then tc σ H3 fun w' H4 => r' y w' H4 Q else Q (.bl false) H3)
theorem pe_chain {op op' : CmpOp} {r r' : R2} (ho : OpR X (compareOp op) r) (ho' : OpR X (compareOp op') r') (ha : PE X a ta) (hb : PE X b tb) (hc : PE X c tc)
    (hm : lastMarks [op, op'] [b, c] = false := by with_unfolding_all rfl) : PE X (.Compare a [op, op'] [b, c] pos) (tChain r r' ta tb tc) := by
  (first | constructor | skip)
  intro pins s σ H Q I h
  refine Compare_chain (thn (ha pins s σ H _ I h) fun v s1 ⟨x, H1, I1, r1, q1⟩ => chain_link (thn (hb pins s1 σ H1 _ I1 q1) fun u s2 ⟨y, H2, I2, r2, q2⟩ =>
    thn (ho pins s2 σ H2 x y v u _ I2 r1 r2 q2) fun d s3 ⟨z, H3, I3, r3, k, e, q3⟩ => ?_)) hm
  subst e
  cases r3
  refine wpAny_truthy_bool ?_
  cases k with
  | false => exact ite_ff ⟨.bl false, H3, I3, rfl, q3⟩
  | true => exact ite_tt (chain_last (thn (hc pins s3 σ H3 _ I3 q3) fun w' s4 ⟨z', H4, I4, r4, q4⟩ => ho' pins s4 σ H4 y z' u w' Q I4 r2 r4 q4))
theorem pt_chain {op op' : CmpOp} {r r' : R2} (ho : OpR X (compareOp op) r) (ho' : OpR X (compareOp op') r') (ha : PE X a ta) (hb : PE X b tb) (hc : PE X c tc)
    (hm : lastMarks [op, op'] [b, c] = false := by with_unfolding_all rfl) : PT X (.Compare a [op, op'] [b, c] pos) (tTest (tChain r r' ta tb tc)) := by
  (first | constructor | skip)
  intro pins s σ H Q I h
  refine isTrue_chain (thn (ha pins s σ H _ I h) fun v s1 ⟨x, H1, I1, r1, q1⟩ => test_link (thn (hb pins s1 σ H1 _ I1 q1) fun u s2 ⟨y, H2, I2, r2, q2⟩ =>
    thn (ho pins s2 σ H2 x y v u _ I2 r1 r2 q2) fun d s3 ⟨z, H3, I3, r3, k, e, q3⟩ => ?_)) hm
  subst e
  cases r3
  refine wpAny_truthy_bool ?_
  cases k with
  | false =>
    obtain ⟨k', e', q'⟩ := q3
    cases e'
    exact ite_ff ⟨H3, I3, q'⟩
  | true =>
    refine ite_tt (test_last (thn (hc pins s3 σ H3 _ I3 q3) fun w' s4 ⟨z', H4, I4, r4, q4⟩ => thn (ho' pins s4 σ H4 y z' u w' _ I4 r2 r4 q4) fun d' s5 ⟨z2, H5, I5, r5, k2, e2, q5⟩ => ?_))
    subst e2
    cases r5
    exact wpAny_truthy_bool ⟨H5, I5, q5⟩

/-! ### truth -/
/-- a value's truth by the abstract heap -/
def TruV (K : PySem.W.Frag) (x : V) (H : Hp) (k : Bool) : Prop :=
  match x with
  | .non => k = false
  | .bl b => k = b
  | .int i => k = (i != 0)
  | .str y => y.length ≤ sizeLine ∧ k = ((y.length : Int) != 0)
  | .byt y => y.size ≤ sizeLine ∧ k = ((y.size : Int) != 0)
  | .ref p => (∃ xs, SqL K H p xs ∧ k = !xs.isEmpty) ∨ (∃ xs, SqT K H p xs ∧ k = !xs.isEmpty) ∨ ∃ kvs, H p = some (.dK kvs) ∧ k = !kvs.isEmpty
  | _ => False
theorem isEmpty_kv {κ : Type} {kvs : List (κ × V)} {vs : List (κ × Value)} (r : KV kvs vs) : (!vs.isEmpty) = !kvs.isEmpty := by
  cases r <;> rfl
theorem isEmpty_of {xs : List V} {its : List Value} (r : Vals xs its) : (!its.toArray.isEmpty) = !xs.isEmpty := by
  cases r <;> simp
theorem line63 : (sizeLine : Nat) < 2 ^ 63 := by rw [sizeLine_eq]; decide
theorem tru_ok : TruR X (fun x H Q => ∃ k, TruV X.K x H k ∧ Q k H) := by
  (first | constructor | skip)
  intro pins s σ H x v Q I rx h
  obtain ⟨k, e, q⟩ := h
  have hl := line63
  have hs : sizeLine = 16777216 := sizeLine_eq
  cases x with
  | non =>
    cases rx
    have e' : k = false := e
    subst e'
    exact truthy_none ⟨H, I, q⟩
  | bl b =>
    cases rx
    have e' : k = b := e
    subst e'
    exact wpAny_truthy_bool ⟨H, I, q⟩
  | int i =>
    obtain ⟨t, rfl⟩ := rx
    have e' : k = (i != 0) := e
    subst e'
    exact PySem.P.truthy_int ⟨H, I, q⟩
  | str y =>
    obtain ⟨t, rfl⟩ := rx
    obtain ⟨hy, e'⟩ : y.length ≤ sizeLine ∧ k = ((y.length : Int) != 0) := e
    subst e'
    exact PySem.P.truthy_str (by omega) ⟨H, I.tok _, q⟩
  | byt y =>
    obtain ⟨t, rfl⟩ := rx
    obtain ⟨hy, e'⟩ : y.size ≤ sizeLine ∧ k = ((y.size : Int) != 0) := e
    subst e'
    exact PySem.W.truthy_bytes (by omega) ⟨H, I.tok _, q⟩
  | ref p =>
    cases rx
    have e' : (∃ xs, SqL X.K H p xs ∧ k = !xs.isEmpty) ∨ (∃ xs, SqT X.K H p xs ∧ k = !xs.isEmpty) ∨ ∃ kvs, H p = some (.dK kvs) ∧ k = !kvs.isEmpty := e
    rcases e' with ⟨xs, hx, e'⟩ | ⟨xs, hx, e'⟩ | ⟨kvs, hx, e'⟩
    · subst e'
      obtain ⟨its, r, pl, hz⟩ := I.list hx
      have hlen := r.length
      exact wpAny_truthy_list pl.isList (by simp only [List.size_toArray]; omega) ⟨H, I.tok _, by rw [isEmpty_of r]; exact q⟩
    · subst e'
      obtain ⟨its, r, pl, hz⟩ := I.tuple hx
      have hlen := r.length
      exact truthy_tuple pl (by simp only [List.size_toArray]; omega) ⟨H, I.tok _, by rw [isEmpty_of r]; exact q⟩
    · subst e'
      obtain ⟨hz, hS, vs, r, m⟩ : kvs.length ≤ sizeLine ∧ (p == sysModules) = false ∧ ∃ vs, KV kvs vs ∧ s.heap.DictOf (mixKind X.prog X.w) p vs := I.hok p _ hx
      have hlen : kvs.length = vs.length := Paired.length r
      exact wpAny_truthy_dict hS m (by omega) ⟨H, I.tok _, by rw [isEmpty_kv r]; exact q⟩
  | _ => exact (show False from e).elim
/-- any expression whose test is its value's truth (a name, a call, a subscript, a field ..: he by fun _ => rfl) -/
theorem pt_truth (ha : PE X a ta) (he : ∀ whole, isTrue a X.env whole = (do let v ← whole; standAt a.pos; holding [v] (truthy v))) :
    PT X a (fun σ H Q => ta σ H fun x H' => ∃ k, TruV X.K x H' k ∧ Q k H') := by
  (first | constructor | skip)
  intro pins s σ H Q I h
  exact isTrue_plain (thn (ha pins s σ H _ I h) fun v s1 ⟨x, H1, I1, r1, q1⟩ => tru_ok pins s1 σ H1 x v Q I1 r1 q1) (he _)

/-! ### strs and bytes -/
theorem pe_byt {x : List UInt8} {k : Nat} : PE X (.Constant (.bytes x) k pos) (fun _ H Q => Q (.byt x.toArray) H) := .mk fun _ _ _ H _ I h => PySem.W.Constant_bytes ⟨.byt x.toArray, H, I.tok _, ⟨_, rfl⟩, h⟩
theorem op_add_str : OpR X (binaryOp .Add) (fun x y H Q => ∃ i j, x = .str i ∧ y = .str j ∧ i.length + j.length ≤ sizeLine ∧ Q (.str (i ++ j)) H) := by
  (first | constructor | skip)
  intro pins s σ H x y v u Q I rx ry h
  obtain ⟨i, j, rfl, rfl, hz, q⟩ := h
  obtain ⟨t, rfl⟩ := rx
  obtain ⟨t', rfl⟩ := ry
  exact add_str (fun t' tk => ⟨.str (i ++ j), H, I.tok _, ⟨_, rfl⟩, q⟩) hz
theorem iop_add_str : OpR X (inplaceOp .Add) (fun x y H Q => ∃ i j, x = .str i ∧ y = .str j ∧ i.length + j.length ≤ sizeLine ∧ Q (.str (i ++ j)) H) := by
  (first | constructor | skip)
  intro pins s σ H x y v u Q I rx ry h
  obtain ⟨i, j, rfl, rfl, hz, q⟩ := h
  obtain ⟨t, rfl⟩ := rx
  obtain ⟨t', rfl⟩ := ry
  exact iadd_str (fun t' tk => ⟨.str (i ++ j), H, I.tok _, ⟨_, rfl⟩, q⟩) hz
theorem op_add_byt : OpR X (binaryOp .Add) (fun x y H Q => ∃ i j, x = .byt i ∧ y = .byt j ∧ i.size + j.size ≤ 16777216 ∧ Q (.byt (i ++ j)) H) := by
  (first | constructor | skip)
  intro pins s σ H x y v u Q I rx ry h
  obtain ⟨i, j, rfl, rfl, hz, q⟩ := h
  obtain ⟨t, rfl⟩ := rx
  obtain ⟨t', rfl⟩ := ry
  exact PySem.W.KBy.add_bytes hz (fun t' tk => ⟨.byt (i ++ j), H, I.tok _, ⟨_, rfl⟩, q⟩)

def PlainIxT (b : Expr) : Prop := ∀ o i, subscripted b false o i = operate [o, i] (getItem o i)
/-- s[i], 0 ≤ i < len -/
theorem pe_item_str (ha : PE X a ta) (hb : PE X b tb) (hs : PlainIxT b) :
    PE X (.Subscript a b pos) (tOp (fun x y H Q => ∃ z i c, x = .str z ∧ y = .int i ∧ 0 ≤ i ∧ i < 2 ^ 63 ∧ i < z.length ∧ z.cps[i.toNat]? = some c ∧ Q (.str ⟨#[c]⟩) H) ta tb) := by
  (first | constructor | skip)
  intro pins s σ H Q I h
  refine Subscript_ (binT ha hb I h fun v u s2 x y H2 I2 rx ry q => ?_)
  obtain ⟨z, i, c, rfl, rfl, h0, h63, h1, hc, q⟩ := q
  obtain ⟨t, rfl⟩ := rx
  obtain ⟨t', rfl⟩ := ry
  have e : seqIndex? i z.length = some i.toNat := PySem.StrLaws.seqIndex_nonneg h0 h1
  exact tail_any (typeIs_str s2 z t) slot_str_getitem.lookup (getItem_str (c := c) (by
    have e1 : decide (i < -(2 ^ 63 : Int)) = false := decide_eq_false (by omega)
    have e2 : decide (i ≥ 2 ^ 63) = false := decide_eq_false (by omega)
    rw [e1, e2] <;> rfl) (by rw [e]; exact hc) ⟨.str ⟨#[c]⟩, H2, I2.tok _, ⟨_, rfl⟩, q⟩) (hs _ _)
/-- b[i], 0 ≤ i < len -/
theorem pe_item_byt (ha : PE X a ta) (hb : PE X b tb) (hs : PlainIxT b) :
    PE X (.Subscript a b pos) (tOp (fun x y H Q => ∃ (z : List UInt8) (i : Int), x = .byt z.toArray ∧ y = .int i ∧ z.length ≤ sizeLine ∧ 0 ≤ i ∧ i < z.length ∧ Q (.int ((z.getD i.toNat 0).toNat : Nat)) H) ta tb) := by
  (first | constructor | skip)
  intro pins s σ H Q I h
  refine Subscript_ (binT ha hb I h fun v u s2 x y H2 I2 rx ry q => ?_)
  obtain ⟨z, i, rfl, rfl, hz, h0, h1, q⟩ := q
  obtain ⟨t, rfl⟩ := rx
  obtain ⟨t', rfl⟩ := ry
  have hl : sizeLine = 16777216 := sizeLine_eq
  exact tail_any (PySem.W.typeIs_bytes s2 z.toArray t) PySem.W.FB.slot_bytes_getitem.lookup (PySem.W.getItem_bytes (by omega) h0 h1 ⟨.int ((z.getD i.toNat 0).toNat : Nat), H2, I2.tok _, ⟨_, rfl⟩, q⟩) (hs _ _)

/-! ### scalar builtins, by CallR -/
theorem vals1 {x : V} {us : List Value} (r : Vals [x] us) : ∃ u, us = [u] ∧ RelV x u := by
  cases r with
  | cons r1 r2 => cases r2; exact ⟨_, rfl, r1⟩
theorem vals2 {x y : V} {us : List Value} (r : Vals [x, y] us) : ∃ u w', us = [u, w'] ∧ RelV x u ∧ RelV y w' := by
  cases r with
  | cons r1 r2 =>
    cases r2 with
    | cons r3 r4 => cases r4; exact ⟨_, _, rfl, r1, r3⟩
theorem call_abs : CallR X (.builtin "abs") (fun xs H Q => ∃ i, xs = [.int i] ∧ Q (.int (if i < 0 then -i else i)) H) := by
  (first | constructor | skip)
  intro pins s σ H xs us Q I r h
  obtain ⟨i, rfl, q⟩ := h
  obtain ⟨u, rfl, t, rfl⟩ := vals1 r
  exact call_abs_int fun u tk => ⟨.int (if i < 0 then -i else i), H, I.tok _, ⟨_, rfl⟩, q⟩
theorem call_max2 (hc : X.calm = true) : CallR X (.builtin "max") (fun xs H Q => ∃ i j, xs = [.int i, .int j] ∧ Q (.int (if j > i then j else i)) H) := by
  (first | constructor | skip)
  intro pins s σ H xs us Q I r h
  obtain ⟨i, j, rfl, q⟩ := h
  obtain ⟨u, w', rfl, ⟨t, rfl⟩, ⟨t', rfl⟩⟩ := vals2 r
  refine max_two_ints (I.ok.hd hc) fun h' tk k => ⟨_, H, I.kept k, ?_, q⟩
  by_cases hj : j > i
  · rw [if_pos hj, if_pos hj]; exact ⟨_, rfl⟩
  · rw [if_neg hj, if_neg hj]; exact ⟨_, rfl⟩
theorem call_min2 (hc : X.calm = true) : CallR X (.builtin "min") (fun xs H Q => ∃ i j, xs = [.int i, .int j] ∧ Q (.int (if j < i then j else i)) H) := by
  (first | constructor | skip)
  intro pins s σ H xs us Q I r h
  obtain ⟨i, j, rfl, q⟩ := h
  obtain ⟨u, w', rfl, ⟨t, rfl⟩, ⟨t', rfl⟩⟩ := vals2 r
  refine min_two_ints (I.ok.hd hc) fun h' tk k => ⟨_, H, I.kept k, ?_, q⟩
  by_cases hj : j < i
  · rw [if_pos hj, if_pos hj]; exact ⟨_, rfl⟩
  · rw [if_neg hj, if_neg hj]; exact ⟨_, rfl⟩
theorem call_int1 : CallR X (.type "int") (fun xs H Q => (∃ i, xs = [.int i] ∧ Q (.int i) H) ∨ ∃ k, xs = [.bl k] ∧ Q (.int (if k then 1 else 0)) H) := by
  (first | constructor | skip)
  intro pins s σ H xs us Q I r h
  rcases h with ⟨i, rfl, q⟩ | ⟨k, rfl, q⟩
  · obtain ⟨u, rfl, t, rfl⟩ := vals1 r
    exact call_int_int ⟨.int i, H, I, ⟨_, rfl⟩, q⟩
  · obtain ⟨u, rfl, r1⟩ := vals1 r
    cases r1
    exact call_int_bool ⟨.int (if k then 1 else 0), H, I.tok _, ⟨_, rfl⟩, q⟩
theorem call_bool1 : CallR X (.type "bool") (fun xs H Q => (∃ i, xs = [.int i] ∧ Q (.bl (i != 0)) H) ∨ ∃ k, xs = [.bl k] ∧ Q (.bl k) H) := by
  (first | constructor | skip)
  intro pins s σ H xs us Q I r h
  rcases h with ⟨i, rfl, q⟩ | ⟨k, rfl, q⟩
  · obtain ⟨u, rfl, t, rfl⟩ := vals1 r
    exact call_bool_int ⟨.bl (i != 0), H, I, rfl, q⟩
  · obtain ⟨u, rfl, r1⟩ := vals1 r
    cases r1
    exact call_bool_bool ⟨.bl k, H, I, rfl, q⟩
theorem call_str_int : CallR X (.type "str") (fun xs H Q => ∃ i, xs = [.int i] ∧ i.natAbs.log2 < 1920 ∧ Q (.str (toString i)) H) := by
  (first | constructor | skip)
  intro pins s σ H xs us Q I r h
  obtain ⟨i, rfl, hz, q⟩ := h
  obtain ⟨u, rfl, t, rfl⟩ := vals1 r
  exact PySem.P.str_of_int hz ⟨.str _, H, I.tok _, ⟨_, rfl⟩, q⟩
theorem call_ord : CallR X (.builtin "ord") (fun xs H Q => ∃ x, xs = [.str x] ∧ x.length = 1 ∧ Q (.int (x.cps.getD 0 0 : Nat)) H) := by
  (first | constructor | skip)
  intro pins s σ H xs us Q I r h
  obtain ⟨x, rfl, hz, q⟩ := h
  obtain ⟨u, rfl, t, rfl⟩ := vals1 r
  exact ord_of_one hz ⟨.int _, H, I.tok _, ⟨_, rfl⟩, q⟩
theorem call_chr : CallR X (.builtin "chr") (fun xs H Q => ∃ i, xs = [.int i] ∧ 0 ≤ i ∧ i ≤ 1114111 ∧ Q (.str ⟨#[i.toNat]⟩) H) := by
  (first | constructor | skip)
  intro pins s σ H xs us Q I r h
  obtain ⟨i, rfl, h0, h1, q⟩ := h
  obtain ⟨u, rfl, t, rfl⟩ := vals1 r
  exact chr_of_range h0 h1 ⟨.str _, H, I.tok _, ⟨_, rfl⟩, q⟩
/-- len of a str, a bytes, a list, a tuple -/
def LenV (K : PySem.W.Frag) (x : V) (H : Hp) (n : Nat) : Prop :=
  match x with
  | .str y => y.length ≤ sizeLine ∧ n = y.length
  | .byt y => y.size ≤ sizeLine ∧ n = y.size
  | .ref p => (∃ xs, SqL K H p xs ∧ n = xs.length) ∨ ∃ xs, SqT K H p xs ∧ n = xs.length
  | _ => False
theorem call_len : CallR X (.builtin "len") (fun xs H Q => ∃ x n, xs = [x] ∧ LenV X.K x H n ∧ Q (.int n) H) := by
  (first | constructor | skip)
  intro pins s σ H xs us Q I r h
  obtain ⟨x, n, rfl, e, q⟩ := h
  obtain ⟨u, rfl, rx⟩ := vals1 r
  have hl := line63
  have hs : sizeLine = 16777216 := sizeLine_eq
  cases x with
  | str y =>
    obtain ⟨t, rfl⟩ := rx
    obtain ⟨hy, e'⟩ : y.length ≤ sizeLine ∧ n = y.length := e
    subst e'
    exact len_str (by omega) ⟨.int _, H, I.tok _, ⟨_, rfl⟩, q⟩
  | byt y =>
    obtain ⟨t, rfl⟩ := rx
    obtain ⟨hy, e'⟩ : y.size ≤ sizeLine ∧ n = y.size := e
    subst e'
    exact PySem.W.len_bytes (by omega) ⟨.int _, H, I.tok _, ⟨_, rfl⟩, q⟩
  | ref p =>
    cases rx
    have e' : (∃ xs, SqL X.K H p xs ∧ n = xs.length) ∨ ∃ xs, SqT X.K H p xs ∧ n = xs.length := e
    rcases e' with ⟨xs, hx, e'⟩ | ⟨xs, hx, e'⟩
    · subst e'
      obtain ⟨its, r', pl, hz⟩ := I.list hx
      have hlen := r'.length
      exact Calls.call_len_list pl.isList (by simp only [List.size_toArray]; omega) ⟨.int xs.length, H, I.tok _, ⟨_, by simp only [List.size_toArray]; rw [hlen]⟩, q⟩
    · subst e'
      obtain ⟨its, r', pl, hz⟩ := I.tuple hx
      have hlen := r'.length
      exact len_tuple pl (by simp only [List.size_toArray]; omega) ⟨.int xs.length, H, I.tok _, ⟨_, by simp only [List.size_toArray]; rw [hlen]⟩, q⟩
  | _ => exact (show False from e).elim
/-- divmod: a new tuple -/
theorem call_divmod : CallR X (.builtin "divmod") (fun xs H Q => ∃ i j, xs = [.int i, .int j] ∧ CDiv i j ∧ ∀ p, H p = none → Q (.ref p) (upd H p (.tup [.int (i / j), .int (i % j)]))) := by
  (first | constructor | skip)
  intro pins s σ H xs us Q I r h
  obtain ⟨i, j, rfl, ⟨h1, h2⟩, q⟩ := h
  obtain ⟨u, w', rfl, ⟨t, rfl⟩, ⟨t', rfl⟩⟩ := vals2 r
  refine divmod_int (by omega) ?_ (.inl (PyProof.noPylong_small (by omega)))
  rw [Int.fdiv_eq_ediv_of_nonneg i (by omega), Int.fmod_eq_emod_of_nonneg i (by omega)]
  have hn : H s.heap.objs.size = none := I.hok.fresh (Nat.le_refl _)
  refine ⟨.ref s.heap.objs.size, _, ?_, rfl, q _ hn⟩
  refine I.laid (fun b o e => Heap.get?_push_of_some _ e) (Nat.le_refl _) ⟨by simp only [List.length_cons, List.length_nil]; rw [sizeLine_eq]; decide, [.int (i / j) s.toks, .int (i % j) (s.toks + 1)], .cons ⟨_, rfl⟩ (.cons ⟨_, rfl⟩ .nil), ?_⟩
  exact ⟨_, Heap.get?_push_size s.heap rfl, rfl, 0, rfl⟩
end
end L2

namespace L2
open PySem PySem.Spec PyProof.Rows

/-! ### an instance, its attributes a map -/
structure ObjM (h : Heap) (x dx C : Addr) (mA : Str → Option Value) : Prop where
  obj : h.get? x = some (PySem.W.instObj C dx)
  ns : h.Ns1 dx mA
  ne : dx ≠ x

theorem lookIn_ns {h : Heap} {dx : Addr} {mA : Str → Option Value} (n : h.Ns1 dx mA) : ∃ od, h.get? dx = some od ∧ ∀ name, PySem.W.lookIn name od = some (mA name) := by
  obtain ⟨o, es, ep, ho, hd, hk, _, hm⟩ := n
  refine ⟨o, ho, fun name => ?_⟩
  have e := hm name
  unfold nsFind findBy at e
  rw [← Array.find?_toList] at e
  unfold PySem.W.lookIn
  rw [hd]
  dsimp only
  split
  · rename_i y q
    rw [q] at e
    exact congrArg some e
  · rename_i q
    rw [q] at e
    have a : es.toList.any (·.refKey) = false := by
      rw [List.any_eq_false]
      intro y hy
      obtain ⟨z, t, hkey⟩ := hk y (Array.mem_toList_iff.mp hy)
      simp [DictEntry.refKey, hkey]
    have a' : ¬ es.toList.any (·.refKey) = true := by rw [a]; exact Bool.false_ne_true
    rw [if_neg a']
    exact congrArg some e

theorem ObjM.look {h : Heap} {x dx C : Addr} {mA : Str → Option Value} (I : ObjM h x dx C mA) : ∃ od, PySem.W.InstAt h x (PySem.W.instObj C dx) C (some od) ∧ ∀ name, PySem.W.lookIn name od = some (mA name) :=
  let ⟨od, ho, hl⟩ := lookIn_ns I.ns
  ⟨od, ⟨I.obj, rfl, rfl, ho⟩, hl⟩

section
variable {prog : Program} {w : World} {A : Around} {E : Value → Shared → Prop} {s : Shared} {K : PySem.W.Frag} {x dx C f : Addr} {mA : Str → Option Value} {name : Str} {v : Value}

theorem get_map {expr : Bool} {Q : Value → Shared → Prop} (X : K.In s.heap) (I : ObjM s.heap x dx C mA) (hg : PySem.W.plainGet K C name = true) (hh : PySem.W.hasDictIn K C = true)
    (ha : PySem.W.findIn K (.ref C) name = some none) (hv : mA name = some v) (hv' : PySem.W.handedIn v = true) (h : Q v { s with toks := s.toks + 1 }) :
    wpAny (model prog w) A (getAttr (.ref x) name expr) Q E s := by
  obtain ⟨od, J, hl⟩ := I.look
  exact PySem.W.get_value X J (PySem.W.plainGet_of hg).1 (PySem.W.findObj_own hh ha rfl (by rw [hl, hv])) hv' h

theorem get_const {expr : Bool} {a : Value} {Q : Value → Shared → Prop} (X : K.In s.heap) (I : ObjM s.heap x dx C mA) (hg : PySem.W.plainGet K C name = true) (hh : PySem.W.hasDictIn K C = true)
    (ha : PySem.W.findIn K (.ref C) name = some (some a)) (hn : PySem.W.specialIn K a "__get__" = some none) (hc : PySem.W.copiedNames.contains name = false) (hv : mA name = none) (hv' : PySem.W.handedIn a = true)
    (h : Q a { s with toks := s.toks + 1 }) : wpAny (model prog w) A (getAttr (.ref x) name expr) Q E s := by
  obtain ⟨od, J, hl⟩ := I.look
  exact PySem.W.get_value X J (PySem.W.plainGet_of hg).1 (PySem.W.findObj_cls hh ha hn hv' hc (by rw [hl, hv])) hv' h

theorem get_meth {pl : Sem Bool} {Q : Value × List Value → Shared → Prop} (X : K.In s.heap) (I : ObjM s.heap x dx C mA) (hg : PySem.W.plainGet K C name = true)
    (hf : PySem.W.findIn K (.ref C) name = some (some (.ref f))) (ht : PySem.W.isFn K (.ref f) = true) (hv : mA name = none) (h : Q (.ref f, [.ref x]) s) :
    wpAny (model prog w) A (getMethod (.ref x) name pl) Q E s := by
  obtain ⟨od, J, hl⟩ := I.look
  exact PySem.W.method_fn X J (PySem.W.plainGet_of hg).1 (PySem.W.plainGet_of hg).2 hf (beq_iff_eq.mp ht) (by show (PySem.W.lookIn name od).map (·.isSome) = some false; rw [hl, hv]; rfl) h

theorem set_map {ns : List Str} {Q : Unit → Shared → Prop} (X : K.In s.heap) (I : ObjM s.heap x dx C mA)
    (hs : PySem.W.findIn K (.ref C) "__setattr__" = some (some (.builtin "object.__setattr__"))) (hp : PySem.W.plainOver K C = true) (ht : PySem.W.takerIn K C name = some none) (hh : PySem.W.hasDictIn K C = true)
    (hw : PySem.Within mA ns) (hsz : ns.length ≤ sizeLine)
    (h : ∀ h', ObjM h' x dx C (fun y => if y = name then some v else mA y) → Heap.SameBut dx s.heap h' → Q () { s with heap := h', toks := s.toks + 2 }) :
    wpAny (model prog w) A (setAttr (.ref x) name v) Q E s := by
  obtain ⟨od, J, hl⟩ := I.look
  refine PySem.W.set_plain X J hs (PySem.W.osa_open (s := { s with toks := s.toks + 1 }) (r := none) X J hp ht fun b => ?_)
  obtain ⟨cd, hc, hd'⟩ := PySem.W.any_some hh
  have hx : s.heap.get? x = some ⟨.ref C, some dx, .plain, #[]⟩ := I.obj
  refine wpAny_bind (wpAny_pure (wpAny_bind (wpAny_bind (wpAny_loadPart hx (wpAny_bind (PySem.W.Looks.here (s := { s with toks := s.toks + 1 }) (PySem.W.looks_clsIn X hc) ?_))))))
  rw [hd']
  refine wpAny_pure (a := some dx) (wpAny_bind (wpAny_pure (wpAny_bind ?_)))
  refine wpAny_nsSet1 (s := { s with toks := s.toks + 1 }) I.ns fun h' hn2 hs2 => ?_
  obtain ⟨oD, esD, epD, hoD, hdD, hcD⟩ := hn2.count (PySem.Within.cons name v hw)
  refine wpAny_bind (wpAny_lookBehind hoD (by rw [hdD]; exact pastItsLine_dict (Nat.le_trans hcD (by rw [List.length_cons]; omega))) ?_)
  exact wpAny_pure (h _ ⟨(hs2.2 _ (Ne.symm I.ne)).trans I.obj, hn2, I.ne⟩ hs2)

/-- C(..): the dict at the heap's end, the instance behind it; then its __init__ -/
theorem make_map {R : Result → Shared → Prop} {vs : List Value} {kw : List (Str × Value)} (X : K.In s.heap) (hm : PySem.W.makesIn K C = true)
    (hi : PySem.W.findIn K (.ref C) "__init__" = some (some (.ref f))) (hf : PySem.W.typeIn K (.ref f) = some (.type "function"))
    (h : codeAny (model prog w) (A.under (.builtin "type.__call__" ⟨.ref C :: vs, kw⟩)) (.call (.ref f) ⟨.ref (s.heap.objs.size + 1) :: vs, kw⟩) (PySem.W.InitBack (s.heap.objs.size + 1) R)
      { s with heap := (s.heap.push PySem.W.emptyDict).push (PySem.W.instObj C s.heap.objs.size) }) :
    codeAny (model prog w) A (.call (.ref C) ⟨vs, kw⟩) R s := by
  obtain ⟨hh, g, d, t, os⟩ := s
  exact PySem.W.make_core (PySem.W.makes_of X hm) (PySem.W.looks_findIn X hi) (fun self => PySem.W.bind_fn X self hf) (.inl rfl) h
/-- C() where there is no __init__ but object's -/
theorem make_map0 {R : Result → Shared → Prop} (X : K.In s.heap) (hm : PySem.W.makesIn K C = true)
    (hi : PySem.W.findIn K (.ref C) "__init__" = some (some (.builtin "object.__init__")))
    (hb : ∀ self, PySem.W.Looks (model prog w) s.heap (bindSpecial (.builtin "object.__init__") self) (.builtin "object.__init__", [self]))
    (h : codeAny (model prog w) (A.under (.builtin "type.__call__" ⟨[.ref C], []⟩)) (.call (.builtin "object.__init__") ⟨[.ref (s.heap.objs.size + 1)], []⟩) (PySem.W.InitBack (s.heap.objs.size + 1) R)
      { s with heap := (s.heap.push PySem.W.emptyDict).push (PySem.W.instObj C s.heap.objs.size) }) :
    codeAny (model prog w) A (.call (.ref C) ⟨[], []⟩) R s := by
  obtain ⟨hh, g, d, t, os⟩ := s
  exact PySem.W.make_core (PySem.W.makes_of X hm) (PySem.W.looks_findIn X hi) hb (.inr ⟨rfl, rfl⟩) h
end

/-! ### the attributes as a list of pairs -/
def putF (f : Str) (v : V) : List (Str × V) → List (Str × V)
  | [] => [(f, v)]
  | (g, x) :: r => if g = f then (g, v) :: r else (g, x) :: putF f v r
theorem lookup_putF (f g : Str) (v : V) : ∀ fs : List (Str × V), (putF f v fs).lookup g = if g = f then some v else fs.lookup g
  | [] => by
    show List.lookup g [(f, v)] = _
    by_cases h : g = f
    · have hb : (g == f) = true := beq_iff_eq.mpr h
      simp only [List.lookup, hb, if_pos h]
    · have hb : (g == f) = false := beq_eq_false_iff_ne.mpr h
      simp only [List.lookup, hb, if_neg h]
  | (k, x) :: r => by
    have ih := lookup_putF f g v r
    rw [show putF f v ((k, x) :: r) = (if k = f then (k, v) :: r else (k, x) :: putF f v r) from rfl]
    by_cases hk : k = f
    · rw [if_pos hk]
      by_cases h : g = k
      · have hb : (g == k) = true := beq_iff_eq.mpr h
        simp only [List.lookup, hb, if_pos (h.trans hk)]
      · have hb : (g == k) = false := beq_eq_false_iff_ne.mpr h
        simp only [List.lookup, hb, if_neg (fun e : g = f => h (e.trans hk.symm))]
    · rw [if_neg hk]
      by_cases h : g = k
      · have hb : (g == k) = true := beq_iff_eq.mpr h
        simp only [List.lookup, hb, if_neg (fun e : g = f => hk (h.symm.trans e))]
      · have hb : (g == k) = false := beq_eq_false_iff_ne.mpr h
        simp only [List.lookup, hb]
        exact ih
theorem keys_putF (f : Str) (v : V) : ∀ fs : List (Str × V), f ∈ (putF f v fs).map (·.1) ∧ ∀ g, g ∈ fs.map (·.1) → g ∈ (putF f v fs).map (·.1)
  | [] => ⟨by simp [putF], fun g h => by simp at h⟩
  | (k, x) :: r => by
    obtain ⟨i1, i2⟩ := keys_putF f v r
    rw [show putF f v ((k, x) :: r) = (if k = f then (k, v) :: r else (k, x) :: putF f v r) from rfl]
    by_cases hk : k = f
    · rw [if_pos hk]
      subst hk
      exact ⟨by simp, fun g h => by simpa using h⟩
    · rw [if_neg hk]
      refine ⟨?_, fun g h => ?_⟩
      · rw [List.map_cons]
        exact List.mem_cons_of_mem _ i1
      · rw [List.map_cons] at h ⊢
        rcases List.mem_cons.mp h with e | e
        · exact List.mem_cons.mpr (.inl e)
        · exact List.mem_cons_of_mem _ (i2 g e)
theorem length_putF (f : Str) (v : V) : ∀ fs : List (Str × V), (putF f v fs).length ≤ fs.length + 1
  | [] => by simp [putF]
  | (k, x) :: r => by
    have ih := length_putF f v r
    rw [show putF f v ((k, x) :: r) = (if k = f then (k, v) :: r else (k, x) :: putF f v r) from rfl]
    by_cases hk : k = f
    · rw [if_pos hk, List.length_cons, List.length_cons]; omega
    · rw [if_neg hk, List.length_cons, List.length_cons]; omega

theorem RelO.some_of {v : V} {o : Option Value} (r : RelO (some v) o) : ∃ u, o = some u ∧ RelV v u := by
  cases o with
  | none => exact (show False from r).elim
  | some u => exact ⟨u, rfl, r⟩
theorem RelO.none_of {o : Option Value} (r : RelO none o) : o = none := by
  cases o with
  | none => rfl
  | some u => exact (show False from r).elim
theorem handed_of {v : V} {u : Value} (r : RelV v u) : PySem.W.handedIn u = true := by
  cases v with
  | non => cases (show u = Value.none from r); rfl
  | bl b => cases (show u = Value.bool b from r); rfl
  | int i => obtain ⟨t, e⟩ := (show ∃ t, u = Value.int i t from r); cases e; rfl
  | str x => obtain ⟨t, e⟩ := (show ∃ t, u = Value.str x t from r); cases e; rfl
  | byt b => obtain ⟨t, e⟩ := (show ∃ t, u = Value.bytes b t from r); cases e; rfl
  | flt b => obtain ⟨t, e⟩ := (show ∃ t, u = Value.float b t from r); cases e; rfl
  | ref a => cases (show u = Value.ref a from r); rfl
  | ty n => cases (show u = Value.type n from r); rfl

section
variable {P : Program} {w : World} {H H' : Hp} {h h' : Heap} {a C dx : Addr} {fs fs' : List (Str × V)}
theorem ins_get (hok : HOk P w H h) (e : H a = some (.ins C dx fs)) : ∃ mA, ObjM h a dx C mA ∧ (∀ f, RelO (fs.lookup f) (mA f)) ∧ PySem.Within mA (fs.map (·.1)) ∧ fs.length ≤ 1000 ∧ H dx = some (.own a) := by
  obtain ⟨d, z, ne, ob, mA, n, r, q⟩ := (show ObjOk P w H h a (.ins C dx fs) from hok a _ e)
  exact ⟨mA, ⟨ob, n, ne⟩, r, q, z, d⟩
end

/-! ### what of the text a class must have -/
structure Cls (K : PySem.W.Frag) (C : Addr) : Prop where
  pg : PySem.W.plainGet K C Str.empty = true
  hd : PySem.W.hasDictIn K C = true
  po : PySem.W.plainOver K C = true
  sa : PySem.W.findIn K (.ref C) "__setattr__" = some (some (.builtin "object.__setattr__"))
theorem Cls.get {K : PySem.W.Frag} {C : Addr} (c : Cls K C) (f : Str) : PySem.W.plainGet K C f = true := c.pg
/-- no class of it has the name -/
def NoAttr (K : PySem.W.Frag) (C : Addr) (f : Str) : Prop := PySem.W.findIn K (.ref C) f = some none
theorem NoAttr.taker {K : PySem.W.Frag} {C : Addr} {f : Str} (n : NoAttr K C f) : PySem.W.takerIn K C f = some none := by
  unfold PySem.W.takerIn
  rw [show PySem.W.findIn K (.ref C) f = some none from n]
  rfl
/-- a constant of the class -/
structure Con (K : PySem.W.Frag) (C : Addr) (f : Str) (v : V) (u : Value) : Prop where
  at_ : PySem.W.findIn K (.ref C) f = some (some u)
  rel : RelV v u
  get : PySem.W.specialIn K u "__get__" = some none
  cp : PySem.W.copiedNames.contains f = false
/-- a method: a plain def of the class or of one above it -/
structure Meth (K : PySem.W.Frag) (C : Addr) (m : Str) (f : Addr) : Prop where
  at_ : PySem.W.findIn K (.ref C) m = some (some (.ref f))
  fn : PySem.W.isFn K (.ref f) = true
  kp : PySem.W.keepIn K (.ref f) = true

section
variable {X : Cx} {pins : List (Addr × Obj)} {σ : St} {H : Hp} {s : Shared} {a C dx : Addr} {fs : List (Str × V)} {f : Str} {v : V} {A : Around} {E : Value → Shared → Prop}

theorem getattr_ok {b : Bool} {Q : Value → Shared → Prop} (I : Inv X pins σ H s) (e : H a = some (.ins C dx fs)) (c : Cls X.K C) (n : NoAttr X.K C f) (l : fs.lookup f = some v)
    (h : ∀ u s', Inv X pins σ H s' → RelV v u → Q u s') : wpAny (model X.prog X.w) A (getAttr (.ref a) f b) Q E s := by
  obtain ⟨mA, O, r, _, _, _⟩ := ins_get I.hok e
  obtain ⟨u, hu, ru⟩ := RelO.some_of (v := v) (o := mA f) (by rw [← l]; exact r f)
  exact get_map I.kIn O (c.get f) c.hd n hu (handed_of ru) (h u _ (I.tok _) ru)

theorem getcon_ok {b : Bool} {u : Value} {Q : Value → Shared → Prop} (I : Inv X pins σ H s) (e : H a = some (.ins C dx fs)) (c : Cls X.K C) (k : Con X.K C f v u) (l : fs.lookup f = none)
    (h : ∀ s', Inv X pins σ H s' → Q u s') : wpAny (model X.prog X.w) A (getAttr (.ref a) f b) Q E s := by
  obtain ⟨mA, O, r, _, _, _⟩ := ins_get I.hok e
  have hn : mA f = none := RelO.none_of (by rw [← l]; exact r f)
  exact get_const I.kIn O (c.get f) c.hd k.at_ k.get k.cp hn (handed_of k.rel) (h _ (I.tok _))

theorem getmeth_ok {m : Str} {g : Addr} {pl : Sem Bool} {Q : Value × List Value → Shared → Prop} (I : Inv X pins σ H s) (e : H a = some (.ins C dx fs)) (c : Cls X.K C) (k : Meth X.K C m g) (l : fs.lookup m = none)
    (h : Q (.ref g, [.ref a]) s) : wpAny (model X.prog X.w) A (getMethod (.ref a) m pl) Q E s := by
  obtain ⟨mA, O, r, _, _, _⟩ := ins_get I.hok e
  have hn : mA m = none := RelO.none_of (by rw [← l]; exact r m)
  exact get_meth I.kIn O (c.get m) k.at_ k.fn hn h

theorem setattr_ok {y : V} {u : Value} {Q : Unit → Shared → Prop} (I : Inv X pins σ H s) (e : H a = some (.ins C dx fs)) (c : Cls X.K C) (n : NoAttr X.K C f) (hl : fs.length < 1000) (ry : RelV y u)
    (h : ∀ s', Inv X pins σ (upd H a (.ins C dx (putF f y fs))) s' → Q () s') : wpAny (model X.prog X.w) A (setAttr (.ref a) f u) Q E s := by
  obtain ⟨mA, O, r, wi, _, ho⟩ := ins_get I.hok e
  have hz : (fs.map (·.1)).length ≤ sizeLine := by rw [List.length_map, sizeLine_eq]; omega
  refine set_map I.kIn O c.sa c.po n.taker c.hd wi hz fun h' O' sb => h _ ?_
  have hd : ∃ o, h'.get? dx = some o := let ⟨o, _, _, e', _⟩ := O'.ns; ⟨o, e'⟩
  refine I.write (x := a) (e := dx) (by rw [e]; exact True.intro) (.inr ho) (fun b q hb z => (sb.2 b hb).trans z) hd ?_
  refine ⟨by rw [upd_ne O.ne]; exact ho, ?_, O.ne, O'.obj, _, O'.ns, fun g => ?_, fun g hg => ?_⟩
  · have := length_putF f y fs; omega
  · show RelO ((putF f y fs).lookup g) (if g = f then some u else mA g)
    rw [lookup_putF]
    by_cases q : g = f
    · rw [if_pos q, if_pos q]; exact ry
    · rw [if_neg q, if_neg q]; exact r g
  · by_cases q : g = f
    · rw [q]; exact (keys_putF f y fs).1
    · refine (keys_putF f y fs).2 g (wi g fun z => hg ?_)
      show (if g = f then some u else mA g) = none
      rw [if_neg q]; exact z

/-- a new instance, tracked, without attributes -/
theorem Inv.made (I : Inv X pins σ H s) : Inv X pins σ (upd (upd H s.heap.objs.size (.own (s.heap.objs.size + 1))) (s.heap.objs.size + 1) (.ins C s.heap.objs.size []))
    { s with heap := (s.heap.push PySem.W.emptyDict).push (PySem.W.instObj C s.heap.objs.size) } := by
  have e1 : (s.heap.push PySem.W.emptyDict).get? s.heap.objs.size = some PySem.W.emptyDict := Heap.get?_push_size s.heap rfl
  have e2 : ((s.heap.push PySem.W.emptyDict).push (PySem.W.instObj C s.heap.objs.size)).get? (s.heap.objs.size + 1) = some (PySem.W.instObj C s.heap.objs.size) := by
    have := Heap.get?_push_size (s.heap.push PySem.W.emptyDict) (o := PySem.W.instObj C s.heap.objs.size) rfl
    rwa [Heap.size_push] at this
  have e3 : (s.heap.push PySem.W.emptyDict).Ns s.heap.objs.size (fun _ => none) := ⟨PySem.W.emptyDict, #[], _, e1, rfl, (fun e he => absurd he (by simp)), fun _ => rfl⟩
  have I1 := I.laid (a := s.heap.objs.size) (o := .own (s.heap.objs.size + 1)) (h' := s.heap.push PySem.W.emptyDict) (t' := s.toks) (fun b u q => Heap.get?_push_of_some _ q) (Nat.le_refl _) ⟨_, e1⟩
  refine I1.laid (a := s.heap.objs.size + 1) (o := .ins C s.heap.objs.size []) (t' := s.toks) (fun b u q => Heap.get?_push_of_some _ q) (Nat.le_of_eq (Heap.size_push _ _)) ?_
  have ne : s.heap.objs.size ≠ s.heap.objs.size + 1 := Nat.ne_of_lt (Nat.lt_succ_self _)
  refine ⟨by rw [upd_ne ne, upd_same], Nat.zero_le _, ne, e2, fun _ => none, (Heap.Ns1.of_empty e3).at fun o q => Heap.get?_push_of_some _ q, fun _ => True.intro, fun y hy => absurd rfl hy⟩

/-- e.f where nothing but the object is asked: through attributeBase (super) and the last hold -/
theorem attr_of {prog : Program} {w : World} {env : Env} {e : Expr} {f : Str} {pos : Pos} {s : Shared} {Q : Value → Shared → Prop} (hb : attributeBase e f env (eval e env) = eval e env)
    (h : wpAny (model prog w) A (eval e env) (fun o s₁ => wpAny (model prog w) A (getAttr o f true) Q E s₁) E s) : wpAny (model prog w) A (eval (.Attribute e f pos) env) Q E s :=
  Attribute_any_ h (by rw [arm_eval_Attribute, hb])
end

/-! ### readings and rules -/
/-- e.f, an attribute of the instance -/
def tFld (K : PySem.W.Frag) (ta : TE) (f : Str) : TE := fun σ H Q => ta σ H fun x H1 => ∃ a C dx fs v, x = .ref a ∧ H1 a = some (.ins C dx fs) ∧ Cls K C ∧ NoAttr K C f ∧ fs.lookup f = some v ∧ Q v H1
/-- e.f, a constant of the class -/
def tCon (K : PySem.W.Frag) (ta : TE) (f : Str) : TE := fun σ H Q => ta σ H fun x H1 => ∃ a C dx fs v u, x = .ref a ∧ H1 a = some (.ins C dx fs) ∧ Cls K C ∧ Con K C f v u ∧ fs.lookup f = none ∧ Q v H1
/-- e.f = value -/
def sFld (K : PySem.W.Frag) (ta tv : TE) (f : Str) : TS := fun D σ H => tv σ H fun y H1 => ta σ H1 fun x H2 => ∃ a C dx fs, x = .ref a ∧ H2 a = some (.ins C dx fs) ∧ Cls K C ∧ NoAttr K C f ∧ fs.length < 1000 ∧
  D.nx σ (upd H2 a (.ins C dx (putF f y fs)))
/-- an augmented operator on two values -/
def InOp (X : Cx) (op : Operator) (rd : V → V → Hp → VK → Prop) : Prop :=
  ∀ (pins : List (Addr × Obj)) (s : Shared) (σ : St) (H : Hp) (x y : V) (u v : Value) (Q : VK), Inv X pins σ H s → RelV x u → RelV y v → rd x y H Q → wpAny (model X.prog X.w) X.A (inplaceOp op u v) (EP X pins σ Q) X.xe s
/-- e.f op= value -/
def sFldAug (K : PySem.W.Frag) (ta tv : TE) (rd : V → V → Hp → VK → Prop) (f : Str) : TS := fun D σ H => ta σ H fun x H1 => ∃ a C dx fs v, x = .ref a ∧ H1 a = some (.ins C dx fs) ∧ Cls K C ∧ NoAttr K C f ∧ fs.lookup f = some v ∧
  tv σ H1 fun y H2 => rd v y H2 fun z H3 => ∃ dx' fs', H3 a = some (.ins C dx' fs') ∧ fs'.length < 1000 ∧ D.nx σ (upd H3 a (.ins C dx' (putF f z fs')))

section
variable {X : Cx} {o e value : Expr} {f : Str} {pos pos' tpos : Pos} {ta tv : TE}
theorem pe_fld (he : PE X e ta) (hb : attributeBase e f X.env (eval e X.env) = eval e X.env) : PE X (.Attribute e f pos) (tFld X.K ta f) := by
  (first | constructor | skip)
  intro pins s σ H Q I h
  refine attr_of hb (thn (he pins s σ H _ I h) fun u s1 ⟨x, H1, I1, rx, a, C, dx, fs, v, ex, ea, c, n, l, q⟩ => ?_)
  subst ex
  obtain rfl : u = Value.ref a := rx
  exact getattr_ok I1 ea c n l fun u' s2 I2 ru => ⟨v, H1, I2, ru, q⟩
theorem pe_con (he : PE X e ta) (hb : attributeBase e f X.env (eval e X.env) = eval e X.env) : PE X (.Attribute e f pos) (tCon X.K ta f) := by
  (first | constructor | skip)
  intro pins s σ H Q I h
  refine attr_of hb (thn (he pins s σ H _ I h) fun u s1 ⟨x, H1, I1, rx, a, C, dx, fs, v, u0, ex, ea, c, k, l, q⟩ => ?_)
  subst ex
  obtain rfl : u = Value.ref a := rx
  exact getcon_ok I1 ea c k l fun s2 I2 => ⟨v, H1, I2, k.rel, q⟩
theorem ps_fld (ha : PE X o ta) (hv : PE X value tv) (hs : swapsWith value (some (.Attribute o f pos')) pos.line X.env = pure false) : PS X (.Assign [.Attribute o f pos'] value pos) (sFld X.K ta tv f) := by
  (first | constructor | skip)
  intro pins s σ H D I h
  refine plainObj_wpAny_Assign_Attribute (thn (hv pins s σ H _ I h) fun u s1 ⟨y, H1, I1, ry, q⟩ => thn (ha pins s1 σ H1 _ I1 q) fun ov s2 ⟨x, H2, I2, rx, a, C, dx, fs, ex, ea, c, n, l, q2⟩ => ?_) hs
  subst ex
  obtain rfl : ov = Value.ref a := rx
  exact setattr_ok I2 ea c n l ry fun s3 I3 => ⟨σ, _, I3, q2⟩
theorem ps_fldaug {op : Operator} {rd : V → V → Hp → VK → Prop} (ha : PE X o ta) (hv : PE X value tv) (hop : InOp X op rd) : PS X (.AugAssign (.Attribute o f tpos) op value pos) (sFldAug X.K ta tv rd f) := by
  (first | constructor | skip)
  intro pins s σ H D I h
  refine wpAny_AugAssign_AttributeAny (thn (ha pins s σ H _ I h) fun ov s1 ⟨x, H1, I1, rx, a, C, dx, fs, v, ex, ea, c, n, l, q⟩ => ?_)
  subst ex
  obtain rfl : ov = Value.ref a := rx
  refine getattr_ok I1 ea c n l fun u s2 I2 ru => thn (hv pins s2 σ H1 _ I2 q) fun w3 s3 ⟨y, H2, I3, ry, q3⟩ => thn (hop pins s3 σ H2 v y u w3 _ I3 ru ry q3) fun w4 s4 ⟨z, H3, I4, rz, dx', fs', ea', l', q4⟩ => ?_
  exact setattr_ok I4 ea' c n l' rz fun s5 I5 => ⟨σ, _, I5, q4⟩
def rAdd : V → V → Hp → VK → Prop := fun x y H Q => ∃ i j, x = .int i ∧ y = .int j ∧ Q (.int (i + j)) H
def rSub : V → V → Hp → VK → Prop := fun x y H Q => ∃ i j, x = .int i ∧ y = .int j ∧ Q (.int (i - j)) H
theorem in_add : InOp X .Add rAdd := by
  rintro pins s σ H x y u v Q I rx ry ⟨i, j, rfl, rfl, q⟩
  obtain ⟨t, rfl⟩ := (show ∃ t, u = Value.int i t from rx)
  obtain ⟨t', rfl⟩ := (show ∃ t', v = Value.int j t' from ry)
  exact PyProof.Rows.iadd_int ⟨.int (i + j), H, I.tok _, ⟨_, rfl⟩, q⟩
theorem in_sub : InOp X .Sub rSub := by
  rintro pins s σ H x y u v Q I rx ry ⟨i, j, rfl, rfl, q⟩
  obtain ⟨t, rfl⟩ := (show ∃ t, u = Value.int i t from rx)
  obtain ⟨t', rfl⟩ := (show ∃ t', v = Value.int j t' from ry)
  exact PyProof.Rows.isub_int ⟨.int (i - j), H, I.tok _, ⟨_, rfl⟩, q⟩

/-- what is between an instance and its method: the tree of a method call -/
theorem methcall_of {pl : Sem Bool} {m : Str} {apos : Pos} {args : List Expr} {pins : List (Addr × Obj)} {s : Shared} {σ : St} {H : Hp} {Q : Value → Shared → Prop} {te : TE} (he : PE X e te) (I : Inv X pins σ H s)
    (h : te σ H fun x H1 => ∃ a C dx fs g, x = .ref a ∧ H1 a = some (.ins C dx fs) ∧ Cls X.K C ∧ Meth X.K C m g ∧ fs.lookup m = none ∧
      ∀ s1, Inv X pins σ H1 s1 → wpAny (model X.prog X.w) X.A (callWith pos (.ref g) [.ref a] (backTo pos (starEach args X.env)) (backToKw pos (keywordEach [] X.env))) Q X.xe s1)
    (ht : eval (.Call (.Attribute e m apos) args [] pos) X.env = (do
      let ov ← eval e X.env
      standAt apos.atName
      let (f, first) ← holding [ov] (getMethod ov m pl)
      callWith pos f first (backTo pos (starEach args X.env)) (backToKw pos (keywordEach [] X.env)))) :
    wpAny (model X.prog X.w) X.A (eval (.Call (.Attribute e m apos) args [] pos) X.env) Q X.xe s := by
  refine PySem.W.methodCall_KW (pl := pl) (thn (he pins s σ H _ I h) fun u s1 ⟨x, H1, I1, rx, a, C, dx, fs, g, ex, ea, c, k, l, q⟩ => ?_) ht
  subst ex
  obtain rfl : u = Value.ref a := rx
  exact getmeth_ok I1 ea c k l (q s1 I1)
end

/-! ### isinstance -/
section
variable {X : Cx} {pins : List (Addr × Obj)} {σ : St} {H : Hp} {s : Shared} {A : Around} {E : Value → Shared → Prop} {Q : Value → Shared → Prop} {c : Value} {b : Bool}
/-- the type of a value, as the fragment's deciders take it; for an instance its class -/
inductive TyOf (K : PySem.W.Frag) (H : Hp) : V → Value → Prop where
  | non : TyOf K H .non (.type "NoneType")
  | bl (x : Bool) : TyOf K H (.bl x) (.type "bool")
  | int (i : Int) : TyOf K H (.int i) (.type "int")
  | str (x : Str) : TyOf K H (.str x) (.type "str")
  | flt (x : UInt64) : TyOf K H (.flt x) (.type "float")
  | lst {a : Addr} {xs : List V} (e : H a = some (.lst xs)) : TyOf K H (.ref a) (.type "list")
  | frz {a : Addr} {o : Obj} {xs : List V} (e : H a = some (.frz o (.lst xs))) : TyOf K H (.ref a) (.type "list")
  | tup {a : Addr} {xs : List V} (e : H a = some (.tup xs)) : TyOf K H (.ref a) (.type "tuple")
  | dK {a : Addr} {kvs : List (Key × V)} (e : H a = some (.dK kvs)) : TyOf K H (.ref a) (.type "dict")
  | dT {a : Addr} {kvs : List (List Key × V)} (e : H a = some (.dT kvs)) : TyOf K H (.ref a) (.type "dict")
  | ins {a C dx : Addr} {fs : List (Str × V)} (e : H a = some (.ins C dx fs)) (cl : Cls K C) (ha : PySem.W.findIn K (.ref C) "__class__" = some (some (.builtin "object.__class__")))
      (hn : PySem.W.specialIn K (.builtin "object.__class__") "__get__" = some (some (.builtin "getset_descriptor.__get__"))) (htk : PySem.W.takesIn K (.builtin "object.__class__") = some true)
      (hm : PySem.W.mroIn K C (.type "object") = some true) : TyOf K H (.ref a) (.ref C)
/-- isinstance(x, c) for one class c, a built-in or an own one: kitOne's answer -/
theorem isinst_ok {x : V} {u t : Value} (I : Inv X pins σ H s) (rx : RelV x u) (ty : TyOf X.K H x t) (e : PySem.W.kitOne X.K t c = some b) (h : ∀ tk, Q (.bool b) { s with toks := tk }) :
    wpAny (model X.prog X.w) A (call (.builtin "isinstance") [u, c]) Q E s := by
  cases ty with
  | non => cases (show u = Value.none from rx); exact PySem.W.kia_one PySem.W.kitx_none I.kIn True.intro e (fun z => nomatch z) h
  | bl y => cases (show u = Value.bool y from rx); exact PySem.W.kia_one PySem.W.kitx_bool I.kIn True.intro e (fun z => nomatch z) h
  | int i => obtain ⟨t, q⟩ := (show ∃ t, u = Value.int i t from rx); cases q; exact PySem.W.kia_one PySem.W.kitx_int I.kIn True.intro e (fun z => nomatch z) h
  | str y => obtain ⟨t, q⟩ := (show ∃ t, u = Value.str y t from rx); cases q; exact PySem.W.kia_one PySem.W.kitx_str I.kIn True.intro e (fun z => nomatch z) h
  | flt y => obtain ⟨t, q⟩ := (show ∃ t, u = Value.float y t from rx); cases q; exact PySem.W.kia_one PySem.W.kitx_float I.kIn True.intro e (fun z => nomatch z) h
  | @lst a xs ea =>
    cases (show u = Value.ref a from rx)
    obtain ⟨_, _, n, _, h1⟩ := (show ObjOk X.prog X.w H s.heap a (.lst xs) from I.hok a _ ea)
    exact PySem.W.kia_one PySem.W.kitx_list I.kIn ⟨_, h1, rfl⟩ e (fun z => nomatch z) h
  | @frz a ob xs ea =>
    cases (show u = Value.ref a from rx)
    obtain ⟨_, _, _, n, _, h1⟩ := (show ObjOk X.prog X.w H s.heap a (.frz ob (.lst xs)) from I.hok a _ ea)
    exact PySem.W.kia_one PySem.W.kitx_list I.kIn ⟨_, h1, rfl⟩ e (fun z => nomatch z) h
  | @tup a xs ea =>
    cases (show u = Value.ref a from rx)
    obtain ⟨_, _, _, p⟩ := (show ObjOk X.prog X.w H s.heap a (.tup xs) from I.hok a _ ea)
    obtain ⟨o, h1, h2, _⟩ := p
    exact PySem.W.kia_one PySem.W.kitx_tuple I.kIn ⟨o, h1, h2⟩ e (fun z => nomatch z) h
  | @dK a kvs ea =>
    cases (show u = Value.ref a from rx)
    obtain ⟨_, _, vs, _, p⟩ := (show ObjOk X.prog X.w H s.heap a (.dK kvs) from I.hok a _ ea)
    obtain ⟨o, es, ep, h1, h2, _⟩ := p
    exact PySem.W.kia_one PySem.W.kitx_dict I.kIn ⟨o, h1, h2.1⟩ e (fun z => nomatch z) h
  | @dT a kvs ea =>
    cases (show u = Value.ref a from rx)
    obtain ⟨_, _, xs, _, o, es, ep, h1, h2, _⟩ := (show ObjOk X.prog X.w H s.heap a (.dT kvs) from I.hok a _ ea)
    exact PySem.W.kia_one PySem.W.kitx_dict I.kIn ⟨o, h1, h2.1⟩ e (fun z => nomatch z) h
  | @ins a C dx fs ea cl ha hn htk hm =>
    cases (show u = Value.ref a from rx)
    obtain ⟨mA, O, _⟩ := ins_get I.hok ea
    obtain ⟨od, J, _⟩ := O.look
    exact PySem.W.kia_one (PySem.W.kitx_own (cl.get _) cl.hd ha hn htk hm) I.kIn J e (fun z => nomatch z) h
end
end L2

namespace L2
open PySem PySem.Spec PyProof.Rows

/-! ### room -/
structure Room (k : Nat) (A : Around) : Prop where
  hd : A.handled = none
  dp : A.depth + 3 * k + 5 < recursionLimit
  un : A.units + 16 * k + 200 < cLine
theorem Room.mono {j k : Nat} {A : Around} (r : Room k A) (h : j ≤ k) : Room j A := ⟨r.hd, by have := r.dp; omega, by have := r.un; omega⟩
theorem Room.deeper {k : Nat} {A : Around} (r : Room (k + 1) A) (env : Env) : Room k (A.deeper env) :=
  ⟨r.hd, by have := r.dp; show A.depth + 1 + 3 * k + 5 < _; omega, by have := r.un; show A.units + 3 + 16 * k + 200 < _; omega⟩
theorem Room.in1 {k : Nat} {A : Around} (r : Room (k + 1) A) : Room k A.in1 :=
  ⟨r.hd, by have := r.dp; show A.depth + 3 * k + 5 < _; omega, by have := r.un; show A.units + 1 + 16 * k + 200 < _; omega⟩
theorem make_depth {A : Around} {C : Addr} {us : List Value} {kw : List (Str × Value)} : (A.under (.builtin "type.__call__" ⟨.ref C :: us, kw⟩)).depth = A.depth + 1 := by
  first | rfl | simp [Around.under, Code.weight, Code.isCreation, Code.isGuard, Code.isCaller, Code.frames, Code.isFrame, guardIds]
theorem make_units {A : Around} {C : Addr} {us : List Value} {kw : List (Str × Value)} : (A.under (.builtin "type.__call__" ⟨.ref C :: us, kw⟩)).units = A.units + 1 := by
  first | rfl | simp [Around.under, Code.cUnits, Code.frames, Code.isFrame]
theorem Room.make {k : Nat} {A : Around} (r : Room (k + 1) A) (C : Addr) (us : List Value) (kw : List (Str × Value)) : Room k (A.under (.builtin "type.__call__" ⟨.ref C :: us, kw⟩)) :=
  ⟨r.hd, by have := r.dp; rw [make_depth]; omega, by have := r.un; rw [make_units]; omega⟩
theorem Room.depth {k : Nat} {A : Around} (r : Room k A) : A.depth < recursionLimit := by have := r.dp; omega
theorem Room.units {k : Nat} {A : Around} (r : Room k A) : A.units + 64 < cLine := by have := r.un; omega
theorem Room.units0 {k : Nat} {A : Around} (r : Room k A) : A.units < cLine := by have := r.un; omega

/-! ### argument lists and displays -/
def tNil : TA := fun _ H Q => Q [] H
def tCons (ta : TE) (tr : TA) : TA := fun σ H Q => ta σ H fun x H1 => tr σ H1 fun xs H2 => Q (x :: xs) H2
section
variable {X : Cx} {e : Expr} {es : List Expr} {te : TE} {t : TA} {pos : Pos}
theorem pa_nil : PA X [] tNil := .mk fun _ _ _ _ H Q I h => Calls.spliced_nil ⟨[], H, I, .nil, h⟩
theorem pa_cons (ha : PE X e te) (hr : PA X es t) (hs : starEach (e :: es) X.env = (false, eval e X.env) :: starEach es X.env := by rfl) : PA X (e :: es) (tCons te t) := by
  (first | constructor | skip)
  intro pos pins s σ H Q I h
  rw [hs]
  show wpAny _ _ (spliced ((false, eval e X.env) :: backTo pos (starEach es X.env))) _ _ s
  refine Calls.spliced_cons (thn (ha pins s σ H _ I h) fun u s1 ⟨x, H1, I1, r1, q1⟩ => ?_)
  exact thn (hr pos pins s1 σ H1 _ I1 q1) fun us s2 ⟨xs, H2, I2, r2, q2⟩ => ⟨x :: xs, H2, I2, .cons r1 r2, q2⟩

/-- a tuple, a list of written items -/
def tTup (t : TA) : TE := fun σ H Q => t σ H fun xs H1 => xs.length ≤ sizeLine ∧ ∀ p, H1 p = none → Q (.ref p) (upd H1 p (.tup xs))
def tLst (t : TA) : TE := fun σ H Q => t σ H fun xs H1 => xs.length ≤ sizeLine ∧ ∀ p, H1 p = none → Q (.ref p) (upd H1 p (.lst xs))
theorem pe_tup {x1} (h : PA X es t) : PE X (.Tuple es x1 pos) (tTup t) := by
  (first | constructor | skip)
  intro pins s σ H Q I hq
  refine wpAny_Tuple_spliced (thn (h pos pins s σ H _ I hq) fun us s1 ⟨xs, H1, I1, r, z, q⟩ => ⟨by rw [← r.length]; exact z, ?_⟩)
  have hf : H1 s1.heap.objs.size = none := I1.hok.fresh (Nat.le_refl _)
  refine ⟨.ref s1.heap.objs.size, upd H1 s1.heap.objs.size (.tup xs), I1.laid (t' := s1.toks) (fun b u e => Heap.get?_push_of_some _ e) (Nat.le_refl _) ?_, rfl, q _ hf⟩
  exact ⟨z, us, r, ⟨_, Heap.get?_push_size _ rfl, rfl, _, rfl⟩⟩
theorem pe_lst (h : PA X es t) : PE X (.List es pos) (tLst t) := by
  (first | constructor | skip)
  intro pins s σ H Q I hq
  refine wpAny_List_spliced (thn (h pos pins s σ H _ I hq) fun us s1 ⟨xs, H1, I1, r, z, q⟩ => ⟨by rw [← r.length]; exact z, ?_⟩)
  have hf : H1 s1.heap.objs.size = none := I1.hok.fresh (Nat.le_refl _)
  refine ⟨.ref s1.heap.objs.size, upd H1 s1.heap.objs.size (.lst xs), I1.laid (t' := s1.toks) (fun b u e => Heap.get?_push_of_some _ e) (Nat.le_refl _) ?_, rfl, q _ hf⟩
  exact ⟨z, us, 0, r, Heap.get?_push_size _ rfl⟩
end

/-! ### what a def promises -/
/-- a def's promise: the bound arguments in the parameters' order, the heap, the wanted end, the wanted exception -/
abbrev Sp := List V → Hp → VK → XK → Prop
/-- how an exception lies behind a call (file 08 gives it): the callers' frames, abstract heap and state ahead of the call, the wish, the exception, the state -/
abbrev CXT := List Env → Hp → Shared → XK → Value → Shared → Prop

/-- the state at a call -/
structure Env0 (P : Program) (w : World) (K : PySem.W.Frag) (mg : Str → Option Value) (base : Heap) (A : Around) (outer : List Env) (s : Shared) (H : Hp) : Prop where
  frames : A.frames = some outer
  mod : Mod K mg base
  bs : ∀ b o, base.get? b = some o → s.heap.get? b = some o ∧ H b = none
  bsz : base.objs.size ≤ s.heap.objs.size
  funs : s.heap.FunFrames base outer
  frf : ∀ b ∈ frs outer, H b = none
  hok : HOk P w H s.heap
  bare : AllBare s.gens
/-- a call's end -/
def CE (outer : List Env) (P : Program) (w : World) (H : Hp) (s : Shared) (Q : VK) (u : Value) (s' : Shared) : Prop :=
  ∃ v H', s'.os = s.os ∧ AllBare s'.gens ∧ Un (frs outer) [] H H' s.heap s'.heap ∧ HOk P w H' s'.heap ∧ RelV v u ∧ Q v H'
def CR (CX : CXT) (outer : List Env) (P : Program) (w : World) (H : Hp) (s : Shared) (Q : VK) (E : XK) (r : Result) (s' : Shared) : Prop :=
  match r with
  | .ok (.ret u) => CE outer P w H s Q u s'
  | .ok _ => False
  | .error e => CX outer H s E e s'
structure FnOk (P : Program) (w : World) (K : PySem.W.Frag) (mg : Str → Option Value) (base : Heap) (CX : CXT) (k : Nat) (f : Addr) (fd : FuncData) (ps : List Str) (sp : Sp) : Prop where
  len : ∀ vs H Q E, sp vs H Q E → vs.length = ps.length
  run : ∀ (A : Around) (outer : List Env) (s : Shared) (H : Hp) (args : Args) (us : List Value) (vs : List V) (Q : VK) (E : XK), Room k A → Env0 P w K mg base A outer s H → BindsTo s fd args (ps.zip us) → Vals vs us → sp vs H Q E →
    codeAny (model P w) A (.call (.ref f) args) (CR CX outer P w H s Q E) s
theorem FnOk.mono {P : Program} {w : World} {K : PySem.W.Frag} {mg : Str → Option Value} {base : Heap} {CX : CXT} {j k : Nat} {f : Addr} {fd : FuncData} {ps : List Str} {sp : Sp} (F : FnOk P w K mg base CX j f fd ps sp) (h : j ≤ k) :
    FnOk P w K mg base CX k f fd ps sp := ⟨F.len, fun A outer s H args us vs Q E hr => F.run A outer s H args us vs Q E (hr.mono h)⟩
/-- a weaker promise -/
theorem FnOk.imp {P : Program} {w : World} {K : PySem.W.Frag} {mg : Str → Option Value} {base : Heap} {CX : CXT} {k : Nat} {f : Addr} {fd : FuncData} {ps : List Str} {sp sp' : Sp} (F : FnOk P w K mg base CX k f fd ps sp)
    (h : ∀ vs H Q E, sp' vs H Q E → sp vs H Q E) : FnOk P w K mg base CX k f fd ps sp' :=
  ⟨fun vs H Q E q => F.len vs H Q E (h _ _ _ _ q), fun A outer s H args us vs Q E hr he hb hv hs => F.run A outer s H args us vs Q E hr he hb hv (h _ _ _ _ hs)⟩

theorem Env0.make {P : Program} {w : World} {K : PySem.W.Frag} {mg : Str → Option Value} {base : Heap} {A : Around} {outer : List Env} {s : Shared} {H : Hp} (e : Env0 P w K mg base A outer s H) (C : Addr) (us : List Value) (kw : List (Str × Value)) :
    Env0 P w K mg base (A.under (.builtin "type.__call__" ⟨.ref C :: us, kw⟩)) outer s H := ⟨by first | exact e.frames | (simpa [Around.under, Code.envs, Code.isFrame, pushEnvs] using e.frames), e.mod, e.bs, e.bsz, e.funs, e.frf, e.hok, e.bare⟩
theorem Env0.in1 {P : Program} {w : World} {K : PySem.W.Frag} {mg : Str → Option Value} {base : Heap} {A : Around} {outer : List Env} {s : Shared} {H : Hp} (e : Env0 P w K mg base A outer s H) :
    Env0 P w K mg base A.in1 outer s H := ⟨e.frames, e.mod, e.bs, e.bsz, e.funs, e.frf, e.hok, e.bare⟩

section
variable {X : Cx} {pins : List (Addr × Obj)} {σ : St} {H : Hp} {s s' : Shared}
/-- from a body: what a callee wants -/
theorem Inv.env0 (I : Inv X pins σ H s) : Env0 X.prog X.w X.K X.mg X.base X.A X.stack s H :=
  ⟨I.ok.frames, I.ok.mod, I.bs, Nat.le_trans I.ok.bsz I.sz, I.stack, I.stkFree, I.hok, I.bare⟩
/-- behind a call -/
theorem Inv.after {Q : VK} {u : Value} (I : Inv X pins σ H s) (h : CE X.stack X.prog X.w H s Q u s') : EP X pins σ Q u s' := by
  obtain ⟨v, H', os, bare, un, hok, r, q⟩ := h
  obtain ⟨hh, g, d, t, os'⟩ := s'
  obtain rfl : os' = s.os := os
  exact ⟨v, H', I.call (h' := hh) (g' := g) (d' := d) (t' := t) (ch := []) un hok bare (fun b z => absurd z (by simp)), r, q⟩
end

/-! ### calls -/
/-- f(..): the written arguments, then the defaults dvs; E: what is wanted of an exception -/
def tCall (sp : Sp) (dvs : List V) (E : XK) (t : TA) : TE := fun σ H Q => t σ H fun vs H1 => sp (vs ++ dvs) H1 Q E
/-- o.m(..) of an instance of the class at C -/
def tMeth (C : Addr) (m : Str) (sp : Sp) (dvs : List V) (E : XK) (ta : TE) (t : TA) : TE := fun σ H Q => ta σ H fun x H1 => ∃ a dx fs, x = .ref a ∧ H1 a = some (.ins C dx fs) ∧ fs.lookup m = none ∧
  t σ H1 fun vs H2 => sp (x :: (vs ++ dvs)) H2 Q E
/-- C(..): a new instance and its dict, then __init__ -/
def tMake (C : Addr) (sp : Sp) (dvs : List V) (E : XK) (t : TA) : TE := fun σ H Q => t σ H fun vs H1 => ∀ x dx, H1 x = none → H1 dx = none → dx ≠ x →
  sp (.ref x :: (vs ++ dvs)) (upd (upd H1 dx (.own x)) x (.ins C dx [])) (fun v H2 => v = .non ∧ Q (.ref x) H2) E

/-- how the parameters are bound: us the positional arguments, kw the keywords' values by name, ds the defaults that fill up -/
def Binds (K : PySem.W.Frag) (fd : FuncData) (ps : List Str) (ds : List Value) : Prop :=
  ∀ (s : Shared) (us : List Value), K.In s.heap → (us ++ ds).length = ps.length → BindsTo s fd ⟨us, []⟩ (ps.zip (us ++ ds))
/-- every parameter is given -/
theorem Binds.all {K : PySem.W.Frag} {fd : FuncData} {ps : List Str} (h : ∀ us : List Value, us.length = ps.length → bindArgs fd ⟨us, []⟩ = pure (ps.zip us)) : Binds K fd ps [] := fun s us _ hl => by
  rw [List.append_nil] at hl ⊢
  exact .of_eq (h us hl)

/-- an exception of a callee reaches what this body wants of exceptions -/
def Passes (CX : CXT) (X : Cx) (E : XK) : Prop := ∀ (pins : List (Addr × Obj)) (σ : St) (H : Hp) (s : Shared) (e : Value) (s' : Shared), Inv X pins σ H s → CX X.stack H s E e s' → X.xe e s'

section
variable {X : Cx} {CX : CXT} {k : Nat} {f C : Addr} {fd : FuncData} {ps : List Str} {sp : Sp} {dvs : List V} {ds : List Value} {E : XK} {x m : Str} {p pos apos : Pos} {e o : Expr} {es : List Expr} {ta : TE} {t : TA}

/-- the callee runs -/
theorem run_fn {pins : List (Addr × Obj)} {σ : St} {H : Hp} {s : Shared} {Q : VK} {us : List Value} {vs : List V} (F : FnOk X.prog X.w X.K X.mg X.base CX k f fd ps sp) (hr : Room k X.A) (hb : Binds X.K fd ps ds) (hd : Vals dvs ds) (hx : Passes CX X E)
    (I : Inv X pins σ H s) (r : Vals vs us) (h : sp (vs ++ dvs) H Q E) : wpAny (model X.prog X.w) X.A (call (.ref f) us) (EP X pins σ Q) X.xe s := by
  have r2 : Vals (vs ++ dvs) (us ++ ds) := r.append hd
  have hl : (us ++ ds).length = ps.length := by rw [← r2.length]; exact F.len _ _ _ _ h
  refine wpAny_call (codeAny_mono (F.run X.A X.stack s H ⟨us, []⟩ (us ++ ds) (vs ++ dvs) Q E hr I.env0 (hb s us I.kIn hl) r2 h) fun r s' hq => ?_)
  cases r with
  | error e => exact hx pins σ H s e s' I hq
  | ok fl =>
    cases fl with
    | ret u => exact I.after hq
    | next => exact False.elim hq
    | brk => exact False.elim hq
    | cont => exact False.elim hq

theorem pe_call (F : FnOk X.prog X.w X.K X.mg X.base CX k f fd ps sp) (hr : Room k X.A) (hg : Gl X x) (hm : X.mg x = some (.ref f)) (hk : PySem.W.keepIn X.K (.ref f) = true) (hb : Binds X.K fd ps ds) (hd : Vals dvs ds) (hx : Passes CX X E)
    (ha : PA X (e :: es) t) (hdb : (x == ("__debug__" : Str)) = false := by decide) (he : starEach (e :: es) X.env = (false, eval e X.env) :: starEach es X.env := by rfl) (hpl : (backTo pos (starEach es X.env)).any (·.1) = false := by rfl) :
    PE X (.Call (.Name x p) (e :: es) [] pos) (tCall sp dvs E t) := by
  (first | constructor | skip)
  intro pins s σ H Q I h
  refine wpAny_Call_Name_kw (ld_glob I hg hm ?_ hdb)
  refine PySem.W.callWith_K (h₀ := X.base) I.ok.mod.kin hk (thn (ha pos pins s σ H _ I h) fun us s1 ⟨vs, H1, I1, r, q⟩ => ⟨I1.kIn, ?_⟩) he hpl
  exact run_fn F hr hb hd hx I1 r q
theorem pe_call0 (F : FnOk X.prog X.w X.K X.mg X.base CX k f fd ps sp) (hr : Room k X.A) (hg : Gl X x) (hm : X.mg x = some (.ref f)) (hk : PySem.W.keepIn X.K (.ref f) = true) (hb : Binds X.K fd ps ds) (hd : Vals dvs ds) (hx : Passes CX X E)
    (hdb : (x == ("__debug__" : Str)) = false := by decide) : PE X (.Call (.Name x p) [] [] pos) (tCall sp dvs E tNil) := by
  (first | constructor | skip)
  intro pins s σ H Q I h
  refine wpAny_Call_Name_kw (ld_glob I hg hm ?_ hdb)
  exact PySem.W.callWith_K0 I.kIn hk (run_fn (us := []) F hr hb hd hx I .nil h)

/-- o.m(e, ..) -/
theorem pe_meth {pl : Sem Bool} (he : PE X o ta) (c : Cls X.K C) (hm : Meth X.K C m f) (F : FnOk X.prog X.w X.K X.mg X.base CX k f fd ps sp) (hr : Room k X.A) (hb : Binds X.K fd ps ds) (hd : Vals dvs ds) (hx : Passes CX X E) (ha : PA X (e :: es) t)
    (hst : starEach (e :: es) X.env = (false, eval e X.env) :: starEach es X.env := by rfl) (hpl : (backTo pos (starEach es X.env)).any (·.1) = false := by rfl)
    (ht : eval (.Call (.Attribute o m apos) (e :: es) [] pos) X.env = (do
      let ov ← eval o X.env
      standAt apos.atName
      let (f, first) ← holding [ov] (getMethod ov m pl)
      callWith pos f first (backTo pos (starEach (e :: es) X.env)) (backToKw pos (keywordEach [] X.env))) := by rfl) :
    PE X (.Call (.Attribute o m apos) (e :: es) [] pos) (tMeth C m sp dvs E ta t) := by
  (first | constructor | skip)
  intro pins s σ H Q I h
  refine PySem.W.methodCall_KW (pl := pl) (thn (he pins s σ H _ I h) fun u s1 ⟨x, H1, I1, rx, a, dx, fs, ex, ea, l, q⟩ => ?_) ht
  subst ex
  obtain rfl : u = Value.ref a := rx
  refine getmeth_ok I1 ea c hm l ?_
  refine PySem.W.callWith_K (first := [.ref a]) (h₀ := X.base) I.ok.mod.kin hm.kp (thn (ha pos pins s1 σ H1 _ I1 q) fun us s2 ⟨vs, H2, I2, r, q2⟩ => ⟨I2.kIn, ?_⟩) hst hpl
  exact run_fn (us := .ref a :: us) (vs := .ref a :: vs) F hr hb hd hx I2 (.cons rfl r) q2
/-- o.m() -/
theorem pe_meth0 {pl : Sem Bool} (he : PE X o ta) (c : Cls X.K C) (hm : Meth X.K C m f) (F : FnOk X.prog X.w X.K X.mg X.base CX k f fd ps sp) (hr : Room k X.A) (hb : Binds X.K fd ps ds) (hd : Vals dvs ds) (hx : Passes CX X E)
    (ht : eval (.Call (.Attribute o m apos) [] [] pos) X.env = (do
      let ov ← eval o X.env
      standAt apos.atName
      let (f, first) ← holding [ov] (getMethod ov m pl)
      callWith pos f first (backTo pos (starEach [] X.env)) (backToKw pos (keywordEach [] X.env))) := by rfl) :
    PE X (.Call (.Attribute o m apos) [] [] pos) (tMeth C m sp dvs E ta tNil) := by
  (first | constructor | skip)
  intro pins s σ H Q I h
  refine PySem.W.methodCall_KW (pl := pl) (thn (he pins s σ H _ I h) fun u s1 ⟨x, H1, I1, rx, a, dx, fs, ex, ea, l, q⟩ => ?_) ht
  subst ex
  obtain rfl : u = Value.ref a := rx
  refine getmeth_ok I1 ea c hm l ?_
  exact PySem.W.callWith_K0 (first := [.ref a]) I1.kIn hm.kp (run_fn (us := [.ref a]) (vs := [.ref a]) F hr hb hd hx I1 (.cons rfl .nil) q)

/-- what a class must have to be made -/
structure Mk (K : PySem.W.Frag) (C f : Addr) : Prop where
  makes : PySem.W.makesIn K C = true
  init : PySem.W.findIn K (.ref C) "__init__" = some (some (.ref f))
  fn : PySem.W.isFn K (.ref f) = true
  kp : PySem.W.keepIn K (.ref C) = true

theorem run_make {pins : List (Addr × Obj)} {σ : St} {H : Hp} {s : Shared} {Q : VK} {us : List Value} {vs : List V} (M : Mk X.K C f) (F : FnOk X.prog X.w X.K X.mg X.base CX k f fd ps sp) (hr : Room (k + 1) X.A) (hb : Binds X.K fd ps ds) (hd : Vals dvs ds)
    (hx : Passes CX X E) (I : Inv X pins σ H s) (r : Vals vs us)
    (h : ∀ x dx, H x = none → H dx = none → dx ≠ x → sp (.ref x :: (vs ++ dvs)) (upd (upd H dx (.own x)) x (.ins C dx [])) (fun v H2 => v = .non ∧ Q (.ref x) H2) E) :
    wpAny (model X.prog X.w) X.A (call (.ref C) us) (EP X pins σ Q) X.xe s := by
  have hq := h (s.heap.objs.size + 1) s.heap.objs.size (I.hok.fresh (Nat.le_succ _)) (I.hok.fresh (Nat.le_refl _)) (Nat.ne_of_lt (Nat.lt_succ_self _))
  have I2 := Inv.made (C := C) I
  have r2 : Vals (V.ref (s.heap.objs.size + 1) :: (vs ++ dvs)) (Value.ref (s.heap.objs.size + 1) :: (us ++ ds)) := .cons rfl (r.append hd)
  have hl : (Value.ref (s.heap.objs.size + 1) :: us ++ ds).length = ps.length := by
    have e := r2.length
    rw [F.len _ _ _ _ hq] at e
    exact e.symm
  refine wpAny_call (make_map (f := f) I.kIn M.makes M.init (beq_iff_eq.mp M.fn) (codeAny_mono (F.run _ X.stack _ _ ⟨Value.ref (s.heap.objs.size + 1) :: us, []⟩ (Value.ref (s.heap.objs.size + 1) :: (us ++ ds)) _ _ E (hr.make C us [])
    (I2.env0.make C us []) (hb _ (Value.ref (s.heap.objs.size + 1) :: us) I2.kIn hl) r2 hq) fun r s' hq' => ?_))
  cases r with
  | error e => exact hx pins σ _ _ e s' I2 hq'
  | ok fl =>
    cases fl with
    | ret u =>
      obtain ⟨v, H', I3, rv, ev, q3⟩ := I2.after hq'
      subst ev
      exact ⟨rv, ⟨V.ref (s.heap.objs.size + 1), H', I3, rfl, q3⟩⟩
    | next => exact False.elim hq'
    | brk => exact False.elim hq'
    | cont => exact False.elim hq'
theorem pe_make (M : Mk X.K C f) (F : FnOk X.prog X.w X.K X.mg X.base CX k f fd ps sp) (hr : Room (k + 1) X.A) (hg : Gl X x) (hm : X.mg x = some (.ref C)) (hb : Binds X.K fd ps ds) (hd : Vals dvs ds) (hx : Passes CX X E)
    (ha : PA X (e :: es) t) (hdb : (x == ("__debug__" : Str)) = false := by decide) (he : starEach (e :: es) X.env = (false, eval e X.env) :: starEach es X.env := by rfl) (hpl : (backTo pos (starEach es X.env)).any (·.1) = false := by rfl) :
    PE X (.Call (.Name x p) (e :: es) [] pos) (tMake C sp dvs E t) := by
  (first | constructor | skip)
  intro pins s σ H Q I h
  refine wpAny_Call_Name_kw (ld_glob I hg hm ?_ hdb)
  refine PySem.W.callWith_K (h₀ := X.base) I.ok.mod.kin M.kp (thn (ha pos pins s σ H _ I h) fun us s1 ⟨vs, H1, I1, r, q⟩ => ⟨I1.kIn, ?_⟩) he hpl
  exact run_make M F hr hb hd hx I1 r q
theorem pe_make0 (M : Mk X.K C f) (F : FnOk X.prog X.w X.K X.mg X.base CX k f fd ps sp) (hr : Room (k + 1) X.A) (hg : Gl X x) (hm : X.mg x = some (.ref C)) (hb : Binds X.K fd ps ds) (hd : Vals dvs ds) (hx : Passes CX X E)
    (hdb : (x == ("__debug__" : Str)) = false := by decide) : PE X (.Call (.Name x p) [] [] pos) (tMake C sp dvs E tNil) := by
  (first | constructor | skip)
  intro pins s σ H Q I h
  refine wpAny_Call_Name_kw (ld_glob I hg hm ?_ hdb)
  exact PySem.W.callWith_K0 I.kIn M.kp (run_make (us := []) M F hr hb hd hx I .nil h)
end

/-! ### keywords -/
/-- the values of the keywords, from the left -/
structure PK (X : Cx) (kws : List Keyword) (t : TA) : Prop where
  run :
    ∀ (pos : Pos) (pins : List (Addr × Obj)) (s : Shared) (σ : St) (H : Hp) (Q : List V → Hp → Prop), Inv X pins σ H s → t σ H Q → wpAny (model X.prog X.w) X.A (evalAll ((backToKw pos (keywordEach kws X.env)).map (·.2))) (AP X pins σ Q) X.xe s
instance {X : Cx} {kws : List Keyword} {t : TA} : CoeFun (PK X kws t) (fun _ =>
    ∀ (pos : Pos) (pins : List (Addr × Obj)) (s : Shared) (σ : St) (H : Hp) (Q : List V → Hp → Prop), Inv X pins σ H s → t σ H Q → wpAny (model X.prog X.w) X.A (evalAll ((backToKw pos (keywordEach kws X.env)).map (·.2))) (AP X pins σ Q) X.xe s
  ) := ⟨PK.run⟩
section
variable {X : Cx} {CX : CXT} {k : Nat} {f C : Addr} {fd : FuncData} {ps ks : List Str} {sp : Sp} {E : XK} {x m : Str} {p pos apos kpos : Pos} {e o : Expr} {es : List Expr} {kws : List Keyword} {te ta : TE} {t tk : TA} {nm : Option Str}
theorem pk_nil : PK X [] tNil := .mk fun _ _ _ _ H Q I h => wpAny_evalAll_nil ⟨[], H, I, .nil, h⟩
theorem pk_cons (ha : PE X e te) (hr : PK X kws t) : PK X (⟨nm, e, kpos⟩ :: kws) (tCons te t) := by
  (first | constructor | skip)
  intro pos pins s σ H Q I h
  show wpAny _ _ (evalAll ((do let v ← eval e X.env; standAt pos; pure v) :: (backToKw pos (keywordEach kws X.env)).map (·.2))) _ _ s
  refine wpAny_evalAll_cons (wpAny_bind (thn (ha pins s σ H _ I h) fun u s1 ⟨x, H1, I1, r1, q1⟩ => wpAny_bind (wpAny_standAt (wpAny_pure ?_))))
  exact thn (hr pos pins s1 σ H1 _ I1 q1) fun us s2 ⟨xs, H2, I2, r2, q2⟩ => ⟨x :: xs, H2, I2, .cons r1 r2, q2⟩

/-- how a call with keywords binds: g puts the positional values us and the keywords' values ws (names ks) in the parameters' order, defaults among them -/
structure KBinds (K : PySem.W.Frag) (fd : FuncData) (ps ks : List Str) (g : List Value → List Value → List Value) (gV : List V → List V → List V) : Prop where
  to : ∀ (s : Shared) (us ws : List Value), K.In s.heap → (g us ws).length = ps.length → BindsTo s fd ⟨us, ks.zip ws⟩ (ps.zip (g us ws))
  rel : ∀ {vs : List V} {us : List Value} {zs : List V} {ws : List Value}, Vals vs us → Vals zs ws → Vals (gV vs zs) (g us ws)
def tCallK (sp : Sp) (gV : List V → List V → List V) (E : XK) (t tk : TA) : TE := fun σ H Q => t σ H fun vs H1 => tk σ H1 fun zs H2 => sp (gV vs zs) H2 Q E
variable {g : List Value → List Value → List Value} {gV : List V → List V → List V}
theorem run_fnk {pins : List (Addr × Obj)} {σ : St} {H : Hp} {s : Shared} {Q : VK} {us ws : List Value} {vs zs : List V} (F : FnOk X.prog X.w X.K X.mg X.base CX k f fd ps sp) (hr : Room k X.A) (hb : KBinds X.K fd ps ks g gV) (hx : Passes CX X E)
    (I : Inv X pins σ H s) (r : Vals vs us) (rz : Vals zs ws) (h : sp (gV vs zs) H Q E) : wpAny (model X.prog X.w) X.A (call (.ref f) us (ks.zip ws)) (EP X pins σ Q) X.xe s := by
  have r2 := hb.rel r rz
  have hl : (g us ws).length = ps.length := by rw [← r2.length]; exact F.len _ _ _ _ h
  refine wpAny_call (codeAny_mono (F.run X.A X.stack s H ⟨us, ks.zip ws⟩ (g us ws) (gV vs zs) Q E hr I.env0 (hb.to s us ws I.kIn hl) r2 h) fun r s' hq => ?_)
  cases r with
  | error e => exact hx pins σ H s e s' I hq
  | ok fl =>
    cases fl with
    | ret u => exact I.after hq
    | next => exact False.elim hq
    | brk => exact False.elim hq
    | cont => exact False.elim hq
/-- f(e, .., k = v, ..) -/
theorem pe_callK (F : FnOk X.prog X.w X.K X.mg X.base CX k f fd ps sp) (hr : Room k X.A) (hg : Gl X x) (hm : X.mg x = some (.ref f)) (hk : PySem.W.keepIn X.K (.ref f) = true) (hb : KBinds X.K fd ps ks g gV) (hx : Passes CX X E)
    (ha : PA X (e :: es) t) (hkw : PK X kws tk) (hall : (backToKw pos (keywordEach kws X.env)).all (·.1.isSome) = true := by rfl) (hks : (backToKw pos (keywordEach kws X.env)).filterMap (·.1) = ks := by rfl)
    (hdb : (x == ("__debug__" : Str)) = false := by decide) (he : starEach (e :: es) X.env = (false, eval e X.env) :: starEach es X.env := by rfl)
    (hpl : ((backTo pos (starEach (e :: es) X.env)).any (·.1) || (backToKw pos (keywordEach kws X.env)).any (·.1.isNone)) = false := by rfl) :
    PE X (.Call (.Name x p) (e :: es) kws pos) (tCallK sp gV E t tk) := by
  (first | constructor | skip)
  intro pins s σ H Q I h
  refine wpAny_Call_Name_kw (ld_glob I hg hm ?_ hdb)
  refine PySem.W.callWith_KW (h₀ := X.base) I.ok.mod.kin hk hall (thn (ha pos pins s σ H _ I h) fun us s1 ⟨vs, H1, I1, r, q⟩ => ?_) hpl he
  refine thn (hkw pos pins s1 σ H1 _ I1 q) fun ws s2 ⟨zs, H2, I2, rz, q2⟩ => ⟨I2.kIn, ?_⟩
  rw [hks]
  exact run_fnk F hr hb hx I2 r rz q2
end

/-! ### a def's body keeps its promise -/
/-- names: the parameters first -/
structure FnScope (N P : List Str) (sc : Scope) : Prop where
  kind : sc.kind = .function
  co : sc.isCoroutine = false
  gen : sc.isGenerator = false
  nd : N.Nodup
  pre : N.take P.length = P
  par : ∀ x ∈ P, sc.names.lookup x = some .local ∨ sc.names.lookup x = some .cell
  nofree : ∀ y ∈ sc.names, y.2 ≠ .free

theorem bindL_out {kindOf : Str → Option NameKind} {x : Str} : ∀ {binds : List (Str × Value)} {m : Str → Option Value}, (∀ v, (x, v) ∉ binds) → bindL kindOf binds m x = m x
  | [], _, _ => rfl
  | (n, v) :: r, m, h => by
    unfold bindL
    rw [bindL_out fun w hw => h w (List.mem_cons_of_mem _ hw)]
    split
    · have : x ≠ n := by rintro rfl; exact h v List.mem_cons_self
      simp [this]
    · rfl
theorem bindC_out {kindOf : Str → Option NameKind} {x : Str} : ∀ {binds : List (Str × Value)} {m : Str → Option Value}, (∀ v, (x, v) ∉ binds) → bindC kindOf binds m x = m x
  | [], _, _ => rfl
  | (n, v) :: r, m, h => by
    unfold bindC
    rw [bindC_out fun w hw => h w (List.mem_cons_of_mem _ hw)]
    split
    · rfl
    · have : x ≠ n := by rintro rfl; exact h v List.mem_cons_self
      simp [this]
theorem bindL_get {kindOf : Str → Option NameKind} {x : Str} {v : Value} : ∀ {P : List Str} {vs : List Value} {i : Nat} {m : Str → Option Value}, P.Nodup → P[i]? = some x → vs[i]? = some v → kindOf x = some .local →
    bindL kindOf (P.zip vs) m x = some v
  | [], _, _, _, _, h, _, _ => by simp at h
  | _ :: _, [], _, _, _, _, h, _ => by simp at h
  | p :: P, w :: vs, 0, m, nd, h1, h2, hk => by
    simp at h1 h2; subst h1; subst h2
    show bindL kindOf ((p, w) :: P.zip vs) m p = _
    unfold bindL
    rw [bindL_out fun v hv => (List.nodup_cons.mp nd).1 (List.of_mem_zip hv).1, if_pos hk]
    simp
  | p :: P, w :: vs, i + 1, m, nd, h1, h2, hk => by
    show bindL kindOf ((p, w) :: P.zip vs) m x = _
    unfold bindL
    exact bindL_get (i := i) (List.nodup_cons.mp nd).2 (by simpa using h1) (by simpa using h2) hk
theorem bindC_get {kindOf : Str → Option NameKind} {x : Str} {v : Value} : ∀ {P : List Str} {vs : List Value} {i : Nat} {m : Str → Option Value}, P.Nodup → P[i]? = some x → vs[i]? = some v → kindOf x ≠ some .local →
    bindC kindOf (P.zip vs) m x = some v
  | [], _, _, _, _, h, _, _ => by simp at h
  | _ :: _, [], _, _, _, _, h, _ => by simp at h
  | p :: P, w :: vs, 0, m, nd, h1, h2, hk => by
    simp at h1 h2; subst h1; subst h2
    show bindC kindOf ((p, w) :: P.zip vs) m p = _
    unfold bindC
    rw [bindC_out fun v hv => (List.nodup_cons.mp nd).1 (List.of_mem_zip hv).1, if_neg hk]
    simp
  | p :: P, w :: vs, i + 1, m, nd, h1, h2, hk => by
    show bindC kindOf ((p, w) :: P.zip vs) m x = _
    unfold bindC
    exact bindC_get (i := i) (List.nodup_cons.mp nd).2 (by simpa using h1) (by simpa using h2) hk

/-- the names' values at the entry -/
def start (N : List Str) (vs : List V) : St := vs.map some ++ List.replicate (N.length - vs.length) none

/-- the context of a def's body, at its entry; an exception leaves the frame, then lies as CX says -/
def cxOf (CX : CXT) (P : Program) (w : World) (K : PySem.W.Frag) (mg : Str → Option Value) (base : Heap) (N : List Str) (qual : Str) (scope : Scope) (f : Addr) (cd : Value) (A : Around) (outer : List Env) (s : Shared) (H : Hp) (E : XK) : Cx where
  prog := P
  w := w
  K := K
  mg := mg
  base := base
  A := A.deeper (envOfC qual scope s.heap.objs.size f cd)
  N := N
  s₀ := s
  H₀ := H
  env := envOfC qual scope s.heap.objs.size f cd
  outer := outer
  stack := envOfC qual scope s.heap.objs.size f cd :: outer
  ex := []
  calm := true
  fn := fun _ => true
  pn := []
  xe := fun e s' => wpAny (model P w) (A.deeper (envOfC qual scope s.heap.objs.size f cd)) (leaving (envOfC qual scope s.heap.objs.size f cd) e) (fun _ s'' => CX outer H s E e s'') (fun e' s'' => CX outer H s E e' s'') s'

theorem cell_has {sc : Scope} {n : Nat} {x : Str} (h : sc.names.lookup x = some .cell) : ∃ c, (cellsFrom n sc.names []).lookup x = some c := by
  have q := PySem.W.cellsFrom_some sc.names n [] (.inl h)
  exact Option.isSome_iff_exists.mp q

theorem inv_start {CX : CXT} {P : Program} {w : World} {K : PySem.W.Frag} {mg : Str → Option Value} {base : Heap} {N ps : List Str} {qual : Str} {scope : Scope} {f : Addr} {cd : Value} {A : Around} {outer : List Env} {s s1 : Shared} {H : Hp} {E : XK} {us : List Value} {vs : List V}
    (S : FnScope N ps scope) (hd : A.handled = none) (e0 : Env0 P w K mg base A outer s H) (hl : vs.length = ps.length) (r : Vals vs us)
    (x : InCallC s s.heap.objs.size (bindL (envOfC qual scope s.heap.objs.size f cd).kindOf (ps.zip us) fun _ => none) (cellsFrom (s.heap.objs.size + 1) scope.names []) (bindC (envOfC qual scope s.heap.objs.size f cd).kindOf (ps.zip us) fun _ => none) s1) :
    Inv (cxOf CX P w K mg base N qual scope f cd A outer s H E) [] (start N vs) H s1 := by
  have hpl : ps.length ≤ N.length := by have := congrArg List.length S.pre; rw [List.length_take] at this; omega
  obtain ⟨h1, tk, rfl, hk⟩ := x.done
  have noA : ∀ b : Addr, b ∉ (cxOf CX P w K mg base N qual scope f cd A outer s H E).ex := fun b z => absurd (show b ∈ ([] : List Addr) from z) (by simp)
  refine ⟨⟨e0.mod, S.kind, rfl, rfl, Nat.le_refl _, fun y z c h1 h2 => ?_, fun y hy => ?_, fun y c _ h => ?_, fun _ => hd, Around.frames_deeper e0.frames, .inr ⟨rfl, rfl⟩, fun b z => absurd z (noA b), e0.bs, e0.bsz, fun b _ _ => noA b, fun b z => absurd z (noA b), e0.funs, e0.frf⟩,
    rfl, e0.bare, Un.kept hk, ⟨_, x.toInCall.ns, fun i y v h1 h2 h3 => ?_⟩, fun y c h => ⟨_, x.cell y c h⟩, e0.hok.fresh (Nat.le_refl _), fun y c h => ?_, fun p hp => absurd (show p ∈ ([] : List (Addr × Obj)) from hp) (by simp), e0.hok.kept hk, ?_⟩
  · exact name_of_addr x.apart (PySem.mem_of_lookup h1) (PySem.mem_of_lookup h2)
  · have hy : scope.names.lookup y = some .cell ∨ scope.names.lookup y = some .free := hy
    rcases hy with hy | hy
    · exact cell_has hy
    · exact absurd rfl (S.nofree _ (PySem.mem_of_lookup hy))
  · exact Nat.le_of_lt (x.above y c (PySem.mem_of_lookup h))
  · have hi : i < vs.length := by
      unfold start at h2
      by_cases hi : i < vs.length
      · exact hi
      · rw [List.getElem?_append_right (by simpa using hi)] at h2
        rw [List.getElem?_replicate] at h2
        split at h2 <;> cases h2
    have ha : vs[i]? = some v := by
      unfold start at h2
      rw [List.getElem?_append_left (by simpa using hi), List.getElem?_map] at h2
      cases e : vs[i]? with
      | none => rw [e] at h2; cases h2
      | some a => rw [e] at h2; cases h2; rfl
    obtain ⟨u, hu, rv⟩ := r.get ha
    have hp : ps[i]? = some y := by
      rw [← S.pre, List.getElem?_take_of_lt (by omega)]; exact h1
    have ndP : ps.Nodup := by rw [← S.pre]; exact S.nd.sublist (List.take_sublist _ _)
    refine ⟨u, rv, ?_⟩
    rcases S.par y (List.mem_of_getElem? hp) with k | k
    · exact .inl ⟨k, bindL_get ndP hp hu k⟩
    · obtain ⟨c, e⟩ := cell_has (n := s.heap.objs.size + 1) k
      refine .inr ⟨.inl k, c, e, ?_⟩
      have q := x.cell y c e
      rw [bindC_get ndP hp hu (by show scope.names.lookup y ≠ _; rw [k]; decide)] at q
      exact q
  · exact e0.hok.fresh (Nat.le_of_lt (x.above y c (PySem.mem_of_lookup h)))
  · unfold start
    show _ = N.length
    rw [List.length_append, List.length_map, List.length_replicate]
    omega

/-- THE RULE: a def (or a method) of the text, by its body. The body's reading t is chosen for each entry; it is run at the parameters' values -/
theorem fn_of {CX : CXT} {P : Program} {w : World} {K : PySem.W.Frag} {mg : Str → Option Value} {base : Heap} {k : Nat} {f : Addr} {name qual : Str} {params : Arguments} {body : List Stmt} {scope : Scope} {dV kV doc pm cdv ct oc : Value} {an od : Option Addr}
    {osl : Array (Option Value)} {N ps : List Str} {sp : Sp} (lk : K.lookup f = some ⟨oc, od, .func (PySem.W.fnOf name qual params body scope dV kV doc pm an cdv ct), osl⟩) (hcd : PySem.W.codeIn K cdv qual = true) (S : FnScope N ps scope)
    (len : ∀ vs H Q E, sp vs H Q E → vs.length = ps.length)
    (hbody : ∀ (A : Around) (outer : List Env) (s : Shared) (H : Hp) (vs : List V) (Q : VK) (E : XK), Room k (A.deeper (envOfC qual scope s.heap.objs.size f cdv)) → sp vs H Q E →
      ∃ t, PSs (cxOf CX P w K mg base N qual scope f cdv A outer s H E) body t ∧ t { nx := fun _ H' => Q .non H', rt := Q } (start N vs) H) :
    FnOk P w K mg base CX (k + 1) f (PySem.W.fnOf name qual params body scope dV kV doc pm an cdv ct) ps sp := by
  refine ⟨len, fun A outer s H args us vs Q E hr e0 hb r hsp => ?_⟩
  have hl := len _ _ _ _ hsp
  have KX : K.In s.heap := e0.mod.kin.keeps fun b o e => (e0.bs b o e).1
  have lim : s.heap.NoLimit := e0.mod.nolimit.keeps fun b o e => (e0.bs b o e).1
  have hkind : ∀ y ∈ ps.zip us, scope.names.lookup y.1 = some .local ∨ (scope.names.lookup y.1 = some .cell ∧ ((cellsFrom (s.heap.objs.size + 1) scope.names []).lookup y.1).isSome = true) := fun ⟨n, v⟩ hy => by
    rcases S.par n (List.of_mem_zip hy).1 with q | q
    · exact .inl q
    · exact .inr ⟨q, PySem.W.cellsFrom_some _ _ _ (.inl q)⟩
  refine codeAny_call_function hr.depth (KX _ _ lk) rfl S.co S.gen rfl (PySem.W.codeRec_of KX hcd) (hb _ _ _ _ ?_)
  refine wpAny_newFunctionEnv_cells S.kind hkind fun env he s1 x => ?_
  subst he
  refine ⟨lim.keeps x.toInCall.keep, codeAny_func ?_⟩
  obtain ⟨t, ht, hq⟩ := hbody A outer s H vs Q E (hr.deeper _) hsp
  have I : Inv (cxOf CX P w K mg base N qual scope f cdv A outer s H E) [] (start N vs) H s1 := inv_start S hr.hd e0 hl r x
  refine wpAny_mono (ht [] s1 (start N vs) H _ I hq) (fun fl s' hs => ?_) fun e s' hs => hs
  have fin : ∀ {σ' : St} {H' : Hp} {v : V} {u : Value}, Inv (cxOf CX P w K mg base N qual scope f cdv A outer s H E) [] σ' H' s' → RelV v u → Q v H' → CE outer P w H s Q u s' :=
    fun {σ' H' v u} J rv q => ⟨v, H', J.os, J.bare, J.base, J.hok, rv, q⟩
  cases fl with
  | ret u =>
    obtain ⟨v, σ', H', J, rv, q⟩ := hs
    exact fin J rv q
  | next =>
    obtain ⟨σ', H', J, q⟩ := hs
    exact fin (v := V.non) (u := Value.none) J rfl q
  | brk =>
    obtain ⟨_, _, _, q⟩ := hs
    exact False.elim q
  | cont =>
    obtain ⟨_, _, _, q⟩ := hs
    exact False.elim q
end L2

namespace L2
open PySem PySem.Spec PyProof.Rows
section
variable {X : Cx} {x : Str} {p pos : Pos} {e : Expr} {es : List Expr} {t : TA} {id T : String} {r : List V → Hp → VK → Prop}

def tCB (r : List V → Hp → VK → Prop) (t : TA) : TE := fun σ H Q => t σ H fun vs H1 => r vs H1 Q
/-- f(e, ..), f a built-in function -/
theorem pe_callB (hc : CallR X (.builtin id) r) (hg : Gl X x) (hm : X.mg x = none) (hv : bootBuiltins x = some (.builtin id)) (ha : PA X (e :: es) t) (hn : x ≠ "__name__" := by decide) (hdb : (x == ("__debug__" : Str)) = false := by decide)
    (he : starEach (e :: es) X.env = (false, eval e X.env) :: starEach es X.env := by rfl) (hpl : (backTo pos (starEach es X.env)).any (·.1) = false := by rfl) : PE X (.Call (.Name x p) (e :: es) [] pos) (tCB r t) := by
  (first | constructor | skip)
  intro pins s σ H Q I h
  refine wpAny_Call_Name_kw (ld_blt I hg hm hv ?_ hn hdb)
  exact PyProof.Rows.callWith_builtin1 (thn (ha pos pins s σ H _ I h) fun us s1 ⟨vs, H1, I1, r1, q1⟩ => hc pins s1 σ H1 vs us Q I1 r1 q1) he hpl
/-- T(e, ..), T a built-in type -/
theorem pe_callTy (hc : CallR X (.type T) r) (hg : Gl X x) (hm : X.mg x = none) (hv : bootBuiltins x = some (.type T)) (ha : PA X (e :: es) t) (hn : x ≠ "__name__" := by decide) (hdb : (x == ("__debug__" : Str)) = false := by decide)
    (he : starEach (e :: es) X.env = (false, eval e X.env) :: starEach es X.env := by rfl) (hpl : (backTo pos (starEach es X.env)).any (·.1) = false := by rfl) : PE X (.Call (.Name x p) (e :: es) [] pos) (tCB r t) := by
  (first | constructor | skip)
  intro pins s σ H Q I h
  refine wpAny_Call_Name_kw (ld_blt I hg hm hv ?_ hn hdb)
  exact PyProof.Rows.callWith_type1 (thn (ha pos pins s σ H _ I h) fun us s1 ⟨vs, H1, I1, r1, q1⟩ => hc pins s1 σ H1 vs us Q I1 r1 q1) he hpl
/-- T() -/
theorem pe_callTy0 (hc : CallR X (.type T) r) (hg : Gl X x) (hm : X.mg x = none) (hv : bootBuiltins x = some (.type T)) (hn : x ≠ "__name__" := by decide) (hdb : (x == ("__debug__" : Str)) = false := by decide) :
    PE X (.Call (.Name x p) [] [] pos) (tCB r tNil) := by
  (first | constructor | skip)
  intro pins s σ H Q I h
  refine wpAny_Call_Name_kw (ld_blt I hg hm hv ?_ hn hdb)
  exact PyProof.Rows.callWith_type0 (hc pins s σ H [] [] Q I .nil h)
end
end L2

namespace HT
open PySem PyProof.Rows

/-- t < u of tuples of ints -/
def lexLt : List Int → List Int → Bool
  | [], [] => false
  | [], _ :: _ => true
  | _ :: _, [] => false
  | x :: xs, y :: ys => if x = y then lexLt xs ys else decide (x < y)
theorem lexLt_cons (x y : Int) (xs ys : List Int) : lexLt (x :: xs) (y :: ys) = if x = y then lexLt xs ys else decide (x < y) := rfl
theorem lexLt_nil_nil : lexLt [] [] = false := rfl
theorem lexLt_nil_cons (y : Int) (ys : List Int) : lexLt [] (y :: ys) = true := rfl
theorem lexLt_cons_nil (x : Int) (xs : List Int) : lexLt (x :: xs) [] = false := rfl

theorem eqAt_int (A : Around) (s : Shared) (a : Int) (t : Tok) (c : Int) (u : Tok) : ∃ e, SeqAt.EqAt A s (.int a t) (.int c u) e ∧ (e = true ↔ a = c) :=
  ⟨(a == c), SeqAt.EqAt.int_int a t c u, by simp⟩
theorem rcLt_int (A : Around) (s : Shared) (a : Int) (t : Tok) (c : Int) (u : Tok) (prog : Program) (w : World) (E : Value → Shared → Prop) (Q : Value → Shared → Prop) (h : Q (.bool (decide (a < c))) s) :
    wpAny (model prog w) A (richCompare .Lt (.int a t) (.int c u)) Q E s :=
  (PyProof.Rows.lt_int h : wpAny (model prog w) A (compareOp .Lt (.int a t) (.int c u)) Q E s)

section
open PySem.SeqAt
open PySem.AutoSeq1 (wpAny_loadPart')
open PySem.MeetsSeq PySem.MeetsSeq2 PySem.MeetsSeq3

theorem tuple_lt_ints (l b : Addr) (items items2 : Array Value) (n n2 : Nat) (dd dd2 : Option Addr) (sl sl2 : Array (Option Value)) (ns ms : List Int) (hi : IntsAre items.toList ns) (hj : IntsAre items2.toList ms) :
    Meets (Builtin.«tuple.__lt__» ⟨[.ref l, .ref b], []⟩)
      (fun _ R s => s.heap.get? l = some { cls := .type "tuple", dict := dd, data := .seq items n, slots := sl } ∧ s.heap.get? b = some { cls := .type "tuple", dict := dd2, data := .seq items2 n2, slots := sl2 } ∧
        R (.ok (.ret (.bool (lexLt ns ms)))) s) :=
  .of_wp fun prog w A R s h => by
    obtain ⟨hp, g, d, tk, os⟩ := s; obtain ⟨hl, hb, h⟩ := h
    have f2 := AutoSeq1.sub_tuple_tuple
    have z1 : items.size = ns.length := by rw [← hi.length]; simp
    have z2 : items2.size = ms.length := by rw [← hj.length]; simp
    wp_walk using wpAny_loadPart' hl, wpAny_loadPart' hb, wpAny_forIn_list _ (fun rest b s' => b.1 = none ∧ s' = ⟨hp, g, d, tk, os⟩ ∧ ∃ (vs ws : List Value) (ns' ms' : List Int), rest = vs.zip ws ∧
      IntsAre vs ns' ∧ IntsAre ws ms' ∧ ns'.length + items2.size = ms'.length + items.size ∧ R (.ok (.ret (.bool (lexLt ns' ms')))) ⟨hp, g, d, tk, os⟩) _
    case turn =>
      rintro ⟨y, x⟩ rest b s' ⟨hb', rfl, vs, ws, ns', ms', hz, hvi, hwi, hlen, hR⟩
      cases hvi with
      | nil => rw [List.zip_nil_left] at hz; cases hz
      | cons a t hvi' =>
        cases hwi with
        | nil => rw [List.zip_nil_right] at hz; cases hz
        | cons c u hwi' =>
          rw [List.zip_cons_cons] at hz
          injection hz with hyx hrest
          injection hyx with hy hx
          subst hy hx
          rw [lexLt_cons] at hR
          simp only [List.length_cons] at hlen
          obtain ⟨e, he, hiff⟩ := eqAt_int A.in1 ⟨hp, g, d, tk, os⟩ a t c u
          refine wpAny_bind (he prog w _ _ ?_)
          cases e with
          | true =>
            rw [if_pos (hiff.mp rfl)] at hR
            wp_walk
            exact ⟨rfl, rfl, _, _, _, _, hrest, hvi', hwi', by omega, hR⟩
          | false =>
            rw [if_neg (fun q => absurd (hiff.mpr q) Bool.false_ne_true)] at hR
            have hri := rcLt_int A.in1 ⟨hp, g, d, tk, os⟩ a t c u prog w
            wp_walk using hri
            exact ⟨_, rfl, by simpa using hR⟩
    case fin =>
      rintro ⟨b1, b2⟩ s' ⟨hb', rfl, vs, ws, ns', ms', hz, hvi, hwi, hlen, hR⟩
      simp only at hb'
      subst hb'
      have hv : lexLt ns' ms' = decide (items.size < items2.size) := by
        cases hvi with
        | nil =>
          cases hwi with
          | nil =>
            simp only [List.length_nil] at hlen
            rw [lexLt_nil_nil]
            exact (decide_eq_false (by omega)).symm
          | cons c u hw =>
            simp only [List.length_nil, List.length_cons] at hlen
            rw [lexLt_nil_cons]
            exact (decide_eq_true (by omega)).symm
        | cons a t hv =>
          cases hwi with
          | nil =>
            simp only [List.length_nil, List.length_cons] at hlen
            rw [lexLt_cons_nil]
            exact (decide_eq_false (by omega)).symm
          | cons c u hw =>
            rw [List.zip_cons_cons] at hz
            cases hz
      rw [hv] at hR
      wp_walk
      exact ⟨_, rfl, by simpa [Builtin.Tuple.tupleCompareSizes] using hR⟩
    case h =>
      exact ⟨rfl, rfl, items.toList, items2.toList, ns, ms, rfl, hi, hj, by omega, h⟩
end

section
variable {prog : Program} {w : World} {A : Around} {E : Value → Shared → Prop} {s : Shared}

theorem lt_tupInts {l b : Addr} {items items2 : Array Value} {ns ms : List Int} {Q : Value → Shared → Prop} (hl : IsTup s.heap l items) (hb : IsTup s.heap b items2) (hi : IntsAre items.toList ns) (hj : IntsAre items2.toList ms)
    (hu : A.units < cLine) (h : Q (.bool (lexLt ns ms)) s) : wpAny (model prog w) A (compareOp .Lt (.ref l) (.ref b)) Q E s := by
  obtain ⟨⟨cls, dd, data, sl⟩, ho, hc, n, hd⟩ := id hl
  obtain ⟨⟨cls2, dd2, data2, sl2⟩, ho2, hc2, n2, hd2⟩ := id hb
  simp only at hc hd hc2 hd2
  subst hc hd hc2 hd2
  exact richCompare_meets_room (op := .Lt) ⟨_, ho, rfl⟩ ⟨_, ho2, rfl⟩ PySem.F.slot_tuple_lt PySem.F.entry_tuple_lt (PySem.F.args_tuple_lt_2 _ _) (tuple_lt_ints l b items items2 n n2 dd dd2 sl sl2 ns ms hi hj)
    ⟨ho, ho2, show Value.bool (lexLt ns ms) ≠ Value.notImplemented ∧ Q (.bool (lexLt ns ms)) s from ⟨(fun x => nomatch x), h⟩⟩ hu

/-- t + u, t not empty -/
theorem cat_tup {t b : Addr} {vs ws : List Value} {Q : Value → Shared → Prop} (ht : IsTup s.heap t vs.toArray) (hb : IsTup s.heap b ws.toArray) (hv : vs ≠ [])
    (h1 : ws = [] → Q (.ref t) s) (h2 : ws ≠ [] → Q (.ref s.heap.objs.size) { s with heap := s.heap.push { cls := .type "tuple", data := .seq (vs ++ ws).toArray } })
    (hsz : vs.length + ws.length ≤ sizeLine) : wpAny (model prog w) A (binaryOp .Add (.ref t) (.ref b)) Q E s := by
  obtain ⟨⟨cls, dd, data, sl⟩, ho, hc, n, hd⟩ := id ht
  obtain ⟨⟨cls2, dd2, data2, sl2⟩, ho2, hc2, n2, hd2⟩ := id hb
  simp only at hc hd hc2 hd2
  subst hc hd hc2 hd2
  have e : vs.toArray ++ ws.toArray = (vs ++ ws).toArray := by simp
  by_cases hw : ws = []
  · exact concat_meets ⟨_, ho, rfl⟩ ⟨_, ho2, rfl⟩ noFill_tuple_add seq_tuple_add PySem.F.slot_tuple_add PySem.F.entry_tuple_add (PySem.F.args_tuple_add_2 _ _)
      (tuple_addW1 t b vs.toArray ws.toArray n n2 dd dd2 sl sl2 (by simpa using hv) (by simp [hw])) ⟨ho, ho2, h1 hw⟩
  · refine concat_meets ⟨_, ho, rfl⟩ ⟨_, ho2, rfl⟩ noFill_tuple_add seq_tuple_add PySem.F.slot_tuple_add PySem.F.entry_tuple_add (PySem.F.args_tuple_add_2 _ _)
      (tuple_addW2 t b vs.toArray ws.toArray n n2 dd dd2 sl sl2 (by simpa using hv) (by simpa using hw) (by rw [List.size_toArray, List.size_toArray]; exact hsz)) ⟨ho, ho2, ?_⟩
    rw [e]
    exact h2 hw

/-! ### t[a:b], not the whole -/
/-- a slice's bound as a place among n (d where it is left out) -/
def sIx (n d : Nat) : Option Int → Nat
  | none => d
  | some v => if v < 0 then (v + (n : Int)).toNat else min v.toNat n
theorem sIx_none (n d : Nat) : sIx n d none = d := rfl
theorem sIx_nat (n d k : Nat) : sIx n d (some (k : Int)) = min k n := by
  show (if (k : Int) < 0 then ((k : Int) + (n : Int)).toNat else min (k : Int).toNat n) = min k n
  rw [if_neg (by omega), Int.toNat_natCast]
theorem sIx_le (n d : Nat) (hd : d ≤ n) (o : Option Int) : sIx n d o ≤ n := by
  cases o with
  | none => exact hd
  | some v =>
    show (if v < 0 then (v + (n : Int)).toNat else min v.toNat n) ≤ n
    by_cases hv : v < 0
    · rw [if_pos hv]; omega
    · rw [if_neg hv]; exact Nat.min_le_right _ _
theorem clip_eq (v : Int) (n d : Nat) : (if v < 0 then max (v + (n : Int)) 0 else min v (n : Int)) = ((sIx n d (some v) : Nat) : Int) := by
  show (if v < 0 then max (v + (n : Int)) 0 else min v (n : Int)) = (((if v < 0 then (v + (n : Int)).toNat else min v.toNat n) : Nat) : Int)
  by_cases hv : v < 0
  · simp only [if_pos hv]; omega
  · simp only [if_neg hv]; omega
theorem adjust_gen (lo hi : Option Int) (n : Nat) : Builtin.Slice.sliceAdjust lo hi 1 (n : Int) = (((sIx n 0 lo : Nat) : Int), ((sIx n n hi : Nat) : Int)) := by
  have h1 : ¬ ((1 : Int) < 0) := by omega
  unfold Builtin.Slice.sliceAdjust
  simp only [h1, if_false]
  refine Prod.ext ?_ ?_
  · cases lo with
    | none => rfl
    | some v => exact clip_eq v n 0
  · cases hi with
    | none => rfl
    | some v => exact clip_eq v n n
theorem places_gen (i j : Nat) : Builtin.Slice.slicePlaces (i : Int) (j : Int) 1 = j - i := by
  unfold Builtin.Slice.slicePlaces
  have h1 : (1 : Int) > 0 := by omega
  simp only [h1, if_true, Int.ediv_one]
  split <;> omega
theorem slicePart_ {v : Value} {o : Option Int} {Q : Option Int → Shared → Prop} (p : IsPart v o) (h : Q o s) : wpAny (model prog w) A (Builtin.Slice.slicePartIndex v) Q E s := by
  cases p with
  | none => exact slicePart_none h
  | int i t => exact slicePart_int h
theorem sliceApplied_gen {sl : Addr} {vl vu : Value} {lo hi : Option Int} {n : Nat} {Q : Int × Int × Nat → Shared → Prop} (hs : s.heap.IsSliceOf sl vl vu .none) (pl : IsPart vl lo) (pu : IsPart vu hi)
    (h : Q (((sIx n 0 lo : Nat) : Int), 1, sIx n n hi - sIx n 0 lo) s) : wpAny (model prog w) A (Builtin.Slice.sliceApplied (.ref sl) (pure (n : Int))) Q E s := by
  obtain ⟨os, hos, hcs, hds⟩ := id hs
  unfold Builtin.Slice.sliceApplied Builtin.Slice.sliceFields
  refine wpAny_bind (wpAny_bind (wpAny_field hos hds (x := vl) rfl (wpAny_bind (wpAny_field hos hds (x := vu) rfl (wpAny_bind (wpAny_field hos hds (x := .none) rfl (wpAny_pure ?_)))))))
  refine wpAny_bind (slicePart_none ?_)
  show wpAny _ _ (if ((1 : Int) == 0) = true then _ else _) _ _ s
  rw [if_neg (by decide)]
  refine wpAny_bind (slicePart_ pl (wpAny_bind (slicePart_ pu (wpAny_bind (wpAny_pure ?_)))))
  show wpAny _ _ (match Builtin.Slice.sliceAdjust lo hi 1 (n : Int) with | (lo, hi) => pure (lo, (1 : Int), Builtin.Slice.slicePlaces lo hi 1)) _ _ s
  rw [adjust_gen lo hi n]
  show wpAny _ _ (pure (((sIx n 0 lo : Nat) : Int), (1 : Int), Builtin.Slice.slicePlaces ((sIx n 0 lo : Nat) : Int) ((sIx n n hi : Nat) : Int) 1)) _ _ s
  rw [places_gen]
  exact wpAny_pure h
theorem pick_gen (xs : Array Value) (i k : Nat) : ((List.range k).filterMap fun (m : Nat) => xs[((i : Int) + (m : Int) * 1).toNat]?).toArray = ((xs.toList.drop i).take k).toArray := by
  have e : (fun (m : Nat) => xs[((i : Int) + (m : Int) * 1).toNat]?) = fun m => xs[i + m]? := by
    funext m
    have : ((i : Int) + (m : Int) * 1).toNat = i + m := by omega
    rw [this]
  rw [e]
  have := pick_run xs i k
  rw [List.filterMap_map] at this
  have e2 : ((fun x => xs[x]?) ∘ fun x => i + x) = fun m => xs[i + m]? := rfl
  rw [e2] at this
  rw [this]

theorem getItem_tuple_cut {t sl : Addr} {items : Array Value} {vl vu : Value} {lo hi : Option Int} {Q : Value → Shared → Prop} (ht : IsTup s.heap t items) (hs : s.heap.IsSliceOf sl vl vu .none) (pl : IsPart vl lo) (pu : IsPart vu hi)
    (hw : ¬ (sIx items.size 0 lo = 0 ∧ sIx items.size items.size hi = items.size))
    (h : Q (.ref s.heap.objs.size) { s with heap := s.heap.push { cls := .type "tuple", data := .seq ((items.toList.drop (sIx items.size 0 lo)).take (sIx items.size items.size hi - sIx items.size 0 lo)).toArray } })
    (hsz : items.size ≤ sizeLine) : wpAny (model prog w) A (getItem (.ref t) (.ref sl)) Q E s := by
  have htake : sizeOk (.seq ((items.toList.drop (sIx items.size 0 lo)).take (sIx items.size items.size hi - sIx items.size 0 lo)).toArray) := by
    show ((items.toList.drop (sIx items.size 0 lo)).take (sIx items.size items.size hi - sIx items.size 0 lo)).toArray.size ≤ sizeLine
    rw [List.size_toArray, List.length_take, List.length_drop, Array.length_toList]
    omega
  have hj : sIx items.size items.size hi ≤ items.size := sIx_le _ _ (Nat.le_refl _) hi
  obtain ⟨os, hos, hcs, hds⟩ := id hs
  have hTs : s.TypeIs (.ref sl) "slice" := ⟨os, hos, hcs⟩
  unfold getItem
  try with_reducible refine wpAny_holding ?_
  first | refine wpAny_bind (wpAny_pure ?_) | skip
  refine wpAny_bind (wpAny_sequenceKey ht.typeIs (by decide) ?_)
  refine wpAny_bind (wpAny_callSpecial?_slot (name := Str.ofString "__getitem__") ht.typeIs PyProof.Rows.slot_tuple_getitem
    (wpAny_call_entry PyProof.Rows.slot_tuple_getitem ht.typeIs entry_tuple_getitem ?_ (args_tuple_getitem _ _)))
  show wpAny _ _ (Builtin.Tuple.tupleItemsOf (.ref t) >>= _) _ _ s
  refine wpAny_bind (tupleItemsOf_ ht ?_)
  refine wpAny_bind (wpAny_typeOf hTs ?_)
  rw [if_pos (by decide)]
  refine wpAny_bind (sliceApplied_gen hs pl pu ?_)
  have hno : ¬ ((((sIx items.size 0 lo : Nat) : Int) == 0 && (1 : Int) == 1 && (sIx items.size items.size hi - sIx items.size 0 lo) == items.size) = true) := by
    intro q
    rw [Bool.and_eq_true, Bool.and_eq_true] at q
    have q1 : ((sIx items.size 0 lo : Nat) : Int) = 0 := eq_of_beq q.1.1
    have q2 : sIx items.size items.size hi - sIx items.size 0 lo = items.size := eq_of_beq q.2
    exact hw ⟨by omega, by omega⟩
  show wpAny _ _ (if (((sIx items.size 0 lo : Nat) : Int) == 0 && (1 : Int) == 1 && (sIx items.size items.size hi - sIx items.size 0 lo) == items.size) = true then _ else _) _ _ s
  rw [if_neg hno, pick_gen]
  first
    | exact wpAny_bind (m := Builtin.Tuple.tupleExact _) (wpAny_newObj_type (wpAny_pure ⟨_, rfl, wpAny_pure h⟩) htake)
    | exact wpAny_bind (m := Builtin.Tuple.tupleExact _) (wpAny_newObj_type (wpAny_bind (wpAny_pure (wpAny_pure ⟨_, rfl, wpAny_pure h⟩))) htake)
    | exact wpAny_bind (wpAny_bind (m := Builtin.Tuple.tupleExact _) (wpAny_newObj_type (wpAny_pure (wpAny_pure ⟨_, rfl, wpAny_pure h⟩)) htake))
    | exact wpAny_bind (wpAny_bind (m := Builtin.Tuple.tupleExact _) (wpAny_newObj_type (wpAny_pure ⟨_, rfl, wpAny_pure h⟩) htake))
end
end HT

namespace L2
open PySem PySem.Spec PyProof.Rows

/-! ### the parts of a slice -/
abbrev TO := St → Hp → (Option Int → Hp → Prop) → Prop
/-- a slice's part (left out, or an int) -/
structure PO (X : Cx) (e : Option Expr) (t : TO) : Prop where
  run :
    ∀ (pins : List (Addr × Obj)) (s : Shared) (σ : St) (H : Hp) (Q : Option Int → Hp → Prop), Inv X pins σ H s → t σ H Q →
      wpAny (model X.prog X.w) X.A (evalPart e X.env) (fun u s' => ∃ o H', Inv X pins σ H' s' ∧ IsPart u o ∧ Q o H') X.xe s
instance {X : Cx} {e : Option Expr} {t : TO} : CoeFun (PO X e t) (fun _ =>
    ∀ (pins : List (Addr × Obj)) (s : Shared) (σ : St) (H : Hp) (Q : Option Int → Hp → Prop), Inv X pins σ H s → t σ H Q →
      wpAny (model X.prog X.w) X.A (evalPart e X.env) (fun u s' => ∃ o H', Inv X pins σ H' s' ∧ IsPart u o ∧ Q o H') X.xe s
  ) := ⟨PO.run⟩
def tNoPart : TO := fun _ H Q => Q none H
def tPart (t : TE) : TO := fun σ H Q => t σ H fun x H1 => ∃ i, x = .int i ∧ Q (some i) H1

theorem intsAre_of {ns : List Int} : ∀ {us : List Value}, Vals (ns.map V.int) us → IntsAre us ns := by
  induction ns with
  | nil => intro us r; rw [List.map_nil] at r; cases r; exact .nil
  | cons n ns ih =>
    intro us r
    rw [List.map_cons] at r
    cases r with
    | cons r1 r2 =>
      obtain ⟨t, e⟩ := r1
      subst e
      exact .cons n t (ih r2)

section
variable {X : Cx} {e : Expr} {te : TE} {lo hi : Option Expr} {tl th : TO} {pos p2 : Pos}

theorem po_none : PO X none tNoPart := by
  (first | constructor | skip)
  intro pins s σ H Q I h
  rw [evalPart_none]
  exact wpAny_pure ⟨none, H, I, .none, h⟩
theorem po_some (h : PE X e te) : PO X (some e) (tPart te) := by
  (first | constructor | skip)
  intro pins s σ H Q I hw
  rw [evalPart_some]
  refine thn (h pins s σ H _ I hw) fun u s1 ⟨x, H1, I1, r1, q1⟩ => ?_
  obtain ⟨i, rfl, q⟩ := q1
  obtain ⟨t, rfl⟩ := r1
  exact ⟨some i, H1, I1, .int i t, q⟩

/-- what a slice of a value is, by values: the slice object stands at sl -/
def SlR (X : Cx) (r : V → Option Int → Option Int → Hp → VK → Prop) : Prop :=
  ∀ (pins : List (Addr × Obj)) (s : Shared) (σ : St) (H : Hp) (x : V) (v vl vu : Value) (lo hi : Option Int) (sl : Addr) (Q : VK), Inv X pins σ H s → RelV x v → s.heap.IsSliceOf sl vl vu .none → IsPart vl lo → IsPart vu hi → r x lo hi H Q →
    ∃ T id, typeLookup (.type T) "__getitem__" = pure (some (.builtin id)) ∧ s.TypeIs v T ∧ wpAny (model X.prog X.w) X.A (getItem v (.ref sl)) (EP X pins σ Q) X.xe s
theorem SlR.or {r r' : V → Option Int → Option Int → Hp → VK → Prop} (h : SlR X r) (h' : SlR X r') : SlR X (fun x lo hi H Q => r x lo hi H Q ∨ r' x lo hi H Q) := by
  (first | constructor | skip)
  intro pins s σ H x v vl vu lo hi sl Q I rx hs pl pu q
  rcases q with q | q
  · exact h pins s σ H x v vl vu lo hi sl Q I rx hs pl pu q
  · exact h' pins s σ H x v vl vu lo hi sl Q I rx hs pl pu q
def tSl (r : V → Option Int → Option Int → Hp → VK → Prop) (te : TE) (tl th : TO) : TE := fun σ H Q => te σ H fun x H1 => tl σ H1 fun l H2 => th σ H2 fun u H3 => r x l u H3 Q
/-- a[lo:hi], any a -/
theorem pe_slice {r : V → Option Int → Option Int → Hp → VK → Prop} (hr : SlR X r) (he : PE X e te) (hl : PO X lo tl) (hu : PO X hi th) : PE X (.Subscript e (.Slice lo hi none p2) pos) (tSl r te tl th) := by
  (first | constructor | skip)
  intro pins s σ H Q I h
  refine Subscript_ (thn (he pins s σ H _ I h) fun v s1 ⟨x, H1, I1, r1, q1⟩ => ?_)
  refine wpAny_Slice (thn (hl pins s1 σ H1 _ I1 q1) fun vl s2 ⟨l, H2, I2, pl, q2⟩ => thn (hu pins s2 σ H2 _ I2 q2) fun vu s3 ⟨u, H3, I3, pu, q3⟩ => ?_)
  rw [evalPart_none]
  refine wpAny_pure ?_
  have I4 : Inv X pins σ H3 { s3 with heap := s3.heap.push { cls := .type "slice", data := .fields #[vl, vu, .none] } } := I3.kept (t' := s3.toks) fun b ob q => Heap.get?_push_of_some _ q
  obtain ⟨T, id, hT, ht, hg⟩ := hr pins { s3 with heap := s3.heap.push { cls := .type "slice", data := .fields #[vl, vu, .none] } } σ H3 x v vl vu l u s3.heap.objs.size Q I4 r1 (Heap.IsSliceOf.new ..) pl pu q3
  show wpAny (model X.prog X.w) X.A (subscriptTail e (.Slice lo hi none p2) v (.ref s3.heap.objs.size)) (EP X pins σ Q) X.xe { s3 with heap := s3.heap.push { cls := .type "slice", data := .fields #[vl, vu, .none] } }
  exact tail_any (ops := [.ref s3.heap.objs.size, v]) ht hT hg (by with_unfolding_all rfl)

/-- the items of xs[lo:hi] -/
def cutV (xs : List V) (lo hi : Option Int) : List V := (xs.drop (HT.sIx xs.length 0 lo)).take (HT.sIx xs.length xs.length hi - HT.sIx xs.length 0 lo)
theorem cutV_length (xs : List V) (lo hi : Option Int) : (cutV xs lo hi).length ≤ xs.length := by
  unfold cutV
  rw [List.length_take, List.length_drop]
  omega
/-- t[lo:hi], not the whole of it (the whole would be t itself) -/
def rSlT (K : PySem.W.Frag) : V → Option Int → Option Int → Hp → VK → Prop := fun x lo hi H Q => ∃ a xs, x = .ref a ∧ SqT K H a xs ∧
  ¬ (HT.sIx xs.length 0 lo = 0 ∧ HT.sIx xs.length xs.length hi = xs.length) ∧ ∀ p, H p = none → Q (.ref p) (upd H p (.tup (cutV xs lo hi)))
theorem sl_tup : SlR X (rSlT X.K) := by
  (first | constructor | skip)
  intro pins s σ H x v vl vu lo hi sl Q I rx hs pl pu h
  obtain ⟨a, xs, rfl, hx, hw, q⟩ := h
  cases rx
  obtain ⟨its, r, ht, hz⟩ := I.tuple hx
  have hlen : its.toArray.size = xs.length := by rw [List.size_toArray]; exact r.length.symm
  refine ⟨"tuple", _, PyProof.Rows.slot_tuple_getitem.lookup, ht.typeIs, ?_⟩
  refine HT.getItem_tuple_cut ht hs pl pu (by rw [hlen]; exact hw) ?_ (by rw [hlen]; exact hz)
  rw [hlen]
  refine ⟨.ref s.heap.objs.size, _, I.laid (t' := s.toks) (o := .tup (cutV xs lo hi)) (fun b ob q => Heap.get?_push_of_some _ q) (Nat.le_refl _) ?_, rfl, q _ (I.hok.fresh (Nat.le_refl _))⟩
  exact ⟨Nat.le_trans (cutV_length xs lo hi) hz, _, (r.drop (HT.sIx xs.length 0 lo)).take (HT.sIx xs.length xs.length hi - HT.sIx xs.length 0 lo), IsTup.new _ _⟩

/-! ### t < u, t + u -/
def rLtT (K : PySem.W.Frag) : R2 := fun x y H Q => ∃ a b ns ms, x = .ref a ∧ y = .ref b ∧ SqT K H a (ns.map V.int) ∧ SqT K H b (ms.map V.int) ∧ Q (.bl (HT.lexLt ns ms)) H
theorem op_ltT (hu : X.A.units < cLine) : OpR X (compareOp .Lt) (rLtT X.K) := by
  (first | constructor | skip)
  intro pins s σ H x y v u Q I rx ry h
  obtain ⟨a, b, ns, ms, rfl, rfl, ha, hb, q⟩ := h
  cases rx
  cases ry
  obtain ⟨its, r1, p1, _⟩ := I.tuple ha
  obtain ⟨its2, r2, p2, _⟩ := I.tuple hb
  have i1 : IntsAre its.toArray.toList ns := intsAre_of r1
  have i2 : IntsAre its2.toArray.toList ms := intsAre_of r2
  exact HT.lt_tupInts p1 p2 i1 i2 hu ⟨.bl (HT.lexLt ns ms), H, I, rfl, q⟩
/-- t + u, t not empty: u empty gives t itself -/
def rCatT (K : PySem.W.Frag) : R2 := fun x y H Q => ∃ a b xs ys, x = .ref a ∧ y = .ref b ∧ SqT K H a xs ∧ SqT K H b ys ∧ xs ≠ [] ∧ xs.length + ys.length ≤ sizeLine ∧
  (ys = [] → Q (.ref a) H) ∧ (ys ≠ [] → ∀ p, H p = none → Q (.ref p) (upd H p (.tup (xs ++ ys))))
theorem Vals.nil_iff {xs : List V} {us : List Value} (r : Vals xs us) : us = [] ↔ xs = [] := by
  cases r with
  | nil => simp
  | cons _ _ => simp
theorem op_catT : OpR X (binaryOp .Add) (rCatT X.K) := by
  (first | constructor | skip)
  intro pins s σ H x y v u Q I rx ry h
  obtain ⟨a, b, xs, ys, rfl, rfl, ha, hb, hx, hz, q1, q2⟩ := h
  cases rx
  cases ry
  obtain ⟨its, r1, p1, _⟩ := I.tuple ha
  obtain ⟨its2, r2, p2, _⟩ := I.tuple hb
  refine HT.cat_tup p1 p2 (fun z => hx (r1.nil_iff.mp z)) (fun z => ⟨.ref a, H, I, rfl, q1 (r2.nil_iff.mp z)⟩) (fun z => ?_) (by rw [← r1.length, ← r2.length]; exact hz)
  refine ⟨.ref s.heap.objs.size, _, I.laid (t' := s.toks) (o := .tup (xs ++ ys)) (fun b ob q => Heap.get?_push_of_some _ q) (Nat.le_refl _) ?_, rfl, q2 (fun w => z (r2.nil_iff.mpr w)) _ (I.hok.fresh (Nat.le_refl _))⟩
  exact ⟨by rw [List.length_append]; exact hz, _, r1.append r2, IsTup.new _ _⟩
/-- tuple(t) -/
theorem call_tupleT : CallR X (.type "tuple") (fun xs H Q => ∃ a ys, xs = [.ref a] ∧ SqT X.K H a ys ∧ Q (.ref a) H) := by
  (first | constructor | skip)
  intro pins s σ H xs us Q I r h
  obtain ⟨a, ys, rfl, ha, q⟩ := h
  obtain ⟨u, rfl, ru⟩ := vals1 r
  cases ru
  obtain ⟨its, _, p1, _⟩ := I.tuple ha
  exact call_tuple_same (items := its.toArray) p1 ⟨.ref a, H, I, rfl, q⟩
end
end L2

namespace L2
open PySem PySem.Spec PyProof.Rows

/-! ### places -/
/-- the place that an index of any sign means -/
def ixN (n : Nat) (i : Int) : Option Nat := if 0 ≤ i then (if i < n then some i.toNat else none) else if -(n : Int) ≤ i then some (i + n).toNat else none
def atI {α : Type} (xs : List α) (i : Int) : Option α := (ixN xs.length i).bind fun j => xs[j]?
theorem ixN_seq {n : Nat} {i : Int} {j : Nat} (h : ixN n i = some j) : seqIndex? i n = some j ∧ j < n ∧ -(n : Int) ≤ i ∧ i < n := by
  unfold ixN at h
  by_cases h0 : 0 ≤ i
  · rw [if_pos h0] at h
    by_cases h1 : i < n
    · rw [if_pos h1] at h
      have e : i.toNat = j := Option.some.inj h
      exact ⟨by rw [seqIndex_of h0 h1, e], by omega, by omega, h1⟩
    · rw [if_neg h1] at h; cases h
  · rw [if_neg h0] at h
    by_cases h1 : -(n : Int) ≤ i
    · rw [if_pos h1] at h
      have e : (i + n).toNat = j := Option.some.inj h
      exact ⟨by rw [seqIndex_neg (by omega) h1, e], by omega, h1, by omega⟩
    · rw [if_neg h1] at h; cases h
theorem atI_get {α : Type} {xs : List α} {i : Int} {v : α} (h : atI xs i = some v) : ∃ j, seqIndex? i xs.length = some j ∧ xs[j]? = some v ∧ j < xs.length ∧ -(xs.length : Int) ≤ i ∧ i < xs.length := by
  unfold atI at h
  cases e : ixN xs.length i with
  | none => rw [e] at h; cases h
  | some j =>
    rw [e] at h
    obtain ⟨h1, h2, h3, h4⟩ := ixN_seq e
    exact ⟨j, h1, h, h2, h3, h4⟩
theorem atI_nat {α : Type} {xs : List α} {j : Nat} {v : α} (h : xs[j]? = some v) : atI xs (j : Int) = some v := by
  have hj : j < xs.length := (List.getElem?_eq_some_iff.mp h).1
  have e : ixN xs.length (j : Int) = some j := by
    unfold ixN
    rw [if_pos (by omega), if_pos (by omega)]; simp
  unfold atI; rw [e]; exact h
theorem atI_last {α : Type} (xs : List α) (v : α) : atI (xs ++ [v]) (-1) = some v := by
  have hl : (xs ++ [v]).length = xs.length + 1 := by simp
  have e : ixN (xs ++ [v]).length (-1) = some xs.length := by
    unfold ixN
    rw [hl, if_neg (by decide), if_pos (by omega)]
    congr 1
    omega
  unfold atI
  rw [e]
  show (xs ++ [v])[xs.length]? = some v
  simp

/-! ### what may be subscripted -/
/-- what stands as an index of a plain subscript -/
def PlainIx (b : Expr) : Prop := ∀ o i, subscripted b false o i = operate [o, i] (getItem o i)
/-- a subscript by values -/
def IxR (X : Cx) (r : R2) : Prop :=
  ∀ (value slice : Expr) (pins : List (Addr × Obj)) (s : Shared) (σ : St) (H : Hp) (x y : V) (v u : Value) (Q : VK), Inv X pins σ H s → RelV x v → RelV y u → r x y H Q →
    subscripted slice false v u = operate [v, u] (getItem v u) → wpAny (model X.prog X.w) X.A (subscriptTail value slice v u) (EP X pins σ Q) X.xe s
/-- a call of a builtin's method by values: the receiver, the arguments -/
def MtR (X : Cx) (id : String) (r : V → List V → Hp → VK → Prop) : Prop :=
  ∀ (pins : List (Addr × Obj)) (s : Shared) (σ : St) (H : Hp) (x : V) (xs : List V) (v : Value) (us : List Value) (Q : VK), Inv X pins σ H s → RelV x v → Vals xs us → r x xs H Q →
    wpAny (model X.prog X.w) X.A (call (.builtin id) (v :: us)) (EP X pins σ Q) X.xe s
section
variable {X : Cx} {a b : Expr} {ta tb : TE} {pos : Pos}
theorem IxR.or {r r' : R2} (h : IxR X r) (h' : IxR X r') : IxR X (fun x y H Q => r x y H Q ∨ r' x y H Q) := by
  (first | constructor | skip)
  intro value slice pins s σ H x y v u Q I rx ry q hs
  rcases q with q | q
  · exact h value slice pins s σ H x y v u Q I rx ry q hs
  · exact h' value slice pins s σ H x y v u Q I rx ry q hs
theorem MtR.or {id : String} {r r' : V → List V → Hp → VK → Prop} (h : MtR X id r) (h' : MtR X id r') : MtR X id (fun x xs H Q => r x xs H Q ∨ r' x xs H Q) := by
  (first | constructor | skip)
  intro pins s σ H x xs v us Q I rx rs q
  rcases q with q | q
  · exact h pins s σ H x xs v us Q I rx rs q
  · exact h' pins s σ H x xs v us Q I rx rs q
/-- a[b] -/
theorem pe_ix {r : R2} (hr : IxR X r) (ha : PE X a ta) (hb : PE X b tb) (hs : PlainIx b) : PE X (.Subscript a b pos) (tOp r ta tb) := by
  (first | constructor | skip)
  intro pins s σ H Q I h
  exact Subscript_ (binT ha hb I h fun v u s2 x y H2 I2 rx ry q => hr a b pins s2 σ H2 x y v u Q I2 rx ry q (hs _ _))

def rIxL (K : PySem.W.Frag) : R2 := fun x y H Q => ∃ p xs i v, x = .ref p ∧ y = .int i ∧ SqL K H p xs ∧ atI xs i = some v ∧ Q v H
def rIxT (K : PySem.W.Frag) : R2 := fun x y H Q => ∃ p xs i v, x = .ref p ∧ y = .int i ∧ SqT K H p xs ∧ atI xs i = some v ∧ Q v H
def rIxS : R2 := fun x y H Q => ∃ z i c, x = .str z ∧ y = .int i ∧ z.length ≤ sizeLine ∧ atI z.cps.toList i = some c ∧ Q (.str ⟨#[c]⟩) H
theorem ix_list : IxR X (rIxL X.K) := by
  (first | constructor | skip)
  intro value slice pins s σ H x y v u Q I rx ry h hs
  obtain ⟨p, xs, i, z, rfl, rfl, hq, he, q⟩ := h
  cases rx
  obtain ⟨t, rfl⟩ := ry
  obtain ⟨its, r, pl, hz⟩ := I.list hq
  obtain ⟨j, h1, h2, h3, h4, h5⟩ := atI_get he
  obtain ⟨w, ew, rw'⟩ := r.get h2
  have hl := r.length
  have hn := line63
  have fin : EP X pins σ Q w s := ⟨z, H, I, rw', q⟩
  by_cases h0 : 0 ≤ i
  · have hj : i.toNat = j := by
      rw [seqIndex_of h0 h5] at h1
      exact Option.some.inj h1
    exact item_listR pl.isList h0 (by omega) (by rw [hj]; simpa using ew) fin hs
  · have hj : (i + (its.toArray.size : Int)).toNat = j := by
      rw [seqIndex_neg (by omega) h4] at h1
      rw [List.size_toArray, ← hl]
      exact Option.some.inj h1
    exact subscriptTail_builtinR (x := w) pl.isList.typeIs slot_list_getitem.lookup
      (wpAny_getItem_list_neg (Q := fun r s' => r = w ∧ EP X pins σ Q r s') pl.isList (by omega) (by rw [List.size_toArray] <;> omega) (by omega) (by rw [hj]; simpa using ew) ⟨rfl, fin⟩) hs
theorem ix_tup : IxR X (rIxT X.K) := by
  (first | constructor | skip)
  intro value slice pins s σ H x y v u Q I rx ry h hs
  obtain ⟨p, xs, i, z, rfl, rfl, hq, he, q⟩ := h
  cases rx
  obtain ⟨t, rfl⟩ := ry
  obtain ⟨its, r, pl, hz⟩ := I.tuple hq
  obtain ⟨j, h1, h2, h3, h4, h5⟩ := atI_get he
  obtain ⟨w, ew, rw'⟩ := r.get h2
  have hl := r.length
  have hn := line63
  have fin : EP X pins σ Q w s := ⟨z, H, I, rw', q⟩
  exact subscriptTail_builtinR (x := w) pl.typeIs slot_tuple_getitem.lookup
    (getItem_tuple (j := j) (Q := fun r s' => r = w ∧ EP X pins σ Q r s') pl (by omega) (by omega) (by rw [List.size_toArray, ← hl]; exact h1) (by simpa using ew) ⟨rfl, fin⟩) hs
theorem ix_str : IxR X rIxS := by
  (first | constructor | skip)
  intro value slice pins s σ H x y v u Q I rx ry h hs
  obtain ⟨z, i, c, rfl, rfl, hz, he, q⟩ := h
  obtain ⟨t, rfl⟩ := rx
  obtain ⟨t', rfl⟩ := ry
  obtain ⟨j, h1, h2, h3, h4, h5⟩ := atI_get he
  have hl : z.cps.toList.length = z.length := by simp [Str.length]
  rw [hl] at h1 h4 h5
  have hn := line63
  exact tail_any (typeIs_str s z t) slot_str_getitem.lookup (getItem_str (c := c) (by
    have e1 : decide (i < -(2 ^ 63 : Int)) = false := decide_eq_false (by omega)
    have e2 : decide (i ≥ 2 ^ 63) = false := decide_eq_false (by omega)
    rw [e1, e2, Bool.or_false]) (by rw [h1]; simpa using h2) ⟨.str ⟨#[c]⟩, H, I.tok _, ⟨_, rfl⟩, q⟩) hs
/-- list, tuple or str -/
def rIx (K : PySem.W.Frag) : R2 := fun x y H Q => rIxL K x y H Q ∨ rIxT K x y H Q ∨ rIxS x y H Q
theorem ix_seq : IxR X (rIx X.K) := ix_list.or (ix_tup.or ix_str)

/-! ### xs[i] = v, any sign -/
/-- the list's object behind a store -/
theorem mapSeq_set (its : List Value) (n j : Nat) (u : Value) : Obj.mapSeq (·.setIfInBounds j u) { cls := .type "list", data := .seq its.toArray n } = { cls := .type "list", data := .seq (its.set j u).toArray n } := by
  simp [Obj.mapSeq]
theorem Inv.lst {pins : List (Addr × Obj)} {σ : St} {H : Hp} {s : Shared} {p : Addr} {xs : List V} (I : Inv X pins σ H s) (h : H p = some (.lst xs)) :
    ∃ (its : List Value) (n : Nat), Vals xs its ∧ s.heap.get? p = some { cls := .type "list", data := .seq its.toArray n } ∧ xs.length ≤ sizeLine := by
  obtain ⟨z, its, n, r, e⟩ := I.hok p _ h
  exact ⟨its, n, r, e, z⟩
/-- the list at p is written by an update of its object -/
theorem Inv.lstUpd {pins : List (Addr × Obj)} {σ : St} {H : Hp} {s : Shared} {p : Addr} {xs ys : List V} {its its' : List Value} {n n' : Nat} {f : Obj → Obj} (I : Inv X pins σ H s) (h : H p = some (.lst xs))
    (ho : s.heap.get? p = some { cls := .type "list", data := .seq its.toArray n }) (hf : f { cls := .type "list", data := .seq its.toArray n } = { cls := .type "list", data := .seq its'.toArray n' }) (r : Vals ys its') (hz : ys.length ≤ sizeLine) (t : Nat) :
    Inv X pins σ (upd H p (.lst ys)) { s with heap := s.heap.update p f, toks := t } := by
  have e : (s.heap.update p f).get? p = some { cls := .type "list", data := .seq its'.toArray n' } := by
    rw [Heap.get?_update_self f ho (by rw [hf] <;> rfl), hf]
  refine I.write (x := p) (e := p) (by rw [h]; trivial) (.inl rfl) (fun b u hb q => (Heap.get?_update_other _ _ (Ne.symm hb)).trans q) ⟨_, e⟩ ?_
  exact ⟨hz, its', n', r, e⟩
def rSetL : V → V → V → Hp → (Hp → Prop) → Prop := fun o i v H Q => ∃ p xs k j, o = .ref p ∧ i = .int k ∧ H p = some (.lst xs) ∧ ixN xs.length k = some j ∧ Q (upd H p (.lst (xs.set j v)))
theorem set_list : PSet X rSetL := by
  (first | constructor | skip)
  intro pins s σ H o i v ov iv u Q I ro ri rv h
  obtain ⟨p, xs, k, j, rfl, rfl, hp, hj, q⟩ := h
  cases ro
  obtain ⟨t, rfl⟩ := ri
  obtain ⟨its, n, r, ho, hz⟩ := I.lst hp
  obtain ⟨h1, h2, h3, h4⟩ := ixN_seq hj
  have hl := r.length
  have hn := line63
  have I' : Inv X pins σ (upd H p (.lst (xs.set j v))) { s with heap := s.heap.update p (Obj.mapSeq (·.setIfInBounds j u)) } :=
    I.lstUpd hp ho (mapSeq_set its n j u) (r.set rv j) (by rw [List.length_set]; exact hz) s.toks
  by_cases h0 : 0 ≤ k
  · have hk : k.toNat = j := by
      rw [seqIndex_of h0 h4] at h1
      exact Option.some.inj h1
    exact PySem.W.ki_setAt ho h0 (by omega) (by rw [List.size_toArray, ← hl]; exact h4) (by rw [hk]; exact ⟨_, I', q⟩)
  · have hk : (k + (its.toArray.size : Int)).toNat = j := by
      rw [seqIndex_neg (by omega) h3] at h1
      rw [List.size_toArray, ← hl]
      exact Option.some.inj h1
    exact PySem.W.ki_setBack ho (by omega) (by rw [List.size_toArray, ← hl]; exact h3) (by omega) (by rw [hk]; exact ⟨_, I', q⟩)

/-! ### slices -/
theorem slice_bounds (lo hi : Option Int) (n : Nat) : (sliceBounds lo hi none n).1 = ((HT.sIx n 0 lo : Nat) : Int) ∧ (sliceBounds lo hi none n).2.1 = ((HT.sIx n n hi : Nat) : Int) ∧ (sliceBounds lo hi none n).2.2 = 1 := by
  refine ⟨?_, ?_, rfl⟩
  · cases lo with
    | none => simp [sliceBounds, HT.sIx]
    | some i =>
      simp only [sliceBounds, HT.sIx, Option.getD_none, show (1 : Int) > 0 by decide, if_true]
      by_cases h : i < 0
      · simp only [h, if_true] <;> omega
      · simp only [h, if_false] <;> omega
  · cases hi with
    | none => simp [sliceBounds, HT.sIx]
    | some i =>
      simp only [sliceBounds, HT.sIx, Option.getD_none, show (1 : Int) > 0 by decide, if_true]
      by_cases h : i < 0
      · simp only [h, if_true] <;> omega
      · simp only [h, if_false] <;> omega
theorem slicePick_cut (its : List Value) (lo hi : Option Int) : slicePick its.toArray lo hi none = ((its.drop (HT.sIx its.length 0 lo)).take (HT.sIx its.length its.length hi - HT.sIx its.length 0 lo)).toArray := by
  obtain ⟨h1, h2, h3⟩ := slice_bounds lo hi its.toArray.size
  unfold slicePick
  rw [h1, h2, h3]
  simp only [sliceRange_one, pick_run, List.size_toArray] <;> rfl
/-- xs[lo:hi] of a list: a new list -/
def rSlL (K : PySem.W.Frag) : V → Option Int → Option Int → Hp → VK → Prop := fun x lo hi H Q => ∃ a xs, x = .ref a ∧ SqL K H a xs ∧ ∀ p, H p = none → Q (.ref p) (upd H p (.lst (cutV xs lo hi)))
theorem sl_list : SlR X (rSlL X.K) := by
  (first | constructor | skip)
  intro pins s σ H x v vl vu lo hi sl Q I rx hs pl pu h
  obtain ⟨a, xs, rfl, hx, q⟩ := h
  cases rx
  obtain ⟨its, r, ht, hz⟩ := I.list hx
  have hlen := r.length
  refine ⟨"list", _, slot_list_getitem.lookup, ht.isList.typeIs, ?_⟩
  refine wpAny_getItem_list_slice ht.isList hs pl pu .none (by simp) ?_ (by rw [List.size_toArray] <;> omega)
  rw [slicePick_cut, ← hlen]
  refine ⟨.ref s.heap.objs.size, _, I.laid (t' := s.toks) (o := .lst (cutV xs lo hi)) (fun b ob q => Heap.get?_push_of_some _ q) (Nat.le_refl _) ?_, rfl, q _ (I.hok.fresh (Nat.le_refl _))⟩
  exact ⟨Nat.le_trans (cutV_length xs lo hi) hz, _, 0, (r.drop (HT.sIx xs.length 0 lo)).take (HT.sIx xs.length xs.length hi - HT.sIx xs.length 0 lo), Heap.get?_push_size _ rfl⟩

/-! ### in, not in: flat items -/
def flatV : V → Bool
  | .non => true
  | .bl _ => true
  | .int _ => true
  | .str _ => true
  | _ => false
/-- == of flat values -/
def eqV : V → V → Bool
  | .non, .non => true
  | .bl a, .bl b => a == b
  | .bl a, .int b => (if a then 1 else 0) == b
  | .int a, .bl b => a == (if b then 1 else 0)
  | .int a, .int b => a == b
  | .str a, .str b => a == b
  | _, _ => false
theorem eqAt_V {A : Around} {s : Shared} {y x : V} {u v : Value} (ry : RelV y u) (rx : RelV x v) (fy : flatV y = true) (fx : flatV x = true) : SeqAt.EqAt A s u v (eqV y x) := by
  cases y with
  | non =>
    cases ry
    cases x with
    | non => cases rx; exact SeqAt.EqAt.same _
    | bl b => cases rx; exact SeqAt.EqAt.none_bool b
    | int b => obtain ⟨t, rfl⟩ := rx; exact SeqAt.EqAt.none_int b t
    | str b => obtain ⟨t, rfl⟩ := rx; exact SeqAt.EqAt.none_str b t
    | _ => exact absurd (show false = true from fx) Bool.false_ne_true
  | bl a =>
    cases ry
    cases x with
    | non => cases rx; exact SeqAt.EqAt.bool_none a
    | bl b => cases rx; exact SeqAt.EqAt.bool_bool a b
    | int b => obtain ⟨t, rfl⟩ := rx; exact SeqAt.EqAt.bool_int a b t
    | str b => obtain ⟨t, rfl⟩ := rx; exact SeqAt.EqAt.bool_str a b t
    | _ => exact absurd (show false = true from fx) Bool.false_ne_true
  | int a =>
    obtain ⟨t', rfl⟩ := ry
    cases x with
    | non => cases rx; exact SeqAt.EqAt.int_none a t'
    | bl b => cases rx; exact SeqAt.EqAt.int_bool a t' b
    | int b => obtain ⟨t, rfl⟩ := rx; exact SeqAt.EqAt.int_int a t' b t
    | str b => obtain ⟨t, rfl⟩ := rx; exact SeqAt.EqAt.int_str a t' b t
    | _ => exact absurd (show false = true from fx) Bool.false_ne_true
  | str a =>
    obtain ⟨t', rfl⟩ := ry
    cases x with
    | non => cases rx; exact SeqAt.EqAt.str_none a t'
    | bl b => cases rx; exact SeqAt.EqAt.str_bool a t' b
    | int b => obtain ⟨t, rfl⟩ := rx; exact SeqAt.EqAt.str_int a t' b t
    | str b => obtain ⟨t, rfl⟩ := rx; exact SeqAt.EqAt.str_str a t' b t
    | _ => exact absurd (show false = true from fx) Bool.false_ne_true
  | _ => exact absurd (show false = true from fy) Bool.false_ne_true
/-- the items' answers, read off the values (a value's own answer does not lean on its token) -/
def eqU (x : V) (u : Value) : Bool := match u with
  | .none => eqV .non x
  | .bool b => eqV (.bl b) x
  | .int i _ => eqV (.int i) x
  | .str z _ => eqV (.str z) x
  | _ => false
theorem eqU_of {x y : V} {u : Value} (r : RelV y u) (f : flatV y = true) : eqU x u = eqV y x := by
  cases y with
  | non => cases r; rfl
  | bl b => cases r; rfl
  | int i => obtain ⟨t, rfl⟩ := r; rfl
  | str z => obtain ⟨t, rfl⟩ := r; rfl
  | _ => exact absurd (show false = true from f) Bool.false_ne_true
theorem any_eqU {x : V} : ∀ {xs : List V} {us : List Value}, Vals xs us → xs.all flatV = true → us.any (eqU x) = xs.any fun y => eqV y x
  | _, _, .nil, _ => rfl
  | y :: xs, u :: us, .cons r t, f => by
    rw [List.all_cons, Bool.and_eq_true] at f
    rw [List.any_cons, List.any_cons, eqU_of r f.1, any_eqU t f.2]
theorem mem_eqAt {A : Around} {s : Shared} {x : V} {v : Value} (rx : RelV x v) (fx : flatV x = true) : ∀ {xs : List V} {us : List Value}, Vals xs us → xs.all flatV = true → ∀ u ∈ us, SeqAt.EqAt A s u v (eqU x u)
  | _, _, .nil, _ => fun u hu => by cases hu
  | y :: xs, u :: us, .cons r t, f => fun u' hu => by
    rw [List.all_cons, Bool.and_eq_true] at f
    rcases List.mem_cons.mp hu with rfl | hu
    · rw [eqU_of r f.1]; exact eqAt_V r rx f.1 fx
    · exact mem_eqAt rx fx t f.2 u' hu
def inV (x : V) (xs : List V) : Bool := xs.any fun y => eqV y x
/-- x in a list or tuple of flat items -/
def rIn (K : PySem.W.Frag) (neg : Bool) : R2 := fun x y H Q => ∃ p xs, y = .ref p ∧ (SqL K H p xs ∨ SqT K H p xs) ∧ flatV x = true ∧ xs.all flatV = true ∧ Q (.bl (if neg then !inV x xs else inV x xs)) H
theorem op_in_seq : OpR X (compareOp .In) (rIn X.K false) := by
  (first | constructor | skip)
  intro pins s σ H x y v u Q I rx ry h
  obtain ⟨p, xs, rfl, hq, fx, fs, q⟩ := h
  cases ry
  rcases hq with hq | hq
  · obtain ⟨its, r, pl, hz⟩ := I.list hq
    refine SeqAt.in_listAt (eqU x) pl.isList (fun w hw => mem_eqAt rx fx r fs w (by simpa using hw)) ⟨.bl _, H, I, rfl, ?_⟩
    rw [show its.toArray.any (eqU x) = its.any (eqU x) by simp, any_eqU r fs]
    exact q
  · obtain ⟨its, r, pl, hz⟩ := I.tuple hq
    refine SeqAt.in_tupleAt (eqU x) pl (fun w hw => mem_eqAt rx fx r fs w (by simpa using hw)) ⟨.bl _, H, I, rfl, ?_⟩
    rw [show its.toArray.any (eqU x) = its.any (eqU x) by simp, any_eqU r fs]
    exact q
theorem op_notIn_seq : OpR X (compareOp .NotIn) (rIn X.K true) := by
  (first | constructor | skip)
  intro pins s σ H x y v u Q I rx ry h
  obtain ⟨p, xs, rfl, hq, fx, fs, q⟩ := h
  cases ry
  rcases hq with hq | hq
  · obtain ⟨its, r, pl, hz⟩ := I.list hq
    refine SeqAt.notIn_listAt (eqU x) pl.isList (fun w hw => mem_eqAt rx fx r fs w (by simpa using hw)) ⟨.bl _, H, I, rfl, ?_⟩
    rw [show its.toArray.any (eqU x) = its.any (eqU x) by simp, any_eqU r fs]
    exact q
  · obtain ⟨its, r, pl, hz⟩ := I.tuple hq
    refine SeqAt.notIn_tupleAt (eqU x) pl (fun w hw => mem_eqAt rx fx r fs w (by simpa using hw)) ⟨.bl _, H, I, rfl, ?_⟩
    rw [show its.toArray.any (eqU x) = its.any (eqU x) by simp, any_eqU r fs]
    exact q
theorem op_notIn_str : OpR X (compareOp .NotIn) (fun x y H Q => ∃ i j, x = .str i ∧ y = .str j ∧ Q (.bl (!(!(Builtin.Str.occurrences j i 0 j.length 1).isEmpty))) H) := by
  (first | constructor | skip)
  intro pins s σ H x y v u Q I rx ry h
  obtain ⟨i, j, rfl, rfl, q⟩ := h
  obtain ⟨t, rfl⟩ := rx
  obtain ⟨t', rfl⟩ := ry
  exact notIn_str ⟨.bl _, H, I, rfl, q⟩

/-! ### len, list(x), tuple(x) of any list or tuple that is read -/
theorem call_len_seq : CallR X (.builtin "len") (fun xs H Q => ∃ p ys, xs = [.ref p] ∧ (SqL X.K H p ys ∨ SqT X.K H p ys) ∧ Q (.int ys.length) H) := by
  (first | constructor | skip)
  intro pins s σ H xs us Q I r h
  obtain ⟨p, ys, rfl, hq, q⟩ := h
  obtain ⟨u, rfl, rx⟩ := vals1 r
  cases rx
  have hn := line63
  rcases hq with hq | hq
  · obtain ⟨its, r', pl, hz⟩ := I.list hq
    have hlen := r'.length
    exact Calls.call_len_list pl.isList (by simp only [List.size_toArray] <;> omega) ⟨.int ys.length, H, I.tok _, ⟨s.toks + 1, by rw [List.size_toArray, hlen]⟩, q⟩
  · obtain ⟨its, r', pl, hz⟩ := I.tuple hq
    have hlen := r'.length
    exact len_tuple pl (by simp only [List.size_toArray] <;> omega) ⟨.int ys.length, H, I.tok _, ⟨s.toks + 1, by rw [List.size_toArray, hlen]⟩, q⟩
theorem call_len_str : CallR X (.builtin "len") (fun xs H Q => ∃ z, xs = [.str z] ∧ z.length ≤ sizeLine ∧ Q (.int z.length) H) := by
  (first | constructor | skip)
  intro pins s σ H xs us Q I r h
  obtain ⟨z, rfl, hz, q⟩ := h
  obtain ⟨u, rfl, t, rfl⟩ := vals1 r
  have hn := line63
  exact len_str (by omega) ⟨.int z.length, H, I.tok _, ⟨_, rfl⟩, q⟩
theorem CallR.or {f : Value} {r r' : List V → Hp → VK → Prop} (h : CallR X f r) (h' : CallR X f r') : CallR X f (fun xs H Q => r xs H Q ∨ r' xs H Q) := by
  (first | constructor | skip)
  intro pins s σ H xs us Q I rs q
  rcases q with q | q
  · exact h pins s σ H xs us Q I rs q
  · exact h' pins s σ H xs us Q I rs q
theorem call_list_of : CallR X (.type "list") (fun xs H Q => ∃ p ys, xs = [.ref p] ∧ (SqL X.K H p ys ∨ SqT X.K H p ys) ∧ ∀ l, H l = none → Q (.ref l) (upd H l (.lst ys))) := by
  (first | constructor | skip)
  intro pins s σ H xs us Q I r h
  obtain ⟨p, ys, rfl, hq, q⟩ := h
  obtain ⟨u, rfl, rx⟩ := vals1 r
  cases rx
  have fin : ∀ (its : List Value), Vals ys its → ys.length ≤ sizeLine → ∀ (h' : Heap) (c' : Nat), (∀ b o', s.heap.get? b = some o' → h'.get? b = some o') →
      h'.get? s.heap.objs.size = some { cls := .type "list", dict := none, data := .seq its.toArray c', slots := #[] } → EP X pins σ Q (.ref s.heap.objs.size) { s with heap := h' } := fun its r' hz h' c' kp e =>
    ⟨.ref s.heap.objs.size, _, I.laid (t' := s.toks) kp (Nat.le_refl _) (show ObjOk X.prog X.w _ h' _ (.lst ys) from ⟨hz, its, c', r', e⟩), rfl, q _ (I.hok.fresh (Nat.le_refl _))⟩
  rcases hq with hq | hq
  · obtain ⟨its, r', pl, hz⟩ := I.list hq
    have hlen := r'.length
    obtain ⟨o, ho, hc, n, hd⟩ := pl.isList
    exact call_list_seq p (.inl rfl) ho hc hd (fun h' c' kp e => fin its r' hz h' c' kp e) (by simp only [List.size_toArray] <;> omega)
  · obtain ⟨its, r', pl, hz⟩ := I.tuple hq
    have hlen := r'.length
    obtain ⟨o, ho, hc, n, hd⟩ := pl
    exact call_list_seq p (.inr rfl) ho hc hd (fun h' c' kp e => fin its r' hz h' c' kp e) (by simp only [List.size_toArray] <;> omega)
theorem call_tuple_of : CallR X (.type "tuple") (fun xs H Q => ∃ p ys, xs = [.ref p] ∧ ((SqL X.K H p ys ∧ ∀ l, H l = none → Q (.ref l) (upd H l (.tup ys))) ∨ (SqT X.K H p ys ∧ Q (.ref p) H))) := by
  (first | constructor | skip)
  intro pins s σ H xs us Q I r h
  obtain ⟨p, ys, rfl, h⟩ := h
  obtain ⟨u, rfl, rx⟩ := vals1 r
  cases rx
  rcases h with ⟨hq, q⟩ | ⟨hq, q⟩
  · obtain ⟨its, r', pl, hz⟩ := I.list hq
    have hlen := r'.length
    refine call_tuple_list pl.isList (fun h' kp => ?_) (by simp only [List.size_toArray] <;> omega)
    have I1 : Inv X pins σ H { s with heap := h' } := I.kept (t' := s.toks) kp
    have I2 : Inv X pins σ (upd H h'.objs.size (.tup ys)) { s with heap := h'.push { cls := .type "tuple", data := .seq its.toArray } } :=
      I1.laid (t' := s.toks) (fun b o e => Heap.get?_push_of_some _ e) (Nat.le_refl _) (show ObjOk X.prog X.w _ _ _ (.tup ys) from ⟨hz, its, r', IsTup.new _ _⟩)
    exact ⟨.ref h'.objs.size, _, I2, rfl, q _ (I1.hok.fresh (Nat.le_refl _))⟩
  · obtain ⟨its, r', pl, hz⟩ := I.tuple hq
    exact call_tuple_same pl ⟨.ref p, H, I, rfl, q⟩

/-! ### the call of a builtin's method: o.m(..) -/
/-- the value is of that builtin type -/
def tyV (K : PySem.W.Frag) (T : String) (x : V) (H : Hp) : Prop := match x with
  | .str _ => T = "str"
  | .int _ => T = "int"
  | .ref p => (T = "list" ∧ ∃ xs, SqL K H p xs) ∨ (T = "tuple" ∧ ∃ o, K.lookup p = some o ∧ o.cls = .type "tuple" ∧ o.dict = none) ∨
      (T = "dict" ∧ ((∃ kvs, H p = some (.dK kvs)) ∨ ∃ kvs, H p = some (.dT kvs))) ∨ (T = "set" ∧ ∃ S n, H p = some (.set S n))
  | _ => False
theorem tyV_is {pins : List (Addr × Obj)} {σ : St} {H : Hp} {s : Shared} {T : String} {x : V} {v : Value} (I : Inv X pins σ H s) (r : RelV x v) (ty : tyV X.K T x H) :
    s.TypeIs v T ∧ ∀ a, v = .ref a → ∃ ob, s.heap.get? a = some ob ∧ ob.dict = none := by
  cases x with
  | str z =>
    obtain ⟨t, rfl⟩ := r
    cases (show T = "str" from ty)
    exact ⟨typeIs_str s z t, fun _ e => nomatch e⟩
  | int i =>
    obtain ⟨t, rfl⟩ := r
    cases (show T = "int" from ty)
    exact ⟨typeIs_int s i t, fun _ e => nomatch e⟩
  | ref p =>
    cases r
    rcases ty with ⟨rfl, xs, hq⟩ | ⟨rfl, o, hk, hc, hd⟩ | ⟨rfl, hk⟩ | ⟨rfl, S, n, hk⟩
    · obtain ⟨its, _, pl, _⟩ := I.list hq
      refine ⟨pl.isList.typeIs, fun a e => ?_⟩
      cases e
      obtain ⟨o, n, e, c, hd, _⟩ := pl
      exact ⟨o, e, hd⟩
    · refine ⟨⟨o, I.kIn p o hk, hc⟩, fun a e => ?_⟩
      cases e
      exact ⟨o, I.kIn _ o hk, hd⟩
    · have z : ∃ o, s.heap.get? p = some o ∧ o.ExactDict := by
        rcases hk with ⟨kvs, hk⟩ | ⟨kvs, hk⟩
        · obtain ⟨_, _, _, _, o, _, _, e, ex, _⟩ := I.hok p _ hk
          exact ⟨o, e, ex⟩
        · obtain ⟨_, _, _, _, o, _, _, e, ex, _⟩ := I.hok p _ hk
          exact ⟨o, e, ex⟩
      obtain ⟨o, e, ex⟩ := z
      refine ⟨⟨o, e, ex.1⟩, fun a e2 => ?_⟩
      cases e2
      exact ⟨o, e, ex.2.1⟩
    · obtain ⟨o, _, _, _, e, ex, _⟩ := I.hok p _ hk
      refine ⟨⟨o, e, ex.1⟩, fun a e2 => ?_⟩
      cases e2
      exact ⟨o, e, ex.2.1⟩
  | _ => exact False.elim ty
def tBM0 (K : PySem.W.Frag) (T : String) (r : V → List V → Hp → VK → Prop) (to : TE) : TE := fun σ H Q => to σ H fun x H1 => tyV K T x H1 ∧ r x [] H1 Q
def tBM (K : PySem.W.Frag) (T : String) (r : V → List V → Hp → VK → Prop) (to : TE) (t : TA) : TE := fun σ H Q => to σ H fun x H1 => tyV K T x H1 ∧ t σ H1 fun xs H2 => r x xs H2 Q
variable {o e : Expr} {es : List Expr} {to : TE} {t : TA} {name : Str} {apos cpos : Pos} {T id : String} {r : V → List V → Hp → VK → Prop}
theorem pe_bm0 (pa : PlainAttrs T) (slot : Slot T name id) (hty : typeOf (.builtin id) = pure (.type "method_descriptor")) (hm : MtR X id r) (ho : PE X o to)
    (hbase : attributeBase o name X.env (eval o X.env) = eval o X.env := by rfl) (hline : (apos.endLine == cpos.line) = true := by rfl) : PE X (.Call (.Attribute o name apos) [] [] cpos) (tBM0 X.K T r to) := by
  (first | constructor | skip)
  intro pins s σ H Q I h
  refine wpAny_Call_method0_late hbase hline (thn (ho pins s σ H _ I h) fun v s1 ⟨x, H1, I1, r1, ty, q1⟩ => ?_)
  obtain ⟨h1, h2⟩ := tyV_is I1 r1 ty
  exact ⟨T, id, pa, slot, hty, h1, h2, Calls.callWith_builtin rfl (PySem.evalArgs_none (hm pins s1 σ H1 x [] v [] Q I1 r1 .nil q1))⟩
theorem pe_bm (pa : PlainAttrs T) (slot : Slot T name id) (hty : typeOf (.builtin id) = pure (.type "method_descriptor")) (hm : MtR X id r) (ho : PE X o to) (ha : PA X (e :: es) t)
    (hbase : attributeBase o name X.env (eval o X.env) = eval o X.env := by rfl)
    (hfew : ((backTo cpos (starEach (e :: es) X.env)).all (fun x => !x.1) && (backToKw cpos (keywordEach [] X.env)).all (fun x => x.1.isSome)
      && decide ((e :: es).length + ([] : List Keyword).length + (if ([] : List Keyword).isEmpty then 0 else 1) < 30)) = true := by rfl)
    (hline : (apos.endLine == cpos.line) = true := by rfl) (hs : starEach (e :: es) X.env = (false, eval e X.env) :: starEach es X.env := by rfl) (hplain : (backTo cpos (starEach es X.env)).any (·.1) = false := by rfl) :
    PE X (.Call (.Attribute o name apos) (e :: es) [] cpos) (tBM X.K T r to t) := by
  (first | constructor | skip)
  intro pins s σ H Q I h
  refine wpAny_Call_method_late hbase hfew hline rfl (thn (ho pins s σ H _ I h) fun v s1 ⟨x, H1, I1, r1, ty, q1⟩ => ?_)
  obtain ⟨h1, h2⟩ := tyV_is I1 r1 ty
  refine ⟨T, id, pa, slot, hty, h1, h2, ?_⟩
  have hA := ha cpos pins s1 σ H1 _ I1 q1
  rw [hs] at hA ⊢
  refine Calls.callWith_builtin (by show (false || (backTo cpos (starEach es X.env)).any (·.1)) = false; rw [hplain] <;> rfl) (Calls.evalArgs_plain ?_)
  exact thn hA fun us s2 ⟨vs, H2, I2, r2, q2⟩ => hm pins s2 σ H2 x vs v us Q I2 r1 r2 q2
/- xs.append(e), list.index on a module's tuple .. are MtR facts of 06m -/
end
end L2

namespace L2
open PySem PySem.Spec PyProof.Rows

def MtM (X : Cx) (id : String) (r : V → List V → Hp → VK → Prop) : Prop :=
  ∀ (pins : List (Addr × Obj)) (s : Shared) (σ : St) (H : Hp) (x : V) (xs : List V) (v : Value) (us : List Value) (Q : VK), Inv X pins σ H s → RelV x v → Vals xs us → r x xs H Q →
    wpAny (model X.prog X.w) X.A (call (.builtin id) (v :: us)) (EP X pins σ Q) X.xe s

/-! ### lists of values -/
theorem Vals.one : ∀ {x : V} {us : List Value}, Vals [x] us → ∃ u, us = [u] ∧ RelV x u
  | _, _, .cons r .nil => ⟨_, rfl, r⟩
theorem Vals.two : ∀ {x y : V} {us : List Value}, Vals [x, y] us → ∃ u v, us = [u, v] ∧ RelV x u ∧ RelV y v
  | _, _, _, .cons r (.cons q .nil) => ⟨_, _, rfl, r, q⟩
theorem Vals.zero : ∀ {us : List Value}, Vals [] us → us = []
  | _, .nil => rfl
theorem Vals.dropLast {xs : List V} {us : List Value} (h : Vals xs us) : Vals xs.dropLast us.dropLast := by
  induction h with
  | nil => exact .nil
  | cons r t ih =>
    cases t with
    | nil => exact .nil
    | cons q t' => exact .cons r ih
theorem Vals.eraseIdx : ∀ {xs : List V} {us : List Value} (i : Nat), Vals xs us → Vals (xs.eraseIdx i) (us.eraseIdx i)
  | _, _, _, .nil => .nil
  | _, _, 0, .cons _ t => t
  | _, _, i + 1, .cons r t => .cons r (Vals.eraseIdx i t)
theorem Vals.reverse {xs : List V} {us : List Value} (h : Vals xs us) : Vals xs.reverse us.reverse := by
  induction h with
  | nil => exact .nil
  | cons r t ih => rw [List.reverse_cons, List.reverse_cons]; exact Vals.append ih (.cons r .nil)
theorem Vals.rep {xs : List V} {us : List Value} (h : Vals xs us) : ∀ k : Nat, Vals (List.replicate k xs).flatten (List.replicate k us).flatten
  | 0 => .nil
  | k + 1 => by
    rw [List.replicate_succ, List.replicate_succ, List.flatten_cons, List.flatten_cons]
    exact Vals.append h (Vals.rep h k)
theorem erase_last {α : Type} (l : List α) : l.eraseIdx (l.length - 1) = l.dropLast := by
  induction l with
  | nil => rfl
  | cons a r ih =>
    cases r with
    | nil => rfl
    | cons b r =>
      have e : (a :: b :: r).length - 1 = ((b :: r).length - 1) + 1 := by
        have h1 : (a :: b :: r).length = r.length + 2 := rfl
        have h2 : (b :: r).length = r.length + 1 := rfl
        omega
      rw [e, List.eraseIdx_cons_succ, ih]
      all_goals rfl
theorem len_erase {α : Type} : ∀ (l : List α) (i : Nat), (l.eraseIdx i).length ≤ l.length
  | [], _ => Nat.le_refl _
  | _ :: _, 0 => Nat.le_succ _
  | _ :: r, i + 1 => Nat.succ_le_succ (len_erase r i)
theorem foldl_rep (its : List Value) : ∀ (k : Nat) (acc : List Value),
    List.foldl (fun x1 x2 => x1 ++ x2) acc.toArray (List.replicate k its.toArray) = (acc ++ (List.replicate k its).flatten).toArray
  | 0, acc => by simp
  | k + 1, acc => by
    have e : acc.toArray ++ its.toArray = (acc ++ its).toArray := by simp
    have e2 : (acc ++ its) ++ (List.replicate k its).flatten = acc ++ (List.replicate (k + 1) its).flatten := by
      rw [List.replicate_succ, List.flatten_cons, List.append_assoc]
    rw [← e2, ← foldl_rep its k (acc ++ its), ← e, List.replicate_succ, List.foldl_cons]

section
variable {X : Cx} {pins : List (Addr × Obj)} {σ : St} {H : Hp} {s : Shared} {l b : Addr} {xs ys zs : List V}

/-! ### the two steps: a tracked list is rewritten, a new list is laid -/
theorem Inv.lset {its its' : List Value} {n : Nat} {f : Array Value → Array Value} {t' : Nat} (I : Inv X pins σ H s) (hH : H l = some (.lst xs))
    (e : s.heap.get? l = some { cls := .type "list", data := .seq its.toArray n }) (hf : f its.toArray = its'.toArray) (hv : Vals ys its') (hz : ys.length ≤ sizeLine) :
    Inv X pins σ (upd H l (.lst ys)) { s with heap := s.heap.update l (Obj.mapSeq f), toks := t' } := by
  have q := PySem.IsL.update e f
  rw [hf] at q
  refine I.write (x := l) (e := l) (by rw [hH]; exact trivial) (.inl rfl) (fun b' u hb hu => (Heap.get?_update_other s.heap (Obj.mapSeq f) (Ne.symm hb)).trans hu) ⟨_, q⟩ ?_
  exact ⟨hz, its', _, hv, q⟩
theorem Inv.lnew {its : List Value} {t' : Nat} (I : Inv X pins σ H s) (hv : Vals ys its) (hz : ys.length ≤ sizeLine) :
    Inv X pins σ (upd H s.heap.objs.size (.lst ys)) { s with heap := s.heap.push { cls := .type "list", data := .seq its.toArray }, toks := t' } :=
  I.laid (fun _ _ q => Heap.get?_push_of_some _ q) (Nat.le_refl _) ⟨hz, its, 0, hv, Heap.get?_push_size _ rfl⟩
theorem Inv.fresh (I : Inv X pins σ H s) : H s.heap.objs.size = none := I.hok.fresh (Nat.le_refl _)
theorem Inv.lstM (I : Inv X pins σ H s) (hH : H l = some (.lst xs)) : xs.length ≤ sizeLine ∧ ∃ (its : List Value) (n : Nat), Vals xs its ∧ xs.length = its.length ∧ s.heap.get? l = some { cls := .type "list", data := .seq its.toArray n } := by
  obtain ⟨z, its, n, r, e⟩ := I.hok l _ hH
  exact ⟨z, its, n, r, r.length, e⟩

theorem notLongL {n : Nat} (h : n ≤ sizeLine) : Builtin.List.listTooLong n = false := by
  unfold Builtin.List.listTooLong
  exact decide_eq_false (by omega)
end

section
variable {X : Cx}

/-! ### methods -/
def rAppend : V → List V → Hp → VK → Prop := fun x vs H Q => ∃ l xs y, x = .ref l ∧ vs = [y] ∧ H l = some (.lst xs) ∧ xs.length < sizeLine ∧ Q .non (upd H l (.lst (xs ++ [y])))
theorem mt_append : MtM X "list.append" rAppend := by
  (first | constructor | skip)
  intro pins s σ H x vs v us Q I rx rv h
  obtain ⟨l, xs, y, rfl, rfl, hH, hz, q⟩ := h
  cases rx
  obtain ⟨u, rfl, ru⟩ := rv.one
  obtain ⟨z, its, n, r, hl, e⟩ := I.lstM hH
  refine call_meets F.slot_list_append ⟨_, e, rfl⟩ F.entry_list_append (F.args_list_append_2 _ _) (PySem.list_append l its.toArray n u (by rw [List.size_toArray]; omega)) ⟨e, ?_⟩
  refine ⟨.non, _, I.lset (its' := its ++ [u]) hH e (by simp) (r.append (.cons ru .nil)) ?_, rfl, q⟩
  rw [List.length_append, List.length_singleton]
  omega

def rExtend : V → List V → Hp → VK → Prop := fun x vs H Q => ∃ l b xs zs, x = .ref l ∧ vs = [.ref b] ∧ H l = some (.lst xs) ∧ H b = some (.lst zs) ∧ xs.length + zs.length ≤ sizeLine ∧ Q .non (upd H l (.lst (xs ++ zs)))
theorem mt_extend : MtM X "list.extend" rExtend := by
  (first | constructor | skip)
  intro pins s σ H x vs v us Q I rx rv h
  obtain ⟨l, b, xs, zs, rfl, rfl, hH, hB, hz, q⟩ := h
  cases rx
  obtain ⟨u, rfl, ru⟩ := rv.one
  cases ru
  obtain ⟨z, its, n, r, hl, e⟩ := I.lstM hH
  obtain ⟨z2, its2, n2, r2, hl2, e2⟩ := I.lstM hB
  have hsz : its.toArray.size + its2.toArray.size ≤ sizeLine := by rw [List.size_toArray, List.size_toArray]; omega
  have hlong : ¬ (!its.toArray.isEmpty && Builtin.List.listTooLong (its.toArray.size + its2.toArray.size)) = true := by
    rw [notLongL hsz, Bool.and_false]
    exact Bool.false_ne_true
  refine call_meets F.slot_list_extend ⟨_, e, rfl⟩ F.entry_list_extend (F.args_list_extend_2 _ _)
    (AutoSeq1.list_extend_list_list_0 l its.toArray n b its2.toArray n2 hlong (by rw [List.size_toArray]; omega) (by omega)) ⟨e, e2, ?_⟩
  refine ⟨.non, _, I.lset (its' := its ++ its2) hH e (by simp) (r.append r2) ?_, rfl, q⟩
  rw [List.length_append]
  omega

def rPop : V → List V → Hp → VK → Prop := fun x vs H Q => ∃ l xs y, x = .ref l ∧ vs = [] ∧ H l = some (.lst xs) ∧ xs[xs.length - 1]? = some y ∧ Q y (upd H l (.lst xs.dropLast))
theorem mt_pop : MtM X "list.pop" rPop := by
  (first | constructor | skip)
  intro pins s σ H x vs v us Q I rx rv h
  obtain ⟨l, xs, y, rfl, rfl, hH, hy, q⟩ := h
  cases rx
  have hus := rv.zero
  subst hus
  obtain ⟨z, its, n, r, hl, e⟩ := I.lstM hH
  obtain ⟨u, hu, ru⟩ := r.get hy
  have hy' : its.toArray[its.toArray.size - 1]? = some u := by
    show its.toArray[its.length - 1]? = some u
    rw [← Array.getElem?_toList, ← hl]
    exact hu
  refine call_meets F.slot_list_pop ⟨_, e, rfl⟩ F.entry_list_pop (F.args_list_pop_1 _) (MeetsSeq.list_pop_last l its.toArray n u hy' (by rw [List.size_toArray]; omega)) ⟨e, ?_⟩
  refine ⟨y, _, I.lset (its' := its.dropLast) hH e ?_ r.dropLast ?_, ru, q⟩
  · show its.toArray.eraseIdxIfInBounds (its.toArray.size - 1) = its.dropLast.toArray
    rw [List.size_toArray, List.eraseIdxIfInBounds_toArray, erase_last]
  · rw [List.length_dropLast]
    omega

def rPopAt : V → List V → Hp → VK → Prop := fun x vs H Q => ∃ l xs i k y, x = .ref l ∧ vs = [.int i] ∧ H l = some (.lst xs) ∧ -(2 ^ 63) ≤ i ∧ i < 2 ^ 63 ∧ seqIndex? i xs.length = some k ∧ xs[k]? = some y ∧ Q y (upd H l (.lst (xs.eraseIdx k)))
theorem mt_popAt : MtM X "list.pop" rPopAt := by
  (first | constructor | skip)
  intro pins s σ H x vs v us Q I rx rv h
  obtain ⟨l, xs, i, k, y, rfl, rfl, hH, h1, h2, hk, hy, q⟩ := h
  cases rx
  obtain ⟨u, rfl, ru⟩ := rv.one
  obtain ⟨t, rfl⟩ := ru
  obtain ⟨z, its, n, r, hl, e⟩ := I.lstM hH
  obtain ⟨w, hw, rw'⟩ := r.get hy
  refine call_meets F.slot_list_pop ⟨_, e, rfl⟩ F.entry_list_pop (F.args_list_pop_2 _ _)
    (MeetsSeq.list_pop_at l its.toArray n i t k w (fitsIndex_both h1 h2) (by rw [List.size_toArray, ← hl]; exact hk) (by rw [← Array.getElem?_toList]; exact hw) (by rw [List.size_toArray]; omega)) ⟨e, ?_⟩
  refine ⟨y, _, I.lset (its' := its.eraseIdx k) hH e ?_ (r.eraseIdx k) ?_, rw', q⟩
  · show its.toArray.eraseIdxIfInBounds k = (its.eraseIdx k).toArray
    rw [List.eraseIdxIfInBounds_toArray]
  · have := len_erase xs k
    omega

def rReverse : V → List V → Hp → VK → Prop := fun x vs H Q => ∃ l xs, x = .ref l ∧ vs = [] ∧ H l = some (.lst xs) ∧ Q .non (upd H l (.lst xs.reverse))
theorem mt_reverse : MtM X "list.reverse" rReverse := by
  (first | constructor | skip)
  intro pins s σ H x vs v us Q I rx rv h
  obtain ⟨l, xs, rfl, rfl, hH, q⟩ := h
  cases rx
  have hus := rv.zero
  subst hus
  obtain ⟨z, its, n, r, hl, e⟩ := I.lstM hH
  refine call_meets F.slot_list_reverse ⟨_, e, rfl⟩ F.entry_list_reverse (F.args_list_reverse_1 _) (AutoSeq1.list_reverse_list_0 l its.toArray n (by rw [List.size_toArray]; omega)) ⟨e, ?_⟩
  refine ⟨.non, _, I.lset (its' := its.reverse) hH e (by simp) r.reverse ?_, rfl, q⟩
  rw [List.length_reverse]
  omega

def rClear : V → List V → Hp → VK → Prop := fun x vs H Q => ∃ l xs, x = .ref l ∧ vs = [] ∧ H l = some (.lst xs) ∧ Q .non (upd H l (.lst []))
theorem mt_clear : MtM X "list.clear" rClear := by
  (first | constructor | skip)
  intro pins s σ H x vs v us Q I rx rv h
  obtain ⟨l, xs, rfl, rfl, hH, q⟩ := h
  cases rx
  have hus := rv.zero
  subst hus
  obtain ⟨z, its, n, r, hl, e⟩ := I.lstM hH
  refine call_meets F.slot_list_clear ⟨_, e, rfl⟩ F.entry_list_clear (F.args_list_clear_1 _) (AutoSeq1.list_clear_list_0 l its.toArray n (by rw [List.size_toArray]; omega)) ⟨e, ?_⟩
  exact ⟨.non, _, I.lset (its' := []) (ys := []) hH e rfl .nil (Nat.zero_le _), rfl, q⟩

/-! ### list + list, list += list, list * int -/
def rCat : R2 := fun x y H Q => ∃ l b xs zs, x = .ref l ∧ y = .ref b ∧ H l = some (.lst xs) ∧ H b = some (.lst zs) ∧ xs.length + zs.length ≤ sizeLine ∧ ∀ p, H p = none → Q (.ref p) (upd H p (.lst (xs ++ zs)))
theorem op_cat : OpR X (binaryOp .Add) rCat := by
  (first | constructor | skip)
  intro pins s σ H x y v u Q I rx ry h
  obtain ⟨l, b, xs, zs, rfl, rfl, hH, hB, hz, q⟩ := h
  cases rx
  cases ry
  obtain ⟨z, its, n, r, hl, e⟩ := I.lstM hH
  obtain ⟨z2, its2, n2, r2, hl2, e2⟩ := I.lstM hB
  refine PySem.P.add_list e e2 ?_ (by rw [List.size_toArray, List.size_toArray]; omega)
  have ea : its.toArray ++ its2.toArray = (its ++ its2).toArray := by simp
  rw [ea]
  exact ⟨.ref _, _, I.lnew (t' := s.toks) (r.append r2) (by rw [List.length_append]; omega), rfl, q _ I.fresh⟩
/-- a list times an int (a negative one is nothing) -/
def rRep : R2 := fun x y H Q => ∃ l k xs, x = .ref l ∧ y = .int k ∧ H l = some (.lst xs) ∧ -(2 ^ 63) ≤ k ∧ k < 2 ^ 63 ∧ xs.length * k.toNat ≤ sizeLine ∧
  ∀ p, H p = none → Q (.ref p) (upd H p (.lst (List.replicate k.toNat xs).flatten))
theorem len_rep {α : Type} (xs : List α) (k : Nat) : (List.replicate k xs).flatten.length = k * xs.length := by
  induction k with
  | zero => simp
  | succ k ih => rw [List.replicate_succ, List.flatten_cons, List.length_append, ih, Nat.succ_mul, Nat.add_comm]
theorem op_rep : OpR X (binaryOp .Mult) rRep := by
  (first | constructor | skip)
  intro pins s σ H x y v u Q I rx ry h
  obtain ⟨l, k, xs, rfl, rfl, hH, h1, h2, hz, q⟩ := h
  cases rx
  obtain ⟨t, rfl⟩ := ry
  obtain ⟨z, its, n, r, hl, e⟩ := I.lstM hH
  have hlen : its.toArray.size * k.toNat ≤ sizeLine := by rw [List.size_toArray, ← hl]; exact hz
  have hcap : ¬ its.toArray.size * k.toNat > (2 ^ 63 - 1) / 8 := by
    have : (sizeLine : Nat) ≤ (2 ^ 63 - 1) / 8 := by decide
    omega
  have hfit : ¬ (!Builtin.List.listFitsIndex k) = true := by
    rw [fitsIndex_both h1 h2]
    exact Bool.false_ne_true
  have hlong : ¬ Builtin.List.listTooLong (its.toArray.size * k.toNat) = true := by
    rw [notLongL hlen]
    exact Bool.false_ne_true
  have hnew : List.foldl (fun x1 x2 => x1 ++ x2) #[] (List.replicate (if its.toArray.isEmpty = true then 0 else k.toNat) its.toArray) = (List.replicate k.toNat its).flatten.toArray := by
    have f0 : ∀ m : Nat, List.foldl (fun x1 x2 => x1 ++ x2) #[] (List.replicate m its.toArray) = (List.replicate m its).flatten.toArray := fun m => by
      have := foldl_rep its m []
      rw [List.nil_append] at this
      exact this
    rw [f0]
    cases its with
    | nil => simp
    | cons a r' => rw [if_neg (by simp)]
  refine wpAny_binaryOp_repeat_ref (T := "list") (U := "int") (by decide) ⟨_, e, rfl⟩ (fun s' => typeIs_int s' k t) noFill_list_mul F.fills_int_mul F.slot_int_rmul repeat_list F.slot_int_index.lookup
    (call_meets F.slot_int_rmul (typeIs_int s k t) F.entry_int_rmul (F.args_int_rmul_2 _ _) (int___rmul___int_list k t l its.toArray n)
      ⟨e, rfl, ⟨_, e, rfl⟩, call_meets F.slot_list_mul ⟨_, e, rfl⟩ F.entry_list_mul (F.args_list_mul_2 _ _) (AutoListH.list___mul___list_int_3 l its.toArray n k t hfit hcap hlong) ⟨e, ?_⟩⟩)
  rw [hnew]
  exact ⟨.ref _, _, I.lnew (t' := s.toks) (r.rep k.toNat) (by rw [len_rep, Nat.mul_comm]; exact hz), rfl, q _ I.fresh⟩

/-! ### del xs[i] -/
theorem del_list {pins : List (Addr × Obj)} {s : Shared} {σ : St} {H : Hp} {l : Addr} {xs : List V} {i : Int} {t : Tok} {k : Nat} {Q : Unit → Shared → Prop} (I : Inv X pins σ H s) (hH : H l = some (.lst xs))
    (h1 : -(2 ^ 63) ≤ i) (h2 : i < 2 ^ 63) (hk : seqIndex? i xs.length = some k) (h : ∀ s', Inv X pins σ (upd H l (.lst (xs.eraseIdx k))) s' → Q () s') :
    wpAny (model X.prog X.w) X.A (delItem (.ref l) (.int i t)) Q X.xe s := by
  obtain ⟨z, its, n, r, hl, e⟩ := I.lstM hH
  refine PySem.P.delItem_list (k := k) e (fitsIndex_both h1 h2) (by rw [List.size_toArray, ← hl]; exact hk) (h _ ?_) (by rw [List.size_toArray]; omega)
  refine I.lset (its' := its.eraseIdx k) (t' := s.toks) hH e ?_ (r.eraseIdx k) ?_
  · show its.toArray.eraseIdxIfInBounds k = (its.eraseIdx k).toArray
    rw [List.eraseIdxIfInBounds_toArray]
  · have := len_erase xs k
    omega
end

/-! ### xs[a:b] = ys -/
section
variable {prog : Program} {w : World} {A : Around} {E : Value → Shared → Prop} {s : Shared}
theorem splice_eq (its its2 : List Value) (a c : Nat) : its.toArray.extract 0 a ++ its2.toArray ++ its.toArray.extract c its.toArray.size = (its.take a ++ its2 ++ its.drop c).toArray := by
  apply Array.toList_inj.mp
  first
    | (simp
       exact List.take_of_length_le (by simp))
    | simp [List.take_of_length_le]
    | simp
theorem bounds_run {a c n : Nat} (hac : a ≤ c) (hc : c ≤ n) : sliceBounds (some (a : Int)) (some (c : Int)) none n = ((a : Int), (c : Int), 1) := by
  simp only [sliceBounds, Option.getD_none]
  have h1 : ¬ ((a : Int) < 0) := by omega
  have h2 : ¬ ((c : Int) < 0) := by omega
  simp only [h1, h2, if_false, show (1 : Int) > 0 by decide, if_true]
  congr 1
  · omega
  · congr 1; omega
set_option maxRecDepth 100000 in
/-- list.__setitem__ with a slice of step one and another list -/
theorem setItem_slice {l b sl : Addr} {items new : Array Value} {n n2 : Nat} {vl vu : Value} {a c : Nat} {Q : Unit → Shared → Prop}
    (e : s.heap.get? l = some { cls := .type "list", data := .seq items n }) (e2 : s.heap.get? b = some { cls := .type "list", data := .seq new n2 }) (hne : l ≠ b)
    (hs : s.heap.IsSliceOf sl vl vu .none) (pl : IsPart vl (some (a : Int))) (pu : IsPart vu (some (c : Int))) (hac : a ≤ c) (hc : c ≤ items.size)
    (hsz : items.size + new.size ≤ sizeLine) (h : Q () { s with heap := s.heap.update l (Obj.mapSeq fun xs => xs.extract 0 a ++ new ++ xs.extract c xs.size) }) :
    wpAny (model prog w) A (setItem (.ref l) (.ref sl) (.ref b)) Q E s := by
  have hl : s.heap.IsList l items := PySem.IsL.isList e
  have hb : s.heap.IsList b new := PySem.IsL.isList e2
  obtain ⟨os, hos, hcs, hds⟩ := id hs
  have hTs : s.TypeIs (.ref sl) "slice" := ⟨os, hos, hcs⟩
  have hstep : ¬ ((rawPart none == rawInt 0) = true) := Bool.false_ne_true
  have hsame : Builtin.List.listSameRef (.ref l) (.ref b) = false := by
    unfold Builtin.List.listSameRef
    exact beq_eq_false_iff_ne.mpr hne
  have hmax : (max (a : Int) (c : Int)).toNat = c := by omega
  have hz' : ((fun xs : Array Value => xs.extract 0 a ++ new ++ xs.extract c xs.size) items).size ≤ sizeLine + 1 := by
    simp only [Array.size_append, Array.size_extract]
    omega
  unfold setItem
  try with_reducible refine wpAny_holding ?_
  first | refine wpAny_bind (wpAny_pure ?_) | skip
  refine wpAny_bind (wpAny_sequenceKey hl.typeIs (by decide) ?_)
  refine wpAny_bind (wpAny_callSpecial?_slot (name := Str.ofString "__setitem__") hl.typeIs slot_list_setitem
    (wpAny_call_entry slot_list_setitem hl.typeIs entry_list_setitem ?_ (args_list_setitem _ _ _)))
  show wpAny _ _ (Builtin.List.listSubscript? (.ref sl) >>= _) _ _ s
  refine wpAny_bind ?_
  unfold Builtin.List.listSubscript?
  refine wpAny_bind (wpAny_specialOf hTs slice_no_index ?_)
  simp only [Option.isNone_none, if_true]
  refine wpAny_pure ?_
  show wpAny _ _ (typeOf (.ref sl) >>= _) _ _ s
  refine wpAny_bind (wpAny_typeOf hTs ?_)
  first
    | rw [if_neg (by decide)]
    | refine PySem.W.KFB.if_not (by decide) ?_
  rw [listSliceParts_eq]
  refine wpAny_bind (wpAny_bind (wpAny_field hos hds (x := .none) rfl (wpAny_bind (wpAny_listPart .none ?_))))
  rw [if_neg hstep]
  refine wpAny_bind (wpAny_field hos hds (x := vl) rfl (wpAny_bind (wpAny_listPart pl ?_)))
  refine wpAny_bind (wpAny_field hos hds (x := vu) rfl (wpAny_bind (wpAny_listPart pu (wpAny_pure ?_))))
  first
    | simp only [hsame, Bool.false_eq_true, if_false]
    | refine PySem.W.KFB.if_not hsame ?_
    | (dsimp only
       rw [if_neg (by rw [hsame]; exact Bool.false_ne_true)])
  refine wpAny_bind (m := Builtin.List.listAllItems (.ref b) "must assign iterable to extended slice") ?_
  unfold Builtin.List.listAllItems
  refine wpAny_bind (wpAny_typeOf hb.typeIs ?_)
  first
    | refine PySem.W.KFB.if_so (by decide) ?_
    | rw [if_pos (by decide)]
    | simp only [beq_self_eq_true, Bool.true_or, if_true]
  unfold Builtin.List.listItems
  refine wpAny_bind (wpAny_seqItems e2 rfl (wpAny_pure ?_))
  refine wpAny_bind (wpAny_bind (wpAny_seqItems e rfl (wpAny_pure ?_)))
  refine wpAny_bind (wpAny_of_eq ((sliceIndices_raw (some (a : Int)) (some (c : Int)) none items.size (by simp)).trans (congrArg (pure : Int × Int × Int → Sem (Int × Int × Int)) (bounds_run hac hc))) ?_)
  show wpAny _ _ (if ((1 : Int) == 1) = true then _ else _) _ _ s
  rw [if_pos (by decide)]
  refine wpAny_bind (wpAny_rule ?_)
  first
    | simp only [notLongL hsz, Bool.false_eq_true, if_false]
    | refine PySem.W.KFB.if_not (notLongL hsz) ?_
  first | refine wpAny_bind (wpAny_pure ?_) | skip
  show wpAny _ _ (updateSeq l (fun xs => xs.extract 0 ((a : Int)).toNat ++ new ++ xs.extract (max (a : Int) (c : Int)).toNat xs.size) >>= _) _ _ s
  rw [hmax, Int.toNat_natCast]
  refine wpAny_bind (wpAny_updateSeq (hz := Nat.le_trans (Nat.le_add_right _ _) hsz) (_hz' := hz') e rfl ?_)
  refine wpAny_bind (wpAny_letGo ?_)
  first
    | exact wpAny_bind (wpAny_pure (wpAny_pure ⟨.none, rfl, wpAny_pure h⟩))
    | exact wpAny_pure ⟨.none, rfl, wpAny_pure h⟩
end

section
variable {X : Cx}
/-- xs[a:c] = ys of another list, at the value level: sl is the slice object that was just made -/
theorem set_slice {pins : List (Addr × Obj)} {s : Shared} {σ : St} {H : Hp} {l b sl : Addr} {xs ys : List V} {a c : Int} {vl vu : Value} {Q : Unit → Shared → Prop} (I : Inv X pins σ H s)
    (hH : H l = some (.lst xs)) (hB : H b = some (.lst ys)) (hne : l ≠ b) (hs : s.heap.IsSliceOf sl vl vu .none) (ra : RelV (.int a) vl) (rc : RelV (.int c) vu) (h0 : 0 ≤ a) (hac : a ≤ c) (hc : c ≤ xs.length)
    (hz : xs.length + ys.length ≤ sizeLine) (h : ∀ s', Inv X pins σ (upd H l (.lst (xs.take a.toNat ++ ys ++ xs.drop c.toNat))) s' → Q () s') :
    wpAny (model X.prog X.w) X.A (setItem (.ref l) (.ref sl) (.ref b)) Q X.xe s := by
  obtain ⟨ta, rfl⟩ := ra
  obtain ⟨tc, rfl⟩ := rc
  obtain ⟨z, its, n, r, hl, e⟩ := I.lstM hH
  obtain ⟨z2, its2, n2, r2, hl2, e2⟩ := I.lstM hB
  obtain ⟨a', rfl⟩ := Int.eq_ofNat_of_zero_le h0
  obtain ⟨c', rfl⟩ := Int.eq_ofNat_of_zero_le (Int.le_trans h0 hac)
  simp only [Int.toNat_natCast] at h
  refine setItem_slice (a := a') (c := c') e e2 hne hs (.int _ _) (.int _ _) (by omega) (by rw [List.size_toArray]; omega) (by rw [List.size_toArray, List.size_toArray]; omega) (h _ ?_)
  refine I.lset (its' := its.take a' ++ its2 ++ its.drop c') (t' := s.toks) hH e ?_ (Vals.append (Vals.append (r.take _) r2) (r.drop _)) ?_
  · exact splice_eq its its2 a' c'
  · rw [List.length_append, List.length_append, List.length_take, List.length_drop]
    omega
end
end L2

namespace L2
open PySem PySem.Spec PyProof.Rows

/-! ### lists of pairs as tables -/
section
variable {κ : Type} [DecidableEq κ]
def valV (kvs : List (κ × V)) (k : κ) : Option V := (kvs.find? fun kv => decide (kv.1 = k)).map (·.2)
/-- in its place, or at the end -/
def putK (kvs : List (κ × V)) (k : κ) (v : V) : List (κ × V) :=
  if (kvs.any fun kv => decide (kv.1 = k)) = true then kvs.map (fun kv => if kv.1 = k then (kv.1, v) else kv) else kvs ++ [(k, v)]
def dropK (kvs : List (κ × V)) (k : κ) : List (κ × V) := kvs.filter fun kv => decide (kv.1 ≠ k)

theorem valV_nil {k : κ} : valV ([] : List (κ × V)) k = none := rfl
theorem valV_pos {p : κ × V} {r : List (κ × V)} {k : κ} (e : p.1 = k) : valV (p :: r) k = some p.2 := by simp [valV, List.find?_cons, e]
theorem valV_neg {p : κ × V} {r : List (κ × V)} {k : κ} (e : ¬ p.1 = k) : valV (p :: r) k = valV r k := by simp [valV, List.find?_cons, e]
theorem valV_any (k : κ) : ∀ kvs : List (κ × V), (kvs.any fun kv => decide (kv.1 = k)) = (valV kvs k).isSome
  | [] => rfl
  | p :: r => by
    rw [List.any_cons]
    by_cases e : p.1 = k
    · simp only [valV_pos e, decide_eq_true e, Bool.true_or, Option.isSome_some]
    · rw [valV_neg e, decide_eq_false e, Bool.false_or]; exact valV_any k r
theorem valV_map (k j : κ) (y : V) : ∀ kvs : List (κ × V), valV (kvs.map fun kv => if kv.1 = k then (kv.1, y) else kv) j = (valV kvs j).map fun x => if j = k then y else x
  | [] => rfl
  | p :: r => by
    have ih := valV_map k j y r
    rw [List.map_cons]
    by_cases h : p.1 = k
    · rw [if_pos h]
      by_cases e : p.1 = j
      · rw [valV_pos (p := (p.1, y)) e, valV_pos e, Option.map_some, if_pos (e.symm.trans h)]
      · rw [valV_neg (p := (p.1, y)) e, valV_neg e, ih]
    · rw [if_neg h]
      by_cases e : p.1 = j
      · rw [valV_pos (p := p) e, valV_pos e, Option.map_some, if_neg (fun z => h (e.trans z))]
      · rw [valV_neg (p := p) e, valV_neg e, ih]
theorem valV_snoc (k j : κ) (y : V) : ∀ kvs : List (κ × V), valV kvs k = none → valV (kvs ++ [(k, y)]) j = if j = k then some y else valV kvs j
  | [], _ => by
    by_cases e : k = j
    · rw [if_pos e.symm]; exact valV_pos (p := (k, y)) e
    · rw [if_neg (fun z => e z.symm)]; exact valV_neg (p := (k, y)) e
  | p :: r, hn => by
    rw [List.cons_append]
    have hk : ¬ p.1 = k := fun z => by rw [valV_pos z] at hn; cases hn
    rw [valV_neg hk] at hn
    have ih := valV_snoc k j y r hn
    by_cases e : p.1 = j
    · rw [valV_pos e, valV_pos e, if_neg (fun z => hk (e.trans z))]
    · rw [valV_neg e, valV_neg e, ih]
theorem valV_put (kvs : List (κ × V)) (k j : κ) (y : V) : valV (putK kvs k y) j = if j = k then some y else valV kvs j := by
  unfold putK
  by_cases a : (kvs.any fun kv => decide (kv.1 = k)) = true
  · rw [if_pos a, valV_map]
    rw [valV_any] at a
    by_cases e : j = k
    · obtain ⟨x, hx⟩ := Option.isSome_iff_exists.mp a
      rw [if_pos e, e, hx, Option.map_some, if_pos rfl]
    · rw [if_neg e]
      cases valV kvs j with
      | none => rfl
      | some x => rw [Option.map_some, if_neg e]
  · rw [if_neg a]
    refine valV_snoc k j y kvs ?_
    rw [valV_any] at a
    cases q : valV kvs k with
    | none => rfl
    | some x => rw [q] at a; exact (a rfl).elim
theorem length_putK (kvs : List (κ × V)) (k : κ) (v : V) : (putK kvs k v).length ≤ kvs.length + 1 := by
  unfold putK
  split
  · rw [List.length_map]; omega
  · rw [List.length_append, List.length_cons, List.length_nil]; omega
theorem putK_new {kvs : List (κ × V)} {k : κ} (v : V) (h : valV kvs k = none) : putK kvs k v = kvs ++ [(k, v)] := by
  unfold putK
  rw [valV_any, h]
  exact if_neg (by decide)

theorem RelO.isSome_eq {o : Option V} {u : Option Value} (r : RelO o u) : o.isSome = u.isSome := by
  cases o with
  | none => cases u with
    | none => rfl
    | some _ => exact (show False from r).elim
  | some _ => cases u with
    | none => exact (show False from r).elim
    | some _ => rfl
theorem RelO.getD {o : Option V} {u : Option Value} {d : V} {d' : Value} (r : RelO o u) (rd : RelV d d') : RelV (o.getD d) (u.getD d') := by
  cases o with
  | none => cases u with
    | none => exact rd
    | some _ => exact (show False from r).elim
  | some _ => cases u with
    | none => exact (show False from r).elim
    | some _ => exact r

/-- raw tables of the same keys -/
theorem KV.val {kvs : List (κ × V)} {vs : List (κ × Value)} (r : KV kvs vs) (k : κ) : RelO (valV kvs k) (valueAt vs k) := by
  unfold KV at r
  induction r with
  | nil => exact True.intro
  | @cons p q ps qs h t ih =>
    obtain ⟨h1, h2⟩ := h
    by_cases e : p.1 = k
    · have e' : q.1 = k := h1.symm.trans e
      have b : valueAt (q :: qs) k = some q.2 := by simp [valueAt, List.find?_cons, e']
      rw [valV_pos e, b]; exact h2
    · have e' : ¬ q.1 = k := fun z => e (h1.trans z)
      have b : valueAt (q :: qs) k = valueAt qs k := by simp [valueAt, List.find?_cons, e']
      rw [valV_neg e, b]; exact ih
theorem KV.any {kvs : List (κ × V)} {vs : List (κ × Value)} (r : KV kvs vs) (k : κ) : (kvs.any fun kv => decide (kv.1 = k)) = vs.any fun kv => decide (kv.1 = k) := by
  unfold KV at r
  induction r with
  | nil => rfl
  | cons h t ih => rw [List.any_cons, List.any_cons, ih, h.1]
theorem KV.repl {kvs : List (κ × V)} {vs : List (κ × Value)} (r : KV kvs vs) (k : κ) {y : V} {u : Value} (ry : RelV y u) :
    KV (kvs.map fun kv => if kv.1 = k then (kv.1, y) else kv) (vs.map fun kv => if kv.1 = k then (kv.1, u) else kv) := by
  unfold KV at r ⊢
  induction r with
  | nil => exact .nil
  | @cons p q ps qs h t ih =>
    rw [List.map_cons, List.map_cons]
    refine .cons ?_ ih
    obtain ⟨h1, h2⟩ := h
    by_cases e : p.1 = k
    · rw [if_pos e, if_pos (h1.symm.trans e)]; exact ⟨h1, ry⟩
    · rw [if_neg e, if_neg (fun z => e (h1.trans z))]; exact ⟨h1, h2⟩
theorem KV.put {kvs : List (κ × V)} {vs : List (κ × Value)} (r : KV kvs vs) (k : κ) {y : V} {u : Value} (ry : RelV y u) : KV (putK kvs k y) (stored vs k u) := by
  unfold putK stored
  rw [r.any k]
  by_cases e : (vs.any fun kv => decide (kv.1 = k)) = true
  · rw [if_pos e, if_pos e]; exact r.repl k ry
  · rw [if_neg e, if_neg e]; exact Paired.snoc r ⟨rfl, ry⟩
theorem KV.drop {kvs : List (κ × V)} {vs : List (κ × Value)} (r : KV kvs vs) (k : κ) : KV (dropK kvs k) (without vs k) := by
  unfold KV at r ⊢
  unfold dropK without
  induction r with
  | nil => exact .nil
  | @cons p q ps qs h t ih =>
    obtain ⟨h1, h2⟩ := h
    rw [List.filter_cons, List.filter_cons]
    by_cases e : p.1 = k
    · have a : ¬ decide (p.1 ≠ k) = true := by simp [e]
      have b : ¬ decide (q.1 ≠ k) = true := by simp [h1.symm.trans e]
      rw [if_neg a, if_neg b]; exact ih
    · have e' : ¬ q.1 = k := fun z => e (h1.trans z)
      have a : decide (p.1 ≠ k) = true := by simp [e]
      have b : decide (q.1 ≠ k) = true := by simp [e']
      rw [if_pos a, if_pos b]; exact .cons ⟨h1, h2⟩ ih
theorem KV.keys {kvs : List (κ × V)} {vs : List (κ × Value)} (r : KV kvs vs) : kvs.map (·.1) = vs.map (·.1) := by
  unfold KV at r
  induction r with
  | nil => rfl
  | cons h t ih => rw [List.map_cons, List.map_cons, ih, h.1]
theorem KV.length {kvs : List (κ × V)} {vs : List (κ × Value)} (r : KV kvs vs) : kvs.length = vs.length := Paired.length r
theorem dropK_le (kvs : List (κ × V)) (k : κ) : (dropK kvs k).length ≤ kvs.length := List.length_filter_le _ _
end


/-! ### a tracked dict, its keys ints and texts or tuples of these -/
theorem kV_is {P : Program} {w : World} {k : Key} {u : Value} (r : RelV (kV k) u) : (mixKind P w).is k u = true := by
  cases k with
  | inl i => obtain ⟨t, e⟩ := (show ∃ t, u = Value.int i t from r); subst e; exact mixKind_int P w i t
  | inr x => obtain ⟨t, e⟩ := (show ∃ t, u = Value.str x t from r); subst e; exact mixKind_str P w x t
theorem kV_inj {a b : Key} (e : kV a = kV b) : a = b := by
  cases a with
  | inl i => cases b with
    | inl j => have e' : V.int i = V.int j := e; injection e' with e'; rw [e']
    | inr y => exact nomatch (show V.int i = V.str y from e)
  | inr x => cases b with
    | inl j => exact nomatch (show V.str x = V.int j from e)
    | inr y => have e' : V.str x = V.str y := e; injection e' with e'; rw [e']
theorem kVs_inj : ∀ {a b : List Key}, a.map kV = b.map kV → a = b
  | [], [], _ => rfl
  | [], _ :: _, e => by simp at e
  | _ :: _, [], e => by simp at e
  | x :: xs, y :: ys, e => by
    rw [List.map_cons, List.map_cons] at e
    injection e with e1 e2
    rw [kV_inj e1, kVs_inj e2]
theorem items_are {P : Program} {w : World} : ∀ {ks : List Key} {us : List Value}, Vals (ks.map kV) us → ItemsAre (mixKind P w) ks us
  | [], _, r => by rw [List.map_nil] at r; cases r; exact .nil
  | k :: ks, _, r => by
    rw [List.map_cons] at r
    cases r with
    | cons h t => exact .cons (kV_is h) (items_are t)

/-- raw entries of a dict with tuple keys -/
abbrev KT (H : Hp) : List (List Key × V) → List (List Key × Addr × Value) → Prop := Paired fun p q => p.1 = q.1 ∧ H q.2.1 = some (.tup (p.1.map kV)) ∧ RelV p.2 q.2.2
theorem KT.val {H : Hp} {kvs : List (List Key × V)} {xs : List (List Key × Addr × Value)} (r : KT H kvs xs) (k : List Key) : RelO (valV kvs k) ((atKey xs k).map (·.2)) := by
  induction r with
  | nil => exact True.intro
  | @cons p q ps qs h t ih =>
    obtain ⟨h1, _, h2⟩ := h
    by_cases e : p.1 = k
    · have e' : q.1 = k := h1.symm.trans e
      have b : atKey (q :: qs) k = some q.2 := by simp [atKey, List.find?_cons, e']
      rw [valV_pos e, b]; exact h2
    · have e' : ¬ q.1 = k := fun z => e (h1.trans z)
      have b : atKey (q :: qs) k = atKey qs k := by simp [atKey, List.find?_cons, e']
      rw [valV_neg e, b]; exact ih
theorem KT.repl {H : Hp} {kvs : List (List Key × V)} {xs : List (List Key × Addr × Value)} (r : KT H kvs xs) (k : List Key) {y : V} {u : Value} (ry : RelV y u) :
    KT H (kvs.map fun kv => if kv.1 = k then (kv.1, y) else kv) (xs.map (putAt k u)) := by
  induction r with
  | nil => exact .nil
  | @cons p q ps qs h t ih =>
    rw [List.map_cons, List.map_cons]
    refine .cons ?_ ih
    obtain ⟨h1, h2, h3⟩ := h
    unfold putAt
    by_cases e : p.1 = k
    · rw [if_pos e, if_pos (h1.symm.trans e)]; exact ⟨h1, h2, ry⟩
    · rw [if_neg e, if_neg (fun z => e (h1.trans z))]; exact ⟨h1, h2, h3⟩
theorem KT.put {H : Hp} {kvs : List (List Key × V)} {xs : List (List Key × Addr × Value)} (r : KT H kvs xs) (k : List Key) {b : Addr} {y : V} {u : Value} (hb : H b = some (.tup (k.map kV))) (ry : RelV y u) :
    KT H (putK kvs k y) (storedH xs k b u) := by
  have e : (kvs.any fun kv => decide (kv.1 = k)) = (atKey xs k).isSome := by
    rw [valV_any, (r.val k).isSome_eq, Option.isSome_map]
  unfold putK storedH
  rw [e]
  by_cases q : (atKey xs k).isSome = true
  · rw [if_pos q, if_pos q]; exact r.repl k ry
  · rw [if_neg q, if_neg q]; exact Paired.snoc r ⟨rfl, hb, ry⟩
theorem KT.keeps {H H' : Hp} {kvs : List (List Key × V)} {xs : List (List Key × Addr × Value)} (r : KT H kvs xs) (ht : ∀ b ys, H b = some (.tup ys) → H' b = some (.tup ys)) : KT H' kvs xs :=
  Paired.mapP r fun _ _ z => ⟨z.1, ht _ _ z.2.1, z.2.2⟩

section
variable {P : Program} {w : World} {H : Hp} {h : Heap} {a : Addr}
theorem rd_of {u : HO} (ok : HOk P w H h) (e : Rd H a u) : ObjOk P w H h a u := e.ok ok
theorem dk_rd {kvs : List (Key × V)} (ok : HOk P w H h) (e : Rd H a (.dK kvs)) : kvs.length ≤ sizeLine ∧ (a == sysModules) = false ∧ ∃ vs, KV kvs vs ∧ h.DictOf (mixKind P w) a vs :=
  show ObjOk P w H h a (.dK kvs) from rd_of ok e
theorem dk_of {kvs : List (Key × V)} (ok : HOk P w H h) (e : H a = some (.dK kvs)) : kvs.length ≤ sizeLine ∧ (a == sysModules) = false ∧ ∃ vs, KV kvs vs ∧ h.DictOf (mixKind P w) a vs := dk_rd ok (.inl e)
/-- a tracked tuple of ints and texts is a key -/
theorem key_of {ks : List Key} (ok : HOk P w H h) (e : H a = some (.tup (ks.map kV))) : (tupleKind (mixKind P w)).is h ks a := by
  obtain ⟨_, its, r, o, h1, h2, n, h3⟩ := (show ObjOk P w H h a (.tup (ks.map kV)) from ok a _ e)
  exact ⟨o, its.toArray, n, h1, h2, h3, by simpa using items_are r⟩
theorem dt_rd {kvs : List (List Key × V)} (ok : HOk P w H h) (e : Rd H a (.dT kvs)) : kvs.length ≤ sizeLine ∧ (a == sysModules) = false ∧
    ∃ xs, KT H kvs xs ∧ h.DictOfH (tupleKind (mixKind P w)) a xs := by
  obtain ⟨z, y, xs, r, o, es, ep, h1, h2, h3, h4, h5⟩ := (show ObjOk P w H h a (.dT kvs) from rd_of ok e)
  refine ⟨z, y, xs, r, o, es, ep, h1, h2, h3, h4, fun x hx => ?_, h5⟩
  have all : ∀ {l : List (List Key × V)} {m : List (List Key × Addr × Value)}, KT H l m → ∀ x ∈ m, (tupleKind (mixKind P w)).is h x.1 x.2.1 := by
    intro l m q
    induction q with
    | nil => intro x hx; exact nomatch hx
    | @cons p q ps qs hq t ih =>
      intro x hx
      rcases List.mem_cons.mp hx with e | hx
      · subst e
        exact key_of ok (by rw [← hq.1]; exact hq.2.1)
      · exact ih x hx
  exact all r x hx
theorem dt_of {kvs : List (List Key × V)} (ok : HOk P w H h) (e : H a = some (.dT kvs)) : kvs.length ≤ sizeLine ∧ (a == sysModules) = false ∧
    ∃ xs, KT H kvs xs ∧ h.DictOfH (tupleKind (mixKind P w)) a xs := dt_rd ok (.inl e)
end

/-- what the dict at a holds at the key y -/
def DGet (H : Hp) (a : Addr) (y : V) (r : Option V) : Prop :=
  (∃ kvs k, Rd H a (.dK kvs) ∧ y = kV k ∧ r = valV kvs k) ∨ ∃ kvs k b, Rd H a (.dT kvs) ∧ y = .ref b ∧ H b = some (.tup (k.map kV)) ∧ r = valV kvs k
/-- the heap behind a[y] = v -/
def DPut (H : Hp) (a : Addr) (y v : V) (H' : Hp) : Prop :=
  (∃ kvs k, H a = some (.dK kvs) ∧ y = kV k ∧ kvs.length < sizeLine ∧ H' = upd H a (.dK (putK kvs k v))) ∨
  ∃ kvs k b, H a = some (.dT kvs) ∧ y = .ref b ∧ H b = some (.tup (k.map kV)) ∧ kvs.length < sizeLine ∧ H' = upd H a (.dT (putK kvs k v))
theorem DGet.k {H : Hp} {a : Addr} {kvs : List (Key × V)} {k : Key} (e : H a = some (.dK kvs)) : DGet H a (kV k) (valV kvs k) := .inl ⟨kvs, k, .inl e, rfl, rfl⟩
theorem DGet.t {H : Hp} {a b : Addr} {kvs : List (List Key × V)} {k : List Key} (e : H a = some (.dT kvs)) (eb : H b = some (.tup (k.map kV))) : DGet H a (.ref b) (valV kvs k) := .inr ⟨kvs, k, b, .inl e, rfl, eb, rfl⟩
theorem DPut.k {H : Hp} {a : Addr} {kvs : List (Key × V)} {k : Key} {v : V} (e : H a = some (.dK kvs)) (hl : kvs.length < sizeLine) : DPut H a (kV k) v (upd H a (.dK (putK kvs k v))) := .inl ⟨kvs, k, e, rfl, hl, rfl⟩
theorem DPut.t {H : Hp} {a b : Addr} {kvs : List (List Key × V)} {k : List Key} {v : V} (e : H a = some (.dT kvs)) (eb : H b = some (.tup (k.map kV))) (hl : kvs.length < sizeLine) :
    DPut H a (.ref b) v (upd H a (.dT (putK kvs k v))) := .inr ⟨kvs, k, b, e, rfl, eb, hl, rfl⟩


section
variable {X : Cx} {pins : List (Addr × Obj)} {σ : St} {H : Hp} {s : Shared} {a : Addr} {y v : V} {u r : Value} {o : Option V} {A : Around} {E : Value → Shared → Prop}

theorem Inv.big (I : Inv X pins σ H s) : sysModules < s.heap.objs.size := by
  have h : mainGlobals < s.heap.objs.size := (I.mod.glob.keeps I.bk).lt
  exact Nat.lt_trans (by decide) h

/-- d[y], there -/
theorem d_getItem {Q : Value → Shared → Prop} (hu : A.units + 1 < cLine) (I : Inv X pins σ H s) (g : DGet H a y (some v)) (ry : RelV y u) (h : ∀ w' s', Inv X pins σ H s' → RelV v w' → Q w' s') :
    wpAny (model X.prog X.w) A (getItem (.ref a) u) Q E s := by
  rcases g with ⟨kvs, k, e, ey, l⟩ | ⟨kvs, k, b, e, ey, eb, l⟩
  · subst ey
    obtain ⟨z, hd, vs, rel, dd⟩ := dk_rd I.hok e
    obtain ⟨w', hw, rw'⟩ := RelO.some_of (v := v) (o := valueAt vs k) (by rw [l]; exact rel.val k)
    exact wpAny_getItem_of (kV_is ry) dd.mapOf hw (h w' _ (I.tok _) rw')
  · subst ey
    cases (show u = Value.ref b from ry)
    obtain ⟨z, hd, xs, rel, dd⟩ := dt_rd I.hok e
    obtain ⟨w', hw, rw'⟩ := RelO.some_of (v := v) (o := (atKey xs k).map (·.2)) (by rw [l]; exact rel.val k)
    obtain ⟨p, hp, hp2⟩ := Option.map_eq_some_iff.mp hw
    refine wpAny_getItem_heap (tupleKind_room_in1 hu) (key_of I.hok eb) dd hp ?_
    rw [hp2]
    exact h w' _ (I.tok _) rw'
/-- y in d -/
theorem d_in {Q : Value → Shared → Prop} (hu : A.units + 1 < cLine) (I : Inv X pins σ H s) (g : DGet H a y o) (ry : RelV y u) (h : ∀ s', Inv X pins σ H s' → Q (.bool o.isSome) s') :
    wpAny (model X.prog X.w) A (compareOp .In u (.ref a)) Q E s := by
  rcases g with ⟨kvs, k, e, ey, l⟩ | ⟨kvs, k, b, e, ey, eb, l⟩
  · subst ey
    obtain ⟨z, hd, vs, rel, dd⟩ := dk_rd I.hok e
    refine wpAny_in_of (kV_is ry) hd dd.mapOf ?_
    rw [← (rel.val k).isSome_eq, ← l]
    exact h _ (I.tok _)
  · subst ey
    cases (show u = Value.ref b from ry)
    obtain ⟨z, hd, xs, rel, dd⟩ := dt_rd I.hok e
    refine wpAny_in_heap (tupleKind_room_in1 hu) (key_of I.hok eb) hd dd ?_
    have q := (rel.val k).isSome_eq
    rw [Option.isSome_map] at q
    rw [← q, ← l]
    exact h _ (I.tok _)
theorem d_notIn {Q : Value → Shared → Prop} (hu : A.units + 1 < cLine) (I : Inv X pins σ H s) (g : DGet H a y o) (ry : RelV y u) (h : ∀ s', Inv X pins σ H s' → Q (.bool (!o.isSome)) s') :
    wpAny (model X.prog X.w) A (compareOp .NotIn u (.ref a)) Q E s := by
  rcases g with ⟨kvs, k, e, ey, l⟩ | ⟨kvs, k, b, e, ey, eb, l⟩
  · subst ey
    obtain ⟨z, hd, vs, rel, dd⟩ := dk_rd I.hok e
    refine wpAny_notIn_of (kV_is ry) hd dd.mapOf ?_
    rw [← (rel.val k).isSome_eq, ← l]
    exact h _ (I.tok _)
  · subst ey
    cases (show u = Value.ref b from ry)
    obtain ⟨z, hd, xs, rel, dd⟩ := dt_rd I.hok e
    refine wpAny_notIn_heap (tupleKind_room_in1 hu) (key_of I.hok eb) hd dd ?_
    have q := (rel.val k).isSome_eq
    rw [Option.isSome_map] at q
    rw [← q, ← l]
    exact h _ (I.tok _)
/-- a dict's object is replaced -/
theorem d_write {h' : Heap} {t' : Nat} {ob : HO} (I : Inv X pins σ H s) (mu : Mut (H a)) (hs : Heap.SameBut a s.heap h') (he : ∃ q, h'.get? a = some q) (new : ObjOk X.prog X.w (upd H a ob) h' a ob) :
    Inv X pins σ (upd H a ob) { s with heap := h', toks := t' } :=
  I.write (x := a) (e := a) mu (.inl rfl) (fun b q hb z => (hs.2 b hb).trans z) he new
theorem dk_new {P : Program} {w : World} {H' : Hp} {h' : Heap} {kvs : List (Key × V)} {vs : List (Key × Value)} (z : kvs.length ≤ sizeLine) (hd : (a == sysModules) = false) (rel : KV kvs vs) (dd : h'.DictOf (mixKind P w) a vs) :
    ObjOk P w H' h' a (.dK kvs) := ⟨z, hd, vs, rel, dd⟩
/-- d[y] = v -/
theorem d_setItem {H' : Hp} {Q : Unit → Shared → Prop} (hu : A.units + 1 < cLine) (I : Inv X pins σ H s) (g : DPut H a y v H') (ry : RelV y u) (rv : RelV v r) (h : ∀ s', Inv X pins σ H' s' → Q () s') :
    wpAny (model X.prog X.w) A (setItem (.ref a) u r) Q E s := by
  rcases g with ⟨kvs, k, e, ey, l, eH⟩ | ⟨kvs, k, b, e, ey, eb, l, eH⟩
  · subst ey eH
    obtain ⟨z, hd, vs, rel, dd⟩ := dk_of I.hok e
    have hz : vs.length ≤ sizeLine := by rw [← rel.length]; exact z
    have hl : (putK kvs k v).length ≤ sizeLine := by have := length_putK kvs k v; omega
    refine wpAny_setItem_pairs (hsz := hz) (kV_is ry) dd fun h' dd' hs => h _ ?_
    have he : ∃ q, h'.get? a = some q := let ⟨q, _, _, hq, _⟩ := dd'; ⟨q, hq⟩
    exact d_write I (by rw [e]; exact True.intro) hs he (dk_new hl hd (rel.put k rv) dd')
  · subst ey eH
    cases (show u = Value.ref b from ry)
    obtain ⟨z, hd, xs, rel, dd⟩ := dt_of I.hok e
    have hz : xs.length ≤ sizeLine := by rw [← Paired.length rel]; exact z
    have hl : (putK kvs k v).length ≤ sizeLine := by have := length_putK kvs k v; omega
    refine wpAny_setItem_heap (hsz := hz) (tupleKind_room_in1 hu) (key_of I.hok eb) dd fun h' dd' hs => h _ ?_
    obtain ⟨q, es, ep, hq, h2, h3, h4, _, h5⟩ := dd'
    refine d_write I (by rw [e]; exact True.intro) hs ⟨q, hq⟩ ⟨hl, hd, _, (rel.put k eb rv).keeps fun c ys ec => ?_, q, es, ep, hq, h2, h3, h4, h5⟩
    rw [upd_ne (ne_of ec e (fun z => nomatch z))]
    exact ec
end

section
variable {X : Cx} {pins : List (Addr × Obj)} {σ : St} {H : Hp} {s : Shared} {a : Addr} {kvs : List (Key × V)} {k : Key} {u : Value} {A : Around} {E : Value → Shared → Prop}
/-- del d[k] -/
theorem d_delItem {Q : Unit → Shared → Prop} (I : Inv X pins σ H s) (e : H a = some (.dK kvs)) (ry : RelV (kV k) u) (l : (valV kvs k).isSome = true) (h : ∀ s', Inv X pins σ (upd H a (.dK (dropK kvs k))) s' → Q () s') :
    wpAny (model X.prog X.w) A (delItem (.ref a) u) Q E s := by
  obtain ⟨z, hd, vs, rel, dd⟩ := dk_of I.hok e
  refine wpAny_delItem_slot dd.typeIs (by decide) PySem.F.slot_dict_delitem
    (call_meetsIn PySem.F.slot_dict_delitem dd.typeIs PySem.F.entry_dict_delitem (PySem.F.args_dict_delitem_2 _ _) (meets_dict_delitem_pairs (mixKind X.prog X.w) a (kV_is ry)) ⟨vs, dd, by rw [← rel.length]; exact z, by rw [← (rel.val k).isSome_eq]; exact l, fun h' dd' hs => h _ ?_⟩)
  have he : ∃ q, h'.get? a = some q := let ⟨q, _, _, hq, _⟩ := dd'; ⟨q, hq⟩
  exact d_write I (by rw [e]; exact True.intro) hs he (dk_new (Nat.le_trans (dropK_le kvs k) z) hd (rel.drop k) dd')
/-- d.pop(k[, x]), there -/
theorem d_pop {v : V} {more : List Value} {Q : Value → Shared → Prop} (I : Inv X pins σ H s) (e : H a = some (.dK kvs)) (ry : RelV (kV k) u) (l : valV kvs k = some v) (hm : more = [] ∨ ∃ x, more = [x])
    (h : ∀ w' s', Inv X pins σ (upd H a (.dK (dropK kvs k))) s' → RelV v w' → Q w' s') : wpAny (model X.prog X.w) A (call (.builtin "dict.pop") (.ref a :: u :: more)) Q E s := by
  obtain ⟨z, hd, vs, rel, dd⟩ := dk_of I.hok e
  obtain ⟨w', hw, rw'⟩ := RelO.some_of (v := v) (o := valueAt vs k) (by rw [← l]; exact rel.val k)
  have hp : (keyPart u).isSome = true := by
    cases k with
    | inl i => obtain ⟨t, q⟩ := (show ∃ t, u = Value.int i t from ry); subst q; rfl
    | inr x => obtain ⟨t, q⟩ := (show ∃ t, u = Value.str x t from ry); subst q; rfl
  have ha : argsOk "dict.pop" ⟨.ref a :: u :: more, []⟩ := by
    rcases hm with q | ⟨x, q⟩
    · subst q; exact PySem.F.args_dict_pop_2 _ _
    · subst q; exact PySem.F.args_dict_pop_3 _ _ _
  refine call_meetsIn PySem.F.slot_dict_pop dd.typeIs PySem.F.entry_dict_pop ha (meets_dict_pop_there (mixKind X.prog X.w) a (kV_is ry) more hm hp)
    ⟨vs, w', dd, by rw [← rel.length]; exact z, hw, fun h' dd' hs => h w' _ ?_ rw'⟩
  have he : ∃ q, h'.get? a = some q := let ⟨q, _, _, hq, _⟩ := dd'; ⟨q, hq⟩
  exact d_write I (by rw [e]; exact True.intro) hs he (dk_new (Nat.le_trans (dropK_le kvs k) z) hd (rel.drop k) dd')
/-- d.pop(k, x), not there -/
theorem d_popD {r : Value} {Q : Value → Shared → Prop} (I : Inv X pins σ H s) (e : H a = some (.dK kvs)) (ry : RelV (kV k) u) (l : valV kvs k = none) (h : ∀ s', Inv X pins σ H s' → Q r s') :
    wpAny (model X.prog X.w) A (call (.builtin "dict.pop") [.ref a, u, r]) Q E s := by
  obtain ⟨z, hd, vs, rel, dd⟩ := dk_of I.hok e
  have hn : valueAt vs k = none := RelO.none_of (by rw [← l]; exact rel.val k)
  have hp : (keyPart u).isSome = true := by
    cases k with
    | inl i => obtain ⟨t, q⟩ := (show ∃ t, u = Value.int i t from ry); subst q; rfl
    | inr x => obtain ⟨t, q⟩ := (show ∃ t, u = Value.str x t from ry); subst q; rfl
  exact call_meetsIn PySem.F.slot_dict_pop dd.typeIs PySem.F.entry_dict_pop (PySem.F.args_dict_pop_3 _ _ _) (meets_dict_pop_default (mixKind X.prog X.w) a (kV_is ry) hd hp r) ⟨vs, dd, hn, h _ (I.tok _)⟩
/-- d.clear() -/
theorem d_clear {Q : Value → Shared → Prop} (I : Inv X pins σ H s) (e : H a = some (.dK kvs)) (h : ∀ s', Inv X pins σ (upd H a (.dK [])) s' → Q .none s') : wpAny (model X.prog X.w) A (call (.builtin "dict.clear") [.ref a]) Q E s := by
  obtain ⟨z, hd, vs, rel, dd⟩ := dk_of I.hok e
  refine call_meetsIn PySem.F.slot_dict_clear dd.typeIs PySem.F.entry_dict_clear (PySem.F.args_dict_clear_1 _) (meets_dict_clear (mixKind X.prog X.w) a) ⟨vs, dd, by rw [← rel.length]; exact z, fun h' dd' hs => h _ ?_⟩
  have he : ∃ q, h'.get? a = some q := let ⟨q, _, _, hq, _⟩ := dd'; ⟨q, hq⟩
  exact d_write (t' := s.toks) I (by rw [e]; exact True.intro) hs he (dk_new (Nat.zero_le _) hd .nil dd')
/-- len(d) -/
theorem d_len {Q : Value → Shared → Prop} (I : Inv X pins σ H s) (e : Rd H a (.dK kvs)) (h : ∀ t s', Inv X pins σ H s' → Q (.int kvs.length t) s') : wpAny (model X.prog X.w) A (call (.builtin "len") [.ref a]) Q E s := by
  obtain ⟨z, hd, vs, rel, dd⟩ := dk_rd I.hok e
  refine call_len_dict hd dd (by rw [← rel.length]; rw [sizeLine_eq] at z; omega) ?_
  rw [← rel.length]
  exact h _ _ (I.tok _)
/-- if d -/
theorem d_truth {Q : Bool → Shared → Prop} (I : Inv X pins σ H s) (e : Rd H a (.dK kvs)) (h : ∀ s', Inv X pins σ H s' → Q (!kvs.isEmpty) s') : wpAny (model X.prog X.w) A (truthy (.ref a)) Q E s := by
  obtain ⟨z, hd, vs, rel, dd⟩ := dk_rd I.hok e
  refine wpAny_truthy_dict hd dd (by rw [← rel.length]; rw [sizeLine_eq] at z; omega) ?_
  have q : kvs.isEmpty = vs.isEmpty := by cases rel <;> rfl
  rw [← q]
  exact h _ (I.tok _)
end


/-! ### readings and rules -/
/-- the element of a subscription, not a slice -/
def NoSl (i : Expr) : Prop := ∀ ov iv, subscripted i false ov iv = operate [ov, iv] (getItem ov iv)
theorem subD_of {prog : Program} {w : World} {A : Around} {E : Value → Shared → Prop} {s : Shared} {env : Env} {value slice : Expr} {pos : Pos} {T id : String} {Q : Value → Shared → Prop}
    (hl : typeLookup (.type T) "__getitem__" = pure (some (.builtin id))) (hs : NoSl slice)
    (h : wpAny (model prog w) A (eval value env) (fun o s₁ => wpAny (model prog w) A (eval slice env) (fun i s₂ => s₂.TypeIs o T ∧ wpAny (model prog w) A (getItem o i) Q E s₂) E s₁) E s) :
    wpAny (model prog w) A (eval (.Subscript value slice pos) env) Q E s := by
  refine Subscript_ (wpAny_mono h (fun o s₁ h₁ => wpAny_mono h₁ (fun i s₂ h₂ => ?_) fun _ _ x => x) fun _ _ x => x)
  obtain ⟨hT, h₂⟩ := h₂
  unfold subscriptTail
  refine wpAny_bind ?_
  rw [getitemInPython_of_ne hT.not_modules]
  refine wpAny_bind (wpAny_specialOf hT hl ?_)
  have fin : wpAny (model prog w) A (subscripted slice false o i) (fun r s₃ => wpAny (model prog w) A (letTemporaryGo value o r >>= fun _ => pure r) Q E s₃) E s₂ := by
    rw [hs o i]
    exact wpAny_operating (wpAny_mono h₂ (fun r s₃ h₃ => wpAny_bind (wpAny_letTemporaryGo (wpAny_pure h₃))) fun _ _ x => x)
  first
    | exact wpAny_pure (wpAny_bind fin)
    | exact wpAny_bind (wpAny_pure (wpAny_bind fin))
    | exact wpAny_bind fin

theorem dict_typeIs {X : Cx} {pins : List (Addr × Obj)} {σ : St} {H : Hp} {s : Shared} {a : Addr} {y : V} {o : Option V} (I : Inv X pins σ H s) (g : DGet H a y o) : s.TypeIs (.ref a) "dict" := by
  rcases g with ⟨kvs, k, e, _, _⟩ | ⟨kvs, k, b, e, _, _, _⟩
  · obtain ⟨_, _, vs, _, dd⟩ := dk_rd I.hok e
    exact dd.typeIs
  · obtain ⟨_, _, xs, _, dd⟩ := dt_rd I.hok e
    exact dd.typeIs
theorem dict_noDict {X : Cx} {pins : List (Addr × Obj)} {σ : St} {H : Hp} {s : Shared} {a : Addr} {y : V} {o : Option V} (I : Inv X pins σ H s) (g : DGet H a y o) :
    ∀ b, Value.ref a = .ref b → ∃ ob, s.heap.get? b = some ob ∧ ob.dict = none := fun b q => by
  cases q
  rcases g with ⟨kvs, k, e, _, _⟩ | ⟨kvs, k, b, e, _, _, _⟩
  · obtain ⟨_, _, vs, _, ob, _, _, h1, h2, _⟩ := dk_rd I.hok e
    exact ⟨ob, h1, h2.2.1⟩
  · obtain ⟨_, _, xs, _, ob, _, _, h1, h2, _⟩ := dt_rd I.hok e
    exact ⟨ob, h1, h2.2.1⟩

/-- d[y] -/
def tDGet (td ty : TE) : TE := fun σ H Q => td σ H fun x H1 => ty σ H1 fun y H2 => ∃ a v, x = .ref a ∧ DGet H2 a y (some v) ∧ Q v H2
/-- y in d, y not in d -/
def tDIn (ty td : TE) : TE := fun σ H Q => ty σ H fun y H1 => td σ H1 fun x H2 => ∃ a o, x = .ref a ∧ DGet H2 a y o ∧ Q (.bl o.isSome) H2
def tDNotIn (ty td : TE) : TE := fun σ H Q => ty σ H fun y H1 => td σ H1 fun x H2 => ∃ a o, x = .ref a ∧ DGet H2 a y o ∧ Q (.bl (!o.isSome)) H2
/-- d[y] = v -/
def sDPut (td ty tv : TE) : TS := fun D σ H => tv σ H fun v H1 => td σ H1 fun x H2 => ty σ H2 fun y H3 => ∃ a H4, x = .ref a ∧ DPut H3 a y v H4 ∧ D.nx σ H4
/-- d[y] op= v -/
def sDAug (td ty tv : TE) (rd : V → V → Hp → VK → Prop) : TS := fun D σ H => td σ H fun x H1 => ty σ H1 fun y H2 => ∃ a v, x = .ref a ∧ DGet H2 a y (some v) ∧
  tv σ H2 fun y2 H3 => rd v y2 H3 fun z H4 => ∃ H5, DPut H4 a y z H5 ∧ D.nx σ H5
/-- del d[y] -/
def sDDel (td ty : TE) : TS := fun D σ H => td σ H fun x H1 => ty σ H1 fun y H2 => ∃ a kvs k, x = .ref a ∧ H2 a = some (.dK kvs) ∧ y = kV k ∧ (valV kvs k).isSome = true ∧ D.nx σ (upd H2 a (.dK (dropK kvs k)))

section
variable {X : Cx} {o i e value : Expr} {pos pos' tpos : Pos} {td ty tv : TE}
theorem pe_dget (hu : X.A.units + 1 < cLine) (ho : PE X o td) (hi : PE X i ty) (hs : NoSl i) : PE X (.Subscript o i pos) (tDGet td ty) := by
  (first | constructor | skip)
  intro pins s σ H Q I h
  refine subD_of PySem.F.slot_dict_getitem.lookup hs (thn (ho pins s σ H _ I h) fun u s1 ⟨x, H1, I1, rx, q1⟩ => thn (hi pins s1 σ H1 _ I1 q1) fun iv s2 ⟨y, H2, I2, ry, a, v, ex, g, q2⟩ => ?_)
  subst ex
  obtain rfl : u = Value.ref a := rx
  exact ⟨dict_typeIs I2 g, d_getItem hu I2 g ry fun w' s3 I3 rw' => ⟨v, H2, I3, rw', q2⟩⟩
theorem pc_din (hu : X.A.units + 1 < cLine) (hi : PE X i ty) (ho : PE X o td) : PC X .In i o (tDIn ty td) := by
  (first | constructor | skip)
  intro pins s σ H Q I h
  refine thn (hi pins s σ H _ I h) fun iv s1 ⟨y, H1, I1, ry, q1⟩ => thn (ho pins s1 σ H1 _ I1 q1) fun u s2 ⟨x, H2, I2, rx, a, ov, ex, g, q2⟩ => ?_
  subst ex
  obtain rfl : u = Value.ref a := rx
  exact d_in hu I2 g ry fun s3 I3 => ⟨.bl ov.isSome, H2, I3, rfl, q2⟩
theorem pc_dnotin (hu : X.A.units + 1 < cLine) (hi : PE X i ty) (ho : PE X o td) : PC X .NotIn i o (tDNotIn ty td) := by
  (first | constructor | skip)
  intro pins s σ H Q I h
  refine thn (hi pins s σ H _ I h) fun iv s1 ⟨y, H1, I1, ry, q1⟩ => thn (ho pins s1 σ H1 _ I1 q1) fun u s2 ⟨x, H2, I2, rx, a, ov, ex, g, q2⟩ => ?_
  subst ex
  obtain rfl : u = Value.ref a := rx
  exact d_notIn hu I2 g ry fun s3 I3 => ⟨.bl (!ov.isSome), H2, I3, rfl, q2⟩
theorem ps_dput (hu : X.A.units + 1 < cLine) (ho : PE X o td) (hi : PE X i ty) (hv : PE X value tv) (hs : swapsWith value (some (.Subscript o i pos')) pos.line X.env = pure false) :
    PS X (.Assign [.Subscript o i pos'] value pos) (sDPut td ty tv) := by
  (first | constructor | skip)
  intro pins s σ H D I h
  refine wpAny_Assign_Subscript (thn (hv pins s σ H _ I h) fun r s1 ⟨v, H1, I1, rv, q1⟩ => thn (ho pins s1 σ H1 _ I1 q1) fun u s2 ⟨x, H2, I2, rx, q2⟩ => thn (hi pins s2 σ H2 _ I2 q2) fun iv s3 ⟨y, H3, I3, ry, a, H4, ex, g, q3⟩ => ?_) hs
  subst ex
  obtain rfl : u = Value.ref a := rx
  exact d_setItem hu I3 g ry rv fun s4 I4 => ⟨σ, H4, I4, q3⟩
theorem ps_daug {op : Operator} {rd : V → V → Hp → VK → Prop} (hu : X.A.units + 1 < cLine) (ho : PE X o td) (hi : PE X i ty) (hv : PE X value tv) (hop : InOp X op rd)
    (ha : ∀ ov iv new, augStore i ov iv new = (do holding [new, ov, iv] (setItem ov iv new); release [new, ov, iv] []; pure .next)) : PS X (.AugAssign (.Subscript o i tpos) op value pos) (sDAug td ty tv rd) := by
  (first | constructor | skip)
  intro pins s σ H D I h
  refine wpAny_AugAssign_SubscriptAny (thn (ho pins s σ H _ I h) fun u s1 ⟨x, H1, I1, rx, q1⟩ => thn (hi pins s1 σ H1 _ I1 q1) fun iv s2 ⟨y, H2, I2, ry, a, v, ex, g, q2⟩ => ?_) ha
  subst ex
  obtain rfl : u = Value.ref a := rx
  refine d_getItem hu I2 g ry fun w' s3 I3 rw' => thn (hv pins s3 σ H2 _ I3 q2) fun w2 s4 ⟨y2, H3, I4, ry2, q3⟩ => thn (hop pins s4 σ H3 v y2 w' w2 _ I4 rw' ry2 q3) fun w3 s5 ⟨z, H4, I5, rz, H5, g5, q4⟩ => ?_
  exact d_setItem hu I5 g5 ry rz fun s6 I6 => ⟨σ, H5, I6, q4⟩
theorem ps_ddel (ho : PE X o td) (hi : PE X i ty) : PS X (.Delete [.Subscript o i tpos] pos) (sDDel td ty) := by
  (first | constructor | skip)
  intro pins s σ H D I h
  refine wpAny_Delete (wpAny_deleteEach_cons (wpAny_delete_Subscript (thn (ho pins s σ H _ I h) fun u s1 ⟨x, H1, I1, rx, q1⟩ => thn (hi pins s1 σ H1 _ I1 q1) fun iv s2 ⟨y, H2, I2, ry, a, kvs, k, ex, e, ey, l, q2⟩ => ?_)))
  subst ex ey
  obtain rfl : u = Value.ref a := rx
  exact d_delItem I2 e ry l fun s3 I3 => wpAny_deleteEach_nil ⟨σ, _, I3, q2⟩
end


/-! ### displays -/
theorem dk_empty {P : Program} {w : World} {H : Hp} (h : Heap) (hb : sysModules < h.objs.size) : ObjOk P w H (h.push { cls := .type "dict", data := .dict #[] }) h.objs.size (.dK []) :=
  ⟨Nat.zero_le _, beq_eq_false_iff_ne.mpr (Ne.symm (Nat.ne_of_lt hb)), [], .nil, Heap.DictOf.new h⟩
theorem dt_empty {P : Program} {w : World} {H : Hp} (h : Heap) (hb : sysModules < h.objs.size) : ObjOk P w H (h.push { cls := .type "dict", data := .dict #[] }) h.objs.size (.dT []) :=
  ⟨Nat.zero_le _, beq_eq_false_iff_ne.mpr (Ne.symm (Nat.ne_of_lt hb)), [], .nil, _, #[], 0, Heap.get?_push_size _ rfl, ⟨rfl, rfl, rfl⟩, rfl, rfl, List.nodup_nil⟩
/-- {}, to be a dict of the kind that is wanted -/
def tDNewK : TE := fun _ H Q => ∀ p, H p = none → Q (.ref p) (upd H p (.dK []))
def tDNewT : TE := fun _ H Q => ∀ p, H p = none → Q (.ref p) (upd H p (.dT []))
section
variable {X : Cx} {pos : Pos}
theorem pe_dnewK : PE X (.Dict [] [] pos) tDNewK := .mk fun pins s σ H Q I h =>
  wpAny_Dict_empty ⟨.ref s.heap.objs.size, _, I.laid (a := s.heap.objs.size) (o := .dK []) (t' := s.toks) (fun _ _ q => Heap.get?_push_of_some _ q) (Nat.le_refl _) (dk_empty s.heap I.big), rfl, h _ (I.hok.fresh (Nat.le_refl _))⟩
theorem pe_dnewT : PE X (.Dict [] [] pos) tDNewT := .mk fun pins s σ H Q I h =>
  wpAny_Dict_empty ⟨.ref s.heap.objs.size, _, I.laid (a := s.heap.objs.size) (o := .dT []) (t' := s.toks) (fun _ _ q => Heap.get?_push_of_some _ q) (Nat.le_refl _) (dt_empty s.heap I.big), rfl, h _ (I.hok.fresh (Nat.le_refl _))⟩
end

/-- the pairs of a display, from the left -/
def tPairs : List (TE × TE) → St → Hp → (List (V × V) → Hp → Prop) → Prop
  | [], _, H, Q => Q [] H
  | (tk, tv) :: r, σ, H, Q => tk σ H fun x H1 => tv σ H1 fun y H2 => tPairs r σ H2 fun ps H3 => Q ((x, y) :: ps) H3
abbrev VV : List (V × V) → List (Value × Value) → Prop := Paired fun p q => RelV p.1 q.1 ∧ RelV p.2 q.2
structure PPs (X : Cx) (pos : Pos) (keys : List (Option Expr)) (values : List Expr) (trs : List (TE × TE)) : Prop where
  run :
    ∀ (pins : List (Addr × Obj)) (s : Shared) (σ : St) (H : Hp) (Q : List (V × V) → Hp → Prop), Inv X pins σ H s → tPairs trs σ H Q →
      wpAny (model X.prog X.w) X.A (evalPairs (pairTrees keys values X.env pos)) (fun vs s' => ∃ ps H', Inv X pins σ H' s' ∧ VV ps vs ∧ Q ps H') X.xe s
instance {X : Cx} {pos : Pos} {keys : List (Option Expr)} {values : List Expr} {trs : List (TE × TE)} : CoeFun (PPs X pos keys values trs) (fun _ =>
    ∀ (pins : List (Addr × Obj)) (s : Shared) (σ : St) (H : Hp) (Q : List (V × V) → Hp → Prop), Inv X pins σ H s → tPairs trs σ H Q →
      wpAny (model X.prog X.w) X.A (evalPairs (pairTrees keys values X.env pos)) (fun vs s' => ∃ ps H', Inv X pins σ H' s' ∧ VV ps vs ∧ Q ps H') X.xe s
  ) := ⟨PPs.run⟩
theorem pps_nil {X : Cx} {pos : Pos} : PPs X pos [] [] [] := .mk fun pins s σ H Q I h => pairTrees_nil_walk ⟨[], H, I, .nil, h⟩
theorem pps_cons {X : Cx} {pos : Pos} {k v : Expr} {ks : List (Option Expr)} {vs : List Expr} {tk tv : TE} {trs : List (TE × TE)} (hk : PE X k tk) (hv : PE X v tv) (hr : PPs X pos ks vs trs) :
    PPs X pos (some k :: ks) (v :: vs) ((tk, tv) :: trs) := .mk fun pins s σ H Q I h =>
  pairTrees_cons_walk (thn (hk pins s σ H _ I h) fun u s1 ⟨x, H1, I1, rx, q1⟩ => thn (hv pins s1 σ H1 _ I1 q1) fun w2 s2 ⟨y, H2, I2, ry, q2⟩ =>
    thn (hr pins s2 σ H2 _ I2 q2) fun ws s3 ⟨ps, H3, I3, rel, q3⟩ => ⟨(x, y) :: ps, H3, I3, .cons ⟨rx, ry⟩ rel, q3⟩)

def mergeK (kvs more : List (Key × V)) : List (Key × V) := more.foldl (fun acc kv => putK acc kv.1 kv.2) kvs
theorem KV.merge : ∀ {more : List (Key × V)} {rs : List (Key × Value)} {kvs : List (Key × V)} {vs : List (Key × Value)}, KV more rs → KV kvs vs → KV (mergeK kvs more) (merged vs rs) := by
  intro more rs kvs vs r
  unfold KV at r
  induction r generalizing kvs vs with
  | nil => intro q; exact q
  | @cons p q ps qs h t ih =>
    intro r0
    have e : KV (putK kvs p.1 p.2) (stored vs q.1 q.2) := by
      have := r0.put p.1 h.2
      rw [← h.1]; exact this
    exact ih e
theorem length_mergeK : ∀ (more kvs : List (Key × V)), (mergeK kvs more).length ≤ kvs.length + more.length
  | [], kvs => by show kvs.length ≤ kvs.length + 0; omega
  | p :: r, kvs => by
    have h1 := length_mergeK r (putK kvs p.1 p.2)
    have h2 := length_putK kvs p.1 p.2
    show (mergeK (putK kvs p.1 p.2) r).length ≤ _
    rw [List.length_cons]; omega
theorem carries_of {P : Program} {w : World} : ∀ {kvs : List (Key × V)} {ws : List (Value × Value)}, VV (kvs.map fun kv => (kV kv.1, kv.2)) ws → ∃ rs, Carries (mixKind P w) ws rs ∧ KV kvs rs
  | [], _, r => by rw [List.map_nil] at r; cases r; exact ⟨[], True.intro, .nil⟩
  | p :: kvs, _, r => by
    rw [List.map_cons] at r
    cases r with
    | @cons a b as bs h t =>
      obtain ⟨rs, c, q⟩ := carries_of (P := P) (w := w) t
      obtain ⟨b1, b2⟩ := b
      exact ⟨(p.1, b2) :: rs, ⟨kV_is h.1, rfl, c⟩, .cons ⟨rfl, h.2⟩ q⟩
/-- {k: v, ..} with keys ints and texts; the new dict stands empty while the pairs are made -/
def tDisp (trs : List (TE × TE)) : TE := fun σ H Q => ∀ p, H p = none → tPairs trs σ (upd H p (.dK [])) fun ps H2 => H2 p = some (.dK []) ∧ ∃ kvs : List (Key × V), ps = kvs.map (fun kv => (kV kv.1, kv.2)) ∧ kvs.length ≤ 15 ∧ Q (.ref p) (upd H2 p (.dK (mergeK [] kvs)))
theorem pe_disp {X : Cx} {pos : Pos} {keys : List (Option Expr)} {values : List Expr} {trs : List (TE × TE)} (h : PPs X pos keys values trs) (hall : keys.all (·.isSome) = true) (hl : keys.length = values.length) (h0 : keys ≠ [])
    (h15 : keys.length ≤ 15) : PE X (.Dict keys values pos) (tDisp trs) := by
  (first | constructor | skip)
  intro pins s σ H Q I q
  have hn := I.hok.fresh (Nat.le_refl s.heap.objs.size)
  have I1 := I.laid (a := s.heap.objs.size) (o := .dK []) (h' := s.heap.push { cls := .type "dict", data := .dict #[] }) (t' := s.toks) (fun _ _ q => Heap.get?_push_of_some _ q) (Nat.le_refl _) (dk_empty s.heap I.big)
  refine wpAny_Dict_walk (knd := mixKind X.prog X.w) hall hl h0 h15 (thn (h pins _ σ _ _ I1 (q _ hn)) fun ws s2 ⟨ps, H2, I2, rel, e, kvs, ep, lk, q2⟩ => ?_)
  subst ep
  obtain ⟨rs, c, rk⟩ := carries_of (P := X.prog) (w := X.w) rel
  obtain ⟨z, hd, vs0, r0, dd⟩ := dk_of I2.hok e
  cases r0
  refine ⟨rs, c, dd, fun h' dd' hs => ⟨.ref s.heap.objs.size, _, ?_, rfl, q2⟩⟩
  have hz : (mergeK [] kvs).length ≤ sizeLine := by
    have h1 := length_mergeK kvs []
    rw [List.length_nil] at h1
    rw [sizeLine_eq]; omega
  have he : ∃ q, h'.get? s.heap.objs.size = some q := let ⟨q, _, _, hq, _⟩ := dd'; ⟨q, hq⟩
  exact d_write I2 (by rw [e]; exact True.intro) hs he (dk_new hz hd (rk.merge .nil) dd')


/-! ### methods -/
/-- a method call o.m(e) of a built-in, with one argument: what must be seen of the text -/
structure M1 (X : Cx) (o : Expr) (m : Str) (apos : Pos) (e : Expr) (cpos : Pos) : Prop where
  base : attributeBase o m X.env (eval o X.env) = eval o X.env
  few : ((backTo cpos (starEach [e] X.env)).all (fun x => !x.1) && (backToKw cpos (keywordEach [] X.env)).all (fun x => x.1.isSome)
    && decide (([e] : List Expr).length + ([] : List Keyword).length + (if ([] : List Keyword).isEmpty then 0 else 1) < 30)) = true
  line : (apos.endLine == cpos.line) = true
  trees : backTo cpos (starEach [e] X.env) = [(false, eval e X.env)]
structure M2 (X : Cx) (o : Expr) (m : Str) (apos : Pos) (e f : Expr) (cpos : Pos) : Prop where
  base : attributeBase o m X.env (eval o X.env) = eval o X.env
  few : ((backTo cpos (starEach [e, f] X.env)).all (fun x => !x.1) && (backToKw cpos (keywordEach [] X.env)).all (fun x => x.1.isSome)
    && decide (([e, f] : List Expr).length + ([] : List Keyword).length + (if ([] : List Keyword).isEmpty then 0 else 1) < 30)) = true
  line : (apos.endLine == cpos.line) = true
  trees : backTo cpos (starEach [e, f] X.env) = [(false, eval e X.env), (false, eval f X.env)]

/-- a is a dict, whatever its keys -/
def IsD (H : Hp) (a : Addr) : Prop := (∃ kvs, Rd H a (.dK kvs)) ∨ ∃ kvs, Rd H a (.dT kvs)
theorem isD_at {X : Cx} {pins : List (Addr × Obj)} {σ : St} {H : Hp} {s : Shared} {a : Addr} (I : Inv X pins σ H s) (d : IsD H a) :
    s.TypeIs (.ref a) "dict" ∧ (∀ b, Value.ref a = .ref b → ∃ ob, s.heap.get? b = some ob ∧ ob.dict = none) ∧ (a == sysModules) = false := by
  rcases d with ⟨kvs, e⟩ | ⟨kvs, e⟩
  · obtain ⟨_, hd, vs, _, dd⟩ := dk_rd I.hok e
    refine ⟨dd.typeIs, fun b q => ?_, hd⟩
    cases q
    obtain ⟨ob, _, _, h1, h2, _⟩ := dd
    exact ⟨ob, h1, h2.2.1⟩
  · obtain ⟨_, hd, xs, _, dd⟩ := dt_rd I.hok e
    refine ⟨dd.typeIs, fun b q => ?_, hd⟩
    cases q
    obtain ⟨ob, _, _, h1, h2, _⟩ := dd
    exact ⟨ob, h1, h2.2.1⟩

section
variable {X : Cx} {pins : List (Addr × Obj)} {σ : St} {H : Hp} {s : Shared} {a : Addr} {y d : V} {u r : Value} {o : Option V} {A : Around} {E : Value → Shared → Prop}
/-- d.get(y) -/
theorem d_get1 {Q : Value → Shared → Prop} (hu : A.units + 1 < cLine) (I : Inv X pins σ H s) (g : DGet H a y o) (ry : RelV y u) (h : ∀ w' s', Inv X pins σ H s' → RelV (o.getD .non) w' → Q w' s') :
    wpAny (model X.prog X.w) A (call (.builtin "dict.get") [.ref a, u]) Q E s := by
  rcases g with ⟨kvs, k, e, ey, l⟩ | ⟨kvs, k, b, e, ey, eb, l⟩
  · subst ey
    obtain ⟨z, hd, vs, rel, dd⟩ := dk_rd I.hok e
    refine call_meetsIn PySem.F.slot_dict_get dd.typeIs PySem.F.entry_dict_get (PySem.F.args_dict_get_2 _ _) (meets_dict_get (mixKind X.prog X.w) a (kV_is ry) hd) ⟨_, dd.mapOf, h _ _ (I.tok _) ?_⟩
    rw [l]
    exact (rel.val k).getD rfl
  · subst ey
    cases (show u = Value.ref b from ry)
    obtain ⟨z, hd, xs, rel, dd⟩ := dt_rd I.hok e
    refine call_meetsIn PySem.F.slot_dict_get dd.typeIs PySem.F.entry_dict_get (PySem.F.args_dict_get_2 _ _) (meetsH_dict_get (tupleKind (mixKind X.prog X.w)) a b hd) ⟨tupleKind_room_in1 hu, k, xs, key_of I.hok eb, dd, h _ _ (I.tok _) ?_⟩
    rw [l]
    exact (rel.val k).getD rfl
/-- d.get(y, x) -/
theorem d_get2 {Q : Value → Shared → Prop} (hu : A.units + 1 < cLine) (I : Inv X pins σ H s) (g : DGet H a y o) (ry : RelV y u) (rd : RelV d r) (h : ∀ w' s', Inv X pins σ H s' → RelV (o.getD d) w' → Q w' s') :
    wpAny (model X.prog X.w) A (call (.builtin "dict.get") [.ref a, u, r]) Q E s := by
  rcases g with ⟨kvs, k, e, ey, l⟩ | ⟨kvs, k, b, e, ey, eb, l⟩
  · subst ey
    obtain ⟨z, hd, vs, rel, dd⟩ := dk_rd I.hok e
    refine call_meetsIn PySem.F.slot_dict_get dd.typeIs PySem.F.entry_dict_get (PySem.F.args_dict_get_3 _ _ _) (meets_dict_get_default (mixKind X.prog X.w) a (kV_is ry) hd r) ⟨_, dd.mapOf, h _ _ (I.tok _) ?_⟩
    rw [l]
    exact (rel.val k).getD rd
  · subst ey
    cases (show u = Value.ref b from ry)
    obtain ⟨z, hd, xs, rel, dd⟩ := dt_rd I.hok e
    refine call_meetsIn PySem.F.slot_dict_get dd.typeIs PySem.F.entry_dict_get (PySem.F.args_dict_get_3 _ _ _) (meetsH_dict_get_default (tupleKind (mixKind X.prog X.w)) a b hd r) ⟨tupleKind_room_in1 hu, k, xs, key_of I.hok eb, dd, h _ _ (I.tok _) ?_⟩
    rw [l]
    exact (rel.val k).getD rd
end

def tDGet1 (td ty : TE) : TE := fun σ H Q => td σ H fun x H1 => ∃ a, x = .ref a ∧ IsD H1 a ∧ ty σ H1 fun y H2 => ∃ o, DGet H2 a y o ∧ Q (o.getD .non) H2
def tDGet2 (td ty tx : TE) : TE := fun σ H Q => td σ H fun x H1 => ∃ a, x = .ref a ∧ IsD H1 a ∧ ty σ H1 fun y H2 => tx σ H2 fun z H3 => ∃ o, DGet H3 a y o ∧ Q (o.getD z) H3
/-- d.pop(k): there; d.pop(k, x): there or not -/
def tDPop1 (td ty : TE) : TE := fun σ H Q => td σ H fun x H1 => ∃ a, x = .ref a ∧ IsD H1 a ∧ ty σ H1 fun y H2 => ∃ kvs k v, H2 a = some (.dK kvs) ∧ y = kV k ∧ valV kvs k = some v ∧ Q v (upd H2 a (.dK (dropK kvs k)))
def tDPop2 (td ty tx : TE) : TE := fun σ H Q => td σ H fun x H1 => ∃ a, x = .ref a ∧ IsD H1 a ∧ ty σ H1 fun y H2 => tx σ H2 fun z H3 => ∃ kvs k, H3 a = some (.dK kvs) ∧ y = kV k ∧
  (∀ v, valV kvs k = some v → Q v (upd H3 a (.dK (dropK kvs k)))) ∧ (valV kvs k = none → Q z H3)
section
variable {X : Cx} {o e f : Expr} {apos cpos : Pos} {td ty tx : TE}
theorem pe_dget1 (hu : X.A.units + 1 < cLine) (ho : PE X o td) (he : PE X e ty) (m : M1 X o "get" apos e cpos) : PE X (.Call (.Attribute o "get" apos) [e] [] cpos) (tDGet1 td ty) := by
  (first | constructor | skip)
  intro pins s σ H Q I h
  refine wpAny_Call_method m.base m.few m.line PySem.F.plainAttrs_dict PySem.F.slot_dict_get PySem.F.type_dict_get (thn (ho pins s σ H _ I h) fun u s1 ⟨x, H1, I1, rx, a, ex, d, q1⟩ => ?_)
  subst ex
  obtain rfl : u = Value.ref a := rx
  obtain ⟨t1, t2, _⟩ := isD_at I1 d
  refine ⟨t1, t2, ?_⟩
  rw [m.trees]
  refine Calls.callWith_builtin rfl (Calls.evalArgs_plain (Calls.spliced_cons (thn (he pins s1 σ H1 _ I1 q1) fun iv s2 ⟨y, H2, I2, ry, ov, g, q2⟩ => Calls.spliced_nil ?_)))
  exact d_get1 hu I2 g ry fun w' s3 I3 rw' => ⟨_, H2, I3, rw', q2⟩
theorem pe_dget2 (hu : X.A.units + 1 < cLine) (ho : PE X o td) (he : PE X e ty) (hf : PE X f tx) (m : M2 X o "get" apos e f cpos) : PE X (.Call (.Attribute o "get" apos) [e, f] [] cpos) (tDGet2 td ty tx) := by
  (first | constructor | skip)
  intro pins s σ H Q I h
  refine wpAny_Call_method m.base m.few m.line PySem.F.plainAttrs_dict PySem.F.slot_dict_get PySem.F.type_dict_get (thn (ho pins s σ H _ I h) fun u s1 ⟨x, H1, I1, rx, a, ex, d, q1⟩ => ?_)
  subst ex
  obtain rfl : u = Value.ref a := rx
  obtain ⟨t1, t2, _⟩ := isD_at I1 d
  refine ⟨t1, t2, ?_⟩
  rw [m.trees]
  refine Calls.callWith_builtin rfl (Calls.evalArgs_plain (Calls.spliced_cons (thn (he pins s1 σ H1 _ I1 q1) fun iv s2 ⟨y, H2, I2, ry, q2⟩ =>
    Calls.spliced_cons (thn (hf pins s2 σ H2 _ I2 q2) fun fv s3 ⟨z, H3, I3, rz, ov, g, q3⟩ => Calls.spliced_nil ?_))))
  exact d_get2 hu I3 g ry rz fun w' s4 I4 rw' => ⟨_, H3, I4, rw', q3⟩
theorem pe_dpop1 (ho : PE X o td) (he : PE X e ty) (m : M1 X o "pop" apos e cpos) : PE X (.Call (.Attribute o "pop" apos) [e] [] cpos) (tDPop1 td ty) := by
  (first | constructor | skip)
  intro pins s σ H Q I h
  refine wpAny_Call_method m.base m.few m.line PySem.F.plainAttrs_dict PySem.F.slot_dict_pop PySem.F.type_dict_pop (thn (ho pins s σ H _ I h) fun u s1 ⟨x, H1, I1, rx, a, ex, d, q1⟩ => ?_)
  subst ex
  obtain rfl : u = Value.ref a := rx
  obtain ⟨t1, t2, _⟩ := isD_at I1 d
  refine ⟨t1, t2, ?_⟩
  rw [m.trees]
  refine Calls.callWith_builtin rfl (Calls.evalArgs_plain (Calls.spliced_cons (thn (he pins s1 σ H1 _ I1 q1) fun iv s2 ⟨y, H2, I2, ry, kvs, k, v, ea, ey, l, q2⟩ => Calls.spliced_nil ?_)))
  subst ey
  exact d_pop I2 ea ry l (.inl rfl) fun w' s3 I3 rw' => ⟨v, _, I3, rw', q2⟩
theorem pe_dpop2 (ho : PE X o td) (he : PE X e ty) (hf : PE X f tx) (m : M2 X o "pop" apos e f cpos) : PE X (.Call (.Attribute o "pop" apos) [e, f] [] cpos) (tDPop2 td ty tx) := by
  (first | constructor | skip)
  intro pins s σ H Q I h
  refine wpAny_Call_method m.base m.few m.line PySem.F.plainAttrs_dict PySem.F.slot_dict_pop PySem.F.type_dict_pop (thn (ho pins s σ H _ I h) fun u s1 ⟨x, H1, I1, rx, a, ex, d, q1⟩ => ?_)
  subst ex
  obtain rfl : u = Value.ref a := rx
  obtain ⟨t1, t2, _⟩ := isD_at I1 d
  refine ⟨t1, t2, ?_⟩
  rw [m.trees]
  refine Calls.callWith_builtin rfl (Calls.evalArgs_plain (Calls.spliced_cons (thn (he pins s1 σ H1 _ I1 q1) fun iv s2 ⟨y, H2, I2, ry, q2⟩ =>
    Calls.spliced_cons (thn (hf pins s2 σ H2 _ I2 q2) fun fv s3 ⟨z, H3, I3, rz, kvs, k, ea, ey, q3, q4⟩ => Calls.spliced_nil ?_))))
  subst ey
  cases l : valV kvs k with
  | some v => exact d_pop I3 ea ry l (.inr ⟨fv, rfl⟩) fun w' s4 I4 rw' => ⟨v, _, I4, rw', q3 v l⟩
  | none => exact d_popD I3 ea ry l fun s4 I4 => ⟨z, H3, I4, rz, q4 l⟩
end

/-! ### dict(d): a copy -/
section
variable {X : Cx} {pins : List (Addr × Obj)} {σ : St} {H : Hp} {s : Shared} {a : Addr} {kvs : List (Key × V)} {A : Around} {E : Value → Shared → Prop}
theorem d_copyOf {Q : Value → Shared → Prop} (I : Inv X pins σ H s) (e : Rd H a (.dK kvs)) (h : ∀ p s', H p = none → Inv X pins σ (upd H p (.dK kvs)) s' → Q (.ref p) s') : wpAny (model X.prog X.w) A (call (.type "dict") [.ref a]) Q E s := by
  obtain ⟨z, hd, vs, rel, dd⟩ := dk_rd I.hok e
  refine kt_call_dict hd dd (by rw [← rel.length]; exact z) fun h' dd' hs => ?_
  refine h _ _ (I.hok.fresh (Nat.le_refl _)) (I.laid (a := s.heap.objs.size) (o := .dK kvs) (t' := s.toks) (fun b q hq => ?_) (Nat.le_refl _) (dk_new z (beq_eq_false_iff_ne.mpr (Ne.symm (Nat.ne_of_lt I.big))) rel dd'))
  exact (hs.2 b (Nat.ne_of_lt (Heap.lt_size hq))).trans (Heap.get?_push_of_some _ hq)
end


section
variable {X : Cx} {pins : List (Addr × Obj)} {σ : St} {H : Hp} {s : Shared} {a : Addr} {y : V} {u : Value} {A : Around} {E : Value → Shared → Prop}
/-- d[y], not there: a KeyError -/
theorem d_missing {Q : Value → Shared → Prop} (hu : A.units + 1 < cLine) (hh : A.handled = none) (I : Inv X pins σ H s) (g : DGet H a y none) (ry : RelV y u)
    (h : ∀ h' e t', Heap.NewExc s.heap h' e "KeyError" → E (.ref e) { s with heap := h', toks := t' }) : wpAny (model X.prog X.w) A (getItem (.ref a) u) Q E s := by
  rcases g with ⟨kvs, k, e, ey, l⟩ | ⟨kvs, k, b, e, ey, eb, l⟩
  · subst ey
    obtain ⟨z, hd, vs, rel, dd⟩ := dk_rd I.hok e
    have hn : valueAt vs k = none := RelO.none_of (by rw [l]; exact rel.val k)
    exact wpAny_getItem_missing_of (kV_is ry) hd hh dd.mapOf hn fun h' ex ne => h h' ex _ ne
  · subst ey
    cases (show u = Value.ref b from ry)
    obtain ⟨z, hd, xs, rel, dd⟩ := dt_rd I.hok e
    have hn : (atKey xs k).map (·.2) = none := RelO.none_of (by rw [l]; exact rel.val k)
    exact wpAny_getItem_missing_heap (tupleKind_room_in1 hu) (key_of I.hok eb) hd hh dd (Option.map_eq_none_iff.mp hn) fun h' ex ne => h h' ex _ ne
end
end L2

namespace Att
open PySem PySem.W PySem.Calls PyProof.Rows

/-! ### the script -/
theorem ints_of_wellAll {P : Params} {h : Heap} : ∀ (ns : List Int) (vs : List Value), WellAll P h vs (ns.map WData.int) → IntsAre vs ns := by
  intro ns
  induction ns with
  | nil =>
    intro vs w
    rw [List.map_nil] at w
    cases w
    exact .nil
  | cons n ns ih =>
    intro vs w
    rw [List.map_cons] at w
    cases w with
    | cons a b =>
      cases a
      exact .cons _ _ (ih _ b)

theorem script_of {l : OpenLaw} {n : Nat} (hn : l.most = some n) {P : Params} {h : Heap} {args : List WData} {vals : List Value}
    (hpre : l.row.toRowW.claim.pre args = true) (hwl : WellAll P h vals args) :
    ∃ a vs ns, vals = [Value.ref a] ∧ args = [WData.list (ns.map WData.int)] ∧ h.get? a = some { cls := .type "list", data := .seq vs.toArray } ∧ IntsAre vs ns ∧ ns.length ≤ n := by
  have hsh : WShape.hasAll [] args [.list .int] = true := (pre_splitW hpre).1
  have hc : l.pre.holds [] { args := args } = true := (pre_splitW hpre).2
  obtain ⟨d, r, rfl, h1, h2⟩ := hasAllW_cons hsh
  obtain rfl := hasAllW_nil h2
  obtain ⟨xs, rfl, h3⟩ := hasW_list h1
  obtain ⟨ns, rfl⟩ := items_int h3
  have hlen : ns.length ≤ n := by
    unfold OpenLaw.pre at hc
    have h4 : (WTm.not (.lt (.lit (.int (n : Int))) (.len (.arg 0)))).holds [] { args := [.list (ns.map .int)] } = true := by
      have h4 := (holds_andW hc).1
      rw [hn] at h4
      exact h4
    have h5 := condW_of h4 (w_not (w_lt w_lit (w_len_list (w_arg rfl))))
    rw [List.length_map] at h5
    refine Nat.le_of_not_lt fun q => ?_
    have q' : (n : Int) < ((ns.length : Nat) : Int) := by omega
    first
      | (rw [decide_eq_true q'] at h5; exact absurd h5 (by decide))
      | (simp at h5; omega)
  cases hwl with
  | cons w1 w2 =>
    cases w2
    cases w1 with
    | list ho hall => exact ⟨_, _, ns, rfl, rfl, ho, ints_of_wellAll ns _ hall, hlen⟩

theorem post_true (l : OpenLaw) (args : List WData) : l.row.toRowW.claim.post args (.bool true) args = true :=
  postW_of (r := l.row.toRowW) (X := (true == true))
    (show WShape.has [] (.bool true) .bool = true by first | rfl | decide | simp [WShape.has, WShape.arms, WShape.armsAll])
    (show (WTm.eq .res (.lit (.bool true))).value [] { args := args, res := some (.bool true), after := args } = some (.bool (true == true)) from w_eq_bool (w_res rfl) w_lit) rfl

/-! ### the attachment: holds_open's last premise (the goal 'hc' behind k_head) from a wpAny of the law's body -/
theorem attach {l : OpenLaw} {n : Nat} {q : Program} {loose : List Str} {XP : (Str → Option Value) → Heap → Prop} {YP : World → Heap → Prop} {d : DefRec} {x : Str}
    (hn : l.most = some n) (hdf : d.params.defaults = [])
    (hbind : ∀ pm cd doc v : Value, bindArgs (docDef d.name d.params d.body d.scope pm cd doc) ⟨[v], []⟩ = pure [(x, v)])
    (hx : d.scope.names.lookup x = some .local ∨ d.scope.names.lookup x = some .cell)
    (hk : d.scope.kind = .function) (hco : d.scope.isCoroutine = false) (hgen : d.scope.isGenerator = false)
    (body : ∀ (w : World) (s₀ s₁ s : Shared) (mg mb : Str → Option Value) (fa : Addr) (o : Obj) (pm cd doc : Value) (a : Addr) (vs : List Value) (ns : List Int),
      Ground q loose [] XP w s₀ mg mb s₁.heap → YP w s₁.heap →
      s₁.heap.get? fa = some o → o.data = .func (docDef d.name d.params d.body d.scope pm cd doc) → s₁.heap.CodeRec cd d.name → mg d.name = some (.ref fa) →
      s₁.heap.get? a = some { cls := .type "list", data := .seq vs.toArray } → IntsAre vs ns → ns.length ≤ n →
      s.gens = #[] → s.os = s₁.os →
      Fr s₁.heap s₁.heap.objs.size s.heap (bindL (envOfC d.name d.scope s₁.heap.objs.size fa cd).kindOf [(x, .ref a)] fun _ => none) →
      Cl s₁.heap.objs.size (cellsFrom (s₁.heap.objs.size + 1) d.scope.names []) s.heap (bindC (envOfC d.name d.scope s₁.heap.objs.size fa cd).kindOf [(x, .ref a)] fun _ => none) →
      wpAny (model l.prog w) (callerA.deeper (envOfC d.name d.scope s₁.heap.objs.size fa cd)) (execs d.body (envOfC d.name d.scope s₁.heap.objs.size fa cd))
        (fun f s' => f = .ret (.bool true) ∧ OldK s₁.heap s'.heap ∧ s'.os = s₁.os ∧ AllBare s'.gens) (fun _ _ => False) s) :
    WalkO q loose XP YP l.row.toRowW d [] (fun f vs => PySem.call f vs) := by
  intro w s₀ s₁ mg mb G Y fa o pm cd doc dV kV ho hd hcd hD hmg hg args vals as hpre hlay hrd hwl hlo
  obtain rfl : dV = .none := Dflts.none hD hdf
  obtain rfl : kV = .none := Dflts.noKw hD
  obtain ⟨a, vs, ns, rfl, rfl, hobj, hints, hlen⟩ := script_of hn hpre hwl
  refine enter_call ?_
  refine call_cells_ret (o := o) (by rw [depth_caller]; decide) ho (fd_plain hd) G.T.nolimit hcd (hbind pm cd doc (.ref a)) (fun y hy => ?_) (fun h₁ tk F X => ?_) hco hgen hk
  · obtain rfl : y = (x, Value.ref a) := List.mem_singleton.mp hy
    rcases hx with e | e
    · exact .inl e
    · exact .inr ⟨e, cellsFrom_some _ _ _ (.inl e)⟩
  · refine wpAny_mono (body w s₀ s₁ { s₁ with heap := h₁, toks := tk } mg mb fa o pm cd doc a vs ns G Y ho (fd_plain hd) hcd hmg hobj hints hlen hg rfl F X) (fun f s' hq => ?_) (fun _ _ hq => hq)
    obtain ⟨rfl, h2, h3, h4⟩ := hq
    exact ⟨.inl ⟨.bool true, .bool true, [], rfl, fun _ => rfl, .bool true, post_true l _, fun _ => ⟨List.Pairwise.nil, fun _ hm => (nomatch hm)⟩⟩, h2, h3, h4⟩

/-- the same from a codeAny of the CALL (for a layer whose function contracts speak of calls) -/
theorem attach_call {l : OpenLaw} {n : Nat} {q : Program} {loose : List Str} {XP : (Str → Option Value) → Heap → Prop} {YP : World → Heap → Prop} {d : DefRec}
    (hn : l.most = some n) (hdf : d.params.defaults = [])
    (call : ∀ (w : World) (s₀ s₁ : Shared) (mg mb : Str → Option Value) (fa : Addr) (o : Obj) (pm cd doc : Value) (a : Addr) (vs : List Value) (ns : List Int),
      Ground q loose [] XP w s₀ mg mb s₁.heap → YP w s₁.heap →
      s₁.heap.get? fa = some o → o.data = .func (docDef d.name d.params d.body d.scope pm cd doc) → s₁.heap.CodeRec cd d.name → mg d.name = some (.ref fa) →
      s₁.heap.get? a = some { cls := .type "list", data := .seq vs.toArray } → IntsAre vs ns → ns.length ≤ n → s₁.gens = #[] →
      codeAny (model l.prog w) callerA (.call (.ref fa) ⟨[.ref a], []⟩) (fun r s' => r = .ok (.ret (.bool true)) ∧ OldK s₁.heap s'.heap ∧ s'.os = s₁.os ∧ AllBare s'.gens) s₁) :
    WalkO q loose XP YP l.row.toRowW d [] (fun f vs => PySem.call f vs) := by
  intro w s₀ s₁ mg mb G Y fa o pm cd doc dV kV ho hd hcd hD hmg hg args vals as hpre hlay hrd hwl hlo
  obtain rfl : dV = .none := Dflts.none hD hdf
  obtain rfl : kV = .none := Dflts.noKw hD
  obtain ⟨a, vs, ns, rfl, rfl, hobj, hints, hlen⟩ := script_of hn hpre hwl
  refine enter_call (codeAny_mono (call w s₀ s₁ mg mb fa o pm cd doc a vs ns G Y ho (fd_plain hd) hcd hmg hobj hints hlen hg) fun r s' hq => ?_)
  obtain ⟨rfl, h2, h3, h4⟩ := hq
  exact ⟨.inl ⟨.bool true, .bool true, [], rfl, fun _ => rfl, .bool true, post_true l _, fun _ => ⟨List.Pairwise.nil, fun _ hm => (nomatch hm)⟩⟩, h2, h3, h4⟩

/-- the same where the top left finished generators (o_head chose holds_openN): nothing may have changed at all and no generator may be left -/
theorem attachN {l : OpenLaw} {n : Nat} {q : Program} {loose : List Str} {XP : (Str → Option Value) → Heap → Prop} {YP : World → Heap → Prop} {d : DefRec} {x : Str}
    (hn : l.most = some n) (hdf : d.params.defaults = [])
    (hbind : ∀ pm cd doc v : Value, bindArgs (docDef d.name d.params d.body d.scope pm cd doc) ⟨[v], []⟩ = pure [(x, v)])
    (hx : d.scope.names.lookup x = some .local ∨ d.scope.names.lookup x = some .cell)
    (hk : d.scope.kind = .function) (hco : d.scope.isCoroutine = false) (hgen : d.scope.isGenerator = false)
    (body : ∀ (w : World) (s₀ s₁ s : Shared) (mg mb : Str → Option Value) (fa : Addr) (o : Obj) (pm cd doc : Value) (a : Addr) (vs : List Value) (ns : List Int),
      Ground q loose [] XP w s₀ mg mb s₁.heap → YP w s₁.heap →
      s₁.heap.get? fa = some o → o.data = .func (docDef d.name d.params d.body d.scope pm cd doc) → s₁.heap.CodeRec cd d.name → mg d.name = some (.ref fa) →
      s₁.heap.get? a = some { cls := .type "list", data := .seq vs.toArray } → IntsAre vs ns → ns.length ≤ n →
      s.gens = #[] → s.os = s₁.os →
      Fr s₁.heap s₁.heap.objs.size s.heap (bindL (envOfC d.name d.scope s₁.heap.objs.size fa cd).kindOf [(x, .ref a)] fun _ => none) →
      Cl s₁.heap.objs.size (cellsFrom (s₁.heap.objs.size + 1) d.scope.names []) s.heap (bindC (envOfC d.name d.scope s₁.heap.objs.size fa cd).kindOf [(x, .ref a)] fun _ => none) →
      wpAny (model l.prog w) (callerA.deeper (envOfC d.name d.scope s₁.heap.objs.size fa cd)) (execs d.body (envOfC d.name d.scope s₁.heap.objs.size fa cd))
        (fun f s' => f = .ret (.bool true) ∧ (∀ b o, s₁.heap.get? b = some o → s'.heap.get? b = some o) ∧ s'.os = s₁.os ∧ s'.gens = #[]) (fun _ _ => False) s) :
    WalkN q loose XP YP l.row.toRowW d [] (fun f vs => PySem.call f vs) := by
  intro w s₀ s₁ mg mb G Y fa o pm cd doc dV kV ho hd hcd hD hmg hg args vals as hpre hlay hrd hwl hlo
  obtain rfl : dV = .none := Dflts.none hD hdf
  obtain rfl : kV = .none := Dflts.noKw hD
  obtain ⟨a, vs, ns, rfl, rfl, hobj, hints, hlen⟩ := script_of hn hpre hwl
  refine enter_callW ?_
  refine call_cells_ret (o := o) (by rw [depth_caller]; decide) ho (fd_plain hd) G.T.nolimit hcd (hbind pm cd doc (.ref a)) (fun y hy => ?_) (fun h₁ tk F X => ?_) hco hgen hk
  · obtain rfl : y = (x, Value.ref a) := List.mem_singleton.mp hy
    rcases hx with e | e
    · exact .inl e
    · exact .inr ⟨e, cellsFrom_some _ _ _ (.inl e)⟩
  · refine wpAny_mono (body w s₀ s₁ { s₁ with heap := h₁, toks := tk } mg mb fa o pm cd doc a vs ns G Y ho (fd_plain hd) hcd hmg hobj hints hlen hg rfl F X) (fun f s' hq => ?_) (fun _ _ hq => hq)
    obtain ⟨rfl, h2, h3, h4⟩ := hq
    exact ⟨.inl ⟨.bool true, .bool true, [], rfl, fun _ => rfl, .bool true, post_true l _, fun _ => ⟨List.Pairwise.nil, fun _ hm => (nomatch hm)⟩⟩, h2, h3, h4⟩

/-! ### rules over ANY heap (no ledger) from facts about the written part K: the library's own take a ledger (News) for what they write -/
section
variable {prog : Program} {w : World} {A : Around} {E : Value → Shared → Prop} {s : Shared} {K : Frag}

/-- a def of the module, or a method (qual 'C.m'), entered: the frame is the next address; cells behind it -/
theorem call_fn {R : Result → Shared → Prop} {name qual : Str} {params : Arguments} {body : List Stmt} {scope : Scope} {dV kV doc pm cdv ct oc : Value} {an od : Option Addr} {osl : Array (Option Value)} {f : Addr} {args : Args} {binds : List (Str × Value)}
    (X : K.In s.heap) (hlim : s.heap.NoLimit) (ho : K.lookup f = some ⟨oc, od, .func (fnOf name qual params body scope dV kV doc pm an cdv ct), osl⟩) (hcd : codeIn K cdv qual = true) (hroom : A.depth < recursionLimit)
    (hbind : BindsTo s (fnOf name qual params body scope dV kV doc pm an cdv ct) args binds)
    (hkind : (binds.all fun y => scope.names.lookup y.1 == some .local || scope.names.lookup y.1 == some .cell) = true)
    (h : ∀ s₁, InCallC s s.heap.objs.size (bindL (envOfC qual scope s.heap.objs.size f cdv).kindOf binds fun _ => none) (cellsFrom (s.heap.objs.size + 1) scope.names [])
        (bindC (envOfC qual scope s.heap.objs.size f cdv).kindOf binds fun _ => none) s₁ →
      wpAny (model prog w) (A.deeper (envOfC qual scope s.heap.objs.size f cdv)) (execs body (envOfC qual scope s.heap.objs.size f cdv))
        (fun fl s' => R (.ok (.ret (match fl with | .ret v => v | _ => .none))) s')
        (fun e s' => wpAny (model prog w) (A.deeper (envOfC qual scope s.heap.objs.size f cdv)) (leaving (envOfC qual scope s.heap.objs.size f cdv) e) (fun _ s'' => R (.error e) s'') (fun e' s'' => R (.error e') s'') s') s₁)
    (hco : scope.isCoroutine = false) (hgen : scope.isGenerator = false) (hk : scope.kind = .function) : codeAny (model prog w) A (.call (.ref f) args) R s := by
  refine codeAny_call_function hroom (X _ _ ho) rfl hco hgen rfl (codeRec_of X hcd) (hbind _ _ _ _ ?_)
  refine wpAny_newFunctionEnv_cells hk (kindsX hkind _) fun env he s₁ x => ?_
  subst he
  exact ⟨hlim.keeps x.toInCall.keep, codeAny_func (h s₁ x)⟩

/-- C(..): dict at size, instance at size + 1, then __init__ -/
theorem make_obj {R : Result → Shared → Prop} {C fI : Addr} {rest : List Value} {kw : List (Str × Value)}
    (X : K.In s.heap) (hm : makesIn K C = true) (hi : findIn K (.ref C) "__init__" = some (some (.ref fI))) (hf : isFn K (.ref fI) = true)
    (h : codeAny (model prog w) (A.under (.builtin "type.__call__" ⟨.ref C :: rest, kw⟩)) (.call (.ref fI) ⟨.ref (s.heap.objs.size + 1) :: rest, kw⟩) (InitBack (s.heap.objs.size + 1) R)
      { s with heap := (s.heap.push emptyDict).push (instObj C s.heap.objs.size) }) : codeAny (model prog w) A (.call (.ref C) ⟨rest, kw⟩) R s := by
  obtain ⟨hh, g, d, t, os⟩ := s
  exact make_core (makes_of X hm) (looks_findIn X hi) (fun self => bind_fn X self (beq_iff_eq.mp hf)) (.inl rfl) h

/-- x.name where the instance's dict holds the name and the class does not -/
theorem get_field {x C : Addr} {ox : Obj} {es : List DictEntry} {n : Nat} {name : Str} {expr : Bool} {v : Value} {Q : Value → Shared → Prop}
    (X : K.In s.heap) (I : PySem.W.InstAt s.heap x ox C (some (dictOf es n))) (hg : plainGet K C name = true) (hh : hasDictIn K C = true) (ha : findIn K (.ref C) name = some none)
    (hl : getL name es = some (some v)) (hv : handedIn v = true) (h : Q v { s with toks := s.toks + 1 }) : wpAny (model prog w) A (getAttr (.ref x) name expr) Q E s :=
  get_value X I (plainGet_of hg).1 (findObj_own hh ha rfl hl) hv h

/-- x.m(..): the method found in the class -/
theorem get_method {x C f : Addr} {ox : Obj} {es : List DictEntry} {n : Nat} {name : Str} {pl : Sem Bool} {Q : Value × List Value → Shared → Prop}
    (X : K.In s.heap) (I : PySem.W.InstAt s.heap x ox C (some (dictOf es n))) (hg : plainGet K C name = true) (hf : findIn K (.ref C) name = some (some (.ref f))) (ht : isFn K (.ref f) = true)
    (hl : getL name es = some none) (h : Q (.ref f, [.ref x]) s) : wpAny (model prog w) A (getMethod (.ref x) name pl) Q E s :=
  method_fn X I (plainGet_of hg).1 (plainGet_of hg).2 hf (beq_iff_eq.mp ht) (by show (lookIn name (dictOf es n)).map _ = _; rw [lookIn_dict, hl]; rfl) h

/-! the whole heap as the ledger: makes every rule that writes through a ledger a rule over any heap -/
def noObjs (h : Heap) : Heap := { h with objs := #[] }
theorem noObjs_get (h : Heap) (b : Addr) : (noObjs h).get? b = none := by
  cases e : (noObjs h).get? b with
  | none => rfl
  | some o => exact absurd (Heap.lt_size e) (Nat.not_lt_zero _)
def ledger (h : Heap) (L d : Addr) : List (Addr × Obj) := (List.range h.objs.size).filterMap fun a => if a = L ∨ a = d then none else (h.get? a).map fun o => (a, o)
theorem mem_ledger {h : Heap} {L d a : Addr} {o : Obj} : (a, o) ∈ ledger h L d ↔ a ≠ L ∧ a ≠ d ∧ h.get? a = some o := by
  unfold ledger
  rw [List.mem_filterMap]
  constructor
  · rintro ⟨b, _, e⟩
    split at e
    · cases e
    · rename_i hb
      obtain ⟨o', ho, e'⟩ := Option.map_eq_some_iff.mp e
      cases e'
      exact ⟨fun q => hb (.inl q), fun q => hb (.inr q), ho⟩
  · rintro ⟨n1, n2, ho⟩
    refine ⟨a, List.mem_range.mpr (Heap.lt_size ho), ?_⟩
    rw [if_neg (show ¬ (a = L ∨ a = d) from fun q => q.elim n1 n2), ho] <;> rfl
theorem news_ledger {h : Heap} {L d : Addr} {od : Obj} (hne : d ≠ L) (ho : h.get? d = some od) : News (noObjs h) L h ([] ++ (d, od) :: ledger h L d) := by
  rintro ⟨a, o⟩ hp
  rcases List.mem_cons.mp hp with e | hp
  · cases e
    exact ⟨ho, hne, noObjs_get _ _⟩
  · obtain ⟨n1, n2, e⟩ := mem_ledger.mp hp
    exact ⟨e, n1, noObjs_get _ _⟩
theorem fr_all {h : Heap} {L : Addr} {m : Str → Option Value} (n : h.Ns L m) : Fr (noObjs h) L h m :=
  ⟨n, fun b o e => (by rw [noObjs_get] at e; cases e), Nat.zero_le _⟩
/-- Upd of the head entry (for append_K, setItem_K ..) -/
theorem upd_ledger {h : Heap} {L d : Addr} {o o' : Obj} : Upd d o o' ((d, o) :: ledger h L d) ((d, o') :: ledger h L d) :=
  .head fun ⟨_, _⟩ hp => (mem_ledger.mp hp).2.1

/-- x.name = v over any heap: L is any namespace of the heap (the frame's, say): its map stays, its object is not told; all else but the dict stays -/
theorem set_field {x C dx L : Addr} {ox : Obj} {m : Str → Option Value} {es es' : List DictEntry} {n n' : Nat} {name : Str} {v : Value} {Q : Unit → Shared → Prop}
    (X : K.In s.heap) (I : PySem.W.InstAt s.heap x ox C (some (dictOf es n))) (hd : ox.dict = some dx) (hL : s.heap.Ns L m) (hne : dx ≠ L)
    (hs : findIn K (.ref C) "__setattr__" = some (some (.builtin "object.__setattr__"))) (hp : plainOver K C = true) (ht : takerIn K C name = some none) (hh : hasDictIn K C = true) (hl : (getL name es).isSome = true)
    (e : (putL name (PyData.keyHash w.params name) (.str name (s.toks + 1)) v es, putN name es n) = (es', n')) (hz : es'.length ≤ 1000)
    (h : ∀ h' : Heap, h'.Ns L m → h'.get? dx = some (dictOf es' n') → (∀ b o, b ≠ dx → b ≠ L → s.heap.get? b = some o → h'.get? b = some o) → Q () { s with heap := h', toks := s.toks + 2 }) :
    wpAny (model prog w) A (setAttr (.ref x) name v) Q E s := by
  obtain ⟨e1, e2⟩ := Prod.mk.inj e
  have hdx : s.heap.get? dx = some (dictOf es n) := by
    have := I.dict
    rw [hd] at this
    exact this
  refine set_plain X I hs (osa_dict (s := { s with toks := s.toks + 1 }) (h₀ := noObjs s.heap) (L := L) (m := m) (od := dictOf es n) (od' := dictOf es' n') (es := es') (n := n') (pre := []) (post := ledger s.heap L dx)
    (fr_all hL) (news_ledger hne hdx) X I hd hp ht hh hl (fun _ q => nomatch q) (fun ⟨_, _⟩ q => (mem_ledger.mp q).2.1) (by rw [putName_dict, e1, e2]) rfl hz fun h' F' N' => ?_)
  exact h h' F'.ns (N'.get (List.Mem.head _)) fun b o n1 n2 ho => N'.get (List.Mem.tail _ (mem_ledger.mpr ⟨n2, n1, ho⟩))
end
end Att

namespace L2
open PySem PySem.Spec PyProof.Rows

theorem vals_ints : ∀ {vs : List Value} {ns : List Int}, IntsAre vs ns → Vals (ns.map V.int) vs
  | _, _, .nil => .nil
  | _, _, .cons n t h => .cons ⟨t, rfl⟩ (vals_ints h)

/-- nothing is tracked but the script, known to the object (or it is an object of the module) -/
def Only (H : Hp) : Prop := ∀ b, H b = none ∨ ∃ o xs, H b = some (.frz o (.lst xs))

/-- THE HEAD: the law's promise, at the heap behind the top. F, the promise of the law's def, may use that base is part of the heap (so K.In base, base.Ns mainGlobals mg stand in Mod) -/
theorem law_call {P : Program} {w : World} {K : PySem.W.Frag} {mg mb : Str → Option Value} {CX : CXT} {k : Nat} {fa a : Addr} {fd : FuncData} {x : Str} {sp : Sp} {s₁ : Shared} {vs : List Value} {ns : List Int}
    (KX : K.In s₁.heap) (hns : s₁.heap.Ns mainGlobals mg) (hb : s₁.heap.Ns builtinsNs mb) (hbb : ∀ x : Str, x ≠ "__name__" → mb x = bootBuiltins x) (hlim : s₁.heap.NoLimit) (hg : s₁.gens = #[])
    (ha : s₁.heap.get? a = some { cls := .type "list", data := .seq vs.toArray }) (hi : IntsAre vs ns) (hl : ns.length ≤ sizeLine) (hr : Room k callerA)
    (F : ∀ base : Heap, K.In base → base.Ns mainGlobals mg → FnOk P w K mg base CX k fa fd [x] sp) (hbind : ∀ (s : Shared) (u : Value), BindsTo s fd ⟨[u], []⟩ [(x, u)])
    (hsp : ∀ H : Hp, Only H → SqL K H a (ns.map V.int) → sp [.ref a] H (fun v _ => v = .bl true) fun _ _ _ => False)
    (hCX : ∀ H e s', CX [] H s₁ (fun _ _ _ => False) e s' → False) :
    codeAny (model P w) callerA (.call (.ref fa) ⟨[.ref a], []⟩) (fun r s' => r = .ok (.ret (.bool true)) ∧ OldK s₁.heap s'.heap ∧ s'.os = s₁.os ∧ AllBare s'.gens) s₁ := by
  have rv := vals_ints hi
  have lenV := hi.length
  -- from an abstract heap in which nothing but the script may be tracked
  have core : ∀ H : Hp, Only H → SqL K H a (ns.map V.int) → HOk P w H s₁.heap → (∀ b, H b ≠ none → b = a) → (H a ≠ none → K.lookup a = none) →
      codeAny (model P w) callerA (.call (.ref fa) ⟨[.ref a], []⟩) (fun r s' => r = .ok (.ret (.bool true)) ∧ OldK s₁.heap s'.heap ∧ s'.os = s₁.os ∧ AllBare s'.gens) s₁ := by
    intro H hO hS hok hA hK
    have base_of : ∀ {b : Addr} {o : Obj}, s₁.heap.get? b = some o → H b = none → (hidT s₁.heap H).get? b = some o := fun e n => hidT_get e n
    have noA : ∀ {b : Addr} {o : Obj} {es : Array DictEntry} {ep : Nat}, s₁.heap.get? b = some o → o.data = .dict es ep → H b = none := fun {b o es ep} e d => by
      cases q : H b with
      | none => rfl
      | some u =>
        have e' : b = a := hA b (by rw [q]; simp)
        subst e'
        rw [ha] at e; cases e
        have d' : Data.seq vs.toArray _ = Data.dict es ep := d
        cases d'
    have nsK : ∀ {b : Addr} {m : Str → Option Value}, s₁.heap.Ns b m → (hidT s₁.heap H).Ns b m := fun {b m} ⟨o, es, ep, e, d, r⟩ => ⟨o, es, ep, base_of e (noA e d), d, r⟩
    have hKb : K.In (hidT s₁.heap H) := fun b o e => base_of (KX b o e) (by
      cases q : H b with
      | none => rfl
      | some u =>
        have e' : b = a := hA b (by rw [q]; simp)
        subst e'
        rw [hK (by rw [q]; simp)] at e; cases e)
    have hM : Mod K mg (hidT s₁.heap H) := ⟨hKb, nsK hns, ⟨mb, nsK hb, hbb⟩, let ⟨mc, h1, h2⟩ := hlim; ⟨mc, nsK h1, h2⟩⟩
    have e0 : Env0 P w K mg (hidT s₁.heap H) callerA [] s₁ H := ⟨rfl, hM, fun b o e => of_hidT e, Nat.le_of_eq (hidT_size _ _), trivial, fun b hb => absurd (show b ∈ ([] : List Addr) from hb) (by simp), hok, .of_eq hg⟩
    refine codeAny_mono ((F _ hKb (nsK hns)).run callerA [] s₁ H ⟨[.ref a], []⟩ [.ref a] [.ref a] _ _ hr e0 (hbind s₁ (.ref a)) (.cons rfl .nil) (hsp H hO hS)) fun r s' h => ?_
    cases r with
    | error e => exact (hCX H e s' h).elim
    | ok fl =>
      cases fl with
      | next => exact False.elim h
      | brk => exact False.elim h
      | cont => exact False.elim h
      | ret u =>
        obtain ⟨v, H', os, bare, un, hok', r', q⟩ := h
        have q' : v = .bl true := q
        subst q'
        obtain rfl : u = Value.bool true := r'
        refine ⟨rfl, OldK.of_keep fun b o e => ?_, os, bare⟩
        cases q : H b with
        | none => exact un.keep b o e q (by intro z; exact absurd (show b ∈ ([] : List Addr) from z) (by simp)) (by simp)
        | some u =>
          rcases hO b with z | ⟨ob, xs, z⟩
          · rw [q] at z; cases z
          · have z2 := un.frzs b ob _ z
            obtain ⟨e1, _⟩ := hok b _ z
            obtain ⟨e2, _⟩ := hok' b _ z2
            rw [e] at e1; cases e1
            exact e2
  cases hk : K.lookup a with
  | some o =>
    -- the script is one of the module's own objects
    have e := KX a o hk
    rw [ha] at e
    cases e
    refine core (fun _ => none) (fun _ => .inl rfl) (.inr ⟨_, vs.toArray, _, hk, rfl, rfl, rfl, by rw [List.size_toArray, lenV]; exact hl, by simpa using rv⟩) (fun b u z => by have z' : (none : Option HO) = some u := z; cases z') (fun b z => absurd rfl z) fun z => absurd rfl z
  | none =>
    refine core (fun b => if b = a then some (.frz { cls := .type "list", data := .seq vs.toArray } (.lst (ns.map V.int))) else none) (fun b => ?_) (.inl (.inr ⟨{ cls := .type "list", data := .seq vs.toArray }, if_pos rfl⟩)) (fun b u z => ?_) (fun b z => ?_) fun _ => hk
    · by_cases hb : b = a
      · exact .inr ⟨_, _, if_pos hb⟩
      · exact .inl (if_neg hb)
    · by_cases hb : b = a
      · have z' := (if_pos hb).symm.trans z
        cases z'
        subst hb
        exact ⟨ha, by rw [List.length_map]; exact hl, vs, _, rv, ha⟩
      · have z' := (if_neg hb).symm.trans z
        cases z'
    · by_cases hb : b = a
      · exact hb
      · exact absurd (if_neg hb) z
end L2

namespace L2
open PySem PySem.Spec PyProof.Rows

abbrev KOf {K : PySem.W.Frag} {h : Heap} (_ : K.In h) : PySem.W.Frag := K

/-- the goal that k_head leaves (case hc), from the law's promise. F gives the function object fd (K's own) once, then the promise over every base -/
theorem walk_of {l : PySem.W.OpenLaw} {n k : Nat} {q : Program} {loose : List Str} {XP : (Str → Option Value) → Heap → Prop} {YP : World → Heap → Prop} {d : DefRec} {K : Params → PySem.W.Frag} {CX : World → CXT} {sp : World → Sp} {x : Str}
    (hn : l.most = some n) (hn2 : n ≤ sizeLine) (hdf : d.params.defaults = []) (hr : Room k callerA)
    (hY : ∀ (w : World) (h : Heap), YP w h → (K w.params).In h)
    (F : ∀ (w : World) (mg : Str → Option Value) (fa : Addr) (h : Heap), (K w.params).In h → h.Ns mainGlobals mg → mg d.name = some (.ref fa) →
      ∃ fd : FuncData, (∀ (s : Shared) (u : Value), BindsTo s fd ⟨[u], []⟩ [(x, u)]) ∧
        ∀ base : Heap, (K w.params).In base → base.Ns mainGlobals mg → FnOk l.prog w (K w.params) mg base (CX w) k fa fd [x] (sp w))
    (hsp : ∀ (w : World) (H : Hp) (a : Addr) (ns : List Int), ns.length ≤ n → Only H → SqL (K w.params) H a (ns.map V.int) → sp w [.ref a] H (fun v _ => v = .bl true) fun _ _ _ => False)
    (hCX : ∀ (w : World) (H : Hp) (s : Shared) (e : Value) (s' : Shared), CX w [] H s (fun _ _ _ => False) e s' → False) :
    PySem.W.WalkO q loose XP YP l.row.toRowW d [] (fun f vs => PySem.call f vs) := by
  refine Att.attach_call hn hdf fun w s₀ s₁ mg mb fa o pm cd doc a vs ns G Y ho hd hcd hmg hobj hints hlen hg => ?_
  have KX := hY w _ Y
  obtain ⟨fd, hb, hF⟩ := F w mg fa _ KX G.T.g hmg
  exact law_call KX G.T.g G.T.b G.T.builtins G.T.nolimit hg hobj hints (Nat.le_trans hlen hn2) hr hF hb (fun H hO hS => hsp w H a ns hlen hO hS) fun H e s' => hCX w H s₁ e s'
/-- the same where the promise hangs on the written part alone: (sp := My.sp_law), no hole under a binder -/
theorem walk_ofK {l : PySem.W.OpenLaw} {n k : Nat} {q : Program} {loose : List Str} {XP : (Str → Option Value) → Heap → Prop} {YP : World → Heap → Prop} {d : DefRec} {K : Params → PySem.W.Frag} {CX : CXT} {sp : PySem.W.Frag → Sp} {x : Str}
    (hn : l.most = some n) (hn2 : n ≤ sizeLine) (hdf : d.params.defaults = []) (hr : Room k callerA)
    (hY : ∀ (w : World) (h : Heap), YP w h → (K w.params).In h)
    (F : ∀ (w : World) (mg : Str → Option Value) (fa : Addr) (h : Heap), (K w.params).In h → h.Ns mainGlobals mg → mg d.name = some (.ref fa) →
      ∃ fd : FuncData, (∀ (s : Shared) (u : Value), BindsTo s fd ⟨[u], []⟩ [(x, u)]) ∧
        ∀ base : Heap, (K w.params).In base → base.Ns mainGlobals mg → FnOk l.prog w (K w.params) mg base CX k fa fd [x] (sp (K w.params)))
    (hsp : ∀ (K : PySem.W.Frag) (H : Hp) (a : Addr) (ns : List Int), ns.length ≤ n → Only H → SqL K H a (ns.map V.int) → sp K [.ref a] H (fun v _ => v = .bl true) fun _ _ _ => False)
    (hCX : ∀ (H : Hp) (s : Shared) (e : Value) (s' : Shared), CX [] H s (fun _ _ _ => False) e s' → False) :
    PySem.W.WalkO q loose XP YP l.row.toRowW d [] (fun f vs => PySem.call f vs) :=
  walk_of (K := K) (CX := fun _ => CX) (sp := fun w => sp (K w.params)) hn hn2 hdf hr hY F (fun w H a ns h1 h2 h3 => hsp (K w.params) H a ns h1 h2 h3) fun _ H s e s' => hCX H s e s'
end L2



/-! SHORT WORDS over the layer: a def of the text, its body, what a loop and a test want. -/
namespace L2
open PySem PySem.Spec PyProof.Rows

/-! ### the text by places -/
/-- the j-th statement of a class's body -/
def inClass (s : Stmt) (j : Nat) : Stmt := match s with
  | .ClassDef _ _ _ body _ _ _ _ _ _ _ => body.getD j (.Pass ⟨0, 0, 0, 0⟩)
  | _ => .Pass ⟨0, 0, 0, 0⟩
def defArgs (s : Stmt) : Arguments := match s with
  | .FunctionDef _ a _ _ _ _ _ _ _ _ => a
  | _ => { posonlyargs := [], args := [], vararg := none, kwonlyargs := [], kw_defaults := [], kwarg := none, defaults := [] }
def defBody (s : Stmt) : List Stmt := match s with
  | .FunctionDef _ _ b _ _ _ _ _ _ _ => b
  | _ => []
def defScope (s : Stmt) : Scope := match s with
  | .FunctionDef _ _ _ _ _ _ sc _ _ _ => sc
  | _ => { kind := .function, names := [], isGenerator := false, isCoroutine := false }

/-! ### no exception leaves a def -/
abbrev CX0 : CXT := fun _ _ _ _ _ _ => False
abbrev E0 : XK := fun _ _ _ => False
theorem pass0 {X : Cx} : Passes CX0 X E0 := fun _ _ _ _ _ _ _ h => h.elim

/-! ### a def (or method) of the text as it stands behind the top -/
structure Fun (K : PySem.W.Frag) (x qual : Str) (st : Stmt) (f : Addr) (fd : FuncData) : Prop where
  ex : ∃ (oc : Value) (od : Option Addr) (kV doc pm : Value) (an : Option Addr) (cdv ct : Value) (osl : Array (Option Value)),
    fd = PySem.W.fnOf x qual (defArgs st) (defBody st) (defScope st) .none kV doc pm an cdv ct ∧ K.lookup f = some ⟨oc, od, .func fd, osl⟩ ∧ PySem.W.codeIn K cdv qual = true
  kp : PySem.W.keepIn K (.ref f) = true
section
variable {P : Program} {w : World} {K : PySem.W.Frag} {mg : Str → Option Value} {base : Heap}
/-- THE RULE for a def: its body as a term of rules, and the reading of that term -/
theorem Fun.ok {x qual : Str} {st : Stmt} {f : Addr} {fd : FuncData} {N ps : List Str} {k : Nat} {sp : Sp} (F : Fun K x qual st f fd) (S : FnScope N ps (defScope st)) (len : ∀ vs H Q E, sp vs H Q E → vs.length = ps.length)
    (hbody : ∀ (cdv : Value) (A : Around) (outer : List Env) (s : Shared) (H : Hp) (vs : List V) (Q : VK) (E : XK), Room k (A.deeper (envOfC qual (defScope st) s.heap.objs.size f cdv)) → sp vs H Q E →
      ∃ t, PSs (cxOf CX0 P w K mg base N qual (defScope st) f cdv A outer s H E).nox (defBody st) t ∧ t { nx := fun _ H' => Q .non H', rt := Q } (start N vs) H) : FnOk P w K mg base CX0 (k + 1) f fd ps sp := by
  obtain ⟨oc, od, kV, doc, pm, an, cdv, ct, osl, rfl, lk, hcd⟩ := F.ex
  refine fn_of lk hcd S len fun A outer s H vs Q E hr hsp => ?_
  obtain ⟨t, h, q⟩ := hbody cdv A outer s H vs Q E hr hsp
  exact ⟨t, h.nox, q⟩
/-- how its arguments bind (no defaults): h is «fun _ _ _ _ _ _ us hl => match us, hl with | [_, _], _ => rfl», one _ a parameter -/
theorem Fun.binds {x qual : Str} {st : Stmt} {f : Addr} {fd : FuncData} {ps : List Str} (F : Fun K x qual st f fd)
    (h : ∀ (kV doc pm : Value) (an : Option Addr) (cdv ct : Value) (us : List Value), us.length = ps.length → bindArgs (PySem.W.fnOf x qual (defArgs st) (defBody st) (defScope st) .none kV doc pm an cdv ct) ⟨us, []⟩ = pure (ps.zip us)) : Binds K fd ps [] := by
  obtain ⟨oc, od, kV, doc, pm, an, cdv, ct, osl, rfl, lk, hcd⟩ := F.ex
  exact .all (h kV doc pm an cdv ct)
theorem fun_mk {x qual : Str} {st : Stmt} {f : Addr} {oc : Value} {od an : Option Addr} {osl : Array (Option Value)} {kV doc pm cdv ct : Value} (l : K.lookup f = some ⟨oc, od, .func (PySem.W.fnOf x qual (defArgs st) (defBody st) (defScope st) .none kV doc pm an cdv ct), osl⟩)
    (c : PySem.W.codeIn K cdv qual = true) (k : PySem.W.keepIn K (.ref f) = true) : Fun K x qual st f (PySem.W.fnOf x qual (defArgs st) (defBody st) (defScope st) .none kV doc pm an cdv ct) := ⟨⟨oc, od, kV, doc, pm, an, cdv, ct, osl, rfl, l, c⟩, k⟩
end
theorem hu_of {A : Around} {k : Nat} (hr : Room k A) : A.units + 1 < cLine := Nat.lt_of_le_of_lt (Nat.add_le_add_left (by decide : 1 ≤ 64) _) hr.units
theorem small1000 {n : Nat} (h : n ≤ 1000) : n < sizeLine := Nat.lt_of_le_of_lt h (by decide)

/-! ### expressions in short: the name that stands in the i-th slot -/
section
variable {X : Cx}
theorem pv (i : Nat) {x : Str} {pos : Pos} (hN : X.N[i]? = some x := by rfl) (hv : Vis X.env.scope x := by first | exact Or.inl rfl | exact Or.inr (Or.inl rfl) | exact Or.inr (Or.inr rfl)) (hd : (x == ("__debug__" : Str)) = false := by decide)
    (hcd : (x == ("__classdict__" : Str)) = false := by decide) : PE X (.Name x pos) (tVar i) := pe_var hN hv hd hcd
end

/-! ### tests -/
theorem iteF {A B : Prop} (h : B) : if false = true then A else B := by
  rw [if_neg Bool.false_ne_true]
  exact h
theorem iteT {A B : Prop} (h : A) : if true = true then A else B := by
  rw [if_pos rfl]
  exact h
theorem ite2 {c A B : Prop} [Decidable c] (h1 : c → A) (h2 : ¬ c → B) : if c then A else B := by
  by_cases h : c
  · rw [if_pos h]
    exact h1 h
  · rw [if_neg h]
    exact h2 h
theorem iteNS {c A B : Prop} [Decidable c] (hc : c) (h : B) : if (!decide c) = true then A else B := by
  rw [decide_eq_true hc]
  exact iteF h

/-! ### heaps -/
/-- all that was tracked is as it was -/
def Same (H H' : Hp) : Prop := ∀ b o, H b = some o → H' b = some o
theorem Same.refl (H : Hp) : Same H H := fun _ _ h => h
theorem Same.trans {H H1 H2 : Hp} (a : Same H H1) (b : Same H1 H2) : Same H H2 := fun c o h => b c o (a c o h)
theorem Same.free {H H' : Hp} (e : Same H H') {l : Addr} (h : H' l = Option.none) : H l = Option.none := by
  cases q : H l with
  | none => rfl
  | some o =>
    rw [e l o q] at h
    cases h
theorem Same.seq {K : PySem.W.Frag} {H H' : Hp} {a : Addr} {xs : List V} (e : Same H H') (h : SqL K H a xs) : SqL K H' a xs := by
  rcases h with (h | ⟨o, h⟩) | h
  · exact .inl (.inl (e _ _ h))
  · exact .inl (.inr ⟨o, e _ _ h⟩)
  · exact .inr h

end L2
namespace L2
open PySem PySem.Spec PyProof.Rows
section
variable {X : Cx}
/-- len of a dict -/
theorem call_lenD : CallR X (.builtin "len") (fun xs H Q => ∃ a kvs, xs = [V.ref a] ∧ H a = some (.dK kvs) ∧ Q (.int kvs.length) H) := by
  (first | constructor | skip)
  intro pins s σ H xs us Q I r h
  obtain ⟨a, kvs, rfl, ha, q⟩ := h
  obtain ⟨u, rfl, ru⟩ := vals1 r
  cases ru
  exact d_len I (.inl ha) fun t s' I' => ⟨.int kvs.length, H, I', ⟨t, rfl⟩, q⟩
end
/-! ### a dict's pairs: keys that differ -/
section
variable {κ : Type} [DecidableEq κ]
theorem valV_not {kvs : List (κ × V)} {k : κ} (h : valV kvs k = none) : ¬ k ∈ kvs.map (·.1) := by
  intro m
  obtain ⟨p, hp, e⟩ := List.mem_map.mp m
  have q : (kvs.any fun kv => decide (kv.1 = k)) = true := List.any_eq_true.mpr ⟨p, hp, decide_eq_true e⟩
  rw [valV_any, h] at q
  exact absurd q (by simp)
theorem valV_in {kvs : List (κ × V)} {k : κ} {v : V} (h : valV kvs k = some v) : k ∈ kvs.map (·.1) := by
  have q : (kvs.any fun kv => decide (kv.1 = k)) = true := by
    rw [valV_any, h]
    all_goals rfl
  obtain ⟨p, hp, e⟩ := List.any_eq_true.mp q
  exact List.mem_map.mpr ⟨p, hp, of_decide_eq_true e⟩
theorem nd_snoc : ∀ {l : List κ} {k : κ}, l.Nodup → ¬ k ∈ l → (l ++ [k]).Nodup
  | [], k, _, _ => by simp
  | a :: r, k, h, hk => by
    obtain ⟨h1, h2⟩ := List.nodup_cons.mp h
    show (a :: (r ++ [k])).Nodup
    refine List.nodup_cons.mpr ⟨fun m => ?_, nd_snoc h2 fun m => hk (List.mem_cons.mpr (Or.inr m))⟩
    rcases List.mem_append.mp m with q | q
    · exact h1 q
    · exact hk (List.mem_cons.mpr (Or.inl (List.mem_singleton.mp q).symm))
theorem nd_putK {kvs : List (κ × V)} {k : κ} (v : V) (hn : (kvs.map (·.1)).Nodup) (h : valV kvs k = none) : ((putK kvs k v).map (·.1)).Nodup := by
  rw [putK_new v h, List.map_append]
  exact nd_snoc hn (valV_not h)
theorem dropK_pos {p : κ × V} {r : List (κ × V)} {k : κ} (e : p.1 = k) : dropK (p :: r) k = dropK r k := by
  unfold dropK
  rw [List.filter_cons, if_neg (by simp [e])]
theorem dropK_neg {p : κ × V} {r : List (κ × V)} {k : κ} (e : ¬ p.1 = k) : dropK (p :: r) k = p :: dropK r k := by
  unfold dropK
  rw [List.filter_cons, if_pos (by simp [e])]
theorem dropK_no : ∀ {kvs : List (κ × V)} {k : κ}, ¬ k ∈ kvs.map (·.1) → dropK kvs k = kvs
  | [], _, _ => rfl
  | p :: r, k, h => by
    have h' : ¬ k ∈ r.map (·.1) := fun m => by
      obtain ⟨q, hq, e⟩ := List.mem_map.mp m
      exact h (List.mem_map.mpr ⟨q, List.mem_cons.mpr (Or.inr hq), e⟩)
    rw [dropK_neg fun e => h (List.mem_map.mpr ⟨p, List.mem_cons.mpr (Or.inl rfl), e⟩), dropK_no h']
theorem dropK_mem {kvs : List (κ × V)} {k : κ} {p : κ × V} (h : p ∈ dropK kvs k) : p ∈ kvs := (List.mem_filter.mp h).1
theorem nd_dropK : ∀ {kvs : List (κ × V)} {k : κ}, (kvs.map (·.1)).Nodup → ((dropK kvs k).map (·.1)).Nodup
  | [], _, _ => List.nodup_nil
  | p :: r, k, h => by
    have h : (p.1 :: r.map (·.1)).Nodup := h
    obtain ⟨h1, h2⟩ := List.nodup_cons.mp h
    by_cases e : p.1 = k
    · rw [dropK_pos e]
      exact nd_dropK h2
    · rw [dropK_neg e]
      show (p.1 :: (dropK r k).map (·.1)).Nodup
      refine List.nodup_cons.mpr ⟨fun m => h1 ?_, nd_dropK h2⟩
      obtain ⟨q, hq, eq⟩ := List.mem_map.mp m
      exact List.mem_map.mpr ⟨q, dropK_mem hq, eq⟩
theorem dropK_len : ∀ {kvs : List (κ × V)} {k : κ}, (kvs.map (·.1)).Nodup → k ∈ kvs.map (·.1) → (dropK kvs k).length + 1 = kvs.length
  | [], _, _, m => by simp at m
  | p :: r, k, h, m => by
    have h : (p.1 :: r.map (·.1)).Nodup := h
    have m : k = p.1 ∨ k ∈ r.map (·.1) := List.mem_cons.mp m
    obtain ⟨h1, h2⟩ := List.nodup_cons.mp h
    by_cases e : p.1 = k
    · subst e
      rw [dropK_pos rfl, dropK_no h1]
      all_goals rfl
    · have m' : k ∈ r.map (·.1) := m.resolve_left fun z => e z.symm
      have q := dropK_len h2 m'
      rw [dropK_neg e, List.length_cons, List.length_cons]
      omega
end
end L2

set_option Elab.async false
set_option linter.all false
set_option maxRecDepth 100000
/-! More rules of my own over the layer: comprehensions, texts, all, isinstance. -/
namespace L2
open PySem PySem.Spec PyProof.Rows

/-! ### what a comprehension closes over -/
theorem relabel_free {env : Env} : ∀ {names : List (Str × NameKind)} {x : Str} {k : NameKind}, (∀ q ∈ names, q.2 ≠ .cell) →
    (names.map fun (n, k) => if (k == NameKind.free && env.scope.kind == .function && env.kindOf n == some .cell) then (n, NameKind.cell) else (n, k)).lookup x = some k → (k = .cell ∨ k = .free) →
    names.lookup x = some .free
  | [], _, _, _, h, _ => by simp at h
  | (n, k0) :: r, x, k, hc, h, hk => by
    have ih := @relabel_free env r x k (fun q hq => hc q (List.mem_cons_of_mem _ hq))
    have hn0 : k0 ≠ .cell := hc (n, k0) List.mem_cons_self
    rw [List.map_cons] at h
    cases hx : x == n with
    | true =>
      rw [List.lookup_cons, hx]
      by_cases hcnd : (k0 == NameKind.free && env.scope.kind == .function && env.kindOf n == some .cell) = true
      · have hf : k0 = .free := by
          have := (Bool.and_eq_true _ _ ▸ (Bool.and_eq_true _ _ ▸ hcnd).1).1
          simpa using this
        simp [hf]
      · simp only [if_neg hcnd, List.lookup_cons, hx] at h
        have e : k0 = k := by simpa using h
        subst e
        rcases hk with z | z
        · exact absurd z hn0
        · simp [z]
    | false =>
      rw [List.lookup_cons, hx]
      by_cases hcnd : (k0 == NameKind.free && env.scope.kind == .function && env.kindOf n == some .cell) = true
      · simp only [if_pos hcnd, List.lookup_cons, hx] at h
        exact ih h hk
      · simp only [if_neg hcnd, List.lookup_cons, hx] at h
        exact ih h hk

def clOf (env : Env) : List (Str × NameKind) → List (Str × Addr) → List (Str × Addr)
  | [], acc => acc
  | (n, k) :: r, acc => if k == .free then clOf env r ((n, (env.cells.lookup n).getD 0) :: acc) else clOf env r acc
theorem closure_go {env : Env} {f : Str × NameKind → List (Str × Addr) → Sem (ForInStep (List (Str × Addr)))}
    (hf : ∀ n k acc, f (n, k) acc = if (k == NameKind.free) = true then (cellOf env n >>= fun c => pure (.yield ((n, c) :: acc))) else pure (.yield acc)) :
    ∀ (names : List (Str × NameKind)) (acc : List (Str × Addr)), (∀ q ∈ names, q.2 = .free → ∃ c, env.cells.lookup q.1 = some c) → forIn names acc f = pure (clOf env names acc)
  | [], acc, _ => rfl
  | (n, k) :: r, acc, h => by
    rw [List.forIn_cons, hf]
    have hr : ∀ q ∈ r, q.2 = .free → ∃ c, env.cells.lookup q.1 = some c := fun q hq => h q (List.mem_cons_of_mem _ hq)
    by_cases hk : (k == NameKind.free) = true
    · obtain ⟨c, hc⟩ := h (n, k) List.mem_cons_self (by simpa using hk)
      rw [if_pos hk]
      have e : cellOf env n = pure c := by unfold cellOf; rw [hc]
      rw [e, pure_bind, pure_bind]
      show forIn r ((n, c) :: acc) f = _
      rw [closure_go hf r _ hr]
      show _ = pure (if (k == NameKind.free) = true then clOf env r ((n, (env.cells.lookup n).getD 0) :: acc) else clOf env r acc)
      rw [if_pos hk, hc]; rfl
    · rw [if_neg hk, pure_bind]
      show forIn r acc f = _
      rw [closure_go hf r _ hr]
      show _ = pure (if (k == NameKind.free) = true then _ else clOf env r acc)
      rw [if_neg hk]
theorem closure_ok {scope : Scope} {env : Env} (h : ∀ q ∈ scope.names, q.2 = .free → ∃ c, env.cells.lookup q.1 = some c) : closureFor scope env = pure (clOf env scope.names []) := by
  unfold closureFor
  dsimp only
  rw [closure_go (env := env) (fun n k acc => rfl) scope.names [] h]
  first | rfl | simp
theorem clOf_mem {env : Env} : ∀ (names : List (Str × NameKind)) (acc : List (Str × Addr)), (∀ p ∈ acc, env.cells.lookup p.1 = some p.2) → (∀ q ∈ names, q.2 = .free → ∃ c, env.cells.lookup q.1 = some c) →
    ∀ p ∈ clOf env names acc, env.cells.lookup p.1 = some p.2
  | [], acc, ha, _, p, hp => ha p hp
  | (n, k) :: r, acc, ha, hn, p, hp => by
    have hr : ∀ q ∈ r, q.2 = .free → ∃ c, env.cells.lookup q.1 = some c := fun q hq => hn q (List.mem_cons_of_mem _ hq)
    unfold clOf at hp
    by_cases hk : (k == NameKind.free) = true
    · rw [if_pos hk] at hp
      obtain ⟨c, hc⟩ := hn (n, k) List.mem_cons_self (by simpa using hk)
      refine clOf_mem r _ (fun q hq => ?_) hr p hp
      rcases List.mem_cons.mp hq with e | hq
      · subst e
        show env.cells.lookup n = some ((env.cells.lookup n).getD 0)
        rw [hc]; rfl
      · exact ha q hq
    · rw [if_neg hk] at hp
      exact clOf_mem r _ ha hr p hp
theorem clOf_has {env : Env} {y : Str} : ∀ (names : List (Str × NameKind)) (acc : List (Str × Addr)), ((y, NameKind.free) ∈ names ∨ ∃ c, (y, c) ∈ acc) → ∃ c, (y, c) ∈ clOf env names acc
  | [], acc, h => by
    rcases h with h | h
    · exact nomatch h
    · exact h
  | (n, k) :: r, acc, h => by
    unfold clOf
    by_cases hk : (k == NameKind.free) = true
    · rw [if_pos hk]
      refine clOf_has r _ ?_
      rcases h with h | ⟨c, h⟩
      · rcases List.mem_cons.mp h with e | h
        · cases e; exact .inr ⟨_, List.mem_cons_self⟩
        · exact .inl h
      · exact .inr ⟨c, List.mem_cons_of_mem _ h⟩
    · rw [if_neg hk]
      refine clOf_has r _ ?_
      rcases h with h | h
      · rcases List.mem_cons.mp h with e | h
        · cases e; exact absurd rfl hk
        · exact .inl h
      · exact .inr h
theorem lookup_of_mem {α : Type} {y : Str} {c : α} : ∀ {l : List (Str × α)}, (y, c) ∈ l → ∃ c', l.lookup y = some c'
  | [], h => nomatch h
  | (n, d) :: r, h => by
    rw [List.lookup_cons]
    cases hx : y == n with
    | true => exact ⟨d, rfl⟩
    | false =>
      rcases List.mem_cons.mp h with e | h
      · cases e; simp at hx
      · exact lookup_of_mem h

/-- what of the text a comprehension of one name must have: osc, oN the scope and names around it -/
structure CompScope (osc : Scope) (oN : List Str) (scope : Scope) (x : Str) : Prop where
  kind : scope.kind = .function
  nocell : ∀ q ∈ scope.names, q.2 ≠ .cell
  names : ∀ q ∈ scope.names, q.2 = .local → scope.names.lookup q.1 = some .local
  loc : scope.names.lookup x = some .local
  cap : ∀ q ∈ scope.names, q.2 = .free → osc.names.lookup q.1 = some .cell ∨ osc.names.lookup q.1 = some .free
  own : ∀ q ∈ scope.names, q.2 = .local → q.1 = x ∨ q.1 ∉ oN

/-- the context of a comprehension's block: made at s, H (behind the iterator) -/
def cxComp (X : Cx) (scope : Scope) (N : List Str) (C : Addr) (fp : List Addr) (s : Shared) (H : Hp) : Cx where
  prog := X.prog
  w := X.w
  K := X.K
  mg := X.mg
  base := X.base
  A := X.A
  N := N
  s₀ := s
  H₀ := H
  env := compEnvC scope (clOf X.env scope.names []) C X.env
  outer := X.stack
  stack := X.stack
  ex := fp
  fn := fun _ => false
  calm := X.calm
  pn := []
  xe := fun _ _ => False

section
variable {X : Cx} {pins : List (Addr × Obj)} {σ : St} {H : Hp} {s : Shared} {scope : Scope} {x : Str} {N : List Str} {C : Addr} {fp : List Addr}

theorem comp_cells (I : Inv X pins σ H s) (S : CompScope X.env.scope X.N scope x) : ∀ q ∈ scope.names, q.2 = .free → ∃ c, X.env.cells.lookup q.1 = some c :=
  fun q hq hf => I.ok.has q.1 (S.cap q hq hf)
theorem comp_look (I : Inv X pins σ H s) (S : CompScope X.env.scope X.N scope x) {y : Str} {c : Addr} (h : (clOf X.env scope.names []).lookup y = some c) : X.env.cells.lookup y = some c :=
  clOf_mem scope.names [] (fun _ z => nomatch z) (comp_cells I S) (y, c) (PySem.mem_of_lookup h)
theorem comp_has (I : Inv X pins σ H s) (S : CompScope X.env.scope X.N scope x) {y : Str} (h : scope.names.lookup y = some .free) : ∃ c, (clOf X.env scope.names []).lookup y = some c ∧ X.env.cells.lookup y = some c := by
  obtain ⟨c, hc⟩ := clOf_has (env := X.env) scope.names [] (.inl (PySem.mem_of_lookup h))
  obtain ⟨c', hc'⟩ := lookup_of_mem hc
  exact ⟨c', hc', comp_look I S hc'⟩

theorem comp_ok (I : Inv X pins σ H s) (S : CompScope X.env.scope X.N scope x) (hf : ∀ b ∈ fp, FpOk X pins H b) (ho : ∀ b ∈ fp, ∃ o, s.heap.get? b = some o) (hC : s.heap.objs.size ≤ C) : (cxComp X scope N C fp s H).Ok where
  mod := I.ok.mod
  kind := S.kind
  glob := I.ok.glob
  blt := I.ok.blt
  above := hC
  inj := fun y z c h1 h2 => I.ok.inj y z c (comp_look I S h1) (comp_look I S h2)
  has := fun y hy => by
    have hy' : (relabel scope X.env).names.lookup y = some .cell ∨ (relabel scope X.env).names.lookup y = some .free := hy
    have hfree : scope.names.lookup y = some .free := by
      rcases hy' with z | z
      · exact relabel_free S.nocell z (.inl rfl)
      · exact relabel_free S.nocell z (.inr rfl)
    obtain ⟨c, hc, _⟩ := comp_has I S hfree
    exact ⟨c, hc⟩
  cab := fun y c h => by
    have h' : false = true := h
    cases h'
  hd := I.ok.hd
  frames := I.ok.frames
  stk := .inl rfl
  exf := fun b hb => by
    obtain ⟨o, e⟩ := ho b hb
    obtain ⟨_, _, _, _, h4, _⟩ := hf b hb
    exact ⟨Nat.ne_of_lt (Nat.lt_of_lt_of_le (Heap.lt_size e) hC), fun y c h => h4 y c (comp_look I S h)⟩
  bs := I.bs
  bsz := Nat.le_trans I.ok.bsz I.sz
  noex := fun b o e hb => by
    obtain ⟨_, _, _, h3, _, _⟩ := hf b hb
    rcases h3 with z | z
    · exact I.ok.noex b o e z
    · exact absurd (Nat.lt_of_lt_of_le (Heap.lt_size e) (Nat.le_trans I.ok.bsz z)) (Nat.lt_irrefl _)
  exfs := fun b hb hz => by
    obtain ⟨_, h1, h2, _, _, _⟩ := hf b hb
    rcases List.mem_cons.mp (I.stkSub b hz) with e | e
    · exact h1 e
    · exact h2 e
  funs := I.stack
  frf := I.stkFree

theorem comp_start {h1 : Heap} {t : Nat} {m0 : Str → Option Value} {σ0 : St} (I : Inv X pins σ H s) (S : CompScope X.env.scope X.N scope x) (hf : ∀ b ∈ fp, FpOk X pins H b) (ho : ∀ b ∈ fp, ∃ o, s.heap.get? b = some o)
    (hC : s.heap.objs.size ≤ C) (kp : ∀ b o, s.heap.get? b = some o → h1.get? b = some o) (hns : h1.Ns C m0) (hl : σ0.length = N.length)
    (sub : ∀ (i : Nat) (y : Str) (v : V), N[i]? = some y → σ0[i]? = some (some v) → y ≠ x ∧ ∃ j : Nat, X.N[j]? = some y ∧ σ[j]? = some (some v)) :
    Inv (cxComp X scope N C fp s H) [] σ0 H { s with heap := h1, toks := t } where
  ok := comp_ok I S hf ho hC
  os := rfl
  bare := I.bare
  base := Un.kept kp
  loc := by
    refine ⟨m0, hns, fun i y v e1 e2 e3 => ?_⟩
    obtain ⟨hyx, j, ej, es⟩ := sub i y v e1 e2
    have e3' : (relabel scope X.env).names.lookup y = some .local ∨ (relabel scope X.env).names.lookup y = some .cell ∨ (relabel scope X.env).names.lookup y = some .free := e3
    have hfree : ((relabel scope X.env).names.lookup y = some .cell ∨ (relabel scope X.env).names.lookup y = some .free) ∧ scope.names.lookup y = some .free := by
      rcases e3' with z | z | z
      · exfalso
        have hm := PySem.mem_of_lookup z
        obtain ⟨q, hq, eq⟩ := List.mem_map.mp hm
        obtain ⟨n, k⟩ := q
        dsimp only at eq
        split at eq
        · cases eq
        · cases eq
          rcases S.own _ hq rfl with w | w
          · exact hyx w
          · exact w (List.mem_of_getElem? ej)
      · exact ⟨.inl z, relabel_free S.nocell z (.inl rfl)⟩
      · exact ⟨.inr z, relabel_free S.nocell z (.inr rfl)⟩
    obtain ⟨hkind, hfr⟩ := hfree
    obtain ⟨c, hc, hxc⟩ := comp_has I S hfr
    have hcap := S.cap _ (PySem.mem_of_lookup hfr) rfl
    obtain ⟨m, hn, hl'⟩ := I.loc
    obtain ⟨u, r, l⟩ := hl' j y v ej es (.inr hcap)
    refine ⟨u, r, .inr ⟨hkind, c, hc, ?_⟩⟩
    rcases l with ⟨lk, _⟩ | ⟨_, c', ec', z⟩
    · have lk' : X.env.scope.names.lookup y = some .local := lk
      rcases hcap with w | w
      · have w' : X.env.scope.names.lookup y = some .cell := w
        rw [lk'] at w'; cases w'
      · have w' : X.env.scope.names.lookup y = some .free := w
        rw [lk'] at w'; cases w'
    · rw [hxc] at ec'; cases ec'
      obtain ⟨o, e, d⟩ := z
      exact ⟨o, kp _ _ e, d⟩
  cell := fun y c e => by
    obtain ⟨v, o, e', d⟩ := I.cell y c (comp_look I S e)
    exact ⟨v, o, kp _ _ e', d⟩
  free := I.hok.fresh hC
  freeC := fun y c e => I.freeC y c (comp_look I S e)
  pin := fun p hp => nomatch (show p ∈ ([] : List (Addr × Obj)) from hp)
  hok := I.hok.kept kp
  len := hl
end

/-! ### the loop of a comprehension -/
section
variable {prog : Program} {w : World} {A : Around} {R : Result → Shared → Prop} {s : Shared}
theorem compLoop_go {elt target iter : Expr} {scope : Scope} {pos : Pos} {it acc : Value} {env : Env} (Iv : Nat → Shared → Prop)
    (turn : ∀ n s, Iv n s → wpAny (model prog w) A (pyNext it) (fun r s₁ => match r with
      | none => R (.ok .next) s₁
      | some v => wpAny (model prog w) A (letOwnedTupleGo target it v) (fun _ s₁' => wpAny (model prog w) A (assign target env v) (fun _ s₂ => wpAny (model prog w) A (eval elt env) (fun x s₃ =>
          wpAny (model prog w) A (call (.builtin "list.append") [acc, x]) (fun _ s₄ => ∃ m, m < n ∧ Iv m s₄) (notedBy (model prog w) A env fun e s' => R (.error e) s') s₃)
          (notedBy (model prog w) A env fun e s' => R (.error e) s') s₂) (notedBy (model prog w) A env fun e s' => R (.error e) s') s₁') (notedBy (model prog w) A env fun e s' => R (.error e) s') s₁)
      (notedBy (model prog w) A env fun e s' => R (.error e) s') s)
    (n : Nat) (h : Iv n s) : codeAny (model prog w) A (.compLoop (.ListComp elt [⟨target, iter, [], 0⟩] scope pos) 0 it acc env) R s := by
  refine codeAny_loop rfl Iv (fun n s hI => ?_) n h
  show wpAny _ _ ((compTurn (.ListComp elt [⟨target, iter, [], 0⟩] scope pos) 0 it acc env).onRaise (fun x => do noteFrame x env; theTreesLotGoes x)) _ _ s
  refine wpAny_noted ?_
  rw [compTurn_list1]
  refine wpAny_bind (wpAny_standAt (wpAny_bind (wpAny_mono (turn n s hI) (fun r s₁ h₁ => ?_) fun _ _ h' => h')))
  cases r with
  | none => exact wpAny_pure h₁
  | some v =>
    refine wpAny_bind (wpAny_mono h₁ (fun _ s₁' h₁' => ?_) fun _ _ h' => h')
    exact wpAny_bind (wpAny_mono h₁' (fun _ s₂ h₂ => wpAny_bind (wpAny_bind (wpAny_mono h₂ (fun x s₃ h₃ => wpAny_bind (wpAny_mono h₃
      (fun _ s₄ h₄ => wpAny_pure (wpAny_pure ⟨rfl, h₄⟩)) fun _ _ h' => h')) fun _ _ h' => h'))) fun _ _ h' => h')
end

/-- [elt for x in iter]: W the invariant by the turn, a measure and the items so far; up: the names' values within -/
def tComp (wi : TI) (up : St → V → St) (te : TE) : TE := fun σ H Q => wi σ H fun J H1 => ∃ W : Nat → Nat → List V → Hp → Prop, (∃ m, W 0 m [] H1) ∧ ∀ i m ys H, W i m ys H →
  (J.stop i H ∧ ∀ D, H D = none → Q (.ref D) (upd H D (.lst ys))) ∨
  (J.go i H ∧ ys.length < sizeLine ∧ ∃ Nx : V → Hp → Prop, (∀ y H3, Nx y H3 → ∃ m', m' < m ∧ W (i + 1) m' (ys ++ [y]) H3) ∧ ∀ x H', J.yld i H x H' → te (up σ x) H' Nx)

section
variable {X : Cx} {elt iter : Expr} {x : Str} {px pos : Pos} {scope : Scope} {wi : TI} {te : TE} {N : List Str} {k : Nat} {up : St → St}
theorem pe_compG (S : CompScope X.env.scope X.N scope x) (hc : X.calm = true) (hN : N.Nodup) (hk : N[k]? = some x)
    (hup : ∀ σ : St, σ.length = X.N.length → (up σ).length = N.length ∧ ∀ (i : Nat) (y : Str) (v : V), N[i]? = some y → (up σ)[i]? = some (some v) → y ≠ x ∧ ∃ j : Nat, X.N[j]? = some y ∧ σ[j]? = some (some v))
    (hi : PI X (.Name x px) iter wi) (he : ∀ C fp s H, PE (cxComp X scope N C fp s H) elt te) (hs : ∀ v, foldedSetIterable iter X.env v = pure v) :
    PE X (.ListComp elt [⟨.Name x px, iter, [], 0⟩] scope pos) (tComp wi (fun σ v => (up σ).set k (some v)) te) := by
  (first | constructor | skip)
  intro pins s σ H Q I h
  rw [eval_ListComp]
  refine wpAny_comprehension_free (use := none) rfl hs (closure_ok (comp_cells I S)) S.kind S.names (thn (hi pins s σ H _ I h) fun v s1 h1 => thn h1 fun itv s2 h2 => ?_)
  obtain ⟨it, fp, tn, J, H2, e, I2, T, st2, f2, W, ⟨m0, w0⟩, turn⟩ := h2
  subst e
  refine wpAny_newObj_type (wpAny_newFunctionEnv S.nocell (by intro y hy; simp at hy) (fun h₁ hns₁ hsb₁ => ?_) S.kind)
  dsimp only at hns₁ hsb₁ ⊢
  generalize hH2 : s2.heap.push { cls := .type "list", dict := none, data := .seq ([] : List Value).toArray } = HH at hns₁ hsb₁ ⊢
  have hC : HH.objs.size = s2.heap.objs.size + 1 := by rw [← hH2, Heap.size_push]
  have hDC : s2.heap.objs.size ≠ HH.objs.size := by rw [hC]; exact Nat.ne_of_lt (Nat.lt_succ_self _)
  have hCle : s2.heap.objs.size ≤ HH.objs.size := by rw [hC]; exact Nat.le_succ _
  have below : ∀ b, b < s2.heap.objs.size → b ≠ HH.objs.size ∧ b ≠ s2.heap.objs.size := fun b hb => ⟨by rw [hC]; exact Nat.ne_of_lt (Nat.lt_succ_of_lt hb), Nat.ne_of_lt hb⟩
  have old : ∀ b o, s2.heap.get? b = some o → h₁.get? b = some o := fun b o e => hsb₁.extBut b o (below b (Heap.lt_size e)).1 (Heap.get?_push_of_some _ (hH2 ▸ Heap.get?_push_of_some _ e))
  have hacc : h₁.get? s2.heap.objs.size = some { cls := .type "list", data := .seq ([] : List Value).toArray 0 } := hsb₁.extBut _ _ hDC (Heap.get?_push_of_some _ (hH2 ▸ Heap.get?_push_size _ rfl))
  have ho2 : ∀ b ∈ fp, ∃ o, s2.heap.get? b = some o := fun b hb => let ⟨o, e, _⟩ := T.obj _ _ st2 b hb; ⟨o, e⟩
  have fpD : ∀ b ∈ fp, b ≠ s2.heap.objs.size := fun b hb => let ⟨o, e⟩ := ho2 b hb; (below b (Heap.lt_size e)).2
  obtain ⟨hul, husub⟩ := hup σ I2.len
  have st1 : tn 0 h₁ := T.keep _ _ _ st2 fun b _ o e => old b o e
  have I3 : Inv (cxComp X scope N HH.objs.size fp s2 H2) [] (up σ) H2 { s2 with heap := h₁, toks := s2.toks + ([] : List (Str × Value)).length } := comp_start I2 S f2 ho2 hCle old hns₁ hul husub
  have hD2 : H2 s2.heap.objs.size = none := I2.hok.fresh (Nat.le_refl _)
  -- the block's own loop
  have loop : codeAny (model X.prog X.w) X.A (.compLoop (.ListComp elt [⟨.Name x px, iter, [], 0⟩] scope pos) 0 (.ref it) (.ref s2.heap.objs.size) (compEnvC scope (clOf X.env scope.names []) HH.objs.size X.env))
      (compPost (model X.prog X.w) X.A X.xe none (EP X pins σ Q) (.ref s2.heap.objs.size) HH.objs.size) { s2 with heap := h₁, toks := s2.toks + ([] : List (Str × Value)).length } := by
    refine compLoop_go (fun n s' => ∃ (i : Nat) (ys : List V) (its : List Value) (cn : Nat) (H' : Hp), Inv (cxComp X scope N HH.objs.size fp s2 H2) [] (up σ) H' s' ∧ tn i s'.heap ∧ (∀ b ∈ fp, H' b = none) ∧ H' s2.heap.objs.size = none ∧
      s'.heap.get? s2.heap.objs.size = some { cls := .type "list", data := .seq its.toArray cn } ∧ Vals ys its ∧ ys.length ≤ sizeLine ∧ W i n ys H') ?_ m0
      ⟨0, [], [], 0, H2, I3, st1, fun b hb => (f2 b hb).1, hD2, hacc, .nil, Nat.zero_le _, w0⟩
    rintro n s3 ⟨i, ys, its, cn, H3, J3, st3, fr3, hD3, hob3, rv3, hz3, w3⟩
    have pinD : ∀ {H' : Hp} {s' : Shared} {σ' : St} {its' : List Value} {cn' : Nat}, Inv (cxComp X scope N HH.objs.size fp s2 H2) [] σ' H' s' → H' s2.heap.objs.size = none → s'.heap.get? s2.heap.objs.size = some { cls := .type "list", data := .seq its'.toArray cn' } →
        Inv (cxComp X scope N HH.objs.size fp s2 H2) [(s2.heap.objs.size, { cls := .type "list", data := .seq its'.toArray cn' })] σ' H' s' := fun J hD hob => J.pins_of fun p hp => by
      have e : p = (s2.heap.objs.size, { cls := .type "list", data := .seq _ _ }) := List.mem_singleton.mp hp
      subst e
      refine ⟨hob, hD, hDC, fun z => ?_, fun v z => by cases (show Data.seq _ _ = Data.cell v from z)⟩
      exact absurd rfl ((below _ (by
        obtain ⟨_, o, ho, _⟩ := (show s2.heap.FunFrames X.base X.stack from I2.stack).mem z
        exact Heap.lt_size ho)).2)
    have J3' := pinD J3 hD3 hob3
    have fpk : ∀ {H' : Hp}, (∀ b ∈ fp, H' b = none) → ∀ b ∈ fp, FpOk (cxComp X scope N HH.objs.size fp s2 H2) [(s2.heap.objs.size, { cls := .type "list", data := .seq its.toArray cn })] H' b := fun hn b hb => by
      obtain ⟨o, e⟩ := ho2 b hb
      refine ⟨hn b hb, (below b (Heap.lt_size e)).1, (comp_ok (N := N) I2 S f2 ho2 hCle).exfs b hb, .inl hb, fun y c ec => ((comp_ok (N := N) I2 S f2 ho2 hCle).exf b hb).2 y c ec, fun p hp => ?_⟩
      have e' : p = (s2.heap.objs.size, { cls := .type "list", data := .seq its.toArray cn }) := List.mem_singleton.mp hp
      subst e'
      exact (fpD b hb).symm
    rcases turn i n ys H3 w3 with ⟨stop, fin⟩ | ⟨go, hlt, Nx, hNx, step⟩
    · refine wpAny_mono (T.done (cxComp X scope N HH.objs.size fp s2 H2) rfl rfl rfl hc i _ s3 (up σ) H3 _ J3' (fpk fr3) st3 stop) (fun r s4 ⟨hr, J4⟩ => ?_) fun _ _ z => z
      subst hr
      obtain ⟨m4, hn4, _⟩ := J4.loc
      have hob4 := (J4.pin (s2.heap.objs.size, { cls := .type "list", data := .seq its.toArray cn }) (by simp)).1
      refine ⟨m4, hn4, fun h' sb => ?_⟩
      have kp : ∀ b o, b ≠ HH.objs.size → s4.heap.get? b = some o → h'.get? b = some o := fun b o hb e => (sb.2 b hb).trans e
      have hne : ∀ b u, H3 b = some u → b ≠ s2.heap.objs.size := fun b u q => ne_of_none q hD3
      have hneC : ∀ b u, H3 b = some u → b ≠ HH.objs.size := fun b u q => ne_of_none q J4.free
      have un : Un (frs X.stack) fp H2 (upd H3 s2.heap.objs.size (.lst ys)) s2.heap h' := by
        have u0 : Un (frs X.stack) fp H2 H3 s2.heap s4.heap := J4.base
        refine ⟨fun b o e n hb hx => kp b o (below b (Heap.lt_size e)).1 (u0.keep b o e n hb hx), fun b o e n hb hx => ?_, fun b o e n hx => ?_, fun b o e hx => ?_, fun b xs q => ?_, fun b o u q => ?_, fun b ps q => ?_⟩
        · obtain ⟨sl, e1⟩ := u0.slot b o e n hb hx
          exact ⟨sl, kp b _ (below b (Heap.lt_size e)).1 e1⟩
        · rw [upd_ne (below b (Heap.lt_size e)).2]; exact u0.free b o e n hx
        · obtain ⟨o', e1⟩ := u0.there b o e hx
          exact ⟨o', kp b _ (below b (Heap.lt_size e)).1 e1⟩
        · have q' := u0.tups b xs q
          rw [upd_ne (hne b _ q')]; exact q'
        · have q' := u0.frzs b o u q
          rw [upd_ne (hne b _ q')]; exact q'
        · obtain ⟨more, q'⟩ := u0.tbls b ps q
          exact ⟨more, by rw [upd_ne (hne b _ q')]; exact q'⟩
      have hok : HOk X.prog X.w (upd H3 s2.heap.objs.size (.lst ys)) h' := fun b u q => by
        by_cases hb : b = s2.heap.objs.size
        · subst hb
          rw [upd_same] at q; cases q
          exact ⟨hz3, its, cn, rv3, kp _ _ hDC hob4⟩
        · rw [upd_ne hb] at q
          refine (J4.hok b u q).stay (fun c v hc' r => kp c v ?_ r) (fun c r => by rw [upd_ne (hne c _ r)]; exact r) fun c xs r => by rw [upd_ne (hne c _ r)]; exact r
          rcases hc' with z | z
          · rw [z]; exact hneC b u q
          · exact hneC c _ z
      refine ⟨.ref s2.heap.objs.size, upd H3 s2.heap.objs.size (.lst ys), I2.call' (s' := { s4 with heap := h' }) (ch := fp) J4.os un hok J4.bare fun b hb => ?_, rfl, fin _ hD3⟩
      obtain ⟨_, g1, _, g3, g4, g5⟩ := f2 b hb
      exact ⟨g3, g1, g4, g5⟩
    · refine wpAny_mono (T.item (cxComp X scope N HH.objs.size fp s2 H2) rfl rfl rfl hc i _ s3 (up σ) H3 _ J3' (fpk fr3) st3 go) (fun r s4 ⟨u, hr, h4⟩ => ?_) fun _ _ z => z
      subst hr
      refine wpAny_mono h4 (fun _ s5 ⟨y, H5, J5, r5, y5, st5, fr5⟩ => ?_) fun _ _ z => z
      have J5' := J5.pinned (fpk fr5) (T.obj _ _ st5)
      refine wpAny_assign_Name (store_ok J5' hN hk (.inl (lookup_relabel_local S.loc)) r5 (fun s6 J6 => ?_) (.inr (lookup_relabel_local S.loc)))
      refine wpAny_mono (he HH.objs.size fp s2 H2 _ s6 _ H5 Nx J6 (step y H5 y5)) (fun yu s7 ⟨z, H7, J7, r7, q7⟩ => ?_) fun _ _ z => z.elim
      obtain ⟨m', hm', w7⟩ := hNx z H7 q7
      have pD := J7.pin (s2.heap.objs.size, { cls := .type "list", data := .seq its.toArray cn }) (by simp)
      have hlen := rv3.length
      refine append_at (hsz := by rw [List.size_toArray, ← hlen]; exact hz3) pD.1 fun h8 sb8 hob8 => ?_
      have kp8 : ∀ b o, b ≠ s2.heap.objs.size → s7.heap.get? b = some o → h8.get? b = some o := fun b o hb e => (sb8.2 b hb).trans e
      have J7' : Inv (cxComp X scope N HH.objs.size fp s2 H2) [] (up σ) H7 s7 := (J7.weak (σ' := up σ) (by rw [List.length_set]) fun j v ej => by
        by_cases hj : j = k
        · subst hj
          exact absurd rfl (husub j x v hk ej).1
        · rw [List.getElem?_set_ne (Ne.symm hj)]; exact ej).pins_of fun p hp => nomatch hp
      have J8 : Inv (cxComp X scope N HH.objs.size fp s2 H2) [] (up σ) H7 { s7 with heap := h8 } := J7'.turned (t' := s7.toks) kp8 pD.2.1 hDC (.inr (Nat.le_refl _))
        (fun y' c ec z => by
          obtain ⟨v', q⟩ := I2.cell y' c (comp_look I2 S ec)
          exact (below c q.lt).2 z) fun p hp => nomatch hp
      have fr7 : ∀ b ∈ fp, s5.heap.get? b ≠ none → True := fun _ _ _ => trivial
      refine ⟨m', hm', i + 1, ys ++ [z], its ++ [yu], cn + 1, H7, J8, ?_, fun b hb => ?_, pD.2.1, ?_, rv3.append (.cons r7 .nil), ?_, w7⟩
      · refine T.keep _ _ _ st5 fun b hb o e => kp8 b o (fpD b hb) ?_
        exact (J7.pin (b, o) (List.mem_append_right _ (List.mem_append_right _ (mem_pinsAt hb e)))).1
      · obtain ⟨o, e, d⟩ := T.obj _ _ st5 b hb
        exact (J7.pin (b, o) (List.mem_append_right _ (List.mem_append_right _ (mem_pinsAt hb e)))).2.1
      · rw [hob8]; simp
      · rw [List.length_append, List.length_singleton]; exact hlt
  exact codeAny_compStart_list loop (T.self _ 0 _ _ _ st1 loop)

theorem up_snoc (hx : x ∉ X.N) (σ : St) (hl : σ.length = X.N.length) : (σ ++ [none]).length = (X.N ++ [x]).length ∧
    ∀ (i : Nat) (y : Str) (v : V), (X.N ++ [x])[i]? = some y → (σ ++ [none])[i]? = some (some v) → y ≠ x ∧ ∃ j : Nat, X.N[j]? = some y ∧ σ[j]? = some (some v) := by
  refine ⟨by rw [List.length_append, List.length_append, hl]; rfl, fun i y v h1 h2 => ?_⟩
  by_cases hi : i < σ.length
  · rw [List.getElem?_append_left hi] at h2
    rw [List.getElem?_append_left (by omega)] at h1
    refine ⟨fun z => hx (z ▸ List.mem_of_getElem? h1), i, h1, h2⟩
  · rw [List.getElem?_append_right (by omega)] at h2
    rcases Nat.eq_zero_or_pos (i - σ.length) with z | z
    · rw [z] at h2; simp at h2
    · rw [List.getElem?_eq_none (by show 1 ≤ i - σ.length; omega)] at h2; cases h2
/-- the comprehension's name is none of the def's: it stands behind them -/
theorem pe_comp {osc : Scope} {oN ops : List Str} (SC : FnScope oN ops osc) (S : CompScope osc oN scope x) (hx : x ∉ oN) (hi : PI X (.Name x px) iter wi)
    (he : ∀ C fp s H, PE (cxComp X scope (X.N ++ [x]) C fp s H) elt te) (hc : X.calm = true := by rfl) (e1 : X.env.scope = osc := by rfl) (e2 : X.N = oN := by rfl) (hs : ∀ v, foldedSetIterable iter X.env v = pure v := by intro _; rfl) :
    PE X (.ListComp elt [⟨.Name x px, iter, [], 0⟩] scope pos) (tComp wi (fun σ v => (σ ++ [none]).set X.N.length (some v)) te) := by
  have hx' : x ∉ X.N := by rw [e2]; exact hx
  have hnd : X.N.Nodup := by rw [e2]; exact SC.nd
  refine pe_compG (up := fun σ => σ ++ [none]) (by rw [e1, e2]; exact S) hc (by rw [List.nodup_append]; exact ⟨hnd, by simp, by intro a ha b hb; simp at hb; subst hb; exact fun e => hx' (e ▸ ha)⟩) (by simp) (up_snoc hx') hi he hs
end

/-! ### the forms one uses -/
theorem comp_range {lo : Int} {n : Nat} {et : V → Hp → VK → Prop} {H : Hp} {fin : Addr → List V → Hp → Prop} (Pv : Nat → List V → Hp → Prop) (hn : n ≤ sizeLine) (h0 : Pv 0 [] H) (hl : ∀ i ys H, Pv i ys H → ys.length = i)
    (hs : ∀ i ys H, i < n → Pv i ys H → et (.int (lo + i)) H fun y H3 => Pv (i + 1) (ys ++ [y]) H3) (hd : ∀ ys H, Pv n ys H → ∀ D, H D = none → fin D ys H) :
    ∃ W : Nat → Nat → List V → Hp → Prop, (∃ m, W 0 m [] H) ∧ ∀ i m ys H, W i m ys H →
      ((Itr lo n).stop i H ∧ ∀ D, H D = none → fin D ys H) ∨
      ((Itr lo n).go i H ∧ ys.length < sizeLine ∧ ∃ Nx : V → Hp → Prop, (∀ y H3, Nx y H3 → ∃ m', m' < m ∧ W (i + 1) m' (ys ++ [y]) H3) ∧ ∀ x H', (Itr lo n).yld i H x H' → et x H' Nx) := by
  refine ⟨fun i m ys H => m = n - i ∧ i ≤ n ∧ Pv i ys H, ⟨n, by simp, Nat.zero_le _, h0⟩, ?_⟩
  rintro i m ys H ⟨rfl, hi, p⟩
  by_cases hlt : i < n
  · refine .inr ⟨hlt, by rw [hl i ys H p]; omega, _, fun y H3 q => ⟨n - (i + 1), by omega, rfl, hlt, q⟩, fun x H' q => ?_⟩
    obtain ⟨e, q⟩ := q
    subst e q
    exact hs i ys _ hlt p
  · have e : i = n := by omega
    subst e
    exact .inl ⟨Nat.le_refl _, hd ys H p⟩
theorem comp_list {K : PySem.W.Frag} {a : Addr} {xs : List V} {et : V → Hp → VK → Prop} {H : Hp} {fin : Addr → List V → Hp → Prop} (Pv : Nat → List V → Hp → Prop) (hn : xs.length ≤ sizeLine) (h0 : Pv 0 [] H) (hl : ∀ i ys H, Pv i ys H → ys.length = i)
    (hq : ∀ i ys H, i ≤ xs.length → Pv i ys H → SqL K H a xs)
    (hs : ∀ i ys H v, xs[i]? = some v → Pv i ys H → et v H fun y H3 => Pv (i + 1) (ys ++ [y]) H3) (hd : ∀ ys H, Pv xs.length ys H → ∀ D, H D = none → fin D ys H) :
    ∃ W : Nat → Nat → List V → Hp → Prop, (∃ m, W 0 m [] H) ∧ ∀ i m ys H, W i m ys H →
      ((Itl K a).stop i H ∧ ∀ D, H D = none → fin D ys H) ∨
      ((Itl K a).go i H ∧ ys.length < sizeLine ∧ ∃ Nx : V → Hp → Prop, (∀ y H3, Nx y H3 → ∃ m', m' < m ∧ W (i + 1) m' (ys ++ [y]) H3) ∧ ∀ x H', (Itl K a).yld i H x H' → et x H' Nx) := by
  refine ⟨fun i m ys H => m = xs.length - i ∧ i ≤ xs.length ∧ Pv i ys H, ⟨xs.length, by simp, Nat.zero_le _, h0⟩, ?_⟩
  rintro i m ys H ⟨rfl, hi, p⟩
  have q := hq i ys H hi p
  by_cases hlt : i < xs.length
  · refine .inr ⟨⟨xs, xs[i], q, by simp [hlt]⟩, by rw [hl i ys H p]; omega, _, fun y H3 q => ⟨xs.length - (i + 1), by omega, rfl, hlt, q⟩, fun x H' yl => ?_⟩
    obtain ⟨e, yl⟩ := yl
    subst e
    exact hs i ys _ x (yl xs q) p
  · have e : i = xs.length := by omega
    subst e
    exact .inl ⟨⟨xs, q, Nat.le_refl _⟩, hd ys H p⟩
theorem comp_tup {K : PySem.W.Frag} {a : Addr} {xs : List V} {et : V → Hp → VK → Prop} {H : Hp} {fin : Addr → List V → Hp → Prop} (Pv : Nat → List V → Hp → Prop) (hn : xs.length ≤ sizeLine) (h0 : Pv 0 [] H) (hl : ∀ i ys H, Pv i ys H → ys.length = i)
    (hq : ∀ i ys H, i ≤ xs.length → Pv i ys H → SqT K H a xs)
    (hs : ∀ i ys H v, xs[i]? = some v → Pv i ys H → et v H fun y H3 => Pv (i + 1) (ys ++ [y]) H3) (hd : ∀ ys H, Pv xs.length ys H → ∀ D, H D = none → fin D ys H) :
    ∃ W : Nat → Nat → List V → Hp → Prop, (∃ m, W 0 m [] H) ∧ ∀ i m ys H, W i m ys H →
      ((Itt K a).stop i H ∧ ∀ D, H D = none → fin D ys H) ∨
      ((Itt K a).go i H ∧ ys.length < sizeLine ∧ ∃ Nx : V → Hp → Prop, (∀ y H3, Nx y H3 → ∃ m', m' < m ∧ W (i + 1) m' (ys ++ [y]) H3) ∧ ∀ x H', (Itt K a).yld i H x H' → et x H' Nx) := by
  refine ⟨fun i m ys H => m = xs.length - i ∧ i ≤ xs.length ∧ Pv i ys H, ⟨xs.length, by simp, Nat.zero_le _, h0⟩, ?_⟩
  rintro i m ys H ⟨rfl, hi, p⟩
  have q := hq i ys H hi p
  by_cases hlt : i < xs.length
  · refine .inr ⟨⟨xs, xs[i], q, by simp [hlt]⟩, by rw [hl i ys H p]; omega, _, fun y H3 q => ⟨xs.length - (i + 1), by omega, rfl, hlt, q⟩, fun x H' yl => ?_⟩
    obtain ⟨e, yl⟩ := yl
    subst e
    exact hs i ys _ x (yl xs q) p
  · have e : i = xs.length := by omega
    subst e
    exact .inl ⟨⟨xs, q, Nat.le_refl _⟩, hd ys H p⟩
end L2

set_option Elab.async false
set_option linter.all false
set_option maxRecDepth 100000
namespace L2
open PySem PySem.Spec PyProof.Rows

/-! ### the signs of a text -/
theorem walks_str {prog : Program} {w : World} {A : Around} (hh : A.handled = none) (I : Addr) (x : Str) (t : Tok) :
    Walks prog w A I [I] [I] x.cps.size (SignAt x) (fun i h => h.IsStrIter I (strIterType x) x t i) := by
  unfold strIterType
  cases ha : x.cps.all (· < 128)
  · exact Walks.strWide hh I x t
  · exact Walks.strAscii hh I x t
def Its (x : Str) : It := ⟨fun i _ => i < x.cps.size, fun i H v H' => H' = H ∧ ∃ c, x.cps[i]? = some c ∧ v = .str ⟨#[c]⟩, fun i _ => x.cps.size ≤ i⟩
theorem strIter_not (x : Str) : ["enumerate", "zip", "dict_itemiterator", "dict_reverseitemiterator", "odict_iterator", "itertools.zip_longest", "itertools.pairwise"].contains (strIterType x) = false := by
  unfold strIterType
  cases x.cps.all (· < 128) <;> decide
theorem turn_str {P : Program} {w : World} {K : PySem.W.Frag} {tg : Expr} (it : Addr) (x : Str) (t : Tok) : Turn P w K tg (Its x) [it] it (fun i h => i ≤ x.cps.size ∧ h.IsStrIter it (strIterType x) x t i) where
  mem := by simp
  obj := fun i h st b hb => by
    have e : b = it := by simpa using hb
    subst e
    obtain ⟨_, o, e, c, d⟩ := st
    exact ⟨o, e, fun v z => by rw [d] at z; cases z⟩
  keep := fun i h h' st k => by
    obtain ⟨hi, o, e, r⟩ := st
    exact ⟨hi, o, k it (by simp) o e, r⟩
  item := by
    intro X hP hw hK hc i pins s σ H E I hf st hg
    subst hP hw hK
    obtain ⟨f0, f1, f2, f3, f4, f5⟩ := hf it (by simp)
    have hg' : i < x.cps.size := hg
    have W := walks_str (prog := X.prog) (w := X.w) (A := X.A) (I.ok.hd hc) it x t
    refine W.item i s _ _ hg' st.2 fun v h' tk hv st' kk => ?_
    obtain ⟨c, u, hcu, rfl⟩ := hv
    have I1 : Inv X pins σ H { s with heap := h', toks := tk } := I.turned (fun b o hb e => kk b o (by simpa using hb) e) f0 f1 f3 f4 f5
    obtain ⟨o, e, cc, d⟩ := id st'
    exact ⟨_, rfl, go_of (s := { s with heap := h', toks := tk }) (n := strIterType x) e cc d (strIter_not x) ⟨.str ⟨#[c]⟩, H, I1, ⟨u, rfl⟩, ⟨rfl, c, hcu, rfl⟩, ⟨hg', st'⟩, fun b hb => (hf b hb).1⟩⟩
  done := by
    intro X hP hw hK hc i pins s σ H E I hf st hg
    subst hP hw hK
    obtain ⟨f0, f1, f2, f3, f4, f5⟩ := hf it (by simp)
    have hg' : x.cps.size ≤ i := hg
    have e : i = x.cps.size := Nat.le_antisymm st.1 hg'
    subst e
    have W := walks_str (prog := X.prog) (w := X.w) (A := X.A) (I.ok.hd hc) it x t
    exact W.done s _ _ st.2 fun h' tk kk => ⟨rfl, I.turned (fun b o hb e => kk b o (by simpa using hb) e) f0 f1 f3 f4 f5⟩
  self := fun A i s Q E st h => by
    have st2 := st.2
    unfold strIterType at st2
    cases ha : x.cps.all (· < 128)
    · rw [ha] at st2; exact wpAny_pyIter_striter_wide st2 h
    · rw [ha] at st2; exact wpAny_pyIter_striter_ascii st2 h
section
variable {X : Cx} {tg : Expr}
def iStr (tl : TE) : TI := fun σ H R => tl σ H fun x H1 => ∃ z, x = .str z ∧ R (Its z) H1
theorem pi_str {l : Expr} {tl : TE} (hl : PE X l tl) : PI X tg l (iStr tl) := by
  (first | constructor | skip)
  intro pins s σ H R I h
  refine thn (hl pins s σ H _ I h) fun v s1 ⟨x, H1, I1, r1, q1⟩ => ?_
  obtain ⟨z, e, q⟩ := q1
  subst e
  obtain ⟨t, rfl⟩ := r1
  refine wpAny_pyIter_strU ?_
  refine ⟨s1.heap.objs.size, [s1.heap.objs.size], _, _, H1, rfl, I1.kept (t' := s1.toks) fun b o e => Heap.get?_push_of_some _ e, turn_str _ z t, ⟨Nat.zero_le _, ⟨_, Heap.get?_push_size _ rfl, rfl, rfl⟩⟩, fun b hb => ?_, q⟩
  have e : b = s1.heap.objs.size := by simpa using hb
  subst e
  exact I1.fpOk (Nat.le_refl _) (I1.hok.fresh (Nat.le_refl _))
end
/-- the signs of x, one by one -/
def sgns (x : Str) : List V := x.cps.toList.map fun c => V.str ⟨#[c]⟩
theorem sgns_at {x : Str} {i c : Nat} (h : x.cps[i]? = some c) : (sgns x)[i]? = some (.str ⟨#[c]⟩) := by
  unfold sgns
  rw [List.getElem?_map]
  have : x.cps.toList[i]? = some c := by simpa using h
  rw [this]; rfl
theorem comp_str {z : Str} {et : V → Hp → VK → Prop} {H : Hp} {fin : Addr → List V → Hp → Prop} (Pv : Nat → List V → Hp → Prop) (hn : z.length ≤ sizeLine) (h0 : Pv 0 [] H) (hl : ∀ i ys H, Pv i ys H → ys.length = i)
    (hs : ∀ i ys H c, z.cps[i]? = some c → Pv i ys H → et (.str ⟨#[c]⟩) H fun y H3 => Pv (i + 1) (ys ++ [y]) H3) (hd : ∀ ys H, Pv z.cps.size ys H → ∀ D, H D = none → fin D ys H) :
    ∃ W : Nat → Nat → List V → Hp → Prop, (∃ m, W 0 m [] H) ∧ ∀ i m ys H, W i m ys H →
      ((Its z).stop i H ∧ ∀ D, H D = none → fin D ys H) ∨
      ((Its z).go i H ∧ ys.length < sizeLine ∧ ∃ Nx : V → Hp → Prop, (∀ y H3, Nx y H3 → ∃ m', m' < m ∧ W (i + 1) m' (ys ++ [y]) H3) ∧ ∀ x H', (Its z).yld i H x H' → et x H' Nx) := by
  have hn' : z.cps.size ≤ sizeLine := hn
  refine ⟨fun i m ys H => m = z.cps.size - i ∧ i ≤ z.cps.size ∧ Pv i ys H, ⟨z.cps.size, by simp, Nat.zero_le _, h0⟩, ?_⟩
  rintro i m ys H ⟨rfl, hi, p⟩
  by_cases hlt : i < z.cps.size
  · refine .inr ⟨hlt, by rw [hl i ys H p]; omega, _, fun y H3 q => ⟨z.cps.size - (i + 1), by omega, rfl, hlt, q⟩, fun x H' yl => ?_⟩
    obtain ⟨e, c, hc, e2⟩ := yl
    subst e e2
    exact hs i ys _ c hc p
  · have e : i = z.cps.size := by omega
    subst e
    exact .inl ⟨Nat.le_refl _, hd ys H p⟩

/-! ### all(a list of bools) -/
theorem vals_bls : ∀ {bs : List Bool} {us : List Value}, Vals (bs.map V.bl) us → us = bs.map Value.bool
  | [], _, r => by rw [List.map_nil] at r; cases r; rfl
  | b :: bs, _, r => by
    rw [List.map_cons] at r
    cases r with
    | cons h t =>
      cases (show _ = Value.bool b from h)
      rw [vals_bls t]; rfl
theorem range_all (bs : List Bool) : (List.range bs.length).all (fun i => bs.getD i false) = bs.all id := by
  rw [Bool.eq_iff_iff, List.all_eq_true, List.all_eq_true]
  constructor
  · intro h b hb
    obtain ⟨i, hi, e⟩ := List.getElem_of_mem hb
    have := h i (List.mem_range.mpr hi)
    rw [List.getD_eq_getElem?_getD, List.getElem?_eq_getElem hi] at this
    rw [← e]; simpa using this
  · intro h i hi
    have hi' := List.mem_range.mp hi
    have := h bs[i] (List.getElem_mem hi')
    rw [List.getD_eq_getElem?_getD, List.getElem?_eq_getElem hi']; simpa using this
section
variable {X : Cx}
theorem call_all (hc : X.calm = true) : CallR X (.builtin "all") (fun xs H Q => ∃ (p : Addr) (bs : List Bool), xs = [.ref p] ∧ SqL X.K H p (bs.map V.bl) ∧ Q (.bl (bs.all id)) H) := by
  (first | constructor | skip)
  intro pins s σ H xs us Q I r h
  obtain ⟨p, bs, rfl, hq, q⟩ := h
  obtain ⟨u, rfl, rx⟩ := vals1 r
  cases rx
  obtain ⟨its, rv, pl, hz⟩ := I.list hq
  have hits := vals_bls rv
  have hlt : p < s.heap.objs.size := by
    obtain ⟨o, n, e, _⟩ := pl
    exact Heap.lt_size e
  refine call_all_walk (wpAny_pyIter_list pl.isList ?_)
  refine ⟨_, _, _, _, _, _, fun i => bs.getD i false, rfl, Walks.list (show X.A.in1.handled = none from I.ok.hd hc) s.heap.objs.size p (Nat.ne_of_lt hlt) its.toArray, ⟨⟨_, Heap.get?_push_size _ rfl, rfl, rfl⟩, pl.isList.push _⟩, ?_, fun h' tk kk => ?_⟩
  · intro i v s' Q' E' hv hQ'
    have hv' : its[i]? = some v := by simpa using hv
    rw [hits, List.getElem?_map] at hv'
    cases hb : bs[i]? with
    | none => rw [hb] at hv'; cases hv'
    | some b =>
      rw [hb] at hv'
      cases hv'
      refine wpAny_truthy_bool ?_
      have hQ2 : Q' (bs.getD i false) s' := hQ'
      rw [List.getD_eq_getElem?_getD, hb] at hQ2
      exact hQ2
  · have e : its.toArray.size = bs.length := by rw [List.size_toArray, hits, List.length_map]
    refine ⟨.bl (bs.all id), H, I.kept fun b o e => kk b o (fun hb => ?_) (Heap.get?_push_of_some _ e), ?_, q⟩
    · have hb' : b = s.heap.objs.size := by simpa using hb
      exact absurd (hb' ▸ Heap.lt_size e) (Nat.lt_irrefl _)
    · show Value.bool _ = Value.bool _
      rw [e, range_all]

/-! ### texts -/
theorem strsAre_of {ys : List Str} : ∀ {us : List Value}, Vals (ys.map V.str) us → StrsAre us ys := by
  induction ys with
  | nil => intro us r; rw [List.map_nil] at r; cases r; exact .nil
  | cons y ys ih =>
    intro us r
    rw [List.map_cons] at r
    cases r with
    | cons r1 r2 =>
      obtain ⟨t, e⟩ := r1
      subst e
      exact .cons y t (ih r2)
theorem mt_join : MtM X "str.join" (fun x xs H Q => ∃ (z : Str) (p : Addr) (ys : List Str), x = .str z ∧ xs = [.ref p] ∧ SqL X.K H p (ys.map V.str) ∧ (ys.map (·.length)).sum + ys.length * z.length ≤ 16777216 ∧ Q (.str (Txt.join z ys)) H) := by
  (first | constructor | skip)
  intro pins s σ H x xs v us Q I rx rs h
  obtain ⟨z, p, ys, rfl, rfl, hq, hz, q⟩ := h
  obtain ⟨t, rfl⟩ := rx
  obtain ⟨u, rfl, ru⟩ := rs.one
  cases ru
  obtain ⟨its, rv, pl, _⟩ := I.list hq
  exact join_list pl.isList (by simpa using strsAre_of rv) hz fun t' k => ⟨.str _, H, I.tok _, ⟨_, rfl⟩, q⟩
theorem mt_startswith : MtM X "str.startswith" (fun x xs H Q => ∃ z y, x = .str z ∧ xs = [.str y] ∧ Q (.bl (Txt.startswith z y)) H) := by
  (first | constructor | skip)
  intro pins s σ H x xs v us Q I rx rs h
  obtain ⟨z, y, rfl, rfl, q⟩ := h
  obtain ⟨t, rfl⟩ := rx
  obtain ⟨u, rfl, ru⟩ := rs.one
  obtain ⟨t', rfl⟩ := ru
  exact SC.startswith ⟨.bl _, H, I, rfl, q⟩
theorem vals_strs : ∀ (l : List (Str × Tok)), Vals ((l.map (·.1)).map V.str) (strValues l)
  | [] => .nil
  | (y, t) :: l => .cons ⟨t, rfl⟩ (vals_strs l)
theorem sl_str : SlR X (fun x lo hi H Q => ∃ z, x = .str z ∧ z.length ≤ sizeLine ∧ Q (.str (Txt.slice z lo hi)) H) := by
  (first | constructor | skip)
  intro pins s σ H x v vl vu lo hi sl Q I rx hs pl pu h
  obtain ⟨z, rfl, hz, q⟩ := h
  obtain ⟨t, rfl⟩ := rx
  refine ⟨"str", _, F.slot_str_getitem.lookup, typeIs_str _ _ _, ?_⟩
  obtain ⟨o, ho, hc, hd⟩ := hs
  cases pl with
  | none =>
    cases pu with
    | none => exact wpAny_getItem_str_slice (l := none) (u := none) (st := none) ⟨o, ho, hc, hd⟩ rfl (post_val_or_str ⟨Nat.le_trans (Txt.slice_le z none none) hz, fun t' k => ⟨.str _, H, I.tok _, ⟨_, rfl⟩, q⟩⟩)
    | int j uj => exact wpAny_getItem_str_slice (l := none) (u := some (j, uj)) (st := none) ⟨o, ho, hc, hd⟩ rfl (post_val_or_str ⟨Nat.le_trans (Txt.slice_le z none (some j)) hz, fun t' k => ⟨.str _, H, I.tok _, ⟨_, rfl⟩, q⟩⟩)
  | int i ui =>
    cases pu with
    | none => exact wpAny_getItem_str_slice (l := some (i, ui)) (u := none) (st := none) ⟨o, ho, hc, hd⟩ rfl (post_val_or_str ⟨Nat.le_trans (Txt.slice_le z (some i) none) hz, fun t' k => ⟨.str _, H, I.tok _, ⟨_, rfl⟩, q⟩⟩)
    | int j uj => exact wpAny_getItem_str_slice (l := some (i, ui)) (u := some (j, uj)) (st := none) ⟨o, ho, hc, hd⟩ rfl (post_val_or_str ⟨Nat.le_trans (Txt.slice_le z (some i) (some j)) hz, fun t' k => ⟨.str _, H, I.tok _, ⟨_, rfl⟩, q⟩⟩)

/-! ### isinstance(x, a built-in type or an own class) -/
def clsV : V → Option Value
  | .ty n => some (.type n)
  | .ref a => some (.ref a)
  | _ => none
theorem call_isinst : CallR X (.builtin "isinstance") (fun xs H Q => ∃ x c ty tc b, xs = [x, c] ∧ TyOf X.K H x ty ∧ clsV c = some tc ∧ PySem.W.kitOne X.K ty tc = some b ∧ Q (.bl b) H) := by
  (first | constructor | skip)
  intro pins s σ H xs us Q I r h
  obtain ⟨x, c, ty, tc, b, rfl, hty, hc, hk, q⟩ := h
  obtain ⟨u, w', rfl, ru, rw'⟩ := vals2 r
  have e : w' = tc := by
    cases c with
    | ty n => cases (show w' = Value.type n from rw'); exact Option.some.inj hc
    | ref a => cases (show w' = Value.ref a from rw'); exact Option.some.inj hc
    | _ => exact nomatch hc
  subst e
  exact isinst_ok I ru hty hk fun tk => ⟨.bl b, H, I.tok _, rfl, q⟩
end
end L2

set_option Elab.async false
set_option linter.all false
set_option maxRecDepth 100000
/-! A def of the text by its promise alone; the law's own draw. -/
namespace L2
open PySem PySem.Spec PyProof.Rows
/-- a def that the text's top has bound to the name x, with its promise -/
structure Def (P : Program) (w : World) (K : PySem.W.Frag) (mg : Str → Option Value) (base : Heap) (k : Nat) (x : Str) (ps : List Str) (sp : Sp) : Prop where
  ex : ∃ f fd, FnOk P w K mg base CX0 k f fd ps sp ∧ mg x = some (.ref f) ∧ PySem.W.keepIn K (.ref f) = true ∧ Binds K fd ps []
section
variable {X : Cx} {k : Nat} {ps : List Str} {sp : Sp} {x : Str} {p pos : Pos} {e : Expr} {es : List Expr} {t : TA}
theorem pe_def (D : Def X.prog X.w X.K X.mg X.base k x ps sp) (hr : Room k X.A) (ha : PA X (e :: es) t) (hg : Gl X x := by rfl) (hdb : (x == ("__debug__" : Str)) = false := by decide)
    (he : starEach (e :: es) X.env = (false, eval e X.env) :: starEach es X.env := by rfl) (hpl : (backTo pos (starEach es X.env)).any (·.1) = false := by rfl) :
    PE X (.Call (.Name x p) (e :: es) [] pos) (tCall sp [] E0 t) := by
  obtain ⟨f, fd, F, hm, hk, hb⟩ := D.ex
  exact pe_call F hr hg hm hk hb .nil pass0 ha hdb he hpl
theorem pe_def0 (D : Def X.prog X.w X.K X.mg X.base k x ps sp) (hr : Room k X.A) (hg : Gl X x := by rfl) (hdb : (x == ("__debug__" : Str)) = false := by decide) : PE X (.Call (.Name x p) [] [] pos) (tCall sp [] E0 tNil) := by
  obtain ⟨f, fd, F, hm, hk, hb⟩ := D.ex
  exact pe_call0 F hr hg hm hk hb .nil pass0 hdb
end
theorem Same.upd {H H' : Hp} {a : Addr} {o : HO} (s : Same H H') (h : H' a = none) : Same H (upd H' a o) := fun b u e => by
  have q := s b u e
  rw [upd_ne (ne_of_none q h)]; exact q
/-- all that was tracked but the object at d is as it was -/
def Step (d : Addr) (H H' : Hp) : Prop := ∀ b o, H b = some o → b ≠ d → H' b = some o
theorem Step.refl (d : Addr) (H : Hp) : Step d H H := fun _ _ h _ => h
theorem Step.trans {d : Addr} {H H1 H2 : Hp} (a : Step d H H1) (b : Step d H1 H2) : Step d H H2 := fun c o h n => b c o (a c o h n) n
theorem Step.of {d : Addr} {H H1 : Hp} (a : Same H H1) : Step d H H1 := fun c o h _ => a c o h
theorem Step.new {d a : Addr} {H H1 : Hp} {o : HO} (s : Step d H H1) (h : H1 a = none) : Step d H (upd H1 a o) := fun b u e n => by
  have q := s b u e n
  rw [upd_ne (ne_of_none q h)]; exact q
theorem Step.free {d : Addr} {H H' : Hp} (e : Step d H H') {l : Addr} (hd : l ≠ d) (h : H' l = Option.none) : H l = Option.none := by
  cases q : H l with
  | none => rfl
  | some o =>
    rw [e l o q hd] at h
    cases h
theorem Step.seq {K : PySem.W.Frag} {d : Addr} {H H' : Hp} {a : Addr} {xs : List V} (e : Step d H H') (hd : a ≠ d) (h : SqL K H a xs) : SqL K H' a xs := by
  rcases h with (h | ⟨o, h⟩) | h
  · exact .inl (.inl (e _ _ h hd))
  · exact .inl (.inr ⟨o, e _ _ h hd⟩)
  · exact .inr h

/-! ### the law's draw: a dict with its cells, its place, its rest -/
theorem nCA : ¬ (("cells" : Str) = "at") := by decide +kernel
theorem nCR : ¬ (("cells" : Str) = "rest") := by decide +kernel
theorem nAC : ¬ (("at" : Str) = "cells") := by decide +kernel
theorem nAR : ¬ (("at" : Str) = "rest") := by decide +kernel
theorem nRC : ¬ (("rest" : Str) = "cells") := by decide +kernel
theorem nRA : ¬ (("rest" : Str) = "at") := by decide +kernel
def kC : Key := Sum.inr "cells"
def kA : Key := Sum.inr "at"
def kR : Key := Sum.inr "rest"
theorem neK {a b : Str} (h : ¬ a = b) : ¬ ((Sum.inr a : Key) = Sum.inr b) := fun e => h (Sum.inr.inj e)
def drawKvs (c : Addr) (a r : Int) : List (Key × V) := [(kC, V.ref c), (kA, V.int a), (kR, V.int r)]
theorem dv_cells (c : Addr) (a r : Int) : valV (drawKvs c a r) kC = some (V.ref c) := valV_pos rfl
theorem dv_at (c : Addr) (a r : Int) : valV (drawKvs c a r) kA = some (V.int a) := by
  unfold drawKvs
  rw [valV_neg (neK nCA), valV_pos rfl]
theorem dv_rest (c : Addr) (a r : Int) : valV (drawKvs c a r) kR = some (V.int r) := by
  unfold drawKvs
  rw [valV_neg (neK nCR), valV_neg (neK nAR), valV_pos rfl]
theorem dp_at (c : Addr) (a r z : Int) : putK (drawKvs c a r) kA (V.int z) = drawKvs c z r := by
  unfold putK
  rw [if_pos (by rw [valV_any, dv_at]; rfl)]
  unfold drawKvs
  rw [List.map_cons, List.map_cons, List.map_cons, List.map_nil, if_neg (show ¬ (kC, V.ref c).fst = kA from neK nCA), if_pos rfl, if_neg (show ¬ (kR, V.int r).fst = kA from neK nRA)]
theorem dp_rest (c : Addr) (a r z : Int) : putK (drawKvs c a r) kR (V.int z) = drawKvs c a z := by
  unfold putK
  rw [if_pos (by rw [valV_any, dv_rest]; rfl)]
  unfold drawKvs
  rw [List.map_cons, List.map_cons, List.map_cons, List.map_nil, if_neg (show ¬ (kC, V.ref c).fst = kR from neK nCR), if_neg (show ¬ (kA, V.int a).fst = kR from neK nAR), if_pos rfl]
theorem dm_new (c : Addr) (a r : Int) : mergeK [] (drawKvs c a r) = drawKvs c a r := by
  show putK (putK (putK [] kC (V.ref c)) kA (V.int a)) kR (V.int r) = drawKvs c a r
  rw [putK_new (k := kC) _ valV_nil]
  have h1 : valV ([] ++ [(kC, V.ref c)] : List (Key × V)) kA = none := by
    show valV [(kC, V.ref c)] kA = none
    rw [valV_neg (neK nCA), valV_nil]
  rw [putK_new (k := kA) _ h1]
  have h2 : valV ([] ++ [(kC, V.ref c)] ++ [(kA, V.int a)] : List (Key × V)) kR = none := by
    show valV [(kC, V.ref c), (kA, V.int a)] kR = none
    rw [valV_neg (neK nCR), valV_neg (neK nAR), valV_nil]
  rw [putK_new (k := kR) _ h2]
  rfl
structure Draw (H : Hp) (d : Addr) (n : Nat) : Prop where
  ex : ∃ (c : Addr) (cells : List Int) (a r : Int), H d = some (.dK (drawKvs c a r)) ∧ H c = some (.lst (cells.map V.int)) ∧ 0 < cells.length ∧ cells.length ≤ 100 ∧ 0 ≤ a ∧ a ≤ n
theorem Draw.mono {H : Hp} {d : Addr} {n m : Nat} (D : Draw H d n) (h : n ≤ m) : Draw H d m := by
  obtain ⟨c, cells, a, r, h1, h2, h3, h4, h5, h6⟩ := D.ex
  exact ⟨c, cells, a, r, h1, h2, h3, h4, h5, by omega⟩
theorem Draw.same {H H' : Hp} {d : Addr} {n : Nat} (D : Draw H d n) (s : Same H H') : Draw H' d n := by
  obtain ⟨c, cells, a, r, h1, h2, h⟩ := D.ex
  exact ⟨c, cells, a, r, s _ _ h1, s _ _ h2, h⟩
theorem Draw.some {H : Hp} {d : Addr} {n : Nat} (D : Draw H d n) : ∃ kvs, H d = Option.some (.dK kvs) := by
  obtain ⟨c, cells, a, r, h1, _⟩ := D.ex
  exact ⟨_, h1⟩
theorem Draw.new {H : Hp} {d p : Addr} {n : Nat} {o : HO} (D : Draw H d n) (h : H p = none) : Draw (upd H p o) d n := D.same ((Same.refl H).upd h)
theorem get_cells {H : Hp} {d c : Addr} {a r : Int} (h : H d = some (.dK (drawKvs c a r))) : DGet H d (V.str "cells") (some (V.ref c)) := by
  have := DGet.k (k := kC) h
  rw [dv_cells] at this
  exact this
theorem get_at {H : Hp} {d c : Addr} {a r : Int} (h : H d = some (.dK (drawKvs c a r))) : DGet H d (V.str "at") (some (V.int a)) := by
  have := DGet.k (k := kA) h
  rw [dv_at] at this
  exact this
theorem get_rest {H : Hp} {d c : Addr} {a r : Int} (h : H d = some (.dK (drawKvs c a r))) : DGet H d (V.str "rest") (some (V.int r)) := by
  have := DGet.k (k := kR) h
  rw [dv_rest] at this
  exact this
theorem put_at {H : Hp} {d c : Addr} {a r z : Int} (h : H d = some (.dK (drawKvs c a r))) : DPut H d (V.str "at") (V.int z) (upd H d (.dK (drawKvs c z r))) := by
  have := DPut.k (k := kA) (v := V.int z) h (by show 3 < sizeLine; decide)
  rw [dp_at] at this
  exact this
theorem put_rest {H : Hp} {d c : Addr} {a r z : Int} (h : H d = some (.dK (drawKvs c a r))) : DPut H d (V.str "rest") (V.int z) (upd H d (.dK (drawKvs c a z))) := by
  have := DPut.k (k := kR) (v := V.int z) h (by show 3 < sizeLine; decide)
  rw [dp_rest] at this
  exact this
theorem item_int {cells : List Int} {i : Int} (h0 : 0 ≤ i) (h1 : i < (cells.length : Int)) : ∃ z, atI (cells.map V.int) i = some (V.int z) := by
  obtain ⟨j, rfl⟩ := Int.eq_ofNat_of_zero_le h0
  have hj : j < cells.length := by omega
  exact ⟨cells[j], atI_nat (by rw [List.getElem?_map, List.getElem?_eq_getElem hj]; rfl)⟩
theorem item_at {α : Type} {xs : List α} {i : Int} (h0 : 0 ≤ i) (h1 : i < (xs.length : Int)) : ∃ z, atI xs i = some z ∧ z ∈ xs := by
  obtain ⟨j, rfl⟩ := Int.eq_ofNat_of_zero_le h0
  have hj : j < xs.length := by omega
  exact ⟨xs[j], atI_nat (List.getElem?_eq_getElem hj), List.getElem_mem hj⟩
theorem mod_bound (x : Int) {m : Int} (h : 0 < m) (h2 : m ≤ 2 ^ 63) : -(2 ^ 64) < x % m ∧ x % m < 2 ^ 64 := by
  have h3 := Int.emod_nonneg x (show m ≠ 0 by omega)
  have h4 := Int.emod_lt_of_pos x h
  exact ⟨by omega, by omega⟩
theorem mod_bound2 (x : Int) {a : Int} (h0 : 0 ≤ a) (h1 : a ≤ 1000000) : -(2 ^ 64) < x % 1999999973 + a ∧ x % 1999999973 + a < 2 ^ 64 := by
  have h3 := Int.emod_nonneg x (show (1999999973 : Int) ≠ 0 by decide)
  have h4 := Int.emod_lt_of_pos x (show (0 : Int) < 1999999973 by decide)
  exact ⟨by omega, by omega⟩
/-- the promises of the law's draw -/
def spPick : Sp := fun vs H Q _ => ∃ (d : Addr) (n : Nat) (many : Int), vs = [.ref d, .int many] ∧ 0 < many ∧ many < 1073741824 ∧ Draw H d n ∧ n ≤ 1000000 ∧
  ∀ (r : Int) (H' : Hp), 0 ≤ r → r < many → Draw H' d (n + 1) → Step d H H' → Q (.int r) H'
def spDrawn (K : PySem.W.Frag) : Sp := fun vs H Q _ => ∃ (a : Addr) (ns : List Int), vs = [.ref a] ∧ SqL K H a (ns.map V.int) ∧ ns.length ≤ 63 ∧
  ∀ (d : Addr) (H' : Hp), H d = none → Draw H' d 0 → Same H H' → Q (.ref d) H'
def spLaw (K : PySem.W.Frag) : Sp := fun vs H Q _ => ∃ (a : Addr) (ns : List Int), vs = [.ref a] ∧ SqL K H a (ns.map V.int) ∧ ns.length ≤ 63 ∧ ∀ H', Q (.bl true) H'
end L2

set_option Elab.async false
set_option linter.all false
set_option maxRecDepth 100000
/-! zip of two tuples, walked by a target of two names. -/
namespace L2
open PySem PySem.Spec PyProof.Rows
section
variable {prog : Program} {w : World} {A : Around} {E : Value → Shared → Prop} {s : Shared}
theorem nextOf_tupI {it t : Addr} {i : Nat} {items : Array Value} {x : Value} {Q : Value → Shared → Prop} (hit : s.heap.IsTupleIter it t i) (ht : s.heap.IsTuple t items) (hx : items[i]? = some x)
    (hQ : ∀ h', h'.IsTupleIter it t (i + 1) → Heap.SameBut it s.heap h' → Q x { s with heap := h' }) : wpAny (model prog w) A (Builtin.SmallTypes.nextOf (.ref it)) Q E s := by
  obtain ⟨o, ho, hc, hd⟩ := id hit
  obtain ⟨ot, hot, _, nt, hdt⟩ := ht
  unfold Builtin.SmallTypes.nextOf
  refine wpAny_bind (wpAny_callSpecial?_slot (name := Str.ofString "__next__") hit.typeIs F.slot_tuple_iterator_next (wpAny_call_entry F.slot_tuple_iterator_next hit.typeIs F.entry_tuple_iterator_next ?_ (F.args_tuple_iterator_next_1 _)))
  show wpAny _ _ (field (.ref it) 0 >>= _) _ _ s
  refine wpAny_bind (wpAny_field ho hd (x := .ref t) rfl ?_)
  show wpAny _ _ (if (Value.ref t == Value.none) = true then _ else _) _ _ s
  rw [if_neg (show ¬ ((Value.ref t == Value.none) = true) from Bool.false_ne_true)]
  show wpAny _ _ (field (.ref it) 1 >>= _) _ _ s
  refine wpAny_bind (wpAny_field ho hd (x := .int i 0) rfl ?_)
  show wpAny _ _ (seqItems? (.ref t) >>= _) _ _ s
  refine wpAny_bind (wpAny_seqItems hot hdt ?_)
  simp only [Int.toNat_natCast, hx]
  refine wpAny_bind (wpAny_setField ho hd (by simp) (wpAny_pure ⟨x, rfl, wpAny_pure (hQ _ ?_ (Heap.SameBut.update ..))⟩))
  exact ⟨_, Heap.get?_update_self _ ho (Obj.isFreed_of_fields (Obj.data_mapFields hd _)), (Obj.cls_mapFields ..).trans hc, by rw [Obj.data_mapFields hd]; simp [rawInt]⟩
theorem nextOf_tupE {it t : Addr} {i : Nat} {items : Array Value} {Q : Value → Shared → Prop} (hh : A.handled = none) (hit : s.heap.IsTupleIter it t i) (ht : s.heap.IsTuple t items) (hx : items[i]? = none)
    (hE : ∀ h' e, Heap.ExtBut it s.heap h' → (∃ o, h'.get? e = some o ∧ o.cls = .type "StopIteration") → E (.ref e) { s with heap := h' }) : wpAny (model prog w) A (Builtin.SmallTypes.nextOf (.ref it)) Q E s := by
  obtain ⟨o, ho, hc, hd⟩ := id hit
  obtain ⟨ot, hot, _, nt, hdt⟩ := ht
  unfold Builtin.SmallTypes.nextOf
  refine wpAny_bind (wpAny_callSpecial?_slot (name := Str.ofString "__next__") hit.typeIs F.slot_tuple_iterator_next (wpAny_call_entry F.slot_tuple_iterator_next hit.typeIs F.entry_tuple_iterator_next ?_ (F.args_tuple_iterator_next_1 _)))
  show wpAny _ _ (field (.ref it) 0 >>= _) _ _ s
  refine wpAny_bind (wpAny_field ho hd (x := .ref t) rfl ?_)
  show wpAny _ _ (if (Value.ref t == Value.none) = true then _ else _) _ _ s
  rw [if_neg (show ¬ ((Value.ref t == Value.none) = true) from Bool.false_ne_true)]
  show wpAny _ _ (field (.ref it) 1 >>= _) _ _ s
  refine wpAny_bind (wpAny_field ho hd (x := .int i 0) rfl ?_)
  show wpAny _ _ (seqItems? (.ref t) >>= _) _ _ s
  refine wpAny_bind (wpAny_seqItems hot hdt ?_)
  simp only [Int.toNat_natCast, hx]
  refine wpAny_bind (wpAny_rule (wpAny_bind (wpAny_setField ho hd (by simp) ?_)))
  show wpAny _ _ (newExc (.type "StopIteration") [] >>= _) _ _ _
  refine wpAny_bind ?_
  simp only [newExc, newTuple]
  refine wpAny_bind (wpAny_newObj_type ?_ (by size_fits))
  refine wpAny_bind (m := firstArgMember _ _) (wpAny_of_eq (a := Value.none) (by first | rfl | (simp only [firstArgMember]; rfl)) ?_)
  refine wpAny_newObj_type ?_ (by size_fits)
  simp only [raiseNew]
  refine wpAny_bind (wpAny_handled ?_)
  first | rw [show A.in1.handled = none from hh] | rw [hh]
  refine wpAny_bind (wpAny_pure (wpAny_throw ?_))
  exact hE _ _ (((Heap.SameBut.update ..).extBut.push _).push _) ⟨_, Heap.get?_push_size _ rfl, rfl⟩

/-- the zip object and what it holds stand apart -/
structure ZApart (z TI TO i1 i2 : Addr) : Prop where
  a1 : TI ≠ z
  a2 : TO ≠ z
  a3 : i1 ≠ z
  a4 : i2 ≠ z
  a5 : TI ≠ TO
  a6 : TI ≠ i1
  a7 : TI ≠ i2
  a8 : TO ≠ i1
  a9 : TO ≠ i2
  b1 : i1 ≠ i2
/-- the zip of the tuples t1, t2 at its k-th turn -/
def ZipT (z TI TO i1 i2 t1 t2 : Addr) (k : Nat) (h : Heap) : Prop := IsZip h z TI TO .none ∧ IsPair h TI (.ref i1) (.ref i2) ∧ (∃ a b, IsPair h TO a b) ∧ h.IsTupleIter i1 t1 k ∧ h.IsTupleIter i2 t2 k
/-- .. between its tuple's handing out and the store -/
def ZipM (z TI TO i1 i2 t1 t2 T : Addr) (k : Nat) (h : Heap) : Prop := IsZip h z TI TO (rawInt T) ∧ IsPair h TI (.ref i1) (.ref i2) ∧ (∃ a b, IsPair h TO a b) ∧ h.IsTupleIter i1 t1 (k + 1) ∧ h.IsTupleIter i2 t2 (k + 1)
theorem tupIter_but {h h' : Heap} {it t b : Addr} {i : Nat} (x : h.IsTupleIter it t i) (sb : Heap.ExtBut b h h') (ne : it ≠ b) : h'.IsTupleIter it t i :=
  let ⟨o, e, r⟩ := x; ⟨o, sb it o ne e, r⟩
theorem zipT_item {z TI TO i1 i2 t1 t2 : Addr} {k : Nat} {xs ys : Array Value} {x y : Value} {Q : Option Value → Shared → Prop} (D : ZApart z TI TO i1 i2) (n1 : t1 ≠ z ∧ t1 ≠ TO ∧ t1 ≠ i1 ∧ t1 ≠ i2) (n2 : t2 ≠ z ∧ t2 ≠ TO ∧ t2 ≠ i1 ∧ t2 ≠ i2)
    (Z : ZipT z TI TO i1 i2 t1 t2 k s.heap) (h1 : s.heap.IsTuple t1 xs) (h2 : s.heap.IsTuple t2 ys) (hx : xs[k]? = some x) (hy : ys[k]? = some y)
    (hQ : ∀ h', ZipM z TI TO i1 i2 t1 t2 s.heap.objs.size k h' → h'.get? s.heap.objs.size = some { cls := .type "tuple", data := .seq #[x, y] } →
      (∀ c o, c ≠ z → c ≠ TO → c ≠ i1 → c ≠ i2 → s.heap.get? c = some o → h'.get? c = some o) → Q (some (.ref s.heap.objs.size)) { s with heap := h' }) :
    wpAny (model prog w) A (pyNext (.ref z)) Q E s := by
  obtain ⟨hz, hTI, ⟨a, b, hTO⟩, g1, g2⟩ := Z
  have hT : s.TypeIs (.ref z) "zip" := ⟨_, hz, rfl⟩
  unfold pyNext
  refine wpAny_bind (wpAny_attempt (wpAny_callSpecial?_slot (name := Str.ofString "__next__") hT F.slot_zip_next (wpAny_call_entry F.slot_zip_next hT F.entry_zip_next ?_ (F.args_zip_next_1 _))))
  show wpAny _ _ (field (.ref z) 2 >>= _) _ _ _
  refine wpAny_bind (wpAny_field hz rfl (x := .bool false) rfl ?_)
  show wpAny _ _ (field (.ref z) 3 >>= _) _ _ _
  refine wpAny_bind (wpAny_field hz rfl (x := .ref TI) rfl ?_)
  refine wpAny_bind (wpAny_seqItems hTI rfl ?_)
  show wpAny _ _ (Builtin.SmallTypes.ownedTupleIsFree (.ref z) >>= _) _ _ _
  refine wpAny_bind ?_
  unfold Builtin.SmallTypes.ownedTupleIsFree
  refine wpAny_bind (wpAny_field hz rfl (x := .none) rfl (wpAny_pure ?_))
  simp only [if_true]
  refine wpAny_bind (wpAny_rule ?_)
  refine wpAny_bind (wpAny_field hz rfl (x := .ref TO) rfl ?_)
  refine wpAny_bind (wpAny_setField_rec hz (by simp) fun e₁ hz₁ sb₁ => ?_)
  replace hz₁ : IsZip e₁ z TI TO .ellipsis := hz₁
  refine wpAny_bind ?_
  simp only [List.zipIdx_cons, List.zipIdx_nil, List.forIn_cons, List.forIn_nil]
  refine wpAny_bind (wpAny_bind (wpAny_onRaise ?_))
  show wpAny _ _ (Builtin.SmallTypes.nextOf (.ref i1) >>= _) _ _ _
  refine wpAny_bind (nextOf_tupI (tupIter_but g1 sb₁.extBut D.a3) (h1.extBut sb₁.extBut n1.1) hx fun e₂ g1₂ sb₂ => wpAny_pure ?_)
  have hTO₂ : IsPair e₂ TO a b := sb₂.extBut _ _ D.a8 (sb₁.extBut _ _ D.a2 hTO)
  refine wpAny_bind (wpAny_seqItems hTO₂ rfl ?_)
  refine wpAny_bind (wpAny_updateSeq_pair hTO₂ fun e₃ hTO₃ sb₃ => ?_)
  replace hTO₃ : IsPair e₃ TO x b := hTO₃
  refine wpAny_bind (wpAny_letGo (wpAny_pure ?_))
  refine wpAny_bind (wpAny_bind (wpAny_onRaise ?_))
  show wpAny _ _ (Builtin.SmallTypes.nextOf (.ref i2) >>= _) _ _ _
  refine wpAny_bind (nextOf_tupI (tupIter_but (tupIter_but (tupIter_but g2 sb₁.extBut D.a4) sb₂.extBut D.b1.symm) sb₃.extBut D.a9.symm)
    (((h2.extBut sb₁.extBut n2.1).extBut sb₂.extBut n2.2.2.1).extBut sb₃.extBut n2.2.1) hy fun e₄ g2₄ sb₄ => wpAny_pure ?_)
  have hTO₄ : IsPair e₄ TO x b := sb₄.extBut _ _ D.a9 hTO₃
  refine wpAny_bind (wpAny_seqItems hTO₄ rfl ?_)
  refine wpAny_bind (wpAny_updateSeq_pair hTO₄ fun e₅ hTO₅ sb₅ => ?_)
  replace hTO₅ : IsPair e₅ TO x y := hTO₅
  refine wpAny_bind (wpAny_letGo (wpAny_pure (wpAny_pure ?_)))
  refine wpAny_bind (wpAny_seqItems hTO₅ rfl ?_)
  refine wpAny_bind (wpAny_newTuple ?_)
  have hsz : e₅.objs.size = s.heap.objs.size := by rw [sb₅.1, sb₄.1, sb₃.1, sb₂.1, sb₁.1]
  have hz₅ : IsZip e₅ z TI TO .ellipsis := sb₅.extBut _ _ D.a2.symm (sb₄.extBut _ _ D.a4.symm (sb₃.extBut _ _ D.a2.symm (sb₂.extBut _ _ D.a3.symm hz₁)))
  have kp₅ : ∀ c o, c ≠ z → c ≠ TO → c ≠ i1 → c ≠ i2 → s.heap.get? c = some o → e₅.get? c = some o := fun c o c1 c2 c3 c4 e =>
    sb₅.extBut _ _ c2 (sb₄.extBut _ _ c4 (sb₃.extBut _ _ c2 (sb₂.extBut _ _ c3 (sb₁.extBut _ _ c1 e))))
  have g1₅ : e₅.IsTupleIter i1 t1 (k + 1) := tupIter_but (tupIter_but (tupIter_but g1₂ sb₃.extBut D.a8.symm) sb₄.extBut D.b1) sb₅.extBut D.a8.symm
  have g2₅ : e₅.IsTupleIter i2 t2 (k + 1) := tupIter_but g2₄ sb₅.extBut D.a9.symm
  have zlt : z < e₅.objs.size := Heap.lt_size hz₅
  show wpAny _ _ (Builtin.SmallTypes.ownedTupleHandOut (.ref z) (.ref e₅.objs.size) >>= _) _ _ _
  refine wpAny_bind ?_
  unfold Builtin.SmallTypes.ownedTupleHandOut
  have hz₆ : IsZip (e₅.push { cls := .type "tuple", data := .seq #[x, y] }) z TI TO .ellipsis := Heap.get?_push_of_some _ hz₅
  refine wpAny_bind (wpAny_setField_rec hz₆ (by simp) fun e₇ hz₇ sb₇ => ?_)
  replace hz₇ : IsZip e₇ z TI TO (rawInt e₅.objs.size) := hz₇
  refine wpAny_setField_rec hz₇ (by simp) fun e₈ hz₈ sb₈ => ?_
  replace hz₈ : IsZip e₈ z TI TO (rawInt e₅.objs.size) := hz₈
  have up : ∀ c o, c ≠ z → e₅.get? c = some o → e₈.get? c = some o := fun c o c1 e => sb₈.extBut _ _ c1 (sb₇.extBut _ _ c1 (Heap.get?_push_of_some _ e))
  have hT₈ : e₈.get? e₅.objs.size = some { cls := .type "tuple", data := .seq #[x, y] } := sb₈.extBut _ _ (Nat.ne_of_gt zlt) (sb₇.extBut _ _ (Nat.ne_of_gt zlt) (Heap.get?_push_size _ rfl))
  rw [hsz] at hz₈ hT₈
  refine wpAny_pure ⟨_, rfl, ?_⟩
  show wpAny _ _ (pure (some (Value.ref e₅.objs.size))) _ _ _
  rw [hsz]
  refine wpAny_pure (hQ e₈ ⟨hz₈, up _ _ D.a1 (kp₅ _ _ D.a1 D.a5 D.a6 D.a7 hTI), ⟨_, _, up _ _ D.a2 hTO₅⟩, ?_, ?_⟩ hT₈ fun c o c1 c2 c3 c4 e => up c o c1 (kp₅ c o c1 c2 c3 c4 e))
  · obtain ⟨o, e, r⟩ := g1₅
    exact ⟨o, up _ _ D.a3 e, r⟩
  · obtain ⟨o, e, r⟩ := g2₅
    exact ⟨o, up _ _ D.a4 e, r⟩
theorem zipT_end {z TI TO i1 i2 t1 t2 : Addr} {k : Nat} {xs ys : Array Value} {Q : Option Value → Shared → Prop} (hh : A.handled = none) (D : ZApart z TI TO i1 i2) (n1 : t1 ≠ z ∧ t1 ≠ TO ∧ t1 ≠ i1 ∧ t1 ≠ i2) (n2 : t2 ≠ z ∧ t2 ≠ TO ∧ t2 ≠ i1 ∧ t2 ≠ i2)
    (Z : ZipT z TI TO i1 i2 t1 t2 k s.heap) (h1 : s.heap.IsTuple t1 xs) (h2 : s.heap.IsTuple t2 ys) (hend : xs[k]? = none ∨ ys[k]? = none)
    (hQ : ∀ h', (∀ c o, c ≠ z → c ≠ TO → c ≠ i1 → c ≠ i2 → s.heap.get? c = some o → h'.get? c = some o) → Q none { s with heap := h' }) :
    wpAny (model prog w) A (pyNext (.ref z)) Q E s := by
  obtain ⟨hz, hTI, ⟨a, b, hTO⟩, g1, g2⟩ := Z
  have hT : s.TypeIs (.ref z) "zip" := ⟨_, hz, rfl⟩
  unfold pyNext
  have fin : ∀ (h' : Heap) (e : Addr), (∀ c o, c ≠ z → c ≠ TO → c ≠ i1 → c ≠ i2 → s.heap.get? c = some o → h'.get? c = some o) → (∃ o, h'.get? e = some o ∧ o.cls = .type "StopIteration") →
      wpAny (model prog w) A (do let b ← isInstance (.ref e) (.type "StopIteration"); if b then pure none else throw (.ref e)) Q E { s with heap := h' } := fun h' e kp ⟨o, ho, hc⟩ => by
    refine wpAny_bind (wpAny_isInstance (T := "StopIteration") (b := true) ⟨o, ho, hc⟩ isSubtype_stop ?_)
    exact wpAny_pure (hQ _ kp)
  refine wpAny_bind (wpAny_attempt (wpAny_callSpecial?_slot (name := Str.ofString "__next__") hT F.slot_zip_next (wpAny_call_entry F.slot_zip_next hT F.entry_zip_next ?_ (F.args_zip_next_1 _))))
  show wpAny _ _ (field (.ref z) 2 >>= _) _ _ _
  refine wpAny_bind (wpAny_field hz rfl (x := .bool false) rfl ?_)
  show wpAny _ _ (field (.ref z) 3 >>= _) _ _ _
  refine wpAny_bind (wpAny_field hz rfl (x := .ref TI) rfl ?_)
  refine wpAny_bind (wpAny_seqItems hTI rfl ?_)
  show wpAny _ _ (Builtin.SmallTypes.ownedTupleIsFree (.ref z) >>= _) _ _ _
  refine wpAny_bind ?_
  unfold Builtin.SmallTypes.ownedTupleIsFree
  refine wpAny_bind (wpAny_field hz rfl (x := .none) rfl (wpAny_pure ?_))
  simp only [if_true]
  refine wpAny_bind (wpAny_rule ?_)
  refine wpAny_bind (wpAny_field hz rfl (x := .ref TO) rfl ?_)
  refine wpAny_bind (wpAny_setField_rec hz (by simp) fun e₁ hz₁ sb₁ => ?_)
  replace hz₁ : IsZip e₁ z TI TO .ellipsis := hz₁
  refine wpAny_bind ?_
  simp only [List.zipIdx_cons, List.zipIdx_nil, List.forIn_cons, List.forIn_nil]
  refine wpAny_bind (wpAny_bind (wpAny_onRaise ?_))
  show wpAny _ _ (Builtin.SmallTypes.nextOf (.ref i1) >>= _) _ _ _
  cases hx : xs[k]? with
  | none =>
    refine wpAny_bind (nextOf_tupE hh (tupIter_but g1 sb₁.extBut D.a3) (h1.extBut sb₁.extBut n1.1) hx fun e₂ e sb₂ he => ?_)
    obtain ⟨oe, hoe, hce⟩ := he
    have hz₂ : IsZip e₂ z TI TO .ellipsis := sb₂ _ _ D.a3.symm hz₁
    have hez : e ≠ z := fun x => by subst x; rw [hz₂] at hoe; cases hoe; simp at hce
    refine wpAny_setField_rec hz₂ (by simp) fun e₃ _ sb₃ => ?_
    exact fin e₃ e (fun c o c1 _ c3 _ x => sb₃.extBut _ _ c1 (sb₂ _ _ c3 (sb₁.extBut _ _ c1 x))) ⟨oe, sb₃.extBut _ _ hez hoe, hce⟩
  | some x =>
    have hy : ys[k]? = none := by
      rcases hend with h | h
      · rw [hx] at h; cases h
      · exact h
    refine wpAny_bind (nextOf_tupI (tupIter_but g1 sb₁.extBut D.a3) (h1.extBut sb₁.extBut n1.1) hx fun e₂ g1₂ sb₂ => wpAny_pure ?_)
    have hTO₂ : IsPair e₂ TO a b := sb₂.extBut _ _ D.a8 (sb₁.extBut _ _ D.a2 hTO)
    refine wpAny_bind (wpAny_seqItems hTO₂ rfl ?_)
    refine wpAny_bind (wpAny_updateSeq_pair hTO₂ fun e₃ hTO₃ sb₃ => ?_)
    refine wpAny_bind (wpAny_letGo (wpAny_pure ?_))
    refine wpAny_bind (wpAny_bind (wpAny_onRaise ?_))
    show wpAny _ _ (Builtin.SmallTypes.nextOf (.ref i2) >>= _) _ _ _
    refine wpAny_bind (nextOf_tupE hh (tupIter_but (tupIter_but (tupIter_but g2 sb₁.extBut D.a4) sb₂.extBut D.b1.symm) sb₃.extBut D.a9.symm)
      (((h2.extBut sb₁.extBut n2.1).extBut sb₂.extBut n2.2.2.1).extBut sb₃.extBut n2.2.1) hy fun e₄ e sb₄ he => ?_)
    obtain ⟨oe, hoe, hce⟩ := he
    have hz₄ : IsZip e₄ z TI TO .ellipsis := sb₄ _ _ D.a4.symm (sb₃.extBut _ _ D.a2.symm (sb₂.extBut _ _ D.a3.symm hz₁))
    have hez : e ≠ z := fun x => by subst x; rw [hz₄] at hoe; cases hoe; simp at hce
    refine wpAny_setField_rec hz₄ (by simp) fun e₅ _ sb₅ => ?_
    exact fin e₅ e (fun c o c1 c2 c3 c4 x => sb₅.extBut _ _ c1 (sb₄ _ _ c4 (sb₃.extBut _ _ c2 (sb₂.extBut _ _ c3 (sb₁.extBut _ _ c1 x))))) ⟨oe, sb₅.extBut _ _ hez hoe, hce⟩
end

/-! ### zip(t, u) is made -/
theorem zipT_new (t1 t2 : Addr) (xs ys : Array Value) :
    Meets (Builtin.«zip.__new__» ⟨[.type "zip", .ref t1, .ref t2], []⟩) (fun _ R s => s.heap.IsTuple t1 xs ∧ s.heap.IsTuple t2 ys ∧
      ∀ h', ZipT (s.heap.objs.size + 4) (s.heap.objs.size + 2) (s.heap.objs.size + 3) s.heap.objs.size (s.heap.objs.size + 1) t1 t2 0 h' → (∀ c o, s.heap.get? c = some o → h'.get? c = some o) →
        R (.ok (.ret (.ref (s.heap.objs.size + 4)))) { s with heap := h' }) :=
  .of_wp fun prog w A R s h => by
    obtain ⟨hp, g, d, tk, os⟩ := s; obtain ⟨hl1, hl2, h⟩ := h
    have hsub := sub_zip
    have hL1 : Heap.IsTuple (Shared.heap ⟨hp, g, d, tk, os⟩) t1 xs := hl1
    have hL2 : Heap.IsTuple (Shared.heap ⟨hp.push { cls := .type "tuple_iterator", data := .fields #[.ref t1, .int 0 0] }, g, d, tk, os⟩) t2 ys := by
      obtain ⟨o, e, r⟩ := hl2
      exact ⟨o, Heap.get?_push_of_some _ e, r⟩
    wp_walk using wpAny_pyIter_tuple hL1, wpAny_pyIter_tuple hL2
    refine ⟨_, rfl, ?_⟩
    let q1 := hp.push { cls := .type "tuple_iterator", data := .fields #[.ref t1, .int 0 0] }
    let q2 := q1.push { cls := .type "tuple_iterator", data := .fields #[.ref t2, .int 0 0] }
    let q3 := q2.push { cls := .type "tuple", data := .seq #[.ref hp.objs.size, .ref q1.objs.size] }
    let q4 := q3.push { cls := .type "tuple", data := .seq #[.none, .none] }
    let q5 := q4.push { cls := .type "zip", data := .fields #[.none, .bool false, .bool false, .ref q2.objs.size, .ref q3.objs.size] }
    have z1 : q1.objs.size = hp.objs.size + 1 := Heap.size_push ..
    have z2 : q2.objs.size = hp.objs.size + 2 := by show (q1.push _).objs.size = _; rw [Heap.size_push, z1]
    have z3 : q3.objs.size = hp.objs.size + 3 := by show (q2.push _).objs.size = _; rw [Heap.size_push, z2]
    have z4 : q4.objs.size = hp.objs.size + 4 := by show (q3.push _).objs.size = _; rw [Heap.size_push, z3]
    have p5 : q5.get? q4.objs.size = some { cls := .type "zip", data := .fields #[.none, .bool false, .bool false, .ref q2.objs.size, .ref q3.objs.size] } := Heap.get?_push_size _ rfl
    have p4 : q5.get? q3.objs.size = some { cls := .type "tuple", data := .seq #[.none, .none] } := Heap.get?_push_of_some _ (Heap.get?_push_size _ rfl)
    have p3 : q5.get? q2.objs.size = some { cls := .type "tuple", data := .seq #[.ref hp.objs.size, .ref q1.objs.size] } := Heap.get?_push_of_some _ (Heap.get?_push_of_some _ (Heap.get?_push_size _ rfl))
    have p2 : q5.get? q1.objs.size = some { cls := .type "tuple_iterator", data := .fields #[.ref t2, .int 0 0] } := Heap.get?_push_of_some _ (Heap.get?_push_of_some _ (Heap.get?_push_of_some _ (Heap.get?_push_size _ rfl)))
    have p1 : q5.get? hp.objs.size = some { cls := .type "tuple_iterator", data := .fields #[.ref t1, .int 0 0] } := Heap.get?_push_of_some _ (Heap.get?_push_of_some _ (Heap.get?_push_of_some _ (Heap.get?_push_of_some _ (Heap.get?_push_size _ rfl))))
    rw [z4, z2, z3] at p5
    rw [z3] at p4
    rw [z2, z1] at p3
    rw [z1] at p2
    have fin := h q5 ⟨p5, p3, ⟨_, _, p4⟩, ⟨_, p1, rfl, rfl⟩, ⟨_, p2, rfl, rfl⟩⟩ fun c o x =>
      Heap.get?_push_of_some _ (Heap.get?_push_of_some _ (Heap.get?_push_of_some _ (Heap.get?_push_of_some _ (Heap.get?_push_of_some _ x))))
    rw [← z4] at fin
    exact fin
section
variable {prog : Program} {w : World} {A : Around} {E : Value → Shared → Prop} {s : Shared}
theorem call_zipT {t1 t2 : Addr} {xs ys : Array Value} {Q : Value → Shared → Prop} (h1 : s.heap.IsTuple t1 xs) (h2 : s.heap.IsTuple t2 ys)
    (h : ∀ h', ZipT (s.heap.objs.size + 4) (s.heap.objs.size + 2) (s.heap.objs.size + 3) s.heap.objs.size (s.heap.objs.size + 1) t1 t2 0 h' → (∀ c o, s.heap.get? c = some o → h'.get? c = some o) → Q (.ref (s.heap.objs.size + 4)) { s with heap := h' }) :
    wpAny (model prog w) A (call (.type "zip") [.ref t1, .ref t2]) Q E s := by
  refine callType_new F.called_zip (by decide) (F.typeCall_zip_2 _ _) (F.newCall_zip_2 _ _) (fun obj => F.args_object_init_3 obj _ _) F.entry_zip_new (zipT_new t1 t2 xs ys) ⟨h1, h2, fun h' Z kp => ?_⟩
  exact ⟨⟨_, Z.1, rfl⟩, h h' Z kp⟩
end

/-- two tuples side by side, each turn a new pair -/
def Itz (K : PySem.W.Frag) (t1 t2 : Addr) : It :=
  ⟨fun i H => ∃ xs ys x y, SqT K H t1 xs ∧ SqT K H t2 ys ∧ xs[i]? = some x ∧ ys[i]? = some y,
   fun i H v H' => ∃ T x y, H T = none ∧ v = .ref T ∧ (∀ xs, SqT K H t1 xs → xs[i]? = some x) ∧ (∀ ys, SqT K H t2 ys → ys[i]? = some y) ∧ H' = upd H T (.tup [x, y]),
   fun i H => ∃ xs ys, SqT K H t1 xs ∧ SqT K H t2 ys ∧ (xs.length ≤ i ∨ ys.length ≤ i)⟩
theorem turn_zip {P : Program} {w : World} {K : PySem.W.Frag} {elts : List Expr} {ek : Nat} {ep : Pos} (z TI TO i1 i2 t1 t2 : Addr) (D : ZApart z TI TO i1 i2) (n1 : t1 ≠ z ∧ t1 ≠ TO ∧ t1 ≠ i1 ∧ t1 ≠ i2) (n2 : t2 ≠ z ∧ t2 ≠ TO ∧ t2 ≠ i1 ∧ t2 ≠ i2) :
    Turn P w K (.Tuple elts ek ep) (Itz K t1 t2) [z, TI, TO, i1, i2] z (fun k h => ZipT z TI TO i1 i2 t1 t2 k h) where
  mem := by simp
  obj := fun k h st b hb => by
    obtain ⟨hz, hTI, ⟨a, c, hTO⟩, ⟨o1, e1, _, d1⟩, ⟨o2, e2, _, d2⟩⟩ := st
    simp only [List.mem_cons, List.not_mem_nil, or_false] at hb
    rcases hb with rfl | rfl | rfl | rfl | rfl
    · exact ⟨_, hz, fun v q => by cases (show Data.fields _ = Data.cell v from q)⟩
    · exact ⟨_, hTI, fun v q => by cases (show Data.seq _ _ = Data.cell v from q)⟩
    · exact ⟨_, hTO, fun v q => by cases (show Data.seq _ _ = Data.cell v from q)⟩
    · exact ⟨o1, e1, fun v q => by rw [d1] at q; cases q⟩
    · exact ⟨o2, e2, fun v q => by rw [d2] at q; cases q⟩
  keep := fun k h h' st kp => by
    obtain ⟨hz, hTI, ⟨a, c, hTO⟩, ⟨o1, e1, r1⟩, ⟨o2, e2, r2⟩⟩ := st
    exact ⟨kp z (by simp) _ hz, kp TI (by simp) _ hTI, ⟨a, c, kp TO (by simp) _ hTO⟩, ⟨o1, kp i1 (by simp) _ e1, r1⟩, ⟨o2, kp i2 (by simp) _ e2, r2⟩⟩
  item := by
    intro X hP hw hK hc i pins s σ H E I hf st hg
    subst hP hw hK
    obtain ⟨xs, ys, x, y, q1, q2, ex, ey⟩ := hg
    obtain ⟨its1, r1, p1, _⟩ := I.tuple q1
    obtain ⟨its2, r2, p2, _⟩ := I.tuple q2
    obtain ⟨u, hu, ru⟩ := r1.get ex
    obtain ⟨v, hv, rv⟩ := r2.get ey
    refine zipT_item D n1 n2 st (show s.heap.IsTuple t1 its1.toArray from p1) (show s.heap.IsTuple t2 its2.toArray from p2) (x := u) (y := v) (by simpa using hu) (by simpa using hv) fun h' Z hT kp => ?_
    obtain ⟨hz, hTI, ⟨a, c, hTO⟩, g1, g2⟩ := Z
    refine ⟨_, rfl, wpAny_letOwnedTupleGo_zip hz fun h'' hz' sb => ?_⟩
    have hlt : ∀ b ∈ [z, TI, TO, i1, i2], b < s.heap.objs.size := fun b hb => by
      obtain ⟨hz0, hTI0, ⟨a0, c0, hTO0⟩, ⟨o1, e1, _⟩, ⟨o2, e2, _⟩⟩ := st
      simp only [List.mem_cons, List.not_mem_nil, or_false] at hb
      rcases hb with rfl | rfl | rfl | rfl | rfl
      · exact Heap.lt_size hz0
      · exact Heap.lt_size hTI0
      · exact Heap.lt_size hTO0
      · exact Heap.lt_size e1
      · exact Heap.lt_size e2
    have hTz : s.heap.objs.size ≠ z := (Nat.ne_of_lt (hlt z (by simp))).symm
    have kp2 : ∀ b o, b ∉ [z, TI, TO, i1, i2] → s.heap.get? b = some o → h''.get? b = some o := fun b o hb e => by
      simp only [List.mem_cons, List.not_mem_nil, or_false, not_or] at hb
      exact sb.extBut _ _ hb.1 (kp b o hb.1 hb.2.2.1 hb.2.2.2.1 hb.2.2.2.2 e)
    have kpTI : ∀ o, s.heap.get? TI = some o → h''.get? TI = some o := fun o e => sb.extBut _ _ D.a1 (kp TI o D.a1 D.a5 D.a6 D.a7 e)
    have hTn : h''.get? s.heap.objs.size = some { cls := .type "tuple", data := .seq #[u, v] } := sb.extBut _ _ hTz hT
    have fpN : ∀ b ∈ [z, TI, TO, i1, i2], H b = none := fun b hb => (hf b hb).1
    have hTf : H s.heap.objs.size = none := I.hok.fresh (Nat.le_refl _)
    have neT : ∀ b q, H b = some q → b ≠ s.heap.objs.size := fun b q e => ne_of_none e hTf
    have nef : ∀ b q, H b = some q → b ∉ [z, TI, TO, i1, i2] := fun b q e hb => by rw [fpN b hb] at e; cases e
    have hok : HOk X.prog X.w (upd H s.heap.objs.size (.tup [x, y])) h'' := fun b q e => by
      by_cases hb : b = s.heap.objs.size
      · subst hb
        rw [upd_same] at e; cases e
        exact ⟨by show 2 ≤ sizeLine; decide, [u, v], .cons ru (.cons rv .nil), ⟨_, hTn, rfl, 0, rfl⟩⟩
      · rw [upd_ne hb] at e
        refine (I.hok b q e).stay (fun c w' hc' r => kp2 c w' ?_ r) (fun c r => by rw [upd_ne (neT c _ r)]; exact r) fun c xs' r => by rw [upd_ne (neT c _ r)]; exact r
        rcases hc' with z' | z'
        · rw [z']; exact nef b q e
        · exact nef c _ z'
    have IS : Inv X pins σ (upd H s.heap.objs.size (.tup [x, y])) { s with heap := h'' } := by
      refine I.step (g' := s.gens) (t' := s.toks) (d' := s.drawn) (ch := [z, TI, TO, i1, i2]) (fun b hb => ?_) (fun b o _ _ hc' e _ => kp2 b o hc' e) (fun b o _ _ hc' e _ => ⟨o.slots, kp2 b o hc' e⟩) (fun b o _ e n => ?_)
        (fun b o hc' e => ⟨o, kp2 b o hc' e⟩) (fun b xs' e => by rw [upd_ne (neT b _ e)]; exact e) (fun b o q e => by rw [upd_ne (neT b _ e)]; exact e) (fun b ps e => ⟨#[], by rw [upd_ne (neT b _ e), e]; simp⟩) (fun m hm => ?_) hok I.bare
      · obtain ⟨_, f1, f2, f3, f4, f5⟩ := hf b hb
        exact ⟨f3, f1, f4, f5⟩
      · rw [upd_ne (Nat.ne_of_lt (Heap.lt_size e))]; exact n
      · obtain ⟨o, es, ep', ho, r⟩ := hm
        exact ⟨o, es, ep', kp2 _ o (fun hb => (hf _ hb).2.1 rfl) ho, r⟩
    refine ⟨.ref s.heap.objs.size, _, IS, rfl, ⟨_, x, y, hTf, rfl, fun xs' q => by rw [I.tuple_inj q q1]; exact ex, fun ys' q => by rw [I.tuple_inj q q2]; exact ey, rfl⟩,
      ⟨hz', sb.extBut _ _ D.a1 hTI, ⟨a, c, sb.extBut _ _ D.a2 hTO⟩, tupIter_but g1 sb.extBut D.a3, tupIter_but g2 sb.extBut D.a4⟩, fun b hb => ?_⟩
    rw [upd_ne (Nat.ne_of_lt (hlt b hb))]
    exact fpN b hb
  done := by
    intro X hP hw hK hc i pins s σ H E I hf st hg
    subst hP hw hK
    obtain ⟨xs, ys, q1, q2, hend⟩ := hg
    obtain ⟨its1, r1, p1, _⟩ := I.tuple q1
    obtain ⟨its2, r2, p2, _⟩ := I.tuple q2
    have l1 := r1.length
    have l2 := r2.length
    refine zipT_end (I.ok.hd hc) D n1 n2 st (show s.heap.IsTuple t1 its1.toArray from p1) (show s.heap.IsTuple t2 its2.toArray from p2) (by
      rcases hend with q | q
      · exact .inl (Array.getElem?_eq_none (by rw [List.size_toArray]; omega))
      · exact .inr (Array.getElem?_eq_none (by rw [List.size_toArray]; omega))) fun h' kp => ⟨rfl, ?_⟩
    have kp2 : ∀ b o, b ∉ [z, TO, i1, i2] → s.heap.get? b = some o → h'.get? b = some o := fun b o hb e => by
      simp only [List.mem_cons, List.not_mem_nil, or_false, not_or] at hb
      exact kp b o hb.1 hb.2.1 hb.2.2.1 hb.2.2.2 e
    have sub : ∀ b ∈ [z, TO, i1, i2], b ∈ [z, TI, TO, i1, i2] := fun b hb => by
      simp only [List.mem_cons, List.not_mem_nil, or_false] at hb ⊢
      rcases hb with q | q | q | q
      · exact .inl q
      · exact .inr (.inr (.inl q))
      · exact .inr (.inr (.inr (.inl q)))
      · exact .inr (.inr (.inr (.inr q)))
    have nef : ∀ b q, H b = some q → b ∉ [z, TO, i1, i2] := fun b q e hb => by rw [(hf b (sub b hb)).1] at e; cases e
    refine I.step (g' := s.gens) (t' := s.toks) (d' := s.drawn) (ch := [z, TO, i1, i2]) (fun b hb => ?_) (fun b o _ _ hc' e _ => kp2 b o hc' e) (fun b o _ _ hc' e _ => ⟨o.slots, kp2 b o hc' e⟩) (fun _ _ _ _ n => n)
      (fun b o hc' e => ⟨o, kp2 b o hc' e⟩) (fun _ _ e => e) (fun _ _ _ e => e) (fun b ps e => ⟨#[], by rw [e]; simp⟩) (fun m hm => ?_) (fun b q e => ?_) I.bare
    · obtain ⟨_, f1, f2, f3, f4, f5⟩ := hf b (sub b hb)
      exact ⟨f3, f1, f4, f5⟩
    · obtain ⟨o, es, ep', ho, r⟩ := hm
      exact ⟨o, es, ep', kp2 _ o (fun hb => (hf _ (sub _ hb)).2.1 rfl) ho, r⟩
    · refine (I.hok b q e).stay (fun c w' hc' r => kp2 c w' ?_ r) (fun _ r => r) fun _ _ r => r
      rcases hc' with z' | z'
      · rw [z']; exact nef b q e
      · exact nef c _ z'
  self := fun A i s Q E st h => wpAny_pyIter_zip st.1 h
section
variable {X : Cx}
def iZip (K : PySem.W.Frag) (ta : TA) : TI := fun σ H R => ta σ H fun vs H1 => ∃ t1 t2, vs = [.ref t1, .ref t2] ∧ (∃ xs, SqT K H1 t1 xs) ∧ (∃ ys, SqT K H1 t2 ys) ∧ R (Itz K t1 t2) H1
theorem pi_zip {a b : Expr} {ta : TA} {p pos : Pos} {elts : List Expr} {ek : Nat} {ep : Pos} (hg : Gl X "zip") (hm : X.mg "zip" = none) (ha : PA X [a, b] ta)
    (hs : starEach [a, b] X.env = [(false, eval a X.env), (false, eval b X.env)] := by rfl) (hs2 : starEach [b] X.env = [(false, eval b X.env)] := by rfl) :
    PI X (.Tuple elts ek ep) (.Call (.Name "zip" p) [a, b] [] pos) (iZip X.K ta) := by
  (first | constructor | skip)
  intro pins s σ H R I h
  refine Call_ (ld_blt I hg hm PyProof.Rows.Boot.zip (PyProof.Rows.callWith_type1 (thn (ha pos pins s σ H _ I h) fun us s1 ⟨vs, H1, I1, r1, q1⟩ => ?_) (by rw [hs, hs2]) (by rw [hs2]; rfl)))
  obtain ⟨t1, t2, e, ⟨xs, q1⟩, ⟨ys, q2⟩, q⟩ := q1
  subst e
  obtain ⟨u, v, rfl, ru, rv⟩ := vals2 r1
  cases ru
  cases rv
  obtain ⟨its1, _, p1, _⟩ := I1.tuple q1
  obtain ⟨its2, _, p2, _⟩ := I1.tuple q2
  refine call_zipT (show s1.heap.IsTuple t1 its1.toArray from p1) (show s1.heap.IsTuple t2 its2.toArray from p2) fun h' Z kp => ?_
  refine wpAny_pyIter_zip Z.1 ?_
  have l1 : @LT.lt Nat _ t1 s1.heap.objs.size := p1.lt
  have l2 : @LT.lt Nat _ t2 s1.heap.objs.size := p2.lt
  have I2 : Inv X pins σ H1 { s1 with heap := h' } := I1.kept (t' := s1.toks) kp
  refine ⟨s1.heap.objs.size + 4, [s1.heap.objs.size + 4, s1.heap.objs.size + 2, s1.heap.objs.size + 3, s1.heap.objs.size, s1.heap.objs.size + 1], _, _, H1, rfl, I2,
    turn_zip _ _ _ _ _ t1 t2 ⟨by show @Ne Nat _ _; omega, by show @Ne Nat _ _; omega, by show @Ne Nat _ _; omega, by show @Ne Nat _ _; omega, by show @Ne Nat _ _; omega, by show @Ne Nat _ _; omega, by show @Ne Nat _ _; omega, by show @Ne Nat _ _; omega, by show @Ne Nat _ _; omega, by show @Ne Nat _ _; omega⟩ ⟨by show @Ne Nat _ _; omega, by show @Ne Nat _ _; omega, by show @Ne Nat _ _; omega, by show @Ne Nat _ _; omega⟩ ⟨by show @Ne Nat _ _; omega, by show @Ne Nat _ _; omega, by show @Ne Nat _ _; omega, by show @Ne Nat _ _; omega⟩, Z, fun b hb => ?_, q⟩
  have hb' : s1.heap.objs.size ≤ b := by
    simp only [List.mem_cons, List.not_mem_nil, or_false] at hb
    rcases hb with rfl | rfl | rfl | rfl | rfl
    · exact Nat.le_add_right _ _
    · exact Nat.le_add_right _ _
    · exact Nat.le_add_right _ _
    · exact Nat.le_refl _
    · exact Nat.le_add_right _ _
  exact I1.fpOk hb' (I1.hok.fresh hb')
end
end L2

set_option Elab.async false
set_option linter.all false
set_option maxRecDepth 100000
namespace L2
open PySem PySem.Spec PyProof.Rows
section
variable {X : Cx}
theorem mt_split : MtM X "str.split" (fun x xs H Q => ∃ z y, x = .str z ∧ xs = [.str y] ∧ (y.length == 0) = false ∧ z.length ≤ 100000 ∧ ∀ D, H D = none → Q (.ref D) (upd H D (.lst ((Txt.split z y).map V.str)))) := by
  (first | constructor | skip)
  intro pins s σ H x xs v us Q I rx rs h
  obtain ⟨z, y, rfl, rfl, hy, hz, q⟩ := h
  obtain ⟨t, rfl⟩ := rx
  obtain ⟨u, rfl, ru⟩ := rs.one
  obtain ⟨t', rfl⟩ := ru
  have hsz : z.length ≤ sizeLine := by rw [sizeLine_eq]; omega
  have hsl := split_le z y
  have put : ∀ (l : List (Str × Tok)) (tk : Nat), l.map (·.1) = Txt.split z y → EP X pins σ Q (.ref s.heap.objs.size) { s with heap := s.heap.push { cls := .type "list", data := .seq (strValues l).toArray }, toks := tk } := fun l tk e => by
    have rv := vals_strs l
    rw [e] at rv
    exact ⟨.ref _, _, I.lnew rv (by rw [List.length_map, sizeLine_eq]; omega), rfl, q _ I.fresh⟩
  cases h1 : (decide (z.length < y.length) || decide (Builtin.Str.strKind z < Builtin.Str.strKind y))
  · cases hf : (Builtin.Str.occurrences z y 0 z.length (z.length + 1)).isEmpty
    · have e0 : Txt.split z y = Builtin.Str.partsBetween z (Builtin.Str.occurrences z y 0 z.length (z.length + 1)) y.length := by
        unfold Txt.split
        rw [if_neg (ne_true_of_eq_false h1), if_neg (ne_true_of_eq_false hf)]
      refine call_meets F.slot_str_split (typeIs_str _ _ _) F.entry_str_split (F.args_str_split_2 _ _) (meets_str_split_sep z y t t' h1 hy hf hsz (by rw [← e0, sizeLine_eq]; omega)) ?_
      show wants _ _ _ { s with toks := _, heap := s.heap.push { cls := .type "list", data := .seq (strsFrom s.toks (Builtin.Str.partsBetween z (Builtin.Str.occurrences z y 0 z.length (z.length + 1)) y.length)).toArray } }
      rw [strsFrom_eq]
      exact put (numbered s.toks _) _ ((numbered_texts _ _).trans e0.symm)
    · have e0 : Txt.split z y = [z] := by
        unfold Txt.split
        rw [if_neg (ne_true_of_eq_false h1), if_pos hf]
      exact call_meets F.slot_str_split (typeIs_str _ _ _) F.entry_str_split (F.args_str_split_2 _ _) (meets_str_split_not_found z y t t' h1 hy hf) (put [(z, t)] s.toks e0.symm)
  · have e0 : Txt.split z y = [z] := by
      unfold Txt.split
      rw [if_pos h1]
    exact call_meets F.slot_str_split (typeIs_str _ _ _) F.entry_str_split (F.args_str_split_2 _ _) (meets_str_split_cannot_occur z y t t' h1) (put [(z, t)] s.toks e0.symm)

/-! ### == of two tuples, two lists of texts -/
theorem strs_get {zs : List Str} {its : List Value} (r : Vals (zs.map V.str) its) {j : Nat} (hj : j < its.length) : ∃ (h : j < zs.length) (t : Tok), its[j] = .str zs[j] t := by
  have hl := r.length
  rw [List.length_map] at hl
  have h : j < zs.length := by omega
  obtain ⟨u, hu, t, e⟩ := r.get (i := j) (x := .str zs[j]) (by rw [List.getElem?_map, List.getElem?_eq_getElem h]; rfl)
  rw [List.getElem?_eq_getElem hj] at hu
  cases hu
  exact ⟨h, t, e⟩
theorem all_eq_strs (xs ys : List Str) : ((List.range (min xs.length ys.length)).all (fun j => xs.getD j "" == ys.getD j "") && xs.length == ys.length) = decide (xs = ys) := by
  rw [Bool.eq_iff_iff, Bool.and_eq_true, decide_eq_true_iff, List.all_eq_true, beq_iff_eq]
  constructor
  · rintro ⟨h1, h2⟩
    apply List.ext_getElem h2
    intro j ha hb
    have := h1 j (List.mem_range.mpr (by omega))
    rw [List.getD_eq_getElem?_getD, List.getD_eq_getElem?_getD, List.getElem?_eq_getElem ha, List.getElem?_eq_getElem hb] at this
    exact eq_of_beq this
  · rintro rfl
    exact ⟨fun j _ => beq_self_eq_true _, rfl⟩
theorem op_eqT (hu : X.A.units < cLine) : OpR X (compareOp .Eq) (fun x y H Q => ∃ (a b : Addr) (xs ys : List Str), x = .ref a ∧ y = .ref b ∧ SqT X.K H a (xs.map V.str) ∧ SqT X.K H b (ys.map V.str) ∧ Q (.bl (decide (xs = ys))) H) := by
  (first | constructor | skip)
  intro pins s σ H x y v u Q I rx ry h
  obtain ⟨a, b, xs, ys, rfl, rfl, ha, hb, q⟩ := h
  cases rx
  cases ry
  obtain ⟨its, r1, p1, _⟩ := I.tuple ha
  obtain ⟨its2, r2, p2, _⟩ := I.tuple hb
  have l1 := r1.length
  have l2 := r2.length
  rw [List.length_map] at l1 l2
  refine SeqAt.eq_tupleAt (e := fun j => xs.getD j "" == ys.getD j "") (show s.heap.IsTuple a its.toArray from p1) (show s.heap.IsTuple b its2.toArray from p2) hu (fun j h1 h2 => ?_) ⟨.bl _, H, I, ?_, q⟩
  · obtain ⟨g1, t1, e1⟩ := strs_get r1 (j := j) (by simpa using h1)
    obtain ⟨g2, t2, e2⟩ := strs_get r2 (j := j) (by simpa using h2)
    have z1 : its.toArray[j] = .str xs[j] t1 := by simpa using e1
    have z2 : its2.toArray[j] = .str ys[j] t2 := by simpa using e2
    rw [z1, z2, List.getD_eq_getElem?_getD, List.getD_eq_getElem?_getD, List.getElem?_eq_getElem g1, List.getElem?_eq_getElem g2]
    exact SeqAt.EqAt.str_str _ _ _ _
  · show Value.bool _ = Value.bool _
    rw [List.size_toArray, List.size_toArray, ← l1, ← l2, all_eq_strs]
end

/-! ### for a, b in zip(t, u) of one length -/
theorem for_zip {K : PySem.W.Frag} {t1 t2 : Addr} {xs ys : List V} {g : TG} {tb : TS} {D : Ends} {σ : St} {H : Hp} (Pv : Nat → St → Hp → Prop) (hlen : xs.length = ys.length) (h0 : Pv 0 σ H) (hl : ∀ i σ H, i ≤ xs.length → Pv i σ H → SqT K H t1 xs ∧ SqT K H t2 ys)
    (hs : ∀ i x y σ H T, xs[i]? = some x → ys[i]? = some y → Pv i σ H → H T = none → g (.ref T) σ (upd H T (.tup [x, y])) fun σ2 H2 => tb { D with nx := Pv (i + 1), ct := Pv (i + 1), bk := D.nx } σ2 H2) (hd : ∀ σ H, Pv xs.length σ H → D.nx σ H) :
    ∃ W : Nat → Nat → St → Hp → Prop, (∃ m, W 0 m σ H) ∧ ∀ i m σ H, W i m σ H →
      ((Itz K t1 t2).stop i H ∧ D.nx σ H) ∨ ((Itz K t1 t2).go i H ∧ ∃ N : St → Hp → Prop, (∀ σ' H', N σ' H' → ∃ m', m' < m ∧ W (i + 1) m' σ' H') ∧ ∀ x H', (Itz K t1 t2).yld i H x H' → g x σ H' fun σ2 H2 => tb { D with nx := N, ct := N, bk := D.nx } σ2 H2) := by
  refine ⟨fun i m σ H => m = xs.length - i ∧ i ≤ xs.length ∧ Pv i σ H, ⟨xs.length, by simp, Nat.zero_le _, h0⟩, ?_⟩
  rintro i m σ H ⟨rfl, hi, p⟩
  obtain ⟨q1, q2⟩ := hl i σ H hi p
  by_cases hlt : i < xs.length
  · have hlt2 : i < ys.length := by omega
    refine .inr ⟨⟨xs, ys, xs[i], ys[i], q1, q2, by simp [hlt], by simp [hlt2]⟩, Pv (i + 1), fun σ' H' p' => ⟨xs.length - (i + 1), by omega, rfl, hlt, p'⟩, fun v H' yl => ?_⟩
    obtain ⟨T, x, y, hT, rfl, yx, yy, rfl⟩ := yl
    exact hs i x y σ H T (yx xs q1) (yy ys q2) p hT
  · have e : i = xs.length := by omega
    subst e
    exact .inl ⟨⟨xs, ys, q1, q2, .inl (Nat.le_refl _)⟩, hd σ H p⟩
end L2

set_option Elab.async false
set_option linter.all false
set_option maxRecDepth 100000
/-! Texts cut at the stroke: mathematics. -/
namespace L2
open PySem PySem.Spec PyProof.Rows
def cutC (c : Nat) : List Nat → List (List Nat)
  | [] => [[]]
  | a :: r => if a = c then [] :: cutC c r else match cutC c r with
    | [] => [[a]]
    | h :: t => (a :: h) :: t
theorem cutC_cons (c a : Nat) (r : List Nat) : cutC c (a :: r) = if a = c then [] :: cutC c r else match cutC c r with
    | [] => [[a]]
    | h :: t => (a :: h) :: t := rfl
theorem cutC_ne (c : Nat) : ∀ l, ∃ h t, cutC c l = h :: t
  | [] => ⟨[], [], rfl⟩
  | a :: r => by
    unfold cutC
    by_cases e : a = c
    · rw [if_pos e]; exact ⟨_, _, rfl⟩
    · rw [if_neg e]
      obtain ⟨h, t, q⟩ := cutC_ne c r
      rw [q]; exact ⟨_, _, rfl⟩
theorem cutC_app {c : Nat} : ∀ (p r : List Nat), c ∉ p → cutC c (p ++ c :: r) = p :: cutC c r
  | [], r, _ => by
    show cutC c (c :: r) = _
    rw [cutC_cons, if_pos rfl]
  | a :: p, r, h => by
    have ha : a ≠ c := fun e => h (e ▸ List.mem_cons_self)
    have hp : c ∉ p := fun m => h (List.mem_cons_of_mem _ m)
    show cutC c (a :: (p ++ c :: r)) = _
    rw [cutC_cons, if_neg ha, cutC_app p r hp]
theorem cutC_one {c : Nat} : ∀ (p : List Nat), c ∉ p → cutC c p = [p]
  | [], _ => rfl
  | a :: p, h => by
    have ha : a ≠ c := fun e => h (e ▸ List.mem_cons_self)
    have hp : c ∉ p := fun m => h (List.mem_cons_of_mem _ m)
    unfold cutC
    rw [if_neg ha, cutC_one p hp]
def glueC (c : Nat) : List (List Nat) → List Nat
  | [] => []
  | [p] => p
  | p :: q :: r => p ++ c :: glueC c (q :: r)
theorem cut_glue {c : Nat} : ∀ (ps : List (List Nat)), ps ≠ [] → (∀ p ∈ ps, c ∉ p) → cutC c (glueC c ps) = ps
  | [], h, _ => absurd rfl h
  | [p], _, h => cutC_one p (h p List.mem_cons_self)
  | p :: q :: r, _, h => by
    show cutC c (p ++ c :: glueC c (q :: r)) = _
    rw [cutC_app p _ (h p List.mem_cons_self), cut_glue (q :: r) (by simp) fun x hx => h x (List.mem_cons_of_mem _ hx)]
theorem join_codes (c : Nat) : ∀ ts : List Str, (Str.join ⟨#[c]⟩ ts).cps.toList = glueC c (ts.map fun t => t.cps.toList)
  | [] => rfl
  | [t] => rfl
  | t :: u :: r => by
    show (t ++ (⟨#[c]⟩ : Str) ++ Str.join ⟨#[c]⟩ (u :: r)).cps.toList = t.cps.toList ++ c :: glueC c ((u :: r).map fun t => t.cps.toList)
    rw [Str.cps_append, Str.cps_append, Array.toList_append, Array.toList_append, join_codes c (u :: r), List.append_assoc]
    rfl
/-- the parts' codes are the cut of the codes -/
theorem split_codes (x : Str) (c : Nat) : (Txt.split x ⟨#[c]⟩).map (fun t => t.cps.toList) = cutC c x.cps.toList := by
  have h1 := StrLaws.join_split x ⟨#[c]⟩
  have h2 := join_codes c (Txt.split x ⟨#[c]⟩)
  rw [h1] at h2
  rw [h2, cut_glue]
  · intro e
    have hp := split_pos x ⟨#[c]⟩
    have : ((Txt.split x ⟨#[c]⟩).map fun t => t.cps.toList).length = 0 := by rw [e]; rfl
    rw [List.length_map] at this
    omega
  · intro p hp
    obtain ⟨t, ht, rfl⟩ := List.mem_map.mp hp
    exact StrLaws.split_free x c t ht
def ofCodes (l : List Nat) : Str := ⟨l.toArray⟩
theorem ofCodes_codes (x : Str) : ofCodes x.cps.toList = x := by
  unfold ofCodes
  cases x
  simp
theorem split_eq (x : Str) (c : Nat) : Txt.split x ⟨#[c]⟩ = (cutC c x.cps.toList).map ofCodes := by
  rw [← split_codes, List.map_map]
  have : (ofCodes ∘ fun (t : Str) => t.cps.toList) = id := by
    funext t
    exact ofCodes_codes t
  rw [this, List.map_id]
theorem slice_from1 (x : Str) : (Txt.slice x (some 1) none).cps.toList = x.cps.toList.drop 1 := by
  have hL : x.cps.toList.length = x.length := by simp [Str.length]
  have e0 : Builtin.Str.strSliceIndices (some 1) none 1 x.length = Builtin.Str.strSliceIndices (some 1) (some (x.length : Int)) 1 x.length := by
    have h1 : ¬ (x.length : Int) < 0 := by omega
    have h2 : max (0 : Int) (min (x.length : Int) (x.length : Int)) = (x.length : Int) := by omega
    unfold Builtin.Str.strSliceIndices
    simp only [if_neg h1, h2]
    first | rfl | simp
  unfold Txt.slice
  rw [e0]
  by_cases h0 : x.length = 0
  · have e1 : x.cps.toList = [] := List.length_eq_zero_iff.mp (by omega)
    have h2 := sliceIndices_le (some 1) (some (x.length : Int)) x.length
    rw [if_pos (by rw [Bool.and_eq_true]; exact ⟨rfl, beq_iff_eq.mpr (by omega)⟩), e1]
    rfl
  · have e2 := StrLaws.strSliceIndices_plain (a := 1) (b := x.length) (len := x.length) (by omega) (Nat.le_refl _)
    have e3 := StrLaws.sliced_plain x (a := 1) (b := x.length) (by omega) (Nat.le_refl _)
    have e2' : (Builtin.Str.strSliceIndices (some 1) (some (x.length : Int)) 1 x.length).length = x.length - 1 := by
      have : Builtin.Str.strSliceIndices (some 1) (some (x.length : Int)) 1 x.length = (List.range (x.length - 1)).map (fun k => 1 + k) := e2
      rw [this, List.length_map, List.length_range]
    rw [if_neg (by
      intro q
      rw [Bool.and_eq_true] at q
      have := eq_of_beq q.2
      omega)]
    show ((Builtin.Str.strSliceIndices (some 1) (some (x.length : Int)) 1 x.length).filterMap (x.cps[·]?)) = _
    have e4 : (Builtin.Str.strSliceIndices (some 1) (some (x.length : Int)) 1 x.length).filterMap (x.cps[·]?) = (x.cps.toList.drop 1).take (x.length - 1) := e3
    rw [e4, List.take_of_length_le (by rw [List.length_drop, hL]; exact Nat.le_refl _)]
end L2

set_option Elab.async false
set_option linter.all false
set_option maxRecDepth 100000
namespace L2
open PySem PySem.Spec PyProof.Rows
/-! ### a promise that is one of two -/
theorem FnOk.or {P : Program} {w : World} {K : PySem.W.Frag} {mg : Str → Option Value} {base : Heap} {CX : CXT} {k : Nat} {f : Addr} {fd : FuncData} {ps : List Str} {sp sp' : Sp} (F : FnOk P w K mg base CX k f fd ps sp) (G : FnOk P w K mg base CX k f fd ps sp') :
    FnOk P w K mg base CX k f fd ps (fun vs H Q E => sp vs H Q E ∨ sp' vs H Q E) :=
  ⟨fun vs H Q E q => q.elim (F.len vs H Q E) (G.len vs H Q E), fun A outer s H args us vs Q E hr he hb hv hs => hs.elim (F.run A outer s H args us vs Q E hr he hb hv) (G.run A outer s H args us vs Q E hr he hb hv)⟩
/-! ### for c in a text -/
theorem for_str {z : Str} {g : TG} {tb : TS} {D : Ends} {σ : St} {H : Hp} (Pv : Nat → St → Hp → Prop) (h0 : Pv 0 σ H)
    (hs : ∀ i c σ H, z.cps[i]? = some c → Pv i σ H → g (.str ⟨#[c]⟩) σ H fun σ2 H2 => tb { D with nx := Pv (i + 1), ct := Pv (i + 1), bk := D.nx } σ2 H2) (hd : ∀ σ H, Pv z.cps.size σ H → D.nx σ H) :
    ∃ W : Nat → Nat → St → Hp → Prop, (∃ m, W 0 m σ H) ∧ ∀ i m σ H, W i m σ H →
      ((Its z).stop i H ∧ D.nx σ H) ∨ ((Its z).go i H ∧ ∃ N : St → Hp → Prop, (∀ σ' H', N σ' H' → ∃ m', m' < m ∧ W (i + 1) m' σ' H') ∧ ∀ x H', (Its z).yld i H x H' → g x σ H' fun σ2 H2 => tb { D with nx := N, ct := N, bk := D.nx } σ2 H2) := by
  refine ⟨fun i m σ H => m = z.cps.size - i ∧ i ≤ z.cps.size ∧ Pv i σ H, ⟨z.cps.size, by simp, Nat.zero_le _, h0⟩, ?_⟩
  rintro i m σ H ⟨rfl, hi, p⟩
  by_cases hlt : i < z.cps.size
  · refine .inr ⟨hlt, Pv (i + 1), fun σ' H' p' => ⟨z.cps.size - (i + 1), by omega, rfl, hlt, p'⟩, fun v H' yl => ?_⟩
    obtain ⟨e, c, hc, rfl⟩ := yl
    subst e
    exact hs i c σ _ hc p
  · have e : i = z.cps.size := by omega
    subst e
    exact .inl ⟨Nat.le_refl _, hd σ H p⟩
section
variable {X : Cx}
theorem all_eq_range (xs ys : List Str) (h : xs.length = ys.length) : (List.range xs.length).all (fun j => xs.getD j "" == ys.getD j "") = decide (xs = ys) := by
  have := all_eq_strs xs ys
  rw [h, Nat.min_self] at this
  rw [← this, h]
  simp
/-- == of two lists of texts -/
theorem op_eqL (hu : X.A.units < cLine) : OpR X (compareOp .Eq) (fun x y H Q => ∃ (a b : Addr) (xs ys : List Str), x = .ref a ∧ y = .ref b ∧ SqL X.K H a (xs.map V.str) ∧ SqL X.K H b (ys.map V.str) ∧ Q (.bl (decide (xs = ys))) H) := by
  (first | constructor | skip)
  intro pins s σ H x y v u Q I rx ry h
  obtain ⟨a, b, xs, ys, rfl, rfl, ha, hb, q⟩ := h
  cases rx
  cases ry
  obtain ⟨its, r1, p1, _⟩ := I.list ha
  obtain ⟨its2, r2, p2, _⟩ := I.list hb
  have l1 := r1.length
  have l2 := r2.length
  rw [List.length_map] at l1 l2
  by_cases hl : xs.length = ys.length
  · refine SeqAt.eq_listAt (e := fun j => xs.getD j "" == ys.getD j "") p1.isList p2.isList (by rw [List.size_toArray, List.size_toArray]; omega) hu (fun j h1 h2 => ?_) ⟨.bl _, H, I, ?_, q⟩
    · obtain ⟨g1, t1, e1⟩ := strs_get r1 (j := j) (by simpa using h1)
      obtain ⟨g2, t2, e2⟩ := strs_get r2 (j := j) (by simpa using h2)
      have z1 : its.toArray[j] = .str xs[j] t1 := by simpa using e1
      have z2 : its2.toArray[j] = .str ys[j] t2 := by simpa using e2
      rw [z1, z2, List.getD_eq_getElem?_getD, List.getD_eq_getElem?_getD, List.getElem?_eq_getElem g1, List.getElem?_eq_getElem g2]
      exact SeqAt.EqAt.str_str _ _ _ _
    · show Value.bool _ = Value.bool _
      rw [List.size_toArray, ← l1, all_eq_range xs ys hl]
  · refine SeqAt.eq_list_lengthsAt p1.isList p2.isList (by rw [List.size_toArray, List.size_toArray, bne_iff_ne]; omega) hu ⟨.bl _, H, I, ?_, q⟩
    show Value.bool _ = Value.bool _
    rw [decide_eq_false fun e => hl (by rw [e])]
end
/-! ### a comprehension whose name is one of the def's too -/
section
variable {X : Cx} {elt iter : Expr} {x : Str} {px pos : Pos} {scope : Scope} {wi : TI} {te : TE}
theorem up_set {oN : List Str} (hnd : oN.Nodup) {k : Nat} (hk : oN[k]? = some x) (σ : St) (hl : σ.length = oN.length) : (σ.set k none).length = oN.length ∧
    ∀ (i : Nat) (y : Str) (v : V), oN[i]? = some y → (σ.set k none)[i]? = some (some v) → y ≠ x ∧ ∃ j : Nat, oN[j]? = some y ∧ σ[j]? = some (some v) := by
  refine ⟨by rw [List.length_set, hl], fun i y v h1 h2 => ?_⟩
  have hkl : k < σ.length := by rw [hl]; exact (List.getElem?_eq_some_iff.mp hk).1
  by_cases hi : i = k
  · subst hi
    rw [List.getElem?_set_self hkl] at h2
    cases h2
  · rw [List.getElem?_set_ne (Ne.symm hi)] at h2
    exact ⟨fun e => hi (nodup_ix hnd (e ▸ h1) hk), i, h1, h2⟩
theorem pe_compC {osc : Scope} {oN ops : List Str} (k : Nat) (SC : FnScope oN ops osc) (S : CompScope osc oN scope x) (hk : oN[k]? = some x) (hi : PI X (.Name x px) iter wi)
    (he : ∀ C fp s H, PE (cxComp X scope oN C fp s H) elt te) (hc : X.calm = true := by rfl) (e1 : X.env.scope = osc := by rfl) (e2 : X.N = oN := by rfl) (hs : ∀ v, foldedSetIterable iter X.env v = pure v := by intro _; rfl) :
    PE X (.ListComp elt [⟨.Name x px, iter, [], 0⟩] scope pos) (tComp wi (fun σ v => (σ.set k none).set k (some v)) te) :=
  pe_compG (up := fun σ => σ.set k none) (by rw [e1, e2]; exact S) hc SC.nd hk (fun σ hl => by rw [e2] at hl ⊢; exact up_set SC.nd hk σ hl) hi he hs
end
/-! ### cut texts once more -/
theorem cutC_mem {c : Nat} : ∀ (r : List Nat) (p : List Nat), p ∈ cutC c r → ∀ x ∈ p, x ∈ r ∧ x ≠ c
  | [], p, hp, x, hx => by
    have : p = [] := by simpa [cutC] using hp
    rw [this] at hx; cases hx
  | a :: r, p, hp, x, hx => by
    rw [cutC_cons] at hp
    by_cases e : a = c
    · rw [if_pos e] at hp
      rcases List.mem_cons.mp hp with q | q
      · rw [q] at hx; cases hx
      · obtain ⟨h1, h2⟩ := cutC_mem r p q x hx
        exact ⟨List.mem_cons_of_mem _ h1, h2⟩
    · rw [if_neg e] at hp
      obtain ⟨h, t, q⟩ := cutC_ne c r
      rw [q] at hp
      rcases List.mem_cons.mp hp with z | z
      · rw [z] at hx
        rcases List.mem_cons.mp hx with y | y
        · rw [y]; exact ⟨List.mem_cons_self, e⟩
        · obtain ⟨h1, h2⟩ := cutC_mem r h (by rw [q]; exact List.mem_cons_self) x y
          exact ⟨List.mem_cons_of_mem _ h1, h2⟩
      · obtain ⟨h1, h2⟩ := cutC_mem r p (by rw [q]; exact List.mem_cons_of_mem _ z) x hx
        exact ⟨List.mem_cons_of_mem _ h1, h2⟩
theorem cutC_in {c : Nat} : ∀ (r : List Nat) (x : Nat), x ∈ r → x ≠ c → ∃ p ∈ cutC c r, x ∈ p
  | [], _, h, _ => nomatch h
  | a :: r, x, h, hx => by
    rw [cutC_cons]
    by_cases e : a = c
    · rw [if_pos e]
      rcases List.mem_cons.mp h with q | q
      · exact absurd (q.trans e) hx
      · obtain ⟨p, hp, hm⟩ := cutC_in r x q hx
        exact ⟨p, List.mem_cons_of_mem _ hp, hm⟩
    · rw [if_neg e]
      obtain ⟨h0, t, q⟩ := cutC_ne c r
      rw [q]
      rcases List.mem_cons.mp h with z | z
      · exact ⟨_, List.mem_cons_self, by rw [z]; exact List.mem_cons_self⟩
      · obtain ⟨p, hp, hm⟩ := cutC_in r x z hx
        rw [q] at hp
        rcases List.mem_cons.mp hp with y | y
        · exact ⟨_, List.mem_cons_self, by rw [y] at hm; exact List.mem_cons_of_mem _ hm⟩
        · exact ⟨p, List.mem_cons_of_mem _ y, hm⟩
end L2

set_option Elab.async false
set_option linter.all false
set_option maxRecDepth 100000
namespace L2
open PySem PySem.Spec PyProof.Rows
section
variable {prog : Program} {w : World} {A : Around} {E : Value → Shared → Prop} {s : Shared}
theorem getT_whole {t sl : Addr} {items : Array Value} {vl vu : Value} {lo hi : Option Int} {Q : Value → Shared → Prop} (ht : IsTup s.heap t items) (hs : s.heap.IsSliceOf sl vl vu .none) (pl : IsPart vl lo) (pu : IsPart vu hi)
    (hw : HT.sIx items.size 0 lo = 0 ∧ HT.sIx items.size items.size hi = items.size) (h : Q (.ref t) s) : wpAny (model prog w) A (getItem (.ref t) (.ref sl)) Q E s := by
  obtain ⟨os, hos, hcs, hds⟩ := id hs
  have hTs : s.TypeIs (.ref sl) "slice" := ⟨os, hos, hcs⟩
  unfold getItem
  try with_reducible refine wpAny_holding ?_
  first | refine wpAny_bind (wpAny_pure ?_) | skip
  refine wpAny_bind (wpAny_sequenceKey ht.typeIs (by decide) ?_)
  refine wpAny_bind (wpAny_callSpecial?_slot (name := Str.ofString "__getitem__") ht.typeIs PyProof.Rows.slot_tuple_getitem (wpAny_call_entry PyProof.Rows.slot_tuple_getitem ht.typeIs entry_tuple_getitem ?_ (args_tuple_getitem _ _)))
  show wpAny _ _ (Builtin.Tuple.tupleItemsOf (.ref t) >>= _) _ _ s
  refine wpAny_bind (tupleItemsOf_ ht ?_)
  refine wpAny_bind (wpAny_typeOf hTs ?_)
  rw [if_pos (by decide)]
  refine wpAny_bind (HT.sliceApplied_gen hs pl pu ?_)
  have hyes : (((HT.sIx items.size 0 lo : Nat) : Int) == 0 && (1 : Int) == 1 && (HT.sIx items.size items.size hi - HT.sIx items.size 0 lo) == items.size) = true := by
    rw [hw.1, hw.2]
    simp
  show wpAny _ _ (if (((HT.sIx items.size 0 lo : Nat) : Int) == 0 && (1 : Int) == 1 && (HT.sIx items.size items.size hi - HT.sIx items.size 0 lo) == items.size) = true then _ else _) _ _ s
  rw [if_pos hyes]
  refine wpAny_bind (m := Builtin.Tuple.tupleIsExact _) ?_
  unfold Builtin.Tuple.tupleIsExact
  refine wpAny_bind (wpAny_typeOf ht.typeIs (wpAny_pure ?_))
  rw [if_pos (by decide)]
  refine wpAny_bind (wpAny_rule ?_)
  first
    | exact wpAny_pure ⟨_, rfl, wpAny_pure h⟩
    | exact wpAny_bind (wpAny_pure (wpAny_pure ⟨_, rfl, wpAny_pure h⟩))
    | exact wpAny_bind (wpAny_pure ⟨_, rfl, wpAny_pure h⟩)
theorem cat_tup0 {t b : Addr} {ws : List Value} {Q : Value → Shared → Prop} (ht : IsTup s.heap t ([] : List Value).toArray) (hb : IsTup s.heap b ws.toArray) (h : Q (.ref b) s) : wpAny (model prog w) A (binaryOp .Add (.ref t) (.ref b)) Q E s := by
  obtain ⟨⟨cls, dd, data, sl⟩, ho, hc, n, hd⟩ := id ht
  obtain ⟨⟨cls2, dd2, data2, sl2⟩, ho2, hc2, n2, hd2⟩ := id hb
  simp only at hc hd hc2 hd2
  subst hc hd hc2 hd2
  exact concat_meets ⟨_, ho, rfl⟩ ⟨_, ho2, rfl⟩ noFill_tuple_add seq_tuple_add PySem.F.slot_tuple_add PySem.F.entry_tuple_add (PySem.F.args_tuple_add_2 _ _) (tuple_addW0 t b [].toArray ws.toArray n n2 dd dd2 sl sl2 (by simp)) ⟨ho, ho2, h⟩
end
section
variable {X : Cx}
theorem cutV_whole {xs : List V} {lo hi : Option Int} (h : HT.sIx xs.length 0 lo = 0 ∧ HT.sIx xs.length xs.length hi = xs.length) : cutV xs lo hi = xs := by
  unfold cutV
  rw [h.1, h.2, List.drop_zero, Nat.sub_zero, List.take_of_length_le (Nat.le_refl _)]
/-- t[lo:hi] of a tracked tuple: some tuple with these items -/
theorem sl_tupA : SlR X (fun x lo hi H Q => ∃ (a : Addr) (xs : List V), x = .ref a ∧ H a = some (.tup xs) ∧ ∀ (t : Addr) (H' : Hp), H' t = some (.tup (cutV xs lo hi)) → Same H H' → Q (.ref t) H') := by
  (first | constructor | skip)
  intro pins s σ H x v vl vu lo hi sl Q I rx hs pl pu h
  obtain ⟨a, xs, rfl, ha, q⟩ := h
  by_cases hw : HT.sIx xs.length 0 lo = 0 ∧ HT.sIx xs.length xs.length hi = xs.length
  · cases rx
    obtain ⟨its, r, ht, hz⟩ := I.tuple (SqT.of ha)
    have hlen : its.toArray.size = xs.length := by rw [List.size_toArray]; exact r.length.symm
    refine ⟨"tuple", _, PyProof.Rows.slot_tuple_getitem.lookup, ht.typeIs, ?_⟩
    exact getT_whole ht hs pl pu (by rw [hlen]; exact hw) ⟨.ref a, H, I, rfl, q a H (by rw [cutV_whole hw]; exact ha) (Same.refl H)⟩
  · exact sl_tup pins s σ H (.ref a) v vl vu lo hi sl Q I rx hs pl pu ⟨a, xs, rfl, SqT.of ha, hw, fun p hp => q p _ upd_same ((Same.refl H).upd hp)⟩
/-- t + u of tracked tuples: some tuple with these items -/
theorem op_catA : OpR X (binaryOp .Add) (fun x y H Q => ∃ (a b : Addr) (xs ys : List V), x = .ref a ∧ y = .ref b ∧ H a = some (.tup xs) ∧ H b = some (.tup ys) ∧ xs.length + ys.length ≤ sizeLine ∧
    ∀ (t : Addr) (H' : Hp), H' t = some (.tup (xs ++ ys)) → Same H H' → Q (.ref t) H') := by
  (first | constructor | skip)
  intro pins s σ H x y v u Q I rx ry h
  obtain ⟨a, b, xs, ys, rfl, rfl, ha, hb, hz, q⟩ := h
  cases xs with
  | nil =>
    cases rx
    cases ry
    obtain ⟨its, r1, p1, _⟩ := I.tuple (SqT.of ha)
    obtain ⟨its2, r2, p2, _⟩ := I.tuple (SqT.of hb)
    cases r1
    exact cat_tup0 p1 p2 ⟨.ref b, H, I, rfl, q b H hb (Same.refl H)⟩
  | cons x0 xr =>
    exact op_catT pins s σ H (.ref a) (.ref b) v u Q I rx ry ⟨a, b, x0 :: xr, ys, rfl, rfl, SqT.of ha, SqT.of hb, by simp, hz, fun e => q a H (by rw [e, List.append_nil]; exact ha) (Same.refl H), fun _ p hp => q p _ upd_same ((Same.refl H).upd hp)⟩
end
end L2

set_option Elab.async false
set_option linter.all false
set_option maxRecDepth 100000
set_option maxHeartbeats 1000000
namespace Srt
open PySem PyProof.Rows
set_option autoImplicit false

def gallop' : Bool → Keyed → Array Keyed → Nat → Nat → Nat → StateT SortSt Sem (Option Nat) := sortPriv% PySem.Builtin.gallop
def mergeLo' : Array Keyed → Array Keyed → StateT SortSt Sem (Array Keyed) := sortPriv% PySem.Builtin.mergeLo
def mergeHi' : Array Keyed → Array Keyed → StateT SortSt Sem (Array Keyed) := sortPriv% PySem.Builtin.mergeHi

/-- two states of the sort alike but for the gallop's bound -/
structure Sm (st st' : SortSt) : Prop where
  kind : kindOf st' = kindOf st
  arr : arrOf st' = arrOf st
  pend : pendingOf st' = pendingOf st
  fail : failedOf st' = failedOf st
theorem Sm.refl (st : SortSt) : Sm st st := ⟨rfl, rfl, rfl, rfl⟩
theorem Sm.trans {a b c : SortSt} (h : Sm a b) (h' : Sm b c) : Sm a c := ⟨h'.kind.trans h.kind, h'.arr.trans h.arr, h'.pend.trans h.pend, h'.fail.trans h.fail⟩

section
variable {prog : Program} {w : World} {A : Around} {E : Value → Shared → Prop} {s : Shared}

/-- what the sort asks of the order: each comparison is answered, and changes nothing -/
structure Cmp (prog : Program) (w : World) (A : Around) (E : Value → Shared → Prop) (s : Shared) (O : KeyOrd) (key : Keyed → O.α) (D : Keyed → Prop) (kd : SortKind) : Prop where
  lt : ∀ (x y : Keyed) (st : SortSt) (Q : Option Bool → SortSt → Prop), D x → D y → kindOf st = kd → Q (some (O.blt (key x) (key y))) st → wpS (model prog w) A E s (lt' x y) Q st

variable {O : KeyOrd} {key : Keyed → O.α} {D : Keyed → Prop} {kd : SortKind}

theorem wpS_elem {arr : Array Keyed} {i : Nat} {x : Keyed} {st : SortSt} {Q : Keyed → SortSt → Prop} (hi : arr[i]? = some x) (h : Q x st) : wpS (model prog w) A E s (elem' arr i) Q st := by
  rw [elem'_eq, hi]
  exact wpS_pure h

/-- a pure question, asked in the sort -/
def Asks (prog : Program) (w : World) (A : Around) (E : Value → Shared → Prop) (s : Shared) (f : Nat → StateT SortSt Sem (Option Bool)) (n : Nat) (b : Nat → Bool) (st : SortSt) : Prop :=
  ∀ i, i < n → ∀ Q : Option Bool → SortSt → Prop, Q (some (b i)) st → wpS (model prog w) A E s (f i) Q st

theorem wpS_gallop_of {left : Bool} {x : Keyed} {arr : Array Keyed} {base n hint : Nat} {st : SortSt} {Q : Option Nat → SortSt → Prop} {b : Nat → Bool}
    (hb : ∀ i, i < n → ∀ Q : Option Bool → SortSt → Prop, Q (some (b i)) st → wpS (model prog w) A E s (do
      let y ← elem' arr (base + i)
      if left = true then lt' y x else do
        let r ← lt' x y
        pure (Option.map (fun z => !z) r)) Q st)
    (hm : ∀ i j, i ≤ j → j < n → b j = true → b i = true) (hh : hint < n)
    (h : ∀ k, k ≤ n → (∀ i, i < k → b i = true) → (∀ i, k ≤ i → i < n → b i = false) → Q (some k) st) : wpS (model prog w) A E s (gallop' left x arr base n hint) Q st := by
  have hm' : ∀ i j, i ≤ j → j < n → b i = false → b j = false := fun i j h1 h2 h3 => by
    cases q : b j with
    | false => rfl
    | true => rw [hm i j h1 h2 q] at h3; cases h3
  unfold gallop'
  k_delta "gallop"
  refine wpS_bind (hb hint hh _ ?_)
  dsimp only
  -- the last search, between lo and hi
  have last : ∀ lo hi : Nat, lo ≤ hi → hi ≤ n → (∀ i, i < lo → b i = true) → (∀ i, hi ≤ i → i < n → b i = false) → ∀ (f : Option (Option Nat) × Nat × Nat → StateT SortSt Sem (Option Nat)), (∀ k, Q (some k) st → wpS (model prog w) A E s (f (none, k, k)) Q st) →
      ∀ g : Nat → Option (Option Nat) × Nat × Nat → StateT SortSt Sem (ForInStep (Option (Option Nat) × Nat × Nat)),
      (∀ (i lo hi : Nat) (R : ForInStep (Option (Option Nat) × Nat × Nat) → SortSt → Prop), hi ≤ n → (lo ≥ hi → R (.done (none, lo, hi)) st) → (lo < hi → (b (lo + (hi - lo) / 2) = true → R (.yield (none, lo + (hi - lo) / 2 + 1, hi)) st) ∧ (b (lo + (hi - lo) / 2) = false → R (.yield (none, lo, lo + (hi - lo) / 2)) st)) → wpS (model prog w) A E s (g i (none, lo, hi)) R st) →
      wpS (model prog w) A E s (forIn [:n] ((none, lo, hi) : Option (Option Nat) × Nat × Nat) g >>= f) Q st := by
    intro lo hi h1 h2 h3 h4 f hf g hg
    refine wpS_bind (wpS_forRange (a := 0) (b := n) (I := fun x c st' => st' = st ∧ ∃ lo hi, c = (none, lo, hi) ∧ lo ≤ hi ∧ hi ≤ n ∧ hi - lo ≤ n - x ∧ (∀ i, i < lo → b i = true) ∧ (∀ i, hi ≤ i → i < n → b i = false)) ?step ?fin ⟨rfl, lo, hi, rfl, h1, h2, by omega, h3, h4⟩)
    case fin =>
      rintro c st' ⟨rfl, lo, hi, rfl, h1, h2, h3, h4, h5⟩
      have : lo = hi := by omega
      subst this
      exact hf lo (h lo h2 h4 h5)
    case step =>
      rintro x c st' _ hx ⟨rfl, lo, hi, rfl, h1, h2, h3, h4, h5⟩
      refine hg x lo hi _ h2 (fun q => ?_) (fun q => ⟨fun q1 => ?_, fun q1 => ?_⟩)
      · have : lo = hi := by omega
        subst this
        exact hf lo (h lo h2 h4 h5)
      · exact ⟨rfl, _, _, rfl, by omega, h2, by omega, fun i hi' => hm i _ (by omega) (by omega) q1, h5⟩
      · exact ⟨rfl, _, _, rfl, by omega, by omega, by omega, h4, fun i hi1 hi2 => hm' _ i hi1 hi2 q1⟩
  have lstep : ∀ (i lo hi : Nat) (R : ForInStep (Option (Option Nat) × Nat × Nat) → SortSt → Prop), hi ≤ n → (lo ≥ hi → R (.done (none, lo, hi)) st) → (lo < hi → (b (lo + (hi - lo) / 2) = true → R (.yield (none, lo + (hi - lo) / 2 + 1, hi)) st) ∧ (b (lo + (hi - lo) / 2) = false → R (.yield (none, lo, lo + (hi - lo) / 2)) st)) →
      wpS (model prog w) A E s (if lo ≥ hi then pure (.done (none, lo, hi)) else do
        let z ← (do
          let y ← elem' arr (base + (lo + (hi - lo) / 2))
          if left = true then lt' y x else do
            let r ← lt' x y
            pure (Option.map (fun z => !z) r))
        match z with
        | some more => if more = true then pure (.yield (none, lo + (hi - lo) / 2 + 1, hi)) else pure (.yield (none, lo, lo + (hi - lo) / 2))
        | x => pure (.done (some none, lo, hi))) R st := by
    intro i lo hi R h2 h3 h4
    by_cases q : lo ≥ hi
    · rw [if_pos q]
      exact wpS_pure (h3 q)
    · rw [if_neg q]
      refine wpS_bind (hb _ (by omega) _ ?_)
      obtain ⟨k1, k2⟩ := h4 (by omega)
      cases q1 : b (lo + (hi - lo) / 2) with
      | true => exact wpS_pure (k1 q1)
      | false => exact wpS_pure (k2 q1)
  cases hr : b hint with
  | true =>
    rw [if_pos rfl]
    refine wpS_bind (wpS_forRange (a := 0) (b := n) (I := fun x c st' => st' = st ∧ ∃ l o, c = (none, l, o) ∧ l < o ∧ x < o ∧ hint + l < n ∧ b (hint + l) = true) ?step ?fin ⟨rfl, 0, 1, rfl, by omega, by omega, by omega, hr⟩)
    case fin =>
      rintro c st' ⟨rfl, l, o, rfl, h1, h2, h3, h4⟩
      dsimp only
      have e : hint + min o (n - hint) = n := by omega
      rw [e]
      exact last _ _ (by omega) (Nat.le_refl _) (fun i hi => hm i _ (by omega) h3 h4) (fun i h1 h2 => absurd h1 (by omega)) _ (fun k q => wpS_pure q) _ lstep
    case step =>
      rintro x c st' _ hx ⟨rfl, l, o, rfl, h1, h2, h3, h4⟩
      dsimp only
      by_cases q : o ≥ n - hint
      · rw [if_pos q]
        refine wpS_pure ?_
        dsimp only
        have e : hint + min o (n - hint) = n := by omega
        rw [e]
        exact last _ _ (by omega) (Nat.le_refl _) (fun i hi => hm i _ (by omega) h3 h4) (fun i h1 h2 => absurd h1 (by omega)) _ (fun k q => wpS_pure q) _ lstep
      · rw [if_neg q]
        refine wpS_bind (hb _ (by omega) _ ?_)
        cases q1 : b (hint + o) with
        | true => exact wpS_pure ⟨rfl, _, _, rfl, by omega, by omega, by omega, q1⟩
        | false =>
          refine wpS_pure ?_
          dsimp only
          have e : hint + min o (n - hint) = hint + o := by omega
          rw [e]
          exact last _ _ (by omega) (by omega) (fun i hi => hm i _ (by omega) h3 h4) (fun i h1 h2 => hm' _ i h1 h2 q1) _ (fun k q => wpS_pure q) _ lstep
  | false =>
    rw [if_neg Bool.false_ne_true]
    refine wpS_bind (wpS_forRange (a := 0) (b := n) (I := fun x c st' => st' = st ∧ ∃ l o, c = (none, l, o) ∧ l < o ∧ x < o ∧ l ≤ hint ∧ b (hint - l) = false) ?step ?fin ⟨rfl, 0, 1, rfl, by omega, by omega, by omega, hr⟩)
    case fin =>
      rintro c st' ⟨rfl, l, o, rfl, h1, h2, h3, h4⟩
      dsimp only
      have e : hint + 1 - min o (hint + 1) = 0 := by omega
      rw [e]
      exact last _ _ (by omega) (by omega) (fun i hi => absurd hi (by omega)) (fun i h1 h2 => hm' _ i h1 h2 h4) _ (fun k q => wpS_pure q) _ lstep
    case step =>
      rintro x c st' _ hx ⟨rfl, l, o, rfl, h1, h2, h3, h4⟩
      dsimp only
      by_cases q : o ≥ hint + 1
      · rw [if_pos q]
        refine wpS_pure ?_
        dsimp only
        have e : hint + 1 - min o (hint + 1) = 0 := by omega
        rw [e]
        exact last _ _ (by omega) (by omega) (fun i hi => absurd hi (by omega)) (fun i h1 h2 => hm' _ i h1 h2 h4) _ (fun k q => wpS_pure q) _ lstep
      · rw [if_neg q]
        refine wpS_bind (hb _ (by omega) _ ?_)
        cases q1 : b (hint - o) with
        | false => exact wpS_pure ⟨rfl, _, _, rfl, by omega, by omega, by omega, q1⟩
        | true =>
          refine wpS_pure ?_
          dsimp only
          have e : hint + 1 - min o (hint + 1) = hint + 1 - o := by omega
          rw [e]
          exact last _ _ (by omega) (by omega) (fun i hi => hm i (hint - o) (by omega) (by omega) q1) (fun i h1 h2 => hm' _ i h1 h2 h4) _ (fun k q => wpS_pure q) _ lstep
end
end Srt

set_option Elab.async false
set_option linter.all false
set_option maxRecDepth 100000
set_option maxHeartbeats 1000000
namespace Srt
open PySem PyProof.Rows
set_option autoImplicit false

/-! ### merging, on lists -/
structure MM (R : Keyed → Keyed → Prop) (la lb o : List Keyed) (i j : Nat) : Prop where
  perm : o.Perm (la.take i ++ lb.take j)
  srt : o.Pairwise R
  ra : ∀ x ∈ o, ∀ y ∈ la.drop i, R x y
  rb : ∀ x ∈ o, ∀ y ∈ lb.drop j, R x y
section
variable {R : Keyed → Keyed → Prop} {la lb o : List Keyed} {i j : Nat}
theorem MM.nil : MM R la lb [] 0 0 := ⟨by simp, .nil, fun _ h => (nomatch h), fun _ h => (nomatch h)⟩
theorem MM.swap (h : MM R la lb o i j) : MM R lb la o j i := ⟨h.perm.trans List.perm_append_comm, h.srt, h.rb, h.ra⟩
theorem MM.chunk (h : MM R la lb o i j) (ha : la.Pairwise R) {k : Nat} (hx : ∀ x ∈ (la.drop i).take k, ∀ y ∈ lb.drop j, R x y) : MM R la lb (o ++ (la.drop i).take k) (i + k) j := by
  have ha1 : ((la.drop i).take k ++ (la.drop i).drop k).Pairwise R := by
    rw [List.take_append_drop]
    exact ha.sublist (List.drop_sublist _ _)
  rw [List.drop_drop] at ha1
  obtain ⟨p1, p2, p3⟩ := List.pairwise_append.mp ha1
  have sub : ∀ y ∈ (la.drop i).take k, y ∈ la.drop i := fun y hy => List.mem_of_mem_take hy
  have sub2 : ∀ y ∈ la.drop (i + k), y ∈ la.drop i := fun y hy => by
    rw [← List.drop_drop] at hy
    exact List.mem_of_mem_drop hy
  refine ⟨?_, List.pairwise_append.mpr ⟨h.srt, p1, fun x hx y hy => h.ra x hx y (sub y hy)⟩, fun x hx' y hy => ?_, fun x hx' y hy => ?_⟩
  · rw [List.take_add]
    refine (h.perm.append_right _).trans ?_
    rw [List.append_assoc, List.append_assoc]
    exact (List.perm_append_comm).append_left _
  · rcases List.mem_append.mp hx' with q | q
    · exact h.ra x q y (sub2 y hy)
    · exact p3 x q y hy
  · rcases List.mem_append.mp hx' with q | q
    · exact h.rb x q y hy
    · exact hx x q y hy
theorem MM.fin (h : MM R la lb o i j) (ha : la.Pairwise R) (hb : lb.Pairwise R) (hx : ∀ x ∈ la.drop i, ∀ y ∈ lb.drop j, R x y) :
    (o ++ la.drop i ++ lb.drop j).Perm (la ++ lb) ∧ (o ++ la.drop i ++ lb.drop j).Pairwise R := by
  have h1 := h.chunk ha (k := la.length) (by
    rw [List.take_of_length_le (by rw [List.length_drop]; omega)]
    exact hx)
  have h2 := h1.swap.chunk hb (k := lb.length) (by
    intro x _ y hy
    rw [List.drop_of_length_le (by omega)] at hy
    cases hy)
  have h3 := h2.swap
  rw [List.take_of_length_le (by rw [List.length_drop]; omega), List.take_of_length_le (by rw [List.length_drop]; omega)] at h3
  refine ⟨h3.perm.trans (.of_eq ?_), h3.srt⟩
  rw [List.take_of_length_le (by omega), List.take_of_length_le (by omega)]
theorem MM.finB (h : MM R la lb o i j) (ha : la.Pairwise R) (hb : lb.Pairwise R) (hx : ∀ x ∈ lb.drop j, ∀ y ∈ la.drop i, R x y) :
    (o ++ lb.drop j ++ la.drop i).Perm (la ++ lb) ∧ (o ++ lb.drop j ++ la.drop i).Pairwise R :=
  have q := h.swap.fin hb ha hx
  ⟨q.1.trans List.perm_append_comm, q.2⟩
end

/-! ### places -/
def at' (xs : Array Keyed) (i : Nat) : Keyed := xs.getD i (.none, .none)
theorem at_some {xs : Array Keyed} {i : Nat} (h : i < xs.size) : xs[i]? = some (at' xs i) := by
  unfold at' Array.getD
  rw [dif_pos h, getElem?_pos xs i h]
  rfl
theorem at_toList {xs : Array Keyed} {i : Nat} (h : i < xs.size) : xs.toList[i]? = some (at' xs i) := by
  rw [Array.getElem?_toList]
  exact at_some h
theorem mem_at {xs : Array Keyed} {y : Keyed} {i : Nat} (h : y ∈ xs.toList.drop i) : ∃ j, i ≤ j ∧ j < xs.size ∧ y = at' xs j := by
  obtain ⟨k, hk, e⟩ := List.mem_iff_getElem.mp h
  rw [List.length_drop, Array.length_toList] at hk
  refine ⟨i + k, by omega, by omega, ?_⟩
  have q := at_toList (xs := xs) (i := i + k) (by omega)
  rw [List.getElem_drop] at e
  rw [List.getElem?_eq_getElem (by rw [Array.length_toList]; omega)] at q
  rw [← e]
  exact Option.some.inj q
theorem mem_take_at {xs : Array Keyed} {y : Keyed} {i k : Nat} (h : y ∈ (xs.toList.drop i).take k) : ∃ j, i ≤ j ∧ j < i + k ∧ j < xs.size ∧ y = at' xs j := by
  obtain ⟨m, hm, e⟩ := List.mem_iff_getElem.mp h
  rw [List.length_take, List.length_drop, Array.length_toList] at hm
  refine ⟨i + m, by omega, by omega, by omega, ?_⟩
  have q := at_toList (xs := xs) (i := i + m) (by omega)
  rw [List.getElem_take, List.getElem_drop] at e
  rw [List.getElem?_eq_getElem (by rw [Array.length_toList]; omega)] at q
  rw [← e]
  exact Option.some.inj q
theorem chunk_one {xs : Array Keyed} {i : Nat} (h : i < xs.size) : (xs.toList.drop i).take 1 = [at' xs i] := by
  have q := at_toList h
  rw [List.drop_eq_getElem_cons (by rw [Array.length_toList]; exact h)]
  rw [List.getElem?_eq_getElem (by rw [Array.length_toList]; exact h)] at q
  rw [← Option.some.inj q]
  rfl
theorem ext_toList (xs : Array Keyed) (i j : Nat) : (xs.extract i j).toList = (xs.toList.drop i).take (j - i) := by
  rw [Array.toList_extract, List.extract_eq_take_drop]
theorem ext_all (xs : Array Keyed) (i : Nat) : (xs.extract i xs.size).toList = xs.toList.drop i := by
  rw [ext_toList, List.take_of_length_le (by rw [List.length_drop, Array.length_toList]; omega)]

section
variable {prog : Program} {w : World} {A : Around} {E : Value → Shared → Prop} {s : Shared}
variable {O : KeyOrd} {key : Keyed → O.α} {D : Keyed → Prop} {kd : SortKind}
/-- not above -/
def LE (key : Keyed → O.α) (x y : Keyed) : Prop := O.kle (key x) (key y)
def LT (key : Keyed → O.α) (x y : Keyed) : Prop := O.klt (key x) (key y)
def Sg (key : Keyed → O.α) (xs : Array Keyed) (lo hi : Nat) : Prop := ∀ i j, lo ≤ i → i ≤ j → j < hi → LE key (at' xs i) (at' xs j)
def AllD (D : Keyed → Prop) (xs : Array Keyed) : Prop := ∀ i, i < xs.size → D (at' xs i)
theorem LE.trans {x y z : Keyed} (h : LE key x y) (h' : LE key y z) : LE key x z := KeyOrd.kle_trans h h'
theorem LT.le {x y : Keyed} (h : LT key x y) : LE key x y := KeyOrd.kle_of_klt h
theorem Sg.pw {xs : Array Keyed} (h : Sg key xs 0 xs.size) : xs.toList.Pairwise (LE key) := by
  rw [List.pairwise_iff_getElem]
  intro i j hi hj hij
  rw [Array.length_toList] at hi hj
  have q := h i j (by omega) (by omega) hj
  have e1 := at_toList hi
  have e2 := at_toList hj
  rw [List.getElem?_eq_getElem (by rw [Array.length_toList]; omega)] at e1 e2
  rw [Option.some.inj e1, Option.some.inj e2]
  exact q

theorem wpS_gallopR (C : Cmp prog w A E s O key D kd) {x : Keyed} {arr : Array Keyed} {base n hint : Nat} {st : SortSt} {Q : Option Nat → SortSt → Prop} (hk : kindOf st = kd) (hx : D x) (hD : AllD D arr) (hn : base + n ≤ arr.size) (hs : Sg key arr base (base + n)) (hh : hint < n)
    (h : ∀ k, k ≤ n → (∀ i, base ≤ i → i < base + k → LE key (at' arr i) x) → (∀ i, base + k ≤ i → i < base + n → LT key x (at' arr i)) → Q (some k) st) : wpS (model prog w) A E s (gallop' false x arr base n hint) Q st := by
  refine wpS_gallop_of (b := fun i => !O.blt (key x) (key (at' arr (base + i)))) (fun i hi Q hQ => ?_) (fun i j hij hj q => ?_) hh (fun k hk h1 h2 => h k hk (fun i i1 i2 => ?_) fun i i1 i2 => ?_)
  · refine wpS_bind (wpS_elem (at_some (by omega)) ?_)
    rw [if_neg Bool.false_ne_true]
    exact wpS_bind (C.lt _ _ _ _ hx (hD _ (by omega)) hk (wpS_pure hQ))
  · have q1 : LE key (at' arr (base + j)) x := by
      unfold LE KeyOrd.kle
      simpa using q
    have q2 : LE key (at' arr (base + i)) x := LE.trans (hs _ _ (by omega) (by omega) (by omega)) q1
    unfold LE KeyOrd.kle at q2
    simpa using q2
  · have q := h1 (i - base) (by omega)
    rw [show base + (i - base) = i by omega] at q
    unfold LE KeyOrd.kle
    simpa using q
  · have q := h2 (i - base) (by omega) (by omega)
    rw [show base + (i - base) = i by omega] at q
    unfold LT KeyOrd.klt
    simpa using q

theorem wpS_gallopL (C : Cmp prog w A E s O key D kd) {x : Keyed} {arr : Array Keyed} {base n hint : Nat} {st : SortSt} {Q : Option Nat → SortSt → Prop} (hk : kindOf st = kd) (hx : D x) (hD : AllD D arr) (hn : base + n ≤ arr.size) (hs : Sg key arr base (base + n)) (hh : hint < n)
    (h : ∀ k, k ≤ n → (∀ i, base ≤ i → i < base + k → LT key (at' arr i) x) → (∀ i, base + k ≤ i → i < base + n → LE key x (at' arr i)) → Q (some k) st) : wpS (model prog w) A E s (gallop' true x arr base n hint) Q st := by
  refine wpS_gallop_of (b := fun i => O.blt (key (at' arr (base + i))) (key x)) (fun i hi Q hQ => ?_) (fun i j hij hj q => ?_) hh (fun k hk h1 h2 => h k hk (fun i i1 i2 => ?_) fun i i1 i2 => ?_)
  · refine wpS_bind (wpS_elem (at_some (by omega)) ?_)
    rw [if_pos rfl]
    exact C.lt _ _ _ _ (hD _ (by omega)) hx hk hQ
  · exact KeyOrd.klt_of_kle_of_klt (hs _ _ (by omega) (by omega) (by omega)) q
  · have q := h1 (i - base) (by omega)
    rw [show base + (i - base) = i by omega] at q
    exact q
  · have q := h2 (i - base) (by omega) (by omega)
    rw [show base + (i - base) = i by omega] at q
    exact q
end
end Srt

set_option Elab.async false
set_option linter.all false
set_option maxRecDepth 100000
set_option maxHeartbeats 1000000
namespace Srt
open PySem PyProof.Rows
set_option autoImplicit false
def setMin' : Nat → StateT SortSt Sem Unit := sortPriv% PySem.Builtin.setMinGallop
section
variable {prog : Program} {w : World} {A : Around} {E : Value → Shared → Prop} {s : Shared}
variable {O : KeyOrd} {key : Keyed → O.α} {D : Keyed → Prop} {kd : SortKind}
theorem wpS_setMin {g : Nat} {st : SortSt} {Q : Unit → SortSt → Prop} (h : ∀ st', Sm st st' → Q () st') : wpS (model prog w) A E s (setMin' g) Q st :=
  wpS_modify (h _ ⟨rfl, rfl, rfl, rfl⟩)
theorem wpS_use {α : Type} {m : StateT SortSt Sem α} {Q : α → SortSt → Prop} {st : SortSt} (P : (α → SortSt → Prop) → Prop) (h1 : P Q) (h2 : P Q → wpS (model prog w) A E s m Q st) : wpS (model prog w) A E s m Q st := h2 h1
abbrev G2 : Type := StateT SortSt Sem (ForInStep (Option (Array Keyed) × Array Keyed × Nat × Nat × Nat × Nat × Nat))
abbrev MA (key : Keyed → O.α) (a b out : Array Keyed) (i j : Nat) : Prop := MM (LE key) a.toList b.toList out.toList i j
variable {a b out : Array Keyed} {i j : Nat}
theorem MM.oneA (h : MA key a b out i j) (sa : Sg key a 0 a.size) (hi : i < a.size) (hx : ∀ k, j ≤ k → k < b.size → LE key (at' a i) (at' b k)) : MA key a b (out.push (at' a i)) (i + 1) j := by
  have q := h.chunk sa.pw (k := 1) (by
    intro x hx' y hy
    rw [chunk_one hi] at hx'
    obtain ⟨k, k1, k2, rfl⟩ := mem_at hy
    rw [List.mem_singleton.mp hx']
    exact hx k k1 k2)
  rw [chunk_one hi] at q
  show MM _ _ _ (out.push (at' a i)).toList _ _
  rw [Array.toList_push]
  exact q
theorem MM.oneB (h : MA key a b out i j) (sb : Sg key b 0 b.size) (hj : j < b.size) (hx : ∀ k, i ≤ k → k < a.size → LE key (at' b j) (at' a k)) : MA key a b (out.push (at' b j)) i (j + 1) :=
  (MM.oneA (a := b) (b := a) h.swap sb hj hx).swap
theorem MM.someA (h : MA key a b out i j) (sa : Sg key a 0 a.size) {k : Nat} (hx : ∀ m, i ≤ m → m < i + k → m < a.size → ∀ n, j ≤ n → n < b.size → LE key (at' a m) (at' b n)) : MA key a b (out ++ a.extract i (i + k)) (i + k) j := by
  have q := h.chunk sa.pw (k := k) (by
    intro x hx' y hy
    obtain ⟨m, m1, m2, m3, rfl⟩ := mem_take_at hx'
    obtain ⟨n, n1, n2, rfl⟩ := mem_at hy
    exact hx m m1 m2 m3 n n1 n2)
  show MM _ _ _ (out ++ a.extract i (i + k)).toList _ _
  rw [Array.toList_append, ext_toList, show i + k - i = k by omega]
  exact q
theorem MM.someB (h : MA key a b out i j) (sb : Sg key b 0 b.size) {k : Nat} (hx : ∀ m, j ≤ m → m < j + k → m < b.size → ∀ n, i ≤ n → n < a.size → LE key (at' b m) (at' a n)) : MA key a b (out ++ b.extract j (j + k)) i (j + k) :=
  (MM.someA (a := b) (b := a) h.swap sb hx).swap
theorem MM.doneA (h : MA key a b out i j) (sa : Sg key a 0 a.size) (sb : Sg key b 0 b.size) (he : a.size ≤ i ∨ b.size ≤ j) :
    (out ++ a.extract i a.size ++ b.extract j b.size).toList.Perm (a.toList ++ b.toList) ∧ (out ++ a.extract i a.size ++ b.extract j b.size).toList.Pairwise (LE key) := by
  rw [Array.toList_append, Array.toList_append, ext_all, ext_all]
  refine h.fin sa.pw sb.pw fun x hx y hy => ?_
  obtain ⟨m, m1, m2, rfl⟩ := mem_at hx
  obtain ⟨n, n1, n2, rfl⟩ := mem_at hy
  omega
theorem MM.doneL (h : MA key a b out i j) (sa : Sg key a 0 a.size) (sb : Sg key b 0 b.size) (he : i + 1 = a.size) (h9 : ∀ j, j < b.size → LT key (at' b j) (at' a (a.size - 1))) :
    (out ++ b.extract j b.size ++ a.extract i a.size).toList.Perm (a.toList ++ b.toList) ∧ (out ++ b.extract j b.size ++ a.extract i a.size).toList.Pairwise (LE key) := by
  rw [Array.toList_append, Array.toList_append, ext_all, ext_all]
  refine h.finB sa.pw sb.pw fun x hx y hy => ?_
  obtain ⟨m, m1, m2, rfl⟩ := mem_at hx
  obtain ⟨n, n1, n2, rfl⟩ := mem_at hy
  have := h9 m m2
  rw [show n = a.size - 1 by omega]
  exact this.le

theorem wpS_mergeLo (C : Cmp prog w A E s O key D kd) {st : SortSt} {Q : Array Keyed → SortSt → Prop} (hk : kindOf st = kd) (Da : AllD D a) (Db : AllD D b) (sa : Sg key a 0 a.size) (sb : Sg key b 0 b.size) (ha : 0 < a.size) (hb : 0 < b.size)
    (h0 : LT key (at' b 0) (at' a 0)) (h9 : ∀ j, j < b.size → LT key (at' b j) (at' a (a.size - 1)))
    (h : ∀ out st', Sm st st' → out.toList.Perm (a.toList ++ b.toList) → out.toList.Pairwise (LE key) → Q out st') : wpS (model prog w) A E s (mergeLo' a b) Q st := by
  unfold mergeLo'
  k_delta "mergeLo"
  refine wpS_bind (wpS_lift (wpAny_rule ⟨rfl, ?_⟩))
  try extract_lets
  refine wpS_bind (wpS_elem (at_some hb) ?_)
  try extract_lets
  have M0 : MA key a b #[at' b 0] 0 1 := MM.oneB (out := #[]) MM.nil sb hb fun k _ hk => h0.le.trans (sa 0 k (by omega) (by omega) hk)
  have fD : ∀ {out : Array Keyed} {i j : Nat} {st' : SortSt}, Sm st st' → MA key a b out i j → (a.size ≤ i ∨ b.size ≤ j) → Q (out ++ a.extract i a.size ++ b.extract j b.size) st' := fun sm m he => h _ _ sm (m.doneA sa sb he).1 (m.doneA sa sb he).2
  have fL : ∀ {out : Array Keyed} {i j : Nat} {st' : SortSt}, Sm st st' → MA key a b out i j → i + 1 = a.size → Q (out ++ b.extract j b.size ++ a.extract i a.size) st' := fun sm m he => h _ _ sm (m.doneL sa sb he h9).1 (m.doneL sa sb he h9).2
  by_cases e1 : (1 == b.size) = true
  · rw [if_pos e1]
    exact wpS_pure (fD (Sm.refl _) M0 (.inr (by have := eq_of_beq e1; omega)))
  rw [if_neg e1]
  have e1' : 1 < b.size := by
    have : ¬ 1 = b.size := fun q => e1 (by rw [← q]; rfl)
    omega
  by_cases e2 : (0 + 1 == a.size) = true
  · rw [if_pos e2]
    exact wpS_pure (fL (Sm.refl _) M0 (eq_of_beq e2))
  rw [if_neg e2]
  have e2' : 0 + 1 < a.size := by
    have : ¬ 0 + 1 = a.size := fun q => e2 (by rw [← q]; rfl)
    omega
  refine wpS_bind (wpS_get ?_)
  try extract_lets
  refine wpS_bind (wpS_mono (wpS_forRange (a := 0) (b := a.size + b.size)
    (I := fun x c st' => Sm st st' ∧ ∃ out i j mg, c = (none, out, i, j, mg) ∧ MA key a b out i j ∧ i + 1 < a.size ∧ j < b.size ∧ x ≤ i + j)
    (Q := fun c st' => ∃ r rest, c = (some r, rest) ∧ Q r st') ?step ?fin ⟨Sm.refl _, _, _, _, _, rfl, M0, e2', e1', by omega⟩) ?post)
  case post =>
    rintro c st' ⟨r, rest, rfl, hq⟩
    exact wpS_pure hq
  case fin =>
    rintro c st' ⟨_, out, i, j, mg, _, _, h1, h2, h3⟩
    omega
  case step =>
    rintro x c st1 _ hx ⟨sm1, out, i, j, mg, rfl, m1, hi, hj, hp⟩
    try extract_lets
    refine wpS_bind (wpS_mono (wpS_forRange (a := 0) (b := a.size + b.size)
      (I := fun _ c st' => Sm st st' ∧ ∃ out i j ac bc, c = (none, out, i, j, ac, bc) ∧ MA key a b out i j ∧ i + 1 < a.size ∧ j < b.size ∧ x ≤ i + j)
      (Q := fun c st' => (∃ r rest, c = (some r, rest) ∧ Q r st') ∨ (Sm st st' ∧ ∃ out i j ac bc, c = (none, out, i, j, ac, bc) ∧ MA key a b out i j ∧ i + 1 < a.size ∧ j < b.size ∧ x ≤ i + j)) ?step1 ?fin1 ⟨sm1, _, _, _, _, _, rfl, m1, hi, hj, hp⟩) ?post1)
    case fin1 => exact fun c st' q => .inr q
    case step1 =>
      rintro _ c st2 _ _ ⟨sm2, out, i, j, ac, bc, rfl, m2, hi, hj, hp⟩
      dsimp only
      refine wpS_bind (wpS_elem (at_some hj) ?_)
      refine wpS_bind (wpS_elem (at_some (by omega)) ?_)
      refine wpS_bind (C.lt _ _ _ _ (Db _ hj) (Da _ (by omega)) (sm2.kind.trans hk) ?_)
      dsimp only
      cases q : O.blt (key (at' b j)) (key (at' a i)) with
      | true =>
        rw [if_pos rfl]
        refine wpS_bind (wpS_elem (at_some hj) ?_)
        have q' : LT key (at' b j) (at' a i) := q
        have m3 := MM.oneB m2 sb hj fun k k1 k2 => q'.le.trans (sa i k (by omega) k1 k2)
        by_cases e : (j + 1 == b.size) = true
        · rw [if_pos e]
          exact wpS_pure (.inl ⟨_, _, rfl, fD sm2 m3 (.inr (by have := eq_of_beq e; omega))⟩)
        · rw [if_neg e]
          have e' : j + 1 < b.size := by
            have : ¬ j + 1 = b.size := fun q => e (by rw [← q]; exact beq_self_eq_true _)
            omega
          have fin : Sm st st2 ∧ ∃ o i' j' ac' bc', ((none, out.push (at' b j), i, j + 1, 0, bc + 1) : Option (Array Keyed) × Array Keyed × Nat × Nat × Nat × Nat) = (none, o, i', j', ac', bc') ∧ MA key a b o i' j' ∧ i' + 1 < a.size ∧ j' < b.size ∧ x ≤ i' + j' := ⟨sm2, _, _, _, _, _, rfl, m3, hi, e', by omega⟩
          by_cases g : bc + 1 ≥ mg
          · rw [if_pos g]
            exact wpS_pure (.inr fin)
          · rw [if_neg g]
            exact wpS_pure fin
      | false =>
        rw [if_neg Bool.false_ne_true]
        refine wpS_bind (wpS_elem (at_some (by omega)) ?_)
        have q' : LE key (at' a i) (at' b j) := q
        have m3 := MM.oneA m2 sa (by omega) fun k k1 k2 => q'.trans (sb j k (by omega) k1 k2)
        by_cases e : (i + 1 + 1 == a.size) = true
        · rw [if_pos e]
          exact wpS_pure (.inl ⟨_, _, rfl, fL sm2 m3 (eq_of_beq e)⟩)
        · rw [if_neg e]
          have e' : i + 1 + 1 < a.size := by
            have : ¬ i + 1 + 1 = a.size := fun q => e (by rw [← q]; exact beq_self_eq_true _)
            omega
          have fin : Sm st st2 ∧ ∃ o i' j' ac' bc', ((none, out.push (at' a i), i + 1, j, ac + 1, 0) : Option (Array Keyed) × Array Keyed × Nat × Nat × Nat × Nat) = (none, o, i', j', ac', bc') ∧ MA key a b o i' j' ∧ i' + 1 < a.size ∧ j' < b.size ∧ x ≤ i' + j' := ⟨sm2, _, _, _, _, _, rfl, m3, e', hj, by omega⟩
          by_cases g : ac + 1 ≥ mg
          · rw [if_pos g]
            exact wpS_pure (.inr fin)
          · rw [if_neg g]
            exact wpS_pure fin
    case post1 =>
      rintro c st2 (⟨r, rest, rfl, hq⟩ | ⟨sm2, out, i, j, ac, bc, rfl, m2, hi, hj, hp⟩)
      · exact wpS_pure ⟨_, _, rfl, hq⟩
      try extract_lets
      refine wpS_bind (wpS_lift (wpAny_rule ⟨rfl, ?_⟩))
      try extract_lets
      refine wpS_bind (wpS_mono (wpS_forRange (a := 0) (b := a.size + b.size)
        (I := fun y c st' => Sm st st' ∧ ∃ out i j mg ac bc, c = (none, out, i, j, mg, ac, bc) ∧ MA key a b out i j ∧ i + 1 < a.size ∧ j < b.size ∧ x + y ≤ i + j)
        (Q := fun c st' => (∃ r rest, c = (some r, rest) ∧ Q r st') ∨ (Sm st st' ∧ ∃ out i j mg ac bc, c = (none, out, i, j, mg, ac, bc) ∧ MA key a b out i j ∧ i + 1 < a.size ∧ j < b.size ∧ x + 1 ≤ i + j)) ?step2 ?fin2 ⟨sm2, _, _, _, _, _, _, rfl, m2, hi, hj, hp⟩) ?post2)
      case fin2 =>
        rintro c st3 ⟨sm3, out, i, j, mg, ac, bc, rfl, m3, hi, hj, hp⟩
        exact .inr ⟨sm3, _, _, _, _, _, _, rfl, m3, hi, hj, by omega⟩
      case post2 =>
        rintro c st3 (⟨r, rest, rfl, hq⟩ | ⟨sm3, out, i, j, mg, ac, bc, rfl, m3, hi, hj, hp⟩)
        · exact wpS_pure ⟨_, _, rfl, hq⟩
        try extract_lets
        exact wpS_bind (wpS_setMin fun st4 sm4 => wpS_pure ⟨sm3.trans sm4, _, _, _, _, rfl, m3, hi, hj, hp⟩)
      case step2 =>
        rintro y c st3 _ hy ⟨sm3, out, i, j, mg, ac, bc, rfl, m3, hi, hj, hp⟩
        extract_lets -merge +onlyGivenNames s1 o1 s2 i1 s3 j1 s4 g1 s5 c1 d1 ib2 jp
        refine wpS_use (fun Q => ∀ mg, wpS (model prog w) A E s (jp () mg) Q st3) ?_ (fun hjp => ?_)
        case refine_2 =>
          by_cases g : mg > 1
          · rw [if_pos g]
            exact hjp _
          · rw [if_neg g]
            exact hjp _
        intro mg
        refine wpS_bind (wpS_setMin fun st4 sm4 => ?_)
        have sm5 := sm3.trans sm4
        refine wpS_bind (wpS_elem (at_some hj) ?_)
        refine wpS_bind (wpS_gallopR (arr := a) (base := i) (n := a.size - i) (hint := 0) C (sm5.kind.trans hk) (Db _ hj) Da (by omega) (fun m n h1 h2 h3 => sa m n (by omega) h2 (by omega)) (by omega) fun k hk1 hk2 hk3 => ?_)
        dsimp -zeta -zetaHave only
        extract_lets -merge +onlyGivenNames c2 jp2
        refine wpS_use (fun Q => ∀ (out : Array Keyed) (i : Nat), MA key a b out i j → i + 1 < a.size → (∀ m, i ≤ m → m < a.size → LT key (at' b j) (at' a m)) → x + y ≤ i + j → wpS (model prog w) A E s (jp2 () out i) Q st4) ?_ (fun hjp => ?_)
        case refine_2 =>
          by_cases g : k > 0
          · rw [if_pos g]
            have m4 := MM.someA m3 sa (k := k) fun m m1 m2 _ n n1 n2 => (hk2 m m1 m2).trans (sb j n (by omega) n1 n2)
            by_cases e : (i + k + 1 == a.size) = true
            · try extract_lets
              rw [if_pos e]
              exact wpS_pure (.inl ⟨_, _, rfl, fL (i := i + k) (j := j) sm5 m4 (eq_of_beq e)⟩)
            · try extract_lets
              rw [if_neg e]
              by_cases e2 : (i + k == a.size) = true
              · rw [if_pos e2]
                exact wpS_pure (.inl ⟨_, _, rfl, fD (i := i + k) (j := j) sm5 m4 (.inl (by have := eq_of_beq e2; omega))⟩)
              · rw [if_neg e2]
                have n1 : ¬ i + k + 1 = a.size := fun q => e (by rw [← q]; exact beq_self_eq_true _)
                have n2 : ¬ i + k = a.size := fun q => e2 (by rw [← q]; exact beq_self_eq_true _)
                exact hjp _ (i + k) m4 (by omega) (fun m m1 m2 => hk3 m m1 (by omega)) (by omega)
          · rw [if_neg g]
            exact hjp _ i m3 hi (fun m m1 m2 => hk3 m (by omega) (by omega)) hp
        intro out i m4 hi hlt hp
        refine wpS_bind (wpS_elem (at_some hj) ?_)
        have m5 := MM.oneB m4 sb hj fun n n1 n2 => (hlt n n1 n2).le
        try extract_lets
        by_cases e : (j + 1 == b.size) = true
        · rw [if_pos e]
          exact wpS_pure (.inl ⟨_, _, rfl, fD (i := i) (j := j + 1) sm5 m5 (.inr (by have := eq_of_beq e; omega))⟩)
        rw [if_neg e]
        have n1 : ¬ j + 1 = b.size := fun q => e (by rw [← q]; exact beq_self_eq_true _)
        refine wpS_bind (wpS_elem (at_some (by omega)) ?_)
        refine wpS_bind (wpS_gallopL (arr := b) (base := j + 1) (n := b.size - (j + 1)) (hint := 0) C (sm5.kind.trans hk) (Da i (by omega)) Db (by omega) (fun m n h1 h2 h3 => sb m n (by omega) h2 (by omega)) (by omega) fun k2 hk21 hk22 hk23 => ?_)
        dsimp -zeta -zetaHave only
        extract_lets -merge +onlyGivenNames c3 jp3
        refine wpS_use (fun Q => ∀ (out : Array Keyed) (j' : Nat), MA key a b out i j' → j' < b.size → (∀ m, j' ≤ m → m < b.size → LE key (at' a i) (at' b m)) → x + (y + 1) ≤ i + j' → wpS (model prog w) A E s (jp3 () out j') Q st4) ?_ (fun hjp => ?_)
        case refine_2 =>
          by_cases g : k2 > 0
          · rw [if_pos g]
            have m6 := MM.someB m5 sb (k := k2) fun m m1 m2 _ n n1 n2 => (hk22 m m1 m2).le.trans (sa i n (by omega) n1 n2)
            try extract_lets
            by_cases e : (j + 1 + k2 == b.size) = true
            · rw [if_pos e]
              exact wpS_pure (.inl ⟨_, _, rfl, fD (i := i) (j := j + 1 + k2) sm5 m6 (.inr (by have := eq_of_beq e; omega))⟩)
            · rw [if_neg e]
              have n2 : ¬ j + 1 + k2 = b.size := fun q => e (by rw [← q]; exact beq_self_eq_true _)
              exact hjp _ (j + 1 + k2) m6 (by omega) (fun m m1 m2 => hk23 m m1 (by omega)) (by omega)
          · rw [if_neg g]
            exact hjp _ (j + 1) m5 (by omega) (fun m m1 m2 => hk23 m (by omega) (by omega)) (by omega)
        intro out j' m6 hj' hle hp'
        refine wpS_bind (wpS_elem (at_some (by omega)) ?_)
        have m7 := MM.oneA m6 sa (by omega) hle
        try extract_lets
        by_cases e3 : (i + 1 + 1 == a.size) = true
        · rw [if_pos e3]
          exact wpS_pure (.inl ⟨_, _, rfl, fL (i := i + 1) (j := j') sm5 m7 (eq_of_beq e3)⟩)
        rw [if_neg e3]
        have n3 : ¬ i + 1 + 1 = a.size := fun q => e3 (by rw [← q]; exact beq_self_eq_true _)
        by_cases g : (decide (k < 7) && decide (k2 < 7)) = true
        · rw [if_pos g]
          exact wpS_pure (.inr ⟨sm5, _, _, _, _, _, _, rfl, m7, by omega, hj', by omega⟩)
        · rw [if_neg g]
          exact wpS_pure ⟨sm5, _, _, _, _, _, _, rfl, m7, by omega, hj', by omega⟩
end
end Srt

set_option Elab.async false
set_option linter.all false
set_option maxRecDepth 100000
set_option maxHeartbeats 1000000
namespace Srt
open PySem PyProof.Rows
set_option autoImplicit false
section
variable {prog : Program} {w : World} {A : Around} {E : Value → Shared → Prop} {s : Shared}
variable {O : KeyOrd} {key : Keyed → O.α} {D : Keyed → Prop} {kd : SortKind}
/-- merging from the end: what is out is behind all that is left -/
def MH (key : Keyed → O.α) (a b out : Array Keyed) (i j : Nat) : Prop := MM (fun x y => LE key y x) a.toList.reverse b.toList.reverse out.toList (a.size - i) (b.size - j)
variable {a b out : Array Keyed} {i j : Nat}
theorem Sg.pwr {xs : Array Keyed} (h : Sg key xs 0 xs.size) : xs.toList.reverse.Pairwise (fun x y => LE key y x) := List.pairwise_reverse.mpr h.pw
theorem drop_rev (xs : Array Keyed) {i : Nat} (h : i ≤ xs.size) : xs.toList.reverse.drop (xs.size - i) = (xs.toList.take i).reverse := by
  rw [List.drop_reverse, Array.length_toList, show xs.size - (xs.size - i) = i by omega]
theorem chunk_rev (xs : Array Keyed) {i k : Nat} (h : i ≤ xs.size) (hk : k ≤ i) : (xs.toList.reverse.drop (xs.size - i)).take (i - k) = (xs.extract k i).reverse.toList := by
  rw [drop_rev xs h, List.take_reverse, List.length_take, Array.length_toList, show min i xs.size - (i - k) = k by omega, Array.toList_reverse, ext_toList, List.drop_take]
theorem mem_rev {xs : Array Keyed} {y : Keyed} {i : Nat} (hi : i ≤ xs.size) (h : y ∈ xs.toList.reverse.drop (xs.size - i)) : ∃ j, j < i ∧ y = at' xs j := by
  rw [drop_rev xs hi, List.mem_reverse] at h
  obtain ⟨j, _, h2, _, rfl⟩ := mem_take_at (xs := xs) (i := 0) (k := i) (by rw [List.drop_zero]; exact h)
  exact ⟨j, by omega, rfl⟩
theorem mem_chunk_rev {xs : Array Keyed} {y : Keyed} {i k : Nat} (hi : i ≤ xs.size) (hk : k ≤ i) (h : y ∈ (xs.toList.reverse.drop (xs.size - i)).take (i - k)) : ∃ j, k ≤ j ∧ j < i ∧ y = at' xs j := by
  rw [chunk_rev xs hi hk, Array.toList_reverse, List.mem_reverse, ext_toList] at h
  obtain ⟨j, h1, h2, _, rfl⟩ := mem_take_at h
  exact ⟨j, h1, by omega, rfl⟩
theorem MH.swap (h : MH key a b out i j) : MH key b a out j i := MM.swap h
theorem MH.someA (h : MH key a b out i j) (sa : Sg key a 0 a.size) {k : Nat} (hi : i ≤ a.size) (hj : j ≤ b.size) (hk : k ≤ i) (hx : ∀ m, k ≤ m → m < i → ∀ n, n < j → LE key (at' b n) (at' a m)) : MH key a b (out ++ (a.extract k i).reverse) k j := by
  have q := MM.chunk h sa.pwr (k := i - k) (by
    intro x hx' y hy
    obtain ⟨m, m1, m2, rfl⟩ := mem_chunk_rev hi hk hx'
    obtain ⟨n, n1, rfl⟩ := mem_rev hj hy
    exact hx m m1 m2 n n1)
  rw [chunk_rev a hi hk, show a.size - i + (i - k) = a.size - k by omega] at q
  unfold MH
  rw [Array.toList_append]
  exact q
theorem MH.oneA (h : MH key a b out i j) (sa : Sg key a 0 a.size) (h0 : 0 < i) (hi : i ≤ a.size) (hj : j ≤ b.size) (hx : ∀ n, n < j → LE key (at' b n) (at' a (i - 1))) : MH key a b (out.push (at' a (i - 1))) (i - 1) j := by
  have q := MH.someA h sa (k := i - 1) hi hj (by omega) fun m m1 m2 n n1 => by
    rw [show m = i - 1 by omega]
    exact hx n n1
  have e : (a.extract (i - 1) i).reverse = #[at' a (i - 1)] := by
    apply Array.toList_inj.mp
    rw [Array.toList_reverse, ext_toList, show i - (i - 1) = 1 by omega, chunk_one (by omega)]
    rfl
  rw [e] at q
  exact q
theorem MH.someB (h : MH key a b out i j) (sb : Sg key b 0 b.size) {k : Nat} (hi : i ≤ a.size) (hj : j ≤ b.size) (hk : k ≤ j) (hx : ∀ m, k ≤ m → m < j → ∀ n, n < i → LE key (at' a n) (at' b m)) : MH key a b (out ++ (b.extract k j).reverse) i k :=
  (MH.someA (a := b) (b := a) h.swap sb hj hi hk hx).swap
theorem MH.oneB (h : MH key a b out i j) (sb : Sg key b 0 b.size) (h0 : 0 < j) (hi : i ≤ a.size) (hj : j ≤ b.size) (hx : ∀ n, n < i → LE key (at' a n) (at' b (j - 1))) : MH key a b (out.push (at' b (j - 1))) i (j - 1) :=
  (MH.oneA (a := b) (b := a) h.swap sb h0 hj hi hx).swap
theorem rev_fin {r : List Keyed} (h : r.reverse.Perm (a.toList.reverse ++ b.toList.reverse) ∧ r.reverse.Pairwise (fun x y => LE key y x)) : r.Perm (a.toList ++ b.toList) ∧ r.Pairwise (LE key) :=
  ⟨r.reverse_perm.symm.trans (h.1.trans ((a.toList.reverse_perm).append b.toList.reverse_perm)), List.pairwise_reverse.mp h.2⟩
theorem MH.doneA (h : MH key a b out i j) (sa : Sg key a 0 a.size) (sb : Sg key b 0 b.size) (hi : i ≤ a.size) (hj : j ≤ b.size) (he : i = 0 ∨ j = 0) :
    (a.extract 0 i ++ b.extract 0 j ++ out.reverse).toList.Perm (a.toList ++ b.toList) ∧ (a.extract 0 i ++ b.extract 0 j ++ out.reverse).toList.Pairwise (LE key) := by
  refine rev_fin ?_
  have q := MM.finB h sa.pwr sb.pwr (fun x hx y hy => by
    obtain ⟨m, m1, rfl⟩ := mem_rev hj hx
    obtain ⟨n, n1, rfl⟩ := mem_rev hi hy
    omega)
  rw [drop_rev a hi, drop_rev b hj] at q
  rw [Array.toList_append, Array.toList_append, List.reverse_append, List.reverse_append, Array.toList_reverse, List.reverse_reverse, ext_toList, ext_toList, List.drop_zero, List.drop_zero, ← List.append_assoc]
  exact q
theorem MH.doneF (h : MH key a b out i j) (sa : Sg key a 0 a.size) (sb : Sg key b 0 b.size) (hi : i ≤ a.size) (hj : j ≤ b.size) (he : j = 1) (h0 : LT key (at' b 0) (at' a 0)) :
    (b.extract 0 j ++ a.extract 0 i ++ out.reverse).toList.Perm (a.toList ++ b.toList) ∧ (b.extract 0 j ++ a.extract 0 i ++ out.reverse).toList.Pairwise (LE key) := by
  refine rev_fin ?_
  have q := MM.fin h sa.pwr sb.pwr (fun x hx y hy => by
    obtain ⟨m, m1, rfl⟩ := mem_rev hi hx
    obtain ⟨n, n1, rfl⟩ := mem_rev hj hy
    rw [show n = 0 by omega]
    exact h0.le.trans (sa 0 m (by omega) (by omega) (by omega)))
  rw [drop_rev a hi, drop_rev b hj] at q
  rw [Array.toList_append, Array.toList_append, List.reverse_append, List.reverse_append, Array.toList_reverse, List.reverse_reverse, ext_toList, ext_toList, List.drop_zero, List.drop_zero, ← List.append_assoc]
  exact q

theorem wpS_mergeHi (C : Cmp prog w A E s O key D kd) {st : SortSt} {Q : Array Keyed → SortSt → Prop} (hk : kindOf st = kd) (Da : AllD D a) (Db : AllD D b) (sa : Sg key a 0 a.size) (sb : Sg key b 0 b.size) (ha : 0 < a.size) (hb : 0 < b.size)
    (h0 : LT key (at' b 0) (at' a 0)) (h9 : ∀ j, j < b.size → LT key (at' b j) (at' a (a.size - 1)))
    (h : ∀ out st', Sm st st' → out.toList.Perm (a.toList ++ b.toList) → out.toList.Pairwise (LE key) → Q out st') : wpS (model prog w) A E s (mergeHi' a b) Q st := by
  unfold mergeHi'
  k_delta "mergeHi"
  refine wpS_bind (wpS_lift (wpAny_rule ⟨rfl, ?_⟩))
  try extract_lets
  refine wpS_bind (wpS_elem (i := a.size - 1) (at_some (by omega)) ?_)
  try extract_lets
  have M0 : MH key a b #[at' a (a.size - 1)] (a.size - 1) b.size := MH.oneA (i := a.size) (out := #[]) (by
    unfold MH
    rw [Nat.sub_self, Nat.sub_self]
    exact MM.nil) sa ha (Nat.le_refl _) (Nat.le_refl _) fun n hn => (h9 n hn).le
  have fD : ∀ {out : Array Keyed} {i j : Nat} {st' : SortSt}, Sm st st' → MH key a b out i j → i ≤ a.size → j ≤ b.size → (i = 0 ∨ j = 0) → Q (a.extract 0 i ++ b.extract 0 j ++ out.reverse) st' := fun sm m hi hj he => h _ _ sm (m.doneA sa sb hi hj he).1 (m.doneA sa sb hi hj he).2
  have fF : ∀ {out : Array Keyed} {i j : Nat} {st' : SortSt}, Sm st st' → MH key a b out i j → i ≤ a.size → j ≤ b.size → j = 1 → Q (b.extract 0 j ++ a.extract 0 i ++ out.reverse) st' := fun sm m hi hj he => h _ _ sm (m.doneF sa sb hi hj he h0).1 (m.doneF sa sb hi hj he h0).2
  by_cases e1 : (a.size - 1 == 0) = true
  · rw [if_pos e1]
    exact wpS_pure (fD (i := a.size - 1) (j := b.size) (Sm.refl _) M0 (by omega) (by omega) (.inl (eq_of_beq e1)))
  rw [if_neg e1]
  have e1' : ¬ a.size - 1 = 0 := fun q => e1 (by rw [q]; rfl)
  by_cases e2 : (b.size == 1) = true
  · rw [if_pos e2]
    exact wpS_pure (fF (i := a.size - 1) (j := b.size) (Sm.refl _) M0 (by omega) (by omega) (eq_of_beq e2))
  rw [if_neg e2]
  have e2' : ¬ b.size = 1 := fun q => e2 (by rw [q]; rfl)
  refine wpS_bind (wpS_get ?_)
  try extract_lets
  refine wpS_bind (wpS_mono (wpS_forRange (a := 0) (b := a.size + b.size)
    (I := fun x c st' => Sm st st' ∧ ∃ i j out mg, c = (none, i, j, out, mg) ∧ MH key a b out i j ∧ 0 < i ∧ i ≤ a.size ∧ 1 < j ∧ j ≤ b.size ∧ x + i + j ≤ a.size + b.size)
    (Q := fun c st' => ∃ r rest, c = (some r, rest) ∧ Q r st') ?step ?fin ⟨Sm.refl _, _, _, _, _, rfl, M0, by omega, by omega, by omega, by omega, by omega⟩) ?post)
  case post =>
    rintro c st' ⟨r, rest, rfl, hq⟩
    exact wpS_pure hq
  case fin =>
    rintro c st' ⟨_, i, j, out, mg, _, _, h1, h2, h3, h4, h5⟩
    omega
  case step =>
    rintro x c st1 _ hx ⟨sm1, i, j, out, mg, rfl, m1, hi0, hi, hj0, hj, hp⟩
    try extract_lets
    refine wpS_bind (wpS_mono (wpS_forRange (a := 0) (b := a.size + b.size)
      (I := fun _ c st' => Sm st st' ∧ ∃ i j out ac bc, c = (none, i, j, out, ac, bc) ∧ MH key a b out i j ∧ 0 < i ∧ i ≤ a.size ∧ 1 < j ∧ j ≤ b.size ∧ x + i + j ≤ a.size + b.size)
      (Q := fun c st' => (∃ r rest, c = (some r, rest) ∧ Q r st') ∨ (Sm st st' ∧ ∃ i j out ac bc, c = (none, i, j, out, ac, bc) ∧ MH key a b out i j ∧ 0 < i ∧ i ≤ a.size ∧ 1 < j ∧ j ≤ b.size ∧ x + i + j ≤ a.size + b.size)) ?step1 ?fin1 ⟨sm1, _, _, _, _, _, rfl, m1, hi0, hi, hj0, hj, hp⟩) ?post1)
    case fin1 => exact fun c st' q => .inr q
    case step1 =>
      rintro _ c st2 _ _ ⟨sm2, i, j, out, ac, bc, rfl, m2, hi0, hi, hj0, hj, hp⟩
      dsimp only
      refine wpS_bind (wpS_elem (at_some (by omega)) ?_)
      refine wpS_bind (wpS_elem (at_some (by omega)) ?_)
      refine wpS_bind (C.lt _ _ _ _ (Db _ (by omega)) (Da _ (by omega)) (sm2.kind.trans hk) ?_)
      dsimp only
      cases q : O.blt (key (at' b (j - 1))) (key (at' a (i - 1))) with
      | true =>
        rw [if_pos rfl]
        refine wpS_bind (wpS_elem (at_some (by omega)) ?_)
        have q' : LT key (at' b (j - 1)) (at' a (i - 1)) := q
        have m3 := MH.oneA m2 sa hi0 hi hj fun n n1 => (sb n (j - 1) (by omega) (by omega) (by omega)).trans q'.le
        by_cases e : (i - 1 == 0) = true
        · rw [if_pos e]
          exact wpS_pure (.inl ⟨_, _, rfl, fD sm2 m3 (by omega) hj (.inl (eq_of_beq e))⟩)
        · rw [if_neg e]
          have e' : ¬ i - 1 = 0 := fun q => e (by rw [q]; rfl)
          have fin : Sm st st2 ∧ ∃ i' j' o ac' bc', ((none, i - 1, j, out.push (at' a (i - 1)), ac + 1, 0) : Option (Array Keyed) × Nat × Nat × Array Keyed × Nat × Nat) = (none, i', j', o, ac', bc') ∧ MH key a b o i' j' ∧ 0 < i' ∧ i' ≤ a.size ∧ 1 < j' ∧ j' ≤ b.size ∧ x + i' + j' ≤ a.size + b.size := ⟨sm2, _, _, _, _, _, rfl, m3, by omega, by omega, hj0, hj, by omega⟩
          by_cases g : ac + 1 ≥ mg
          · rw [if_pos g]
            exact wpS_pure (.inr fin)
          · rw [if_neg g]
            exact wpS_pure fin
      | false =>
        rw [if_neg Bool.false_ne_true]
        refine wpS_bind (wpS_elem (at_some (by omega)) ?_)
        have q' : LE key (at' a (i - 1)) (at' b (j - 1)) := q
        have m3 := MH.oneB m2 sb (by omega) hi hj fun n n1 => (sa n (i - 1) (by omega) (by omega) (by omega)).trans q'
        by_cases e : (j - 1 == 1) = true
        · rw [if_pos e]
          exact wpS_pure (.inl ⟨_, _, rfl, fF sm2 m3 hi (by omega) (eq_of_beq e)⟩)
        · rw [if_neg e]
          have e' : ¬ j - 1 = 1 := fun q => e (by rw [q]; rfl)
          have fin : Sm st st2 ∧ ∃ i' j' o ac' bc', ((none, i, j - 1, out.push (at' b (j - 1)), 0, bc + 1) : Option (Array Keyed) × Nat × Nat × Array Keyed × Nat × Nat) = (none, i', j', o, ac', bc') ∧ MH key a b o i' j' ∧ 0 < i' ∧ i' ≤ a.size ∧ 1 < j' ∧ j' ≤ b.size ∧ x + i' + j' ≤ a.size + b.size := ⟨sm2, _, _, _, _, _, rfl, m3, hi0, hi, by omega, by omega, by omega⟩
          by_cases g : bc + 1 ≥ mg
          · rw [if_pos g]
            exact wpS_pure (.inr fin)
          · rw [if_neg g]
            exact wpS_pure fin
    case post1 =>
      rintro c st2 (⟨r, rest, rfl, hq⟩ | ⟨sm2, i, j, out, ac, bc, rfl, m2, hi0, hi, hj0, hj, hp⟩)
      · exact wpS_pure ⟨_, _, rfl, hq⟩
      try extract_lets
      refine wpS_bind (wpS_lift (wpAny_rule ⟨rfl, ?_⟩))
      try extract_lets
      refine wpS_bind (wpS_mono (wpS_forRange (a := 0) (b := a.size + b.size)
        (I := fun y c st' => Sm st st' ∧ ∃ i j out mg ac bc, c = (none, i, j, out, mg, ac, bc) ∧ MH key a b out i j ∧ 0 < i ∧ i ≤ a.size ∧ 1 < j ∧ j ≤ b.size ∧ x + y + i + j ≤ a.size + b.size)
        (Q := fun c st' => (∃ r rest, c = (some r, rest) ∧ Q r st') ∨ (Sm st st' ∧ ∃ i j out mg ac bc, c = (none, i, j, out, mg, ac, bc) ∧ MH key a b out i j ∧ 0 < i ∧ i ≤ a.size ∧ 1 < j ∧ j ≤ b.size ∧ x + 1 + i + j ≤ a.size + b.size)) ?step2 ?fin2 ⟨sm2, _, _, _, _, _, _, rfl, m2, hi0, hi, hj0, hj, hp⟩) ?post2)
      case fin2 =>
        rintro c st3 ⟨sm3, i, j, out, mg, ac, bc, rfl, m3, hi0, hi, hj0, hj, hp⟩
        exact .inr ⟨sm3, _, _, _, _, _, _, rfl, m3, hi0, hi, hj0, hj, by omega⟩
      case post2 =>
        rintro c st3 (⟨r, rest, rfl, hq⟩ | ⟨sm3, i, j, out, mg, ac, bc, rfl, m3, hi0, hi, hj0, hj, hp⟩)
        · exact wpS_pure ⟨_, _, rfl, hq⟩
        try extract_lets
        exact wpS_bind (wpS_setMin fun st4 sm4 => wpS_pure ⟨sm3.trans sm4, _, _, _, _, rfl, m3, hi0, hi, hj0, hj, hp⟩)
      case step2 =>
        rintro y c st3 _ hy ⟨sm3, i, j, out, mg, ac, bc, rfl, m3, hi0, hi, hj0, hj, hp⟩
        extract_lets -merge +onlyGivenNames s1 i1 s2 j1 s3 o1 s4 g1 s5 c1 d1 j2 jp
        refine wpS_use (fun Q => ∀ mg, wpS (model prog w) A E s (jp () mg) Q st3) ?_ (fun hjp => ?_)
        case refine_2 =>
          by_cases g : mg > 1
          · rw [if_pos g]
            exact hjp _
          · rw [if_neg g]
            exact hjp _
        intro mg
        refine wpS_bind (wpS_setMin fun st4 sm4 => ?_)
        have sm5 := sm3.trans sm4
        refine wpS_bind (wpS_elem (i := j - 1) (at_some (by omega)) ?_)
        refine wpS_bind (wpS_gallopR (arr := a) (base := 0) (n := i) (hint := i - 1) C (sm5.kind.trans hk) (Db _ (by omega)) Da (by omega) (fun m n h1 h2 h3 => sa m n (by omega) h2 (by omega)) (by omega) fun k hk1 hk2 hk3 => ?_)
        dsimp -zeta -zetaHave only
        extract_lets -merge +onlyGivenNames k1 c2 jp2
        refine wpS_use (fun Q => ∀ (i : Nat) (out : Array Keyed), MH key a b out i j → 0 < i → i ≤ a.size → (∀ m, m < i → LE key (at' a m) (at' b (j - 1))) → x + y + i + j ≤ a.size + b.size → wpS (model prog w) A E s (jp2 () i out) Q st4) ?_ (fun hjp => ?_)
        case refine_2 =>
          by_cases g : i - k > 0
          · rw [if_pos g]
            have m4 := MH.someA m3 sa (k := k) hi hj hk1 fun m m1 m2 n n1 => (sb n (j - 1) (by omega) (by omega) (by omega)).trans (hk3 m (by omega) (by omega)).le
            by_cases e : (k == 0) = true
            · try extract_lets
              rw [if_pos e]
              exact wpS_pure (.inl ⟨_, _, rfl, fD (i := k) (j := j) sm5 m4 (by omega) hj (.inl (eq_of_beq e))⟩)
            · try extract_lets
              rw [if_neg e]
              have n1 : ¬ k = 0 := fun q => e (by rw [q]; rfl)
              exact hjp k _ m4 (by omega) (by omega) (fun m m1 => hk2 m (by omega) (by omega)) (by omega)
          · rw [if_neg g]
            exact hjp i _ m3 hi0 hi (fun m m1 => hk2 m (by omega) (by omega)) hp
        intro i out m4 hi0 hi hle hp
        refine wpS_bind (wpS_elem (i := j - 1) (at_some (by omega)) ?_)
        have m5 := MH.oneB m4 sb (by omega) hi hj hle
        try extract_lets
        by_cases e : (j - 1 == 1) = true
        · rw [if_pos e]
          exact wpS_pure (.inl ⟨_, _, rfl, fF (i := i) (j := j - 1) sm5 m5 hi (by omega) (eq_of_beq e)⟩)
        rw [if_neg e]
        have n1 : ¬ j - 1 = 1 := fun q => e (by rw [q]; rfl)
        refine wpS_bind (wpS_elem (i := i - 1) (at_some (by omega)) ?_)
        refine wpS_bind (wpS_gallopL (arr := b) (base := 0) (n := j - 1) (hint := j - 1 - 1) C (sm5.kind.trans hk) (Da (i - 1) (by omega)) Db (by omega) (fun m n h1 h2 h3 => sb m n (by omega) h2 (by omega)) (by omega) fun k2 hk21 hk22 hk23 => ?_)
        dsimp -zeta -zetaHave only
        extract_lets -merge +onlyGivenNames k3 c3 jp3
        refine wpS_use (fun Q => ∀ (j' : Nat) (out : Array Keyed), MH key a b out i j' → 1 < j' → j' ≤ b.size → (∀ m, m < j' → LE key (at' b m) (at' a (i - 1))) → x + (y + 1) + i + j' ≤ a.size + b.size → wpS (model prog w) A E s (jp3 () j' out) Q st4) ?_ (fun hjp => ?_)
        case refine_2 =>
          by_cases g : j - 1 - k2 > 0
          · rw [if_pos g]
            have m6 := MH.someB m5 sb (k := k2) hi (by omega) hk21 fun m m1 m2 n n1 => (sa n (i - 1) (by omega) (by omega) (by omega)).trans (hk23 m (by omega) (by omega))
            by_cases e : (k2 == 1) = true
            · try extract_lets
              rw [if_pos e]
              exact wpS_pure (.inl ⟨_, _, rfl, fF (i := i) (j := k2) sm5 m6 hi (by omega) (eq_of_beq e)⟩)
            · try extract_lets
              rw [if_neg e]
              by_cases e2 : (k2 == 0) = true
              · rw [if_pos e2]
                exact wpS_pure (.inl ⟨_, _, rfl, fD (i := i) (j := k2) sm5 m6 hi (by omega) (.inr (eq_of_beq e2))⟩)
              · rw [if_neg e2]
                have n2 : ¬ k2 = 1 := fun q => e (by rw [q]; rfl)
                have n3 : ¬ k2 = 0 := fun q => e2 (by rw [q]; rfl)
                exact hjp k2 _ m6 (by omega) (by omega) (fun m m1 => (hk22 m (by omega) (by omega)).le) (by omega)
          · rw [if_neg g]
            exact hjp (j - 1) _ m5 (by omega) (by omega) (fun m m1 => (hk22 m (by omega) (by omega)).le) (by omega)
        intro j' out m6 hj0' hj' hle2 hp'
        refine wpS_bind (wpS_elem (arr := a) (i := i - 1) (at_some (by omega)) ?_)
        have m7 := MH.oneA m6 sa hi0 hi hj' hle2
        try extract_lets
        by_cases e3 : (i - 1 == 0) = true
        · rw [if_pos e3]
          exact wpS_pure (.inl ⟨_, _, rfl, fD (i := i - 1) (j := j') sm5 m7 (by omega) hj' (.inl (eq_of_beq e3))⟩)
        rw [if_neg e3]
        have n3 : ¬ i - 1 = 0 := fun q => e3 (by rw [q]; rfl)
        by_cases g : (decide (k1 < 7) && decide (k3 < 7)) = true
        · rw [if_pos g]
          exact wpS_pure (.inr ⟨sm5, i - 1, j', _, _, _, _, rfl, m7, by omega, by omega, hj0', hj', by omega⟩)
        · rw [if_neg g]
          exact wpS_pure ⟨sm5, i - 1, j', _, _, _, _, rfl, m7, by omega, by omega, hj0', hj', by omega⟩
end
end Srt

set_option Elab.async false
set_option linter.all false
set_option maxRecDepth 100000
set_option maxHeartbeats 1000000
namespace Srt
open PySem PyProof.Rows
set_option autoImplicit false

/-! ### a part written back -/
def wb (o : Nat) (l : List Keyed) (xs : Array Keyed) : Array Keyed := l.zipIdx.foldl (fun a p => a.setIfInBounds (o + p.2) p.1) xs
theorem wb_gen (o : Nat) : ∀ (l : List Keyed) (n : Nat) (xs : Array Keyed), o + n + l.length ≤ xs.size → ((l.zipIdx n).foldl (fun a p => a.setIfInBounds (o + p.2) p.1) xs).size = xs.size ∧
    ∀ i, ((l.zipIdx n).foldl (fun a p => a.setIfInBounds (o + p.2) p.1) xs)[i]? = if o + n ≤ i ∧ i < o + n + l.length then l[i - (o + n)]? else xs[i]?
  | [], n, xs, h => ⟨rfl, fun i => by rw [if_neg (by simp only [List.length_nil]; omega)]; rfl⟩
  | x :: l, n, xs, h => by
    rw [List.length_cons] at h
    obtain ⟨ih1, ih2⟩ := wb_gen o l (n + 1) (xs.setIfInBounds (o + n) x) (by rw [Array.size_setIfInBounds]; omega)
    rw [List.zipIdx_cons, List.foldl_cons]
    refine ⟨by rw [ih1, Array.size_setIfInBounds], fun i => ?_⟩
    rw [ih2, List.length_cons]
    by_cases h1 : o + (n + 1) ≤ i ∧ i < o + (n + 1) + l.length
    · rw [if_pos h1, if_pos (by omega), show i - (o + n) = (i - (o + (n + 1))) + 1 by omega, List.getElem?_cons_succ]
    · rw [if_neg h1]
      by_cases h2 : i = o + n
      · subst h2
        rw [if_pos (by omega), Nat.sub_self, List.getElem?_cons_zero, Array.getElem?_setIfInBounds_self_of_lt (by omega)]
      · rw [if_neg (by omega), Array.getElem?_setIfInBounds_ne (by omega)]
theorem wb_size {o : Nat} {l : List Keyed} {xs : Array Keyed} (h : o + l.length ≤ xs.size) : (wb o l xs).size = xs.size := (wb_gen o l 0 xs h).1
theorem wb_get {o : Nat} {l : List Keyed} {xs : Array Keyed} (h : o + l.length ≤ xs.size) (i : Nat) : (wb o l xs)[i]? = if o ≤ i ∧ i < o + l.length then l[i - o]? else xs[i]? := (wb_gen o l 0 xs h).2 i
theorem wb_list {o : Nat} {l : List Keyed} {xs : Array Keyed} (h : o + l.length ≤ xs.size) : (wb o l xs).toList = xs.toList.take o ++ l ++ xs.toList.drop (o + l.length) := by
  apply List.ext_getElem?
  intro i
  rw [Array.getElem?_toList, wb_get h]
  have ht : (xs.toList.take o).length = o := by rw [List.length_take, Array.length_toList]; omega
  by_cases h1 : o ≤ i ∧ i < o + l.length
  · rw [if_pos h1, List.append_assoc, List.getElem?_append_right (by omega), ht, List.getElem?_append_left (by omega)]
  · rw [if_neg h1]
    by_cases h2 : i < o
    · rw [List.append_assoc, List.getElem?_append_left (by omega), List.getElem?_take_of_lt h2, Array.getElem?_toList]
    · rw [List.getElem?_append_right (by rw [List.length_append]; omega), List.length_append, ht, List.getElem?_drop, Array.getElem?_toList]
      congr 1
      omega

theorem at_congr {xs ys : Array Keyed} {i j : Nat} (h : xs[i]? = ys[j]?) : at' xs i = at' ys j := by
  have e : ∀ (zs : Array Keyed) (k : Nat), at' zs k = (zs[k]?).getD (.none, .none) := fun zs k => by
    unfold at' Array.getD
    by_cases h : k < zs.size
    · rw [dif_pos h, getElem?_pos zs k h]
      rfl
    · rw [dif_neg h, getElem?_neg zs k h]
      rfl
  rw [e, e, h]
theorem at_ext {xs : Array Keyed} {i j k : Nat} (h : i + k < j) (hj : j ≤ xs.size) : at' (xs.extract i j) k = at' xs (i + k) := by
  apply at_congr
  rw [Array.getElem?_extract, if_pos (by omega)]

section
variable {prog : Program} {w : World} {A : Around} {E : Value → Shared → Prop} {s : Shared}
variable {O : KeyOrd} {key : Keyed → O.α} {D : Keyed → Prop} {kd : SortKind}
theorem wpS_set {σ : Type} {x : σ} {Q : PUnit → σ → Prop} {st : σ} {M : Model} (h : Q ⟨⟩ x) : wpS M A E s (set x : StateT σ Sem PUnit) Q st := by
  unfold wpS
  rw [StateT.run_set]
  exact wpAny_pure ⟨rfl, h⟩

/-- what a merge makes of the array -/
structure Merged (key : Keyed → O.α) (xs ys : Array Keyed) (lo hi : Nat) : Prop where
  perm : ys.Perm xs
  out : ∀ i, (i < lo ∨ hi ≤ i) → ys[i]? = xs[i]?
  srt : Sg key ys lo hi

theorem merged_of {xs : Array Keyed} {m : Array Keyed} {sa sb k na nb nb' : Nat} (hsb : sb = sa + na) (hz : sb + nb ≤ xs.size) (hk : k < na) (hn : nb' ≤ nb) (s1 : Sg key xs sa sb) (s2 : Sg key xs sb (sb + nb))
    (g1 : ∀ i, sa ≤ i → i < sa + k → LE key (at' xs i) (at' xs sb)) (g2 : ∀ i, sb + nb' ≤ i → i < sb + nb → LE key (at' xs (sb - 1)) (at' xs i))
    (hp : m.toList.Perm ((xs.extract (sa + k) sb).toList ++ (xs.extract sb (sb + nb')).toList)) (hs : m.toList.Pairwise (LE key)) : Merged key xs (wb (sa + k) m.toList xs) sa (sb + nb) := by
  have hl : m.toList.length = na - k + nb' := by
    rw [hp.length_eq, List.length_append, Array.length_toList, Array.length_toList, Array.size_extract, Array.size_extract]
    omega
  have hb : sa + k + m.toList.length ≤ xs.size := by omega
  have hin : ∀ i, sa + k ≤ i → i < sb + nb' → ∃ t, sa + k ≤ t ∧ t < sb + nb' ∧ at' (wb (sa + k) m.toList xs) i = at' xs t := by
    intro i h1 h2
    have e := wb_get hb i
    rw [if_pos (by omega), List.getElem?_eq_getElem (by omega)] at e
    have hm := List.getElem_mem (l := m.toList) (n := i - (sa + k)) (by omega)
    have hm2 := hp.mem_iff.mp hm
    have ea : at' (wb (sa + k) m.toList xs) i = m.toList[i - (sa + k)] := by
      have q := at_some (xs := wb (sa + k) m.toList xs) (i := i) (by rw [wb_size hb]; omega)
      rw [e] at q
      exact (Option.some.inj q).symm
    rcases List.mem_append.mp hm2 with q | q
    · rw [ext_toList] at q
      obtain ⟨t, t1, t2, _, et⟩ := mem_take_at q
      exact ⟨t, t1, by omega, by rw [ea, et]⟩
    · rw [ext_toList] at q
      obtain ⟨t, t1, t2, _, et⟩ := mem_take_at q
      exact ⟨t, by omega, by omega, by rw [ea, et]⟩
  have hout : ∀ i, (i < sa + k ∨ sb + nb' ≤ i) → (wb (sa + k) m.toList xs)[i]? = xs[i]? := fun i h => by rw [wb_get hb, if_neg (by omega)]
  refine ⟨?_, fun i h => hout i (by omega), fun i j h1 h2 h3 => ?_⟩
  · apply Array.perm_iff_toList_perm.mpr
    rw [wb_list hb]
    have e : xs.toList = xs.toList.take (sa + k) ++ ((xs.extract (sa + k) sb).toList ++ (xs.extract sb (sb + nb')).toList) ++ xs.toList.drop (sa + k + m.toList.length) := by
      rw [ext_toList, ext_toList, hl]
      have e1 : (xs.toList.drop (sa + k)).take (sb - (sa + k)) ++ (xs.toList.drop sb).take (sb + nb' - sb) = (xs.toList.drop (sa + k)).take (na - k + nb') := by
        have : xs.toList.drop sb = (xs.toList.drop (sa + k)).drop (sb - (sa + k)) := by
          rw [List.drop_drop]
          congr 1
          omega
        rw [this, show sb - (sa + k) = na - k by omega, show sb + nb' - sb = nb' by omega, ← List.take_add]
      rw [e1, List.append_assoc, show xs.toList.drop (sa + k + (na - k + nb')) = (xs.toList.drop (sa + k)).drop (na - k + nb') by rw [List.drop_drop], List.take_append_drop, List.take_append_drop]
    exact ((hp.append_left _).append_right _).trans (.of_eq e.symm)
  · have eo : ∀ i, (i < sa + k ∨ sb + nb' ≤ i) → at' (wb (sa + k) m.toList xs) i = at' xs i := fun i h => at_congr (hout i h)
    by_cases i1 : i < sa + k
    · rw [eo i (.inl i1)]
      by_cases j1 : j < sa + k
      · rw [eo j (.inl j1)]
        exact s1 i j h1 h2 (by omega)
      · by_cases j2 : j < sb + nb'
        · obtain ⟨t, t1, t2, e⟩ := hin j (by omega) j2
          rw [e]
          by_cases t3 : t < sb
          · exact s1 i t h1 (by omega) t3
          · exact (g1 i h1 i1).trans (s2 sb t (by omega) (by omega) (by omega))
        · rw [eo j (.inr (by omega))]
          exact (g1 i h1 i1).trans (s2 sb j (by omega) (by omega) h3)
    · by_cases i2 : i < sb + nb'
      · by_cases j2 : j < sb + nb'
        · have e1 := wb_get hb i
          have e2 := wb_get hb j
          rw [if_pos (by omega), List.getElem?_eq_getElem (by omega)] at e1
          rw [if_pos (by omega), List.getElem?_eq_getElem (by omega)] at e2
          have q1 := at_some (xs := wb (sa + k) m.toList xs) (i := i) (by rw [wb_size hb]; omega)
          have q2 := at_some (xs := wb (sa + k) m.toList xs) (i := j) (by rw [wb_size hb]; omega)
          rw [e1] at q1
          rw [e2] at q2
          rw [← Option.some.inj q1, ← Option.some.inj q2]
          by_cases hij : i = j
          · subst hij
            exact KeyOrd.kle_refl _
          · exact List.pairwise_iff_getElem.mp hs _ _ _ _ (by omega)
        · obtain ⟨t, t1, t2, e⟩ := hin i (by omega) i2
          rw [e, eo j (.inr (by omega))]
          by_cases t3 : t < sb
          · exact (s1 t (sb - 1) (by omega) (by omega) (by omega)).trans (g2 j (by omega) h3)
          · exact s2 t j (by omega) (by omega) h3
      · rw [eo i (.inr (by omega)), eo j (.inr (by omega))]
        exact s2 i j (by omega) h2 h3

theorem wpS_mergeAt (C : Cmp prog w A E s O key D kd) {st : SortSt} {Q : Bool → SortSt → Prop} {i sa na pw sb nb pw2 : Nat} (hk : kindOf st = kd) (hf : failedOf st = none) (hD : AllD D (arrOf st)) (p1 : (pendingOf st)[i]? = some (sa, na, pw)) (p2 : (pendingOf st)[i + 1]? = some (sb, nb, pw2))
    (hsb : sb = sa + na) (ha : 0 < na) (hb : 0 < nb) (hz : sb + nb ≤ (arrOf st).size) (s1 : Sg key (arrOf st) sa sb) (s2 : Sg key (arrOf st) sb (sb + nb))
    (h : ∀ st', kindOf st' = kd → failedOf st' = none → pendingOf st' = ((pendingOf st).setIfInBounds i (sa, na + nb, pw)).eraseIdxIfInBounds (i + 1) → Merged key (arrOf st) (arrOf st') sa (sb + nb) → Q true st') : wpS (model prog w) A E s (mergeAt' i) Q st := by
  unfold mergeAt'
  k_delta "mergeAt"
  refine wpS_bind (wpS_get ?_)
  dsimp only
  rw [p1, p2]
  dsimp only
  refine wpS_bind (wpS_set ?_)
  refine wpS_bind (wpS_elem (arr := arrOf st) (i := sb) (at_some (by omega)) ?_)
  refine wpS_bind (wpS_gallopR (arr := arrOf st) (base := sa) (n := na) (hint := 0) C hk (hD _ (by omega)) hD (by omega) (by rw [← hsb]; exact s1) ha fun k hk1 hk2 hk3 => ?_)
  dsimp only
  by_cases e1 : (na - k == 0) = true
  · rw [if_pos e1]
    have e1' := eq_of_beq e1
    refine wpS_pure (h _ hk hf rfl ⟨Array.Perm.refl _, fun _ _ => rfl, fun i j h1 h2 h3 => ?_⟩)
    by_cases i1 : i < sb
    · by_cases j1 : j < sb
      · exact s1 i j h1 h2 j1
      · exact (hk2 i h1 (by omega)).trans (s2 sb j (by omega) (by omega) h3)
    · exact s2 i j (by omega) h2 h3
  rw [if_neg e1]
  have e1' : ¬ na - k = 0 := fun q => e1 (by rw [q]; rfl)
  have et : sa + k + (na - k) - 1 = sb - 1 := by omega
  rw [et]
  refine wpS_bind (wpS_elem (arr := arrOf st) (i := sb - 1) (at_some (by omega)) ?_)
  refine wpS_bind (wpS_gallopL (arr := arrOf st) (base := sb) (n := nb) (hint := nb - 1) C hk (hD _ (by omega)) hD (by omega) s2 (by omega) fun n hn1 hn2 hn3 => ?_)
  dsimp only
  by_cases e2 : (n == 0) = true
  · rw [if_pos e2]
    have e2' := eq_of_beq e2
    refine wpS_pure (h _ hk hf rfl ⟨Array.Perm.refl _, fun _ _ => rfl, fun i j h1 h2 h3 => ?_⟩)
    by_cases i1 : i < sb
    · by_cases j1 : j < sb
      · exact s1 i j h1 h2 j1
      · exact (s1 i (sb - 1) h1 (by omega) (by omega)).trans (hn3 j (by omega) h3)
    · exact s2 i j (by omega) h2 h3
  rw [if_neg e2]
  have e2' : ¬ n = 0 := fun q => e2 (by rw [q]; rfl)
  have zx : ((arrOf st).extract (sa + k) sb).size = na - k := by rw [Array.size_extract]; omega
  have zy : ((arrOf st).extract sb (sb + n)).size = n := by rw [Array.size_extract]; omega
  have ax : ∀ t, t < na - k → at' ((arrOf st).extract (sa + k) sb) t = at' (arrOf st) (sa + k + t) := fun t ht => at_ext (by omega) (by omega)
  have ay : ∀ t, t < n → at' ((arrOf st).extract sb (sb + n)) t = at' (arrOf st) (sb + t) := fun t ht => at_ext (by omega) (by omega)
  have Dx : AllD D ((arrOf st).extract (sa + k) sb) := fun t ht => by
    rw [zx] at ht
    rw [ax t ht]
    exact hD _ (by omega)
  have Dy : AllD D ((arrOf st).extract sb (sb + n)) := fun t ht => by
    rw [zy] at ht
    rw [ay t ht]
    exact hD _ (by omega)
  have sx : Sg key ((arrOf st).extract (sa + k) sb) 0 ((arrOf st).extract (sa + k) sb).size := fun t u h1 h2 h3 => by
    rw [zx] at h3
    rw [ax t (by omega), ax u h3]
    exact s1 _ _ (by omega) (by omega) (by omega)
  have sy : Sg key ((arrOf st).extract sb (sb + n)) 0 ((arrOf st).extract sb (sb + n)).size := fun t u h1 h2 h3 => by
    rw [zy] at h3
    rw [ay t (by omega), ay u h3]
    exact s2 _ _ (by omega) (by omega) (by omega)
  have h0 : LT key (at' ((arrOf st).extract sb (sb + n)) 0) (at' ((arrOf st).extract (sa + k) sb) 0) := by
    rw [ax 0 (by omega), ay 0 (by omega)]
    exact hk3 _ (by omega) (by omega)
  have h9 : ∀ t, t < ((arrOf st).extract sb (sb + n)).size → LT key (at' ((arrOf st).extract sb (sb + n)) t) (at' ((arrOf st).extract (sa + k) sb) (((arrOf st).extract (sa + k) sb).size - 1)) := fun t ht => by
    rw [zy] at ht
    rw [zx, ax _ (by omega), ay t ht, show sa + k + (na - k - 1) = sb - 1 by omega]
    exact hn2 _ (by omega) (by omega)
  have fin : ∀ (m : Array Keyed) (st' : SortSt), kindOf st' = kindOf st → failedOf st' = failedOf st → arrOf st' = arrOf st → pendingOf st' = ((pendingOf st).setIfInBounds i (sa, na + nb, pw)).eraseIdxIfInBounds (i + 1) →
      m.toList.Perm (((arrOf st).extract (sa + k) sb).toList ++ ((arrOf st).extract sb (sb + n)).toList) → m.toList.Pairwise (LE key) →
      Q true (SortSt.mk' (kindOf st') (wb (sa + k) m.toList (arrOf st')) (pendingOf st') (gallopOf st') (failedOf st')) := by
    intro m st' q1 q2 q3 q4 q5 q6
    refine h _ (q1.trans hk) (q2.trans hf) q4 ?_
    show Merged key (arrOf st) (wb (sa + k) m.toList (arrOf st')) sa (sb + nb)
    rw [q3]
    exact merged_of hsb hz (by omega) hn1 s1 s2 hk2 hn3 q5 q6
  by_cases hle : na - k ≤ n
  · rw [if_pos hle]
    refine wpS_bind (wpS_mergeLo C (a := (arrOf st).extract (sa + k) sb) (b := (arrOf st).extract sb (sb + n)) hk Dx Dy sx sy (by omega) (by omega) h0 h9 fun m st' sm q1 q2 => ?_)
    refine wpS_bind (wpS_modify ?_)
    refine wpS_bind (wpS_get ?_)
    have := fin m st' sm.kind sm.fail sm.arr sm.pend q1 q2
    have ef : (failedOf st').isNone = true := by rw [sm.fail]; show (failedOf st).isNone = true; rw [hf]; rfl
    refine wpS_pure ?_
    show Q (failedOf st').isNone _
    rw [ef]
    exact this
  · rw [if_neg hle]
    refine wpS_bind (wpS_mergeHi C (a := (arrOf st).extract (sa + k) sb) (b := (arrOf st).extract sb (sb + n)) hk Dx Dy sx sy (by omega) (by omega) h0 h9 fun m st' sm q1 q2 => ?_)
    refine wpS_bind (wpS_modify ?_)
    refine wpS_bind (wpS_get ?_)
    have := fin m st' sm.kind sm.fail sm.arr sm.pend q1 q2
    have ef : (failedOf st').isNone = true := by rw [sm.fail]; show (failedOf st).isNone = true; rw [hf]; rfl
    refine wpS_pure ?_
    show Q (failedOf st').isNone _
    rw [ef]
    exact this
end
end Srt

set_option Elab.async false
set_option linter.all false
set_option maxRecDepth 100000
set_option maxHeartbeats 1000000
namespace Srt
open PySem PyProof.Rows
set_option autoImplicit false
section
variable {prog : Program} {w : World} {A : Around} {E : Value → Shared → Prop} {s : Shared}
variable {O : KeyOrd} {key : Keyed → O.α} {D : Keyed → Prop} {kd : SortKind}
/-- the array changed between two places alone -/
structure Ch (st st' : SortSt) (lo hi : Nat) : Prop where
  kind : kindOf st' = kindOf st
  fail : failedOf st' = failedOf st
  pend : pendingOf st' = pendingOf st
  perm : (arrOf st').Perm (arrOf st)
  out : ∀ i, (i < lo ∨ hi ≤ i) → (arrOf st')[i]? = (arrOf st)[i]?
theorem Ch.refl (st : SortSt) (lo hi : Nat) : Ch st st lo hi := ⟨rfl, rfl, rfl, Array.Perm.refl _, fun _ _ => rfl⟩
theorem Ch.trans {a b c : SortSt} {lo hi : Nat} (h : Ch a b lo hi) (h' : Ch b c lo hi) : Ch a c lo hi :=
  ⟨h'.kind.trans h.kind, h'.fail.trans h.fail, h'.pend.trans h.pend, h'.perm.trans h.perm, fun i hi => (h'.out i hi).trans (h.out i hi)⟩
theorem Ch.size {a b : SortSt} {lo hi : Nat} (h : Ch a b lo hi) : (arrOf b).size = (arrOf a).size := h.perm.size_eq
theorem AllD.perm {xs ys : Array Keyed} (h : AllD D xs) (p : ys.Perm xs) : AllD D ys := fun i hi => by
  have q := at_some hi
  have hm : at' ys i ∈ ys.toList := by
    have := at_toList hi
    exact List.mem_of_getElem? this
  obtain ⟨j, hj, e⟩ := List.mem_iff_getElem?.mp ((Array.perm_iff_toList_perm.mp p).mem_iff.mp hm) |>.imp fun j e => (⟨(List.getElem?_eq_some_iff.mp e).1, e⟩ : _ ∧ _)
  rw [Array.length_toList] at hj
  rw [at_toList hj] at e
  rw [← Option.some.inj e]
  exact h j hj
theorem at_mirror {xs : Array Keyed} {i j : Nat} (hj : j ≤ xs.size) (k : Nat) : at' (mirror xs i j ((j - i) / 2)) k = at' xs (if i ≤ k ∧ k < j then i + j - 1 - k else k) := by
  apply at_congr
  rw [getElem?_mirror_all hj]
  split <;> rfl
theorem Ch.mirror {st : SortSt} {lo hi i j : Nat} (h1 : lo ≤ i) (h2 : j ≤ hi) (hz : hi ≤ (arrOf st).size) : Ch st (setArr st (mirror (arrOf st) i j ((j - i) / 2))) lo hi :=
  ⟨rfl, rfl, rfl, mirror_perm _ _ _ _, fun k hk => by
    show (PyProof.Rows.mirror (arrOf st) i j ((j - i) / 2))[k]? = _
    rw [getElem?_mirror_all (by omega), if_neg (by omega)]⟩
theorem wpS_ltA (C : Cmp prog w A E s O key D kd) {st : SortSt} {i j : Nat} {Q : Option Bool → SortSt → Prop} (hk : kindOf st = kd) (hD : AllD D (arrOf st)) (hi : i < (arrOf st).size) (hj : j < (arrOf st).size)
    (h : Q (some (O.blt (key (at' (arrOf st) i)) (key (at' (arrOf st) j)))) st) : wpS (model prog w) A E s (ltAt' i j) Q st := by
  rw [ltAt'_eq]
  refine wpS_bind (wpS_get ?_)
  refine wpS_bind (wpS_elem (at_some hi) ?_)
  refine wpS_bind (wpS_elem (at_some hj) ?_)
  exact C.lt _ _ _ _ (hD _ hi) (hD _ hj) hk h
theorem wpS_rev {st : SortSt} {i j : Nat} {Q : Unit → SortSt → Prop} (h : Q () (setArr st (mirror (arrOf st) i j ((j - i) / 2)))) : wpS (model prog w) A E s (reverseSlice' i j) Q st := by
  rw [reverseSlice'_eq]
  exact wpS_modify h

def Ng (key : Keyed → O.α) (xs : Array Keyed) (lo hi : Nat) : Prop := ∀ i j, lo ≤ i → i ≤ j → j < hi → LE key (at' xs j) (at' xs i)
theorem Sg.one {xs : Array Keyed} {lo : Nat} : Sg key xs lo (lo + 1) := fun i j h1 h2 h3 => by
  have : i = j := by omega
  subst this
  exact KeyOrd.kle_refl _
theorem Sg.next {xs : Array Keyed} {lo n : Nat} (h0 : 1 ≤ n) (h : Sg key xs lo (lo + n)) (q : LE key (at' xs (lo + n - 1)) (at' xs (lo + n))) : Sg key xs lo (lo + (n + 1)) := fun i j h1 h2 h3 => by
  by_cases hj : j < lo + n
  · exact h i j h1 h2 hj
  · have e : j = lo + n := by omega
    subst e
    by_cases hi : i = lo + n
    · subst hi
      exact KeyOrd.kle_refl _
    · exact (h i (lo + n - 1) h1 (by omega) (by omega)).trans q
theorem Ng.next {xs : Array Keyed} {lo n : Nat} (h0 : 1 ≤ n) (h : Ng key xs lo (lo + n)) (q : LE key (at' xs (lo + n)) (at' xs (lo + n - 1))) : Ng key xs lo (lo + (n + 1)) := fun i j h1 h2 h3 => by
  by_cases hj : j < lo + n
  · exact h i j h1 h2 hj
  · have e : j = lo + n := by omega
    subst e
    by_cases hi : i = lo + n
    · subst hi
      exact KeyOrd.kle_refl _
    · exact q.trans (h i (lo + n - 1) h1 (by omega) (by omega))
/-- alike keys at all places -/
def Ky (key : Keyed → O.α) (xs ys : Array Keyed) : Prop := ∀ k, key (at' ys k) = key (at' xs k)
theorem Ng.ky {xs ys : Array Keyed} {lo hi : Nat} (h : Ng key xs lo hi) (q : Ky key xs ys) : Ng key ys lo hi := fun i j h1 h2 h3 => by
  unfold LE
  rw [q, q]
  exact h i j h1 h2 h3
theorem ky_mirror {xs : Array Keyed} {i j : Nat} (hj : j ≤ xs.size) (h : ∀ k, i ≤ k → k < j → key (at' xs k) = key (at' xs (j - 1))) : Ky key xs (mirror xs i j ((j - i) / 2)) := fun k => by
  rw [at_mirror hj]
  split
  · rw [h _ (by omega) (by omega), h k (by omega) (by omega)]
  · rfl

theorem wpS_asc (C : Cmp prog w A E s O key D kd) {st : SortSt} {lo n0 nrem : Nat} {Q : Option (Option Nat) × Nat → SortSt → Prop} (hk : kindOf st = kd) (hD : AllD D (arrOf st)) (hz : lo + nrem ≤ (arrOf st).size) (h1 : 1 ≤ n0) (h2 : n0 ≤ nrem) (hs : Sg key (arrOf st) lo (lo + n0))
    (h : ∀ n, n0 ≤ n → n ≤ nrem → Sg key (arrOf st) lo (lo + n) → (n = nrem ∨ LT key (at' (arrOf st) (lo + n)) (at' (arrOf st) (lo + n - 1))) → Q (none, n) st) :
    wpS (model prog w) A E s (forIn [n0:nrem] ((none, n0) : Option (Option Nat) × Nat) fun _ c => do
      let z ← ltAt' (lo + c.2) (lo + c.2 - 1)
      match z with
      | some sm => if sm = true then pure (.done (none, c.2)) else pure (.yield (none, c.2 + 1))
      | x => pure (.done (some none, c.2))) Q st := by
  refine wpS_forRange (I := fun x c st' => st' = st ∧ c = (none, x) ∧ x ≤ nrem ∧ Sg key (arrOf st) lo (lo + x)) ?step ?fin ⟨rfl, rfl, h2, hs⟩
  case fin =>
    rintro c st' ⟨rfl, rfl, h3, h4⟩
    rw [show max n0 nrem = nrem by omega] at h4 ⊢
    exact h nrem h2 (Nat.le_refl _) h4 (.inl rfl)
  case step =>
    rintro x c st' hx1 hx2 ⟨rfl, rfl, h3, h4⟩
    refine wpS_bind (wpS_ltA C hk hD (by omega) (by omega) ?_)
    dsimp only
    cases q : O.blt (key (at' (arrOf st') (lo + x))) (key (at' (arrOf st') (lo + x - 1))) with
    | true =>
      rw [if_pos rfl]
      exact wpS_pure (h x hx1 (by omega) h4 (.inr q))
    | false =>
      rw [if_neg Bool.false_ne_true]
      exact wpS_pure ⟨rfl, rfl, by omega, h4.next (by omega) q⟩

theorem wpS_countRun (C : Cmp prog w A E s O key D kd) {st : SortSt} {lo nrem : Nat} {Q : Option Nat → SortSt → Prop} (hk : kindOf st = kd) (hD : AllD D (arrOf st)) (hz : lo + nrem ≤ (arrOf st).size) (h1 : 1 ≤ nrem)
    (h : ∀ n st', Ch st st' lo (lo + nrem) → 1 ≤ n → n ≤ nrem → Sg key (arrOf st') lo (lo + n) → Q (some n) st') : wpS (model prog w) A E s (countRun' lo nrem) Q st := by
  unfold countRun'
  k_delta "countRun"
  refine wpS_bind (wpS_asc C hk hD hz (Nat.le_refl 1) h1 Sg.one fun n hn1 hn2 hs hor => ?_)
  extract_lets -merge +onlyGivenNames r0 n0
  dsimp -zeta -zetaHave only [r0, n0]
  by_cases e : (n == nrem) = true
  · rw [if_pos e]
    exact wpS_pure (h n st (Ch.refl _ _ _) hn1 hn2 hs)
  rw [if_neg e]
  have e' : ¬ n = nrem := fun q => e (by rw [q]; exact beq_self_eq_true _)
  have hlt := hor.resolve_left e'
  -- the part that falls
  extract_lets -merge +onlyGivenNames n2 q2 q3 jp
  refine wpS_use (fun Q => ∀ st1, Ch st st1 lo (lo + nrem) → Ng key (arrOf st1) lo (lo + (n + 1)) → wpS (model prog w) A E s (jp ()) Q st1) ?_ (fun hjp => ?_)
  case refine_2 =>
    by_cases g : n > 1
    · rw [if_pos g]
      refine wpS_bind (wpS_ltA C hk hD (by omega) (by omega) ?_)
      dsimp only
      cases q : O.blt (key (at' (arrOf st) lo)) (key (at' (arrOf st) (lo + n - 1))) with
      | true =>
        rw [if_pos rfl]
        exact wpS_pure (h n st (Ch.refl _ _ _) hn1 hn2 hs)
      | false =>
        rw [if_neg Bool.false_ne_true]
        have heq : ∀ k, lo ≤ k → k < lo + n → key (at' (arrOf st) k) = key (at' (arrOf st) (lo + n - 1)) := fun k k1 k2 => by
          have a1 := hs lo k (by omega) (by omega) (by omega)
          have a2 := hs k (lo + n - 1) (by omega) (by omega) (by omega)
          exact KeyOrd.kle_antisymm a2 (KeyOrd.kle_trans (show O.kle _ _ from q) a1)
        have ky := ky_mirror (key := key) (xs := arrOf st) (i := lo) (j := lo + n) (by omega) heq
        refine wpS_bind (wpS_rev (hjp _ (Ch.mirror (i := lo) (j := lo + n) (by omega) (by omega) hz) ?_))
        refine Ng.ky ?_ ky
        refine Ng.next hn1 (fun i j i1 i2 i3 => ?_) hlt.le
        unfold LE
        rw [heq i (by omega) (by omega), heq j (by omega) (by omega)]
        exact KeyOrd.kle_refl _
    · rw [if_neg g]
      have e1 : n = 1 := by omega
      subst e1
      refine hjp st (Ch.refl _ _ _) (Ng.next (Nat.le_refl _) (fun i j i1 i2 i3 => ?_) hlt.le)
      have : i = j := by omega
      subst this
      exact KeyOrd.kle_refl _
  intro st1 c1 ng1
  have hz1 : lo + nrem ≤ (arrOf st1).size := by rw [c1.size]; exact hz
  refine wpS_bind (wpS_lift (wpAny_rule ⟨rfl, ?_⟩))
  refine wpS_bind (wpS_mono (wpS_forRange (a := n + 1) (b := nrem) (I := fun x c st' => ∃ neq, c = (none, x, neq) ∧ Ch st st' lo (lo + nrem) ∧ x ≤ nrem ∧ Ng key (arrOf st') lo (lo + x) ∧ neq + 1 ≤ x ∧ (∀ i, lo + x - (neq + 1) ≤ i → i < lo + x → key (at' (arrOf st') i) = key (at' (arrOf st') (lo + x - 1))))
    (Q := fun c st' => ∃ x neq, c = (none, x, neq) ∧ n + 1 ≤ x ∧ x ≤ nrem ∧ Ch st st' lo (lo + nrem) ∧ Ng key (arrOf st') lo (lo + x) ∧ neq + 1 ≤ x ∧ (∀ i, lo + x - (neq + 1) ≤ i → i < lo + x → key (at' (arrOf st') i) = key (at' (arrOf st') (lo + x - 1)))) ?step ?fin ⟨0, rfl, c1, by omega, ng1, by omega, fun i i1 i2 => by congr 2; omega⟩) ?post)
  case fin =>
    rintro c st' ⟨neq, rfl, c2, h2, h3, h4, h5⟩
    have em : max (n + 1) nrem = nrem := by omega
    rw [em] at h3 h4 h5 ⊢
    exact ⟨nrem, neq, rfl, by omega, by omega, c2, h3, h4, h5⟩
  case step =>
    rintro x c st2 hx1 hx2 ⟨neq, rfl, c2, h2, h3, h4, h5⟩
    have hz2 : lo + nrem ≤ (arrOf st2).size := by rw [c2.size]; exact hz
    have hD2 := hD.perm c2.perm
    have hk2 := c2.kind.trans hk
    refine wpS_bind (wpS_ltA (i := lo + x) (j := lo + x - 1) C hk2 hD2 (by omega) (by omega) ?_)
    dsimp only
    cases q : O.blt (key (at' (arrOf st2) (lo + x))) (key (at' (arrOf st2) (lo + x - 1))) with
    | true =>
      rw [if_pos rfl]
      have q' : LT key (at' (arrOf st2) (lo + x)) (at' (arrOf st2) (lo + x - 1)) := q
      have ng3 := Ng.next (by omega) h3 q'.le
      by_cases g : neq > 0
      · rw [if_pos g]
        have ky := ky_mirror (key := key) (xs := arrOf st2) (i := lo + x - (neq + 1)) (j := lo + x) (by omega) h5
        exact wpS_bind (wpS_rev (wpS_pure ⟨0, rfl, c2.trans (Ch.mirror (by omega) (by omega) hz2), by omega, ng3.ky ky, by omega, fun i i1 i2 => by congr 2; omega⟩))
      · rw [if_neg g]
        exact wpS_pure ⟨0, rfl, c2, by omega, ng3, by omega, fun i i1 i2 => by congr 2; omega⟩
    | false =>
      rw [if_neg Bool.false_ne_true]
      refine wpS_bind (wpS_ltA (i := lo + x - 1) (j := lo + x) C hk2 hD2 (by omega) (by omega) ?_)
      dsimp only
      cases q2 : O.blt (key (at' (arrOf st2) (lo + x - 1))) (key (at' (arrOf st2) (lo + x))) with
      | true =>
        rw [if_pos rfl]
        exact wpS_pure ⟨x, neq, rfl, hx1, by omega, c2, h3, h4, h5⟩
      | false =>
        rw [if_neg Bool.false_ne_true]
        have eq : key (at' (arrOf st2) (lo + x)) = key (at' (arrOf st2) (lo + x - 1)) := KeyOrd.kle_antisymm q2 q
        refine wpS_pure ⟨neq + 1, rfl, c2, by omega, Ng.next (by omega) h3 (show O.kle _ _ from q2), by omega, fun i i1 i2 => ?_⟩
        rw [show lo + (x + 1) - 1 = lo + x by omega]
        by_cases ix : i = lo + x
        · rw [ix]
        · rw [eq]
          exact h5 i (by omega) (by omega)
  case post =>
    rintro c st2 ⟨x, neq, rfl, hx1, hx2, c2, h3, h4, h5⟩
    have hz2 : lo + nrem ≤ (arrOf st2).size := by rw [c2.size]; exact hz
    dsimp only
    have last : ∀ st3, Ch st st3 lo (lo + nrem) → Ng key (arrOf st3) lo (lo + x) → ∀ (f : Option (Option Nat) × Nat → StateT SortSt Sem (Option Nat)), (∀ m st4, Q (some m) st4 → wpS (model prog w) A E s (f (none, m)) Q st4) → wpS (model prog w) A E s (do
        reverseSlice' lo (lo + x)
        let c ← forIn [x:nrem] ((none, x) : Option (Option Nat) × Nat) fun _ c => do
          let z ← ltAt' (lo + c.2) (lo + c.2 - 1)
          match z with
          | some sm => if sm = true then pure (.done (none, c.2)) else pure (.yield (none, c.2 + 1))
          | x => pure (.done (some none, c.2))
        f c) Q st3 := by
      intro st3 c3 ng3 f hf
      have hz3 : lo + nrem ≤ (arrOf st3).size := by rw [c3.size]; exact hz
      refine wpS_bind (wpS_rev ?_)
      have c4 : Ch st (setArr st3 (mirror (arrOf st3) lo (lo + x) ((lo + x - lo) / 2))) lo (lo + nrem) := c3.trans (Ch.mirror (by omega) (by omega) hz3)
      refine wpS_bind (wpS_asc C (c4.kind.trans hk) (hD.perm c4.perm) (by rw [c4.size]; exact hz) (by omega) hx2 (fun i j i1 i2 i3 => ?_) fun m m1 m2 m3 _ => hf m _ (h m _ c4 (by omega) m2 m3))
      show LE key (at' (mirror (arrOf st3) lo (lo + x) ((lo + x - lo) / 2)) i) (at' (mirror (arrOf st3) lo (lo + x) ((lo + x - lo) / 2)) j)
      rw [at_mirror (by omega), at_mirror (by omega), if_pos (by omega), if_pos (by omega)]
      exact ng3 _ _ (by omega) (by omega) (by omega)
    by_cases g : neq > 0
    · rw [if_pos g]
      have ky := ky_mirror (key := key) (xs := arrOf st2) (i := lo + x - (neq + 1)) (j := lo + x) (by omega) h5
      exact wpS_bind (wpS_rev (last _ (c2.trans (Ch.mirror (by omega) (by omega) hz2)) (h3.ky ky) _ fun m st4 q => wpS_pure q))
    · rw [if_neg g]
      exact last st2 c2 h3 _ fun m st4 q => wpS_pure q
end
end Srt

set_option Elab.async false
set_option linter.all false
set_option maxRecDepth 100000
set_option maxHeartbeats 1000000
namespace Srt
open PySem PyProof.Rows
set_option autoImplicit false
section
variable {prog : Program} {w : World} {A : Around} {E : Value → Shared → Prop} {s : Shared}
variable {O : KeyOrd} {key : Keyed → O.α} {D : Keyed → Prop} {kd : SortKind}
theorem at_bubble {xs : Array Keyed} {src d : Nat} (hs : src < xs.size) (hd : d ≤ src) (k : Nat) : at' (bubble xs src d) k = at' xs (if k = src - d then src else if src - d < k ∧ k ≤ src then k - 1 else k) := by
  apply at_congr
  rw [getElem?_bubble hs d hd]
  split
  · rfl
  · split <;> rfl
theorem wpS_binSort (C : Cmp prog w A E s O key D kd) {st : SortSt} {lo n ok : Nat} {Q : Bool → SortSt → Prop} (hk : kindOf st = kd) (hD : AllD D (arrOf st)) (hz : lo + n ≤ (arrOf st).size) (h1 : 1 ≤ ok) (h2 : ok ≤ n) (hs : Sg key (arrOf st) lo (lo + ok))
    (h : ∀ st', Ch st st' lo (lo + n) → Sg key (arrOf st') lo (lo + n) → Q true st') : wpS (model prog w) A E s (binarySort' lo n ok) Q st := by
  unfold binarySort'
  k_delta "binarySort"
  refine wpS_bind (wpS_mono (wpS_forRange (a := max ok 1) (b := n) (I := fun k c st' => c = (none, ()) ∧ k ≤ n ∧ Ch st st' lo (lo + n) ∧ Sg key (arrOf st') lo (lo + k))
    (Q := fun c st' => c = (none, ()) ∧ Ch st st' lo (lo + n) ∧ Sg key (arrOf st') lo (lo + n)) ?step ?fin ⟨rfl, by omega, Ch.refl _ _ _, by rw [show max ok 1 = ok by omega]; exact hs⟩) ?post)
  case post =>
    rintro c st' ⟨rfl, c1, c2⟩
    exact wpS_pure (h st' c1 c2)
  case fin =>
    rintro c st' ⟨rfl, c1, c2, c3⟩
    rw [show max (max ok 1) n = n by omega] at c3
    exact ⟨rfl, c2, c3⟩
  case step =>
    rintro k c st1 hk1 hk2 ⟨rfl, _, c1, s1⟩
    have hz1 : lo + n ≤ (arrOf st1).size := by rw [c1.size]; exact hz
    have hD1 := hD.perm c1.perm
    refine wpS_bind (wpS_mono (wpS_forRange (a := 0) (b := k) (I := fun x c st' => st' = st1 ∧ ∃ l r, c = (none, l, r) ∧ l ≤ r ∧ r ≤ k ∧ r - l ≤ k - x ∧ (∀ i, i < l → LE key (at' (arrOf st1) (lo + i)) (at' (arrOf st1) (lo + k))) ∧ (∀ i, r ≤ i → i < k → LT key (at' (arrOf st1) (lo + k)) (at' (arrOf st1) (lo + i))))
      (Q := fun c st' => st' = st1 ∧ ∃ l r, c = (none, l, r) ∧ l ≤ k ∧ (∀ i, i < l → LE key (at' (arrOf st1) (lo + i)) (at' (arrOf st1) (lo + k))) ∧ (∀ i, l ≤ i → i < k → LT key (at' (arrOf st1) (lo + k)) (at' (arrOf st1) (lo + i)))) ?istep ?ifin ⟨rfl, 0, k, rfl, by omega, by omega, by omega, fun i hi => by omega, fun i i1 i2 => by omega⟩) ?ipost)
    case ifin =>
      rintro c st' ⟨rfl, l, r, rfl, a1, a2, a3, a4, a5⟩
      have e : l = r := by omega
      subst e
      exact ⟨rfl, l, l, rfl, a2, a4, a5⟩
    case istep =>
      rintro x c st' _ hx ⟨rfl, l, r, rfl, a1, a2, a3, a4, a5⟩
      dsimp only
      by_cases g : l ≥ r
      · rw [if_pos g]
        have e : l = r := by omega
        subst e
        exact wpS_pure ⟨rfl, l, l, rfl, a2, a4, a5⟩
      · rw [if_neg g]
        refine wpS_bind (wpS_ltA C (c1.kind.trans hk) hD1 (by omega) (by omega) ?_)
        dsimp only
        cases q : O.blt (key (at' (arrOf st') (lo + k))) (key (at' (arrOf st') (lo + (l + r) / 2))) with
        | true =>
          rw [if_pos rfl]
          exact wpS_pure ⟨rfl, l, (l + r) / 2, rfl, by omega, by omega, by omega, a4, fun i i1 i2 => KeyOrd.klt_of_klt_of_kle q (s1 _ _ (by omega) (by omega) (by omega))⟩
        | false =>
          rw [if_neg Bool.false_ne_true]
          exact wpS_pure ⟨rfl, (l + r) / 2 + 1, r, rfl, by omega, by omega, by omega, fun i i1 => (s1 _ (lo + (l + r) / 2) (by omega) (by omega) (by omega)).trans (show O.kle _ _ from q), a5⟩
    case ipost =>
      rintro c st' ⟨rfl, l, r, rfl, a1, a4, a5⟩
      show wpS _ _ _ _ (do moveDown' (lo + k) (lo + l); pure (ForInStep.yield (none, ()))) _ _
      rw [moveDown'_eq]
      have ed : lo + k - (lo + l) = k - l := by omega
      have hb : lo + k < (arrOf st').size := by omega
      refine wpS_bind (wpS_modify (wpS_pure ⟨rfl, by omega, c1.trans ⟨rfl, rfl, rfl, bubble_perm _ _ _, fun i hi => ?_⟩, fun i j i1 i2 i3 => ?_⟩))
      · show (bubble (arrOf st') (lo + k) (lo + k - (lo + l)))[i]? = _
        rw [getElem?_bubble hb _ (by omega), if_neg (by omega), if_neg (by omega)]
      · show LE key (at' (bubble (arrOf st') (lo + k) (lo + k - (lo + l))) i) (at' (bubble (arrOf st') (lo + k) (lo + k - (lo + l))) j)
        rw [at_bubble hb (by omega), at_bubble hb (by omega), show lo + k - (lo + k - (lo + l)) = lo + l by omega]
        have lo' : ∀ t, lo ≤ t → t < lo + l → LE key (at' (arrOf st') t) (at' (arrOf st') (lo + k)) := fun t t1 t2 => by
          have := a4 (t - lo) (by omega)
          rwa [show lo + (t - lo) = t by omega] at this
        have hi' : ∀ t, lo + l ≤ t → t < lo + k → LE key (at' (arrOf st') (lo + k)) (at' (arrOf st') t) := fun t t1 t2 => by
          have := (a5 (t - lo) (by omega) (by omega)).le
          rwa [show lo + (t - lo) = t by omega] at this
        repeat' split
        all_goals first
          | (exfalso; omega)
          | exact KeyOrd.kle_refl _
          | exact lo' _ (by omega) (by omega)
          | exact hi' _ (by omega) (by omega)
          | exact s1 _ _ (by omega) (by omega) (by omega)

/-! ### the runs that wait -/
abbrev Run : Type := Nat × Nat × Nat
def Cov : Nat → List Run → Nat → Prop
  | b, [], e => b = e
  | b, (a, n, _) :: t, e => a = b ∧ 0 < n ∧ Cov (b + n) t e
theorem Cov.append : ∀ {l₁ l₂ : List Run} {b e : Nat}, Cov b (l₁ ++ l₂) e ↔ ∃ m, Cov b l₁ m ∧ Cov m l₂ e
  | [], l₂, b, e => ⟨fun h => ⟨b, rfl, h⟩, fun ⟨m, h1, h2⟩ => by cases h1; exact h2⟩
  | (a, n, p) :: t, l₂, b, e => by
    show (a = b ∧ 0 < n ∧ Cov (b + n) (t ++ l₂) e) ↔ _
    rw [Cov.append]
    exact ⟨fun ⟨h1, h2, m, h3, h4⟩ => ⟨m, ⟨h1, h2, h3⟩, h4⟩, fun ⟨m, ⟨h1, h2, h3⟩, h4⟩ => ⟨h1, h2, m, h3, h4⟩⟩
theorem Cov.le : ∀ {l : List Run} {b e : Nat}, Cov b l e → b + l.length ≤ e ∧ ∀ r ∈ l, b ≤ r.1 ∧ r.1 + r.2.1 ≤ e
  | [], b, e, h => ⟨Nat.le_of_eq h, fun _ q => nomatch q⟩
  | (a, n, p) :: t, b, e, ⟨h1, h2, h3⟩ => by
    obtain ⟨i1, i2⟩ := Cov.le h3
    refine ⟨by rw [List.length_cons]; omega, fun r hr => ?_⟩
    rcases List.mem_cons.mp hr with rfl | hr
    · show b ≤ a ∧ a + n ≤ e
      omega
    · have := i2 r hr
      omega
theorem cut_two {l₁ l₂ : List Run} {a b x : Run} : ((l₁ ++ a :: b :: l₂).set l₁.length x).eraseIdx (l₁.length + 1) = l₁ ++ x :: l₂ := by
  induction l₁ with
  | nil => rfl
  | cons y l₁ ih => 
    show (y :: ((l₁ ++ a :: b :: l₂).set l₁.length x).eraseIdx (l₁.length + 1)) = _
    rw [ih]
    rfl
theorem Sg.out {xs ys : Array Keyed} {lo hi : Nat} (h : Sg key xs lo hi) (q : ∀ i, lo ≤ i → i < hi → ys[i]? = xs[i]?) : Sg key ys lo hi := fun i j h1 h2 h3 => by
  rw [at_congr (q i h1 (by omega)), at_congr (q j (by omega) h3)]
  exact h i j h1 h2 h3

structure Inv (key : Keyed → O.α) (D : Keyed → Prop) (kd : SortKind) (a₀ : Array Keyed) (st : SortSt) (lo : Nat) : Prop where
  kind : kindOf st = kd
  fail : failedOf st = none
  perm : (arrOf st).Perm a₀
  cov : Cov 0 (pendingOf st).toList lo
  srt : ∀ r ∈ (pendingOf st).toList, Sg key (arrOf st) r.1 (r.1 + r.2.1)
variable {a₀ : Array Keyed}
theorem wpS_mergeInv (C : Cmp prog w A E s O key D kd) (hD : AllD D a₀) {st : SortSt} {lo i : Nat} {Q : Bool → SortSt → Prop} (I : Inv key D kd a₀ st lo) (hlo : lo ≤ a₀.size) (hi : i + 1 < (pendingOf st).size)
    (h : ∀ st', Inv key D kd a₀ st' lo → (pendingOf st').size + 1 = (pendingOf st).size → (∀ k, lo ≤ k → (arrOf st')[k]? = (arrOf st)[k]?) → Q true st') : wpS (model prog w) A E s (mergeAt' i) Q st := by
  obtain ⟨l₁, ra, rb, l₂, e, hl⟩ : ∃ l₁ ra rb l₂, (pendingOf st).toList = l₁ ++ ra :: rb :: l₂ ∧ l₁.length = i := by
    have h1 : i < (pendingOf st).toList.length := by rw [Array.length_toList]; omega
    have h2 : i + 1 < (pendingOf st).toList.length := by rw [Array.length_toList]; omega
    refine ⟨(pendingOf st).toList.take i, (pendingOf st).toList[i], (pendingOf st).toList[i + 1], (pendingOf st).toList.drop (i + 2), ?_, by rw [List.length_take]; omega⟩
    rw [← List.drop_eq_getElem_cons h2, ← List.drop_eq_getElem_cons h1, List.take_append_drop]
  obtain ⟨sa, na, pw⟩ := ra
  obtain ⟨sb, nb, pw2⟩ := rb
  have hc := I.cov
  rw [e] at hc
  obtain ⟨m, c1, rfl, ha, c2⟩ := Cov.append.mp hc
  obtain ⟨hsb, hb, c3⟩ := c2
  have hbd := c3.le
  have hbd1 := c1.le
  have p1 : (pendingOf st)[i]? = some (sa, na, pw) := by
    rw [← Array.getElem?_toList, e, List.getElem?_append_right (by omega), hl, Nat.sub_self]
    rfl
  have p2 : (pendingOf st)[i + 1]? = some (sb, nb, pw2) := by
    rw [← Array.getElem?_toList, e, List.getElem?_append_right (by omega), hl, show i + 1 - i = 1 by omega]
    rfl
  have hsz : (arrOf st).size = a₀.size := I.perm.size_eq
  refine wpS_mergeAt C I.kind I.fail (hD.perm I.perm) p1 p2 hsb ha hb (by omega) ?_ ?_ fun st' k1 k2 k3 k4 => ?_
  · have := I.srt (sa, na, pw) (by rw [e]; simp)
    rw [hsb]
    exact this
  · exact I.srt (sb, nb, pw2) (by rw [e]; simp)
  · have ep : (pendingOf st').toList = l₁ ++ (sa, na + nb, pw) :: l₂ := by
      rw [k3, Array.toList_eraseIdxIfInBounds, Array.toList_setIfInBounds, e, ← hl, cut_two]
    refine h st' ⟨k1, k2, k4.perm.trans I.perm, ?_, fun r hr => ?_⟩ ?_ fun k hk => k4.out k (by omega)
    · rw [ep]
      refine Cov.append.mpr ⟨sa, c1, rfl, by omega, ?_⟩
      rw [show sa + (na + nb) = sa + na + nb by omega]
      exact c3
    · rw [ep] at hr
      rcases List.mem_append.mp hr with q | q
      · have b1 := hbd1.2 r q
        exact (I.srt r (by rw [e]; exact List.mem_append_left _ q)).out fun k i1 i2 => k4.out k (by omega)
      · rcases List.mem_cons.mp q with rfl | q
        · have := k4.srt
          rw [hsb, show sa + na + nb = sa + (na + nb) by omega] at this
          exact this
        · have b1 := hbd.2 r q
          exact (I.srt r (by rw [e]; simp [q])).out fun k i1 i2 => k4.out k (by omega)
    · have z1 : (pendingOf st').toList.length + 1 = (pendingOf st).toList.length := by
        rw [ep, e, List.length_append, List.length_append, List.length_cons, List.length_cons, List.length_cons]
        omega
      rw [Array.length_toList, Array.length_toList] at z1
      exact z1

theorem Inv.ch {st st' : SortSt} {lo hi : Nat} (I : Inv key D kd a₀ st lo) (c : Ch st st' lo hi) : Inv key D kd a₀ st' lo :=
  ⟨c.kind.trans I.kind, c.fail.trans I.fail, c.perm.trans I.perm, by rw [c.pend]; exact I.cov, fun r hr => by
    rw [c.pend] at hr
    have b := I.cov.le.2 r hr
    exact (I.srt r hr).out fun k k1 k2 => c.out k (by omega)⟩
end
end Srt

set_option Elab.async false
set_option linter.all false
set_option maxRecDepth 100000
set_option maxHeartbeats 1000000
namespace Srt
open PySem PyProof.Rows
set_option autoImplicit false
section
variable {prog : Program} {w : World} {A : Around} {E : Value → Shared → Prop} {s : Shared}
variable {O : KeyOrd} {key : Keyed → O.α} {D : Keyed → Prop} {kd : SortKind} {a₀ : Array Keyed}
theorem ite_lt {c : Prop} [Decidable c] {a b n : Nat} (ha : a + 1 < n) (hb : b + 1 < n) : (if c then a else b) + 1 < n := by
  split <;> assumption
def pr (r : Run) : Nat × Nat := (r.1, r.2.1)
theorem Cov.congr : ∀ {l l' : List Run} {b e : Nat}, l.map pr = l'.map pr → Cov b l e → Cov b l' e
  | [], [], b, e, _, h => h
  | [], _ :: _, b, e, q, h => by cases q
  | _ :: _, [], b, e, q, h => by cases q
  | (a, n, p) :: t, (a', n', p') :: t', b, e, q, ⟨h1, h2, h3⟩ => by
    rw [List.map_cons, List.map_cons] at q
    obtain ⟨q1, q2⟩ := List.cons.inj q
    have q3 : a = a' := congrArg Prod.fst q1
    have q4 : n = n' := congrArg Prod.snd q1
    subst q3 q4
    exact ⟨h1, h2, Cov.congr q2 h3⟩
theorem map_modify {g : Run → Run} (hg : ∀ r, pr (g r) = pr r) (p : Array Run) (i : Nat) : (p.modify i g).toList.map pr = p.toList.map pr := by
  rw [Array.toList_modify]
  apply List.ext_getElem?
  intro j
  rw [List.getElem?_map, List.getElem?_map, List.getElem?_modify]
  cases p.toList[j]? with
  | none => rfl
  | some r =>
    show some (pr (if i = j then g r else r)) = some (pr r)
    split
    · rw [hg]
    · rfl
theorem Inv.powers {st st' : SortSt} {lo : Nat} (I : Inv key D kd a₀ st lo) (hk : kindOf st' = kindOf st) (hf : failedOf st' = failedOf st) (ha : arrOf st' = arrOf st) (hp : (pendingOf st').toList.map pr = (pendingOf st).toList.map pr) : Inv key D kd a₀ st' lo := by
  refine ⟨hk.trans I.kind, hf.trans I.fail, by rw [ha]; exact I.perm, I.cov.congr hp.symm, fun r hr => ?_⟩
  have hm : pr r ∈ (pendingOf st).toList.map pr := by
    rw [← hp]
    exact List.mem_map_of_mem hr
  obtain ⟨r0, m0, e0⟩ := List.mem_map.mp hm
  have q := I.srt r0 m0
  have e1 : r0.1 = r.1 := congrArg (fun z : Nat × Nat => z.1) e0
  have e2 : r0.2.1 = r.2.1 := congrArg (fun z : Nat × Nat => z.2) e0
  rw [e1, e2] at q
  rw [ha]
  exact q
theorem Inv.push {st st' : SortSt} {lo n : Nat} (I : Inv key D kd a₀ st lo) (hn : 1 ≤ n) (hs : Sg key (arrOf st) lo (lo + n)) (hk : kindOf st' = kindOf st) (hf : failedOf st' = failedOf st) (ha : arrOf st' = arrOf st) (hp : pendingOf st' = (pendingOf st).push (lo, n, 0)) : Inv key D kd a₀ st' (lo + n) := by
  refine ⟨hk.trans I.kind, hf.trans I.fail, by rw [ha]; exact I.perm, ?_, fun r hr => ?_⟩
  · rw [hp, Array.toList_push]
    exact Cov.append.mpr ⟨lo, I.cov, rfl, by omega, rfl⟩
  · rw [hp, Array.toList_push] at hr
    rw [ha]
    rcases List.mem_append.mp hr with q | q
    · exact I.srt r q
    · rw [List.mem_singleton.mp q]
      exact hs

theorem wpS_sortAll (C : Cmp prog w A E s O key D kd) (hD : AllD D a₀) {st : SortSt} {Q : Unit → SortSt → Prop} (hk : kindOf st = kd) (hf : failedOf st = none) (ha : arrOf st = a₀) (hp : pendingOf st = #[]) (h2 : 2 ≤ a₀.size)
    (h : ∀ st', (arrOf st').Perm a₀ → failedOf st' = none → Sg key (arrOf st') 0 a₀.size → Q () st') : wpS (model prog w) A E s sortRuns' Q st := by
  unfold sortRuns'
  k_delta "sortRuns"
  refine wpS_bind (wpS_get ?_)
  have hz : (arrOf st).size = a₀.size := by rw [ha]
  extract_lets -merge +onlyGivenNames size minrun lo0
  have esz : size = a₀.size := hz
  refine wpS_bind (wpS_mono (wpS_forRange (a := 0) (b := size) (I := fun x c st' => ∃ lo, c = (none, lo) ∧ Inv key D kd a₀ st' lo ∧ x ≤ lo ∧ lo ≤ a₀.size) (Q := fun c st' => c = (none, a₀.size) ∧ Inv key D kd a₀ st' a₀.size) ?step ?fin ⟨0, rfl, ⟨hk, hf, by rw [ha], by rw [hp]; rfl, fun r hr => by rw [hp] at hr; cases hr⟩, by omega, by omega⟩) ?post)
  case fin =>
    rintro c st' ⟨lo, rfl, I, h3, h4⟩
    have : lo = a₀.size := by omega
    subst this
    exact ⟨rfl, I⟩
  case step =>
    rintro x c st1 _ hx ⟨lo, rfl, I1, h3, h4⟩
    extract_lets -merge +onlyGivenNames l1
    by_cases g : lo ≥ size
    · rw [if_pos g]
      have : lo = a₀.size := by omega
      subst this
      exact wpS_pure ⟨rfl, I1⟩
    rw [if_neg g]
    have hz1 : (arrOf st1).size = a₀.size := I1.perm.size_eq
    refine wpS_bind (wpS_countRun (lo := lo) (nrem := size - lo) C I1.kind (hD.perm I1.perm) (by omega) (by omega) fun n st2 c2 hn1 hn2 s2 => ?_)
    have I2 := I1.ch c2
    dsimp -zeta -zetaHave only
    extract_lets -merge +onlyGivenNames n1 jp
    refine wpS_use (fun Q => ∀ n st3, Inv key D kd a₀ st3 lo → 1 ≤ n → lo + n ≤ a₀.size → Sg key (arrOf st3) lo (lo + n) → wpS (model prog w) A E s (jp () n) Q st3) ?_ (fun hjp => ?_)
    case refine_2 =>
      by_cases g2 : n < minrun
      · rw [if_pos g2]
        refine wpS_bind (wpS_lift (wpAny_rule ⟨rfl, ?_⟩))
        have hz2 : (arrOf st2).size = a₀.size := I2.perm.size_eq
        refine wpS_bind (wpS_binSort (lo := lo) (n := min (size - lo) minrun) (ok := n) C I2.kind (hD.perm I2.perm) (by omega) hn1 (by omega) s2 fun st3 c3 s3 => ?_)
        rw [if_neg (by simp)]
        exact hjp _ st3 (I2.ch c3) (by omega) (by omega) s3
      · rw [if_neg g2]
        exact hjp _ st2 I2 hn1 (by omega) s2
    intro n st3 I3 hn hb s3
    refine wpS_bind (wpS_get ?_)
    extract_lets -merge +onlyGivenNames z1 jp2
    refine wpS_use (fun Q => ∀ st4, Inv key D kd a₀ st4 lo → Sg key (arrOf st4) lo (lo + n) → wpS (model prog w) A E s (jp2 ()) Q st4) ?_ (fun hjp => ?_)
    case refine_2 =>
      cases hbk : (pendingOf st3).back? with
      | none => exact hjp st3 I3 s3
      | some r =>
        obtain ⟨s1, n1, p1⟩ := r
        dsimp -zeta -zetaHave only
        extract_lets -merge +onlyGivenNames pw
        refine wpS_bind (wpS_mono (wpS_forRange (a := 0) (b := size) (I := fun _ c st' => c = (none, ()) ∧ Inv key D kd a₀ st' lo ∧ Sg key (arrOf st') lo (lo + n)) (Q := fun c st' => c = (none, ()) ∧ Inv key D kd a₀ st' lo ∧ Sg key (arrOf st') lo (lo + n)) ?_ (fun _ _ q => q) ⟨rfl, I3, s3⟩) ?_)
        · rintro _ c st4 _ _ ⟨rfl, I4, s4⟩
          refine wpS_bind (wpS_get ?_)
          dsimp only
          by_cases g3 : (pendingOf st4).size > 1
          · rw [if_pos g3]
            have hlt : (pendingOf st4).size - 2 < (pendingOf st4).size := by omega
            rw [getElem?_pos (pendingOf st4) ((pendingOf st4).size - 2) hlt]
            obtain ⟨u1, u2, u3⟩ := (pendingOf st4)[(pendingOf st4).size - 2]
            dsimp only
            by_cases g4 : u3 ≤ pw
            · rw [if_pos g4]
              exact wpS_pure ⟨rfl, I4, s4⟩
            · rw [if_neg g4]
              refine wpS_bind (wpS_mergeInv C hD I4 h4 (i := (pendingOf st4).size - 2) (by omega) fun st5 I5 _ o5 => ?_)
              rw [if_neg (by simp)]
              exact wpS_pure ⟨rfl, I5, s4.out fun k k1 k2 => o5 k k1⟩
          · rw [if_neg g3]
            exact wpS_pure ⟨rfl, I4, s4⟩
        · rintro c st4 ⟨rfl, I4, s4⟩
          refine wpS_bind (wpS_modify ?_)
          exact hjp _ (I4.powers rfl rfl rfl (map_modify (g := fun r => (r.1, r.2.1, pw)) (fun r => rfl) (pendingOf st4) ((pendingOf st4).size - 1))) s4
    intro st4 I4 s4
    refine wpS_bind (wpS_modify (wpS_pure ⟨lo + n, rfl, I4.push hn s4 rfl rfl rfl rfl, by omega, hb⟩))
  case post =>
    rintro c st1 ⟨rfl, I1⟩
    dsimp -zeta -zetaHave only
    refine wpS_bind (wpS_mono (wpS_forRange (a := 0) (b := size) (I := fun x c st' => c = (none, ()) ∧ Inv key D kd a₀ st' a₀.size ∧ ((pendingOf st').size ≤ 1 ∨ (pendingOf st').size + x ≤ a₀.size)) (Q := fun c st' => c = (none, ()) ∧ Inv key D kd a₀ st' a₀.size ∧ (pendingOf st').size ≤ 1) ?_ ?_ ⟨rfl, I1, .inr (by have := I1.cov.le.1; rw [Array.length_toList] at this; omega)⟩) ?_)
    · rintro x c st2 _ hx ⟨rfl, I2, h3⟩
      refine wpS_bind (wpS_get ?_)
      dsimp only
      by_cases g : (pendingOf st2).size ≤ 1
      · rw [if_pos g]
        exact wpS_pure ⟨rfl, I2, g⟩
      · rw [if_neg g]
        refine wpS_bind (wpS_mergeInv C hD I2 (Nat.le_refl _) ?_ fun st3 I3 e3 _ => ?_)
        · have g' : ¬ (pendingOf st2).size ≤ 1 := g
          exact ite_lt (a := (pendingOf st2).size - 2 - 1) (b := (pendingOf st2).size - 2) (n := (pendingOf st2).size) (by omega) (by omega)
        · rw [if_neg (by simp)]
          exact wpS_pure ⟨rfl, I3, .inr (by omega)⟩
    · rintro c st2 ⟨rfl, I2, h3⟩
      exact ⟨rfl, I2, by omega⟩
    · rintro c st2 ⟨rfl, I2, h3⟩
      refine wpS_pure (h st2 I2.perm I2.fail ?_)
      have hc := I2.cov
      have hs := I2.srt
      generalize hq : (pendingOf st2).toList = l at hc hs
      have hl : l.length ≤ 1 := by rw [← hq, Array.length_toList]; exact h3
      match l, hl, hc, hs with
      | [], _, hc, _ =>
        have : 0 = a₀.size := hc
        omega
      | [(b, n, p)], _, ⟨hb, hn, he⟩, hs =>
        have he' : 0 + n = a₀.size := he
        have q := hs (b, n, p) (List.mem_singleton.mpr rfl)
        have e1 : b = 0 := hb
        subst e1
        rw [show 0 + (0, n, p).2.1 = a₀.size from he'] at q
        exact q
end
end Srt

set_option Elab.async false
set_option linter.all false
set_option maxRecDepth 100000
set_option maxHeartbeats 1000000
namespace Srt
open PySem PyProof.Rows
set_option autoImplicit false

/-! ### the order of paths -/
def ltS (a b : Str) : Bool := decide (a.cps.toList < b.cps.toList)
theorem str_ext {a b : Str} (h : a.cps.toList = b.cps.toList) : a = b := by
  cases a; cases b
  congr 1
  exact Array.toList_inj.mp h
theorem ltS_irrefl (a : Str) : ltS a a = false := strKind.irrefl a.cps.toList
theorem ltS_trans {a b c : Str} (h1 : ltS a b = true) (h2 : ltS b c = true) : ltS a c = true := strKind.trans _ _ _ h1 h2
theorem ltS_total {a b : Str} (h1 : ltS a b = false) (h2 : ltS b a = false) : a = b := str_ext (strKind.total _ _ h1 h2)
def lexB : List Str → List Str → Bool
  | [], [] => false
  | [], _ :: _ => true
  | _ :: _, [] => false
  | a :: x, b :: y => if a = b then lexB x y else ltS a b
theorem lexB_irrefl : ∀ a, lexB a a = false
  | [] => rfl
  | a :: x => by
    unfold lexB
    rw [if_pos rfl]
    exact lexB_irrefl x
theorem lexB_trans : ∀ {a b c : List Str}, lexB a b = true → lexB b c = true → lexB a c = true
  | [], [], c, h, _ => by cases h
  | [], _ :: _, [], _, h => by cases h
  | [], _ :: _, _ :: _, _, _ => rfl
  | _ :: _, [], _, h, _ => by cases h
  | _ :: _, _ :: _, [], _, h => by cases h
  | a :: x, b :: y, c :: z, h1, h2 => by
    unfold lexB at h1 h2 ⊢
    by_cases e1 : a = b
    · subst e1
      rw [if_pos rfl] at h1
      by_cases e2 : a = c
      · subst e2
        rw [if_pos rfl] at h2 ⊢
        exact lexB_trans h1 h2
      · rw [if_neg e2] at h2 ⊢
        exact h2
    · rw [if_neg e1] at h1
      by_cases e2 : b = c
      · subst e2
        rw [if_neg e1]
        exact h1
      · rw [if_neg e2] at h2
        have h3 := ltS_trans h1 h2
        by_cases e3 : a = c
        · subst e3
          rw [ltS_irrefl] at h3
          cases h3
        · rw [if_neg e3]
          exact h3
theorem lexB_total : ∀ {a b : List Str}, lexB a b = false → lexB b a = false → a = b
  | [], [], _, _ => rfl
  | [], _ :: _, h, _ => by cases h
  | _ :: _, [], _, h => by cases h
  | a :: x, b :: y, h1, h2 => by
    unfold lexB at h1 h2
    by_cases e : a = b
    · subst e
      rw [if_pos rfl] at h1 h2
      rw [lexB_total h1 h2]
    · rw [if_neg e] at h1
      rw [if_neg fun q => e q.symm] at h2
      exact absurd (ltS_total h1 h2) e
def pathOrd : KeyOrd where
  α := List Str
  blt := lexB
  irrefl := lexB_irrefl
  trans _ _ _ := lexB_trans
  negTrans a b c h := by
    cases q : lexB a b with
    | true => exact .inl rfl
    | false =>
      refine .inr ?_
      cases q2 : lexB b a with
      | true => exact lexB_trans q2 h
      | false => rw [← lexB_total q q2]; exact h
  total _ _ := lexB_total

section
variable {prog : Program} {w : World} {A : Around} {E : Value → Shared → Prop} {s : Shared}
theorem lex_strs {b : Bool} (hb : b = true) : ∀ {us vs : List Value} {zs ys : List Str} (i : Nat) {Q : Bool → Shared → Prop}, StrsAre us zs → StrsAre vs ys → Q (lexB zs ys) s →
    PySem.W.KatLex prog w A b (decide (zs.length < ys.length)) Q (us.zip vs) i s
  | [], [], _, _, i, Q, .nil, .nil, h => h
  | [], _ :: _, _, _, i, Q, .nil, .cons _ _ _, h => by
    show Q _ s
    rw [show decide (([] : List Str).length < (_ :: _ : List Str).length) = true from decide_eq_true (Nat.zero_lt_succ _)]
    exact h
  | _ :: _, [], _, _, i, Q, .cons _ _ _, .nil, h => by
    show Q _ s
    rw [show decide ((_ :: _ : List Str).length < ([] : List Str).length) = false from decide_eq_false (Nat.not_lt_zero _)]
    exact h
  | _ :: us, _ :: vs, _, _, i, Q, .cons (ys := zs) a t r1, .cons (ys := ys) c u r2, h => by
    rw [List.zip_cons_cons]
    refine PySem.W.kat_cons (wpAny_eqBool_str ?_)
    unfold lexB at h
    by_cases e : a = c
    · rw [decide_eq_true e]
      rw [if_pos e] at h
      refine PySem.W.kat_yes ?_
      have q := lex_strs hb (i + 1) r1 r2 h
      rw [List.length_cons, List.length_cons, show decide (zs.length + 1 < ys.length + 1) = decide (zs.length < ys.length) by congr 1; exact propext ⟨fun q => by omega, fun q => by omega⟩]
      exact q
    · rw [decide_eq_false e]
      rw [if_neg e] at h
      refine PySem.W.kat_no ?_
      subst hb
      cases i with
      | zero => exact oneLt_str h
      | succ i => exact PySem.W.kat_one _ _ (PyProof.Rows.lt_str h)

/-- a tuple of texts, some -/
def pathAt (h : Heap) (v : Value) : List Str := match v with
  | .ref a => match h.get? a with
    | some o => match o.data with
      | .seq xs _ => xs.toList.map strOf
      | _ => []
    | none => []
  | _ => []
structure PathV (h : Heap) (v : Value) (zs : List Str) : Prop where
  ex : ∃ a o xs n, v = .ref a ∧ h.get? a = some o ∧ o.cls = .type "tuple" ∧ o.data = .seq xs n ∧ StrsAre xs.toList zs
theorem PathV.key {h : Heap} {v : Value} {zs : List Str} (p : PathV h v zs) : pathAt h v = zs := by
  obtain ⟨a, o, xs, n, rfl, h1, h2, h3, h4⟩ := p.ex
  unfold pathAt
  simp only [h1, h3]
  exact h4.strs
theorem path_lt {x y : Value} {zs ys : List Str} {Q : Bool → Shared → Prop} (px : PathV s.heap x zs) (py : PathV s.heap y ys) (h : Q (lexB zs ys) s) : wpAny (model prog w) A (keyLt' (tuples' true) x y) Q E s := by
  obtain ⟨a, o, xs, n, rfl, h1, h2, h3, h4⟩ := px.ex
  obtain ⟨a', o', xs', n', rfl, h1', h2', h3', h4'⟩ := py.ex
  refine PySem.W.kat_lt h1 h3 h1' h3' ?_
  have e1 : xs.size = zs.length := by rw [← h4.strs, List.length_map, Array.length_toList]
  have e2 : xs'.size = ys.length := by rw [← h4'.strs, List.length_map, Array.length_toList]
  rw [e1, e2]
  exact lex_strs rfl 0 h4 h4' h
theorem cmp_paths : Cmp prog w A E s pathOrd (fun x => pathAt s.heap x.1) (fun x => ∃ zs, PathV s.heap x.1 zs) (tuples' true) where
  lt := by
    rintro x y st Q ⟨zs, px⟩ ⟨ys, py⟩ hk h
    rw [lt'_eq]
    refine wpS_bind (wpS_get ?_)
    rw [hk]
    refine wpS_bind (wpS_lift (wpAny_attempt (path_lt px py ⟨rfl, ?_⟩)))
    rw [px.key, py.key] at h
    exact wpS_pure h
theorem kind_paths {vs : List Value} {Q : SortKind → Shared → Prop} (h2 : vs ≠ []) (hv : ∀ v ∈ vs, ∃ zs, PathV s.heap v zs ∧ zs ≠ []) (h : Q (tuples' true) s) : wpAny (model prog w) A (keyKind' vs.toArray) Q E s := by
  have go : ∀ vs : List Value, (∀ v ∈ vs, ∃ zs, PathV s.heap v zs ∧ zs ≠ []) → ∃ fs, PySem.W.KatTups s.heap vs fs ∧ fs.length = vs.length ∧ ∀ v ∈ fs, ∃ x t, v = Value.str x t := by
    intro vs
    induction vs with
    | nil => exact fun _ => ⟨[], trivial, rfl, fun _ q => nomatch q⟩
    | cons v vs ih =>
      intro hv
      obtain ⟨fs, i1, i2, i3⟩ := ih fun u hu => hv u (List.mem_cons_of_mem _ hu)
      obtain ⟨zs, p, hz⟩ := hv v List.mem_cons_self
      obtain ⟨a, o, xs, n, rfl, h1, hc, h3, h4⟩ := p.ex
      have e : xs.size = zs.length := by rw [← h4.strs, List.length_map, Array.length_toList]
      have hp : 0 < xs.size := by
        rw [e]
        exact List.length_pos_iff.mpr hz
      have hm : xs[0] ∈ xs.toList := by simp
      obtain ⟨x, t, ex⟩ := h4.all _ hm
      refine ⟨xs[0] :: fs, .cons h1 hc h3 (getElem?_pos xs 0 hp) i1, by rw [List.length_cons, List.length_cons, i2], fun u hu => ?_⟩
      rcases List.mem_cons.mp hu with rfl | hu
      · exact ⟨x, t, ex⟩
      · exact i3 u hu
  obtain ⟨fs, i1, i2, i3⟩ := go vs hv
  refine PySem.W.kat_kind (T := .type "str") i1 (by rw [i2]; exact List.length_pos_iff.mpr h2) (fun v hv => ?_) rfl h
  obtain ⟨x, t, rfl⟩ := i3 v hv
  exact .now
end
end Srt

set_option Elab.async false
set_option linter.all false
set_option maxRecDepth 100000
set_option maxHeartbeats 1000000
namespace Srt
open PySem PyProof.Rows
set_option autoImplicit false
/-- a dict by its entries -/
def RawD (h : Heap) (d : Addr) (es : Array DictEntry) (ep : Nat) : Prop := ∃ o, h.get? d = some o ∧ o.ExactDict ∧ o.data = .dict es ep
theorem RawD.at {h h' : Heap} {d : Addr} {es : Array DictEntry} {ep : Nat} (x : RawD h d es ep) (e : ∀ o, h.get? d = some o → h'.get? d = some o) : RawD h' d es ep := let ⟨o, ho, r⟩ := x; ⟨o, e _ ho, r⟩
theorem RawD.type {s : Shared} {d : Addr} {es : Array DictEntry} {ep : Nat} (x : RawD s.heap d es ep) : s.TypeIs (.ref d) "dict" := let ⟨o, ho, r, _⟩ := x; ⟨o, ho, r.1⟩
section
variable {prog : Program} {w : World} {A : Around} {E : Value → Shared → Prop} {s : Shared} {d J : Addr} {es : Array DictEntry} {ep i : Nat}
theorem raw_iter {Q : Value → Shared → Prop} (hd : (d == sysModules) = false) (x : RawD s.heap d es ep)
    (q : Q (.ref s.heap.objs.size) { s with heap := s.heap.push { cls := .type "dict_keyiterator", data := .fields #[.ref d, .int 0 0, .int es.size 0, .int ep 0] } }) : wpAny (model prog w) A (pyIter (.ref d)) Q E s := by
  have tD := x.type
  obtain ⟨o, ho, hc, hdat⟩ := x
  refine wpAny_pyIter_slot tD PySem.F.slot_dict_iter (wpAny_call_entry PySem.F.slot_dict_iter tD PySem.F.entry_dict_iter ?_ (PySem.F.args_dict_iter_1 _))
  unfold Builtin.«dict.__iter__»
  refine wpAny_bind ?_
  unfold Builtin.Dict.dictSlotNone
  refine wpAny_bind (wpAny_notOrdered_dict tD ?_)
  show wpAny _ _ (pure (Value.ref d)) _ _ s
  refine wpAny_pure ?_
  show wpAny _ _ (Builtin.Dict.showsAll d >>= _) _ _ s
  unfold Builtin.Dict.showsAll
  rw [if_neg (by rw [hd]; simp)]
  refine wpAny_bind (wpAny_pure (wpAny_bind (wpAny_dictEntries ho hdat (wpAny_bind (wpAny_dictEpoch ho hdat ?_)))))
  exact wpAny_bind (wpAny_newObj_type (wpAny_pure ⟨_, rfl, "dict_keyiterator", _, ⟨_, Heap.get?_push_size _ rfl, rfl⟩, PySem.F.slot_dict_keyiterator_next.lookup, q⟩))
theorem raw_item {x : DictEntry} {Q : Option Value → Shared → Prop} (hit : s.heap.IsKeyIter J d i es.size ep) (hm : RawD s.heap d es ep) (hx : es[i]? = some x)
    (q : ∀ h', h'.IsKeyIter J d (i + 1) es.size ep → Heap.SameBut J s.heap h' → Q (some x.key) { s with heap := h' }) : wpAny (model prog w) A (pyNext (.ref J)) Q E s := by
  obtain ⟨o, ho, hc, hd⟩ := id hit
  obtain ⟨od, hod, hcd, hdd⟩ := id hm
  have tJ := hit.typeIs
  unfold pyNext
  refine wpAny_bind (wpAny_attempt (wpAny_callSpecial?_slot (name := Str.ofString "__next__") tJ PySem.F.slot_dict_keyiterator_next (wpAny_call_entry PySem.F.slot_dict_keyiterator_next tJ PySem.F.entry_dict_keyiterator_next ?_ (PySem.F.args_dict_keyiterator_next_1 _))))
  refine wpAny_bind (wpAny_pure (wpAny_bind (wpAny_bind ?_)))
  first | refine wpAny_bind (wpAny_typeNameOfWhole_keyiter tJ (wpAny_pure ?_)) | refine wpAny_bind (wpAny_typeNameOf_keyiter tJ (wpAny_pure ?_))
  refine wpAny_bind (wpAny_fieldsOf ho hd ?_)
  have no : Builtin.Dict_items.ownsTuple "dict_keyiterator" = false := by decide
  simp only [no, Bool.false_eq_true, if_false]
  show wpAny _ _ (if (Value.ref d == Value.none) = true then _ else _) _ _ s
  rw [if_neg (show ¬ ((Value.ref d == Value.none) = true) from fun z => nomatch z)]
  refine wpAny_bind (wpAny_pure (wpAny_bind (wpAny_dictEntries hod hdd ?_)))
  rw [if_neg (by simp)]
  refine wpAny_bind (wpAny_pure (wpAny_bind (wpAny_dictEpoch hod hdd ?_)))
  rw [if_neg (by simp)]
  refine wpAny_pure ?_
  simp only [show ¬ ((i : Int) < 0) by omega, if_false, Int.toNat_natCast, hx]
  refine wpAny_bind ?_
  first | refine wpAny_bind (wpAny_typeNameOfWhole_keyiter tJ (wpAny_pure ?_)) | refine wpAny_bind (wpAny_typeNameOf_keyiter tJ (wpAny_pure ?_))
  refine wpAny_bind (wpAny_isOneOf_keyiter tJ ?_)
  show wpAny _ _ (setField (.ref J) 1 (rawInt ((i : Int) + 1)) >>= _) _ _ s
  refine wpAny_bind (wpAny_setField ho hd (by simp) ?_)
  have hit' : (s.heap.update J (Obj.mapFields (·.setIfInBounds 1 (rawInt ((i : Int) + 1))))).IsKeyIter J d (i + 1) es.size ep :=
    ⟨_, Heap.get?_update_self _ ho (Obj.isFreed_of_fields (Obj.data_mapFields hd _)), (Obj.cls_mapFields ..).trans hc, by rw [Obj.data_mapFields hd]; simp [rawInt]⟩
  refine wpAny_bind (wpAny_holding (wpAny_bind (wpAny_isOneOf_keyiter (s := { s with heap := s.heap.update J (Obj.mapFields (·.setIfInBounds 1 (rawInt ((i : Int) + 1)))) }) hit'.typeIs ?_)))
  show wpAny _ _ (pure x.key) _ _ _
  exact wpAny_pure (wpAny_pure ⟨_, rfl, wpAny_pure (q _ hit' (Heap.SameBut.update ..))⟩)
theorem raw_end {Q : Option Value → Shared → Prop} (hh : A.handled = none) (hit : s.heap.IsKeyIter J d i es.size ep) (hm : RawD s.heap d es ep) (hx : es[i]? = none)
    (q : ∀ h', Heap.ExtBut J s.heap h' → Q none { s with heap := h' }) : wpAny (model prog w) A (pyNext (.ref J)) Q E s := by
  obtain ⟨o, ho, hc, hd⟩ := id hit
  obtain ⟨od, hod, hcd, hdd⟩ := id hm
  have tJ := hit.typeIs
  unfold pyNext
  refine wpAny_bind (wpAny_attempt (wpAny_callSpecial?_slot (name := Str.ofString "__next__") tJ PySem.F.slot_dict_keyiterator_next (wpAny_call_entry PySem.F.slot_dict_keyiterator_next tJ PySem.F.entry_dict_keyiterator_next ?_ (PySem.F.args_dict_keyiterator_next_1 _))))
  refine wpAny_bind (wpAny_pure (wpAny_bind (wpAny_bind ?_)))
  first | refine wpAny_bind (wpAny_typeNameOfWhole_keyiter tJ (wpAny_pure ?_)) | refine wpAny_bind (wpAny_typeNameOf_keyiter tJ (wpAny_pure ?_))
  refine wpAny_bind (wpAny_fieldsOf ho hd ?_)
  have no : Builtin.Dict_items.ownsTuple "dict_keyiterator" = false := by decide
  simp only [no, Bool.false_eq_true, if_false]
  show wpAny _ _ (if (Value.ref d == Value.none) = true then _ else _) _ _ s
  rw [if_neg (show ¬ ((Value.ref d == Value.none) = true) from fun z => nomatch z)]
  refine wpAny_bind (wpAny_pure (wpAny_bind (wpAny_dictEntries hod hdd ?_)))
  rw [if_neg (by simp)]
  refine wpAny_bind (wpAny_pure (wpAny_bind (wpAny_dictEpoch hod hdd ?_)))
  rw [if_neg (by simp)]
  refine wpAny_pure ?_
  simp only [show ¬ ((i : Int) < 0) by omega, if_false, Int.toNat_natCast, hx]
  refine wpAny_bind ?_
  first | refine wpAny_bind (wpAny_typeNameOfWhole_keyiter tJ (wpAny_pure ?_)) | refine wpAny_bind (wpAny_typeNameOf_keyiter tJ (wpAny_pure ?_))
  show wpAny _ _ (setField (.ref J) 0 .none >>= _) _ _ s
  refine wpAny_bind (wpAny_setField ho hd (by simp) ?_)
  show wpAny _ _ (newExc (.type "StopIteration") [] >>= _) _ _ _
  refine wpAny_bind ?_
  simp only [newExc, newTuple]
  refine wpAny_bind (wpAny_newObj_type ?_ (by size_fits))
  refine wpAny_bind (m := firstArgMember _ _) (wpAny_of_eq (a := Value.none) (by first | rfl | (simp only [firstArgMember]; rfl)) (wpAny_newObj_type ?_ (by size_fits)))
  simp only [raiseNew]
  refine wpAny_bind (wpAny_handled ?_)
  rw [show A.in1.handled = none from hh]
  refine wpAny_bind (wpAny_pure (wpAny_throw ?_))
  refine wpAny_bind (wpAny_isInstance (T := "StopIteration") (b := true) ⟨_, Heap.get?_push_size _ rfl, rfl⟩ isSubtype_stop ?_)
  exact wpAny_pure (q _ (((Heap.SameBut.update ..).extBut.push _).push _))
theorem walks_raw (hh : A.handled = none) (J d : Addr) (hne : d ≠ J) (es : Array DictEntry) (ep : Nat) :
    Walks prog w A J [J, d] [J] es.size (fun i v => ∃ x, es[i]? = some x ∧ v = x.key) (fun i h => h.IsKeyIter J d i es.size ep ∧ RawD h d es ep) where
  sub := fun b hb => by simp at hb; simp [hb]
  frame := fun _ _ _ st hk => ⟨st.1.at fun o e => hk J (by simp) o e, st.2.at fun o e => hk d (by simp) o e⟩
  item := fun i s Q E hi st hQ => raw_item st.1 st.2 (getElem?_pos es i hi) fun h' hit' hs' =>
    hQ _ h' s.toks ⟨_, getElem?_pos es i hi, rfl⟩ ⟨hit', st.2.at fun o e => hs'.extBut d o hne e⟩ fun b o hb e => hs'.extBut b o (fun h => hb (by simp [h])) e
  done := fun s Q E st hQ => raw_end hh st.1 st.2 (by simp) fun h' he' => hQ h' s.toks fun b o hb e => he' b o (fun h => hb (by simp [h])) e
  self := fun _ _ _ _ st hQ => wpAny_pyIter_keyiter st.1 hQ
theorem len_slot : typeLookup (.type "dict") "__len__" = pure (some (.builtin "dict.__len__")) := by rw [typeLookup_type, builtinLookup_eq_fast]; kernel_rfl
theorem collect_raw {Q : List Value → Shared → Prop} (hh : A.handled = none) (hd : (d == sysModules) = false) (x : RawD s.heap d es ep) (hn : es.size ≤ sizeLine)
    (q : ∀ s', (∀ b o, s.heap.get? b = some o → s'.heap.get? b = some o) → s'.gens = s.gens → s'.drawn = s.drawn → s'.os = s.os → Q (es.toList.map (·.key)) s') : wpAny (model prog w) A (collect (.ref d)) Q E s := by
  have hlt : d < s.heap.objs.size := let ⟨o, ho, _⟩ := x; Heap.lt_size ho
  unfold collect
  refine wpAny_bind (wpAny_runValue (codeAny_builtin PySem.F.entry_proto_collect ?_))
  rw [Around.under_plainId PySem.F.plain_proto_collect _]
  show wpAny _ A.in1 (newList [] >>= fun l => again (.builtin "list.__iadd__" ⟨[l, .ref d], []⟩)) _ _ s
  refine wpAny_bind (wpAny_newObj_type ?_)
  refine wpAny_pure ⟨plainId_quiet PySem.F.plain_list_iadd _, codeAny_builtin PySem.F.entry_list_iadd ?_⟩
  rw [Around.under_plainId PySem.F.plain_list_iadd _]
  show wpAny _ A.in1 (Builtin.List.listExtendWith (.ref s.heap.objs.size) (.ref d) (.ref s.heap.objs.size)) _ _ _
  unfold Builtin.List.listExtendWith
  have x1 : RawD (s.heap.push { cls := .type "list", data := .seq ([] : List Value).toArray }) d es ep := x.at fun o e => Heap.get?_push_of_some _ e
  have t1 : Shared.TypeIs { s with heap := s.heap.push { cls := .type "list", data := .seq ([] : List Value).toArray } } (.ref d) "dict" := RawD.type (s := { s with heap := s.heap.push { cls := .type "list", data := .seq ([] : List Value).toArray } }) x1
  refine wpAny_bind (wpAny_typeOf t1 ?_)
  have h1 : Builtin.List.listSameRef (.ref s.heap.objs.size) (.ref d) = false := by
    simp only [Builtin.List.listSameRef]
    exact beq_eq_false_iff_ne.mpr (Nat.ne_of_gt hlt)
  have h2 : (Value.type "dict" == Value.type "list") = false := by decide
  have h3 : (Value.type "dict" == Value.type "tuple") = false := by decide
  simp only [h1, h2, h3, Bool.or_false, Bool.false_eq_true, if_false]
  refine wpAny_bind (raw_iter hd x1 ?_)
  refine wpAny_bind (wpAny_holding ?_)
  generalize hH : s.heap.push { cls := .type "list", data := .seq ([] : List Value).toArray } = G at x1 t1 ⊢
  have hG : G.objs.size = s.heap.objs.size + 1 := by rw [← hH, Heap.size_push]
  have kG : ∀ b o, s.heap.get? b = some o → G.get? b = some o := fun b o e => by rw [← hH]; exact Heap.get?_push_of_some _ e
  have sG : G.get? s.heap.objs.size = some { cls := .type "list", data := .seq ([] : List Value).toArray } := by rw [← hH]; exact Heap.get?_push_size _ rfl
  have t2 : Shared.TypeIs { s with heap := G.push { cls := .type "dict_keyiterator", data := .fields #[.ref d, .int 0 0, .int es.size 0, .int ep 0] } } (.ref d) "dict" :=
    RawD.type (s := { s with heap := G.push { cls := .type "dict_keyiterator", data := .fields #[.ref d, .int 0 0, .int es.size 0, .int ep 0] } }) (x1.at fun o e => Heap.get?_push_of_some _ e)
  unfold Builtin.List.listLengthHint
  refine wpAny_bind (wpAny_specialOf (T := "dict") (v := .ref d) t2 len_slot ?_)
  wp_delta
  refine wpAny_bind (wpAny_isInstance (T := "dict") (v := .ref d) (b := true) t2 (by rw [isSubtype_type]; kernel_rfl) ?_)
  show wpAny _ A.in1 (typeOf (Value.ref d) >>= _) _ _ _
  refine wpAny_bind (wpAny_typeOf t2 ?_)
  refine wpAny_pure ?_
  rw [if_pos (by decide)]
  refine wpAny_bind (wpAny_rule ?_)
  have sP : (G.push { cls := .type "dict_keyiterator", data := .fields #[.ref d, .int 0 0, .int es.size 0, .int ep 0] }).get? s.heap.objs.size = some { cls := .type "list", data := .seq ([] : List Value).toArray } := Heap.get?_push_of_some _ sG
  have iP : (G.push { cls := .type "dict_keyiterator", data := .fields #[.ref d, .int 0 0, .int es.size 0, .int ep 0] }).IsKeyIter G.objs.size d 0 es.size ep := ⟨_, Heap.get?_push_size _ rfl, rfl, rfl⟩
  have dP : RawD (G.push { cls := .type "dict_keyiterator", data := .fields #[.ref d, .int 0 0, .int es.size 0, .int ep 0] }) d es ep := x1.at fun o e => Heap.get?_push_of_some _ e
  have kP : ∀ b o, s.heap.get? b = some o → (G.push { cls := .type "dict_keyiterator", data := .fields #[.ref d, .int 0 0, .int es.size 0, .int ep 0] }).get? b = some o := fun b o e => Heap.get?_push_of_some _ (kG b o e)
  show wpAny _ A.in1 (Builtin.List.listTouch (.ref s.heap.objs.size) >>= fun _ => again (.builtin "list.extend.loop" ⟨[.ref s.heap.objs.size, .ref G.objs.size, .ref s.heap.objs.size], []⟩)) _ _ { s with heap := G.push { cls := .type "dict_keyiterator", data := .fields #[.ref d, .int 0 0, .int es.size 0, .int ep 0] } }
  generalize G.push { cls := .type "dict_keyiterator", data := .fields #[.ref d, .int 0 0, .int es.size 0, .int ep 0] } = Y at sP iP dP kP ⊢
  refine wpAny_bind ?_
  show wpAny _ A.in1 (updateSeq s.heap.objs.size (·.push .none) >>= fun _ => updateSeq s.heap.objs.size (·.pop)) _ _ _
  refine wpAny_bind (wpAny_updateSeq sP rfl ?_)
  have s2 := Heap.get?_update_self (Obj.mapSeq (·.push Value.none)) sP rfl
  refine wpAny_updateSeq s2 rfl ?_
  have s3 := Heap.get?_update_self (Obj.mapSeq (·.pop)) s2 rfl
  have oth : ∀ b o, b ≠ s.heap.objs.size → Y.get? b = some o → ((Y.update s.heap.objs.size (Obj.mapSeq (·.push Value.none))).update s.heap.objs.size (Obj.mapSeq (·.pop))).get? b = some o :=
    fun b o hb e => (Heap.get?_update_other _ _ (Ne.symm hb)).trans ((Heap.get?_update_other _ _ (Ne.symm hb)).trans e)
  have hJ : s.heap.objs.size ∉ [G.objs.size, d] := fun hm => by
    rcases List.mem_cons.mp hm with h | h
    · rw [hG] at h
      exact absurd h (Nat.ne_of_lt (Nat.lt_succ_self _))
    · exact absurd (List.mem_singleton.mp h) (Nat.ne_of_gt hlt)
  have dG : d ≠ G.objs.size := by rw [hG]; exact Nat.ne_of_lt (Nat.lt_succ_of_lt hlt)
  have gs : G.objs.size ≠ s.heap.objs.size := by rw [hG]; exact Nat.ne_of_gt (Nat.lt_succ_self _)
  refine wpAny_pure ⟨plainId_quiet PySem.F.plain_extend_loop _, codeAny_extend_loopS (walks_raw (prog := prog) (w := w) (A := A.in1) hh G.objs.size d dG es ep).toS hn _ hJ _ es.size 0 _ _ _ rfl (Nat.zero_le _)
    ⟨iP.at fun o e => oth _ o gs e, dP.at fun o e => oth _ o (Nat.ne_of_lt hlt) e⟩ s3 (ItemsOf.nil _) fun s' acc c hm hS' hacc => ?_⟩
  show wpAny _ A (load s.heap.objs.size >>= _) _ _ s'
  refine wpAny_bind (wpAny_load hS' ?_)
  have ea : acc.toList = es.toList.map (·.key) := by
    apply List.ext_getElem?
    intro i
    rw [List.getElem?_map, Array.getElem?_toList, Array.getElem?_toList]
    by_cases hi : i < es.size
    · have hi2 : i < acc.size := by rw [hacc.1]; exact hi
      obtain ⟨y, hy, e⟩ := hacc.2 i acc[i] (getElem?_pos acc i hi2)
      rw [getElem?_pos acc i hi2, hy, e]
      rfl
    · rw [getElem?_neg acc i (by rw [hacc.1]; exact hi), getElem?_neg es i hi]
      rfl
  show wpAny _ A (pure acc.toList) _ _ _
  rw [ea]
  refine wpAny_pure (q s' (fun b o e => ?_) hm.gens hm.drawn hm.os)
  have hb := Heap.lt_size e
  exact hm.heap b o (fun hm2 => by
    rcases List.mem_cons.mp hm2 with h | h
    · exact absurd h (Nat.ne_of_lt hb)
    · rw [List.mem_singleton.mp h, hG] at hb
      exact absurd hb (Nat.not_lt.mpr (Nat.le_succ _))) (oth b o (Nat.ne_of_lt hb) (kP b o e))
/-- a list sorted, whatever its kind of keys -/
theorem sort_any {O : KeyOrd} {key : Keyed → O.α} {D : Keyed → Prop} {kd : SortKind} {a : Addr} {vs : List Value} {n : Nat} {P : PySem.Fin → Shared → Prop} (ho : s.heap.get? a = some (seqObj "list" vs.toArray n)) (hz : vs.length ≤ sizeLine)
    (hk : 2 ≤ vs.length → ∀ s' : Shared, (∀ b o, b ≠ a → s.heap.get? b = some o → s'.heap.get? b = some o) → Cmp prog w A E s' O key D kd ∧ AllD D (pairsOf vs) ∧ ∀ Q : SortKind → Shared → Prop, Q kd s' → wpAny (model prog w) A (keyKind' vs.toArray) Q E s')
    (h : ∀ out : Array Keyed, out.Perm (pairsOf vs) → Sg key out 0 (pairsOf vs).size → P (.done (.ret .none)) { s with heap := sortedHeap s.heap a vs (out.map (·.2)) }) : wpAny (model prog w) A (Builtin.«list.sort» ⟨[.ref a], []⟩) P E s := by
  rw [list_sort_plain]
  have ha : a < s.heap.objs.size := Heap.lt_size ho
  refine wpAny_bind (listItems_at ho rfl (wpAny_bind (listUpdate_at ho rfl ?_)))
  obtain ⟨e1, ho1⟩ : ∃ e1, (s.heap.update a (Obj.mapSeq fun _ => #[])).get? a = some (seqObj "list" #[] e1) := ⟨_, get?_update_seq ho (fun _ => #[])⟩
  refine wpAny_bind (seqEpoch_at ho1 rfl (wpAny_bind (wpAny_newTuple (wpAny_bind (wpAny_newList (wpAny_holding ?_))))))
  have ho6 : (((s.heap.update a (Obj.mapSeq fun _ => #[])).push (seqObj "tuple" vs.toArray 0)).push (seqObj "list" #[] 0)).get? a = some (seqObj "list" #[] e1) := Heap.get?_push_of_some _ (Heap.get?_push_of_some _ ho1)
  have kp : ∀ b o, b ≠ a → s.heap.get? b = some o → (((s.heap.update a (Obj.mapSeq fun _ => #[])).push (seqObj "tuple" vs.toArray 0)).push (seqObj "list" #[] 0)).get? b = some o := fun b o hb e =>
    Heap.get?_push_of_some _ (Heap.get?_push_of_some _ ((Heap.get?_update_other _ _ (Ne.symm hb)).trans e))
  show wpAny (model prog w) A _ P E { s with heap := ((s.heap.update a (Obj.mapSeq fun _ => #[])).push (seqObj "tuple" vs.toArray 0)).push (seqObj "list" #[] 0) }
  dsimp only
  have hsz : vs.toArray.size = vs.length := by simp
  by_cases h2 : vs.toArray.size < 2
  · rw [if_pos h2, if_pos h2]
    refine wpAny_bind (wpAny_pure ?_)
    rw [StateT.run_pure]
    refine wpAny_bind (wpAny_pure ?_)
    dsimp only
    refine wpAny_bind (seqEpoch_at ho6 rfl (wpAny_bind (listUpdate_at ho6 rfl ?_ (hsz2 := by rw [Array.size_map]; show (pairsOf vs).size ≤ _; rw [pairsOf_size, sizeLine_eq]; omega))))
    simp only [bne_self_eq_false, Bool.false_eq_true, if_false]
    refine wpAny_pure (h (pairsOf vs) (Array.Perm.refl _) ?_)
    intro i j _ hij hj
    have : i = j := by rw [pairsOf_size] at hj; omega
    subst this
    exact KeyOrd.kle_refl _
  · rw [if_neg h2, if_neg h2]
    obtain ⟨C, hD, hkk⟩ := hk (by omega) { s with heap := ((s.heap.update a (Obj.mapSeq fun _ => #[])).push (seqObj "tuple" vs.toArray 0)).push (seqObj "list" #[] 0) } kp
    refine wpAny_bind (hkk _ ?_)
    refine wpAny_bind (wpAny_mono (wpS_sortAll C hD (st := SortSt.mk' kd (vs.toArray.zip vs.toArray) #[] 7 none)
      (Q := fun _ st' => (arrOf st').Perm (pairsOf vs) ∧ failedOf st' = none ∧ Sg key (arrOf st') 0 (pairsOf vs).size)
      rfl rfl rfl rfl (by rw [pairsOf_size]; omega) fun st' a1 a2 a3 => ⟨a1, a2, a3⟩) ?_ fun _ _ e => e)
    rintro ⟨⟨⟩, st'⟩ s' ⟨rfl, hp, hf, hs⟩
    dsimp only
    refine wpAny_bind (seqEpoch_at ho6 rfl (wpAny_bind (listUpdate_at ho6 rfl ?_ (hsz2 := by refine Nat.le_trans (Nat.le_of_eq ((Array.size_map ..).trans (hp.size_eq.trans (pairsOf_size _)))) ?_; omega))))
    rw [hf]
    simp only [bne_self_eq_false, Bool.false_eq_true, if_false]
    exact wpAny_pure (h _ hp hs)
/-- sorted of what is collected -/
theorem sorted_any {O : KeyOrd} {key : Keyed → O.α} {D : Keyed → Prop} {kd : SortKind} {src : Value} {vs : List Value} {Q : Value → Shared → Prop} (hz : vs.length ≤ sizeLine)
    (hc : ∀ Q' : List Value → Shared → Prop, (∀ s', (∀ b o, s.heap.get? b = some o → s'.heap.get? b = some o) → s'.gens = s.gens → s'.drawn = s.drawn → s'.os = s.os → Q' vs s') → wpAny (model prog w) A.in1 (collect src) Q' E s)
    (hk : 2 ≤ vs.length → ∀ (A : Around) (E : Value → Shared → Prop) (s' : Shared), (∀ b o, s.heap.get? b = some o → s'.heap.get? b = some o) → Cmp prog w A E s' O key D kd ∧ AllD D (pairsOf vs) ∧ ∀ Q : SortKind → Shared → Prop, Q kd s' → wpAny (model prog w) A (keyKind' vs.toArray) Q E s')
    (h : ∀ (out : Array Keyed) (n : Nat) (s1 : Shared) (h' : Heap), out.Perm (pairsOf vs) → Sg key out 0 (pairsOf vs).size → (∀ b o, s.heap.get? b = some o → s1.heap.get? b = some o) → s1.gens = s.gens → s1.drawn = s.drawn → s1.os = s.os →
      (∀ b o, s1.heap.get? b = some o → h'.get? b = some o) → h'.get? s1.heap.objs.size = some (seqObj "list" (out.map (·.2)) n) → Q (.ref s1.heap.objs.size) { s1 with heap := h' }) : wpAny (model prog w) A (call (.builtin "sorted") [src]) Q E s := by
  refine Calls.call_function_entry kind_sorted plain_sorted entry_sorted (args_sorted1 _) ?_
  unfold Builtin.«sorted»
  refine wpAny_bind (m := checkCount "sorted" 1 1 _) (wpAny_pure ?_)
  refine wpAny_bind (hc _ fun s1 k1 g1 d1 o1 => ?_)
  refine wpAny_bind (wpAny_newList ?_)
  have hoL : (s1.heap.push (seqObj "list" vs.toArray 0)).get? s1.heap.objs.size = some (seqObj "list" vs.toArray 0) := Heap.get?_push_size _ rfl
  have kL : ∀ b o, s1.heap.get? b = some o → (s1.heap.push (seqObj "list" vs.toArray 0)).get? b = some o := fun b o e => Heap.get?_push_of_some _ e
  show wpAny _ _ _ _ _ { s1 with heap := s1.heap.push (seqObj "list" vs.toArray 0) }
  refine wpAny_bind (wpAny_holding (wpAny_call_entry slot_list_sort ⟨_, hoL, rfl⟩ entry_list_sort (sort_any (O := O) (key := key) (D := D) (kd := kd) hoL hz (fun h2 s' ks => hk h2 _ _ s' fun b o e => ks b o (Nat.ne_of_lt (Heap.lt_size (k1 b o e))) (kL b o (k1 b o e))) fun out a1 a2 => ⟨_, rfl, ?_⟩) (args_list_sort _)))
  obtain ⟨n, en⟩ := sortedHeap_at (out := out.map (·.2)) hoL
  refine wpAny_pure ⟨_, rfl, h out n s1 _ a1 a2 k1 g1 d1 o1 (fun b o e => ?_) en⟩
  have hb := Heap.lt_size e
  rw [sortedHeap_old (Nat.ne_of_lt hb) (by rw [size_push']; exact Nat.lt_succ_of_lt hb)]
  exact kL b o e
end
end Srt

set_option Elab.async false
set_option linter.all false
set_option maxRecDepth 100000
set_option maxHeartbeats 1000000
namespace L2
open PySem PySem.Spec PyProof.Rows
/-! ### texts made of parts -/
abbrev TF := St → Hp → Str → (Str → Hp → Prop) → Prop
structure PF (X : Cx) (vs : List Expr) (t : TF) : Prop where
  run : ∀ (pins : List (Addr × Obj)) (s : Shared) (σ : St) (H : Hp) (acc : Str) (Q : Str → Hp → Prop), Inv X pins σ H s → t σ H acc Q →
    PySem.Joins (model X.prog X.w) X.A X.xe (evalEach vs X.env) acc (fun out s' => ∃ H', Inv X pins σ H' s' ∧ Q out H') s
section
variable {X : Cx}
theorem pf_nil : PF X [] (fun _ H acc Q => Q acc H) := ⟨fun pins s σ H acc Q I h => ⟨H, I, h⟩⟩
theorem pf_str {x : Str} {j pos} {vs : List Expr} {t : TF} (h : PF X vs t) : PF X (.Constant (.str x) j pos :: vs) (fun σ H acc Q => (acc ++ x).length ≤ sizeLine ∧ t σ H (acc ++ x) Q) := ⟨by
  (first | constructor | skip)
  intro pins s σ H acc Q I q
  exact Calls.Constant_str ⟨x, s.toks, rfl, q.1, h.run pins _ σ H _ Q (I.tok _) q.2⟩⟩
def partOf (v : V) (y : Str) : Prop := v = .str y ∨ ∃ i : Int, v = .int i ∧ i.natAbs.log2 < 1920 ∧ y = toString i
theorem pf_val {e : Expr} {pos} {te : TE} {vs : List Expr} {t : TF} (he : PE X e te) (h : PF X vs t) : PF X (.FormattedValue e (-1) none pos :: vs) (fun σ H acc Q => te σ H fun v H1 => ∃ y, partOf v y ∧ y.length ≤ sizeLine ∧ (acc ++ y).length ≤ sizeLine ∧ t σ H1 (acc ++ y) Q) := ⟨by
  (first | constructor | skip)
  intro pins s σ H acc Q I q
  refine PyProof.Rows.FormattedValue_plain (thn (he.run pins s σ H _ I q) fun u s1 ⟨v, H1, I1, r1, y, py, hy, hz, q1⟩ => ?_)
  rcases py with rfl | ⟨i, rfl, hi, rfl⟩
  · obtain ⟨t, rfl⟩ := r1
    exact PyProof.Rows.formatField_str (fun t' tk => ⟨y, t', rfl, hz, h.run pins _ σ H1 _ Q (I1.tok _) q1⟩) hy
  · obtain ⟨t, rfl⟩ := r1
    exact PyProof.Rows.formatField_int_small hi ⟨_, _, rfl, hz, h.run pins _ σ H1 _ Q (I1.tok _) q1⟩⟩
theorem pe_fstr {v₁ v₂ : Expr} {rest : List Expr} {pos : Pos} {t : TF} (h : PF X (v₁ :: v₂ :: rest) t) : PE X (.JoinedStr (v₁ :: v₂ :: rest) pos) (fun σ H Q => t σ H Str.empty fun out H' => out.length ≤ sizeLine ∧ Q (.str out) H') := by
  (first | constructor | skip)
  (first | constructor | skip)
  intro pins s σ H Q I q
  refine wpAny_JoinedStr ?_
  have := h.run pins s σ H Str.empty _ I q
  have mono : ∀ (l : List (Sem Value)) (acc : Str) (s : Shared) {Q1 Q2 : Str → Shared → Prop}, (∀ o s, Q1 o s → Q2 o s) → PySem.Joins (model X.prog X.w) X.A X.xe l acc Q1 s → PySem.Joins (model X.prog X.w) X.A X.xe l acc Q2 s := by
    intro l
    induction l with
    | nil => exact fun acc s Q1 Q2 hq q => hq _ _ q
    | cons x l ih =>
      intro acc s Q1 Q2 hq q
      exact thn q fun v s1 ⟨y, t, e, hz, q1⟩ => ⟨y, t, e, hz, ih _ _ hq q1⟩
  refine mono _ _ _ (fun out s' ⟨H', I', hz, q'⟩ => ⟨hz, ?_⟩) this
  exact ⟨.str out, H', I'.tok _, ⟨_, rfl⟩, q'⟩
end

/-! ### in, not in: a list of paths or None -/
/-- a value that is None or a path -/
def OptP (H : Hp) (v : V) (o : Option (List Str)) : Prop := match o with
  | none => v = .non
  | some zs => ∃ a, v = .ref a ∧ H a = some (.tup (zs.map V.str))
abbrev OptPs (H : Hp) : List V → List (Option (List Str)) → Prop := Paired (OptP H)
theorem OptP.mono {H H' : Hp} (k : ∀ b xs, H b = some (.tup xs) → H' b = some (.tup xs)) {v : V} {o : Option (List Str)} (h : OptP H v o) : OptP H' v o := by
  cases o with
  | none => exact h
  | some zs => obtain ⟨a, e, q⟩ := h; exact ⟨a, e, k _ _ q⟩
theorem strs_inj : ∀ {a b : List Str}, a.map V.str = b.map V.str → a = b
  | [], [], _ => rfl
  | [], _ :: _, e => by cases e
  | _ :: _, [], e => by cases e
  | x :: a, y :: b, e => by
    rw [List.map_cons, List.map_cons] at e
    obtain ⟨e1, e2⟩ := List.cons.inj e
    injection e1 with e1
    rw [e1, strs_inj e2]
def eqP (H : Hp) (zs : List Str) (u : Value) : Bool := match u with
  | .ref a => match H a with
    | some (.tup xs) => decide (xs = zs.map V.str)
    | _ => false
  | _ => false
theorem eqAt_tups {A : Around} {pins : List (Addr × Obj)} {X : Cx} {σ : St} {H : Hp} {s : Shared} {a b : Addr} {xs ys : List Str} (hu : A.units < cLine) (I : Inv X pins σ H s) (ha : H a = some (.tup (xs.map V.str))) (hb : H b = some (.tup (ys.map V.str))) : SeqAt.EqAt A s (.ref a) (.ref b) (decide (xs = ys)) := by
  by_cases e : a = b
  · subst e
    rw [ha] at hb
    have := strs_inj (HO.tup.inj (Option.some.inj hb))
    rw [decide_eq_true this]
    exact SeqAt.EqAt.same _
  · obtain ⟨its, r1, p1, _⟩ := I.tuple (SqT.of (K := X.K) ha)
    obtain ⟨its2, r2, p2, _⟩ := I.tuple (SqT.of (K := X.K) hb)
    have l1 := r1.length
    have l2 := r2.length
    rw [List.length_map] at l1 l2
    have q := SeqAt.RcAt.tuples (A := A) (s := s) (e := fun j => xs.getD j "" == ys.getD j "") (show s.heap.IsTuple a its.toArray from p1) (show s.heap.IsTuple b its2.toArray from p2) hu (fun j h1 h2 => by
      obtain ⟨g1, t1, e1⟩ := strs_get r1 (j := j) (by simpa using h1)
      obtain ⟨g2, t2, e2⟩ := strs_get r2 (j := j) (by simpa using h2)
      have z1 : its.toArray[j] = .str xs[j] t1 := by simpa using e1
      have z2 : its2.toArray[j] = .str ys[j] t2 := by simpa using e2
      rw [z1, z2, List.getD_eq_getElem?_getD, List.getD_eq_getElem?_getD, List.getElem?_eq_getElem g1, List.getElem?_eq_getElem g2]
      exact SeqAt.EqAt.str_str _ _ _ _)
    rw [List.size_toArray, List.size_toArray, ← l1, ← l2, all_eq_strs] at q
    exact SeqAt.EqAt.of_refs e q
theorem eqP_of {H : Hp} {v : V} {u : Value} {o : Option (List Str)} {zs : List Str} (h : OptP H v o) (r : RelV v u) : eqP H zs u = decide (o = some zs) := by
  cases o with
  | none =>
    cases (show v = .non from h)
    cases (show u = Value.none from r)
    exact (decide_eq_false fun q => nomatch q).symm
  | some ws =>
    obtain ⟨a, rfl, e⟩ := h
    cases (show u = Value.ref a from r)
    unfold eqP
    simp only [e]
    by_cases q : ws = zs
    · subst q
      rw [decide_eq_true rfl, decide_eq_true rfl]
    · rw [decide_eq_false fun w => q (strs_inj w), decide_eq_false fun w => q (Option.some.inj w)]
theorem any_eqP {H : Hp} {zs : List Str} : ∀ {xs : List V} {os : List (Option (List Str))} {us : List Value}, OptPs H xs os → Vals xs us → us.any (eqP H zs) = decide (some zs ∈ os)
  | _, _, _, .nil, .nil => (decide_eq_false (fun q => nomatch q)).symm
  | _, o :: os, _, .cons h t, .cons r t' => by
    rw [List.any_cons, eqP_of h r, any_eqP t t', ← Bool.decide_or]
    congr 1
    rw [List.mem_cons]
    exact propext ⟨fun q => q.imp Eq.symm id, fun q => q.imp Eq.symm id⟩
theorem mem_eqP {A : Around} {pins : List (Addr × Obj)} {X : Cx} {σ : St} {H : Hp} {s : Shared} {b : Addr} {zs : List Str} (hu : A.units < cLine) (I : Inv X pins σ H s) (hb : H b = some (.tup (zs.map V.str))) : ∀ {xs : List V} {os : List (Option (List Str))} {us : List Value}, OptPs H xs os → Vals xs us → ∀ u ∈ us, SeqAt.EqAt A s u (.ref b) (eqP H zs u)
  | _, _, _, .nil, .nil => fun u hu => nomatch hu
  | _, o :: os, _, .cons h t, .cons r t' => fun u q => by
    rcases List.mem_cons.mp q with rfl | q
    · rw [eqP_of h r]
      cases o with
      | none =>
        cases (show _ = V.non from h)
        cases (show u = Value.none from r)
        rw [decide_eq_false fun q => nomatch q]
        obtain ⟨its, r1, p1, _⟩ := I.tuple (SqT.of (K := X.K) hb)
        exact SeqAt.EqAt.none_tuple p1 hu
      | some ws =>
        obtain ⟨a, rfl, e⟩ := h
        cases (show u = Value.ref a from r)
        rw [show decide (some ws = some zs) = decide (ws = zs) by congr 1; exact propext ⟨Option.some.inj, congrArg some⟩]
        exact eqAt_tups hu I e hb
    · exact mem_eqP hu I hb t t' u q
section
variable {X : Cx}
theorem op_inP (hu : X.A.units + 1 < cLine) : OpR X (compareOp .In) (fun x y H Q => ∃ b p zs xs os, x = .ref b ∧ H b = some (.tup (zs.map V.str)) ∧ y = .ref p ∧ SqL X.K H p xs ∧ OptPs H xs os ∧ Q (.bl (decide (some zs ∈ os))) H) := by
  (first | constructor | skip)
  intro pins s σ H x y v u Q I rx ry h
  obtain ⟨b, p, zs, xs, os, rfl, hb, rfl, hq, ho, q⟩ := h
  cases rx
  cases ry
  obtain ⟨its, r, pl, hz⟩ := I.list hq
  refine SeqAt.in_listAt (eqP H zs) pl.isList (fun w hw => mem_eqP hu I hb ho r w (by simpa using hw)) ⟨.bl _, H, I, rfl, ?_⟩
  rw [show its.toArray.any (eqP H zs) = its.any (eqP H zs) by simp, any_eqP ho r]
  exact q
theorem op_notInP (hu : X.A.units + 1 < cLine) : OpR X (compareOp .NotIn) (fun x y H Q => ∃ b p zs xs os, x = .ref b ∧ H b = some (.tup (zs.map V.str)) ∧ y = .ref p ∧ SqL X.K H p xs ∧ OptPs H xs os ∧ Q (.bl (!decide (some zs ∈ os))) H) := by
  (first | constructor | skip)
  intro pins s σ H x y v u Q I rx ry h
  obtain ⟨b, p, zs, xs, os, rfl, hb, rfl, hq, ho, q⟩ := h
  cases rx
  cases ry
  obtain ⟨its, r, pl, hz⟩ := I.list hq
  refine SeqAt.notIn_listAt (eqP H zs) pl.isList (fun w hw => mem_eqP hu I hb ho r w (by simpa using hw)) ⟨.bl _, H, I, rfl, ?_⟩
  rw [show its.toArray.any (eqP H zs) = its.any (eqP H zs) by simp, any_eqP ho r]
  exact q
/-! ### text += text -/
theorem ip_str : PIp X .Add (fun x y H Q => ∃ i j, x = .str i ∧ y = .str j ∧ i.length + j.length ≤ sizeLine ∧ Q (.str (i ++ j)) H) := by
  (first | constructor | skip)
  intro pins s σ H x y v u Q I rx ry h
  obtain ⟨i, j, rfl, rfl, hz, q⟩ := h
  obtain ⟨t, rfl⟩ := rx
  obtain ⟨t', rfl⟩ := ry
  exact PyProof.Rows.iadd_str (fun t' tk => ⟨.str (i ++ j), H, I.tok _, ⟨_, rfl⟩, q⟩) hz
end

/-! ### a dict whose keys are paths -/
abbrev PMap := List (List Str × V)
def gP (p : List Str × V) : List Key × V := (p.1.map Sum.inr, p.2)
def dP (m : PMap) : HO := .dT (m.map gP)
theorem kV_strs (zs : List Str) : ((zs.map Sum.inr : List Key)).map kV = zs.map V.str := by
  rw [List.map_map]
  rfl
theorem inr_inj {a b : List Str} (h : (a.map Sum.inr : List Key) = b.map Sum.inr) : a = b := strs_inj (by rw [← kV_strs, ← kV_strs, h])
theorem valV_gP (m : PMap) (zs : List Str) : valV (m.map gP) (zs.map Sum.inr) = valV m zs := by
  induction m with
  | nil => rfl
  | cons p m ih =>
    rw [List.map_cons]
    by_cases e : p.1 = zs
    · rw [valV_pos (by show p.1.map Sum.inr = _; rw [e]), valV_pos e]
      rfl
    · rw [valV_neg (fun q => e (inr_inj q)), valV_neg e, ih]
theorem putK_gP (m : PMap) (zs : List Str) (v : V) : putK (m.map gP) (zs.map Sum.inr) v = (putK m zs v).map gP := by
  have e : ∀ p : List Str × V, decide ((gP p).1 = zs.map Sum.inr) = decide (p.1 = zs) := fun p => by
    congr 1
    exact propext ⟨fun q => inr_inj q, fun q => by show p.1.map Sum.inr = _; rw [q]⟩
  have e1 : ((m.map gP).any fun kv => decide (kv.1 = zs.map Sum.inr)) = m.any fun kv => decide (kv.1 = zs) := by
    rw [List.any_map]
    congr 1
    funext p
    exact e p
  unfold putK
  rw [e1]
  split
  · rw [List.map_map, List.map_map]
    apply List.map_congr_left
    intro p _
    by_cases q : p.1 = zs
    · show (if (gP p).1 = zs.map Sum.inr then ((gP p).1, v) else gP p) = gP (if p.1 = zs then (p.1, v) else p)
      rw [if_pos (by show p.1.map Sum.inr = _; rw [q]), if_pos q]
      rfl
    · show (if (gP p).1 = zs.map Sum.inr then ((gP p).1, v) else gP p) = gP (if p.1 = zs then (p.1, v) else p)
      rw [if_neg (show ¬ (gP p).1 = zs.map Sum.inr from fun w => q (inr_inj w)), if_neg q]
  · rw [List.map_append]
    rfl
theorem getP {H : Hp} {d b : Addr} {m : PMap} {zs : List Str} (e : H d = some (dP m)) (eb : H b = some (.tup (zs.map V.str))) : DGet H d (.ref b) (valV m zs) := by
  rw [← valV_gP]
  exact DGet.t e (by rw [kV_strs]; exact eb)
theorem setP {H : Hp} {d b : Addr} {m : PMap} {zs : List Str} {v : V} (e : H d = some (dP m)) (eb : H b = some (.tup (zs.map V.str))) (hl : m.length < sizeLine) : DPut H d (.ref b) v (upd H d (dP (putK m zs v))) := by
  have := DPut.t (v := v) e (show H b = some (.tup (((zs.map Sum.inr : List Key)).map kV)) by rw [kV_strs]; exact eb) (by rw [List.length_map]; exact hl)
  rw [putK_gP] at this
  exact this
section
variable {prog : Program} {w : World} {K : Type} [DecidableEq K] {knd : HeapKind prog w K} {A : Around} {E : Value → Shared → Prop} {s : Shared} {d a : Addr} {k : K} {xs : List (K × Addr × Value)}
theorem setDef_heap {v : Value} {Q : Value → Shared → Prop} (hu : knd.room A) (hkey : knd.is s.heap k a) (hm : s.heap.DictOfH knd d xs)
    (h1 : ∀ p, atKey xs k = some p → Q p.2 { s with toks := s.toks + knd.draws k }) (h2 : atKey xs k = none → ∀ h', h'.DictOfH knd d (storedH xs k a v) → Heap.SameBut d s.heap h' → Q v { s with heap := h', toks := s.toks + knd.draws k })
    (hsz : xs.length ≤ sizeLine) : wpAny (model prog w) A (dictSetDefault d (.ref a) v) Q E s := by
  obtain ⟨o, es, ep, ho, hc, hd, he, his, hn⟩ := hm
  unfold dictSetDefault
  refine wpAny_holding (wpAny_bind (knd.pyHash hu hkey (wpAny_bind (wpAny_dictFind_heap (s := { s with toks := s.toks + knd.draws k }) hu hkey ho hd he his hn (fun hno => ?_) fun j p hj => ?_))))
  · have hat := atKey_none_of_get hno
    refine wpAny_bind (wpAny_rule (wpAny_bind (wpAny_updateDictKeys (hz := by have e := size_of_entries he; omega) (s := { s with toks := s.toks + knd.draws k }) ho hd (wpAny_pure (h2 hat _ ⟨_, _, ep + 1, Heap.get?_update_self _ ho (Obj.isFreed_of_dict (Obj.data_mapDictKeys hd _)), hc.mapDictKeys _, Obj.data_mapDictKeys hd _, ?_, ?_, ?_⟩ (Heap.SameBut.update ..))))))
    · rw [storedH_new hat]
      simp [he, entryOfKey]
    · rw [storedH_new hat]
      intro x hx
      rcases List.mem_append.mp hx with hx | hx
      · exact knd.keeps (his x hx) ho hd (Heap.SameBut.update ..)
      · rw [List.mem_singleton.mp hx]
        exact knd.keeps hkey ho hd (Heap.SameBut.update ..)
    · rw [storedH_new hat, List.map_append, List.nodup_append]
      refine ⟨hn, by simp, fun x hx y hy => ?_⟩
      rw [List.map_singleton, List.mem_singleton] at hy
      subst hy
      exact fun e => not_mem_keys_of_get hno (e ▸ hx)
  · refine wpAny_bind (wpAny_dictEntries (s := { s with toks := s.toks + knd.draws k }) ho hd ?_)
    rw [entry_at he j, hj]
    exact wpAny_bind (wpAny_rule (wpAny_pure (h1 p (atKey_of_get hn hj))))
end
section
variable {X : Cx}
/-- d.setdefault(path, v) -/
theorem mt_setdef (hu : X.A.units + 1 < cLine) : MtM X "dict.setdefault" (fun x vs H Q => ∃ d b m zs v, x = .ref d ∧ vs = [.ref b, v] ∧ H d = some (dP m) ∧ H b = some (.tup (zs.map V.str)) ∧ m.length < sizeLine ∧
    (∀ w, valV m zs = some w → Q w H) ∧ (valV m zs = none → Q v (upd H d (dP (putK m zs v))))) := by
  (first | constructor | skip)
  intro pins s σ H x xs u us Q I rx rs h
  obtain ⟨d, b, m, zs, v, rfl, rfl, e, eb, hl, q1, q2⟩ := h
  cases (show u = Value.ref d from rx)
  obtain ⟨u1, u2, rfl, r1, r2⟩ : ∃ u1 u2, us = [u1, u2] ∧ RelV (.ref b) u1 ∧ RelV v u2 := by
    cases rs with
    | cons r1 t => cases t with
      | cons r2 t => cases t with
        | nil => exact ⟨_, _, rfl, r1, r2⟩
  cases (show u1 = Value.ref b from r1)
  obtain ⟨z, hd, ys, rel, dd⟩ := dt_of I.hok e
  have eb' : H b = some (.tup (((zs.map Sum.inr : List Key)).map kV)) := by rw [kV_strs]; exact eb
  have hz : ys.length ≤ sizeLine := by rw [← Paired.length rel]; exact z
  have hl2 : ((m.map gP)).length < sizeLine := by rw [List.length_map]; exact hl
  refine wpAny_call_entry PySem.F.slot_dict_setdefault dd.typeIs PySem.F.entry_dict_setdefault ?_ (PySem.F.args_dict_setdefault_3 _ _ _)
  unfold Builtin.«dict.setdefault»
  refine wpAny_bind ?_
  unfold Builtin.Dict.keyAndDefault
  refine wpAny_bind (wpAny_notOrdered_dict dd.typeIs ?_)
  show wpAny _ _ (pure (d, Value.ref b, some u2)) _ _ s
  refine wpAny_pure ?_
  show wpAny _ _ (if (d == sysModules) = true then _ else (dictSetDefault d (.ref b) u2 >>= _)) _ _ s
  rw [if_neg (by rw [hd]; simp)]
  refine wpAny_bind (setDef_heap (tupleKind_room_in1 hu) (key_of I.hok eb') dd (fun p hp => ?_) (fun hp h' dd' hs => ?_) hz)
  · obtain ⟨w', hw, rw'⟩ : ∃ w', valV (m.map gP) (zs.map Sum.inr) = some w' ∧ RelV w' p.2 := by
      have := rel.val (zs.map Sum.inr)
      rw [hp] at this
      cases q : valV (m.map gP) (zs.map Sum.inr) with
      | none => rw [q] at this; exact this.elim
      | some w' => rw [q] at this; exact ⟨w', rfl, this⟩
    rw [valV_gP] at hw
    exact wpAny_pure ⟨_, rfl, w', H, I.tok _, rw', q1 w' hw⟩
  · have hn : valV m zs = none := by
      have := rel.val (zs.map Sum.inr)
      rw [hp] at this
      rw [← valV_gP]
      cases q : valV (m.map gP) (zs.map Sum.inr) with
      | none => rfl
      | some w' => rw [q] at this; exact this.elim
    refine wpAny_pure ⟨_, rfl, v, _, ?_, r2, q2 hn⟩
    obtain ⟨q, es, ep, hq, h2, h3, h4, _, h5⟩ := dd'
    have hl3 : (putK (m.map gP) (zs.map Sum.inr) v).length ≤ sizeLine := by have := length_putK (m.map gP) (zs.map Sum.inr) v; omega
    rw [show dP (putK m zs v) = .dT (putK (m.map gP) (zs.map Sum.inr) v) by unfold dP; rw [putK_gP]]
    refine d_write I (by rw [e]; exact True.intro) hs ⟨q, hq⟩ ⟨hl3, hd, _, (rel.put (zs.map Sum.inr) eb' r2).keeps fun c ys ec => ?_, q, es, ep, hq, h2, h3, h4, h5⟩
    rw [upd_ne (ne_of ec e (fun z => nomatch z))]
    exact ec
/-- the paths of the keys, each at its place -/
abbrev PathsAt (H : Hp) : List Addr → List (List Str) → Prop := Paired fun a zs => H a = some (.tup (zs.map V.str))
theorem pathV_of {H : Hp} {pins : List (Addr × Obj)} {σ : St} {s : Shared} (I : Inv X pins σ H s) {h' : Heap} (kp : ∀ b o, s.heap.get? b = some o → h'.get? b = some o) {a : Addr} {zs : List Str} (e : H a = some (.tup (zs.map V.str))) : Srt.PathV h' (.ref a) zs := by
  obtain ⟨its, r, p, _⟩ := I.tuple (SqT.of (K := X.K) e)
  obtain ⟨o, ho, hc, n, hd⟩ := p
  exact ⟨a, o, its.toArray, n, rfl, kp _ _ ho, hc, hd, by simpa using strsAre_of r⟩
def adr (v : Value) : Addr := match v with
  | .ref a => a
  | _ => 0
theorem vals_refs : ∀ as : List Addr, Vals (as.map V.ref) (as.map Value.ref)
  | [] => .nil
  | _ :: r => .cons rfl (vals_refs r)
/-- sorted(d), d a dict with paths for keys, none of them the root -/
theorem call_sortedP (hc : X.calm = true) : CallR X (.builtin "sorted") (fun xs H Q => ∃ d m, xs = [.ref d] ∧ H d = some (dP m) ∧ (∀ p ∈ m, p.1 ≠ []) ∧
    ∀ (l : Addr) (as : List Addr) (ks : List (List Str)), ks.Perm (m.map (·.1)) → ks.Pairwise (fun x y => Srt.lexB y x = false) → PathsAt H as ks → H l = none → Q (.ref l) (upd H l (.lst (as.map V.ref)))) := by
  (first | constructor | skip)
  intro pins s σ H xs us Q I rs h
  obtain ⟨d, m, rfl, e, hne, q⟩ := h
  have hh := I.ok.hd hc
  obtain ⟨u, rfl, rx⟩ := vals1 rs
  cases (show u = Value.ref d from rx)
  obtain ⟨z, hd, ys, rel, o, es, ep, ho, ex, hdat, hes, hnd⟩ := I.hok d _ e
  have z' : m.length ≤ sizeLine := by rw [List.length_map] at z; exact z
  -- the keys, as values and as paths
  have keys : ∀ {m : PMap} {ys : List (List Key × Addr × Value)}, (∀ p ∈ m, p.1 ≠ []) → Paired (fun (p : List Key × V) (q : List Key × Addr × Value) => p.1 = q.1 ∧ H q.2.1 = some (.tup (p.1.map kV)) ∧ RelV p.2 q.2.2) (m.map gP) ys →
      PathsAt H (ys.map (·.2.1)) (m.map (·.1)) := by
    intro m
    induction m with
    | nil => intro ys _ r; cases r; exact .nil
    | cons p m ih =>
      intro ys hp r
      cases r with
      | cons h t =>
        refine .cons ?_ (ih (fun p' hp' => hp p' (List.mem_cons_of_mem _ hp')) t)
        have := h.2.1
        rw [show (gP p).1 = p.1.map Sum.inr from rfl, kV_strs] at this
        exact this
  have pk := keys hne rel
  have evs : es.toList.map (·.key) = (ys.map (·.2.1)).map Value.ref := by
    rw [hes, List.map_map, List.map_map]
    rfl
  have vlen : (es.toList.map (·.key)).length = m.length := by
    rw [evs, List.length_map, Paired.length pk, List.length_map]
  have esz : es.size = m.length := by rw [← vlen, List.length_map, Array.length_toList]
  have pathsV : ∀ (h' : Heap), (∀ b o, s.heap.get? b = some o → h'.get? b = some o) → ∀ v ∈ es.toList.map (·.key), ∃ zs, Srt.PathV h' v zs ∧ zs ≠ [] := by
    intro h' kp v hv
    rw [evs, List.mem_map] at hv
    obtain ⟨a, ha, rfl⟩ := hv
    have go : ∀ {as : List Addr} {ks : List (List Str)}, PathsAt H as ks → (∀ k ∈ ks, k ≠ []) → a ∈ as → ∃ zs, H a = some (.tup (zs.map V.str)) ∧ zs ≠ [] := by
      intro as ks r
      induction r with
      | nil => intro _ h; cases h
      | cons h t ih =>
        intro hk hm
        rcases List.mem_cons.mp hm with rfl | hm
        · exact ⟨_, h, hk _ List.mem_cons_self⟩
        · exact ih (fun k hk' => hk k (List.mem_cons_of_mem _ hk')) hm
    obtain ⟨zs, e1, e2⟩ := go pk (fun k hk => by obtain ⟨p, hp, rfl⟩ := List.mem_map.mp hk; exact hne p hp) ha
    exact ⟨zs, pathV_of I kp e1, e2⟩
  refine Srt.sorted_any (O := Srt.pathOrd) (key := fun x => Srt.pathAt s.heap x.1) (D := fun x => ∃ zs, Srt.PathV s.heap x.1 zs) (kd := tuples' true) (vs := es.toList.map (·.key)) (by rw [vlen]; exact z')
    (fun Q' hq => Srt.collect_raw hh hd ⟨o, ho, ex, hdat⟩ (by rw [esz]; exact z') hq) (fun h2 A' E' s' kp => ⟨?_, ?_, fun Q' hq => ?_⟩) (fun out n s1 h' hp hs k1 g1 d1 o1 k2 e2 => ?_)
  · refine ⟨fun x y st Q' ⟨zs, px⟩ ⟨ys', py⟩ hk hq => ?_⟩
    have t1 : Srt.PathV s'.heap x.1 zs := let ⟨a, o, xs, n, e, h1, r⟩ := px.ex; ⟨a, o, xs, n, e, kp _ _ h1, r⟩
    have t2 : Srt.PathV s'.heap y.1 ys' := let ⟨a, o, xs, n, e, h1, r⟩ := py.ex; ⟨a, o, xs, n, e, kp _ _ h1, r⟩
    refine Srt.cmp_paths.lt x y st Q' ⟨zs, t1⟩ ⟨ys', t2⟩ hk ?_
    rw [t1.key, t2.key]
    rw [px.key, py.key] at hq
    exact hq
  · intro i hi
    rw [pairsOf_size] at hi
    have hm : Srt.at' (pairsOf (es.toList.map (·.key))) i ∈ (pairsOf (es.toList.map (·.key))).toList := List.mem_of_getElem? (Srt.at_toList (by rw [pairsOf_size]; exact hi))
    rw [pairsOf_toList] at hm
    obtain ⟨zs, p, _⟩ := pathsV s.heap (fun _ _ e => e) _ (mem_zip_self hm).2
    exact ⟨zs, p⟩
  · exact Srt.kind_paths (by intro q'; rw [q'] at h2; exact absurd h2 (by decide)) (pathsV s'.heap kp) hq
  · -- what stands in the new list
    have hout : ∀ p ∈ out.toList, p.1 = p.2 ∧ ∃ a ∈ ys.map (·.2.1), p.1 = .ref a := by
      intro p hp'
      have := (Array.perm_iff_toList_perm.mp hp).mem_iff.mp hp'
      rw [pairsOf_toList] at this
      obtain ⟨m1, m2⟩ := mem_zip_self this
      rw [evs, List.mem_map] at m2
      obtain ⟨a, ha, e⟩ := m2
      exact ⟨m1, a, ha, e.symm⟩
    have es1 : s1 = { s with heap := s1.heap, toks := s1.toks } := by
      obtain ⟨h1, g, d', t, o'⟩ := s1
      cases g1
      cases d1
      cases o1
      rfl
    have I1 : Inv X pins σ H s1 := by
      rw [es1]
      exact I.kept k1
    have hn0 : H s1.heap.objs.size = none := I1.hok.fresh (Nat.le_refl _)
    have pathOf : ∀ a ∈ ys.map (·.2.1), ∃ zs : List Str, H a = some (.tup (zs.map V.str)) ∧ Srt.pathAt s.heap (.ref a) = zs := by
      intro a ha
      have go : ∀ {as : List Addr} {ks : List (List Str)}, PathsAt H as ks → a ∈ as → ∃ zs : List Str, H a = some (.tup (zs.map V.str)) := by
        intro as ks r
        induction r with
        | nil => intro h; cases h
        | cons h t ih =>
          intro hm
          rcases List.mem_cons.mp hm with rfl | hm
          · exact ⟨_, h⟩
          · exact ih hm
      obtain ⟨zs, e1⟩ := go pk ha
      exact ⟨zs, e1, (pathV_of I (fun _ _ e => e) e1).key⟩
    have eas : (out.map (·.2)).toList = (out.toList.map fun p => adr p.1).map Value.ref := by
      rw [Array.toList_map, List.map_map]
      apply List.map_congr_left
      intro p hp'
      obtain ⟨m1, a, _, e'⟩ := hout p hp'
      show p.2 = Value.ref (adr p.1)
      rw [← m1, e']
      rfl
    have hpk : PathsAt H (out.toList.map fun p => adr p.1) (out.toList.map fun p => Srt.pathAt s.heap p.1) := by
      have go : ∀ l : List Keyed, (∀ p ∈ l, p ∈ out.toList) → PathsAt H (l.map fun p => adr p.1) (l.map fun p => Srt.pathAt s.heap p.1) := by
        intro l
        induction l with
        | nil => exact fun _ => .nil
        | cons p l ih =>
          intro hl
          refine .cons ?_ (ih fun p' hp' => hl p' (List.mem_cons_of_mem _ hp'))
          obtain ⟨_, a, ha, e'⟩ := hout p (hl p List.mem_cons_self)
          obtain ⟨zs, e1, e2⟩ := pathOf a ha
          show H (adr p.1) = some (.tup ((Srt.pathAt s.heap p.1).map V.str))
          rw [e']
          show H a = some (.tup ((Srt.pathAt s.heap (.ref a)).map V.str))
          rw [e2]
          exact e1
      exact go _ fun _ h => h
    have hperm : (out.toList.map fun p => Srt.pathAt s.heap p.1).Perm (m.map (·.1)) := by
      have h1 := (Array.perm_iff_toList_perm.mp hp).map fun p => Srt.pathAt s.heap p.1
      refine h1.trans (.of_eq ?_)
      rw [pairsOf_toList]
      have e3 : ((es.toList.map (·.key)).zip (es.toList.map (·.key))).map (fun p => Srt.pathAt s.heap p.1) = (es.toList.map (·.key)).map (Srt.pathAt s.heap) := by
        rw [show (fun p : Value × Value => Srt.pathAt s.heap p.1) = Srt.pathAt s.heap ∘ Prod.fst from rfl, ← List.map_map, List.map_fst_zip (Nat.le_refl _)]
      rw [e3, evs]
      have go : ∀ {as : List Addr} {ks : List (List Str)}, PathsAt H as ks → (as.map Value.ref).map (Srt.pathAt s.heap) = ks := by
        intro as ks r
        induction r with
        | nil => rfl
        | cons h t ih =>
          rw [List.map_cons, List.map_cons, ih, (pathV_of I (fun _ _ e => e) h).key]
      exact go pk
    have hsz : (pairsOf (es.toList.map (·.key))).size = out.size := hp.size_eq.symm
    rw [hsz] at hs
    have hpw : (out.toList.map fun p => Srt.pathAt s.heap p.1).Pairwise (fun x y => Srt.lexB y x = false) := by
      rw [List.pairwise_map]
      exact Srt.Sg.pw hs
    have hlen : ((out.toList.map fun p => adr p.1).map V.ref).length ≤ sizeLine := by
      rw [List.length_map, List.length_map, Array.length_toList, ← hsz, pairsOf_size, vlen]
      exact z'
    refine ⟨.ref s1.heap.objs.size, _, I1.laid (t' := s1.toks) (o := .lst ((out.toList.map fun p => adr p.1).map V.ref)) k2 (Nat.le_refl _) ⟨hlen, (out.map (·.2)).toList, n, ?_, by rw [Array.toArray_toList]; exact e2⟩, rfl, q _ _ _ hperm hpw hpk hn0⟩
    rw [eas]
    exact vals_refs _
end
end L2

set_option Elab.async false
set_option linter.all false
set_option maxRecDepth 100000
set_option maxHeartbeats 1000000
/-! ### the text by places -/
namespace K20
open PySem L2
def top (i : Nat) : Stmt := PySem.Challenge.pw_overfold_k20_layers_written.main.body.getD i (.Pass ⟨0, 0, 0, 0⟩)
abbrev sPathText : Stmt := top 1
abbrev sLayerText : Stmt := top 3
abbrev sEntryText : Stmt := top 4
abbrev sPairText : Stmt := top 5
abbrev sBox : Stmt := top 7
abbrev sTake : Stmt := top 8
abbrev sWord : Stmt := top 9
abbrev sText : Stmt := top 10
abbrev sAnyPath : Stmt := top 11
abbrev sNewFile : Stmt := top 12
abbrev sGrow : Stmt := top 13
abbrev sDeep : Stmt := top 14
abbrev sLayer : Stmt := top 15
abbrev sLPathText : Stmt := top 16
abbrev sEntryRow : Stmt := top 17
abbrev sPairRow : Stmt := top 18
abbrev sRows : Stmt := top 19
abbrev sLaw : Stmt := top 20
/-! ### what may change, what stays -/
def Kp (S : List Addr) (H H' : Hp) : Prop := ∀ a o, H a = some o → a ∉ S → H' a = some o
section
variable {S T : List Addr} {H H1 H2 : Hp}
theorem Kp.refl (S : List Addr) (H : Hp) : Kp S H H := fun _ _ h _ => h
theorem Kp.trans (h : Kp S H H1) (h' : Kp S H1 H2) : Kp S H H2 := fun a o e n => h' a o (h a o e n) n
theorem Kp.mono (h : Kp S H H1) (hs : ∀ a ∈ S, a ∈ T) : Kp T H H1 := fun a o e n => h a o e fun q => n (hs a q)
theorem Kp.of (h : Same H H1) : Kp S H H1 := fun a o e _ => h a o e
theorem Kp.same (h : Kp [] H H1) : Same H H1 := fun a o e => h a o e (fun q => nomatch q)
theorem Kp.new {a : Addr} {o : HO} (h : Kp S H H1) (e : H1 a = none) : Kp S H (upd H1 a o) := fun b u q n => by
  rw [upd_ne (ne_of_none (h b u q n) e)]
  exact h b u q n
theorem Kp.set {a : Addr} {o : HO} (h : Kp S H H1) (e : a ∈ S) : Kp S H (upd H1 a o) := fun b u q n => by
  rw [upd_ne (fun z => n (by rw [z]; exact e))]
  exact h b u q n
theorem Kp.free (h : Kp S H H1) {l : Addr} (n : l ∉ S) (e : H1 l = none) : H l = none := by
  cases q : H l with
  | none => rfl
  | some o => rw [h l o q n] at e; cases e
theorem Kp.seq {K : PySem.W.Frag} {a : Addr} {xs : List V} (h : Kp S H H1) (n : a ∉ S) (q : SqL K H a xs) : SqL K H1 a xs := by
  rcases q with (q | ⟨o, q⟩) | q
  · exact .inl (.inl (h a _ q n))
  · exact .inl (.inr ⟨o, h a _ q n⟩)
  · exact .inr q
/-- the tuples stay -/
def Tk (H H' : Hp) : Prop := ∀ a xs, H a = some (.tup xs) → H' a = some (.tup xs)
theorem Tk.refl (H : Hp) : Tk H H := fun _ _ h => h
theorem Tk.trans (h : Tk H H1) (h' : Tk H1 H2) : Tk H H2 := fun a xs e => h' a xs (h a xs e)
theorem Tk.of (h : Same H H1) : Tk H H1 := fun a xs e => h a _ e
theorem Kp.tk (h : Kp S H H1) (hs : ∀ a ∈ S, ∀ xs, H a ≠ some (.tup xs)) : Tk H H1 := fun a xs e => h a _ e fun q => hs a q xs e
end
/-! ### the box that draws -/
structure Bx where
  d : Int
  x : Int
  c : Int
def boxV (b : Bx) : List V := [.int b.d, .int b.x, .int b.c]
structure Good (b : Bx) (n : Nat) : Prop where
  d0 : 0 ≤ b.d
  x0 : 0 ≤ b.x
  x1 : b.x < 2147483648
  c0 : 0 ≤ b.c
  c1 : b.c ≤ n
theorem Good.mono {b : Bx} {n m : Nat} (h : Good b n) (q : n ≤ m) : Good b m := ⟨h.d0, h.x0, h.x1, h.c0, by have := h.c1; omega⟩
def boxF (ns : List Int) (k : Nat) : Bx :=
  ⟨if 10 ^ 18 ≤ (if (ns[k]?).getD 0 < 0 then -(ns[k]?).getD 0 else (ns[k]?).getD 0) then (if (ns[k]?).getD 0 < 0 then -(ns[k]?).getD 0 else (ns[k]?).getD 0) else 0, ((ns[k]?).getD 0 % 2147483647 + 7919 * k + 11) * 48271 % 2147483629, 0⟩
theorem boxF_good (ns : List Int) (k : Nat) : Good (boxF ns k) 0 := by
  refine ⟨?_, Int.emod_nonneg _ (by decide), ?_, Int.le_refl _, Int.le_refl _⟩
  · have h0 : (0 : Int) ≤ 10 ^ 18 := by decide
    show 0 ≤ (if 10 ^ 18 ≤ (if (ns[k]?).getD 0 < 0 then -(ns[k]?).getD 0 else (ns[k]?).getD 0) then (if (ns[k]?).getD 0 < 0 then -(ns[k]?).getD 0 else (ns[k]?).getD 0) else 0)
    generalize (if (ns[k]?).getD 0 < 0 then -(ns[k]?).getD 0 else (ns[k]?).getD 0) = z
    split
    · omega
    · exact Int.le_refl _
  · have := Int.emod_lt_of_pos (((ns[k]?).getD 0 % 2147483647 + 7919 * k + 11) * 48271) (show (0 : Int) < 2147483629 by decide)
    show (((ns[k]?).getD 0 % 2147483647 + 7919 * k + 11) * 48271 % 2147483629) < _
    omega
theorem box_is {ns : List Int} {k : Nat} {c : Int} (hc : (ns[k]?).getD 0 = c) : boxF ns k = ⟨if 10 ^ 18 ≤ (if c < 0 then -c else c) then (if c < 0 then -c else c) else 0, (c % 2147483647 + 7919 * k + 11) * 48271 % 2147483629, 0⟩ := by
  unfold boxF
  rw [hc]
def takeO (b : Bx) : Int := (b.x + 39373 * (b.c + 1)) * (48271 + (b.c + 1)) % 2147483647
def takeN (b : Bx) : Int := (takeO b * (takeO b % 40009 + 7) + (b.c + 1)) % 2147483629
def takeF (b : Bx) (m : Int) : Int × Bx :=
  if 0 < b.d then (b.d % m, ⟨b.d / m, b.x, b.c⟩) else (takeN b * (takeN b % 1009 + 3) % 998244353 / 7 % m, ⟨b.d, takeN b, b.c + 1⟩)
theorem takeF_lo (b : Bx) {m : Int} (h : 0 < m) : 0 ≤ (takeF b m).1 := by
  unfold takeF
  split
  · exact Int.emod_nonneg _ (by omega)
  · exact Int.emod_nonneg _ (by omega)
theorem takeF_hi (b : Bx) {m : Int} (h : 0 < m) : (takeF b m).1 < m := by
  unfold takeF
  split
  · exact Int.emod_lt_of_pos _ h
  · exact Int.emod_lt_of_pos _ h
theorem takeF_good {b : Bx} {n : Nat} (g : Good b n) {m : Int} (h : 0 < m) : Good (takeF b m).2 (n + 1) := by
  have := g.c1
  have := g.c0
  unfold takeF
  split
  · exact ⟨Int.ediv_nonneg g.d0 (by omega), g.x0, g.x1, g.c0, by show b.c ≤ _; omega⟩
  · refine ⟨g.d0, Int.emod_nonneg _ (by decide), ?_, by show 0 ≤ b.c + 1; omega, by show b.c + 1 ≤ _; omega⟩
    have := Int.emod_lt_of_pos (takeO b * (takeO b % 40009 + 7) + (b.c + 1)) (show (0 : Int) < 2147483629 by decide)
    show takeN b < _
    unfold takeN
    omega
def spBox (K : PySem.W.Frag) : Sp := fun vs H Q _ => ∃ (a : Addr) (ns : List Int) (k : Nat), vs = [.ref a, .int k] ∧ SqL K H a (ns.map V.int) ∧ k ≤ 100 ∧ ns.length ≤ 63 ∧
  ∀ (t : Addr) (H' : Hp), H t = none → H' t = some (.lst (boxV (boxF ns k))) → Same H H' → Q (.ref t) H'
def spTake : Sp := fun vs H Q _ => ∃ (b : Addr) (st : Bx) (n : Nat) (m : Int), vs = [.ref b, .int m] ∧ 0 < m ∧ m < 1073741824 ∧ H b = some (.lst (boxV st)) ∧ Good st n ∧ n ≤ 1000000 ∧
  ∀ H', H' b = some (.lst (boxV (takeF st m).2)) → Kp [b] H H' → Q (.int (takeF st m).1) H'
section
variable {P : Program} {w : World} {K : PySem.W.Frag} {mg : Str → Option Value} {base : Heap}
theorem scBox : FnScope ["_law_script", "_law_k", "_law_cell", "_law_digits"] ["_law_script", "_law_k"] (defScope sBox) := ⟨rfl, rfl, rfl, by decide +kernel, rfl, by decide +kernel, by decide +kernel⟩
theorem ok_box {f : Addr} {fd : FuncData} (F : Fun K "_law_box" "_law_box" sBox f fd) (mLen : mg "len" = none) (mAbs : mg "abs" = none) : FnOk P w K mg base CX0 1 f fd ["_law_script", "_law_k"] (spBox K) := by
  refine F.ok scBox (fun vs H Q E h => ?_) (fun cdv A outer s H vs Q E hr h => ?_)
  · obtain ⟨a, ns, k, rfl, _⟩ := h
    rfl
  · obtain ⟨a, ns, k, rfl, hS, hk, hlen, kk⟩ := h
    have nd := scBox.nd
    refine ⟨_, pss_cons (ps_set (i := 2) nd rfl (Or.inl rfl) pe_int)
      (pss_cons (ps_if (pt_cmpR op_lt (pv 1) (pe_callB call_len_seq (by rfl) mLen PySem.boot_len (pa_cons (pv 0) pa_nil)) (nomark _)) (pss_one (ps_set (i := 2) nd rfl (Or.inl rfl) (pe_ix ix_list (pv 0) (pv 1) (fun _ _ => rfl)))) pss_nil)
      (pss_cons (ps_set (i := 3) nd rfl (Or.inl rfl) pe_int)
      (pss_cons (ps_if (pt_cmpR op_ge (pe_callB call_abs (by rfl) mAbs PyProof.Rows.boot_abs (pa_cons (pv 2) pa_nil)) (pe_op op_pow pe_int pe_int) (nomark _)) (pss_one (ps_set (i := 3) nd rfl (Or.inl rfl) (pe_callB call_abs (by rfl) mAbs PyProof.Rows.boot_abs (pa_cons (pv 2) pa_nil)))) pss_nil)
      (pss_one (ps_ret (pe_lst (pa_cons (pv 3) (pa_cons (pe_op op_mod (pe_op op_mul (pe_op op_add (pe_op op_add (pe_op op_mod (pv 2) pe_int) (pe_op op_mul pe_int (pv 1))) pe_int) pe_int) pe_int) (pa_cons pe_int pa_nil)))))))))  , ?_⟩
    refine ⟨_, rfl, _, rfl, a, _, rfl, .inl hS, _, _, rfl, rfl, _, rfl, ?_⟩
    refine ite2 (fun h1 => ?_) (fun h1 => ?_)
    · have h1' : (k : Int) < ((ns.map V.int).length : Nat) := of_decide_eq_true h1
      rw [List.length_map] at h1'
      have hlt : k < ns.length := by omega
      have hat : atI (ns.map V.int) (k : Int) = some (V.int ns[k]) := by
        unfold atI ixN
        rw [if_pos (by omega), if_pos (by rw [List.length_map]; omega)]
        show (ns.map V.int)[((k : Int)).toNat]? = _
        rw [Int.toNat_natCast, List.getElem?_map, List.getElem?_eq_getElem hlt]
        rfl
      have hc : (ns[k]?).getD 0 = ns[k] := by rw [List.getElem?_eq_getElem hlt]; rfl
      refine ⟨_, rfl, _, rfl, a, _, _, _, rfl, rfl, hS, hat, ?_⟩
      refine ⟨_, rfl, ns[k], rfl, _, _, rfl, rfl, ⟨by decide, by decide, by decide⟩, _, _, rfl, rfl, _, rfl, ?_⟩
      refine ite2 (fun h2 => ?_) (fun h2 => ?_)
      · refine ⟨_, rfl, ns[k], rfl, ?_⟩
        refine ⟨_, rfl, _, rfl, _, _, rfl, rfl, (show (0 : Int) < 2147483647 by decide), _, rfl, _, _, rfl, rfl, .inl ⟨by decide, by decide⟩, _, _, rfl, rfl, _, _, rfl, rfl, _, _, rfl, rfl, .inr ⟨by decide, by decide⟩, _, _, rfl, rfl, (show (0 : Int) < 2147483629 by decide), by show 3 ≤ sizeLine; decide, fun t ht => ?_⟩
        refine kk t _ ht ?_ ((Same.refl H).upd ht)
        rw [upd_same, box_is hc, if_pos (show (10 : Int) ^ 18 ≤ _ from of_decide_eq_true h2)]
        rfl
      · refine ⟨_, rfl, _, rfl, _, _, rfl, rfl, (show (0 : Int) < 2147483647 by decide), _, rfl, _, _, rfl, rfl, .inl ⟨by decide, by decide⟩, _, _, rfl, rfl, _, _, rfl, rfl, _, _, rfl, rfl, .inr ⟨by decide, by decide⟩, _, _, rfl, rfl, (show (0 : Int) < 2147483629 by decide), by show 3 ≤ sizeLine; decide, fun t ht => ?_⟩
        refine kk t _ ht ?_ ((Same.refl H).upd ht)
        rw [upd_same, box_is hc, if_neg (show ¬ (10 : Int) ^ 18 ≤ _ from fun q => h2 (decide_eq_true q))]
        rfl
    · have h1' : ¬ (k : Int) < ((ns.map V.int).length : Nat) := fun q => h1 (decide_eq_true q)
      rw [List.length_map] at h1'
      have hc : (ns[k]?).getD 0 = 0 := by rw [List.getElem?_eq_none (by omega)]; rfl
      refine ⟨_, rfl, 0, rfl, _, _, rfl, rfl, ⟨by decide, by decide, by decide⟩, _, _, rfl, rfl, _, rfl, ?_⟩
      refine ite2 (fun h2 => ?_) (fun h2 => ?_)
      · refine ⟨_, rfl, 0, rfl, ?_⟩
        refine ⟨_, rfl, _, rfl, _, _, rfl, rfl, (show (0 : Int) < 2147483647 by decide), _, rfl, _, _, rfl, rfl, .inl ⟨by decide, by decide⟩, _, _, rfl, rfl, _, _, rfl, rfl, _, _, rfl, rfl, .inr ⟨by decide, by decide⟩, _, _, rfl, rfl, (show (0 : Int) < 2147483629 by decide), by show 3 ≤ sizeLine; decide, fun t ht => ?_⟩
        refine kk t _ ht ?_ ((Same.refl H).upd ht)
        rw [upd_same, box_is hc, if_pos (show (10 : Int) ^ 18 ≤ _ from of_decide_eq_true h2)]
        rfl
      · refine ⟨_, rfl, _, rfl, _, _, rfl, rfl, (show (0 : Int) < 2147483647 by decide), _, rfl, _, _, rfl, rfl, .inl ⟨by decide, by decide⟩, _, _, rfl, rfl, _, _, rfl, rfl, _, _, rfl, rfl, .inr ⟨by decide, by decide⟩, _, _, rfl, rfl, (show (0 : Int) < 2147483629 by decide), by show 3 ≤ sizeLine; decide, fun t ht => ?_⟩
        refine kk t _ ht ?_ ((Same.refl H).upd ht)
        rw [upd_same, box_is hc, if_neg (show ¬ (10 : Int) ^ 18 ≤ _ from fun q => h2 (decide_eq_true q))]
        rfl
theorem scTake : FnScope ["_law_box_here", "_law_many", "_law_found", "_law_once"] ["_law_box_here", "_law_many"] (defScope sTake) := ⟨rfl, rfl, rfl, by decide +kernel, rfl, by decide +kernel, by decide +kernel⟩
theorem ok_take {f : Addr} {fd : FuncData} (F : Fun K "_law_take" "_law_take" sTake f fd) : FnOk P w K mg base CX0 1 f fd ["_law_box_here", "_law_many"] spTake := by
  refine F.ok scTake (fun vs H Q E h => ?_) (fun cdv A outer s H vs Q E hr h => ?_)
  · obtain ⟨b, st, n, m, rfl, _⟩ := h
    rfl
  · obtain ⟨b, st, n, m, rfl, hm0, hm1, hb, g, hn, kk⟩ := h
    have nd := scTake.nd
    refine ⟨_, pss_cons (ps_if (pt_cmpR op_gt (pe_ix ix_list (pv 0) pe_int (fun _ _ => rfl)) pe_int (nomark _))
        (pss_cons (ps_set (i := 2) nd rfl (Or.inl rfl) (pe_op op_mod (pe_ix ix_list (pv 0) pe_int (fun _ _ => rfl)) (pv 1)))
        (pss_cons (ps_asg (pe_op op_fdiv (pe_ix ix_list (pv 0) pe_int (fun _ _ => rfl)) (pv 1)) (pg_sub (pv 0) pe_int set_list))
        (pss_one (ps_ret (pv 2))))) pss_nil)
      (pss_cons (ps_asg (pe_op op_add (pe_ix ix_list (pv 0) pe_int (fun _ _ => rfl)) pe_int) (pg_sub (pv 0) pe_int set_list))
      (pss_cons (ps_set (i := 3) nd rfl (Or.inl rfl) (pe_op op_mod (pe_op op_mul (pe_op op_add (pe_ix ix_list (pv 0) pe_int (fun _ _ => rfl)) (pe_op op_mul pe_int (pe_ix ix_list (pv 0) pe_int (fun _ _ => rfl)))) (pe_op op_add pe_int (pe_ix ix_list (pv 0) pe_int (fun _ _ => rfl)))) pe_int))
      (pss_cons (ps_asg (pe_op op_mod (pe_op op_add (pe_op op_mul (pv 3) (pe_op op_add (pe_op op_mod (pv 3) pe_int) pe_int)) (pe_ix ix_list (pv 0) pe_int (fun _ _ => rfl))) pe_int) (pg_sub (pv 0) pe_int set_list))
      (pss_one (ps_ret (pe_op op_mod (pe_op op_fdiv (pe_op op_mod (pe_op op_mul (pe_ix ix_list (pv 0) pe_int (fun _ _ => rfl)) (pe_op op_add (pe_op op_mod (pe_ix ix_list (pv 0) pe_int (fun _ _ => rfl)) pe_int) pe_int)) pe_int) pe_int) (pv 1))))))), ?_⟩
    have hmn : m ≠ 0 := by omega
    refine ⟨_, rfl, b, _, _, _, rfl, rfl, SqL.of hb, rfl, _, _, rfl, rfl, _, rfl, ?_⟩
    refine ite2 (fun h1 => ?_) (fun h1 => ?_)
    · have h1' : 0 < st.d := of_decide_eq_true h1
      have et : takeF st m = (st.d % m, ⟨st.d / m, st.x, st.c⟩) := by
        unfold takeF
        rw [if_pos h1']
      rw [et] at kk
      refine ⟨_, rfl, b, _, _, _, rfl, rfl, SqL.of hb, rfl, _, rfl, _, _, rfl, rfl, hm0, ?_⟩
      refine ⟨_, rfl, b, _, _, _, rfl, rfl, SqL.of hb, rfl, _, rfl, _, _, rfl, rfl, ⟨hm0, hm1⟩, _, rfl, b, _, _, _, rfl, rfl, hb, rfl, ?_⟩
      refine ⟨_, rfl, ?_⟩
      exact kk _ upd_same ((Kp.refl _ H).set (List.mem_singleton.mpr rfl))
    · have h1' : ¬ 0 < st.d := fun q => h1 (decide_eq_true q)
      have et : takeF st m = (takeN st * (takeN st % 1009 + 3) % 998244353 / 7 % m, ⟨st.d, takeN st, st.c + 1⟩) := by
        unfold takeF
        rw [if_neg h1']
      rw [et] at kk
      have hc0 := g.c0
      have hc1 := g.c1
      have mo : ∀ z : Int, -(2 ^ 64) < z % 2147483647 ∧ z % 2147483647 < 2 ^ 64 := fun z => mod_bound z (by decide) (by decide)
      refine ⟨_, rfl, b, _, _, _, rfl, rfl, SqL.of hb, rfl, _, _, rfl, rfl, _, rfl, b, _, _, _, rfl, rfl, hb, rfl, ?_⟩
      have hb1 : (upd H b (.lst [.int st.d, .int st.x, .int (st.c + 1)])) b = some (.lst [.int st.d, .int st.x, .int (st.c + 1)]) := upd_same
      refine ⟨_, rfl, b, _, _, _, rfl, rfl, SqL.of hb1, rfl, _, rfl, b, _, _, _, rfl, rfl, SqL.of hb1, rfl, _, _, rfl, rfl, .inl ⟨by decide, by decide⟩, _, _, rfl, rfl, _, rfl, b, _, _, _, rfl, rfl, SqL.of hb1, rfl, _, _, rfl, rfl, _, _, rfl, rfl, .inr ⟨by show -(2 ^ 64) < 48271 + (st.c + 1); omega, by show 48271 + (st.c + 1) < 2 ^ 64; omega⟩, _, _, rfl, rfl, (show (0 : Int) < 2147483647 by decide), ?_⟩
      refine ⟨_, rfl, _, rfl, _, _, rfl, rfl, (show (0 : Int) < 40009 by decide), _, _, rfl, rfl, _, _, rfl, rfl, .inl (mo _), _, rfl, b, _, _, _, rfl, rfl, SqL.of hb1, rfl, _, _, rfl, rfl, _, _, rfl, rfl, (show (0 : Int) < 2147483629 by decide), _, rfl, b, _, _, _, rfl, rfl, hb1, rfl, ?_⟩
      rw [upd_upd]
      have hb2 : (upd H b (.lst [.int st.d, .int (takeN st), .int (st.c + 1)])) b = some (.lst [.int st.d, .int (takeN st), .int (st.c + 1)]) := upd_same
      have bo : ∀ z : Int, -(2 ^ 64) < z % 2147483629 ∧ z % 2147483629 < 2 ^ 64 := fun z => mod_bound z (by decide) (by decide)
      refine ⟨_, rfl, b, _, _, _, rfl, rfl, SqL.of hb2, rfl, _, rfl, b, _, _, _, rfl, rfl, SqL.of hb2, rfl, _, _, rfl, rfl, (show (0 : Int) < 1009 by decide), _, _, rfl, rfl, _, _, rfl, rfl, .inl (bo _), _, _, rfl, rfl, (show (0 : Int) < 998244353 by decide), _, _, rfl, rfl, ⟨by decide, by decide⟩, _, rfl, _, _, rfl, rfl, hm0, ?_⟩
      exact kk _ upd_same ((Kp.refl _ H).set (List.mem_singleton.mpr rfl))
end
/-! ### words, texts, paths -/
theorem glue_fold (sep : Str) (hs : sep.cps = #[]) : ∀ (rest : List Str) (acc : Array Nat), (rest.foldl (fun acc p => acc ++ sep.cps ++ p.cps) acc).toList = acc.toList ++ (rest.map fun t => t.cps.toList).flatten
  | [], acc => by simp
  | p :: r, acc => by
    rw [List.foldl_cons, glue_fold sep hs r, hs]
    simp
theorem join_flat (ts : List Str) : (Txt.join ("" : Str) ts).cps.toList = (ts.map fun t => t.cps.toList).flatten := by
  have e0 : ("" : Str).cps = #[] := by decide +kernel
  cases ts with
  | nil => first | rfl | decide +kernel
  | cons p r =>
    show (Builtin.Str.glued ("" : Str) (p :: r)).cps.toList = _
    have := glue_fold ("" : Str) e0 r p.cps
    rw [List.map_cons, List.flatten_cons, ← this]
    first | rfl | simp [Builtin.Str.glued]
def someW : List Str := ["a", "aa", "ab", "b", "ba", "box", "c", "folder", "m", "mm", "quartzes", "z", "zebra", "n"]
def LTS : Str := "abcdefghijklmnopqrstuvwxyz"
def SGN : Str := " !\"#$&'()*+,-./0123456789:;<=>?@ABCDEFGHIJKLMNOPQRSTUVWXYZ[\\]^_`abcdefghijklmnopqrstuvwxyz{|}~"
theorem LTS_size : LTS.cps.size = 26 := by decide +kernel
theorem SGN_size : SGN.cps.size = 94 := by decide +kernel
theorem emp_size : ("" : Str).cps.size = 0 := by decide +kernel
def sgn (z : Str) (i : Int) : Str := ⟨#[z.cps.toList.getD i.toNat 0]⟩
theorem at_sgn {z : Str} {i : Int} (h0 : 0 ≤ i) (h1 : i < (z.cps.size : Int)) : ∃ c, atI z.cps.toList i = some c ∧ sgn z i = ⟨#[c]⟩ := by
  have hl : i.toNat < z.cps.toList.length := by rw [Array.length_toList]; omega
  refine ⟨z.cps.toList[i.toNat], ?_, ?_⟩
  · unfold atI ixN
    rw [if_pos h0, if_pos (by rw [Array.length_toList]; exact h1)]
    show z.cps.toList[i.toNat]? = _
    rw [List.getElem?_eq_getElem hl]
  · unfold sgn
    rw [List.getD_eq_getElem?_getD, List.getElem?_eq_getElem hl]
    rfl
theorem at_list {α : Type} (f : α → V) {xs : List α} {i : Int} (d : α) (h0 : 0 ≤ i) (h1 : i < (xs.length : Int)) : atI (xs.map f) i = some (f (xs.getD i.toNat d)) := by
  have hl : i.toNat < xs.length := by omega
  unfold atI ixN
  rw [if_pos h0, if_pos (by rw [List.length_map]; exact h1)]
  show (xs.map f)[i.toNat]? = _
  rw [List.getElem?_map, List.getD_eq_getElem?_getD, List.getElem?_eq_getElem hl]
  rfl
def lettersF (b : Bx) : Nat → List Str × Bx
  | 0 => ([], b)
  | n + 1 => ((lettersF b n).1 ++ [sgn LTS (takeF (lettersF b n).2 26).1], (takeF (lettersF b n).2 26).2)
theorem lettersF_good {b : Bx} {m : Nat} (g : Good b m) : ∀ n, Good (lettersF b n).2 (m + n)
  | 0 => g
  | n + 1 => takeF_good (lettersF_good g n) (by decide)
theorem lettersF_len (b : Bx) : ∀ n, (lettersF b n).1.length = n
  | 0 => rfl
  | n + 1 => by
    show ((lettersF b n).1 ++ [_]).length = _
    rw [List.length_append, lettersF_len b n]
    rfl
theorem ones_sum : ∀ {l : List Str}, (∀ z ∈ l, z.length = 1) → (l.map (·.length)).sum = l.length
  | [], _ => rfl
  | z :: l, h => by
    rw [List.map_cons, List.sum_cons, h z List.mem_cons_self, ones_sum fun y hy => h y (List.mem_cons_of_mem _ hy), List.length_cons]
    omega
theorem lettersF_one (b : Bx) : ∀ n, ∀ z ∈ (lettersF b n).1, z.length = 1
  | 0 => fun _ h => nomatch h
  | n + 1 => fun z h => by
    rcases List.mem_append.mp h with q | q
    · exact lettersF_one b n z q
    · rw [List.mem_singleton.mp q]
      rfl
def wordF (b : Bx) : Str × Bx :=
  if (takeF b 4).1 = 0 then
    (Txt.join "" (lettersF (takeF (takeF b 4).2 8).2 (1 + (takeF (takeF b 4).2 8).1).toNat).1, (lettersF (takeF (takeF b 4).2 8).2 (1 + (takeF (takeF b 4).2 8).1).toNat).2)
  else (someW.getD (takeF (takeF b 4).2 14).1.toNat "", (takeF (takeF b 4).2 14).2)
theorem wordF_good {b : Bx} {n : Nat} (g : Good b n) : Good (wordF b).2 (n + 10) := by
  have h1 := takeF_good g (m := 4) (by decide)
  unfold wordF
  split
  · have h2 := takeF_good h1 (m := 8) (by decide)
    have l2 := takeF_lo (takeF b 4).2 (m := 8) (by decide)
    have u2 := takeF_hi (takeF b 4).2 (m := 8) (by decide)
    exact (lettersF_good h2 _).mono (by omega)
  · exact (takeF_good h1 (by decide)).mono (by omega)
theorem join_len (l : List Str) : (Txt.join "" l).length = (l.map (·.length)).sum := by
  have h := join_flat l
  have e : (Txt.join "" l).length = (Txt.join "" l).cps.toList.length := by rw [Array.length_toList]; rfl
  rw [e, h, List.length_flatten, List.map_map]
  rfl
theorem wordF_len (b : Bx) : (wordF b).1.length ≤ 8 := by
  unfold wordF
  split
  · have l2 := takeF_lo (takeF b 4).2 (m := 8) (by decide)
    have u2 := takeF_hi (takeF b 4).2 (m := 8) (by decide)
    show (Txt.join "" _).length ≤ 8
    rw [join_len, ones_sum (lettersF_one _ _), lettersF_len]
    omega
  · have hi := takeF_hi (takeF b 4).2 (m := 14) (by decide)
    have h : ∀ i, (someW.getD i "").length ≤ 8 := by
      intro i
      rw [List.getD_eq_getElem?_getD]
      cases q : someW[i]? with
      | none => decide
      | some z =>
        have hm : z ∈ someW := List.mem_of_getElem? q
        have ha : ∀ z ∈ someW, z.length ≤ 8 := by decide +kernel
        exact ha z hm
    exact h _
def spWord : Sp := fun vs H Q _ => ∃ (b : Addr) (st : Bx) (n : Nat), vs = [.ref b] ∧ H b = some (.lst (boxV st)) ∧ Good st n ∧ n + 20 ≤ 1000000 ∧
  ∀ H', H' b = some (.lst (boxV (wordF st).2)) → Kp [b] H H' → Q (.str (wordF st).1) H'
section
variable {P : Program} {w : World} {K : PySem.W.Frag} {mg : Str → Option Value} {base : Heap}
abbrev DTake (P : Program) (w : World) (K : PySem.W.Frag) (mg : Str → Option Value) (base : Heap) : Prop := Def P w K mg base 1 "_law_take" ["_law_box_here", "_law_many"] spTake
theorem scWord : FnScope ["_law_box_here", "_law_some", "_law_letters"] ["_law_box_here"] (defScope sWord) := ⟨rfl, rfl, rfl, by decide +kernel, rfl, by decide +kernel, by decide +kernel⟩
theorem ok_word {f : Addr} {fd : FuncData} (F : Fun K "_law_word" "_law_word" sWord f fd) (mRange : mg "range" = none) (DT : DTake P w K mg base) : FnOk P w K mg base CX0 2 f fd ["_law_box_here"] spWord := by
  refine F.ok scWord (fun vs H Q E h => ?_) (fun cdv A outer s H vs Q E hr h => ?_)
  · obtain ⟨b, st, n, rfl, _⟩ := h
    rfl
  · obtain ⟨b, st, n, rfl, hb, g, hn, kk⟩ := h
    have nd := scWord.nd
    refine ⟨_, pss_cons (ps_set (i := 1) nd rfl (Or.inl rfl) (pe_lst (pa_cons pe_str (pa_cons pe_str (pa_cons pe_str (pa_cons pe_str (pa_cons pe_str (pa_cons pe_str (pa_cons pe_str (pa_cons pe_str (pa_cons pe_str (pa_cons pe_str (pa_cons pe_str (pa_cons pe_str (pa_cons pe_str (pa_cons pe_str pa_nil))))))))))))))))
      (pss_cons (ps_if (pt_cmpR op_eq (pe_def DT hr (pa_cons (pv 0) (pa_cons pe_int pa_nil))) pe_int (nomark _))
        (pss_cons (ps_set (i := 2) nd rfl (Or.inr rfl) pe_str)
        (pss_one (ps_ret (pe_bm PySem.F.plainAttrs_str PySem.F.slot_str_join PySem.F.type_str_join mt_join pe_str (pa_cons (pe_comp (x := "_law_k") scWord ⟨rfl, by decide +kernel, by decide +kernel, by decide +kernel, by decide +kernel, by decide +kernel⟩ (by decide +kernel)
          (pi_range1 rfl mRange (pa_cons (pe_op op_add pe_int (pe_def DT hr (pa_cons (pv 0) (pa_cons pe_int pa_nil)))) pa_nil))
          (fun C fp s H => pe_ix ix_str (pv 2) (pe_def DT hr (pa_cons (pv 0) (pa_cons pe_int pa_nil))) (fun _ _ => rfl))) pa_nil))))) pss_nil)
      (pss_one (ps_ret (pe_ix ix_list (pv 1) (pe_def DT hr (pa_cons (pv 0) (pa_cons pe_int pa_nil))) (fun _ _ => rfl))))), ?_⟩
    refine ⟨by show 14 ≤ sizeLine; decide, fun l hl => ?_⟩
    have nlb : b ≠ l := ne_of_none hb hl
    have hb1 : (upd H l (.lst (someW.map V.str))) b = some (.lst (boxV st)) := by rw [upd_ne nlb]; exact hb
    have hl1 : (upd H l (.lst (someW.map V.str))) l = some (.lst (someW.map V.str)) := upd_same
    have k1 : Kp [b] H (upd H l (.lst (someW.map V.str))) := (Kp.refl _ H).new hl
    refine ⟨_, rfl, b, st, n, 4, rfl, by decide, by decide, hb1, g, by omega, fun H2 hb2 k2 => ?_⟩
    have g2 := takeF_good g (m := 4) (by decide)
    refine ⟨rfl, _, rfl, ?_⟩
    refine ite2 (fun h1 => ?_) (fun h1 => ?_)
    · have h1' : (takeF st 4).1 = 0 := by
        have := of_decide_eq_true h1
        injection this
      have ew : wordF st = (Txt.join "" (lettersF (takeF (takeF st 4).2 8).2 (1 + (takeF (takeF st 4).2 8).1).toNat).1, (lettersF (takeF (takeF st 4).2 8).2 (1 + (takeF (takeF st 4).2 8).1).toNat).2) := by
        unfold wordF
        rw [if_pos h1']
      rw [ew] at kk
      have l8 := takeF_lo (takeF st 4).2 (m := 8) (by decide)
      have u8 := takeF_hi (takeF st 4).2 (m := 8) (by decide)
      refine ⟨rfl, _, rfl, b, _, n + 1, 8, rfl, by decide, by decide, hb2, g2, by omega, fun H3 hb3 k3 => ⟨_, _, rfl, rfl, _, rfl, by omega, by omega, ?_⟩⟩
      have g3 := takeF_good g2 (m := 8) (by decide)
      generalize ej : (1 + (takeF (takeF st 4).2 8).1).toNat = j at kk ⊢
      refine comp_range (n := j) (fun i ys H' => ys = (lettersF (takeF (takeF st 4).2 8).2 i).1.map V.str ∧ H' b = some (.lst (boxV (lettersF (takeF (takeF st 4).2 8).2 i).2)) ∧ Kp [b] H H') (by rw [sizeLine_eq]; omega)
        ⟨rfl, hb3, k1.trans (k2.trans k3)⟩ (fun i ys H' ⟨e, _⟩ => by rw [e, List.length_map, lettersF_len]) ?_ ?_
      · rintro i ys H' hi ⟨e1, hb', k'⟩
        have gi := lettersF_good g3 i
        have hlo := takeF_lo (lettersF (takeF (takeF st 4).2 8).2 i).2 (m := 26) (by decide)
        have hhi := takeF_hi (lettersF (takeF (takeF st 4).2 8).2 i).2 (m := 26) (by decide)
        refine ⟨_, rfl, _, rfl, b, _, n + 1 + 1 + i, 26, rfl, by decide, by decide, hb', gi, by omega, fun H4 hb4 k4 => ?_⟩
        obtain ⟨c, hc1, hc2⟩ := at_sgn (z := LTS) hlo (by rw [LTS_size]; exact hhi)
        refine ⟨LTS, _, c, rfl, rfl, by show LTS.cps.size ≤ sizeLine; decide +kernel, hc1, ?_, hb4, k'.trans k4⟩
        rw [e1, ← hc2, ← List.map_singleton, ← List.map_append]
        rfl
      · rintro ys H' ⟨e1, hb', k'⟩ L hL
        have nLb : b ≠ L := ne_of_none hb' hL
        refine ⟨_, L, _, rfl, rfl, SqL.of (by rw [upd_same, e1]), ?_, ?_⟩
        · rw [ones_sum (lettersF_one _ _), lettersF_len]
          show j + j * ("" : Str).cps.size ≤ _
          rw [emp_size]
          omega
        · exact kk _ (by rw [upd_ne nLb]; exact hb') (k'.new hL)
    · have h1' : ¬ (takeF st 4).1 = 0 := fun q => h1 (decide_eq_true (by rw [q]))
      have ew : wordF st = (someW.getD (takeF (takeF st 4).2 14).1.toNat "", (takeF (takeF st 4).2 14).2) := by
        unfold wordF
        rw [if_neg h1']
      rw [ew] at kk
      refine ⟨_, rfl, _, rfl, b, _, n + 1, 14, rfl, by decide, by decide, hb2, g2, by omega, fun H3 hb3 k3 => ?_⟩
      have hl3 : H3 l = some (.lst (someW.map V.str)) := k3 l _ (k2 l _ hl1 (by simpa using nlb.symm)) (by simpa using nlb.symm)
      refine ⟨l, _, _, _, rfl, rfl, SqL.of hl3, at_list V.str "" (takeF_lo _ (by decide)) (takeF_hi _ (m := 14) (by decide)), ?_⟩
      exact kk H3 hb3 (k1.trans (k2.trans k3))
end
def textB (b : Bx) : Int × Bx :=
  if (takeF (takeF b 8).2 8).1 = 0 then ([(takeF (takeF (takeF b 8).2 8).2 201).1, 200, 199].getD (takeF (takeF (takeF (takeF b 8).2 8).2 201).2 3).1.toNat 0, (takeF (takeF (takeF (takeF b 8).2 8).2 201).2 3).2)
  else ((takeF b 8).1, (takeF (takeF b 8).2 8).2)
def textF (b : Bx) : Str × Bx :=
  (Txt.join "" ((List.range (textB b).1.toNat).map fun k : Nat => sgn SGN (((takeF (textB b).2 94).1 + (k : Int) * (takeF (takeF (textB b).2 94).2 94).1) % 94)), (takeF (takeF (textB b).2 94).2 94).2)
theorem textB_good {b : Bx} {n : Nat} (g : Good b n) : Good (textB b).2 (n + 4) := by
  have g1 := takeF_good g (m := 8) (by decide)
  have g2 := takeF_good g1 (m := 8) (by decide)
  unfold textB
  split
  · exact takeF_good (takeF_good g2 (by decide)) (by decide)
  · exact g2.mono (by omega)
theorem pick3 {α : Type} (P : α → Prop) {x y z d : α} {i : Int} (h0 : 0 ≤ i) (h1 : i < 3) (hx : P x) (hy : P y) (hz : P z) : P ([x, y, z].getD i.toNat d) := by
  have : i.toNat = 0 ∨ i.toNat = 1 ∨ i.toNat = 2 := by omega
  rcases this with e | e | e <;> rw [e] <;> assumption
theorem textB_num (b : Bx) : 0 ≤ (textB b).1 ∧ (textB b).1 ≤ 200 := by
  unfold textB
  split
  · have l1 := takeF_lo (takeF (takeF b 8).2 8).2 (m := 201) (by decide)
    have u1 := takeF_hi (takeF (takeF b 8).2 8).2 (m := 201) (by decide)
    exact pick3 (fun z : Int => 0 ≤ z ∧ z ≤ 200) (takeF_lo _ (by decide)) (takeF_hi _ (by decide)) ⟨l1, by omega⟩ (by decide) (by decide)
  · have l1 := takeF_lo b (m := 8) (by decide)
    have u1 := takeF_hi b (m := 8) (by decide)
    exact ⟨l1, by show (takeF b 8).1 ≤ 200; omega⟩
theorem textF_good {b : Bx} {n : Nat} (g : Good b n) : Good (textF b).2 (n + 6) := takeF_good (takeF_good (textB_good g) (by decide)) (by decide)
theorem textF_len (b : Bx) : (textF b).1.length ≤ 200 := by
  unfold textF
  show (Txt.join "" _).length ≤ 200
  rw [join_len, ones_sum (fun z hz => by obtain ⟨k, _, rfl⟩ := List.mem_map.mp hz; rfl), List.length_map, List.length_range]
  have := textB_num b
  omega
def spText : Sp := fun vs H Q _ => ∃ (b : Addr) (st : Bx) (n : Nat), vs = [.ref b] ∧ H b = some (.lst (boxV st)) ∧ Good st n ∧ n + 20 ≤ 1000000 ∧
  ∀ H', H' b = some (.lst (boxV (textF st).2)) → Kp [b] H H' → Q (.str (textF st).1) H'
section
variable {P : Program} {w : World} {K : PySem.W.Frag} {mg : Str → Option Value} {base : Heap}
theorem scText : FnScope ["_law_box_here", "_law_signs", "_law_many", "_law_first", "_law_step"] ["_law_box_here"] (defScope sText) := ⟨rfl, rfl, rfl, by decide +kernel, rfl, by decide +kernel, by decide +kernel⟩
theorem ok_text {f : Addr} {fd : FuncData} (F : Fun K "_law_text" "_law_text" sText f fd) (mRange : mg "range" = none) (DT : DTake P w K mg base) : FnOk P w K mg base CX0 2 f fd ["_law_box_here"] spText := by
  refine F.ok scText (fun vs H Q E h => ?_) (fun cdv A outer s H vs Q E hr h => ?_)
  · obtain ⟨b, st, n, rfl, _⟩ := h
    rfl
  · obtain ⟨b, st, n, rfl, hb, g, hn, kk⟩ := h
    have nd := scText.nd
    refine ⟨_, pss_cons (ps_set (i := 1) nd rfl (Or.inr rfl) pe_str)
      (pss_cons (ps_set (i := 2) nd rfl (Or.inl rfl) (pe_def DT hr (pa_cons (pv 0) (pa_cons pe_int pa_nil))))
      (pss_cons (ps_if (pt_cmpR op_eq (pe_def DT hr (pa_cons (pv 0) (pa_cons pe_int pa_nil))) pe_int (nomark _))
        (pss_one (ps_set (i := 2) nd rfl (Or.inl rfl) (pe_ix ix_list (pe_lst (pa_cons (pe_def DT hr (pa_cons (pv 0) (pa_cons pe_int pa_nil))) (pa_cons pe_int (pa_cons pe_int pa_nil)))) (pe_def DT hr (pa_cons (pv 0) (pa_cons pe_int pa_nil))) (fun _ _ => rfl)))) pss_nil)
      (pss_cons (ps_set (i := 3) nd rfl (Or.inr rfl) (pe_def DT hr (pa_cons (pv 0) (pa_cons pe_int pa_nil))))
      (pss_cons (ps_set (i := 4) nd rfl (Or.inr rfl) (pe_def DT hr (pa_cons (pv 0) (pa_cons pe_int pa_nil))))
      (pss_one (ps_ret (pe_bm PySem.F.plainAttrs_str PySem.F.slot_str_join PySem.F.type_str_join mt_join pe_str (pa_cons (pe_comp (x := "_law_k") scText ⟨rfl, by decide +kernel, by decide +kernel, by decide +kernel, by decide +kernel, by decide +kernel⟩ (by decide +kernel)
          (pi_range1 rfl mRange (pa_cons (pv 2) pa_nil))
          (fun C fp s H => pe_ix ix_str (pv 1) (pe_op op_mod (pe_op op_add (pv 3) (pe_op op_mul (pv 5) (pv 4))) pe_int) (fun _ _ => rfl))) pa_nil)))))))), ?_⟩
    refine ⟨_, rfl, b, st, n, 8, rfl, by decide, by decide, hb, g, by omega, fun H1 hb1 k1 => ?_⟩
    have g1 := takeF_good g (m := 8) (by decide)
    refine ⟨_, rfl, b, _, n + 1, 8, rfl, by decide, by decide, hb1, g1, by omega, fun H2 hb2 k2 => ?_⟩
    have g2 := takeF_good g1 (m := 8) (by decide)
    -- what is behind the count
    refine ⟨rfl, _, rfl, ?_⟩
    refine ite2 (fun h1 => ?_) (fun h1 => ?_)
    · have h1' : (takeF (takeF st 8).2 8).1 = 0 := by
        have := of_decide_eq_true h1
        injection this
      have et : textB st = ([(takeF (takeF (takeF st 8).2 8).2 201).1, 200, 199].getD (takeF (takeF (takeF (takeF st 8).2 8).2 201).2 3).1.toNat 0, (takeF (takeF (takeF (takeF st 8).2 8).2 201).2 3).2) := by
        unfold textB
        rw [if_pos h1']
      refine ⟨_, rfl, b, _, n + 2, 201, rfl, by decide, by decide, hb2, g2, by omega, fun H3 hb3 k3 => ?_⟩
      have g3 := takeF_good g2 (m := 201) (by decide)
      refine ⟨by show 3 ≤ sizeLine; decide, fun l hl => ?_⟩
      have nlb : b ≠ l := ne_of_none hb3 hl
      refine ⟨_, rfl, b, _, n + 3, 3, rfl, by decide, by decide, by rw [upd_ne nlb]; exact hb3, g3, by omega, fun H4 hb4 k4 => ?_⟩
      have hl4 : H4 l = some (.lst ([(takeF (takeF (takeF st 8).2 8).2 201).1, 200, 199].map V.int)) := k4 l _ upd_same (by simpa using nlb.symm)
      refine ⟨l, _, _, _, rfl, rfl, SqL.of hl4, at_list V.int 0 (takeF_lo _ (by decide)) (takeF_hi _ (m := 3) (by decide)), ?_⟩
      have hb5 : H4 b = some (.lst (boxV (textB st).2)) := by rw [et]; exact hb4
      have em : [(takeF (takeF (takeF st 8).2 8).2 201).1, 200, 199].getD (takeF (takeF (takeF (takeF st 8).2 8).2 201).2 3).1.toNat 0 = (textB st).1 := by rw [et]
      rw [em]
      have kH : Kp [b] H H4 := k1.trans (k2.trans ((k3.new hl).trans k4))
      have g5 := textB_good g
      have nm := textB_num st
      refine ⟨_, rfl, b, _, n + 4, 94, rfl, by decide, by decide, hb5, g5, by omega, fun H6 hb6 k6 => ?_⟩
      have g6 := takeF_good g5 (m := 94) (by decide)
      refine ⟨_, rfl, b, _, n + 5, 94, rfl, by decide, by decide, hb6, g6, by omega, fun H7 hb7 k7 => ?_⟩
      have l6 := takeF_lo (textB st).2 (m := 94) (by decide)
      have u6 := takeF_hi (textB st).2 (m := 94) (by decide)
      have l7 := takeF_lo (takeF (textB st).2 94).2 (m := 94) (by decide)
      have u7 := takeF_hi (takeF (textB st).2 94).2 (m := 94) (by decide)
      refine ⟨rfl, _, rfl, _, rfl, by omega, by omega, ?_⟩
      refine comp_range (n := (textB st).1.toNat) (fun i ys H' => ys = ((List.range i).map fun k : Nat => sgn SGN (((takeF (textB st).2 94).1 + (k : Int) * (takeF (takeF (textB st).2 94).2 94).1) % 94)).map V.str ∧ H' = H7) (by rw [sizeLine_eq]; omega)
        ⟨rfl, rfl⟩ (fun i ys H' ⟨e, _⟩ => by rw [e, List.length_map, List.length_map, List.length_range]) ?_ ?_
      · rintro i ys H' hi ⟨e1, rfl⟩
        obtain ⟨c, hc1, hc2⟩ := at_sgn (z := SGN) (i := ((takeF (textB st).2 94).1 + (i : Int) * (takeF (takeF (textB st).2 94).2 94).1) % 94) (Int.emod_nonneg _ (by decide)) (by rw [SGN_size]; exact Int.emod_lt_of_pos _ (by decide))
        refine ⟨_, rfl, _, rfl, _, rfl, _, rfl, _, _, rfl, rfl, .inr ⟨by omega, by omega⟩, _, _, rfl, rfl, _, _, rfl, rfl, (show (0 : Int) < 94 by decide), ?_⟩
        refine ⟨SGN, _, c, rfl, by rw [Int.zero_add], by show SGN.cps.size ≤ sizeLine; decide +kernel, hc1, ?_, rfl⟩
        rw [e1, ← hc2, List.range_succ, List.map_append, List.map_append]
        rfl
      · rintro ys H' ⟨e1, rfl⟩ L hL
        have nLb : b ≠ L := ne_of_none hb7 hL
        refine ⟨_, L, _, rfl, rfl, SqL.of (by rw [upd_same, e1]), ?_, ?_⟩
        · rw [ones_sum (fun z hz => by obtain ⟨k, _, rfl⟩ := List.mem_map.mp hz; rfl), List.length_map, List.length_range]
          show (textB st).1.toNat + (textB st).1.toNat * ("" : Str).cps.size ≤ _
          rw [emp_size]
          omega
        · exact kk _ (by rw [upd_ne nLb]; exact hb7) ((kH.trans (k6.trans k7)).new hL)
    · have h1' : ¬ (takeF (takeF st 8).2 8).1 = 0 := fun q => h1 (decide_eq_true (by rw [q]))
      have et : textB st = ((takeF st 8).1, (takeF (takeF st 8).2 8).2) := by
        unfold textB
        rw [if_neg h1']
      have hb5 : H2 b = some (.lst (boxV (textB st).2)) := by rw [et]; exact hb2
      have em : (takeF st 8).1 = (textB st).1 := by rw [et]
      rw [em]
      have kH : Kp [b] H H2 := k1.trans k2
      have g5 := textB_good g
      have nm := textB_num st
      refine ⟨_, rfl, b, _, n + 4, 94, rfl, by decide, by decide, hb5, g5, by omega, fun H6 hb6 k6 => ?_⟩
      have g6 := takeF_good g5 (m := 94) (by decide)
      refine ⟨_, rfl, b, _, n + 5, 94, rfl, by decide, by decide, hb6, g6, by omega, fun H7 hb7 k7 => ?_⟩
      have l6 := takeF_lo (textB st).2 (m := 94) (by decide)
      have u6 := takeF_hi (textB st).2 (m := 94) (by decide)
      have l7 := takeF_lo (takeF (textB st).2 94).2 (m := 94) (by decide)
      have u7 := takeF_hi (takeF (textB st).2 94).2 (m := 94) (by decide)
      refine ⟨rfl, _, rfl, _, rfl, by omega, by omega, ?_⟩
      refine comp_range (n := (textB st).1.toNat) (fun i ys H' => ys = ((List.range i).map fun k : Nat => sgn SGN (((takeF (textB st).2 94).1 + (k : Int) * (takeF (takeF (textB st).2 94).2 94).1) % 94)).map V.str ∧ H' = H7) (by rw [sizeLine_eq]; omega)
        ⟨rfl, rfl⟩ (fun i ys H' ⟨e, _⟩ => by rw [e, List.length_map, List.length_map, List.length_range]) ?_ ?_
      · rintro i ys H' hi ⟨e1, rfl⟩
        obtain ⟨c, hc1, hc2⟩ := at_sgn (z := SGN) (i := ((takeF (textB st).2 94).1 + (i : Int) * (takeF (takeF (textB st).2 94).2 94).1) % 94) (Int.emod_nonneg _ (by decide)) (by rw [SGN_size]; exact Int.emod_lt_of_pos _ (by decide))
        refine ⟨_, rfl, _, rfl, _, rfl, _, rfl, _, _, rfl, rfl, .inr ⟨by omega, by omega⟩, _, _, rfl, rfl, _, _, rfl, rfl, (show (0 : Int) < 94 by decide), ?_⟩
        refine ⟨SGN, _, c, rfl, by rw [Int.zero_add], by show SGN.cps.size ≤ sizeLine; decide +kernel, hc1, ?_, rfl⟩
        rw [e1, ← hc2, List.range_succ, List.map_append, List.map_append]
        rfl
      · rintro ys H' ⟨e1, rfl⟩ L hL
        have nLb : b ≠ L := ne_of_none hb7 hL
        refine ⟨_, L, _, rfl, rfl, SqL.of (by rw [upd_same, e1]), ?_, ?_⟩
        · rw [ones_sum (fun z hz => by obtain ⟨k, _, rfl⟩ := List.mem_map.mp hz; rfl), List.length_map, List.length_range]
          show (textB st).1.toNat + (textB st).1.toNat * ("" : Str).cps.size ≤ _
          rw [emp_size]
          omega
        · exact kk _ (by rw [upd_ne nLb]; exact hb7) ((kH.trans (k6.trans k7)).new hL)
end
/-! ### paths drawn -/
def wordsF (b : Bx) : Nat → List Str × Bx
  | 0 => ([], b)
  | n + 1 => ((wordsF b n).1 ++ [(wordF (wordsF b n).2).1], (wordF (wordsF b n).2).2)
theorem wordsF_good {b : Bx} {m : Nat} (g : Good b m) : ∀ n, Good (wordsF b n).2 (m + 10 * n)
  | 0 => g
  | n + 1 => (wordF_good (wordsF_good g n)).mono (by omega)
theorem wordsF_len (b : Bx) : ∀ n, (wordsF b n).1.length = n
  | 0 => rfl
  | n + 1 => by
    show ((wordsF b n).1 ++ [_]).length = _
    rw [List.length_append, wordsF_len b n]
    rfl
theorem wordsF_ok (b : Bx) : ∀ n, ∀ z ∈ (wordsF b n).1, z.length ≤ 8
  | 0 => fun _ h => nomatch h
  | n + 1 => fun z h => by
    rcases List.mem_append.mp h with q | q
    · exact wordsF_ok b n z q
    · rw [List.mem_singleton.mp q]
      exact wordF_len _
def anyM (b : Bx) : Nat := (1 + (takeF b 3).1 + 5 * (if (takeF (takeF b 3).2 16).1 = 0 then 1 else 0)).toNat
def anyF (b : Bx) : List Str × Bx := wordsF (takeF (takeF b 3).2 16).2 (anyM b)
theorem anyM_le (b : Bx) : 1 ≤ anyM b ∧ anyM b ≤ 8 := by
  have := takeF_lo b (m := 3) (by decide)
  have := takeF_hi b (m := 3) (by decide)
  unfold anyM
  split <;> omega
theorem anyF_good {b : Bx} {n : Nat} (g : Good b n) : Good (anyF b).2 (n + 82) := by
  have := anyM_le b
  exact (wordsF_good (takeF_good (takeF_good g (m := 3) (by decide)) (m := 16) (by decide)) _).mono (by omega)
/-- a path that fits -/
structure Pth (zs : List Str) : Prop where
  len : zs.length ≤ 9
  nam : ∀ z ∈ zs, z.length ≤ 8
theorem anyF_pth (b : Bx) : Pth (anyF b).1 := by
  have := anyM_le b
  exact ⟨by unfold anyF; rw [wordsF_len]; omega, wordsF_ok _ _⟩
def spAny : Sp := fun vs H Q _ => ∃ (b : Addr) (st : Bx) (n : Nat), vs = [.ref b] ∧ H b = some (.lst (boxV st)) ∧ Good st n ∧ n + 120 ≤ 1000000 ∧
  ∀ (t : Addr) (H' : Hp), H t = none → H' t = some (.tup ((anyF st).1.map V.str)) → H' b = some (.lst (boxV (anyF st).2)) → Kp [b] H H' → Q (.ref t) H'
section
variable {P : Program} {w : World} {K : PySem.W.Frag} {mg : Str → Option Value} {base : Heap}
theorem scAny : FnScope ["_law_box_here", "_law_many"] ["_law_box_here"] (defScope sAnyPath) := ⟨rfl, rfl, rfl, by decide +kernel, rfl, by decide +kernel, by decide +kernel⟩
theorem ok_any {f : Addr} {fd : FuncData} (F : Fun K "_law_any_path" "_law_any_path" sAnyPath f fd) (mRange : mg "range" = none) (mInt : mg "int" = none) (mTuple : mg "tuple" = none) (DT : DTake P w K mg base)
    (DW : Def P w K mg base 2 "_law_word" ["_law_box_here"] spWord) : FnOk P w K mg base CX0 3 f fd ["_law_box_here"] spAny := by
  refine F.ok scAny (fun vs H Q E h => ?_) (fun cdv A outer s H vs Q E hr h => ?_)
  · obtain ⟨b, st, n, rfl, _⟩ := h
    rfl
  · obtain ⟨b, st, n, rfl, hb, g, hn, kk⟩ := h
    have hr1 : Room 1 _ := hr.mono (by decide)
    have nd := scAny.nd
    refine ⟨_, pss_cons (ps_set (i := 1) nd rfl (Or.inl rfl) (pe_op op_add (pe_op op_add pe_int (pe_def DT hr1 (pa_cons (pv 0) (pa_cons pe_int pa_nil))))
        (pe_op op_mul pe_int (pe_callTy call_int1 (by rfl) mInt PyProof.Rows.Boot.int (pa_cons (pe_cmpR op_eq (pe_def DT hr1 (pa_cons (pv 0) (pa_cons pe_int pa_nil))) pe_int (nomark _)) pa_nil)))))
      (pss_one (ps_ret (pe_callTy call_tuple_of (by rfl) mTuple PyProof.Rows.Boot.tuple (pa_cons (pe_comp (x := "_law_k") scAny ⟨rfl, by decide +kernel, by decide +kernel, by decide +kernel, by decide +kernel, by decide +kernel⟩ (by decide +kernel)
          (pi_range1 rfl mRange (pa_cons (pv 1) pa_nil))
          (fun C fp s H => pe_def DW hr (pa_cons (pv 0) pa_nil))) pa_nil)))), ?_⟩
    refine ⟨_, rfl, b, st, n, 3, rfl, by decide, by decide, hb, g, by omega, fun H1 hb1 k1 => ⟨_, _, rfl, rfl, ?_⟩⟩
    have g1 := takeF_good g (m := 3) (by decide)
    refine ⟨_, rfl, b, _, n + 1, 16, rfl, by decide, by decide, hb1, g1, by omega, fun H2 hb2 k2 => ⟨rfl, .inr ⟨_, rfl, _, _, rfl, rfl, .inl ⟨by decide, by decide⟩, _, _, rfl, rfl, ?_⟩⟩⟩
    have g2 := takeF_good g1 (m := 16) (by decide)
    have hm := anyM_le st
    have em : (1 + (takeF st 3).1 + 5 * (if decide (V.int (takeF (takeF st 3).2 16).1 = V.int 0) = true then (1 : Int) else 0)) = (anyM st : Int) := by
      have := takeF_lo st (m := 3) (by decide)
      unfold anyM
      by_cases e : (takeF (takeF st 3).2 16).1 = 0
      · rw [if_pos e, if_pos (decide_eq_true (by rw [e]))]
        omega
      · rw [if_neg e, if_neg (fun q => e (by have := of_decide_eq_true q; injection this))]
        omega
    refine ⟨_, rfl, (anyM st : Int), congrArg (fun z => [V.int z]) em, by omega, by omega, ?_⟩
    rw [Int.toNat_natCast]
    refine comp_range (n := anyM st) (fun i ys H' => ys = (wordsF (takeF (takeF st 3).2 16).2 i).1.map V.str ∧ H' b = some (.lst (boxV (wordsF (takeF (takeF st 3).2 16).2 i).2)) ∧ Kp [b] H H') (by rw [sizeLine_eq]; omega)
      ⟨rfl, hb2, k1.trans k2⟩ (fun i ys H' ⟨e, _⟩ => by rw [e, List.length_map, wordsF_len]) ?_ ?_
    · rintro i ys H' hi ⟨e1, hb', k'⟩
      refine ⟨_, rfl, b, _, n + 2 + 10 * i, rfl, hb', wordsF_good g2 i, by omega, fun H4 hb4 k4 => ⟨?_, hb4, k'.trans k4⟩⟩
      rw [e1, ← List.map_singleton, ← List.map_append]
      rfl
    · rintro ys H' ⟨e1, hb', k'⟩ L hL
      have nLb : b ≠ L := ne_of_none hb' hL
      refine ⟨L, _, rfl, .inl ⟨SqL.of upd_same, fun t ht => ?_⟩⟩
      have ntb : b ≠ t := fun q => by rw [← q, upd_ne nLb, hb'] at ht; cases ht
      have ntL : L ≠ t := fun q => by rw [← q, upd_same] at ht; cases ht
      refine kk t _ ?_ (by rw [upd_same, e1]; rfl) (by rw [upd_ne ntb, upd_ne nLb]; exact hb') ((k'.new hL).new ht)
      rw [upd_ne (Ne.symm ntL)] at ht
      exact k'.free (by simpa using Ne.symm ntb) ht
end
/-! ### what the law keeps, as values -/
inductive Ent where
  | dir (o : Option (List Str))
  | fil (i : Int)
  | gone
abbrev Pr := Option (List Str) × Option Str
def OptS (y : V) (x : Option Str) : Prop := match x with
  | none => y = .non
  | some z => y = .str z
def PairV (H : Hp) (v : V) (p : Pr) : Prop := ∃ t w y, v = .ref t ∧ OptP H w p.1 ∧ OptS y p.2 ∧ H t = some (.tup [w, y])
def FoldV (H : Hp) (v : V) (zs : List Str) : Prop := ∃ t, v = .ref t ∧ H t = some (.tup (zs.map V.str))
def EntV (H : Hp) (v : V) (p : List Str) (e : Ent) : Prop := ∃ t pa, v = .ref t ∧ H pa = some (.tup (p.map V.str)) ∧ match e with
  | .dir o => ∃ w, OptP H w o ∧ H t = some (.tup [.ref pa, .str "folder", w])
  | .fil i => H t = some (.tup [.ref pa, .str "file", .int i])
  | .gone => H t = some (.tup [.ref pa, .str "gone"])
theorem OptP.tk {H H' : Hp} (k : Tk H H') {v : V} {o : Option (List Str)} (h : OptP H v o) : OptP H' v o := L2.OptP.mono (fun b xs => k b xs) h
theorem PairV.tk {H H' : Hp} (k : Tk H H') {v : V} {p : Pr} (h : PairV H v p) : PairV H' v p := by
  obtain ⟨t, w, y, e, h1, h2, h3⟩ := h
  exact ⟨t, w, y, e, OptP.tk k h1, h2, k _ _ h3⟩
theorem FoldV.tk {H H' : Hp} (k : Tk H H') {v : V} {zs : List Str} (h : FoldV H v zs) : FoldV H' v zs := by
  obtain ⟨t, e, h1⟩ := h
  exact ⟨t, e, k _ _ h1⟩
theorem EntV.tk {H H' : Hp} (k : Tk H H') {v : V} {p : List Str} {x : Ent} (h : EntV H v p x) : EntV H' v p x := by
  obtain ⟨t, pa, e, h1, h2⟩ := h
  refine ⟨t, pa, e, k _ _ h1, ?_⟩
  cases x with
  | dir o =>
    obtain ⟨w, h3, h4⟩ := h2
    exact ⟨w, OptP.tk k h3, k _ _ h4⟩
  | fil i => exact k _ _ h2
  | gone => exact k _ _ h2
abbrev PairsV (H : Hp) : List V → List Pr → Prop := Paired (PairV H)
abbrev FoldsV (H : Hp) : List V → List (List Str) → Prop := Paired (FoldV H)
abbrev RowsV (H : Hp) : PMap → List (List Str × Ent) → Prop := Paired fun q r => q.1 = r.1 ∧ EntV H q.2 r.1 r.2
theorem PairsV.tk {H H' : Hp} (k : Tk H H') {vs : List V} {ps : List Pr} (h : PairsV H vs ps) : PairsV H' vs ps := Paired.mono (fun _ _ q => PairV.tk k q) h
theorem FoldsV.tk {H H' : Hp} (k : Tk H H') {vs : List V} {ps : List (List Str)} (h : FoldsV H vs ps) : FoldsV H' vs ps := Paired.mono (fun _ _ q => FoldV.tk k q) h
theorem RowsV.tk {H H' : Hp} (k : Tk H H') {m : PMap} {rs : List (List Str × Ent)} (h : RowsV H m rs) : RowsV H' m rs := Paired.mono (fun _ _ q => ⟨q.1, EntV.tk k q.2⟩) h
theorem paired_get {α β : Type} {R : α → β → Prop} : ∀ {xs : List α} {ys : List β} {i : Nat} {x : α}, Paired R xs ys → xs[i]? = some x → ∃ y, ys[i]? = some y ∧ R x y
  | _, _, _, _, .nil, e => by simp at e
  | _, _, 0, _, .cons r _, e => by simp at e; subst e; exact ⟨_, rfl, r⟩
  | _, _, i + 1, x, .cons _ t, e => by
    obtain ⟨y, h1, h2⟩ := paired_get (i := i) (x := x) t (by simpa using e)
    exact ⟨y, by simpa using h1, h2⟩
theorem paired_at {α β : Type} {R : α → β → Prop} : ∀ {xs : List α} {ys : List β} {i : Nat} {y : β}, Paired R xs ys → ys[i]? = some y → ∃ x, xs[i]? = some x ∧ R x y
  | _, _, _, _, .nil, e => by simp at e
  | _, _, 0, _, .cons r _, e => by simp at e; subst e; exact ⟨_, rfl, r⟩
  | _, _, i + 1, y, .cons _ t, e => by
    obtain ⟨x, h1, h2⟩ := paired_at (i := i) (y := y) t (by simpa using e)
    exact ⟨x, by simpa using h1, h2⟩
theorem not_tup_lst {H : Hp} {a : Addr} {xs : List V} (h : H a = some (.lst xs)) : ∀ ys, H a ≠ some (.tup ys) := fun ys e => by rw [h] at e; cases e
theorem not_tup_dP {H : Hp} {a : Addr} {m : PMap} (h : H a = some (dP m)) : ∀ ys, H a ≠ some (.tup ys) := fun ys e => by rw [h] at e; cases e
/-! ### a new file -/
def newO (b : Bx) : Option (List Str) × Bx := if 0 < (takeF b 3).1 then (some (anyF (takeF b 3).2).1, (anyF (takeF b 3).2).2) else (none, (takeF b 3).2)
def newT (o : Option (List Str)) (b : Bx) : Option Str × Bx := match o with
  | none => (some (textF b).1, (textF b).2)
  | some _ => (if (takeF (textF b).2 3).1 = 0 then none else some (textF b).1, (takeF (textF b).2 3).2)
def newF (b : Bx) (ps : List Pr) : Int × Bx × List Pr :=
  if (newO b).1 ≠ none ∧ (newO b).1 ∈ ps.map (·.1) then (-1, (newO b).2, ps)
  else (ps.length, (newT (newO b).1 (newO b).2).2, ps ++ [((newO b).1, (newT (newO b).1 (newO b).2).1)])
theorem newO_good {b : Bx} {n : Nat} (g : Good b n) : Good (newO b).2 (n + 83) := by
  have g1 := takeF_good g (m := 3) (by decide)
  unfold newO
  split
  · exact (anyF_good g1).mono (by omega)
  · exact g1.mono (by omega)
theorem newT_good {o : Option (List Str)} {b : Bx} {n : Nat} (g : Good b n) : Good (newT o b).2 (n + 7) := by
  have g1 := textF_good g
  cases o with
  | none => exact g1.mono (by omega)
  | some z => exact (takeF_good g1 (by decide)).mono (by omega)
theorem newF_good {b : Bx} {n : Nat} (g : Good b n) (ps : List Pr) : Good (newF b ps).2.1 (n + 90) := by
  unfold newF
  split
  · exact (newO_good g).mono (by omega)
  · exact (newT_good (newO_good g)).mono (by omega)
structure PrOk (p : Pr) : Prop where
  org : ∀ zs, p.1 = some zs → Pth zs
  txt : ∀ z, p.2 = some z → z.length ≤ 200
theorem newO_ok (b : Bx) : ∀ zs, (newO b).1 = some zs → Pth zs := by
  intro zs h
  unfold newO at h
  split at h
  · cases h
    exact anyF_pth _
  · cases h
theorem newT_ok (o : Option (List Str)) (b : Bx) : ∀ z, (newT o b).1 = some z → z.length ≤ 200 := by
  intro z h
  cases o with
  | none => cases h; exact textF_len _
  | some y =>
    have h' : (if (takeF (textF b).2 3).1 = 0 then none else some (textF b).1) = some z := h
    split at h'
    · cases h'
    · cases h'
      exact textF_len _
theorem newF_ok {b : Bx} {ps : List Pr} (h : ∀ p ∈ ps, PrOk p) : ∀ p ∈ (newF b ps).2.2, PrOk p := by
  unfold newF
  split
  · exact h
  · intro p hp
    rcases List.mem_append.mp hp with q | q
    · exact h p q
    · rw [List.mem_singleton.mp q]
      exact ⟨newO_ok b, newT_ok _ _⟩
theorem newF_num (b : Bx) (ps : List Pr) : (newF b ps).1 < (newF b ps).2.2.length ∧ (newF b ps).2.2.length ≤ ps.length + 1 ∧ ps.length ≤ (newF b ps).2.2.length := by
  unfold newF
  split
  · exact ⟨by show (-1 : Int) < _; omega, Nat.le_succ _, Nat.le_refl _⟩
  · refine ⟨?_, ?_, ?_⟩ <;> simp only [List.length_append, List.length_singleton] <;> omega
def spNew : Sp := fun vs H Q _ => ∃ (b p : Addr) (st : Bx) (n : Nat) (xs : List V) (ps : List Pr), vs = [.ref b, .ref p] ∧ H b = some (.lst (boxV st)) ∧ H p = some (.lst xs) ∧ b ≠ p ∧ PairsV H xs ps ∧ Good st n ∧ n + 200 ≤ 1000000 ∧ ps.length ≤ 300 ∧
  ∀ (xs' : List V) (H' : Hp), H' b = some (.lst (boxV (newF st ps).2.1)) → H' p = some (.lst xs') → PairsV H' xs' (newF st ps).2.2 → Kp [b, p] H H' → Q (.int (newF st ps).1) H'
theorem new_end {H HX : Hp} {Q : VK} {b p t' : Addr} {st b' : Bx} {xs : List V} {ps : List Pr} {o : Option (List Str)} {x : Option Str} {w y : V} (eF : newF st ps = ((ps.length : Int), b', ps ++ [(o, x)])) (hbX : HX b = some (.lst (boxV b'))) (hpX : HX p = some (.lst xs)) (nbp : b ≠ p)
    (hPX : PairsV HX xs ps) (kX : Kp [b, p] H HX) (hw : OptP HX w o) (hy : OptS y x) (ht' : HX t' = none)
    (kk : ∀ (xs' : List V) (H' : Hp), H' b = some (.lst (boxV (newF st ps).2.1)) → H' p = some (.lst xs') → PairsV H' xs' (newF st ps).2.2 → Kp [b, p] H H' → Q (.int (newF st ps).1) H') :
    Q (.int (((xs ++ [V.ref t']).length : Nat) - 1)) (upd (upd HX t' (.tup [w, y])) p (.lst (xs ++ [V.ref t']))) := by
  have n1 : p ≠ t' := ne_of_none hpX ht'
  have n2 : b ≠ t' := ne_of_none hbX ht'
  have lx : xs.length = ps.length := Paired.length hPX
  rw [eF] at kk
  have e : ((((xs ++ [V.ref t']).length : Nat) : Int) - 1) = (ps.length : Int) := by
    rw [List.length_append, lx]
    show (((ps.length + 1 : Nat)) : Int) - 1 = _
    omega
  rw [e]
  have tk : Tk HX (upd (upd HX t' (.tup [w, y])) p (.lst (xs ++ [V.ref t']))) := fun a zs q => by
    rw [upd_ne (fun z => by rw [z, hpX] at q; cases q), upd_ne (ne_of_none q ht')]
    exact q
  refine kk (xs ++ [V.ref t']) _ (by rw [upd_ne nbp, upd_ne n2]; exact hbX) upd_same ?_ ((kX.new ht').set (by simp))
  refine Paired.snoc (PairsV.tk tk hPX) ⟨t', w, y, rfl, OptP.tk tk hw, hy, ?_⟩
  rw [upd_ne (Ne.symm n1), upd_same]
section
variable {P : Program} {w : World} {K : PySem.W.Frag} {mg : Str → Option Value} {base : Heap}
theorem scNew : FnScope ["_law_box_here", "_law_pairs", "_law_origin", "_law_text_here"] ["_law_box_here", "_law_pairs"] (defScope sNewFile) := ⟨rfl, rfl, rfl, by decide +kernel, rfl, by decide +kernel, by decide +kernel⟩
theorem ok_new {f : Addr} {fd : FuncData} (F : Fun K "_law_new_file" "_law_new_file" sNewFile f fd) (mLen : mg "len" = none) (DT : DTake P w K mg base) (DA : Def P w K mg base 3 "_law_any_path" ["_law_box_here"] spAny)
    (DX : Def P w K mg base 2 "_law_text" ["_law_box_here"] spText) : FnOk P w K mg base CX0 4 f fd ["_law_box_here", "_law_pairs"] spNew := by
  refine F.ok scNew (fun vs H Q E h => ?_) (fun cdv A outer s H vs Q E hr h => ?_)
  · obtain ⟨b, p, st, n, xs, ps, rfl, _⟩ := h
    rfl
  · obtain ⟨b, p, st, n, xs, ps, rfl, hb, hp, nbp, hP, g, hn, hl, kk⟩ := h
    have hu := hu_of hr
    have hr1 : Room 1 _ := hr.mono (by decide)
    have hr2 : Room 2 _ := hr.mono (by decide)
    have nd := scNew.nd
    refine ⟨_, pss_cons (ps_set (i := 2) nd rfl (Or.inl rfl) pe_non)
      (pss_cons (ps_if (pt_cmpR op_gt (pe_def DT hr1 (pa_cons (pv 0) (pa_cons pe_int pa_nil))) pe_int (nomark _)) (pss_one (ps_set (i := 2) nd rfl (Or.inl rfl) (pe_def DA hr (pa_cons (pv 0) pa_nil)))) pss_nil)
      (pss_cons (ps_if (PW.pt (pw_and (pt_cmpR op_notN (pv 2) pe_non (nomark _)) (pw_and1 (pt_cmpR (op_inP hu) (pv 2) (pe_comp (x := "_law_pair") scNew ⟨rfl, by decide +kernel, by decide +kernel, by decide +kernel, by decide +kernel, by decide +kernel⟩ (by decide +kernel) (pi_list (pv 1))
          (fun C fp s H => pe_ix (show IxR _ (rIxT K) from ix_tup) (pv 4) pe_int (fun _ _ => rfl))) rfl))))
        (pss_one (ps_ret (pe_un un_neg pe_int))) pss_nil)
      (pss_cons (ps_set (i := 3) nd rfl (Or.inl rfl) (pe_def DX hr2 (pa_cons (pv 0) pa_nil)))
      (pss_cons (ps_if (PW.pt (pw_and (pt_cmpR op_notN (pv 2) pe_non (nomark _)) (pw_and1 (pt_cmpR op_eq (pe_def DT hr1 (pa_cons (pv 0) (pa_cons pe_int pa_nil))) pe_int (nomark _))))) (pss_one (ps_set (i := 3) nd rfl (Or.inl rfl) pe_non)) pss_nil)
      (pss_cons (ps_expr (pe_bm PySem.F.plainAttrs_list PySem.F.slot_list_append PySem.F.type_list_append mt_append (pv 1) (pa_cons (pe_tup (pa_cons (pv 2) (pa_cons (pv 3) pa_nil))) pa_nil)))
      (pss_one (ps_ret (pe_op op_sub (pe_callB call_len_seq (by rfl) mLen PySem.boot_len (pa_cons (pv 1) pa_nil)) pe_int)))))))), ?_⟩
    refine ⟨_, rfl, b, st, n, 3, rfl, by decide, by decide, hb, g, by omega, fun H1 hb1 k1 => ⟨_, _, rfl, rfl, _, rfl, ?_⟩⟩
    have g1 := takeF_good g (m := 3) (by decide)
    have npb : p ∉ [b] := by simpa using Ne.symm nbp
    have hp1 : H1 p = some (.lst xs) := k1 p _ hp npb
    have t1 : Tk H H1 := k1.tk fun a ha => by rw [List.mem_singleton.mp ha]; exact not_tup_lst hb
    have lx : xs.length = ps.length := Paired.length hP
    have hs : ∀ a ∈ [b], a ∈ [b, p] := fun a ha => by rw [List.mem_singleton.mp ha]; simp
    refine ite2 (fun h1 => ?_) (fun h1 => ?_)
    · have h1' : 0 < (takeF st 3).1 := of_decide_eq_true h1
      have eO : newO st = (some (anyF (takeF st 3).2).1, (anyF (takeF st 3).2).2) := by
        unfold newO
        rw [if_pos h1']
      refine ⟨_, rfl, b, _, n + 1, rfl, hb1, g1, by omega, fun t H2 ht ht2 hb2 k2 => ?_⟩
      have hp2 : H2 p = some (.lst xs) := k2 p _ hp1 npb
      have t2 : Tk H1 H2 := k2.tk fun a ha => by rw [List.mem_singleton.mp ha]; exact not_tup_lst hb1
      have hP2 : PairsV H2 xs ps := PairsV.tk (t1.trans t2) hP
      have g2 := anyF_good g1
      -- is it there already
      refine ⟨_, rfl, rfl, _, rfl, iteT ?_⟩
      refine ⟨_, rfl, _, rfl, p, rfl, ⟨_, SqL.of hp2⟩, comp_list (xs := xs) (fun i ys H' => i ≤ ps.length ∧ H' = H2 ∧ OptPs H2 ys ((ps.take i).map (·.1))) (by rw [sizeLine_eq]; omega)
        ⟨Nat.zero_le _, rfl, .nil⟩ (fun i ys H' ⟨hi, _, e⟩ => by rw [Paired.length e, List.length_map, List.length_take]; omega) (fun i ys H' _ ⟨_, e, _⟩ => by rw [e]; exact SqL.of hp2) ?_ ?_⟩
      · rintro i ys H' v hv ⟨hi, rfl, e⟩
        obtain ⟨pr, hpr, t', w', y', rfl, o1, o2, o3⟩ := paired_get hP2 hv
        have hlt := (List.getElem?_eq_some_iff.mp hpr).1
        refine ⟨_, rfl, t', _, _, _, rfl, rfl, SqT.of o3, rfl, hlt, rfl, ?_⟩
        rw [List.take_succ, hpr, List.map_append]
        exact Paired.snoc e o1
      · rintro ys H' ⟨_, rfl, e⟩ L hL
        have nLb : b ≠ L := ne_of_none hb2 hL
        have nLp : p ≠ L := ne_of_none hp2 hL
        have nLt : t ≠ L := ne_of_none ht2 hL
        have e' : OptPs (upd H' L (.lst ys)) ys (ps.map (·.1)) := by
          rw [lx, List.take_of_length_le (Nat.le_refl _)] at e
          exact Paired.mono (fun _ _ q => OptP.tk (fun a zs q => by rw [upd_ne (ne_of_none q hL)]; exact q) q) e
        have hpX : (upd H' L (.lst ys)) p = some (.lst xs) := by rw [upd_ne nLp]; exact hp2
        have hbL : (upd H' L (.lst ys)) b = some (.lst (boxV (anyF (takeF st 3).2).2)) := by rw [upd_ne nLb]; exact hb2
        have tX : Tk H' (upd H' L (.lst ys)) := Tk.of ((Same.refl _).upd hL)
        have kL : Kp [b, p] H (upd H' L (.lst ys)) := ((k1.mono hs).trans (k2.mono hs)).new hL
        refine ⟨t, L, _, ys, _, rfl, by rw [upd_ne nLt]; exact ht2, rfl, SqL.of upd_same, e', _, rfl, ?_⟩
        refine ite2 (fun h2 => ?_) (fun h2 => ?_)
        · have h2' : some (anyF (takeF st 3).2).1 ∈ ps.map (·.1) := of_decide_eq_true h2
          have eF : newF st ps = (-1, (newO st).2, ps) := by
            unfold newF
            have hc : (newO st).1 ≠ none ∧ (newO st).1 ∈ ps.map (·.1) := by
              rw [eO]
              exact ⟨(fun q => nomatch q), h2'⟩
            rw [if_pos hc]
          rw [eF, eO] at kk
          refine ⟨_, rfl, ?_⟩
          exact kk xs _ hbL hpX (PairsV.tk tX hP2) kL
        · have h2' : ¬ some (anyF (takeF st 3).2).1 ∈ ps.map (·.1) := fun q => h2 (decide_eq_true q)
          have eF : newF st ps = ((ps.length : Int), (newT (newO st).1 (newO st).2).2, ps ++ [((newO st).1, (newT (newO st).1 (newO st).2).1)]) := by
            unfold newF
            rw [if_neg (fun q => h2' (by have := q.2; rw [eO] at this; exact this))]
          rw [eO] at eF
          refine ⟨_, rfl, b, _, n + 83, rfl, hbL, g2.mono (by omega), by omega, fun H3 hb3 k3 => ?_⟩
          have g3 := textF_good g2
          refine ⟨_, rfl, rfl, _, rfl, iteT ?_⟩
          refine ⟨_, rfl, b, _, n + 89, 3, rfl, by decide, by decide, hb3, g3.mono (by omega), by omega, fun H4 hb4 k4 => ⟨rfl, _, rfl, ?_⟩⟩
          have hp4 : H4 p = some (.lst xs) := k4 p _ (k3 p _ hpX npb) npb
          have t34 : Tk (upd H' L (.lst ys)) H4 := (k3.trans k4).tk fun a ha => by rw [List.mem_singleton.mp ha]; exact not_tup_lst hbL
          have hPX : PairsV H4 xs ps := PairsV.tk (tX.trans t34) hP2
          have kX : Kp [b, p] H H4 := kL.trans ((k3.trans k4).mono hs)
          have hw : OptP H4 (.ref t) (some (anyF (takeF st 3).2).1) := ⟨t, rfl, t34 _ _ (by rw [upd_ne nLt]; exact ht2)⟩
          have hpX := hp4
          refine ite2 (fun h3 => ?_) (fun h3 => ?_)
          · have h3' : (takeF (textF (anyF (takeF st 3).2).2).2 3).1 = 0 := by
              have := of_decide_eq_true h3
              injection this
            have hy : OptS .non (newT (some (anyF (takeF st 3).2).1) (anyF (takeF st 3).2).2).1 := by
              show OptS .non (if (takeF (textF (anyF (takeF st 3).2).2).2 3).1 = 0 then none else some (textF (anyF (takeF st 3).2).2).1)
              rw [if_pos h3']
              rfl
            have hbX : H4 b = some (.lst (boxV (newT (some (anyF (takeF st 3).2).1) (anyF (takeF st 3).2).2).2)) := hb4
            refine ⟨_, rfl, .inl ⟨rfl, _, SqL.of hpX⟩, _, rfl, _, rfl, by show 2 ≤ sizeLine; decide, fun t' ht' => ?_⟩
            have n1 : p ≠ t' := ne_of_none hpX ht'
            have n2 : b ≠ t' := ne_of_none hbX ht'
            refine ⟨p, xs, _, rfl, rfl, (by rw [upd_ne n1]; exact hpX), by rw [sizeLine_eq]; omega, ?_⟩
            refine ⟨_, rfl, p, _, rfl, .inl (SqL.of upd_same), _, _, rfl, rfl, ?_⟩
            exact new_end eF hbX hpX nbp hPX kX hw hy ht' kk
          · have h3' : ¬ (takeF (textF (anyF (takeF st 3).2).2).2 3).1 = 0 := fun q => h3 (decide_eq_true (by rw [q]))
            have hy : OptS (.str (textF (anyF (takeF st 3).2).2).1) (newT (some (anyF (takeF st 3).2).1) (anyF (takeF st 3).2).2).1 := by
              show OptS _ (if (takeF (textF (anyF (takeF st 3).2).2).2 3).1 = 0 then none else some (textF (anyF (takeF st 3).2).2).1)
              rw [if_neg h3']
              rfl
            have hbX : H4 b = some (.lst (boxV (newT (some (anyF (takeF st 3).2).1) (anyF (takeF st 3).2).2).2)) := hb4
            refine ⟨_, rfl, .inl ⟨rfl, _, SqL.of hpX⟩, _, rfl, _, rfl, by show 2 ≤ sizeLine; decide, fun t' ht' => ?_⟩
            have n1 : p ≠ t' := ne_of_none hpX ht'
            have n2 : b ≠ t' := ne_of_none hbX ht'
            refine ⟨p, xs, _, rfl, rfl, (by rw [upd_ne n1]; exact hpX), by rw [sizeLine_eq]; omega, ?_⟩
            refine ⟨_, rfl, p, _, rfl, .inl (SqL.of upd_same), _, _, rfl, rfl, ?_⟩
            exact new_end eF hbX hpX nbp hPX kX hw hy ht' kk
    · have h1' : ¬ 0 < (takeF st 3).1 := fun q => h1 (decide_eq_true q)
      have eO : newO st = (none, (takeF st 3).2) := by
        unfold newO
        rw [if_neg h1']
      have eF : newF st ps = ((ps.length : Int), (newT (newO st).1 (newO st).2).2, ps ++ [((newO st).1, (newT (newO st).1 (newO st).2).1)]) := by
        unfold newF
        rw [if_neg (fun q => q.1 (by rw [eO]))]
      rw [eO] at eF
      refine ⟨_, rfl, rfl, _, rfl, iteF (iteF ?_)⟩
      refine ⟨_, rfl, b, _, n + 1, rfl, hb1, g1, by omega, fun H3 hb3 k3 => ?_⟩
      refine ⟨_, rfl, rfl, _, rfl, iteF (iteF ?_)⟩
      have hpX : H3 p = some (.lst xs) := k3 p _ hp1 npb
      have t3 : Tk H1 H3 := k3.tk fun a ha => by rw [List.mem_singleton.mp ha]; exact not_tup_lst hb1
      have hPX : PairsV H3 xs ps := PairsV.tk (t1.trans t3) hP
      have kX : Kp [b, p] H H3 := (k1.trans k3).mono hs
      have hw : OptP H3 .non none := rfl
      have hy : OptS (.str (textF (takeF st 3).2).1) (newT none (takeF st 3).2).1 := rfl
      have hbX : H3 b = some (.lst (boxV (newT none (takeF st 3).2).2)) := hb3
      refine ⟨_, rfl, .inl ⟨rfl, _, SqL.of hpX⟩, _, rfl, _, rfl, by show 2 ≤ sizeLine; decide, fun t' ht' => ?_⟩
      have n1 : p ≠ t' := ne_of_none hpX ht'
      have n2 : b ≠ t' := ne_of_none hbX ht'
      refine ⟨p, xs, _, rfl, rfl, (by rw [upd_ne n1]; exact hpX), by rw [sizeLine_eq]; omega, ?_⟩
      refine ⟨_, rfl, p, _, rfl, .inl (SqL.of upd_same), _, _, rfl, rfl, ?_⟩
      exact new_end eF hbX hpX nbp hPX kX hw hy ht' kk
end
/-! ### a layer grows -/
structure Gr where
  rows : List (List Str × Ent)
  pairs : List Pr
  folds : List (List Str)
def hasR (rows : List (List Str × Ent)) (p : List Str) : Bool := rows.any fun r => decide (r.1 = p)
def pickO (i : Int) (p a : List Str) : Option (List Str) := [none, some p, some [], some a].getD i.toNat none
def numF (b : Bx) (ps : List Pr) : Int × Bx :=
  if 0 < ps.length then (if (takeF b 3).1 = 0 then takeF (takeF b 3).2 ps.length else (-1, (takeF b 3).2)) else (-1, b)
def num2F (b : Bx) (ps : List Pr) : Int × Bx × List Pr := if (numF b ps).1 < 0 then newF (numF b ps).2 ps else ((numF b ps).1, (numF b ps).2, ps)
def fileF (b : Bx) (p : List Str) (g : Gr) : Bx × Gr :=
  ((num2F b g.pairs).2.1, ⟨if 0 ≤ (num2F b g.pairs).1 then g.rows ++ [(p, .fil (num2F b g.pairs).1)] else g.rows, (num2F b g.pairs).2.2, g.folds⟩)
def midF (way : Int) (b : Bx) (p : List Str) (g : Gr) : Bx × Gr :=
  if way < 3 then ((takeF (anyF b).2 4).2, ⟨g.rows ++ [(p, .dir (pickO (takeF (anyF b).2 4).1 p (anyF b).1))], g.pairs, g.folds ++ [p]⟩)
  else if way < 6 then fileF b p g else (b, ⟨g.rows ++ [(p, .gone)], g.pairs, g.folds⟩)
def endF (way : Int) (b : Bx) (g : Gr) : Bx × Gr :=
  if way = 7 then (if some (anyF b).1 ∈ g.pairs.map (·.1) then ((anyF b).2, g)
    else ((takeF (textF (anyF b).2).2 2).2, ⟨g.rows, g.pairs ++ [(some (anyF b).1, [none, some (textF (anyF b).2).1].getD (takeF (textF (anyF b).2).2 2).1.toNat none)], g.folds⟩))
  else (b, g)
def gPath (b : Bx) (g : Gr) : List Str := g.folds.getD (takeF b g.folds.length).1.toNat [] ++ [(wordF (takeF b g.folds.length).2).1]
def gWay (b : Bx) (g : Gr) : Int × Bx := takeF (wordF (takeF b g.folds.length).2).2 8
def growF (b : Bx) (g : Gr) : Bx × Gr :=
  if hasR g.rows (gPath b g) = true ∨ 8 < (gPath b g).length ∨ 190 < g.pairs.length then ((gWay b g).2, g)
  else endF (gWay b g).1 (midF (gWay b g).1 (gWay b g).2 (gPath b g) g).1 (midF (gWay b g).1 (gWay b g).2 (gPath b g) g).2
def EntOk (e : Ent) (m : Nat) : Prop := match e with
  | .dir o => ∀ zs, o = some zs → Pth zs
  | .fil i => 0 ≤ i ∧ i < m
  | .gone => True
structure GrOk (g : Gr) (n : Nat) : Prop where
  rl : g.rows.length ≤ n
  pl : g.pairs.length ≤ 192
  fl : g.folds.length ≤ n + 1
  f0 : 0 < g.folds.length
  fp : ∀ zs ∈ g.folds, Pth zs ∧ zs.length ≤ 8
  rp : ∀ r ∈ g.rows, r.1 ≠ [] ∧ Pth r.1 ∧ EntOk r.2 g.pairs.length
  pp : ∀ p ∈ g.pairs, PrOk p
theorem EntOk.mono {e : Ent} {m m' : Nat} (h : EntOk e m) (q : m ≤ m') : EntOk e m' := by
  cases e with
  | dir o => exact h
  | fil i => exact ⟨h.1, by have := h.2; omega⟩
  | gone => trivial
theorem numF_good {b : Bx} {n : Nat} (g : Good b n) (ps : List Pr) : Good (numF b ps).2 (n + 2) := by
  unfold numF
  split
  · rename_i h
    have g1 := takeF_good g (m := 3) (by decide)
    split
    · exact takeF_good g1 (by omega)
    · exact g1.mono (by omega)
  · exact g.mono (by omega)
theorem numF_hi (b : Bx) (ps : List Pr) : (numF b ps).1 < ps.length := by
  unfold numF
  split
  · rename_i h
    split
    · exact takeF_hi _ (by omega)
    · show (-1 : Int) < _; omega
  · show (-1 : Int) < _; omega
theorem num2F_good {b : Bx} {n : Nat} (g : Good b n) (ps : List Pr) : Good (num2F b ps).2.1 (n + 92) := by
  unfold num2F
  split
  · exact (newF_good (numF_good g ps) ps).mono (by omega)
  · exact (numF_good g ps).mono (by omega)
theorem num2F_ok (b : Bx) {ps : List Pr} (h : ∀ p ∈ ps, PrOk p) : (num2F b ps).1 < (num2F b ps).2.2.length ∧ (num2F b ps).2.2.length ≤ ps.length + 1 ∧ ps.length ≤ (num2F b ps).2.2.length ∧ ∀ p ∈ (num2F b ps).2.2, PrOk p := by
  unfold num2F
  split
  · have := newF_num (numF b ps).2 ps
    exact ⟨this.1, this.2.1, this.2.2, newF_ok h⟩
  · exact ⟨numF_hi b ps, Nat.le_succ _, Nat.le_refl _, h⟩
theorem gWay_good {b : Bx} {n : Nat} {g : Gr} (hg : Good b n) (hf : 0 < g.folds.length) : Good (gWay b g).2 (n + 12) :=
  takeF_good (wordF_good (takeF_good hg (m := g.folds.length) (by omega))) (by decide)
theorem midF_good {b : Bx} {n : Nat} (hg : Good b n) (way : Int) (p : List Str) (g : Gr) : Good (midF way b p g).1 (n + 92) := by
  unfold midF
  split
  · exact (takeF_good (anyF_good hg) (by decide)).mono (by omega)
  · split
    · exact num2F_good hg _
    · exact hg.mono (by omega)
theorem endF_good {b : Bx} {n : Nat} (hg : Good b n) (way : Int) (g : Gr) : Good (endF way b g).1 (n + 90) := by
  unfold endF
  split
  · split
    · exact (anyF_good hg).mono (by omega)
    · exact (takeF_good (textF_good (anyF_good hg)) (by decide)).mono (by omega)
  · exact hg.mono (by omega)
theorem growF_good {b : Bx} {n : Nat} {g : Gr} (hg : Good b n) (hf : 0 < g.folds.length) : Good (growF b g).1 (n + 200) := by
  unfold growF
  split
  · exact (gWay_good hg hf).mono (by omega)
  · exact (endF_good (midF_good (gWay_good hg hf) _ _ _) _ _).mono (by omega)
theorem gPath_ok {b : Bx} {g : Gr} {n : Nat} (h : GrOk g n) : gPath b g ≠ [] ∧ Pth (gPath b g) := by
  have hm : g.folds.getD (takeF b g.folds.length).1.toNat [] ∈ g.folds := by
    have h0 := h.f0
    have lo := takeF_lo b (m := (g.folds.length : Int)) (by omega)
    have hi := takeF_hi b (m := (g.folds.length : Int)) (by omega)
    have hlt : (takeF b g.folds.length).1.toNat < g.folds.length := by omega
    rw [List.getD_eq_getElem?_getD, List.getElem?_eq_getElem hlt]
    exact List.getElem_mem _
  obtain ⟨q1, q2⟩ := h.fp _ hm
  refine ⟨by unfold gPath; simp, by unfold gPath; rw [List.length_append]; show _ + 1 ≤ 9; omega, fun z hz => ?_⟩
  unfold gPath at hz
  rcases List.mem_append.mp hz with q | q
  · exact q1.nam z q
  · rw [List.mem_singleton.mp q]
    exact wordF_len _
theorem pick4 {α : Type} (P : α → Prop) {x y z u d : α} {i : Int} (h0 : 0 ≤ i) (h1 : i < 4) (hx : P x) (hy : P y) (hz : P z) (hu : P u) : P ([x, y, z, u].getD i.toNat d) := by
  have : i.toNat = 0 ∨ i.toNat = 1 ∨ i.toNat = 2 ∨ i.toNat = 3 := by omega
  rcases this with e | e | e | e <;> rw [e] <;> assumption
theorem pick2 {α : Type} (P : α → Prop) {x y d : α} {i : Int} (h0 : 0 ≤ i) (h1 : i < 2) (hx : P x) (hy : P y) : P ([x, y].getD i.toNat d) := by
  have : i.toNat = 0 ∨ i.toNat = 1 := by omega
  rcases this with e | e <;> rw [e] <;> assumption
theorem midF_ok {b : Bx} {way : Int} {p : List Str} {g : Gr} {n : Nat} (h : GrOk g n) (hp : p ≠ [] ∧ Pth p) (h8 : p.length ≤ 8) (hl : g.pairs.length ≤ 190) : GrOk (midF way b p g).2 (n + 1) ∧ (midF way b p g).2.pairs.length ≤ 191 := by
  unfold midF
  split
  · refine ⟨⟨?_, h.pl, ?_, ?_, ?_, ?_, h.pp⟩, by show g.pairs.length ≤ 191; omega⟩
    · show (g.rows ++ [_]).length ≤ _
      rw [List.length_append]
      have := h.rl
      show g.rows.length + 1 ≤ _
      omega
    · show (g.folds ++ [_]).length ≤ _
      rw [List.length_append]
      have := h.fl
      show g.folds.length + 1 ≤ _
      omega
    · show 0 < (g.folds ++ [_]).length
      rw [List.length_append]
      show 0 < g.folds.length + 1
      omega
    · intro zs hz
      rcases List.mem_append.mp hz with q | q
      · exact h.fp zs q
      · rw [List.mem_singleton.mp q]
        exact ⟨hp.2, h8⟩
    · intro r hr
      rcases List.mem_append.mp hr with q | q
      · exact h.rp r q
      · rw [List.mem_singleton.mp q]
        refine ⟨hp.1, hp.2, ?_⟩
        show ∀ zs, pickO _ _ _ = some zs → Pth zs
        unfold pickO
        refine pick4 (fun o : Option (List Str) => ∀ zs, o = some zs → Pth zs) (takeF_lo _ (by decide)) (takeF_hi _ (by decide)) (fun zs e => nomatch e) (fun zs e => ?_) (fun zs e => ?_) (fun zs e => ?_)
        · cases e
          exact hp.2
        · cases e
          exact ⟨Nat.zero_le _, fun _ q => nomatch q⟩
        · cases e
          exact anyF_pth _
  · split
    · obtain ⟨q1, q2, q3, q4⟩ := num2F_ok b h.pp
      have hrl := h.rl
      refine ⟨⟨?_, ?_, ?_, h.f0, h.fp, ?_, q4⟩, by show (num2F b g.pairs).2.2.length ≤ 191; omega⟩
      · show (if 0 ≤ (num2F b g.pairs).1 then g.rows ++ [(p, Ent.fil (num2F b g.pairs).1)] else g.rows).length ≤ _
        split
        · rw [List.length_append]
          show g.rows.length + 1 ≤ _
          omega
        · omega
      · show (num2F b g.pairs).2.2.length ≤ 192
        omega
      · have := h.fl
        show g.folds.length ≤ _
        omega
      · show ∀ r ∈ (if 0 ≤ (num2F b g.pairs).1 then g.rows ++ [(p, Ent.fil (num2F b g.pairs).1)] else g.rows), r.1 ≠ [] ∧ Pth r.1 ∧ EntOk r.2 (num2F b g.pairs).2.2.length
        split
        · rename_i h0
          intro r hr
          rcases List.mem_append.mp hr with q | q
          · have := h.rp r q
            exact ⟨this.1, this.2.1, this.2.2.mono q3⟩
          · rw [List.mem_singleton.mp q]
            exact ⟨hp.1, hp.2, h0, q1⟩
        · intro r hr
          have := h.rp r hr
          exact ⟨this.1, this.2.1, this.2.2.mono q3⟩
    · refine ⟨⟨?_, h.pl, ?_, h.f0, h.fp, ?_, h.pp⟩, by show g.pairs.length ≤ 191; omega⟩
      · show (g.rows ++ [_]).length ≤ _
        rw [List.length_append]
        have := h.rl
        show g.rows.length + 1 ≤ _
        omega
      · have := h.fl
        show g.folds.length ≤ _
        omega
      · intro r hr
        rcases List.mem_append.mp hr with q | q
        · exact h.rp r q
        · rw [List.mem_singleton.mp q]
          exact ⟨hp.1, hp.2, trivial⟩
theorem endF_ok {b : Bx} {way : Int} {g : Gr} {n : Nat} (h : GrOk g n) (hl : g.pairs.length ≤ 191) : GrOk (endF way b g).2 n := by
  unfold endF
  split
  · split
    · exact h
    · refine ⟨h.rl, ?_, h.fl, h.f0, h.fp, fun r hr => ?_, fun p hp => ?_⟩
      · show (g.pairs ++ [_]).length ≤ _
        rw [List.length_append]
        show g.pairs.length + 1 ≤ _
        omega
      · have := h.rp r hr
        exact ⟨this.1, this.2.1, this.2.2.mono (by show _ ≤ (g.pairs ++ [_]).length; rw [List.length_append]; omega)⟩
      · rcases List.mem_append.mp hp with q | q
        · exact h.pp p q
        · rw [List.mem_singleton.mp q]
          refine ⟨fun zs e => ?_, ?_⟩
          · cases e
            exact anyF_pth _
          · exact pick2 (fun o : Option Str => ∀ z, o = some z → z.length ≤ 200) (takeF_lo _ (by decide)) (takeF_hi _ (by decide)) (fun _ e => nomatch e) (fun z e => by cases e; exact textF_len _)
  · exact h
theorem GrOk.mono {g : Gr} {n m : Nat} (h : GrOk g n) (q : n ≤ m) : GrOk g m := ⟨by have := h.rl; omega, h.pl, by have := h.fl; omega, h.f0, h.fp, h.rp, h.pp⟩
theorem growF_ok {b : Bx} {g : Gr} {n : Nat} (h : GrOk g n) : GrOk (growF b g).2 (n + 1) := by
  unfold growF
  split
  · exact h.mono (by omega)
  · rename_i hc
    have h8 : (gPath b g).length ≤ 8 := Nat.not_lt.mp fun q => hc (.inr (.inl q))
    have h9 : g.pairs.length ≤ 190 := Nat.not_lt.mp fun q => hc (.inr (.inr q))
    obtain ⟨q1, q2⟩ := midF_ok (b := (gWay b g).2) (way := (gWay b g).1) h (gPath_ok h) h8 h9
    exact endF_ok q1 q2
theorem rows_has {H : Hp} {m : PMap} {rows : List (List Str × Ent)} (h : RowsV H m rows) (p : List Str) : (valV m p).isSome = hasR rows p := by
  rw [← valV_any]
  unfold hasR
  induction h with
  | nil => rfl
  | cons q t ih => rw [List.any_cons, List.any_cons, ih, q.1]
/-! ### the four things that grow -/
structure St4 (H : Hp) (b r p f : Addr) (bx : Bx) (m : PMap) (xs fs : List V) (g : Gr) : Prop where
  hb : H b = some (.lst (boxV bx))
  hr : H r = some (dP m)
  hp : H p = some (.lst xs)
  hf : H f = some (.lst fs)
  nbp : b ≠ p
  nbf : b ≠ f
  npf : p ≠ f
  R : RowsV H m g.rows
  P : PairsV H xs g.pairs
  F : FoldsV H fs g.folds
section
variable {H H' : Hp} {b r p f : Addr} {bx bx' : Bx} {m : PMap} {xs fs : List V} {g : Gr}
theorem ne_lst_dP {H : Hp} {a c : Addr} {xs : List V} {m : PMap} (h : H a = some (.lst xs)) (h' : H c = some (dP m)) : a ≠ c := ne_of h h' (fun z => nomatch z)
theorem St4.nbr (s : St4 H b r p f bx m xs fs g) : b ≠ r := ne_lst_dP s.hb s.hr
theorem St4.npr (s : St4 H b r p f bx m xs fs g) : p ≠ r := ne_lst_dP s.hp s.hr
theorem St4.nfr (s : St4 H b r p f bx m xs fs g) : f ≠ r := ne_lst_dP s.hf s.hr
theorem St4.box (s : St4 H b r p f bx m xs fs g) (h : H' b = some (.lst (boxV bx'))) (k : Kp [b] H H') : St4 H' b r p f bx' m xs fs g := by
  have t : Tk H H' := k.tk fun a ha => by rw [List.mem_singleton.mp ha]; exact not_tup_lst s.hb
  exact ⟨h, k _ _ s.hr (by simpa using s.nbr.symm), k _ _ s.hp (by simpa using s.nbp.symm), k _ _ s.hf (by simpa using s.nbf.symm), s.nbp, s.nbf, s.npf, RowsV.tk t s.R, PairsV.tk t s.P, FoldsV.tk t s.F⟩
theorem St4.same (s : St4 H b r p f bx m xs fs g) (k : Same H H') : St4 H' b r p f bx m xs fs g :=
  ⟨k _ _ s.hb, k _ _ s.hr, k _ _ s.hp, k _ _ s.hf, s.nbp, s.nbf, s.npf, RowsV.tk (Tk.of k) s.R, PairsV.tk (Tk.of k) s.P, FoldsV.tk (Tk.of k) s.F⟩
theorem St4.new (s : St4 H b r p f bx m xs fs g) {t : Addr} {o : HO} (h : H t = none) : St4 (upd H t o) b r p f bx m xs fs g := s.same ((Same.refl H).upd h)
theorem tk_set {a : Addr} {o : HO} (h : ∀ ys, H a ≠ some (.tup ys)) : Tk H (upd H a o) := fun c zs q => by
  rw [upd_ne (fun z => h zs (by rw [← z]; exact q))]
  exact q
theorem St4.pair (s : St4 H b r p f bx m xs fs g) {v : V} {q : Pr} (h : PairV H v q) : St4 (upd H p (.lst (xs ++ [v]))) b r p f bx m (xs ++ [v]) fs ⟨g.rows, g.pairs ++ [q], g.folds⟩ := by
  have t : Tk H (upd H p (.lst (xs ++ [v]))) := tk_set (not_tup_lst s.hp)
  exact ⟨by rw [upd_ne s.nbp]; exact s.hb, by rw [upd_ne s.npr.symm]; exact s.hr, upd_same, by rw [upd_ne s.npf.symm]; exact s.hf, s.nbp, s.nbf, s.npf, RowsV.tk t s.R, Paired.snoc (PairsV.tk t s.P) (PairV.tk t h), FoldsV.tk t s.F⟩
theorem St4.fold (s : St4 H b r p f bx m xs fs g) {v : V} {zs : List Str} (h : FoldV H v zs) : St4 (upd H f (.lst (fs ++ [v]))) b r p f bx m xs (fs ++ [v]) ⟨g.rows, g.pairs, g.folds ++ [zs]⟩ := by
  have t : Tk H (upd H f (.lst (fs ++ [v]))) := tk_set (not_tup_lst s.hf)
  exact ⟨by rw [upd_ne s.nbf]; exact s.hb, by rw [upd_ne s.nfr.symm]; exact s.hr, by rw [upd_ne s.npf]; exact s.hp, upd_same, s.nbp, s.nbf, s.npf, RowsV.tk t s.R, PairsV.tk t s.P, Paired.snoc (FoldsV.tk t s.F) (FoldV.tk t h)⟩
theorem St4.row (s : St4 H b r p f bx m xs fs g) {v : V} {zs : List Str} {e : Ent} (h : EntV H v zs e) (hn : hasR g.rows zs = false) : St4 (upd H r (dP (putK m zs v))) b r p f bx (putK m zs v) xs fs ⟨g.rows ++ [(zs, e)], g.pairs, g.folds⟩ := by
  have t : Tk H (upd H r (dP (putK m zs v))) := tk_set (not_tup_dP s.hr)
  have e0 : valV m zs = none := by
    have := rows_has s.R zs
    rw [hn] at this
    exact Option.not_isSome_iff_eq_none.mp (by rw [this]; simp)
  refine ⟨by rw [upd_ne s.nbr]; exact s.hb, upd_same, by rw [upd_ne s.npr]; exact s.hp, by rw [upd_ne s.nfr]; exact s.hf, s.nbp, s.nbf, s.npf, ?_, PairsV.tk t s.P, FoldsV.tk t s.F⟩
  have e1 := putK_new v e0
  rw [e1] at t ⊢
  exact Paired.snoc (RowsV.tk t s.R) ⟨rfl, EntV.tk t h⟩
end
theorem at_of {xs : List V} {i : Int} {v : V} (h0 : 0 ≤ i) (h : xs[i.toNat]? = some v) : atI xs i = some v := by
  have hl := (List.getElem?_eq_some_iff.mp h).1
  unfold atI ixN
  rw [if_pos h0, if_pos (by omega)]
  exact h
theorem at_paired {β : Type} {R : V → β → Prop} {xs : List V} {os : List β} {i : Int} (d : β) (h : Paired R xs os) (h0 : 0 ≤ i) (h1 : i < (xs.length : Int)) : ∃ w, atI xs i = some w ∧ R w (os.getD i.toNat d) := by
  have hl := Paired.length h
  have hlt : i.toNat < os.length := by omega
  obtain ⟨w, e, q⟩ := paired_at h (List.getElem?_eq_getElem hlt)
  refine ⟨w, at_of h0 e, ?_⟩
  rw [List.getD_eq_getElem?_getD, List.getElem?_eq_getElem hlt]
  exact q
theorem endF_no {way : Int} (b : Bx) (g : Gr) (h : ¬ way = 7) : endF way b g = (b, g) := by
  unfold endF
  rw [if_neg h]
theorem seven {i : Int} (h : decide (V.int i = V.int 7) = true) : i = 7 := by
  have := of_decide_eq_true h
  injection this
def spGrow : Sp := fun vs H Q _ => ∃ (b r p f : Addr) (bx : Bx) (m : PMap) (xs fs : List V) (g : Gr) (n k : Nat), vs = [.ref b, .ref r, .ref p, .ref f] ∧ St4 H b r p f bx m xs fs g ∧ Good bx n ∧ n + 500 ≤ 1000000 ∧ GrOk g k ∧ k ≤ 1000 ∧
  ∀ (m' : PMap) (xs' fs' : List V) (H' : Hp), St4 H' b r p f (growF bx g).1 m' xs' fs' (growF bx g).2 → Kp [b, r, p, f] H H' → Q .non H'
section
variable {P : Program} {w : World} {K : PySem.W.Frag} {mg : Str → Option Value} {base : Heap}
theorem scGrow : FnScope ["_law_box_here", "_law_rows_here", "_law_pairs", "_law_folders", "_law_path", "_law_way", "_law_number", "_law_origin"] ["_law_box_here", "_law_rows_here", "_law_pairs", "_law_folders"] (defScope sGrow) := ⟨rfl, rfl, rfl, by decide +kernel, rfl, by decide +kernel, by decide +kernel⟩
theorem ok_grow {f : Addr} {fd : FuncData} (F : Fun K "_law_grow" "_law_grow" sGrow f fd) (mLen : mg "len" = none) (DT : DTake P w K mg base) (DW : Def P w K mg base 2 "_law_word" ["_law_box_here"] spWord) (DA : Def P w K mg base 3 "_law_any_path" ["_law_box_here"] spAny)
    (DX : Def P w K mg base 2 "_law_text" ["_law_box_here"] spText) (DN : Def P w K mg base 4 "_law_new_file" ["_law_box_here", "_law_pairs"] spNew) : FnOk P w K mg base CX0 5 f fd ["_law_box_here", "_law_rows_here", "_law_pairs", "_law_folders"] spGrow := by
  refine F.ok scGrow (fun vs H Q E h => ?_) (fun cdv A outer s H vs Q E hr h => ?_)
  · obtain ⟨b, r, p, f, bx, m, xs, fs, g, n, k, rfl, _⟩ := h
    rfl
  · obtain ⟨b, r, p, ff, bx, m, xs, fs, g, n, k, rfl, S0, hg, hn, ok, hk, kk⟩ := h
    have hu := hu_of hr
    have hr1 : Room 1 _ := hr.mono (by decide)
    have hr2 : Room 2 _ := hr.mono (by decide)
    have hr3 : Room 3 _ := hr.mono (by decide)
    have nd := scGrow.nd
    refine ⟨_, pss_cons (ps_set (i := 4) nd rfl (Or.inl rfl) (pe_op op_catA (pe_ix ix_list (pv 3) (pe_def DT hr1 (pa_cons (pv 0) (pa_cons (pe_callB call_len_seq (by rfl) mLen PySem.boot_len (pa_cons (pv 3) pa_nil)) pa_nil))) (fun _ _ => rfl)) (pe_tup (pa_cons (pe_def DW hr2 (pa_cons (pv 0) pa_nil)) pa_nil))))
      (pss_cons (ps_set (i := 5) nd rfl (Or.inl rfl) (pe_def DT hr1 (pa_cons (pv 0) (pa_cons pe_int pa_nil))))
      (pss_cons (ps_if (PW.pt (pw_or (pt_cmp (pc_din hu (pv 4) (pv 1))) (pw_or (pt_cmpR op_gt (pe_callB call_len_seq (by rfl) mLen PySem.boot_len (pa_cons (pv 4) pa_nil)) pe_int (nomark _)) (pw_or1 (pt_cmpR op_gt (pe_callB call_len_seq (by rfl) mLen PySem.boot_len (pa_cons (pv 2) pa_nil)) pe_int (nomark _)))))) (pss_one ps_retN) pss_nil)
      (pss_cons (ps_if (pt_cmpR op_lt (pv 5) pe_int (nomark _))
        (pss_cons (ps_dput hu (pv 1) (pv 4) (pe_tup (pa_cons (pv 4) (pa_cons pe_str (pa_cons (pe_ix ix_list (pe_lst (pa_cons pe_non (pa_cons (pv 4) (pa_cons (pe_tup pa_nil) (pa_cons (pe_def DA hr3 (pa_cons (pv 0) pa_nil)) pa_nil))))) (pe_def DT hr1 (pa_cons (pv 0) (pa_cons pe_int pa_nil))) (fun _ _ => rfl)) pa_nil)))) rfl)
        (pss_one (ps_expr (pe_bm PySem.F.plainAttrs_list PySem.F.slot_list_append PySem.F.type_list_append mt_append (pv 3) (pa_cons (pv 4) pa_nil)))))
        (pss_one (ps_if (pt_cmpR op_lt (pv 5) pe_int (nomark _))
          (pss_cons (ps_set (i := 6) nd rfl (Or.inl rfl) (pe_un un_neg pe_int))
          (pss_cons (ps_if (PW.pt (pw_and (pt_cmpR op_gt (pe_callB call_len_seq (by rfl) mLen PySem.boot_len (pa_cons (pv 2) pa_nil)) pe_int (nomark _)) (pw_and1 (pt_cmpR op_eq (pe_def DT hr1 (pa_cons (pv 0) (pa_cons pe_int pa_nil))) pe_int (nomark _)))))
            (pss_one (ps_set (i := 6) nd rfl (Or.inl rfl) (pe_def DT hr1 (pa_cons (pv 0) (pa_cons (pe_callB call_len_seq (by rfl) mLen PySem.boot_len (pa_cons (pv 2) pa_nil)) pa_nil))))) pss_nil)
          (pss_cons (ps_if (pt_cmpR op_lt (pv 6) pe_int (nomark _)) (pss_one (ps_set (i := 6) nd rfl (Or.inl rfl) (pe_def DN hr (pa_cons (pv 0) (pa_cons (pv 2) pa_nil))))) pss_nil)
          (pss_one (ps_if (pt_cmpR op_ge (pv 6) pe_int (nomark _)) (pss_one (ps_dput hu (pv 1) (pv 4) (pe_tup (pa_cons (pv 4) (pa_cons pe_str (pa_cons (pv 6) pa_nil)))) rfl)) pss_nil)))))
          (pss_one (ps_dput hu (pv 1) (pv 4) (pe_tup (pa_cons (pv 4) (pa_cons pe_str pa_nil))) rfl)))))
      (pss_one (ps_if (pt_cmpR op_eq (pv 5) pe_int (nomark _))
        (pss_cons (ps_set (i := 7) nd rfl (Or.inl rfl) (pe_def DA hr3 (pa_cons (pv 0) pa_nil)))
        (pss_one (ps_if (pt_cmpR (op_notInP hu) (pv 7) (pe_comp (x := "_law_pair") scGrow ⟨rfl, by decide +kernel, by decide +kernel, by decide +kernel, by decide +kernel, by decide +kernel⟩ (by decide +kernel) (pi_list (pv 2)) (fun C fp s H => pe_ix (show IxR _ (rIxT K) from ix_tup) (pv 8) pe_int (fun _ _ => rfl))) rfl)
          (pss_one (ps_expr (pe_bm PySem.F.plainAttrs_list PySem.F.slot_list_append PySem.F.type_list_append mt_append (pv 2) (pa_cons (pe_tup (pa_cons (pv 7) (pa_cons (pe_ix ix_list (pe_lst (pa_cons pe_non (pa_cons (pe_def DX hr2 (pa_cons (pv 0) pa_nil)) pa_nil))) (pe_def DT hr1 (pa_cons (pv 0) (pa_cons pe_int pa_nil))) (fun _ _ => rfl)) pa_nil))) pa_nil)))) pss_nil))) pss_nil))))), ?_⟩
    have lf : fs.length = g.folds.length := Paired.length S0.F
    have lp : xs.length = g.pairs.length := Paired.length S0.P
    have f0 := ok.f0
    have fl := ok.fl
    -- the path
    refine ⟨_, rfl, _, rfl, _, rfl, ff, _, rfl, .inl (SqL.of S0.hf), b, bx, n, (fs.length : Int), rfl, by omega, by omega, S0.hb, hg, by omega, fun H1 hb1 k1 => ?_⟩
    rw [lf] at hb1
    rw [lf]
    have S1 := S0.box hb1 k1
    have g1 := takeF_good hg (m := (g.folds.length : Int)) (by omega)
    obtain ⟨v0, hat, tf, rfl, htf⟩ := at_paired [] S1.F (takeF_lo bx (m := (g.folds.length : Int)) (by omega)) (by rw [lf]; exact takeF_hi bx (by omega))
    obtain ⟨pOk1, pOk2⟩ := gPath_ok (b := bx) ok
    have fLen : (g.folds.getD (takeF bx g.folds.length).1.toNat []).length ≤ 9 := by
      have := pOk2.len
      unfold gPath at this
      rw [List.length_append] at this
      omega
    refine ⟨ff, _, _, _, rfl, rfl, SqL.of S1.hf, hat, _, rfl, b, _, n + 1, rfl, S1.hb, g1, by omega, fun H2 hb2 k2 => ⟨by show 1 ≤ sizeLine; decide, fun tw htw => ?_⟩⟩
    have htf2 : H2 tf = some (.tup ((g.folds.getD (takeF bx g.folds.length).1.toNat []).map V.str)) := (k2.tk fun a ha => by rw [List.mem_singleton.mp ha]; exact not_tup_lst S1.hb) _ _ htf
    refine ⟨tf, tw, (g.folds.getD (takeF bx g.folds.length).1.toNat []).map V.str, _, rfl, rfl, by rw [upd_ne (ne_of_none htf2 htw)]; exact htf2, upd_same, by rw [List.length_map, sizeLine_eq]; show _ + 1 ≤ _; omega, fun t H4 ht s4 => ?_⟩
    have S4 := ((S1.box hb2 k2).new (o := .tup [V.str (wordF (takeF bx g.folds.length).2).1]) htw).same s4
    have hpath : H4 t = some (.tup ((gPath bx g).map V.str)) := by
      rw [ht]
      unfold gPath
      rw [List.map_append]
      rfl
    have g2 := wordF_good g1
    have K4 : Kp [b, r, p, ff] H H4 := (((k1.trans k2).mono (fun a ha => by rw [List.mem_singleton.mp ha]; simp)).new htw).trans (Kp.of s4)
    -- the way
    refine ⟨_, rfl, b, _, n + 11, 8, rfl, by decide, by decide, S4.hb, g2, by omega, fun H5 hb5 k5 => ?_⟩
    have S5 := S4.box hb5 k5
    have hpath5 : H5 t = some (.tup ((gPath bx g).map V.str)) := (k5.tk fun a ha => by rw [List.mem_singleton.mp ha]; exact not_tup_lst S4.hb) _ _ hpath
    have K5 : Kp [b, r, p, ff] H H5 := K4.trans (k5.mono fun a ha => by rw [List.mem_singleton.mp ha]; simp)
    have gw : Good (gWay bx g).2 (n + 12) := gWay_good hg f0
    have wlo : 0 ≤ (gWay bx g).1 := takeF_lo _ (by decide)
    have whi : (gWay bx g).1 < 8 := takeF_hi _ (by decide)
    have eS : ∀ {x : Prop} {y : Prop}, x → (x ∨ y) := fun h => .inl h
    have stop : (hasR g.rows (gPath bx g) = true ∨ 8 < (gPath bx g).length ∨ 190 < g.pairs.length) → Q .non H5 := fun hc => by
      have eG : growF bx g = ((gWay bx g).2, g) := by
        unfold growF
        rw [if_pos hc]
      rw [eG] at kk
      exact kk _ _ _ _ S5 K5
    refine ⟨_, rfl, _, rfl, r, _, rfl, getP S5.hr hpath5, _, rfl, ?_⟩
    rw [rows_has S5.R]
    refine ite2 (fun h1 => iteT (stop (.inl h1))) (fun h1 => ?_)
    refine ⟨_, rfl, t, _, rfl, .inr (SqT.of hpath5), _, _, rfl, rfl, _, rfl, ?_⟩
    refine ite2 (fun h2 => iteT (stop (.inr (.inl ?_)))) (fun h2 => ?_)
    · have := of_decide_eq_true h2
      rw [List.length_map] at this
      omega
    have h2' : ¬ 8 < (gPath bx g).length := fun q => h2 (decide_eq_true (by rw [List.length_map]; omega))
    refine ⟨_, rfl, p, _, rfl, .inl (SqL.of S5.hp), _, _, rfl, rfl, _, rfl, ?_⟩
    refine ite2 (fun h3 => stop (.inr (.inr ?_))) (fun h3 => ?_)
    · have := of_decide_eq_true h3
      omega
    have h3' : ¬ 190 < g.pairs.length := fun q => h3 (decide_eq_true (by rw [lp]; omega))
    have hno : hasR g.rows (gPath bx g) = false := by simpa using h1
    have eG : growF bx g = endF (gWay bx g).1 (midF (gWay bx g).1 (gWay bx g).2 (gPath bx g) g).1 (midF (gWay bx g).1 (gWay bx g).2 (gPath bx g) g).2 := by
      unfold growF
      rw [if_neg (fun q => q.elim (fun q => h1 q) (fun q => q.elim h2' h3'))]
    rw [eG] at kk
    have ml : m.length ≤ 1000 := by rw [Paired.length S5.R]; have := ok.rl; omega
    have hb5' : H5 b = some (.lst (boxV (gWay bx g).2)) := hb5
    have S5' : St4 H5 b r p ff (gWay bx g).2 m xs fs g := S5
    have sub1 : ∀ a ∈ [b], a ∈ [b, r, p, ff] := fun a ha => by rw [List.mem_singleton.mp ha]; simp
    refine ⟨_, rfl, _, _, rfl, rfl, _, rfl, ?_⟩
    refine ite2 (fun h4 => ?_) (fun h4 => ?_)
    · -- a folder
      have h4' : (gWay bx g).1 < 3 := of_decide_eq_true h4
      have eM : midF (gWay bx g).1 (gWay bx g).2 (gPath bx g) g = ((takeF (anyF (gWay bx g).2).2 4).2, ⟨g.rows ++ [(gPath bx g, .dir (pickO (takeF (anyF (gWay bx g).2).2 4).1 (gPath bx g) (anyF (gWay bx g).2).1))], g.pairs, g.folds ++ [gPath bx g]⟩) := by
        unfold midF
        rw [if_pos h4']
      rw [eM] at kk
      rw [endF_no _ _ (by omega)] at kk
      refine ⟨_, rfl, _, rfl, by show 0 ≤ sizeLine; decide, fun te hte => ?_⟩
      have S6 := S5'.new (o := .tup []) hte
      have hpath6 : (upd H5 te (.tup [])) t = some (.tup ((gPath bx g).map V.str)) := by rw [upd_ne (ne_of_none hpath5 hte)]; exact hpath5
      refine ⟨_, rfl, b, _, n + 12, rfl, S6.hb, gw, by omega, fun ta H6 hta hta6 hb6 k6 => ?_⟩
      have S7 := S6.box hb6 k6
      have t6 : Tk (upd H5 te (.tup [])) H6 := k6.tk fun a ha => by rw [List.mem_singleton.mp ha]; exact not_tup_lst S6.hb
      refine ⟨by show 4 ≤ sizeLine; decide, fun tl htl => ?_⟩
      have S8 := S7.new (o := .lst [V.non, V.ref t, V.ref te, V.ref ta]) htl
      have ga := anyF_good gw
      refine ⟨_, rfl, b, _, n + 94, 4, rfl, by decide, by decide, S8.hb, ga.mono (by omega), by omega, fun H9 hb9 k9 => ?_⟩
      have S9 := S8.box hb9 k9
      have t9 : Tk (upd H6 tl (.lst [V.non, V.ref t, V.ref te, V.ref ta])) H9 := k9.tk fun a ha => by rw [List.mem_singleton.mp ha]; exact not_tup_lst S8.hb
      have tl8 : Tk H6 (upd H6 tl (.lst [V.non, V.ref t, V.ref te, V.ref ta])) := Tk.of ((Same.refl _).upd htl)
      have hl9 : H9 tl = some (.lst [V.non, V.ref t, V.ref te, V.ref ta]) := k9 _ _ upd_same (by simpa using (ne_of_none S7.hb htl).symm)
      have hpath9 : H9 t = some (.tup ((gPath bx g).map V.str)) := t9 _ _ (tl8 _ _ (t6 _ _ hpath6))
      have hte9 : H9 te = some (.tup (([] : List Str).map V.str)) := t9 _ _ (tl8 _ _ (t6 _ _ upd_same))
      have hta9 : H9 ta = some (.tup ((anyF (gWay bx g).2).1.map V.str)) := t9 _ _ (tl8 _ _ hta6)
      obtain ⟨ww, hww, oww⟩ := at_paired (R := OptP H9) (xs := [V.non, V.ref t, V.ref te, V.ref ta]) (os := [none, some (gPath bx g), some [], some (anyF (gWay bx g).2).1]) none (.cons rfl (.cons ⟨t, rfl, hpath9⟩ (.cons ⟨te, rfl, hte9⟩ (.cons ⟨ta, rfl, hta9⟩ .nil)))) (takeF_lo (anyF (gWay bx g).2).2 (m := 4) (by decide)) (takeF_hi (anyF (gWay bx g).2).2 (m := 4) (by decide))
      refine ⟨tl, _, _, ww, rfl, rfl, SqL.of hl9, hww, by show 3 ≤ sizeLine; decide, fun tt htt => ?_⟩
      have S10 := S9.new (o := .tup [V.ref t, V.str "folder", ww]) htt
      have tk10 : Tk H9 (upd H9 tt (.tup [V.ref t, V.str "folder", ww])) := Tk.of ((Same.refl _).upd htt)
      have hpath10 := tk10 _ _ hpath9
      refine ⟨_, rfl, _, rfl, r, _, rfl, setP S10.hr hpath10 (by rw [sizeLine_eq]; omega), ?_⟩
      have ent : EntV (upd H9 tt (.tup [V.ref t, V.str "folder", ww])) (.ref tt) (gPath bx g) (.dir (pickO (takeF (anyF (gWay bx g).2).2 4).1 (gPath bx g) (anyF (gWay bx g).2).1)) := ⟨tt, t, rfl, hpath10, ww, OptP.tk tk10 oww, upd_same⟩
      have S11 := S10.row ent hno
      refine ⟨_, rfl, .inl ⟨rfl, _, SqL.of S11.hf⟩, _, rfl, ff, fs, _, rfl, rfl, S11.hf, by rw [sizeLine_eq]; omega, ?_⟩
      have hpath11 : (upd (upd H9 tt (.tup [V.ref t, V.str "folder", ww])) r (dP (putK m (gPath bx g) (.ref tt)))) t = some (.tup ((gPath bx g).map V.str)) := tk_set (not_tup_dP S10.hr) _ _ hpath10
      have S12 := S11.fold (v := .ref t) ⟨t, rfl, hpath11⟩
      refine ⟨_, rfl, rfl, _, rfl, ?_⟩
      refine ite2 (fun q => absurd (seven q) (by show ¬ (gWay bx g).1 = 7; omega)) (fun _ => ?_)
      refine kk _ _ _ _ S12 ?_
      have K9 : Kp [b, r, p, ff] H H9 := (((K5.new hte).trans (k6.mono sub1)).new htl).trans (k9.mono sub1)
      exact ((K9.new htt).set (by simp)).set (by simp)
    · have h4' : ¬ (gWay bx g).1 < 3 := fun q => h4 (decide_eq_true q)
      refine ⟨_, rfl, _, _, rfl, rfl, _, rfl, ?_⟩
      refine ite2 (fun h5 => ?_) (fun h5 => ?_)
      · -- a file
        have h5' : (gWay bx g).1 < 6 := of_decide_eq_true h5
        have eM : midF (gWay bx g).1 (gWay bx g).2 (gPath bx g) g = fileF (gWay bx g).2 (gPath bx g) g := by
          unfold midF
          rw [if_neg h4', if_pos h5']
        rw [eM, endF_no _ _ (by omega)] at kk
        -- behind the number
        have last : ∀ (i : Int) (bb : Bx) (xs2 : List V) (ps2 : List Pr) (HX : Hp), num2F (gWay bx g).2 g.pairs = (i, bb, ps2) → St4 HX b r p ff bb m xs2 fs ⟨g.rows, ps2, g.folds⟩ → Kp [b, r, p, ff] H HX → HX t = some (.tup ((gPath bx g).map V.str)) →
            (0 ≤ i → ∀ tt, HX tt = none → Q .non (upd (upd HX tt (.tup [V.ref t, V.str "file", V.int i])) r (dP (putK m (gPath bx g) (.ref tt))))) ∧ (¬ 0 ≤ i → Q .non HX) := by
          intro i bb xs2 ps2 HX e SX KX hpX
          unfold fileF at kk
          rw [e] at kk
          refine ⟨fun h0 tt htt => ?_, fun h0 => ?_⟩
          · have SY := SX.new (o := .tup [V.ref t, V.str "file", V.int i]) htt
            have tkY : Tk HX (upd HX tt (.tup [V.ref t, V.str "file", V.int i])) := Tk.of ((Same.refl _).upd htt)
            have ent : EntV (upd HX tt (.tup [V.ref t, V.str "file", V.int i])) (.ref tt) (gPath bx g) (.fil i) := ⟨tt, t, rfl, tkY _ _ hpX, upd_same⟩
            have SZ := SY.row ent hno
            refine kk (putK m (gPath bx g) (.ref tt)) xs2 fs _ ?_ ((KX.new htt).set (by simp))
            show St4 _ b r p ff bb _ _ _ ⟨if 0 ≤ i then g.rows ++ [(gPath bx g, Ent.fil i)] else g.rows, ps2, g.folds⟩
            rw [if_pos h0]
            exact SZ
          · refine kk m xs2 fs _ ?_ KX
            show St4 _ b r p ff bb _ _ _ ⟨if 0 ≤ i then g.rows ++ [(gPath bx g, Ent.fil i)] else g.rows, ps2, g.folds⟩
            rw [if_neg h0]
            exact SX
        have hg190 : g.pairs.length ≤ 190 := Nat.not_lt.mp h3'
        refine ⟨_, rfl, ?_⟩
        refine ⟨_, rfl, p, _, rfl, .inl (SqL.of S5'.hp), _, _, rfl, rfl, _, rfl, ?_⟩
        refine ite2 (fun h6 => ?_) (fun h6 => iteF ?_)
        · have h6' : 0 < g.pairs.length := by
            have := of_decide_eq_true h6
            omega
          refine ⟨_, rfl, b, _, n + 12, 3, rfl, by decide, by decide, hb5', gw, by omega, fun H6 hb6 k6 => ⟨rfl, _, rfl, ?_⟩⟩
          have S6 := S5'.box hb6 k6
          have gt := takeF_good gw (m := 3) (by decide)
          have hpath6 : H6 t = some (.tup ((gPath bx g).map V.str)) := (k6.tk fun a ha => by rw [List.mem_singleton.mp ha]; exact not_tup_lst hb5') _ _ hpath5
          have K6 := K5.trans (k6.mono sub1)
          refine ite2 (fun h7 => ?_) (fun h7 => ?_)
          · have h7' : (takeF (gWay bx g).2 3).1 = 0 := by
              have := of_decide_eq_true h7
              injection this
            refine ⟨_, rfl, _, rfl, p, _, rfl, .inl (SqL.of S6.hp), b, _, n + 13, (xs.length : Int), rfl, by omega, by omega, S6.hb, gt, by omega, fun H7 hb7 k7 => ?_⟩
            rw [lp] at hb7 ⊢
            have S7 := S6.box hb7 k7
            have hpath7 : H7 t = some (.tup ((gPath bx g).map V.str)) := (k7.tk fun a ha => by rw [List.mem_singleton.mp ha]; exact not_tup_lst S6.hb) _ _ hpath6
            have l0 : 0 ≤ (takeF (takeF (gWay bx g).2 3).2 g.pairs.length).1 := takeF_lo _ (by omega)
            have eN : numF (gWay bx g).2 g.pairs = takeF (takeF (gWay bx g).2 3).2 g.pairs.length := by
              unfold numF
              rw [if_pos h6', if_pos h7']
            have e2 : num2F (gWay bx g).2 g.pairs = ((takeF (takeF (gWay bx g).2 3).2 g.pairs.length).1, (takeF (takeF (gWay bx g).2 3).2 g.pairs.length).2, g.pairs) := by
              unfold num2F
              rw [eN, if_neg (by omega)]
            obtain ⟨fin1, fin2⟩ := last _ _ _ _ H7 e2 S7 (K6.trans (k7.mono sub1)) hpath7
            refine ⟨_, rfl, _, _, rfl, rfl, _, rfl, ?_⟩
            refine ite2 (fun q => absurd (of_decide_eq_true q) (by show ¬ (takeF (takeF (gWay bx g).2 3).2 g.pairs.length).1 < 0; omega)) (fun _ => ?_)
            refine ⟨_, rfl, _, _, rfl, rfl, _, rfl, ?_⟩
            refine ite2 (fun _ => ?_) (fun q => absurd (decide_eq_true l0) q)
            refine ⟨_, rfl, _, rfl, by show 3 ≤ sizeLine; decide, fun tt htt => ?_⟩
            refine ⟨_, rfl, _, rfl, r, _, rfl, setP (S7.new htt).hr (by rw [upd_ne (ne_of_none hpath7 htt)]; exact hpath7) (by rw [sizeLine_eq]; omega), ?_⟩
            refine ⟨_, rfl, rfl, _, rfl, ?_⟩
            refine ite2 (fun q => absurd (seven q) (by show ¬ (gWay bx g).1 = 7; omega)) (fun _ => fin1 l0 tt htt)
          · have h7' : ¬ (takeF (gWay bx g).2 3).1 = 0 := fun q => h7 (decide_eq_true (by rw [q]))
            have eN : numF (gWay bx g).2 g.pairs = (-1, (takeF (gWay bx g).2 3).2) := by
              unfold numF
              rw [if_pos h6', if_neg h7']
            have e2 : num2F (gWay bx g).2 g.pairs = newF (takeF (gWay bx g).2 3).2 g.pairs := by
              unfold num2F
              rw [eN, if_pos (show (-1 : Int) < 0 by decide)]
            have SN := S6
            have gN : Good (takeF (gWay bx g).2 3).2 (n + 20) := gt.mono (by omega)
            have KN := K6
            have hpN := hpath6
            refine ⟨_, rfl, _, _, rfl, rfl, _, rfl, ?_⟩
            refine ite2 (fun _ => ?_) (fun q => absurd (decide_eq_true (by decide)) q)
            refine ⟨_, rfl, _, rfl, b, p, _, n + 20, xs, g.pairs, rfl, SN.hb, SN.hp, SN.nbp, SN.P, gN, by omega, by omega, fun xs2 H8 hb8 hp8 hP8 k8 => ?_⟩
            have t8 : Tk _ H8 := k8.tk fun a ha => by
              rcases List.mem_cons.mp ha with q | q
              · rw [q]; exact not_tup_lst SN.hb
              · rw [List.mem_singleton.mp q]; exact not_tup_lst SN.hp
            have S8 : St4 H8 b r p ff (newF (takeF (gWay bx g).2 3).2 g.pairs).2.1 m xs2 fs ⟨g.rows, (newF (takeF (gWay bx g).2 3).2 g.pairs).2.2, g.folds⟩ := ⟨hb8, k8 _ _ SN.hr (by simp [SN.nbr.symm, SN.npr.symm]), hp8, k8 _ _ SN.hf (by simp [SN.nbf.symm, SN.npf.symm]), SN.nbp, SN.nbf, SN.npf, RowsV.tk t8 SN.R, hP8, FoldsV.tk t8 SN.F⟩
            have hpath8 := t8 _ _ hpN
            obtain ⟨fin1, fin2⟩ := last (newF (takeF (gWay bx g).2 3).2 g.pairs).1 (newF (takeF (gWay bx g).2 3).2 g.pairs).2.1 xs2 (newF (takeF (gWay bx g).2 3).2 g.pairs).2.2 H8 e2 S8 (KN.trans (k8.mono fun a ha => by rcases List.mem_cons.mp ha with q | q; exact q ▸ (by simp); rw [List.mem_singleton.mp q]; simp)) hpath8
            refine ⟨_, rfl, _, _, rfl, rfl, _, rfl, ?_⟩
            refine ite2 (fun q => ?_) (fun q => ?_)
            · refine ⟨_, rfl, _, rfl, by show 3 ≤ sizeLine; decide, fun tt htt => ?_⟩
              refine ⟨_, rfl, _, rfl, r, _, rfl, setP (S8.new htt).hr (by rw [upd_ne (ne_of_none hpath8 htt)]; exact hpath8) (by rw [sizeLine_eq]; omega), ?_⟩
              refine ⟨_, rfl, rfl, _, rfl, ?_⟩
              refine ite2 (fun q => absurd (seven q) (by show ¬ (gWay bx g).1 = 7; omega)) (fun _ => fin1 (of_decide_eq_true q) tt htt)
            · refine ⟨_, rfl, rfl, _, rfl, ?_⟩
              refine ite2 (fun q => absurd (seven q) (by show ¬ (gWay bx g).1 = 7; omega)) (fun _ => fin2 (fun z => q (decide_eq_true z)))
        · have h6' : ¬ 0 < g.pairs.length := fun q => h6 (decide_eq_true (by rw [lp]; omega))
          have eN : numF (gWay bx g).2 g.pairs = (-1, (gWay bx g).2) := by
            unfold numF
            rw [if_neg h6']
          have e2 : num2F (gWay bx g).2 g.pairs = newF (gWay bx g).2 g.pairs := by
            unfold num2F
            rw [eN, if_pos (show (-1 : Int) < 0 by decide)]
          have SN := S5'
          have gN : Good (gWay bx g).2 (n + 20) := gw.mono (by omega)
          have KN := K5
          have hpN := hpath5
          refine ⟨_, rfl, _, _, rfl, rfl, _, rfl, ?_⟩
          refine ite2 (fun _ => ?_) (fun q => absurd (decide_eq_true (by decide)) q)
          refine ⟨_, rfl, _, rfl, b, p, _, n + 20, xs, g.pairs, rfl, SN.hb, SN.hp, SN.nbp, SN.P, gN, by omega, by omega, fun xs2 H8 hb8 hp8 hP8 k8 => ?_⟩
          have t8 : Tk _ H8 := k8.tk fun a ha => by
            rcases List.mem_cons.mp ha with q | q
            · rw [q]; exact not_tup_lst SN.hb
            · rw [List.mem_singleton.mp q]; exact not_tup_lst SN.hp
          have S8 : St4 H8 b r p ff (newF (gWay bx g).2 g.pairs).2.1 m xs2 fs ⟨g.rows, (newF (gWay bx g).2 g.pairs).2.2, g.folds⟩ := ⟨hb8, k8 _ _ SN.hr (by simp [SN.nbr.symm, SN.npr.symm]), hp8, k8 _ _ SN.hf (by simp [SN.nbf.symm, SN.npf.symm]), SN.nbp, SN.nbf, SN.npf, RowsV.tk t8 SN.R, hP8, FoldsV.tk t8 SN.F⟩
          have hpath8 := t8 _ _ hpN
          obtain ⟨fin1, fin2⟩ := last (newF (gWay bx g).2 g.pairs).1 (newF (gWay bx g).2 g.pairs).2.1 xs2 (newF (gWay bx g).2 g.pairs).2.2 H8 e2 S8 (KN.trans (k8.mono fun a ha => by rcases List.mem_cons.mp ha with q | q; exact q ▸ (by simp); rw [List.mem_singleton.mp q]; simp)) hpath8
          refine ⟨_, rfl, _, _, rfl, rfl, _, rfl, ?_⟩
          refine ite2 (fun q => ?_) (fun q => ?_)
          · refine ⟨_, rfl, _, rfl, by show 3 ≤ sizeLine; decide, fun tt htt => ?_⟩
            refine ⟨_, rfl, _, rfl, r, _, rfl, setP (S8.new htt).hr (by rw [upd_ne (ne_of_none hpath8 htt)]; exact hpath8) (by rw [sizeLine_eq]; omega), ?_⟩
            refine ⟨_, rfl, rfl, _, rfl, ?_⟩
            refine ite2 (fun q => absurd (seven q) (by show ¬ (gWay bx g).1 = 7; omega)) (fun _ => fin1 (of_decide_eq_true q) tt htt)
          · refine ⟨_, rfl, rfl, _, rfl, ?_⟩
            refine ite2 (fun q => absurd (seven q) (by show ¬ (gWay bx g).1 = 7; omega)) (fun _ => fin2 (fun z => q (decide_eq_true z)))
      · -- a mark that hides
        have h5' : ¬ (gWay bx g).1 < 6 := fun q => h5 (decide_eq_true q)
        have eM : midF (gWay bx g).1 (gWay bx g).2 (gPath bx g) g = ((gWay bx g).2, ⟨g.rows ++ [(gPath bx g, .gone)], g.pairs, g.folds⟩) := by
          unfold midF
          rw [if_neg h4', if_neg h5']
        rw [eM] at kk
        refine ⟨_, rfl, by show 2 ≤ sizeLine; decide, fun tt htt => ?_⟩
        have S6 := S5'.new (o := .tup [V.ref t, V.str "gone"]) htt
        have tk6 : Tk H5 (upd H5 tt (.tup [V.ref t, V.str "gone"])) := Tk.of ((Same.refl _).upd htt)
        have hpath6 := tk6 _ _ hpath5
        refine ⟨_, rfl, _, rfl, r, _, rfl, setP S6.hr hpath6 (by rw [sizeLine_eq]; omega), ?_⟩
        have ent : EntV (upd H5 tt (.tup [V.ref t, V.str "gone"])) (.ref tt) (gPath bx g) .gone := ⟨tt, t, rfl, hpath6, upd_same⟩
        have S7 := S6.row ent hno
        have K7 := (K5.new (o := .tup [V.ref t, V.str "gone"]) htt).set (a := r) (o := dP (putK m (gPath bx g) (.ref tt))) (by simp)
        generalize hG : (upd (upd H5 tt (.tup [V.ref t, V.str "gone"])) r (dP (putK m (gPath bx g) (.ref tt)))) = H7 at S7 K7 ⊢
        generalize (putK m (gPath bx g) (.ref tt)) = m7 at S7
        refine ⟨_, rfl, rfl, _, rfl, ?_⟩
        refine ite2 (fun h7 => ?_) (fun h7 => ?_)
        · have h7' : (gWay bx g).1 = 7 := seven h7
          refine ⟨_, rfl, b, _, n + 12, rfl, S7.hb, gw, by omega, fun ta H8 hta hta8 hb8 k8 => ?_⟩
          have S8 := S7.box hb8 k8
          have K8 := K7.trans (k8.mono sub1)
          have ga := anyF_good gw
          have hg190 : g.pairs.length ≤ 190 := Nat.not_lt.mp h3'
          refine ⟨_, rfl, _, rfl, p, rfl, ⟨_, SqL.of S8.hp⟩, comp_list (xs := xs) (fun i ys H' => i ≤ g.pairs.length ∧ H' = H8 ∧ OptPs H8 ys ((g.pairs.take i).map (·.1))) (by rw [sizeLine_eq]; omega)
            ⟨Nat.zero_le _, rfl, .nil⟩ (fun i ys H' ⟨hi, _, e⟩ => by rw [Paired.length e, List.length_map, List.length_take]; omega) (fun i ys H' _ ⟨_, e, _⟩ => by rw [e]; exact SqL.of S8.hp) ?_ ?_⟩
          · rintro i ys H' v hv ⟨hi, rfl, e⟩
            obtain ⟨pr, hpr, t', w', y', rfl, o1, o2, o3⟩ := paired_get S8.P hv
            have hlt := (List.getElem?_eq_some_iff.mp hpr).1
            refine ⟨_, rfl, t', _, _, _, rfl, rfl, SqT.of o3, rfl, hlt, rfl, ?_⟩
            rw [List.take_succ, hpr, List.map_append]
            exact Paired.snoc e o1
          · rintro ys H' ⟨_, rfl, e⟩ L hL
            have S9 := S8.new (o := .lst ys) hL
            have K9 := K8.new (o := .lst ys) hL
            have tk9 : Tk H' (upd H' L (.lst ys)) := Tk.of ((Same.refl _).upd hL)
            have hta9 := tk9 _ _ hta8
            have e' : OptPs (upd H' L (.lst ys)) ys (g.pairs.map (·.1)) := by
              rw [lp, List.take_of_length_le (Nat.le_refl _)] at e
              exact Paired.mono (fun _ _ q => OptP.tk tk9 q) e
            refine ⟨ta, L, _, ys, _, rfl, hta9, rfl, SqL.of upd_same, e', _, rfl, ?_⟩
            refine ite2 (fun h8 => ?_) (fun h8 => ?_)
            · have h8' : ¬ some (anyF (gWay bx g).2).1 ∈ g.pairs.map (·.1) := fun q => by
                have z : (!decide (some (anyF (gWay bx g).2).1 ∈ g.pairs.map (·.1))) = true := h8
                rw [decide_eq_true q] at z
                cases z
              have eE : endF (gWay bx g).1 (gWay bx g).2 ⟨g.rows ++ [(gPath bx g, .gone)], g.pairs, g.folds⟩ = ((takeF (textF (anyF (gWay bx g).2).2).2 2).2, ⟨g.rows ++ [(gPath bx g, .gone)], g.pairs ++ [(some (anyF (gWay bx g).2).1, [none, some (textF (anyF (gWay bx g).2).2).1].getD (takeF (textF (anyF (gWay bx g).2).2).2 2).1.toNat none)], g.folds⟩) := by
                unfold endF
                rw [if_pos h7', if_neg h8']
              rw [eE] at kk
              refine ⟨_, rfl, .inl ⟨rfl, _, SqL.of S9.hp⟩, _, rfl, _, rfl, b, _, n + 94, rfl, S9.hb, ga.mono (by omega), by omega, fun H10 hb10 k10 => ?_⟩
              have S10 := S9.box hb10 k10
              have gx := textF_good ga
              refine ⟨by show 2 ≤ sizeLine; decide, fun tl htl => ?_⟩
              have S11 := S10.new (o := .lst [V.non, V.str (textF (anyF (gWay bx g).2).2).1]) htl
              refine ⟨_, rfl, b, _, n + 100, 2, rfl, by decide, by decide, S11.hb, gx.mono (by omega), by omega, fun H12 hb12 k12 => ?_⟩
              have S12 := S11.box hb12 k12
              have hl12 : H12 tl = some (.lst [V.non, V.str (textF (anyF (gWay bx g).2).2).1]) := k12 _ _ upd_same (by simpa using (ne_of_none S10.hb htl).symm)
              obtain ⟨ww, hww, oww⟩ := at_paired (R := OptS) (xs := [V.non, V.str (textF (anyF (gWay bx g).2).2).1]) (os := [none, some (textF (anyF (gWay bx g).2).2).1]) none (.cons rfl (.cons rfl .nil)) (takeF_lo (textF (anyF (gWay bx g).2).2).2 (m := 2) (by decide)) (takeF_hi (textF (anyF (gWay bx g).2).2).2 (m := 2) (by decide))
              have hta12 : H12 ta = some (.tup ((anyF (gWay bx g).2).1.map V.str)) := by
                have t10 : Tk (upd H' L (.lst ys)) H10 := k10.tk fun a ha => by rw [List.mem_singleton.mp ha]; exact not_tup_lst S9.hb
                have t12 : Tk (upd H10 tl (.lst [V.non, V.str (textF (anyF (gWay bx g).2).2).1])) H12 := k12.tk fun a ha => by rw [List.mem_singleton.mp ha]; exact not_tup_lst S11.hb
                exact t12 _ _ (Tk.of ((Same.refl _).upd htl) _ _ (t10 _ _ hta9))
              refine ⟨tl, _, _, ww, rfl, rfl, SqL.of hl12, hww, by show 2 ≤ sizeLine; decide, fun tu htu => ?_⟩
              have S13 := S12.new (o := .tup [V.ref ta, ww]) htu
              refine ⟨p, xs, _, rfl, rfl, S13.hp, by rw [sizeLine_eq]; omega, ?_⟩
              have pv : PairV (upd H12 tu (.tup [V.ref ta, ww])) (.ref tu) (some (anyF (gWay bx g).2).1, [none, some (textF (anyF (gWay bx g).2).2).1].getD (takeF (textF (anyF (gWay bx g).2).2).2 2).1.toNat none) := ⟨tu, .ref ta, ww, rfl, ⟨ta, rfl, by rw [upd_ne (ne_of_none hta12 htu)]; exact hta12⟩, oww, upd_same⟩
              have K12 : Kp [b, r, p, ff] H H12 := ((K9.trans (k10.mono sub1)).new htl).trans (k12.mono sub1)
              exact kk _ _ _ _ (S13.pair pv) ((K12.new htu).set (by simp))
            · have h8' : some (anyF (gWay bx g).2).1 ∈ g.pairs.map (·.1) := Classical.byContradiction fun q => h8 (by rw [decide_eq_false q]; rfl)
              have eE : endF (gWay bx g).1 (gWay bx g).2 ⟨g.rows ++ [(gPath bx g, .gone)], g.pairs, g.folds⟩ = ((anyF (gWay bx g).2).2, ⟨g.rows ++ [(gPath bx g, .gone)], g.pairs, g.folds⟩) := by
                unfold endF
                rw [if_pos h7', if_pos h8']
              rw [eE] at kk
              exact kk _ _ _ _ S9 K9
        · rw [endF_no _ _ (fun q => h7 (decide_eq_true (by show V.int (gWay bx g).1 = _; rw [q])))] at kk
          exact kk _ _ _ _ S7 K7
end
/-! ### eight folders within one another -/
def lookR (rows : List (List Str × Ent)) (p : List Str) : Option Ent := (rows.find? fun r => decide (r.1 = p)).map (·.2)
def isDir : Ent → Bool
  | .dir _ => true
  | _ => false
def putR (rows : List (List Str × Ent)) (p : List Str) (e : Ent) : List (List Str × Ent) := if (rows.any fun r => decide (r.1 = p)) = true then rows.map (fun r => if r.1 = p then (r.1, e) else r) else rows ++ [(p, e)]
theorem rows_look {H : Hp} {m : PMap} {rows : List (List Str × Ent)} (h : RowsV H m rows) (p : List Str) : (∀ w, valV m p = some w → ∃ e, lookR rows p = some e ∧ EntV H w p e) ∧ (valV m p = none → lookR rows p = none) := by
  induction h with
  | nil => exact ⟨(fun w e => by cases e), (fun _ => rfl)⟩
  | @cons q r l1 l2 hq t ih =>
    by_cases e : q.1 = p
    · have e2 : r.1 = p := hq.1.symm.trans e
      have el : lookR (r :: l2) p = some r.2 := by
        unfold lookR
        rw [List.find?_cons_of_pos (by exact decide_eq_true e2)]
        rfl
      refine ⟨fun w hw => ⟨r.2, el, ?_⟩, fun hn => ?_⟩
      · rw [valV_pos e] at hw
        cases hw
        rw [← e2]
        exact hq.2
      · rw [valV_pos e] at hn
        cases hn
    · have e2 : ¬ r.1 = p := fun z => e (hq.1.trans z)
      have el : lookR (r :: l2) p = lookR l2 p := by
        unfold lookR
        rw [List.find?_cons_of_neg (by rw [decide_eq_false e2]; exact Bool.false_ne_true)]
      rw [valV_neg e, el]
      exact ih
theorem rows_put {H : Hp} {m : PMap} {rows : List (List Str × Ent)} (h : RowsV H m rows) {p : List Str} {v : V} {e : Ent} (hv : EntV H v p e) : RowsV H (putK m p v) (putR rows p e) := by
  have e1 : (m.any fun kv => decide (kv.1 = p)) = rows.any fun r => decide (r.1 = p) := by
    clear hv
    induction h with
    | nil => rfl
    | cons q t ih => rw [List.any_cons, List.any_cons, ih, q.1]
  unfold putK putR
  rw [e1]
  split
  · clear e1
    rename_i hh
    clear hh
    induction h with
    | nil => exact .nil
    | @cons q r l1 l2 hq t ih =>
      rw [List.map_cons, List.map_cons]
      refine .cons ?_ ih
      by_cases z : q.1 = p
      · have z2 : r.1 = p := hq.1.symm.trans z
        rw [if_pos z, if_pos z2]
        exact ⟨hq.1, by show EntV H v r.1 e; rw [z2]; exact hv⟩
      · rw [if_neg z, if_neg (fun y => z (hq.1.trans y))]
        exact hq
  · exact Paired.snoc h ⟨rfl, hv⟩
def rep (name : Str) (k : Nat) : List Str := List.replicate k name
theorem rep_succ (name : Str) (k : Nat) : rep name (k + 1) = rep name k ++ [name] := List.replicate_succ'
def deepL (rows : List (List Str × Ent)) (name : Str) : Nat → List (List Str × Ent) × Bool
  | 0 => (rows, true)
  | k + 1 => if (deepL rows name k).2 = false then deepL rows name k else match lookR (deepL rows name k).1 (rep name (k + 1)) with
    | some e => ((deepL rows name k).1, isDir e)
    | none => ((deepL rows name k).1 ++ [(rep name (k + 1), .dir none)], true)
def deepF (rows : List (List Str × Ent)) (name : Str) : List (List Str × Ent) := if (deepL rows name 8).2 = true then putR (deepL rows name 8).1 (rep name 9) .gone else (deepL rows name 8).1
theorem deepL_stop {rows : List (List Str × Ent)} {name : Str} {k : Nat} (h : (deepL rows name k).2 = false) : ∀ j, deepL rows name (k + j) = deepL rows name k
  | 0 => rfl
  | j + 1 => by
    have ih := deepL_stop h j
    show (if (deepL rows name (k + j)).2 = false then deepL rows name (k + j) else _) = _
    rw [if_pos (by rw [ih]; exact h)]
    exact ih
theorem deepL_some {rows : List (List Str × Ent)} {name : Str} {k : Nat} (h : (deepL rows name k).2 = true) {e : Ent} (he : lookR (deepL rows name k).1 (rep name (k + 1)) = some e) : deepL rows name (k + 1) = ((deepL rows name k).1, isDir e) := by
  show (if (deepL rows name k).2 = false then _ else _) = _
  rw [if_neg (by rw [h]; simp), he]
theorem deepL_none {rows : List (List Str × Ent)} {name : Str} {k : Nat} (h : (deepL rows name k).2 = true) (he : lookR (deepL rows name k).1 (rep name (k + 1)) = none) : deepL rows name (k + 1) = ((deepL rows name k).1 ++ [(rep name (k + 1), .dir none)], true) := by
  show (if (deepL rows name k).2 = false then _ else _) = _
  rw [if_neg (by rw [h]; simp), he]
def RowOk (m : Nat) (r : List Str × Ent) : Prop := r.1 ≠ [] ∧ Pth r.1 ∧ EntOk r.2 m
theorem rep_pth {name : Str} (h : name.length ≤ 8) {k : Nat} (hk : k ≤ 9) : Pth (rep name k) := ⟨by unfold rep; rw [List.length_replicate]; exact hk, fun z hz => by rw [List.eq_of_mem_replicate hz]; exact h⟩
theorem rep_ne (name : Str) (k : Nat) : rep name (k + 1) ≠ [] := by
  unfold rep
  rw [List.replicate_succ]
  exact fun q => nomatch q
theorem deepL_ok {rows : List (List Str × Ent)} {name : Str} {m : Nat} (hn : name.length ≤ 8) (h : ∀ r ∈ rows, RowOk m r) : ∀ k, k ≤ 8 → (∀ r ∈ (deepL rows name k).1, RowOk m r) ∧ (deepL rows name k).1.length ≤ rows.length + k
  | 0, _ => ⟨h, Nat.le_refl _⟩
  | k + 1, hk => by
    obtain ⟨i1, i2⟩ := deepL_ok hn h k (by omega)
    show (∀ r ∈ (if (deepL rows name k).2 = false then _ else _ : List (List Str × Ent) × Bool).1, RowOk m r) ∧ (if (deepL rows name k).2 = false then _ else _ : List (List Str × Ent) × Bool).1.length ≤ _
    split
    · exact ⟨i1, by omega⟩
    · cases q : lookR (deepL rows name k).1 (rep name (k + 1)) with
      | some e => exact ⟨i1, by show (deepL rows name k).1.length ≤ _; omega⟩
      | none =>
        refine ⟨fun r hr => ?_, by show ((deepL rows name k).1 ++ [_]).length ≤ _; rw [List.length_append]; show _ + 1 ≤ _; omega⟩
        rcases List.mem_append.mp hr with z | z
        · exact i1 r z
        · rw [List.mem_singleton.mp z]
          exact ⟨rep_ne _ _, rep_pth hn (by omega), fun zs e => nomatch e⟩
theorem deepF_ok {rows : List (List Str × Ent)} {name : Str} {m : Nat} (hn : name.length ≤ 8) (h : ∀ r ∈ rows, RowOk m r) : (∀ r ∈ deepF rows name, RowOk m r) ∧ (deepF rows name).length ≤ rows.length + 9 := by
  obtain ⟨i1, i2⟩ := deepL_ok hn h 8 (Nat.le_refl _)
  unfold deepF
  split
  · have hr9 : RowOk m (rep name 9, Ent.gone) := ⟨rep_ne _ _, rep_pth hn (by omega), trivial⟩
    unfold putR
    split
    · refine ⟨fun r hr => ?_, by rw [List.length_map]; omega⟩
      obtain ⟨r0, h0, rfl⟩ := List.mem_map.mp hr
      split
      · rename_i e
        rw [e]
        exact hr9
      · exact i1 r0 h0
    · refine ⟨fun r hr => ?_, by rw [List.length_append]; show _ + 1 ≤ _; omega⟩
      rcases List.mem_append.mp hr with z | z
      · exact i1 r z
      · rw [List.mem_singleton.mp z]
        exact hr9
  · exact ⟨i1, by omega⟩
def spDeep : Sp := fun vs H Q _ => ∃ (r : Addr) (name : Str) (m : PMap) (rows : List (List Str × Ent)), vs = [.ref r, .str name] ∧ H r = some (dP m) ∧ RowsV H m rows ∧ rows.length ≤ 1000 ∧ (∀ x ∈ rows, RowOk 1000 x) ∧ name.length ≤ 8 ∧
  ∀ (m' : PMap) (H' : Hp), H' r = some (dP m') → RowsV H' m' (deepF rows name) → Kp [r] H H' → Q .non H'
section
variable {P : Program} {w : World} {K : PySem.W.Frag} {mg : Str → Option Value} {base : Heap}
theorem scDeep : FnScope ["_law_rows_here", "_law_name", "_law_path", "_law_k"] ["_law_rows_here", "_law_name"] (defScope sDeep) := ⟨rfl, rfl, rfl, by decide +kernel, rfl, by decide +kernel, by decide +kernel⟩
theorem ok_deep {f : Addr} {fd : FuncData} (F : Fun K "_law_deep" "_law_deep" sDeep f fd) (mRange : mg "range" = none) : FnOk P w K mg base CX0 1 f fd ["_law_rows_here", "_law_name"] spDeep := by
  refine F.ok scDeep (fun vs H Q E h => ?_) (fun cdv A outer s H vs Q E hr h => ?_)
  · obtain ⟨r, name, m, rows, rfl, _⟩ := h
    rfl
  · obtain ⟨r, name, m, rows, rfl, hrr, hR, hl, hok, hn, kk⟩ := h
    have hu := hu_of hr
    have nd := scDeep.nd
    refine ⟨_, pss_cons (ps_set (i := 2) nd rfl (Or.inl rfl) (pe_tup pa_nil))
      (pss_cons (ps_for PassesOwn.never rfl (pi_range1 rfl mRange (pa_cons pe_int pa_nil)) (pg_name (i := 3) nd rfl (Or.inl rfl))
        (pss_cons (ps_set (i := 2) nd rfl (Or.inl rfl) (pe_op op_catA (pv 2) (pe_tup (pa_cons (pv 1) pa_nil))))
        (pss_one (ps_if (pt_cmpR op_ne (pe_ix ix_tup (pe_bm PySem.F.plainAttrs_dict PySem.F.slot_dict_setdefault PySem.F.type_dict_setdefault (mt_setdef hu) (pv 0) (pa_cons (pv 2) (pa_cons (pe_tup (pa_cons (pv 2) (pa_cons pe_str (pa_cons pe_non pa_nil)))) pa_nil))) pe_int (fun _ _ => rfl)) pe_str (nomark _)) (pss_one ps_retN) pss_nil))))
      (pss_one (ps_dput hu (pv 0) (pe_op op_catA (pv 2) (pe_tup (pa_cons (pv 1) pa_nil))) (pe_tup (pa_cons (pe_op op_catA (pv 2) (pe_tup (pa_cons (pv 1) pa_nil))) (pa_cons pe_str pa_nil))) rfl))), ?_⟩
    refine ⟨by show 0 ≤ sizeLine; decide, fun t0 ht0 => ?_⟩
    refine ⟨_, rfl, by decide, by decide, ?_⟩
    have k0 : Kp [r] H (upd H t0 (.tup [])) := (Kp.refl _ H).new ht0
    refine for_range (n := 8) (fun i σ H2 => (∃ t v3 m2, σ = [some (.ref r), some (.str name), some (.ref t), v3] ∧ H2 t = some (.tup ((rep name i).map V.str)) ∧ H2 r = some (dP m2) ∧ RowsV H2 m2 (deepL rows name i).1) ∧ (deepL rows name i).2 = true ∧ Kp [r] H H2)
      ⟨⟨t0, _, m, rfl, upd_same, by rw [upd_ne (ne_of_none hrr ht0)]; exact hrr, RowsV.tk (Tk.of ((Same.refl H).upd ht0)) hR⟩, rfl, k0⟩ ?_ ?_
    · rintro i σ H2 hi ⟨⟨t, v3, m2, rfl, ht, hr2, hR2⟩, hgo, k2⟩
      have hl2 : m2.length ≤ 1100 := by
        rw [Paired.length hR2]
        have := (deepL_ok hn hok i (by omega)).2
        omega
      refine ⟨_, rfl, _, rfl, by show 1 ≤ sizeLine; decide, fun tn htn => ⟨t, tn, (rep name i).map V.str, _, rfl, rfl, by rw [upd_ne (ne_of_none ht htn)]; exact ht, upd_same, by rw [List.length_map]; unfold rep; rw [List.length_replicate, sizeLine_eq]; show i + 1 ≤ _; omega, fun t' H4 ht4 s4 => ?_⟩⟩
      have hp4 : H4 t' = some (.tup ((rep name (i + 1)).map V.str)) := by
        rw [ht4, rep_succ, List.map_append]
        rfl
      have sm : Same H2 H4 := ((Same.refl H2).upd (o := .tup [V.str name]) htn).trans s4
      have hr4 : H4 r = some (dP m2) := sm _ _ hr2
      have hR4 := RowsV.tk (Tk.of sm) hR2
      have k4 : Kp [r] H H4 := k2.trans (Kp.of sm)
      refine ⟨_, rfl, .inr (.inr (.inl ⟨rfl, .inr ⟨_, hr4⟩⟩)), _, rfl, _, rfl, by show 3 ≤ sizeLine; decide, fun tv htv => ?_⟩
      have sv : Same H4 (upd H4 tv (.tup [V.ref t', V.str "folder", V.non])) := (Same.refl H4).upd htv
      have hr5 := sv _ _ hr4
      have hp5 := sv _ _ hp4
      have hR5 := RowsV.tk (Tk.of sv) hR4
      have k5 : Kp [r] H (upd H4 tv (.tup [V.ref t', V.str "folder", V.non])) := k4.trans (Kp.of sv)
      have lk := rows_look hR5 (rep name (i + 1))
      have halt : ∀ e, lookR (deepL rows name i).1 (rep name (i + 1)) = some e → isDir e = false → Q .non (upd H4 tv (.tup [V.ref t', V.str "folder", V.non])) := fun e he hd => by
        have e1 := deepL_some hgo he
        have e2 : (deepL rows name (i + 1)).2 = false := by rw [e1]; exact hd
        have e3 := deepL_stop e2 (8 - (i + 1))
        rw [show i + 1 + (8 - (i + 1)) = 8 by omega, e1] at e3
        have eF : deepF rows name = (deepL rows name i).1 := by
          unfold deepF
          rw [e3, if_neg (by rw [hd]; simp)]
        refine kk m2 _ hr5 ?_ k5
        rw [eF]
        exact hR5
      refine ⟨r, t', m2, _, .ref tv, rfl, rfl, hr5, hp5, by rw [sizeLine_eq]; omega, fun w hw => ?_, fun hnone => ?_⟩
      · obtain ⟨e, he, tt, pa, rfl, h1, h2⟩ := lk.1 w hw
        cases e with
        | dir o =>
          obtain ⟨w', _, h4⟩ := h2
          refine ⟨tt, _, _, _, rfl, rfl, SqT.of h4, rfl, rfl, _, rfl, ?_⟩
          refine ite2 (fun q => ?_) (fun _ => ?_)
          · rw [decide_eq_true rfl] at q
            cases q
          · have e1 := deepL_some hgo he
            refine ⟨⟨t', _, m2, rfl, hp5, hr5, ?_⟩, ?_, k5⟩
            · rw [e1]
              exact hR5
            · rw [e1]
              rfl
        | fil j =>
          refine ⟨tt, _, _, _, rfl, rfl, SqT.of h2, rfl, rfl, _, rfl, ?_⟩
          refine ite2 (fun _ => halt _ he rfl) (fun q => ?_)
          exact absurd (by decide +kernel) q
        | gone =>
          refine ⟨tt, _, _, _, rfl, rfl, SqT.of h2, rfl, rfl, _, rfl, ?_⟩
          refine ite2 (fun _ => halt _ he rfl) (fun q => ?_)
          exact absurd (by decide +kernel) q
      · have hln := lk.2 hnone
        have e1 := deepL_none hgo hln
        have tkr : Tk (upd H4 tv (.tup [V.ref t', V.str "folder", V.non])) (upd (upd H4 tv (.tup [V.ref t', V.str "folder", V.non])) r (dP (putK m2 (rep name (i + 1)) (.ref tv)))) := tk_set (not_tup_dP hr5)
        have htv5 : (upd (upd H4 tv (.tup [V.ref t', V.str "folder", V.non])) r (dP (putK m2 (rep name (i + 1)) (.ref tv)))) tv = some (.tup [V.ref t', V.str "folder", V.non]) := tkr _ _ upd_same
        refine ⟨tv, _, _, _, rfl, rfl, SqT.of htv5, rfl, rfl, _, rfl, ?_⟩
        refine ite2 (fun q => ?_) (fun _ => ?_)
        · rw [decide_eq_true rfl] at q
          cases q
        · refine ⟨⟨t', _, putK m2 (rep name (i + 1)) (.ref tv), rfl, tkr _ _ hp5, upd_same, ?_⟩, by rw [e1], k5.set (by simp)⟩
          rw [e1]
          have ep := putK_new (.ref tv) hnone
          rw [ep] at tkr htv5 ⊢
          exact Paired.snoc (RowsV.tk tkr hR5) ⟨rfl, tv, t', rfl, tkr _ _ hp5, .non, rfl, htv5⟩
    · rintro σ H2 ⟨⟨t, v3, m2, rfl, ht, hr2, hR2⟩, hgo, k2⟩
      have hl2 : m2.length ≤ 1100 := by
        rw [Paired.length hR2]
        have := (deepL_ok hn hok 8 (by omega)).2
        omega
      have eF : deepF rows name = putR (deepL rows name 8).1 (rep name 9) .gone := by
        unfold deepF
        rw [if_pos hgo]
      rw [eF] at kk
      have l8 : ((rep name 8).map V.str).length + [V.str name].length ≤ sizeLine := by
        rw [List.length_map]
        unfold rep
        rw [List.length_replicate, sizeLine_eq]
        show 8 + 1 ≤ 16777216
        decide
      refine ⟨_, rfl, _, rfl, by show 1 ≤ sizeLine; decide, fun tn htn => ⟨t, tn, (rep name 8).map V.str, _, rfl, rfl, by rw [upd_ne (ne_of_none ht htn)]; exact ht, upd_same, l8, fun t1 H3 ht1 s3 => ?_⟩⟩
      have sm : Same H2 H3 := ((Same.refl H2).upd (o := .tup [V.str name]) htn).trans s3
      refine ⟨by show 2 ≤ sizeLine; decide, fun tv htv => ?_⟩
      have sv : Same H3 (upd H3 tv (.tup [V.ref t1, V.str "gone"])) := (Same.refl H3).upd htv
      have htX := sv _ _ (sm _ _ ht)
      refine ⟨_, rfl, _, rfl, _, rfl, by show 1 ≤ sizeLine; decide, fun tn2 htn2 => ⟨t, tn2, (rep name 8).map V.str, _, rfl, rfl, by rw [upd_ne (ne_of_none htX htn2)]; exact htX, upd_same, l8, fun t2 H5 ht2 s5 => ?_⟩⟩
      have s25 : Same (upd H3 tv (.tup [V.ref t1, V.str "gone"])) H5 := ((Same.refl _).upd (o := .tup [V.str name]) htn2).trans s5
      have sAll : Same H2 H5 := sm.trans (sv.trans s25)
      have e9 : (rep name 8).map V.str ++ [V.str name] = (rep name 9).map V.str := by
        rw [show (9 : Nat) = 8 + 1 from rfl, rep_succ, List.map_append]
        rfl
      rw [e9] at ht1 ht2
      refine ⟨r, _, rfl, setP (sAll _ _ hr2) ht2 (by rw [sizeLine_eq]; omega), ?_⟩
      have tkr : Tk H5 (upd H5 r (dP (putK m2 (rep name 9) (.ref tv)))) := tk_set (not_tup_dP (sAll _ _ hr2))
      refine kk _ _ upd_same (rows_put (RowsV.tk tkr (RowsV.tk (Tk.of sAll) hR2)) ⟨tv, t1, rfl, tkr _ _ (s25 _ _ (sv _ _ ht1)), tkr _ _ (s25 _ _ upd_same)⟩) ((k2.trans (Kp.of sAll)).set (by simp))
end
/-! ### the whole layer -/
def iterG : Nat → Bx → Gr → Bx × Gr
  | 0, b, g => (b, g)
  | n + 1, b, g => growF (iterG n b g).1 (iterG n b g).2
def cellF (ns : List Int) (k : Nat) (g : Gr) : Gr := (iterG (1 + (takeF (boxF ns k) 3).1).toNat (takeF (boxF ns k) 3).2 g).2
def cellsF (ns : List Int) : Nat → Gr
  | 0 => ⟨[], [], [[]]⟩
  | k + 1 => cellF ns k (cellsF ns k)
theorem iterG_ok {b : Bx} {g : Gr} {n k : Nat} (hb : Good b n) (hg : GrOk g k) : ∀ i, Good (iterG i b g).1 (n + 200 * i) ∧ GrOk (iterG i b g).2 (k + i)
  | 0 => ⟨hb, hg⟩
  | i + 1 => by
    obtain ⟨h1, h2⟩ := iterG_ok hb hg i
    exact ⟨(growF_good h1 h2.f0).mono (by omega), growF_ok h2⟩
theorem cellF_ok (ns : List Int) (k : Nat) {g : Gr} {n : Nat} (hg : GrOk g n) : GrOk (cellF ns k g) (n + 3) := by
  have lo := takeF_lo (boxF ns k) (m := 3) (by decide)
  have hi := takeF_hi (boxF ns k) (m := 3) (by decide)
  exact (iterG_ok (takeF_good (boxF_good ns k) (m := 3) (by decide)) hg _).2.mono (by omega)
theorem cellsF_ok (ns : List Int) : ∀ k, GrOk (cellsF ns k) (3 * k)
  | 0 => ⟨Nat.le_refl _, Nat.zero_le _, Nat.le_refl _, Nat.zero_lt_one, fun zs h => by rw [List.mem_singleton.mp h]; exact ⟨⟨Nat.zero_le _, (fun _ q => nomatch q)⟩, Nat.zero_le _⟩, (fun _ h => nomatch h), (fun _ h => nomatch h)⟩
  | k + 1 => (cellF_ok ns k (cellsF_ok ns k)).mono (by omega)
def gEnd (ns : List Int) : Gr := cellsF ns ns.length
def lastB (ns : List Int) : Bx := boxF ns (ns.length / 2)
def isDeep (ns : List Int) : Bool := decide ((takeF (lastB ns) 4).1 = 0)
def rows2 (ns : List Int) : List (List Str × Ent) := if isDeep ns = true then deepF (gEnd ns).rows (wordF (takeF (lastB ns) 4).2).1 else (gEnd ns).rows
def box2 (ns : List Int) : Bx := if isDeep ns = true then (wordF (takeF (lastB ns) 4).2).2 else (takeF (lastB ns) 4).2
def turnF (ns : List Int) : Int × Bx := takeF (box2 ns) (1 + (gEnd ns).pairs.length)
def shiftE (np : Nat) (turn : Int) : Ent → Ent
  | .fil i => .fil ((i + turn) % np)
  | e => e
def entF (rows : List (List Str × Ent)) (np : Nat) (turn : Int) (p : List Str) : List Str × Ent := (p, shiftE np turn ((lookR rows p).getD .gone))
def sortP (l : List (List Str)) : List (List Str) := l.mergeSort fun x y => !Srt.lexB y x
theorem uniq {R : List Str → List Str → Prop} (anti : ∀ a b, R a b → R b a → a = b) : ∀ {l₁ l₂ : List (List Str)}, l₁.Perm l₂ → l₁.Pairwise R → l₂.Pairwise R → l₁ = l₂
  | [], l₂, p, _, _ => (List.Perm.nil_eq p)
  | a :: t, [], p, _, _ => absurd p.symm (by simp)
  | a :: t, b :: u, p, h1, h2 => by
    have e : a = b := by
      have ha : a ∈ b :: u := p.mem_iff.mp List.mem_cons_self
      have hb : b ∈ a :: t := p.mem_iff.mpr List.mem_cons_self
      rcases List.mem_cons.mp ha with q | q
      · exact q
      · rcases List.mem_cons.mp hb with q' | q'
        · exact q'.symm
        · exact anti a b ((List.pairwise_cons.mp h1).1 b q') ((List.pairwise_cons.mp h2).1 a q)
    subst e
    rw [uniq anti (List.Perm.cons_inv p) (List.pairwise_cons.mp h1).2 (List.pairwise_cons.mp h2).2]
theorem sortP_is {ks l : List (List Str)} (hp : ks.Perm l) (hs : ks.Pairwise fun x y => Srt.lexB y x = false) : ks = sortP l := by
  refine uniq (R := fun x y => Srt.lexB y x = false) (fun a b h1 h2 => Srt.lexB_total h2 h1) (hp.trans (List.mergeSort_perm _ _).symm) hs ?_
  have tr : ∀ a b c : List Str, (!Srt.lexB b a) = true → (!Srt.lexB c b) = true → (!Srt.lexB c a) = true := by
    intro a b c h1 h2
    have h1' : Srt.pathOrd.kle a b := show Srt.lexB b a = false by simpa using h1
    have h2' : Srt.pathOrd.kle b c := show Srt.lexB c b = false by simpa using h2
    have := PyProof.Rows.KeyOrd.kle_trans h1' h2'
    have h3 : Srt.lexB c a = false := this
    rw [h3]
    rfl
  have to : ∀ a b : List Str, ((!Srt.lexB b a) || (!Srt.lexB a b)) = true := by
    intro a b
    cases q : Srt.lexB b a with
    | false => rfl
    | true =>
      cases q2 : Srt.lexB a b with
      | false => rfl
      | true =>
        have := Srt.lexB_trans q q2
        rw [Srt.lexB_irrefl] at this
        cases this
  have := List.pairwise_mergeSort (le := fun x y => !Srt.lexB y x) tr to l
  exact this.imp fun h => by simpa using h
structure Lay where
  ents : List (List Str × Ent)
  pairs : List Pr
def cutL {α : Type} (xs : List α) (lo hi : Option Int) : List α := (xs.drop (HT.sIx xs.length 0 lo)).take (HT.sIx xs.length xs.length hi - HT.sIx xs.length 0 lo)
def layF (ns : List Int) : Lay :=
  ⟨(sortP ((rows2 ns).map (·.1))).map (entF (rows2 ns) (gEnd ns).pairs.length (turnF ns).1), cutL (gEnd ns).pairs (some ((gEnd ns).pairs.length - (turnF ns).1)) none ++ cutL (gEnd ns).pairs none (some ((gEnd ns).pairs.length - (turnF ns).1))⟩
abbrev EntsV (H : Hp) : List V → List (List Str × Ent) → Prop := Paired fun v e => EntV H v e.1 e.2
theorem EntsV.tk {H H' : Hp} (k : Tk H H') {vs : List V} {es : List (List Str × Ent)} (h : EntsV H vs es) : EntsV H' vs es := Paired.mono (fun _ _ q => EntV.tk k q) h
def LayV (H : Hp) (v : V) (L : Lay) : Prop := ∃ t e p es ps, v = .ref t ∧ H t = some (.tup [.ref e, .ref p]) ∧ H e = some (.tup es) ∧ H p = some (.tup ps) ∧ EntsV H es L.ents ∧ PairsV H ps L.pairs
theorem LayV.tk {H H' : Hp} (k : Tk H H') {v : V} {L : Lay} (h : LayV H v L) : LayV H' v L := by
  obtain ⟨t, e, p, es, ps, h0, h1, h2, h3, h4, h5⟩ := h
  exact ⟨t, e, p, es, ps, h0, k _ _ h1, k _ _ h2, k _ _ h3, EntsV.tk k h4, PairsV.tk k h5⟩
theorem paired_drop {α β : Type} {R : α → β → Prop} : ∀ {xs : List α} {ys : List β} (n : Nat), Paired R xs ys → Paired R (xs.drop n) (ys.drop n)
  | _, _, 0, h => h
  | _, _, _ + 1, .nil => .nil
  | _, _, n + 1, .cons _ t => paired_drop n t
theorem paired_take {α β : Type} {R : α → β → Prop} : ∀ {xs : List α} {ys : List β} (n : Nat), Paired R xs ys → Paired R (xs.take n) (ys.take n)
  | _, _, 0, _ => .nil
  | _, _, _ + 1, .nil => .nil
  | _, _, n + 1, .cons r t => .cons r (paired_take n t)
theorem paired_app {α β : Type} {R : α → β → Prop} : ∀ {xs xs' : List α} {ys ys' : List β}, Paired R xs ys → Paired R xs' ys' → Paired R (xs ++ xs') (ys ++ ys')
  | _, _, _, _, .nil, h => h
  | _, _, _, _, .cons r t, h => .cons r (paired_app t h)
theorem paired_cut {H : Hp} {xs : List V} {ps : List Pr} (h : PairsV H xs ps) (lo hi : Option Int) : PairsV H (cutV xs lo hi) (cutL ps lo hi) := by
  unfold cutV cutL
  rw [Paired.length h]
  exact paired_take _ (paired_drop _ h)
theorem cutL_le {α : Type} (xs : List α) (lo hi : Option Int) : (cutL xs lo hi).length ≤ xs.length := by
  unfold cutL
  rw [List.length_take, List.length_drop]
  omega
theorem cutL_mem {α : Type} {xs : List α} {lo hi : Option Int} {x : α} (h : x ∈ cutL xs lo hi) : x ∈ xs := List.mem_of_mem_drop (List.mem_of_mem_take h)
theorem gEnd_ok {ns : List Int} (h : ns.length ≤ 63) : GrOk (gEnd ns) 189 := (cellsF_ok ns ns.length).mono (by omega)
theorem rows2_ok {ns : List Int} (h : ns.length ≤ 63) : (∀ r ∈ rows2 ns, RowOk (gEnd ns).pairs.length r) ∧ (rows2 ns).length ≤ 198 := by
  have g := gEnd_ok h
  have hr := g.rl
  unfold rows2
  split
  · have := deepF_ok (rows := (gEnd ns).rows) (m := (gEnd ns).pairs.length) (wordF_len (takeF (lastB ns) 4).2) g.rp
    exact ⟨this.1, by omega⟩
  · exact ⟨g.rp, by omega⟩
theorem box2_good (ns : List Int) : Good (box2 ns) 11 := by
  have g1 := takeF_good (boxF_good ns (ns.length / 2)) (m := 4) (by decide)
  unfold box2
  split
  · exact wordF_good g1
  · exact g1.mono (by omega)
theorem same_of {S : List Addr} {H H' : Hp} (k : Kp S H H') (hs : ∀ a ∈ S, H a = none) : Same H H' := fun a o e => k a o e fun q => by rw [hs a q] at e; cases e
structure St3 (H : Hp) (r p f : Addr) (m : PMap) (xs fs : List V) (g : Gr) : Prop where
  hr : H r = some (dP m)
  hp : H p = some (.lst xs)
  hf : H f = some (.lst fs)
  npf : p ≠ f
  R : RowsV H m g.rows
  P : PairsV H xs g.pairs
  F : FoldsV H fs g.folds
theorem St4.st3 {H : Hp} {b r p f : Addr} {bx : Bx} {m : PMap} {xs fs : List V} {g : Gr} (s : St4 H b r p f bx m xs fs g) : St3 H r p f m xs fs g := ⟨s.hr, s.hp, s.hf, s.npf, s.R, s.P, s.F⟩
theorem St3.st4 {H : Hp} {b r p f : Addr} {bx : Bx} {m : PMap} {xs fs : List V} {g : Gr} (s : St3 H r p f m xs fs g) (hb : H b = some (.lst (boxV bx))) (n1 : b ≠ p) (n2 : b ≠ f) : St4 H b r p f bx m xs fs g := ⟨hb, s.hr, s.hp, s.hf, n1, n2, s.npf, s.R, s.P, s.F⟩
theorem St3.same {H H' : Hp} {r p f : Addr} {m : PMap} {xs fs : List V} {g : Gr} (s : St3 H r p f m xs fs g) (k : Same H H') : St3 H' r p f m xs fs g := ⟨k _ _ s.hr, k _ _ s.hp, k _ _ s.hf, s.npf, RowsV.tk (Tk.of k) s.R, PairsV.tk (Tk.of k) s.P, FoldsV.tk (Tk.of k) s.F⟩
theorem St3.kp {H H' : Hp} {e r p f : Addr} {m : PMap} {xs fs es : List V} {g : Gr} (s : St3 H r p f m xs fs g) (he : H e = some (.lst es)) (n1 : p ≠ e) (n2 : f ≠ e) (k : Kp [e] H H') : St3 H' r p f m xs fs g := by
  have t : Tk H H' := k.tk fun a ha => by rw [List.mem_singleton.mp ha]; exact not_tup_lst he
  exact ⟨k _ _ s.hr (by simpa using (ne_lst_dP he s.hr).symm), k _ _ s.hp (by simpa using n1), k _ _ s.hf (by simpa using n2), s.npf, RowsV.tk t s.R, PairsV.tk t s.P, FoldsV.tk t s.F⟩
theorem Kp.fresh {S : List Addr} {H H' : Hp} {t : Addr} (k : Kp (t :: S) H H') (h : H t = none) : Kp S H H' := fun a o e n => k a o e fun q => by
  rcases List.mem_cons.mp q with z | z
  · rw [z, h] at e
    cases e
  · exact n z
theorem Kp.seq0 {K : PySem.W.Frag} {S : List Addr} {H H1 : Hp} {a : Addr} {xs : List V} (h : Kp S H H1) (hs : ∀ x ∈ S, H x = none) (q : SqL K H a xs) : SqL K H1 a xs := Same.seq (same_of h hs) q
theorem has_val {H : Hp} {m : PMap} {rows : List (List Str × Ent)} (h : RowsV H m rows) {zs : List Str} (hz : zs ∈ m.map (·.1)) : ∃ w, valV m zs = some w := by
  cases q : valV m zs with
  | some w => exact ⟨w, rfl⟩
  | none => exact absurd hz (valV_not q)
theorem keys_eq {H : Hp} {m : PMap} {rows : List (List Str × Ent)} (h : RowsV H m rows) : m.map (·.1) = rows.map (·.1) := by
  induction h with
  | nil => rfl
  | cons q t ih => rw [List.map_cons, List.map_cons, ih, q.1]
theorem rows_ok_of {H : Hp} {m : PMap} {rows : List (List Str × Ent)} {n : Nat} (h : RowsV H m rows) (hk : ∀ r ∈ rows, RowOk n r) : ∀ p ∈ m, p.1 ≠ [] := by
  intro p hp
  have : p.1 ∈ rows.map (·.1) := by
    rw [← keys_eq h]
    exact List.mem_map_of_mem hp
  obtain ⟨r, hr, e⟩ := List.mem_map.mp this
  rw [← e]
  exact (hk r hr).1
theorem look_mem {rows : List (List Str × Ent)} {p : List Str} {e : Ent} (h : lookR rows p = some e) : (p, e) ∈ rows := by
  unfold lookR at h
  obtain ⟨r, hr, rfl⟩ := Option.map_eq_some_iff.mp h
  have h1 := List.find?_some hr
  have h2 := List.mem_of_find?_eq_some hr
  have e1 : r.1 = p := of_decide_eq_true h1
  rw [← e1]
  exact h2
def spLayer (K : PySem.W.Frag) : Sp := fun vs H Q _ => ∃ (a : Addr) (ns : List Int), vs = [.ref a] ∧ SqL K H a (ns.map V.int) ∧ ns.length ≤ 63 ∧ ∀ (v : V) (H' : Hp), LayV H' v (layF ns) → Same H H' → Q v H'
section
variable {P : Program} {w : World} {K : PySem.W.Frag} {mg : Str → Option Value} {base : Heap}
theorem scLayer : FnScope ["_law_script", "_law_rows_here", "_law_pairs", "_law_folders", "_law_k", "_law_box_here", "_law_turn", "_law_last", "_law_entries", "_law_path", "_law_row"] ["_law_script"] (defScope sLayer) := ⟨rfl, rfl, rfl, by decide +kernel, rfl, by decide +kernel, by decide +kernel⟩
theorem ok_layer {f : Addr} {fd : FuncData} (F : Fun K "_law_layer" "_law_layer" sLayer f fd) (mLen : mg "len" = none) (mRange : mg "range" = none) (mTuple : mg "tuple" = none) (mSorted : mg "sorted" = none) (DT : DTake P w K mg base) (DB : Def P w K mg base 1 "_law_box" ["_law_script", "_law_k"] (spBox K))
    (DW : Def P w K mg base 2 "_law_word" ["_law_box_here"] spWord) (DG : Def P w K mg base 5 "_law_grow" ["_law_box_here", "_law_rows_here", "_law_pairs", "_law_folders"] spGrow) (DD : Def P w K mg base 1 "_law_deep" ["_law_rows_here", "_law_name"] spDeep) : FnOk P w K mg base CX0 6 f fd ["_law_script"] (spLayer K) := by
  refine F.ok scLayer (fun vs H Q E h => ?_) (fun cdv A outer s H vs Q E hr h => ?_)
  · obtain ⟨a, ns, rfl, _⟩ := h
    rfl
  · obtain ⟨a, ns, rfl, hS, hlen, kk⟩ := h
    have hu := hu_of hr
    have hr1 : Room 1 _ := hr.mono (by decide)
    have hr2 : Room 2 _ := hr.mono (by decide)
    have nd := scLayer.nd
    refine ⟨_, pss_cons (ps_set (i := 1) nd rfl (Or.inl rfl) pe_dnewT)
      (pss_cons (ps_set (i := 2) nd rfl (Or.inl rfl) (pe_lst pa_nil))
      (pss_cons (ps_set (i := 3) nd rfl (Or.inl rfl) (pe_lst (pa_cons (pe_tup pa_nil) pa_nil)))
      (pss_cons (ps_for PassesOwn.never rfl (pi_range1 rfl mRange (pa_cons (pe_callB call_len_seq (by rfl) mLen PySem.boot_len (pa_cons (pv 0) pa_nil)) pa_nil)) (pg_name (i := 4) nd rfl (Or.inl rfl))
        (pss_cons (ps_set (i := 5) nd rfl (Or.inl rfl) (pe_def DB hr1 (pa_cons (pv 0) (pa_cons (pv 4) pa_nil))))
        (pss_one (ps_for PassesOwn.never rfl (pi_range1 rfl mRange (pa_cons (pe_op op_add pe_int (pe_def DT hr1 (pa_cons (pv 5) (pa_cons pe_int pa_nil)))) pa_nil)) (pg_name (i := 6) nd rfl (Or.inl rfl))
          (pss_one (ps_expr (pe_def DG hr (pa_cons (pv 5) (pa_cons (pv 1) (pa_cons (pv 2) (pa_cons (pv 3) pa_nil)))))))))))
      (pss_cons (ps_set (i := 7) nd rfl (Or.inl rfl) (pe_def DB hr1 (pa_cons (pv 0) (pa_cons (pe_op op_fdiv (pe_callB call_len_seq (by rfl) mLen PySem.boot_len (pa_cons (pv 0) pa_nil)) pe_int) pa_nil))))
      (pss_cons (ps_if (pt_cmpR op_eq (pe_def DT hr1 (pa_cons (pv 7) (pa_cons pe_int pa_nil))) pe_int (nomark _)) (pss_one (ps_expr (pe_def DD hr1 (pa_cons (pv 1) (pa_cons (pe_def DW hr2 (pa_cons (pv 7) pa_nil)) pa_nil))))) pss_nil)
      (pss_cons (ps_set (i := 6) nd rfl (Or.inl rfl) (pe_def DT hr1 (pa_cons (pv 7) (pa_cons (pe_op op_add pe_int (pe_callB call_len_seq (by rfl) mLen PySem.boot_len (pa_cons (pv 2) pa_nil))) pa_nil))))
      (pss_cons (ps_set (i := 8) nd rfl (Or.inl rfl) (pe_lst pa_nil))
      (pss_cons (ps_for PassesOwn.never rfl (pi_list (pe_callB (call_sortedP rfl) (by rfl) mSorted PyProof.Rows.boot_sorted (pa_cons (pv 1) pa_nil))) (pg_name (i := 9) nd rfl (Or.inl rfl))
        (pss_cons (ps_set (i := 10) nd rfl (Or.inl rfl) (pe_dget hu (pv 1) (pv 9) (fun _ _ => rfl)))
        (pss_cons (ps_if (pt_cmpR op_eq (pe_ix ix_tup (pv 10) pe_int (fun _ _ => rfl)) pe_str (nomark _))
          (pss_one (ps_set (i := 10) nd rfl (Or.inl rfl) (pe_tup (pa_cons (pv 9) (pa_cons pe_str (pa_cons (pe_op op_mod (pe_op op_add (pe_ix ix_tup (pv 10) pe_int (fun _ _ => rfl)) (pv 6)) (pe_callB call_len_seq (by rfl) mLen PySem.boot_len (pa_cons (pv 2) pa_nil))) pa_nil)))))) pss_nil)
        (pss_one (ps_expr (pe_bm PySem.F.plainAttrs_list PySem.F.slot_list_append PySem.F.type_list_append mt_append (pv 8) (pa_cons (pv 10) pa_nil)))))))
      (pss_one (ps_ret (pe_tup (pa_cons (pe_callTy call_tuple_of (by rfl) mTuple PyProof.Rows.Boot.tuple (pa_cons (pv 8) pa_nil))
        (pa_cons (pe_callTy call_tuple_of (by rfl) mTuple PyProof.Rows.Boot.tuple (pa_cons (pe_op op_cat (pe_slice sl_list (pv 2) (po_some (pe_op op_sub (pe_callB call_len_seq (by rfl) mLen PySem.boot_len (pa_cons (pv 2) pa_nil)) (pv 6))) po_none)
          (pe_slice sl_list (pv 2) po_none (po_some (pe_op op_sub (pe_callB call_len_seq (by rfl) mLen PySem.boot_len (pa_cons (pv 2) pa_nil)) (pv 6))))) pa_nil)) pa_nil))))))))))))), ?_⟩
    intro r hrn
    refine ⟨by show 0 ≤ sizeLine; decide, fun p hpn => ?_⟩
    refine ⟨by show 0 ≤ sizeLine; decide, fun t0 ht0 => ⟨by show 1 ≤ sizeLine; decide, fun ff hfn => ?_⟩⟩
    have nrp : r ≠ p := ne_of_none upd_same hpn
    have hp0 : H p = none := by rw [upd_ne nrp.symm] at hpn; exact hpn
    have kA : Kp [r, p, ff] H (upd (upd H r (dP [])) p (.lst [])) := ((Kp.refl _ H).new hrn).new hpn
    have kB : Kp [r, p, ff] H (upd (upd (upd H r (dP [])) p (.lst [])) t0 (.tup [])) := kA.new ht0
    have npt : p ≠ t0 := ne_of_none upd_same ht0
    have hrA : (upd (upd H r (dP [])) p (.lst [])) r = some (dP []) := by rw [upd_ne nrp, upd_same]
    have hrB : (upd (upd (upd H r (dP [])) p (.lst [])) t0 (.tup [])) r = some (dP []) := by rw [upd_ne (ne_of_none hrA ht0)]; exact hrA
    have hpB : (upd (upd (upd H r (dP [])) p (.lst [])) t0 (.tup [])) p = some (.lst []) := by rw [upd_ne npt, upd_same]
    have hf0 : H ff = none := by
      cases q : H ff with
      | none => rfl
      | some o =>
        have n1 : ff ≠ r := fun z => by rw [z, hrn] at q; cases q
        have n2 : ff ≠ p := fun z => by rw [z, hp0] at q; cases q
        have : (upd (upd H r (dP [])) p (.lst [])) ff = some o := by rw [upd_ne n2, upd_ne n1]; exact q
        have n3 : ff ≠ t0 := ne_of_none this ht0
        rw [upd_ne n3] at hfn
        have z : some o = none := this.symm.trans hfn
        cases z
    have npf : p ≠ ff := ne_of_none hpB hfn
    have S0 : St3 (upd (upd (upd (upd H r (dP [])) p (.lst [])) t0 (.tup [])) ff (.lst [V.ref t0])) r p ff [] [] [V.ref t0] (cellsF ns 0) :=
      ⟨by rw [upd_ne (ne_of_none hrB hfn)]; exact hrB, by rw [upd_ne npf]; exact hpB, upd_same, npf, .nil, .nil, .cons ⟨t0, rfl, by rw [upd_ne (ne_of_none (show (upd (upd (upd H r (dP [])) p (.lst [])) t0 (.tup [])) t0 = some (.tup []) from upd_same) hfn)]; exact upd_same⟩ .nil⟩
    have K0 : Kp [r, p, ff] H (upd (upd (upd (upd H r (dP [])) p (.lst [])) t0 (.tup [])) ff (.lst [V.ref t0])) := kB.new hfn
    have fr : ∀ x ∈ [r, p, ff], H x = none := fun x hx => by
      simp only [List.mem_cons, List.not_mem_nil, or_false] at hx
      rcases hx with rfl | rfl | rfl <;> assumption
    refine ⟨_, rfl, a, _, rfl, .inl (K0.seq0 fr hS), _, rfl, by rw [List.length_map]; omega, by rw [List.length_map]; omega, ?_⟩
    have en : (((ns.map V.int).length : Nat) : Int).toNat = ns.length := by rw [Int.toNat_natCast, List.length_map]
    rw [en]
    refine for_range (n := ns.length) (fun i σ H2 => (∃ v4 v5 v6 v7 v8 v9 v10 m xs fs, σ = [some (.ref a), some (.ref r), some (.ref p), some (.ref ff), v4, v5, v6, v7, v8, v9, v10] ∧ St3 H2 r p ff m xs fs (cellsF ns i)) ∧ Kp [r, p, ff] H H2)
      ⟨⟨_, _, _, _, _, _, _, _, _, _, rfl, S0⟩, K0⟩ ?_ ?_
    · rintro i σ H2 hi ⟨⟨v4, v5, v6, v7, v8, v9, v10, m, xs, fs, rfl, S2⟩, K2⟩
      refine ⟨_, rfl, _, rfl, a, ns, i, congrArg (fun z => [V.ref a, V.int z]) (Int.zero_add _), K2.seq0 fr hS, by omega, hlen, fun b H3 hbn hb3 s3 => ?_⟩
      have S3 := (S2.same s3).st4 hb3 (ne_of_none (S2.hp) hbn).symm (ne_of_none S2.hf hbn).symm
      have hb0 : H b = none := K2.free (by simp only [List.mem_cons, List.not_mem_nil, or_false, not_or]; exact ⟨(ne_of_none S2.hr hbn).symm, (ne_of_none S2.hp hbn).symm, (ne_of_none S2.hf hbn).symm⟩) hbn
      have K3 : Kp [r, p, ff] H H3 := K2.trans (Kp.of s3)
      have lo := takeF_lo (boxF ns i) (m := 3) (by decide)
      have hi3 := takeF_hi (boxF ns i) (m := 3) (by decide)
      have g0 := takeF_good (boxF_good ns i) (m := 3) (by decide)
      have gr := cellsF_ok ns i
      refine ⟨_, rfl, b, _, 0, 3, rfl, by decide, by decide, S3.hb, boxF_good ns i, by omega, fun H4 hb4 k4 => ⟨_, _, rfl, rfl, _, rfl, by omega, by omega, ?_⟩⟩
      have S4 := S3.box hb4 k4
      have sub4 : ∀ x ∈ [b], x ∈ [b, r, p, ff] := fun x hx => by rw [List.mem_singleton.mp hx]; simp
      have sub3 : ∀ x ∈ [r, p, ff], x ∈ [b, r, p, ff] := fun x hx => List.mem_cons_of_mem _ hx
      have K4 : Kp [b, r, p, ff] H H4 := (K3.mono sub3).trans (k4.mono sub4)
      have ec : cellsF ns (i + 1) = (iterG (1 + (takeF (boxF ns i) 3).1).toNat (takeF (boxF ns i) 3).2 (cellsF ns i)).2 := rfl
      rw [ec]
      have hj3 : (1 + (takeF (boxF ns i) 3).1).toNat ≤ 3 := by omega
      generalize (1 + (takeF (boxF ns i) 3).1).toNat = jj at hj3 ⊢
      refine for_range (n := jj) (fun j σ H5 => (∃ v4 v6 v7 v8 v9 v10 m xs fs, σ = [some (.ref a), some (.ref r), some (.ref p), some (.ref ff), v4, some (.ref b), v6, v7, v8, v9, v10] ∧ St4 H5 b r p ff (iterG j (takeF (boxF ns i) 3).2 (cellsF ns i)).1 m xs fs (iterG j (takeF (boxF ns i) 3).2 (cellsF ns i)).2) ∧ Kp [b, r, p, ff] H H5)
        ⟨⟨_, _, _, _, _, _, _, _, _, rfl, S4⟩, K4⟩ ?_ ?_
      · rintro j σ H5 hj ⟨⟨v4, v6, v7, v8, v9, v10, m, xs, fs, rfl, S5⟩, K5⟩
        obtain ⟨i1, i2⟩ := iterG_ok g0 gr j
        refine ⟨_, rfl, _, rfl, _, rfl, _, rfl, b, r, p, ff, _, m, xs, fs, _, _, _, rfl, S5, i1, by omega, i2, by omega, fun m' xs' fs' H6 S6 k6 => ?_⟩
        exact ⟨⟨_, _, _, _, _, _, _, _, _, rfl, S6⟩, K5.trans k6⟩
      · rintro σ H5 ⟨⟨v4, v6, v7, v8, v9, v10, m, xs, fs, rfl, S5⟩, K5⟩
        exact ⟨⟨_, _, _, _, _, _, _, _, _, _, rfl, S5.st3⟩, K5.fresh hb0⟩
    · rintro σ H2 ⟨⟨v4, v5, v6, v7, v8, v9, v10, m, xs, fs, rfl, S2⟩, K2⟩
      have S2' : St3 H2 r p ff m xs fs (gEnd ns) := S2
      have gok := gEnd_ok hlen
      have r2ok := rows2_ok hlen
      have lp : xs.length = (gEnd ns).pairs.length := Paired.length S2'.P
      have hpl := gok.pl
      have e2 : (((ns.map V.int).length : Nat) : Int) / 2 = ((ns.length / 2 : Nat) : Int) := by rw [List.length_map]; omega
      refine ⟨_, rfl, _, rfl, a, _, rfl, .inl (K2.seq0 fr hS), _, _, rfl, rfl, ⟨by decide, by decide⟩, a, ns, ns.length / 2, congrArg (fun z => [V.ref a, V.int z]) e2, K2.seq0 fr hS, by omega, hlen, fun tl H3 htn htl3 s3 => ?_⟩
      have S3 : St4 H3 tl r p ff (lastB ns) m xs fs (gEnd ns) := (S2'.same s3).st4 htl3 (ne_of_none S2.hp htn).symm (ne_of_none S2.hf htn).symm
      have htl0 : H tl = none := K2.free (by simp only [List.mem_cons, List.not_mem_nil, or_false, not_or]; exact ⟨(ne_of_none S2.hr htn).symm, (ne_of_none S2.hp htn).symm, (ne_of_none S2.hf htn).symm⟩) htn
      have subt : ∀ x ∈ [tl], x ∈ [tl, r, p, ff] := fun x hx => by rw [List.mem_singleton.mp hx]; simp
      have K3 : Kp [tl, r, p, ff] H H3 := (K2.trans (Kp.of s3)).mono fun x hx => List.mem_cons_of_mem _ hx
      have gl : Good (lastB ns) 0 := boxF_good ns _
      refine ⟨_, rfl, tl, _, 0, 4, rfl, by decide, by decide, S3.hb, gl, by omega, fun H4 hb4 k4 => ⟨rfl, _, rfl, ?_⟩⟩
      have S4 := S3.box hb4 k4
      have K4 := K3.trans (k4.mono subt)
      have g4 := takeF_good gl (m := 4) (by decide)
      refine ite2 (fun h1 => ?_) (fun h1 => ?_)
      · have h1' : (takeF (lastB ns) 4).1 = 0 := by
          have := of_decide_eq_true h1
          injection this
        have ed : isDeep ns = true := decide_eq_true h1'
        have er : rows2 ns = deepF (gEnd ns).rows (wordF (takeF (lastB ns) 4).2).1 := by unfold rows2; rw [if_pos ed]
        have eb : box2 ns = (wordF (takeF (lastB ns) 4).2).2 := by unfold box2; rw [if_pos ed]
        refine ⟨_, rfl, _, rfl, tl, _, 1, rfl, S4.hb, g4, by omega, fun H5 hb5 k5 => ?_⟩
        have S5 := S4.box hb5 k5
        have rok : ∀ x ∈ (gEnd ns).rows, RowOk 1000 x := fun x hx => by
          have := gok.rp x hx
          exact ⟨this.1, this.2.1, this.2.2.mono (by omega)⟩
        refine ⟨r, _, m, (gEnd ns).rows, rfl, S5.hr, S5.R, by have := gok.rl; omega, rok, wordF_len _, fun mX HX hrX hRX kX => ?_⟩
        have tX : Tk H5 HX := kX.tk fun a ha => by rw [List.mem_singleton.mp ha]; exact not_tup_dP S5.hr
        have SX : St4 HX tl r p ff (box2 ns) mX xs fs ⟨rows2 ns, (gEnd ns).pairs, (gEnd ns).folds⟩ := ⟨by rw [eb]; exact kX _ _ S5.hb (by simpa using S5.nbr), hrX, kX _ _ S5.hp (by simpa using S5.npr), kX _ _ S5.hf (by simpa using S5.nfr), S5.nbp, S5.nbf, S5.npf, by rw [er]; exact hRX, PairsV.tk tX S5.P, FoldsV.tk tX S5.F⟩
        have KX : Kp [tl, r, p, ff] H HX := (K4.trans (k5.mono subt)).trans (kX.mono fun x hx => by rw [List.mem_singleton.mp hx]; simp)
        refine ⟨_, rfl, _, rfl, p, _, rfl, .inl (SqL.of SX.hp), _, _, rfl, rfl, tl, box2 ns, 11, 1 + (xs.length : Int), rfl, by omega, by omega, SX.hb, box2_good ns, by omega, fun H6 hb6 k6 => ?_⟩
        rw [lp] at hb6 ⊢
        have S6 := SX.box hb6 k6
        have K6 : Kp [tl, r, p, ff] H H6 := KX.trans (k6.mono fun a ha => by rw [List.mem_singleton.mp ha]; simp)
        refine ⟨by show 0 ≤ sizeLine; decide, fun te hte => ?_⟩
        have S7 := S6.new (o := .lst []) hte
        have K7 := K6.new (o := .lst []) hte
        have hte0 : H te = none := K6.free (by simp only [List.mem_cons, List.not_mem_nil, or_false, not_or]; exact ⟨(ne_of_none S6.hb hte).symm, (ne_of_none S6.hr hte).symm, (ne_of_none S6.hp hte).symm, (ne_of_none S6.hf hte).symm⟩) hte
        refine ⟨_, rfl, r, mX, rfl, S7.hr, rows_ok_of S7.R r2ok.1, fun l as ks hperm hpw hpa hl => ⟨l, rfl, ⟨_, SqL.of upd_same⟩, ?_⟩⟩
        have S8 := (S7.new (o := .lst (as.map V.ref)) hl).st3
        have K8 := K7.new (o := .lst (as.map V.ref)) hl
        have hl8 : (upd (upd H6 te (.lst [])) l (.lst (as.map V.ref))) l = some (.lst (as.map V.ref)) := upd_same
        have nel : te ≠ l := ne_of_none upd_same hl
        have hte8 : (upd (upd H6 te (.lst [])) l (.lst (as.map V.ref))) te = some (.lst []) := by rw [upd_ne nel, upd_same]
        have tk8 : Tk (upd H6 te (.lst [])) (upd (upd H6 te (.lst [])) l (.lst (as.map V.ref))) := Tk.of ((Same.refl _).upd hl)
        have hpa8 : PathsAt (upd (upd H6 te (.lst [])) l (.lst (as.map V.ref))) as ks := Paired.mono (fun _ _ q => tk8 _ _ q) hpa
        have npe : p ≠ te := ne_of_none S6.hp hte
        have nfe : ff ≠ te := ne_of_none S6.hf hte
        have ek : ks = sortP ((rows2 ns).map (·.1)) := sortP_is (hperm.trans (.of_eq (keys_eq S7.R))) hpw
        have ll : as.length = ks.length := Paired.length hpa
        have lk : ks.length ≤ 198 := by
          rw [hperm.length_eq, List.length_map, Paired.length S7.R]
          exact r2ok.2
        have lm : mX.length ≤ 198 := by rw [Paired.length S7.R]; exact r2ok.2
        generalize hH8 : (upd (upd H6 te (.lst [])) l (.lst (as.map V.ref))) = H8 at S8 K8 hl8 hte8 hpa8 ⊢
        refine for_list (xs := as.map V.ref) (fun i σ H2 => (∃ v4 v5 v7 v9 v10 es, σ = [some (.ref a), some (.ref r), some (.ref p), some (.ref ff), v4, v5, some (.int (turnF ns).1), v7, some (.ref te), v9, v10] ∧ H2 te = some (.lst es) ∧ EntsV H2 es ((ks.take i).map (entF (rows2 ns) (gEnd ns).pairs.length (turnF ns).1))) ∧ Kp [te] H8 H2)
          ⟨⟨_, _, _, _, _, _, rfl, hte8, .nil⟩, Kp.refl _ _⟩ (fun i σ H2 _ ⟨_, k⟩ => SqL.of (k _ _ hl8 (by simpa using nel.symm))) ?_ ?_
        · rintro i x σ H2 hx ⟨⟨v4, v5, v7, v9, v10, es, rfl, hte2, hes⟩, k2⟩
          have S9 := S8.kp hte8 npe nfe k2
          have t2 : Tk H8 H2 := k2.tk fun a ha => by rw [List.mem_singleton.mp ha]; exact not_tup_lst hte8
          rw [List.getElem?_map] at hx
          obtain ⟨ai, hai, rfl⟩ := Option.map_eq_some_iff.mp hx
          obtain ⟨zs, hzs, hz⟩ := paired_get hpa8 hai
          have hz2 := t2 _ _ hz
          have hlt := (List.getElem?_eq_some_iff.mp hzs).1
          have hmem : zs ∈ mX.map (·.1) := hperm.mem_iff.mp (List.mem_of_getElem? hzs)
          obtain ⟨ww, hww⟩ := has_val S9.R hmem
          obtain ⟨e, hel, hev⟩ := (rows_look S9.R zs).1 ww hww
          have hget : DGet H2 r (.ref ai) (some ww) := by rw [← hww]; exact getP S9.hr hz2
          have les : es.length ≤ 198 := by rw [Paired.length hes, List.length_map, List.length_take]; omega
          have nxt : (ks.take (i + 1)).map (entF (rows2 ns) (gEnd ns).pairs.length (turnF ns).1) = (ks.take i).map (entF (rows2 ns) (gEnd ns).pairs.length (turnF ns).1) ++ [(zs, shiftE (gEnd ns).pairs.length (turnF ns).1 e)] := by
            rw [List.take_succ, hzs, List.map_append]
            show _ ++ [entF _ _ _ zs] = _
            unfold entF
            rw [show lookR (rows2 ns) zs = some e from hel]
            rfl
          have app : ∀ (v : V) (HY : Hp), Kp [te] H8 HY → HY te = some (.lst es) → EntsV HY es ((ks.take i).map (entF (rows2 ns) (gEnd ns).pairs.length (turnF ns).1)) → EntV HY v zs (shiftE (gEnd ns).pairs.length (turnF ns).1 e) →
              (upd HY te (.lst (es ++ [v]))) te = some (.lst (es ++ [v])) ∧ EntsV (upd HY te (.lst (es ++ [v]))) (es ++ [v]) ((ks.take (i + 1)).map (entF (rows2 ns) (gEnd ns).pairs.length (turnF ns).1)) ∧ Kp [te] H8 (upd HY te (.lst (es ++ [v]))) := by
            intro v HY kY hY hE hv
            have tY : Tk HY (upd HY te (.lst (es ++ [v]))) := tk_set (not_tup_lst hY)
            refine ⟨upd_same, ?_, kY.set (by simp)⟩
            rw [nxt]
            exact Paired.snoc (EntsV.tk tY hE) (EntV.tk tY hv)
          refine ⟨_, rfl, _, rfl, r, ww, rfl, hget, ?_⟩
          obtain ⟨tt, pa, rfl, h1, h2⟩ := id hev
          cases e with
          | dir o =>
            obtain ⟨w', _, h4⟩ := h2
            refine ⟨_, rfl, tt, _, _, _, rfl, rfl, SqT.of h4, rfl, rfl, _, rfl, ?_⟩
            refine ite2 (fun q => absurd q (by decide +kernel)) (fun _ => ?_)
            refine ⟨_, rfl, .inl ⟨rfl, _, SqL.of hte2⟩, _, rfl, te, es, _, rfl, rfl, hte2, by rw [sizeLine_eq]; omega, ?_⟩
            obtain ⟨a1, a2, a3⟩ := app _ H2 k2 hte2 hes hev
            exact ⟨⟨_, _, _, _, _, _, rfl, a1, a2⟩, a3⟩
          | gone =>
            refine ⟨_, rfl, tt, _, _, _, rfl, rfl, SqT.of h2, rfl, rfl, _, rfl, ?_⟩
            refine ite2 (fun q => absurd q (by decide +kernel)) (fun _ => ?_)
            refine ⟨_, rfl, .inl ⟨rfl, _, SqL.of hte2⟩, _, rfl, te, es, _, rfl, rfl, hte2, by rw [sizeLine_eq]; omega, ?_⟩
            obtain ⟨a1, a2, a3⟩ := app _ H2 k2 hte2 hes hev
            exact ⟨⟨_, _, _, _, _, _, rfl, a1, a2⟩, a3⟩
          | fil j =>
            have hj := (r2ok.1 _ (look_mem hel)).2.2
            have hj1 : 0 ≤ j ∧ j < ((gEnd ns).pairs.length : Int) := hj
            refine ⟨_, rfl, tt, _, _, _, rfl, rfl, SqT.of h2, rfl, rfl, _, rfl, ?_⟩
            refine ite2 (fun _ => ?_) (fun q => absurd (by decide +kernel) q)
            refine ⟨_, rfl, _, rfl, tt, _, _, _, rfl, rfl, SqT.of h2, rfl, _, rfl, _, _, rfl, rfl, _, rfl, p, _, rfl, .inl (SqL.of S9.hp), _, _, rfl, rfl, (show (0 : Int) < (xs.length : Int) by omega), by show 3 ≤ sizeLine; decide, fun tu htu => ?_⟩
            have neu : te ≠ tu := ne_of_none hte2 htu
            have su : Same H2 (upd H2 tu (.tup [V.ref ai, V.str "file", V.int ((j + (turnF ns).1) % (xs.length : Int))])) := (Same.refl _).upd htu
            refine ⟨_, rfl, .inl ⟨rfl, _, SqL.of (su _ _ hte2)⟩, _, rfl, te, es, _, rfl, rfl, su _ _ hte2, by rw [sizeLine_eq]; omega, ?_⟩
            obtain ⟨a1, a2, a3⟩ := app (.ref tu) _ (k2.trans (Kp.of su)) (su _ _ hte2) (EntsV.tk (Tk.of su) hes) ⟨tu, ai, rfl, su _ _ hz2, by
              rw [upd_same, lp]
              rfl⟩
            exact ⟨⟨_, _, _, _, _, _, rfl, a1, a2⟩, a3⟩
        · rintro σ H2 ⟨⟨v4, v5, v7, v9, v10, es, rfl, hte2, hes⟩, k2⟩
          have S9 := S8.kp hte8 npe nfe k2
          rw [List.length_map, ll, List.take_of_length_le (Nat.le_refl _), ek] at hes
          have lx : xs.length ≤ 192 := by rw [lp]; exact gok.pl
          refine ⟨_, rfl, te, _, rfl, .inl ⟨SqL.of hte2, fun t1 ht1 => ?_⟩⟩
          have s1 : Same H2 (upd H2 t1 (.tup es)) := (Same.refl _).upd ht1
          have SA := S9.same s1
          refine ⟨_, rfl, _, rfl, p, _, rfl, .inl (SqL.of SA.hp), _, rfl, _, _, rfl, rfl, _, rfl, p, _, rfl, SqL.of SA.hp, fun c1 hc1 => ?_⟩
          have s2 : Same (upd H2 t1 (.tup es)) _ := (Same.refl _).upd (o := .lst (cutV xs (some ((xs.length : Int) - (turnF ns).1)) none)) hc1
          have SB := SA.same s2
          refine ⟨_, rfl, _, rfl, p, _, rfl, .inl (SqL.of SB.hp), _, rfl, _, _, rfl, rfl, _, rfl, p, _, rfl, SqL.of SB.hp, fun c2 hc2 => ?_⟩
          have s3 : Same (upd (upd H2 t1 (.tup es)) c1 (.lst (cutV xs (some ((xs.length : Int) - (turnF ns).1)) none))) _ := (Same.refl _).upd (o := .lst (cutV xs none (some ((xs.length : Int) - (turnF ns).1)))) hc2
          have SC := SB.same s3
          refine ⟨c1, c2, _, _, rfl, rfl, s3 _ _ upd_same, upd_same, ?_, fun c3 hc3 => ?_⟩
          · have b1 := cutV_length xs (some ((xs.length : Int) - (turnF ns).1)) none
            have b2 := cutV_length xs none (some ((xs.length : Int) - (turnF ns).1))
            rw [sizeLine_eq]
            omega
          have s4 := (Same.refl (upd (upd (upd H2 t1 (.tup es)) c1 (.lst (cutV xs (some ((xs.length : Int) - (turnF ns).1)) none))) c2 (.lst (cutV xs none (some ((xs.length : Int) - (turnF ns).1)))))).upd (o := .lst (cutV xs (some ((xs.length : Int) - (turnF ns).1)) none ++ cutV xs none (some ((xs.length : Int) - (turnF ns).1)))) hc3
          have SD := SC.same s4
          refine ⟨c3, _, rfl, .inl ⟨SqL.of upd_same, fun t2 ht2 => ?_⟩⟩
          have s5 := (Same.refl (upd (upd (upd (upd H2 t1 (.tup es)) c1 (.lst (cutV xs (some ((xs.length : Int) - (turnF ns).1)) none))) c2 (.lst (cutV xs none (some ((xs.length : Int) - (turnF ns).1))))) c3 (.lst (cutV xs (some ((xs.length : Int) - (turnF ns).1)) none ++ cutV xs none (some ((xs.length : Int) - (turnF ns).1)))))).upd (o := .tup (cutV xs (some ((xs.length : Int) - (turnF ns).1)) none ++ cutV xs none (some ((xs.length : Int) - (turnF ns).1)))) ht2
          refine ⟨by show 2 ≤ sizeLine; decide, fun t3 ht3 => ?_⟩
          have s25 := s2.trans (s3.trans (s4.trans s5))
          have h2t := s25 _ _ (show (upd H2 t1 (.tup es)) t1 = some (.tup es) from upd_same)
          have SE := SD.same s5
          have s6 := (Same.refl _).upd (o := .tup [V.ref t1, V.ref t2]) ht3
          refine kk (.ref t3) _ ⟨t3, t1, t2, es, _, rfl, upd_same, s6 _ _ h2t, s6 _ _ upd_same, EntsV.tk (Tk.of (s1.trans (s25.trans s6))) hes, ?_⟩ ?_
          · have PE := (SE.same s6).P
            rw [show (layF ns).pairs = cutL (gEnd ns).pairs (some ((gEnd ns).pairs.length - (turnF ns).1)) none ++ cutL (gEnd ns).pairs none (some ((gEnd ns).pairs.length - (turnF ns).1)) from rfl, ← lp]
            exact paired_app (paired_cut PE _ _) (paired_cut PE _ _)
          · have KZ : Kp [te, tl, r, p, ff] H H2 := (K8.mono (fun a ha => List.mem_cons_of_mem _ ha)).trans (k2.mono fun a ha => by rw [List.mem_singleton.mp ha]; simp)
            refine (same_of KZ ?_).trans (s1.trans (s25.trans s6))
            intro x hx
            simp only [List.mem_cons, List.not_mem_nil, or_false] at hx
            rcases hx with rfl | rfl | rfl | rfl | rfl
            · exact hte0
            · exact htl0
            · exact hrn
            · exact hp0
            · exact hf0
      · have h1' : ¬ (takeF (lastB ns) 4).1 = 0 := fun q => h1 (decide_eq_true (by rw [q]))
        have ed : ¬ isDeep ns = true := fun q => h1' (of_decide_eq_true q)
        have er : rows2 ns = (gEnd ns).rows := by unfold rows2; rw [if_neg ed]
        have eb : box2 ns = (takeF (lastB ns) 4).2 := by unfold box2; rw [if_neg ed]
        have SX : St4 H4 tl r p ff (box2 ns) m xs fs ⟨rows2 ns, (gEnd ns).pairs, (gEnd ns).folds⟩ := ⟨by rw [eb]; exact S4.hb, S4.hr, S4.hp, S4.hf, S4.nbp, S4.nbf, S4.npf, by rw [er]; exact S4.R, S4.P, S4.F⟩
        have KX := K4
        refine ⟨_, rfl, _, rfl, p, _, rfl, .inl (SqL.of SX.hp), _, _, rfl, rfl, tl, box2 ns, 11, 1 + (xs.length : Int), rfl, by omega, by omega, SX.hb, box2_good ns, by omega, fun H6 hb6 k6 => ?_⟩
        rw [lp] at hb6 ⊢
        have S6 := SX.box hb6 k6
        have K6 : Kp [tl, r, p, ff] H H6 := KX.trans (k6.mono fun a ha => by rw [List.mem_singleton.mp ha]; simp)
        refine ⟨by show 0 ≤ sizeLine; decide, fun te hte => ?_⟩
        have S7 := S6.new (o := .lst []) hte
        have K7 := K6.new (o := .lst []) hte
        have hte0 : H te = none := K6.free (by simp only [List.mem_cons, List.not_mem_nil, or_false, not_or]; exact ⟨(ne_of_none S6.hb hte).symm, (ne_of_none S6.hr hte).symm, (ne_of_none S6.hp hte).symm, (ne_of_none S6.hf hte).symm⟩) hte
        refine ⟨_, rfl, r, m, rfl, S7.hr, rows_ok_of S7.R r2ok.1, fun l as ks hperm hpw hpa hl => ⟨l, rfl, ⟨_, SqL.of upd_same⟩, ?_⟩⟩
        have S8 := (S7.new (o := .lst (as.map V.ref)) hl).st3
        have K8 := K7.new (o := .lst (as.map V.ref)) hl
        have hl8 : (upd (upd H6 te (.lst [])) l (.lst (as.map V.ref))) l = some (.lst (as.map V.ref)) := upd_same
        have nel : te ≠ l := ne_of_none upd_same hl
        have hte8 : (upd (upd H6 te (.lst [])) l (.lst (as.map V.ref))) te = some (.lst []) := by rw [upd_ne nel, upd_same]
        have tk8 : Tk (upd H6 te (.lst [])) (upd (upd H6 te (.lst [])) l (.lst (as.map V.ref))) := Tk.of ((Same.refl _).upd hl)
        have hpa8 : PathsAt (upd (upd H6 te (.lst [])) l (.lst (as.map V.ref))) as ks := Paired.mono (fun _ _ q => tk8 _ _ q) hpa
        have npe : p ≠ te := ne_of_none S6.hp hte
        have nfe : ff ≠ te := ne_of_none S6.hf hte
        have ek : ks = sortP ((rows2 ns).map (·.1)) := sortP_is (hperm.trans (.of_eq (keys_eq S7.R))) hpw
        have ll : as.length = ks.length := Paired.length hpa
        have lk : ks.length ≤ 198 := by
          rw [hperm.length_eq, List.length_map, Paired.length S7.R]
          exact r2ok.2
        have lm : m.length ≤ 198 := by rw [Paired.length S7.R]; exact r2ok.2
        generalize hH8 : (upd (upd H6 te (.lst [])) l (.lst (as.map V.ref))) = H8 at S8 K8 hl8 hte8 hpa8 ⊢
        refine for_list (xs := as.map V.ref) (fun i σ H2 => (∃ v4 v5 v7 v9 v10 es, σ = [some (.ref a), some (.ref r), some (.ref p), some (.ref ff), v4, v5, some (.int (turnF ns).1), v7, some (.ref te), v9, v10] ∧ H2 te = some (.lst es) ∧ EntsV H2 es ((ks.take i).map (entF (rows2 ns) (gEnd ns).pairs.length (turnF ns).1))) ∧ Kp [te] H8 H2)
          ⟨⟨_, _, _, _, _, _, rfl, hte8, .nil⟩, Kp.refl _ _⟩ (fun i σ H2 _ ⟨_, k⟩ => SqL.of (k _ _ hl8 (by simpa using nel.symm))) ?_ ?_
        · rintro i x σ H2 hx ⟨⟨v4, v5, v7, v9, v10, es, rfl, hte2, hes⟩, k2⟩
          have S9 := S8.kp hte8 npe nfe k2
          have t2 : Tk H8 H2 := k2.tk fun a ha => by rw [List.mem_singleton.mp ha]; exact not_tup_lst hte8
          rw [List.getElem?_map] at hx
          obtain ⟨ai, hai, rfl⟩ := Option.map_eq_some_iff.mp hx
          obtain ⟨zs, hzs, hz⟩ := paired_get hpa8 hai
          have hz2 := t2 _ _ hz
          have hlt := (List.getElem?_eq_some_iff.mp hzs).1
          have hmem : zs ∈ m.map (·.1) := hperm.mem_iff.mp (List.mem_of_getElem? hzs)
          obtain ⟨ww, hww⟩ := has_val S9.R hmem
          obtain ⟨e, hel, hev⟩ := (rows_look S9.R zs).1 ww hww
          have hget : DGet H2 r (.ref ai) (some ww) := by rw [← hww]; exact getP S9.hr hz2
          have les : es.length ≤ 198 := by rw [Paired.length hes, List.length_map, List.length_take]; omega
          have nxt : (ks.take (i + 1)).map (entF (rows2 ns) (gEnd ns).pairs.length (turnF ns).1) = (ks.take i).map (entF (rows2 ns) (gEnd ns).pairs.length (turnF ns).1) ++ [(zs, shiftE (gEnd ns).pairs.length (turnF ns).1 e)] := by
            rw [List.take_succ, hzs, List.map_append]
            show _ ++ [entF _ _ _ zs] = _
            unfold entF
            rw [show lookR (rows2 ns) zs = some e from hel]
            rfl
          have app : ∀ (v : V) (HY : Hp), Kp [te] H8 HY → HY te = some (.lst es) → EntsV HY es ((ks.take i).map (entF (rows2 ns) (gEnd ns).pairs.length (turnF ns).1)) → EntV HY v zs (shiftE (gEnd ns).pairs.length (turnF ns).1 e) →
              (upd HY te (.lst (es ++ [v]))) te = some (.lst (es ++ [v])) ∧ EntsV (upd HY te (.lst (es ++ [v]))) (es ++ [v]) ((ks.take (i + 1)).map (entF (rows2 ns) (gEnd ns).pairs.length (turnF ns).1)) ∧ Kp [te] H8 (upd HY te (.lst (es ++ [v]))) := by
            intro v HY kY hY hE hv
            have tY : Tk HY (upd HY te (.lst (es ++ [v]))) := tk_set (not_tup_lst hY)
            refine ⟨upd_same, ?_, kY.set (by simp)⟩
            rw [nxt]
            exact Paired.snoc (EntsV.tk tY hE) (EntV.tk tY hv)
          refine ⟨_, rfl, _, rfl, r, ww, rfl, hget, ?_⟩
          obtain ⟨tt, pa, rfl, h1, h2⟩ := id hev
          cases e with
          | dir o =>
            obtain ⟨w', _, h4⟩ := h2
            refine ⟨_, rfl, tt, _, _, _, rfl, rfl, SqT.of h4, rfl, rfl, _, rfl, ?_⟩
            refine ite2 (fun q => absurd q (by decide +kernel)) (fun _ => ?_)
            refine ⟨_, rfl, .inl ⟨rfl, _, SqL.of hte2⟩, _, rfl, te, es, _, rfl, rfl, hte2, by rw [sizeLine_eq]; omega, ?_⟩
            obtain ⟨a1, a2, a3⟩ := app _ H2 k2 hte2 hes hev
            exact ⟨⟨_, _, _, _, _, _, rfl, a1, a2⟩, a3⟩
          | gone =>
            refine ⟨_, rfl, tt, _, _, _, rfl, rfl, SqT.of h2, rfl, rfl, _, rfl, ?_⟩
            refine ite2 (fun q => absurd q (by decide +kernel)) (fun _ => ?_)
            refine ⟨_, rfl, .inl ⟨rfl, _, SqL.of hte2⟩, _, rfl, te, es, _, rfl, rfl, hte2, by rw [sizeLine_eq]; omega, ?_⟩
            obtain ⟨a1, a2, a3⟩ := app _ H2 k2 hte2 hes hev
            exact ⟨⟨_, _, _, _, _, _, rfl, a1, a2⟩, a3⟩
          | fil j =>
            have hj := (r2ok.1 _ (look_mem hel)).2.2
            have hj1 : 0 ≤ j ∧ j < ((gEnd ns).pairs.length : Int) := hj
            refine ⟨_, rfl, tt, _, _, _, rfl, rfl, SqT.of h2, rfl, rfl, _, rfl, ?_⟩
            refine ite2 (fun _ => ?_) (fun q => absurd (by decide +kernel) q)
            refine ⟨_, rfl, _, rfl, tt, _, _, _, rfl, rfl, SqT.of h2, rfl, _, rfl, _, _, rfl, rfl, _, rfl, p, _, rfl, .inl (SqL.of S9.hp), _, _, rfl, rfl, (show (0 : Int) < (xs.length : Int) by omega), by show 3 ≤ sizeLine; decide, fun tu htu => ?_⟩
            have neu : te ≠ tu := ne_of_none hte2 htu
            have su : Same H2 (upd H2 tu (.tup [V.ref ai, V.str "file", V.int ((j + (turnF ns).1) % (xs.length : Int))])) := (Same.refl _).upd htu
            refine ⟨_, rfl, .inl ⟨rfl, _, SqL.of (su _ _ hte2)⟩, _, rfl, te, es, _, rfl, rfl, su _ _ hte2, by rw [sizeLine_eq]; omega, ?_⟩
            obtain ⟨a1, a2, a3⟩ := app (.ref tu) _ (k2.trans (Kp.of su)) (su _ _ hte2) (EntsV.tk (Tk.of su) hes) ⟨tu, ai, rfl, su _ _ hz2, by
              rw [upd_same, lp]
              rfl⟩
            exact ⟨⟨_, _, _, _, _, _, rfl, a1, a2⟩, a3⟩
        · rintro σ H2 ⟨⟨v4, v5, v7, v9, v10, es, rfl, hte2, hes⟩, k2⟩
          have S9 := S8.kp hte8 npe nfe k2
          rw [List.length_map, ll, List.take_of_length_le (Nat.le_refl _), ek] at hes
          have lx : xs.length ≤ 192 := by rw [lp]; exact gok.pl
          refine ⟨_, rfl, te, _, rfl, .inl ⟨SqL.of hte2, fun t1 ht1 => ?_⟩⟩
          have s1 : Same H2 (upd H2 t1 (.tup es)) := (Same.refl _).upd ht1
          have SA := S9.same s1
          refine ⟨_, rfl, _, rfl, p, _, rfl, .inl (SqL.of SA.hp), _, rfl, _, _, rfl, rfl, _, rfl, p, _, rfl, SqL.of SA.hp, fun c1 hc1 => ?_⟩
          have s2 : Same (upd H2 t1 (.tup es)) _ := (Same.refl _).upd (o := .lst (cutV xs (some ((xs.length : Int) - (turnF ns).1)) none)) hc1
          have SB := SA.same s2
          refine ⟨_, rfl, _, rfl, p, _, rfl, .inl (SqL.of SB.hp), _, rfl, _, _, rfl, rfl, _, rfl, p, _, rfl, SqL.of SB.hp, fun c2 hc2 => ?_⟩
          have s3 : Same (upd (upd H2 t1 (.tup es)) c1 (.lst (cutV xs (some ((xs.length : Int) - (turnF ns).1)) none))) _ := (Same.refl _).upd (o := .lst (cutV xs none (some ((xs.length : Int) - (turnF ns).1)))) hc2
          have SC := SB.same s3
          refine ⟨c1, c2, _, _, rfl, rfl, s3 _ _ upd_same, upd_same, ?_, fun c3 hc3 => ?_⟩
          · have b1 := cutV_length xs (some ((xs.length : Int) - (turnF ns).1)) none
            have b2 := cutV_length xs none (some ((xs.length : Int) - (turnF ns).1))
            rw [sizeLine_eq]
            omega
          have s4 := (Same.refl (upd (upd (upd H2 t1 (.tup es)) c1 (.lst (cutV xs (some ((xs.length : Int) - (turnF ns).1)) none))) c2 (.lst (cutV xs none (some ((xs.length : Int) - (turnF ns).1)))))).upd (o := .lst (cutV xs (some ((xs.length : Int) - (turnF ns).1)) none ++ cutV xs none (some ((xs.length : Int) - (turnF ns).1)))) hc3
          have SD := SC.same s4
          refine ⟨c3, _, rfl, .inl ⟨SqL.of upd_same, fun t2 ht2 => ?_⟩⟩
          have s5 := (Same.refl (upd (upd (upd (upd H2 t1 (.tup es)) c1 (.lst (cutV xs (some ((xs.length : Int) - (turnF ns).1)) none))) c2 (.lst (cutV xs none (some ((xs.length : Int) - (turnF ns).1))))) c3 (.lst (cutV xs (some ((xs.length : Int) - (turnF ns).1)) none ++ cutV xs none (some ((xs.length : Int) - (turnF ns).1)))))).upd (o := .tup (cutV xs (some ((xs.length : Int) - (turnF ns).1)) none ++ cutV xs none (some ((xs.length : Int) - (turnF ns).1)))) ht2
          refine ⟨by show 2 ≤ sizeLine; decide, fun t3 ht3 => ?_⟩
          have s25 := s2.trans (s3.trans (s4.trans s5))
          have h2t := s25 _ _ (show (upd H2 t1 (.tup es)) t1 = some (.tup es) from upd_same)
          have SE := SD.same s5
          have s6 := (Same.refl _).upd (o := .tup [V.ref t1, V.ref t2]) ht3
          refine kk (.ref t3) _ ⟨t3, t1, t2, es, _, rfl, upd_same, s6 _ _ h2t, s6 _ _ upd_same, EntsV.tk (Tk.of (s1.trans (s25.trans s6))) hes, ?_⟩ ?_
          · have PE := (SE.same s6).P
            rw [show (layF ns).pairs = cutL (gEnd ns).pairs (some ((gEnd ns).pairs.length - (turnF ns).1)) none ++ cutL (gEnd ns).pairs none (some ((gEnd ns).pairs.length - (turnF ns).1)) from rfl, ← lp]
            exact paired_app (paired_cut PE _ _) (paired_cut PE _ _)
          · have KZ : Kp [te, tl, r, p, ff] H H2 := (K8.mono (fun a ha => List.mem_cons_of_mem _ ha)).trans (k2.mono fun a ha => by rw [List.mem_singleton.mp ha]; simp)
            refine (same_of KZ ?_).trans (s1.trans (s25.trans s6))
            intro x hx
            simp only [List.mem_cons, List.not_mem_nil, or_false] at hx
            rcases hx with rfl | rfl | rfl | rfl | rfl
            · exact hte0
            · exact htl0
            · exact hrn
            · exact hp0
            · exact hf0
end
/-! ### rows as texts -/
def SL : Str := "/"
def slashed (zs : List Str) : List Str := zs.map fun z => SL ++ z
def ptext (zs : List Str) : Str := if zs = [] then SL else Txt.join "" (slashed zs)
theorem slashed_sum : ∀ (zs : List Str), (∀ z ∈ zs, z.length ≤ 8) → ((slashed zs).map (·.length)).sum ≤ 9 * zs.length
  | [], _ => Nat.le_refl _
  | z :: r, h => by
    have ih := slashed_sum r fun x hx => h x (List.mem_cons_of_mem _ hx)
    have hz := h z List.mem_cons_self
    unfold slashed at ih ⊢
    rw [List.map_cons, List.map_cons, List.sum_cons, Str.length_append, List.length_cons]
    have e1 : SL.length = 1 := by decide +kernel
    omega
theorem map_next {α β : Type} {f : α → β} {xs : List α} {i : Nat} {x : α} (h : xs[i]? = some x) : (xs.take i).map f ++ [f x] = (xs.take (i + 1)).map f := by
  rw [List.take_succ, h, List.map_append]
  rfl
theorem ptext_len {zs : List Str} (h : Pth zs) : (ptext zs).length ≤ 81 := by
  unfold ptext
  split
  · decide +kernel
  · rw [join_len]
    have := slashed_sum zs h.nam
    have := h.len
    omega
def spPT : Sp := fun vs H Q _ => ∃ (t : Addr) (zs : List Str), vs = [.ref t] ∧ H t = some (.tup (zs.map V.str)) ∧ Pth zs ∧ ∀ H', Same H H' → Q (.str (ptext zs)) H'
def entP (x : List Str × Ent) : Str := match x.2 with
  | .gone => Str.empty ++ "gone " ++ ptext x.1
  | .fil i => Str.empty ++ "file " ++ ptext x.1 ++ " " ++ (toString i : String)
  | .dir none => Str.empty ++ "folder " ++ ptext x.1 ++ " alone"
  | .dir (some b) => Str.empty ++ "folder " ++ ptext x.1 ++ " over " ++ ptext b
def entR (x : List Str × Ent) : List Str := match x.2 with
  | .gone => ["gone", ptext x.1]
  | .fil i => ["file", ptext x.1, (toString i : String)]
  | .dir none => ["folder", ptext x.1, "alone"]
  | .dir (some b) => ["folder", ptext x.1, "over", ptext b]
def ofP (o : Option (List Str)) : Str := match o with
  | none => "data"
  | some zs => "data" ++ (" of " ++ ptext zs)
def prP (x : Pr) : Str := match x.2 with
  | none => ofP x.1
  | some z => ofP x.1 ++ (" =" ++ z)
theorem join2 (a b : Str) : Txt.join " " [a, b] = a ++ " " ++ b := Srt.str_ext (by
  show (Builtin.Str.glued (" " : Str) [a, b]).cps.toList = _
  simp [Builtin.Str.glued, Str.cps_append])
theorem join3 (a b c : Str) : Txt.join " " [a, b, c] = a ++ " " ++ b ++ " " ++ c := Srt.str_ext (by
  show (Builtin.Str.glued (" " : Str) [a, b, c]).cps.toList = _
  simp [Builtin.Str.glued, Str.cps_append])
theorem join4 (a b c d : Str) : Txt.join " " [a, b, c, d] = a ++ " " ++ b ++ " " ++ c ++ " " ++ d := Srt.str_ext (by
  show (Builtin.Str.glued (" " : Str) [a, b, c, d]).cps.toList = _
  simp [Builtin.Str.glued, Str.cps_append])
theorem app_assoc (a b c : Str) : a ++ b ++ c = a ++ (b ++ c) := Srt.str_ext (by simp [Str.cps_append])
theorem ent_same (x : List Str × Ent) : Txt.join " " (entR x) = entP x := by
  obtain ⟨p, e⟩ := x
  cases e with
  | gone =>
    show Txt.join " " [_, _] = _
    rw [join2, show ("gone" : Str) ++ " " = Str.empty ++ "gone " by decide +kernel]
    rfl
  | fil i =>
    show Txt.join " " [_, _, _] = _
    rw [join3, show ("file" : Str) ++ " " = Str.empty ++ "file " by decide +kernel]
    rfl
  | dir o =>
    cases o with
    | none =>
      show Txt.join " " [_, _, _] = _
      rw [join3, show ("folder" : Str) ++ " " = Str.empty ++ "folder " by decide +kernel, app_assoc (_ ++ ptext p), show (" " : Str) ++ "alone" = " alone" by decide +kernel]
      rfl
    | some b =>
      show Txt.join " " [_, _, _, _] = _
      rw [join4, show ("folder" : Str) ++ " " = Str.empty ++ "folder " by decide +kernel, app_assoc (_ ++ ptext p), show (" " : Str) ++ "over" = " over" by decide +kernel, app_assoc (_ ++ ptext p), show (" over" : Str) ++ " " = " over " by decide +kernel]
      rfl
theorem dec_len (i : Int) (h0 : 0 ≤ i) (h1 : i < 1000) : ((toString i : String) : Str).length ≤ 1002 := by
  have := PyProof.Rows.len_str_of_int i
  omega
theorem dec_log {i : Int} (h0 : 0 ≤ i) (h1 : i < 1000) : i.natAbs.log2 < 1920 := by
  have := Nat.log2_le_self i.natAbs
  omega
theorem entP_len {x : List Str × Ent} (hp : Pth x.1) (he : EntOk x.2 1000) : (entP x).length ≤ 1200 := by
  obtain ⟨p, e⟩ := x
  have hl : (ptext p).length ≤ 81 := ptext_len hp
  have e0 : Str.empty.length = 0 := by decide +kernel
  have e1 : ("gone " : Str).length = 5 := by decide +kernel
  have e2 : ("file " : Str).length = 5 := by decide +kernel
  have e3 : ("folder " : Str).length = 7 := by decide +kernel
  have e4 : (" " : Str).length = 1 := by decide +kernel
  have e5 : (" alone" : Str).length = 6 := by decide +kernel
  have e6 : (" over " : Str).length = 6 := by decide +kernel
  cases e with
  | gone =>
    show (Str.empty ++ "gone " ++ ptext p).length ≤ _
    rw [Str.length_append, Str.length_append]
    omega
  | fil i =>
    have := dec_len i he.1 he.2
    show (Str.empty ++ "file " ++ ptext p ++ " " ++ (toString i : String)).length ≤ _
    rw [Str.length_append, Str.length_append, Str.length_append, Str.length_append]
    omega
  | dir o =>
    cases o with
    | none =>
      show (Str.empty ++ "folder " ++ ptext p ++ " alone").length ≤ _
      rw [Str.length_append, Str.length_append, Str.length_append]
      omega
    | some b =>
      have := ptext_len (he b rfl)
      show (Str.empty ++ "folder " ++ ptext p ++ " over " ++ ptext b).length ≤ _
      rw [Str.length_append, Str.length_append, Str.length_append, Str.length_append]
      omega
theorem ofP_len {o : Option (List Str)} (h : ∀ zs, o = some zs → Pth zs) : (ofP o).length ≤ 100 := by
  have e1 : ("data" : Str).length = 4 := by decide +kernel
  have e2 : (" of " : Str).length = 4 := by decide +kernel
  cases o with
  | none =>
    show ("data" : Str).length ≤ _
    omega
  | some zs =>
    have := ptext_len (h zs rfl)
    show (("data" : Str) ++ (" of " ++ ptext zs)).length ≤ _
    rw [Str.length_append, Str.length_append]
    omega
theorem prP_len {x : Pr} (h : PrOk x) : (prP x).length ≤ 400 := by
  obtain ⟨o, z⟩ := x
  have := ofP_len h.org
  have e2 : (" =" : Str).length = 2 := by decide +kernel
  cases z with
  | none =>
    show (ofP o).length ≤ _
    have : (ofP o).length ≤ 100 := this
    omega
  | some z =>
    have hz := h.txt z rfl
    have : (ofP o).length ≤ 100 := this
    show (ofP o ++ (" =" ++ z)).length ≤ _
    rw [Str.length_append, Str.length_append]
    omega
section
variable {P : Program} {w : World} {K : PySem.W.Frag} {mg : Str → Option Value} {base : Heap}
theorem scPathText : FnScope ["path"] ["path"] (defScope sPathText) := ⟨rfl, rfl, rfl, by decide +kernel, rfl, by decide +kernel, by decide +kernel⟩
theorem ok_PathText {f : Addr} {fd : FuncData} (F : Fun K "path_text" "path_text" sPathText f fd) : FnOk P w K mg base CX0 1 f fd ["path"] spPT := by
  refine F.ok scPathText (fun vs H Q E h => ?_) (fun cdv A outer s H vs Q E hr h => ?_)
  · obtain ⟨t, zs, rfl, _⟩ := h
    rfl
  · obtain ⟨t, zs, rfl, ht, hp, k⟩ := h
    have h8 := hp.len
    have hz := hp.nam
    have nd := scPathText.nd
    refine ⟨_, pss_cons (ps_if (pt_cmpR (op_eqT hr.units0) (pv 0) (pe_tup pa_nil) (nomark _)) (pss_one (ps_ret pe_str)) pss_nil)
      (pss_one (ps_ret (pe_bm PySem.F.plainAttrs_str PySem.F.slot_str_join PySem.F.type_str_join mt_join pe_str (pa_cons (pe_comp (x := "name") scPathText ⟨rfl, by decide +kernel, by decide +kernel, by decide +kernel, by decide +kernel, by decide +kernel⟩ (by decide +kernel) (pi_tup (pv 0))
        (fun C fp s H => pe_op op_add_str pe_str (pv 1))) pa_nil)))), ?_⟩
    refine ⟨_, rfl, by show 0 ≤ sizeLine; decide, fun u hu => ?_⟩
    have s1 : Same H (upd H u (.tup [])) := (Same.refl H).upd hu
    refine ⟨t, u, zs, [], rfl, rfl, SqT.of (s1 _ _ ht), SqT.of upd_same, _, rfl, ?_⟩
    refine ite2 (fun h1 => ?_) (fun h1 => ?_)
    · have e : ptext zs = SL := by unfold ptext; rw [if_pos (of_decide_eq_true h1)]
      show Q (.str SL) _
      rw [← e]
      exact k _ s1
    · have e : ptext zs = Txt.join "" (slashed zs) := by unfold ptext; rw [if_neg fun q => h1 (decide_eq_true q)]
      refine ⟨rfl, _, rfl, t, rfl, ⟨_, SqT.of (s1 _ _ ht)⟩, comp_tup (xs := zs.map V.str) (fun i ys H' => i ≤ zs.length ∧ H' = upd H u (.tup []) ∧ ys = ((zs.take i).map fun z => SL ++ z).map V.str) (by rw [List.length_map, sizeLine_eq]; omega)
        ⟨Nat.zero_le _, rfl, rfl⟩ (fun i ys H' ⟨hi, _, e⟩ => by rw [e, List.length_map, List.length_map, List.length_take]; omega) (fun i ys H' _ ⟨_, e, _⟩ => by rw [e]; exact SqT.of (s1 _ _ ht)) ?_ ?_⟩
      · rintro i ys H' v hv ⟨hi, e1, e2⟩
        obtain ⟨p, rfl, hp⟩ : ∃ p, v = V.str p ∧ zs[i]? = some p := by
          rw [List.getElem?_map] at hv
          cases q : zs[i]? with
          | none => rw [q] at hv; cases hv
          | some p => rw [q] at hv; exact ⟨p, (Option.some.inj hv).symm, rfl⟩
        have hlt := (List.getElem?_eq_some_iff.mp hp).1
        have hpl := hz p (List.mem_of_getElem? hp)
        refine ⟨_, rfl, _, _, rfl, rfl, by show 1 + p.length ≤ sizeLine; rw [sizeLine_eq]; omega, hlt, e1, ?_⟩
        rw [e2, ← map_next (f := fun z => SL ++ z) hp, List.map_append]
        rfl
      · rintro ys H' ⟨_, e1, e2⟩ D hD
        rw [List.length_map] at e2
        have e' : ys = (slashed zs).map V.str := by rw [e2, List.take_of_length_le (Nat.le_refl _)]; rfl
        have hsum := slashed_sum zs hz
        refine ⟨"", D, slashed zs, rfl, rfl, SqL.of (by rw [upd_same, e']), by show _ + _ * 0 ≤ _; omega, ?_⟩
        rw [← e]
        subst e1
        exact k _ (s1.upd hD)
theorem scLPathText : FnScope ["_law_path"] ["_law_path"] (defScope sLPathText) := ⟨rfl, rfl, rfl, by decide +kernel, rfl, by decide +kernel, by decide +kernel⟩
theorem ok_LPathText {f : Addr} {fd : FuncData} (F : Fun K "_law_path_text" "_law_path_text" sLPathText f fd) : FnOk P w K mg base CX0 1 f fd ["_law_path"] spPT := by
  refine F.ok scLPathText (fun vs H Q E h => ?_) (fun cdv A outer s H vs Q E hr h => ?_)
  · obtain ⟨t, zs, rfl, _⟩ := h
    rfl
  · obtain ⟨t, zs, rfl, ht, hp, k⟩ := h
    have h8 := hp.len
    have hz := hp.nam
    have nd := scLPathText.nd
    refine ⟨_, pss_cons (ps_if (pt_cmpR (op_eqT hr.units0) (pv 0) (pe_tup pa_nil) (nomark _)) (pss_one (ps_ret pe_str)) pss_nil)
      (pss_one (ps_ret (pe_bm PySem.F.plainAttrs_str PySem.F.slot_str_join PySem.F.type_str_join mt_join pe_str (pa_cons (pe_comp (x := "_law_name") scLPathText ⟨rfl, by decide +kernel, by decide +kernel, by decide +kernel, by decide +kernel, by decide +kernel⟩ (by decide +kernel) (pi_tup (pv 0))
        (fun C fp s H => pe_op op_add_str pe_str (pv 1))) pa_nil)))), ?_⟩
    refine ⟨_, rfl, by show 0 ≤ sizeLine; decide, fun u hu => ?_⟩
    have s1 : Same H (upd H u (.tup [])) := (Same.refl H).upd hu
    refine ⟨t, u, zs, [], rfl, rfl, SqT.of (s1 _ _ ht), SqT.of upd_same, _, rfl, ?_⟩
    refine ite2 (fun h1 => ?_) (fun h1 => ?_)
    · have e : ptext zs = SL := by unfold ptext; rw [if_pos (of_decide_eq_true h1)]
      show Q (.str SL) _
      rw [← e]
      exact k _ s1
    · have e : ptext zs = Txt.join "" (slashed zs) := by unfold ptext; rw [if_neg fun q => h1 (decide_eq_true q)]
      refine ⟨rfl, _, rfl, t, rfl, ⟨_, SqT.of (s1 _ _ ht)⟩, comp_tup (xs := zs.map V.str) (fun i ys H' => i ≤ zs.length ∧ H' = upd H u (.tup []) ∧ ys = ((zs.take i).map fun z => SL ++ z).map V.str) (by rw [List.length_map, sizeLine_eq]; omega)
        ⟨Nat.zero_le _, rfl, rfl⟩ (fun i ys H' ⟨hi, _, e⟩ => by rw [e, List.length_map, List.length_map, List.length_take]; omega) (fun i ys H' _ ⟨_, e, _⟩ => by rw [e]; exact SqT.of (s1 _ _ ht)) ?_ ?_⟩
      · rintro i ys H' v hv ⟨hi, e1, e2⟩
        obtain ⟨p, rfl, hp⟩ : ∃ p, v = V.str p ∧ zs[i]? = some p := by
          rw [List.getElem?_map] at hv
          cases q : zs[i]? with
          | none => rw [q] at hv; cases hv
          | some p => rw [q] at hv; exact ⟨p, (Option.some.inj hv).symm, rfl⟩
        have hlt := (List.getElem?_eq_some_iff.mp hp).1
        have hpl := hz p (List.mem_of_getElem? hp)
        refine ⟨_, rfl, _, _, rfl, rfl, by show 1 + p.length ≤ sizeLine; rw [sizeLine_eq]; omega, hlt, e1, ?_⟩
        rw [e2, ← map_next (f := fun z => SL ++ z) hp, List.map_append]
        rfl
      · rintro ys H' ⟨_, e1, e2⟩ D hD
        rw [List.length_map] at e2
        have e' : ys = (slashed zs).map V.str := by rw [e2, List.take_of_length_le (Nat.le_refl _)]; rfl
        have hsum := slashed_sum zs hz
        refine ⟨"", D, slashed zs, rfl, rfl, SqL.of (by rw [upd_same, e']), by show _ + _ * 0 ≤ _; omega, ?_⟩
        rw [← e]
        subst e1
        exact k _ (s1.upd hD)
end
def spEntT : Sp := fun vs H Q _ => ∃ (v : V) (x : List Str × Ent), vs = [v] ∧ EntV H v x.1 x.2 ∧ Pth x.1 ∧ EntOk x.2 1000 ∧ ∀ H', Same H H' → Q (.str (entP x)) H'
def spPrT : Sp := fun vs H Q _ => ∃ (v : V) (x : Pr), vs = [v] ∧ PairV H v x ∧ PrOk x ∧ ∀ H', Same H H' → Q (.str (prP x)) H'
section
variable {P : Program} {w : World} {K : PySem.W.Frag} {mg : Str → Option Value} {base : Heap}
theorem scEntT : FnScope ["entry", "where", "number", "beneath"] ["entry"] (defScope sEntryText) := ⟨rfl, rfl, rfl, by decide +kernel, rfl, by decide +kernel, by decide +kernel⟩
theorem ok_entT {f : Addr} {fd : FuncData} (F : Fun K "entry_text" "entry_text" sEntryText f fd) (DP : Def P w K mg base 1 "path_text" ["path"] spPT) : FnOk P w K mg base CX0 2 f fd ["entry"] spEntT := by
  refine F.ok scEntT (fun vs H Q E h => ?_) (fun cdv A outer s H vs Q E hr h => ?_)
  · obtain ⟨v, x, rfl, _⟩ := h
    rfl
  · obtain ⟨v, ⟨p, e⟩, rfl, hv, hp, he, kk⟩ := h
    have nd := scEntT.nd
    refine ⟨_, pss_cons (ps_set (i := 1) nd rfl (Or.inl rfl) (pe_def DP hr (pa_cons (pe_ix ix_tup (pv 0) pe_int (fun _ _ => rfl)) pa_nil)))
      (pss_cons (ps_if (pt_cmpR op_eq (pe_ix ix_tup (pv 0) pe_int (fun _ _ => rfl)) pe_str (nomark _)) (pss_one (ps_ret (pe_fstr (pf_str (pf_val (pv 1) pf_nil))))) pss_nil)
      (pss_cons (ps_if (pt_cmpR op_eq (pe_ix ix_tup (pv 0) pe_int (fun _ _ => rfl)) pe_str (nomark _))
        (pss_cons (ps_set (i := 2) nd rfl (Or.inl rfl) (pe_ix ix_tup (pv 0) pe_int (fun _ _ => rfl)))
        (pss_one (ps_ret (pe_fstr (pf_str (pf_val (pv 1) (pf_str (pf_val (pv 2) pf_nil)))))))) pss_nil)
      (pss_cons (ps_if (pt_cmpR op_isN (pe_ix ix_tup (pv 0) pe_int (fun _ _ => rfl)) pe_non (nomark _)) (pss_one (ps_ret (pe_fstr (pf_str (pf_val (pv 1) (pf_str pf_nil)))))) pss_nil)
      (pss_cons (ps_set (i := 3) nd rfl (Or.inl rfl) (pe_def DP hr (pa_cons (pe_ix ix_tup (pv 0) pe_int (fun _ _ => rfl)) pa_nil)))
      (pss_one (ps_ret (pe_fstr (pf_str (pf_val (pv 1) (pf_str (pf_val (pv 3) pf_nil)))))))))))  , ?_⟩
    obtain ⟨t, pa, rfl, hpa, h2⟩ := hv
    have hpt := ptext_len hp
    have el := entP_len hp he
    have sz : ∀ (a : Str), a.length ≤ 1300 → a.length ≤ sizeLine := fun a ha => by rw [sizeLine_eq]; omega
    have e0 : Str.empty.length = 0 := by decide +kernel
    have e1 : ("gone " : Str).length = 5 := by decide +kernel
    have e2 : ("file " : Str).length = 5 := by decide +kernel
    have e3 : ("folder " : Str).length = 7 := by decide +kernel
    have e4 : (" " : Str).length = 1 := by decide +kernel
    have hpt' : (ptext p).length ≤ 81 := hpt
    cases e with
    | gone =>
      refine ⟨_, rfl, t, _, _, _, rfl, rfl, SqT.of h2, rfl, pa, p, rfl, hpa, hp, fun H1 s1 => ?_⟩
      refine ⟨_, rfl, t, _, _, _, rfl, rfl, SqT.of (s1 _ _ h2), rfl, rfl, _, rfl, ?_⟩
      refine ite2 (fun _ => ?_) (fun q => absurd (by decide +kernel) q)
      have l1 : (Str.empty ++ "gone ").length ≤ 1300 := by rw [Str.length_append]; omega
      have l2 : (Str.empty ++ "gone " ++ ptext p).length ≤ 1300 := by rw [Str.length_append, Str.length_append]; omega
      exact ⟨sz _ l1, _, rfl, _, .inl rfl, sz _ (by omega), sz _ l2, sz _ l2, kk H1 s1⟩
    | fil i =>
      refine ⟨_, rfl, t, _, _, _, rfl, rfl, SqT.of h2, rfl, pa, p, rfl, hpa, hp, fun H1 s1 => ?_⟩
      have h2' := s1 _ _ h2
      refine ⟨_, rfl, t, _, _, _, rfl, rfl, SqT.of h2', rfl, rfl, _, rfl, ?_⟩
      refine ite2 (fun q => absurd q (by decide +kernel)) (fun _ => ?_)
      refine ⟨_, rfl, t, _, _, _, rfl, rfl, SqT.of h2', rfl, rfl, _, rfl, ?_⟩
      refine ite2 (fun _ => ?_) (fun q => absurd (by decide +kernel) q)
      refine ⟨_, rfl, t, _, _, _, rfl, rfl, SqT.of h2', rfl, ?_⟩
      have hd := dec_len i he.1 he.2
      have l1 : (Str.empty ++ "file ").length ≤ 1300 := by rw [Str.length_append]; omega
      have l2 : (Str.empty ++ "file " ++ ptext p).length ≤ 1300 := by rw [Str.length_append, Str.length_append]; omega
      have l3 : (Str.empty ++ "file " ++ ptext p ++ " ").length ≤ 1300 := by rw [Str.length_append, Str.length_append, Str.length_append]; omega
      have l4 : (Str.empty ++ "file " ++ ptext p ++ " " ++ (toString i : String)).length ≤ 1300 := by rw [Str.length_append, Str.length_append, Str.length_append, Str.length_append]; omega
      exact ⟨sz _ l1, _, rfl, _, .inl rfl, sz _ (by omega), sz _ l2, sz _ l3, _, rfl, _, .inr ⟨i, rfl, dec_log he.1 he.2, rfl⟩, sz _ (by omega), sz _ l4, sz _ l4, kk H1 s1⟩
    | dir o =>
      obtain ⟨ww, ho, h4⟩ := h2
      refine ⟨_, rfl, t, _, _, _, rfl, rfl, SqT.of h4, rfl, pa, p, rfl, hpa, hp, fun H1 s1 => ?_⟩
      have h4' := s1 _ _ h4
      refine ⟨_, rfl, t, _, _, _, rfl, rfl, SqT.of h4', rfl, rfl, _, rfl, ?_⟩
      refine ite2 (fun q => absurd q (by decide +kernel)) (fun _ => ?_)
      refine ⟨_, rfl, t, _, _, _, rfl, rfl, SqT.of h4', rfl, rfl, _, rfl, ?_⟩
      refine ite2 (fun q => absurd q (by decide +kernel)) (fun _ => ?_)
      have l1 : (Str.empty ++ "folder ").length ≤ 1300 := by rw [Str.length_append]; omega
      have l2 : (Str.empty ++ "folder " ++ ptext p).length ≤ 1300 := by rw [Str.length_append, Str.length_append]; omega
      cases o with
      | none =>
        cases (show ww = .non from ho)
        refine ⟨_, rfl, t, _, _, _, rfl, rfl, SqT.of h4', rfl, rfl, _, rfl, ?_⟩
        refine ite2 (fun _ => ?_) (fun q => absurd (decide_eq_true rfl) q)
        have l3 : (Str.empty ++ "folder " ++ ptext p ++ " alone").length ≤ 1300 := by
          have : (" alone" : Str).length = 6 := by decide +kernel
          rw [Str.length_append, Str.length_append, Str.length_append]; omega
        exact ⟨sz _ l1, _, rfl, _, .inl rfl, sz _ (by omega), sz _ l2, sz _ l3, sz _ l3, kk H1 s1⟩
      | some bs =>
        obtain ⟨ab, rfl, hab⟩ := ho
        refine ⟨_, rfl, t, _, _, _, rfl, rfl, SqT.of h4', rfl, rfl, _, rfl, ?_⟩
        refine ite2 (fun q => absurd (of_decide_eq_true q) (fun z => nomatch z)) (fun _ => ?_)
        have hb := he bs rfl
        have hbl := ptext_len hb
        refine ⟨_, rfl, t, _, _, _, rfl, rfl, SqT.of h4', rfl, ab, bs, rfl, s1 _ _ hab, hb, fun H2 s2 => ?_⟩
        have e6 : (" over " : Str).length = 6 := by decide +kernel
        have l3 : (Str.empty ++ "folder " ++ ptext p ++ " over ").length ≤ 1300 := by rw [Str.length_append, Str.length_append, Str.length_append]; omega
        have l4 : (Str.empty ++ "folder " ++ ptext p ++ " over " ++ ptext bs).length ≤ 1300 := by rw [Str.length_append, Str.length_append, Str.length_append, Str.length_append]; omega
        exact ⟨sz _ l1, _, rfl, _, .inl rfl, sz _ (by omega), sz _ l2, sz _ l3, _, rfl, _, .inl rfl, sz _ (by omega), sz _ l4, sz _ l4, kk H2 (s1.trans s2)⟩
end
section
variable {P : Program} {w : World} {K : PySem.W.Frag} {mg : Str → Option Value} {base : Heap}
theorem scPrT : FnScope ["pair", "written"] ["pair"] (defScope sPairText) := ⟨rfl, rfl, rfl, by decide +kernel, rfl, by decide +kernel, by decide +kernel⟩
theorem ok_prT {f : Addr} {fd : FuncData} (F : Fun K "pair_text" "pair_text" sPairText f fd) (DP : Def P w K mg base 1 "path_text" ["path"] spPT) : FnOk P w K mg base CX0 2 f fd ["pair"] spPrT := by
  refine F.ok scPrT (fun vs H Q E h => ?_) (fun cdv A outer s H vs Q E hr h => ?_)
  · obtain ⟨v, x, rfl, _⟩ := h
    rfl
  · obtain ⟨v, ⟨o, z⟩, rfl, hv, hok, kk⟩ := h
    have nd := scPrT.nd
    refine ⟨_, pss_cons (ps_set (i := 1) nd rfl (Or.inl rfl) pe_str)
      (pss_cons (ps_if (pt_cmpR op_notN (pe_ix ix_tup (pv 0) pe_int (fun _ _ => rfl)) pe_non (nomark _)) (pss_one (ps_aug (i := 1) nd rfl (Or.inl rfl) (pe_op op_add_str pe_str (pe_def DP hr (pa_cons (pe_ix ix_tup (pv 0) pe_int (fun _ _ => rfl)) pa_nil))) ip_str)) pss_nil)
      (pss_cons (ps_if (pt_cmpR op_notN (pe_ix ix_tup (pv 0) pe_int (fun _ _ => rfl)) pe_non (nomark _)) (pss_one (ps_aug (i := 1) nd rfl (Or.inl rfl) (pe_op op_add_str pe_str (pe_ix ix_tup (pv 0) pe_int (fun _ _ => rfl))) ip_str)) pss_nil)
      (pss_one (ps_ret (pv 1))))), ?_⟩
    obtain ⟨t, ww, y, rfl, ho, hy, ht⟩ := hv
    have lo := ofP_len hok.org
    have lo' : (ofP o).length ≤ 100 := lo
    have e1 : ("data" : Str).length = 4 := by decide +kernel
    have e2 : (" of " : Str).length = 4 := by decide +kernel
    have e3 : (" =" : Str).length = 2 := by decide +kernel
    have second : ∀ (H1 : Hp), Same H H1 → ∀ (z' : Option Str), z' = z → H1 t = some (.tup [ww, y]) := fun H1 s1 _ _ => s1 _ _ ht
    refine ⟨_, rfl, t, _, _, _, rfl, rfl, SqT.of ht, rfl, rfl, _, rfl, ?_⟩
    cases o with
    | none =>
      cases (show ww = .non from ho)
      refine ite2 (fun q => absurd q (by decide)) (fun _ => ?_)
      refine ⟨_, rfl, t, _, _, _, rfl, rfl, SqT.of ht, rfl, rfl, _, rfl, ?_⟩
      cases z with
      | none =>
        cases (show y = .non from hy)
        refine ite2 (fun q => absurd q (by decide)) (fun _ => ?_)
        exact ⟨_, rfl, kk H (Same.refl H)⟩
      | some z =>
        cases (show y = .str z from hy)
        have hz := hok.txt z rfl
        refine ite2 (fun _ => ?_) (fun q => absurd rfl q)
        refine ⟨_, rfl, _, rfl, t, _, _, _, rfl, rfl, SqT.of ht, rfl, _, _, rfl, rfl, by rw [sizeLine_eq]; omega, _, _, rfl, rfl, by rw [Str.length_append, sizeLine_eq]; omega, ?_⟩
        exact ⟨_, rfl, kk H (Same.refl H)⟩
    | some zs =>
      obtain ⟨a, rfl, ha⟩ := ho
      have hp := hok.org zs rfl
      have hl := ptext_len hp
      refine ite2 (fun _ => ?_) (fun q => absurd rfl q)
      refine ⟨_, rfl, _, rfl, t, _, _, _, rfl, rfl, SqT.of ht, rfl, a, zs, rfl, ha, hp, fun H1 s1 => ?_⟩
      refine ⟨_, _, rfl, rfl, by rw [sizeLine_eq]; omega, _, _, rfl, rfl, by rw [Str.length_append, sizeLine_eq]; omega, ?_⟩
      refine ⟨_, rfl, t, _, _, _, rfl, rfl, SqT.of (s1 _ _ ht), rfl, rfl, _, rfl, ?_⟩
      cases z with
      | none =>
        cases (show y = .non from hy)
        refine ite2 (fun q => absurd q (by decide)) (fun _ => ?_)
        exact ⟨_, rfl, kk H1 s1⟩
      | some z =>
        cases (show y = .str z from hy)
        have hz := hok.txt z rfl
        have lo2 : (("data" : Str) ++ (" of " ++ ptext zs)).length ≤ 100 := lo
        refine ite2 (fun _ => ?_) (fun q => absurd rfl q)
        refine ⟨_, rfl, _, rfl, t, _, _, _, rfl, rfl, SqT.of (s1 _ _ ht), rfl, _, _, rfl, rfl, by rw [sizeLine_eq]; omega, _, _, rfl, rfl, by rw [Str.length_append (" =" : Str), sizeLine_eq]; omega, ?_⟩
        exact ⟨_, rfl, kk H1 s1⟩
theorem scPrR : FnScope ["_law_pair", "_law_row"] ["_law_pair"] (defScope sPairRow) := ⟨rfl, rfl, rfl, by decide +kernel, rfl, by decide +kernel, by decide +kernel⟩
theorem ok_prR {f : Addr} {fd : FuncData} (F : Fun K "_law_pair_row" "_law_pair_row" sPairRow f fd) (DP : Def P w K mg base 1 "_law_path_text" ["_law_path"] spPT) : FnOk P w K mg base CX0 2 f fd ["_law_pair"] spPrT := by
  refine F.ok scPrR (fun vs H Q E h => ?_) (fun cdv A outer s H vs Q E hr h => ?_)
  · obtain ⟨v, x, rfl, _⟩ := h
    rfl
  · obtain ⟨v, ⟨o, z⟩, rfl, hv, hok, kk⟩ := h
    have nd := scPrR.nd
    refine ⟨_, pss_cons (ps_set (i := 1) nd rfl (Or.inl rfl) pe_str)
      (pss_cons (ps_if (pt_cmpR op_notN (pe_ix ix_tup (pv 0) pe_int (fun _ _ => rfl)) pe_non (nomark _)) (pss_one (ps_set (i := 1) nd rfl (Or.inl rfl) (pe_op op_add_str pe_str (pe_def DP hr (pa_cons (pe_ix ix_tup (pv 0) pe_int (fun _ _ => rfl)) pa_nil))))) pss_nil)
      (pss_cons (ps_if (pt_cmpR op_notN (pe_ix ix_tup (pv 0) pe_int (fun _ _ => rfl)) pe_non (nomark _)) (pss_one (ps_set (i := 1) nd rfl (Or.inl rfl) (pe_op op_add_str (pe_op op_add_str (pv 1) pe_str) (pe_ix ix_tup (pv 0) pe_int (fun _ _ => rfl))))) pss_nil)
      (pss_one (ps_ret (pv 1))))), ?_⟩
    obtain ⟨t, ww, y, rfl, ho, hy, ht⟩ := hv
    have lo := ofP_len hok.org
    have e1 : ("data" : Str).length = 4 := by decide +kernel
    have e2 : ("data of " : Str).length = 8 := by decide +kernel
    have e3 : (" =" : Str).length = 2 := by decide +kernel
    refine ⟨_, rfl, t, _, _, _, rfl, rfl, SqT.of ht, rfl, rfl, _, rfl, ?_⟩
    cases o with
    | none =>
      cases (show ww = .non from ho)
      refine ite2 (fun q => absurd q (by decide)) (fun _ => ?_)
      refine ⟨_, rfl, t, _, _, _, rfl, rfl, SqT.of ht, rfl, rfl, _, rfl, ?_⟩
      cases z with
      | none =>
        cases (show y = .non from hy)
        refine ite2 (fun q => absurd q (by decide)) (fun _ => ?_)
        exact ⟨_, rfl, kk H (Same.refl H)⟩
      | some z =>
        cases (show y = .str z from hy)
        have hz := hok.txt z rfl
        refine ite2 (fun _ => ?_) (fun q => absurd rfl q)
        refine ⟨_, rfl, _, _, rfl, rfl, by rw [sizeLine_eq]; omega, _, rfl, t, _, _, _, rfl, rfl, SqT.of ht, rfl, _, _, rfl, rfl, by rw [Str.length_append, sizeLine_eq]; omega, ?_⟩
        refine ⟨_, rfl, ?_⟩
        rw [app_assoc]
        exact kk H (Same.refl H)
    | some zs =>
      obtain ⟨a, rfl, ha⟩ := ho
      have hp := hok.org zs rfl
      have hl := ptext_len hp
      have ed : ("data of " : Str) ++ ptext zs = "data" ++ (" of " ++ ptext zs) := by
        rw [← app_assoc, show ("data" : Str) ++ " of " = "data of " by decide +kernel]
      refine ite2 (fun _ => ?_) (fun q => absurd rfl q)
      refine ⟨_, rfl, t, _, _, _, rfl, rfl, SqT.of ht, rfl, a, zs, rfl, ha, hp, fun H1 s1 => ?_⟩
      refine ⟨_, _, rfl, rfl, by rw [sizeLine_eq]; omega, ?_⟩
      refine ⟨_, rfl, t, _, _, _, rfl, rfl, SqT.of (s1 _ _ ht), rfl, rfl, _, rfl, ?_⟩
      cases z with
      | none =>
        cases (show y = .non from hy)
        refine ite2 (fun q => absurd q (by decide)) (fun _ => ?_)
        refine ⟨_, rfl, ?_⟩
        have := kk H1 s1
        rw [show prP (some zs, none) = ("data of " : Str) ++ ptext zs from ed.symm] at this
        exact this
      | some z =>
        cases (show y = .str z from hy)
        have hz := hok.txt z rfl
        refine ite2 (fun _ => ?_) (fun q => absurd rfl q)
        refine ⟨_, rfl, _, _, rfl, rfl, by rw [Str.length_append, sizeLine_eq]; omega, _, rfl, t, _, _, _, rfl, rfl, SqT.of (s1 _ _ ht), rfl, _, _, rfl, rfl, by rw [Str.length_append, Str.length_append, sizeLine_eq]; omega, ?_⟩
        refine ⟨_, rfl, ?_⟩
        have := kk H1 s1
        rw [show prP (some zs, some z) = (("data of " : Str) ++ ptext zs) ++ (" =" ++ z) by rw [ed]; rfl, ← app_assoc] at this
        exact this
theorem scEntR : FnScope ["_law_entry", "_law_row"] ["_law_entry"] (defScope sEntryRow) := ⟨rfl, rfl, rfl, by decide +kernel, rfl, by decide +kernel, by decide +kernel⟩
theorem ok_entR {f : Addr} {fd : FuncData} (F : Fun K "_law_entry_row" "_law_entry_row" sEntryRow f fd) (mStr : mg "str" = none) (DP : Def P w K mg base 1 "_law_path_text" ["_law_path"] spPT) : FnOk P w K mg base CX0 2 f fd ["_law_entry"] spEntT := by
  refine F.ok scEntR (fun vs H Q E h => ?_) (fun cdv A outer s H vs Q E hr h => ?_)
  · obtain ⟨v, x, rfl, _⟩ := h
    rfl
  · obtain ⟨v, ⟨p, e⟩, rfl, hv, hp, he, kk⟩ := h
    have nd := scEntR.nd
    refine ⟨_, pss_cons (ps_set (i := 1) nd rfl (Or.inl rfl) (pe_lst (pa_cons (pe_ix ix_tup (pv 0) pe_int (fun _ _ => rfl)) (pa_cons (pe_def DP hr (pa_cons (pe_ix ix_tup (pv 0) pe_int (fun _ _ => rfl)) pa_nil)) pa_nil))))
      (pss_cons (ps_if (pt_cmpR op_eq (pe_ix ix_tup (pv 0) pe_int (fun _ _ => rfl)) pe_str (nomark _)) (pss_one (ps_expr (pe_bm PySem.F.plainAttrs_list PySem.F.slot_list_append PySem.F.type_list_append mt_append (pv 1) (pa_cons (pe_callTy call_str_int (by rfl) mStr PyProof.Rows.Boot.str (pa_cons (pe_ix ix_tup (pv 0) pe_int (fun _ _ => rfl)) pa_nil)) pa_nil)))) pss_nil)
      (pss_cons (ps_if (PW.pt (pw_and (pt_cmpR op_eq (pe_ix ix_tup (pv 0) pe_int (fun _ _ => rfl)) pe_str (nomark _)) (pw_and1 (pt_cmpR op_isN (pe_ix ix_tup (pv 0) pe_int (fun _ _ => rfl)) pe_non (nomark _)))))
        (pss_one (ps_expr (pe_bm PySem.F.plainAttrs_list PySem.F.slot_list_append PySem.F.type_list_append mt_append (pv 1) (pa_cons pe_str pa_nil))))
        (pss_one (ps_if (pt_cmpR op_eq (pe_ix ix_tup (pv 0) pe_int (fun _ _ => rfl)) pe_str (nomark _)) (pss_one (ps_set (i := 1) nd rfl (Or.inl rfl) (pe_op op_cat (pv 1) (pe_lst (pa_cons pe_str (pa_cons (pe_def DP hr (pa_cons (pe_ix ix_tup (pv 0) pe_int (fun _ _ => rfl)) pa_nil)) pa_nil)))))) pss_nil)))
      (pss_one (ps_ret (pe_bm PySem.F.plainAttrs_str PySem.F.slot_str_join PySem.F.type_str_join mt_join pe_str (pa_cons (pv 1) pa_nil)))))), ?_⟩
    obtain ⟨t, pa, rfl, hpa, h2⟩ := hv
    have hl : (ptext p).length ≤ 81 := ptext_len hp
    have e1 : ("gone" : Str).length = 4 := by decide +kernel
    have e2 : ("file" : Str).length = 4 := by decide +kernel
    have e3 : ("folder" : Str).length = 6 := by decide +kernel
    have e4 : (" " : Str).length = 1 := by decide +kernel
    have e5 : ("alone" : Str).length = 5 := by decide +kernel
    have e6 : ("over" : Str).length = 4 := by decide +kernel
    cases e with
    | gone =>
      refine ⟨_, rfl, t, _, _, _, rfl, rfl, SqT.of h2, rfl, _, rfl, t, _, _, _, rfl, rfl, SqT.of h2, rfl, pa, p, rfl, hpa, hp, fun H1 s1 => ⟨by show 2 ≤ sizeLine; decide, fun L hL => ?_⟩⟩
      have sL : Same H (upd H1 L (.lst [V.str "gone", V.str (ptext p)])) := s1.upd hL
      have h2' := sL _ _ h2
      refine ⟨_, rfl, t, _, _, _, rfl, rfl, SqT.of h2', rfl, rfl, _, rfl, ?_⟩
      refine ite2 (fun q => absurd q (by decide +kernel)) (fun _ => ?_)
      refine ⟨_, rfl, t, _, _, _, rfl, rfl, SqT.of h2', rfl, rfl, _, rfl, ?_⟩
      refine ite2 (fun q => absurd q (by decide +kernel)) (fun _ => iteF ?_)
      refine ⟨_, rfl, t, _, _, _, rfl, rfl, SqT.of h2', rfl, rfl, _, rfl, ?_⟩
      refine ite2 (fun q => absurd q (by decide +kernel)) (fun _ => ?_)
      refine ⟨rfl, _, rfl, " ", L, entR (p, .gone), rfl, rfl, SqL.of upd_same, by show ("gone" : Str).length + ((ptext p).length + 0) + 2 * (" " : Str).length ≤ _; omega, ?_⟩
      rw [ent_same]
      exact kk _ sL
    | fil i =>
      refine ⟨_, rfl, t, _, _, _, rfl, rfl, SqT.of h2, rfl, _, rfl, t, _, _, _, rfl, rfl, SqT.of h2, rfl, pa, p, rfl, hpa, hp, fun H1 s1 => ⟨by show 2 ≤ sizeLine; decide, fun L hL => ?_⟩⟩
      have sL : Same H (upd H1 L (.lst [V.str "file", V.str (ptext p)])) := s1.upd hL
      have h2' := sL _ _ h2
      have hd := dec_len i he.1 he.2
      refine ⟨_, rfl, t, _, _, _, rfl, rfl, SqT.of h2', rfl, rfl, _, rfl, ?_⟩
      refine ite2 (fun _ => ?_) (fun q => absurd (by decide +kernel) q)
      refine ⟨_, rfl, .inl ⟨rfl, _, SqL.of upd_same⟩, _, rfl, t, _, _, _, rfl, rfl, SqT.of h2', rfl, i, rfl, dec_log he.1 he.2, L, _, _, rfl, rfl, upd_same, by show 2 < sizeLine; decide, ?_⟩
      have n0 : ∀ b o, H b = some o → b ≠ L := fun b o q => ne_of_none (s1 _ _ q) hL
      have sF : Same H (upd (upd H1 L (.lst [V.str "file", V.str (ptext p)])) L (.lst [V.str "file", V.str (ptext p), V.str ((toString i : String))])) := fun b o q => by rw [upd_ne (n0 b o q)]; exact sL b o q
      have h2'' := sF _ _ h2
      refine ⟨_, rfl, t, _, _, _, rfl, rfl, SqT.of h2'', rfl, rfl, _, rfl, ?_⟩
      refine ite2 (fun q => absurd q (by decide +kernel)) (fun _ => iteF ?_)
      refine ⟨_, rfl, t, _, _, _, rfl, rfl, SqT.of h2'', rfl, rfl, _, rfl, ?_⟩
      refine ite2 (fun q => absurd q (by decide +kernel)) (fun _ => ?_)
      refine ⟨rfl, _, rfl, " ", L, entR (p, .fil i), rfl, rfl, SqL.of upd_same, by show ("file" : Str).length + ((ptext p).length + (((toString i : String) : Str).length + 0)) + 3 * (" " : Str).length ≤ _; omega, ?_⟩
      rw [ent_same]
      exact kk _ sF
    | dir o =>
      obtain ⟨ww, ho, h4⟩ := h2
      refine ⟨_, rfl, t, _, _, _, rfl, rfl, SqT.of h4, rfl, _, rfl, t, _, _, _, rfl, rfl, SqT.of h4, rfl, pa, p, rfl, hpa, hp, fun H1 s1 => ⟨by show 2 ≤ sizeLine; decide, fun L hL => ?_⟩⟩
      have sL : Same H (upd H1 L (.lst [V.str "folder", V.str (ptext p)])) := s1.upd hL
      have h4' := sL _ _ h4
      have n0 : ∀ b o, H b = some o → b ≠ L := fun b o q => ne_of_none (s1 _ _ q) hL
      refine ⟨_, rfl, t, _, _, _, rfl, rfl, SqT.of h4', rfl, rfl, _, rfl, ?_⟩
      refine ite2 (fun q => absurd q (by decide +kernel)) (fun _ => ?_)
      refine ⟨_, rfl, t, _, _, _, rfl, rfl, SqT.of h4', rfl, rfl, _, rfl, ?_⟩
      refine ite2 (fun _ => ?_) (fun q => absurd (by decide +kernel) q)
      refine ⟨_, rfl, t, _, _, _, rfl, rfl, SqT.of h4', rfl, rfl, _, rfl, ?_⟩
      cases o with
      | none =>
        cases (show ww = .non from ho)
        refine ite2 (fun _ => ?_) (fun q => absurd (decide_eq_true rfl) q)
        refine ⟨_, rfl, .inl ⟨rfl, _, SqL.of upd_same⟩, L, _, _, rfl, rfl, upd_same, by show 2 < sizeLine; decide, ?_⟩
        have sF : Same H (upd (upd H1 L (.lst [V.str "folder", V.str (ptext p)])) L (.lst [V.str "folder", V.str (ptext p), V.str "alone"])) := fun b o q => by rw [upd_ne (n0 b o q)]; exact sL b o q
        refine ⟨rfl, _, rfl, " ", L, entR (p, .dir none), rfl, rfl, SqL.of upd_same, by show ("folder" : Str).length + ((ptext p).length + (("alone" : Str).length + 0)) + 3 * (" " : Str).length ≤ _; omega, ?_⟩
        rw [ent_same]
        exact kk _ sF
      | some bs =>
        obtain ⟨ab, rfl, hab⟩ := ho
        have hb := he bs rfl
        have hbl := ptext_len hb
        refine ite2 (fun q => absurd (of_decide_eq_true q) (fun z => nomatch z)) (fun _ => ?_)
        refine ⟨_, rfl, t, _, _, _, rfl, rfl, SqT.of h4', rfl, rfl, _, rfl, ?_⟩
        refine ite2 (fun _ => ?_) (fun q => absurd (by decide +kernel) q)
        refine ⟨_, rfl, _, rfl, t, _, _, _, rfl, rfl, SqT.of h4', rfl, ab, bs, rfl, sL _ _ hab, hb, fun H2 s2 => ⟨by show 2 ≤ sizeLine; decide, fun M hM => ?_⟩⟩
        have s3 : Same (upd H1 L (.lst [V.str "folder", V.str (ptext p)])) (upd H2 M (.lst [V.str "over", V.str (ptext bs)])) := s2.upd hM
        refine ⟨L, M, _, _, rfl, rfl, s3 _ _ upd_same, upd_same, by show 2 + 2 ≤ sizeLine; decide, fun N hN => ?_⟩
        have sF : Same H (upd (upd H2 M (.lst [V.str "over", V.str (ptext bs)])) N (.lst [V.str "folder", V.str (ptext p), V.str "over", V.str (ptext bs)])) := (sL.trans s3).upd hN
        refine ⟨rfl, _, rfl, " ", N, entR (p, .dir (some bs)), rfl, rfl, SqL.of upd_same, by show ("folder" : Str).length + ((ptext p).length + (("over" : Str).length + ((ptext bs).length + 0))) + 4 * (" " : Str).length ≤ _; omega, ?_⟩
        rw [ent_same]
        exact kk _ sF
end
structure LayOk (L : Lay) : Prop where
  el : L.ents.length ≤ 198
  pl : L.pairs.length ≤ 400
  eo : ∀ x ∈ L.ents, Pth x.1 ∧ EntOk x.2 1000
  po : ∀ x ∈ L.pairs, PrOk x
theorem layF_ok {ns : List Int} (h : ns.length ≤ 63) : LayOk (layF ns) := by
  have gok := gEnd_ok h
  have r2 := rows2_ok h
  have hpl := gok.pl
  refine ⟨?_, ?_, fun x hx => ?_, fun x hx => ?_⟩
  · show ((sortP _).map _).length ≤ _
    rw [List.length_map]
    unfold sortP
    rw [(List.mergeSort_perm _ _).length_eq, List.length_map]
    exact r2.2
  · show (cutL (gEnd ns).pairs _ _ ++ cutL (gEnd ns).pairs _ _).length ≤ _
    have b1 := cutL_le (gEnd ns).pairs (some ((gEnd ns).pairs.length - (turnF ns).1)) none
    have b2 := cutL_le (gEnd ns).pairs none (some ((gEnd ns).pairs.length - (turnF ns).1))
    rw [List.length_append]
    omega
  · obtain ⟨p, hp, rfl⟩ := List.mem_map.mp hx
    have hp2 : p ∈ (rows2 ns).map (·.1) := (List.mergeSort_perm _ _).mem_iff.mp hp
    obtain ⟨r, hr, rfl⟩ := List.mem_map.mp hp2
    have ro := r2.1 r hr
    refine ⟨ro.2.1, ?_⟩
    show EntOk (shiftE _ _ ((lookR (rows2 ns) r.1).getD .gone)) 1000
    cases q : lookR (rows2 ns) r.1 with
    | none => trivial
    | some e =>
      have eo := (r2.1 _ (look_mem q)).2.2
      cases e with
      | gone => trivial
      | dir o => exact eo
      | fil i =>
        have eo' : 0 ≤ i ∧ i < ((gEnd ns).pairs.length : Int) := eo
        have hpos : (0 : Int) < ((gEnd ns).pairs.length : Int) := by omega
        refine ⟨Int.emod_nonneg _ (by omega), ?_⟩
        have := Int.emod_lt_of_pos (i + (turnF ns).1) hpos
        show (i + (turnF ns).1) % ((gEnd ns).pairs.length : Int) < ((1000 : Nat) : Int)
        omega
  · rcases List.mem_append.mp hx with q | q
    · exact gok.pp x (cutL_mem q)
    · exact gok.pp x (cutL_mem q)
def rowsP (L : Lay) : List Str := L.ents.map entP ++ L.pairs.map prP
theorem sum_le {l : List Str} {n : Nat} (h : ∀ z ∈ l, z.length ≤ n) : (l.map (·.length)).sum ≤ n * l.length := by
  induction l with
  | nil => exact Nat.zero_le _
  | cons z l ih =>
    rw [List.map_cons, List.sum_cons, List.length_cons, Nat.mul_succ]
    have h1 := h z List.mem_cons_self
    have h2 := ih fun y hy => h y (List.mem_cons_of_mem _ hy)
    omega
theorem rowsP_len {L : Lay} (h : LayOk L) : ((rowsP L).map (·.length)).sum + (rowsP L).length * ("\n" : Str).length ≤ 16777216 := by
  have hs : ∀ z ∈ rowsP L, z.length ≤ 1200 := fun z hz => by
    rcases List.mem_append.mp hz with q | q
    · obtain ⟨x, hx, rfl⟩ := List.mem_map.mp q
      exact entP_len (h.eo x hx).1 (h.eo x hx).2
    · obtain ⟨x, hx, rfl⟩ := List.mem_map.mp q
      have := prP_len (h.po x hx)
      omega
  have hl : (rowsP L).length ≤ 598 := by
    unfold rowsP
    rw [List.length_append, List.length_map, List.length_map]
    have := h.el
    have := h.pl
    omega
  have h1 := sum_le hs
  have e1 : ("\n" : Str).length = 1 := by decide +kernel
  rw [e1]
  omega
def spRows : Sp := fun vs H Q _ => ∃ (v : V) (L : Lay), vs = [v] ∧ LayV H v L ∧ LayOk L ∧ ∀ (l : Addr) (H' : Hp), H' l = some (.lst ((rowsP L).map V.str)) → Same H H' → Q (.ref l) H'
def spLT : Sp := fun vs H Q _ => ∃ (v : V) (L : Lay), vs = [v] ∧ LayV H v L ∧ LayOk L ∧ ∀ H', Same H H' → Q (.str (Txt.join "\n" (rowsP L))) H'
section
variable {P : Program} {w : World} {K : PySem.W.Frag} {mg : Str → Option Value} {base : Heap}
theorem scRows : FnScope ["_law_layer_here"] ["_law_layer_here"] (defScope sRows) := ⟨rfl, rfl, rfl, by decide +kernel, rfl, by decide +kernel, by decide +kernel⟩
theorem ok_rows {f : Addr} {fd : FuncData} (F : Fun K "_law_rows" "_law_rows" sRows f fd) (DE : Def P w K mg base 2 "_law_entry_row" ["_law_entry"] spEntT) (DP : Def P w K mg base 2 "_law_pair_row" ["_law_pair"] spPrT) : FnOk P w K mg base CX0 3 f fd ["_law_layer_here"] spRows := by
  refine F.ok scRows (fun vs H Q E h => ?_) (fun cdv A outer s H vs Q E hr h => ?_)
  · obtain ⟨v, L, rfl, _⟩ := h
    rfl
  · obtain ⟨v, L, rfl, hv, ok, kk⟩ := h
    refine ⟨_, pss_one (ps_ret (pe_op op_cat
      (pe_comp (x := "_law_entry") scRows ⟨rfl, by decide +kernel, by decide +kernel, by decide +kernel, by decide +kernel, by decide +kernel⟩ (by decide +kernel) (pi_tup (pe_ix ix_tup (pv 0) pe_int (fun _ _ => rfl))) (fun C fp s H => pe_def DE hr (pa_cons (pv 1) pa_nil)))
      (pe_comp (x := "_law_pair") scRows ⟨rfl, by decide +kernel, by decide +kernel, by decide +kernel, by decide +kernel, by decide +kernel⟩ (by decide +kernel) (pi_tup (pe_ix ix_tup (pv 0) pe_int (fun _ _ => rfl))) (fun C fp s H => pe_def DP hr (pa_cons (pv 1) pa_nil))))), ?_⟩
    obtain ⟨t, e, p, es, ps, rfl, ht, he, hp, hE, hP⟩ := hv
    have le : es.length = L.ents.length := Paired.length hE
    have lq : ps.length = L.pairs.length := Paired.length hP
    have l1 := ok.el
    have l2 := ok.pl
    refine ⟨_, rfl, t, _, _, _, rfl, rfl, SqT.of ht, rfl, e, rfl, ⟨_, SqT.of he⟩, comp_tup (xs := es) (fun i ys H' => i ≤ L.ents.length ∧ ys = ((L.ents.take i).map entP).map V.str ∧ Same H H') (by rw [sizeLine_eq]; omega)
      ⟨Nat.zero_le _, rfl, Same.refl H⟩ (fun i ys H' ⟨hi, e, _⟩ => by rw [e, List.length_map, List.length_map, List.length_take]; omega) (fun i ys H' _ ⟨_, _, s⟩ => SqT.of (s _ _ he)) ?_ ?_⟩
    · rintro i ys H' v hv ⟨hi, e1, s1⟩
      obtain ⟨x, hx, hxv⟩ := paired_get hE hv
      have hlt := (List.getElem?_eq_some_iff.mp hx).1
      have hm := List.mem_of_getElem? hx
      refine ⟨_, rfl, v, x, rfl, EntV.tk (Tk.of s1) hxv, (ok.eo x hm).1, (ok.eo x hm).2, fun H2 s2 => ⟨hlt, ?_, s1.trans s2⟩⟩
      rw [e1, ← map_next (f := entP) hx, List.map_append]
      rfl
    rintro ys H1 ⟨_, e1, s1⟩ D1 hD1
    rw [le, List.take_of_length_le (Nat.le_refl _)] at e1
    have sA1 : Same H (upd H1 D1 (.lst ys)) := s1.upd hD1
    have hD1' : (upd H1 D1 (.lst ys)) D1 = some (.lst ((L.ents.map entP).map V.str)) := by rw [upd_same, e1]
    generalize (upd H1 D1 (.lst ys)) = HB at sA1 hD1' ⊢
    refine ⟨_, rfl, t, _, _, _, rfl, rfl, SqT.of (sA1 _ _ ht), rfl, p, rfl, ⟨_, SqT.of (sA1 _ _ hp)⟩, comp_tup (xs := ps) (fun i ys H' => i ≤ L.pairs.length ∧ ys = ((L.pairs.take i).map prP).map V.str ∧ Same HB H') (by rw [sizeLine_eq]; omega)
      ⟨Nat.zero_le _, rfl, Same.refl HB⟩ (fun i ys H' ⟨hi, e, _⟩ => by rw [e, List.length_map, List.length_map, List.length_take]; omega) (fun i ys H' _ ⟨_, _, s⟩ => SqT.of (s _ _ (sA1 _ _ hp))) ?_ ?_⟩
    · rintro i ys H' v hv ⟨hi, e1, s1⟩
      obtain ⟨x, hx, hxv⟩ := paired_get hP hv
      have hlt := (List.getElem?_eq_some_iff.mp hx).1
      have hm := List.mem_of_getElem? hx
      refine ⟨_, rfl, v, x, rfl, PairV.tk (Tk.of (sA1.trans s1)) hxv, ok.po x hm, fun H2 s2 => ⟨hlt, ?_, s1.trans s2⟩⟩
      rw [e1, ← map_next (f := prP) hx, List.map_append]
      rfl
    rintro zs H2 ⟨_, e2, s2⟩ D2 hD2
    rw [lq, List.take_of_length_le (Nat.le_refl _)] at e2
    have s3 : Same HB (upd H2 D2 (.lst zs)) := s2.upd hD2
    have sA : Same H (upd H2 D2 (.lst zs)) := sA1.trans s3
    refine ⟨D1, D2, _, _, rfl, rfl, s3 _ _ hD1', by rw [upd_same, e2], by rw [List.length_map, List.length_map, List.length_map, List.length_map, sizeLine_eq]; omega, fun N hN => ?_⟩
    exact kk N _ (by rw [upd_same]; unfold rowsP; rw [List.map_append]) (sA.upd hN)
theorem scLT : FnScope ["layer", "rows"] ["layer"] (defScope sLayerText) := ⟨rfl, rfl, rfl, by decide +kernel, rfl, by decide +kernel, by decide +kernel⟩
theorem ok_LT {f : Addr} {fd : FuncData} (F : Fun K "layer_text" "layer_text" sLayerText f fd) (DE : Def P w K mg base 2 "entry_text" ["entry"] spEntT) (DP : Def P w K mg base 2 "pair_text" ["pair"] spPrT) : FnOk P w K mg base CX0 3 f fd ["layer"] spLT := by
  refine F.ok scLT (fun vs H Q E h => ?_) (fun cdv A outer s H vs Q E hr h => ?_)
  · obtain ⟨v, L, rfl, _⟩ := h
    rfl
  · obtain ⟨v, L, rfl, hv, ok, kk⟩ := h
    have nd := scLT.nd
    refine ⟨_, pss_cons (ps_set (i := 1) nd rfl (Or.inl rfl) (pe_op op_cat
      (pe_comp (x := "entry") scLT ⟨rfl, by decide +kernel, by decide +kernel, by decide +kernel, by decide +kernel, by decide +kernel⟩ (by decide +kernel) (pi_tup (pe_ix ix_tup (pv 0) pe_int (fun _ _ => rfl))) (fun C fp s H => pe_def DE hr (pa_cons (pv 2) pa_nil)))
      (pe_comp (x := "pair") scLT ⟨rfl, by decide +kernel, by decide +kernel, by decide +kernel, by decide +kernel, by decide +kernel⟩ (by decide +kernel) (pi_tup (pe_ix ix_tup (pv 0) pe_int (fun _ _ => rfl))) (fun C fp s H => pe_def DP hr (pa_cons (pv 2) pa_nil)))))
      (pss_one (ps_ret (pe_bm PySem.F.plainAttrs_str PySem.F.slot_str_join PySem.F.type_str_join mt_join pe_str (pa_cons (pv 1) pa_nil)))), ?_⟩
    obtain ⟨t, e, p, es, ps, rfl, ht, he, hp, hE, hP⟩ := hv
    have le : es.length = L.ents.length := Paired.length hE
    have lq : ps.length = L.pairs.length := Paired.length hP
    have l1 := ok.el
    have l2 := ok.pl
    refine ⟨_, rfl, t, _, _, _, rfl, rfl, SqT.of ht, rfl, e, rfl, ⟨_, SqT.of he⟩, comp_tup (xs := es) (fun i ys H' => i ≤ L.ents.length ∧ ys = ((L.ents.take i).map entP).map V.str ∧ Same H H') (by rw [sizeLine_eq]; omega)
      ⟨Nat.zero_le _, rfl, Same.refl H⟩ (fun i ys H' ⟨hi, e, _⟩ => by rw [e, List.length_map, List.length_map, List.length_take]; omega) (fun i ys H' _ ⟨_, _, s⟩ => SqT.of (s _ _ he)) ?_ ?_⟩
    · rintro i ys H' v hv ⟨hi, e1, s1⟩
      obtain ⟨x, hx, hxv⟩ := paired_get hE hv
      have hlt := (List.getElem?_eq_some_iff.mp hx).1
      have hm := List.mem_of_getElem? hx
      refine ⟨_, rfl, v, x, rfl, EntV.tk (Tk.of s1) hxv, (ok.eo x hm).1, (ok.eo x hm).2, fun H2 s2 => ⟨hlt, ?_, s1.trans s2⟩⟩
      rw [e1, ← map_next (f := entP) hx, List.map_append]
      rfl
    rintro ys H1 ⟨_, e1, s1⟩ D1 hD1
    rw [le, List.take_of_length_le (Nat.le_refl _)] at e1
    have sA1 : Same H (upd H1 D1 (.lst ys)) := s1.upd hD1
    have hD1' : (upd H1 D1 (.lst ys)) D1 = some (.lst ((L.ents.map entP).map V.str)) := by rw [upd_same, e1]
    generalize (upd H1 D1 (.lst ys)) = HB at sA1 hD1' ⊢
    refine ⟨_, rfl, t, _, _, _, rfl, rfl, SqT.of (sA1 _ _ ht), rfl, p, rfl, ⟨_, SqT.of (sA1 _ _ hp)⟩, comp_tup (xs := ps) (fun i ys H' => i ≤ L.pairs.length ∧ ys = ((L.pairs.take i).map prP).map V.str ∧ Same HB H') (by rw [sizeLine_eq]; omega)
      ⟨Nat.zero_le _, rfl, Same.refl HB⟩ (fun i ys H' ⟨hi, e, _⟩ => by rw [e, List.length_map, List.length_map, List.length_take]; omega) (fun i ys H' _ ⟨_, _, s⟩ => SqT.of (s _ _ (sA1 _ _ hp))) ?_ ?_⟩
    · rintro i ys H' v hv ⟨hi, e1, s1⟩
      obtain ⟨x, hx, hxv⟩ := paired_get hP hv
      have hlt := (List.getElem?_eq_some_iff.mp hx).1
      have hm := List.mem_of_getElem? hx
      refine ⟨_, rfl, v, x, rfl, PairV.tk (Tk.of (sA1.trans s1)) hxv, ok.po x hm, fun H2 s2 => ⟨hlt, ?_, s1.trans s2⟩⟩
      rw [e1, ← map_next (f := prP) hx, List.map_append]
      rfl
    rintro zs H2 ⟨_, e2, s2⟩ D2 hD2
    rw [lq, List.take_of_length_le (Nat.le_refl _)] at e2
    have s3 : Same HB (upd H2 D2 (.lst zs)) := s2.upd hD2
    have sA : Same H (upd H2 D2 (.lst zs)) := sA1.trans s3
    refine ⟨D1, D2, _, _, rfl, rfl, s3 _ _ hD1', by rw [upd_same, e2], by rw [List.length_map, List.length_map, List.length_map, List.length_map, sizeLine_eq]; omega, fun N hN => ?_⟩
    refine ⟨rfl, _, rfl, "\n", N, rowsP L, rfl, rfl, SqL.of (by rw [upd_same]; unfold rowsP; rw [List.map_append]), rowsP_len ok, ?_⟩
    exact kk _ (sA.upd hN)
end
theorem cut_ints (ns : List Int) (lo hi : Option Int) : cutV (ns.map V.int) lo hi = (cutL ns lo hi).map V.int := by
  unfold cutV cutL
  rw [List.length_map, List.map_take, List.map_drop]
section
variable {P : Program} {w : World} {K : PySem.W.Frag} {mg : Str → Option Value} {base : Heap}
theorem scLaw : FnScope ["_law_script", "_law_layer_here", "_law_found", "_law_other"] ["_law_script"] (defScope sLaw) := ⟨rfl, rfl, rfl, by decide +kernel, rfl, by decide +kernel, by decide +kernel⟩
theorem ok_law {f : Addr} {fd : FuncData} (F : Fun K "law" "law" sLaw f fd) (kss : PySem.W.kitOne K (.type "str") (.type "str") = some true) (mIs : mg "isinstance" = none) (mStr : mg "str" = none)
    (DL : Def P w K mg base 6 "_law_layer" ["_law_script"] (spLayer K)) (DX : Def P w K mg base 3 "layer_text" ["layer"] spLT) (DR : Def P w K mg base 3 "_law_rows" ["_law_layer_here"] spRows) : FnOk P w K mg base CX0 7 f fd ["_law_script"] (spLaw K) := by
  refine F.ok scLaw (fun vs H Q E h => ?_) (fun cdv A outer s H vs Q E hr h => ?_)
  · obtain ⟨a, ns, rfl, _⟩ := h
    rfl
  · obtain ⟨a, ns, rfl, hS, hlen, k⟩ := h
    have hr3 : Room 3 _ := hr.mono (by decide)
    have nd := scLaw.nd
    refine ⟨_, pss_cons (ps_set (i := 1) nd rfl (Or.inl rfl) (pe_def DL hr (pa_cons (pv 0) pa_nil)))
      (pss_cons (ps_set (i := 2) nd rfl (Or.inl rfl) (pe_def DX hr3 (pa_cons (pv 1) pa_nil)))
      (pss_cons (ps_if (PW.pt (pw_or (pt_not (pt_val (pe_callB call_isinst (by rfl) mIs PyProof.Rows.Boot.isinstance (pa_cons (pv 2) (pa_cons (pe_bltn (v := .ty "str") rfl mStr PyProof.Rows.Boot.str rfl) pa_nil)))))
        (pw_or1 (pt_cmpR op_ne (pv 2) (pe_bm PySem.F.plainAttrs_str PySem.F.slot_str_join PySem.F.type_str_join mt_join pe_str (pa_cons (pe_def DR hr3 (pa_cons (pv 1) pa_nil)) pa_nil)) (nomark _))))) (pss_one (ps_ret pe_bl)) pss_nil)
      (pss_cons (ps_set (i := 3) nd rfl (Or.inl rfl) (pe_def DX hr3 (pa_cons (pe_def DL hr (pa_cons (pe_slice sl_list (pv 0) (po_some pe_int) po_none) pa_nil)) pa_nil)))
      (pss_one (ps_ret (pe_and (pe_cmpR op_eq (pv 3) (pe_bm PySem.F.plainAttrs_str PySem.F.slot_str_join PySem.F.type_str_join mt_join pe_str (pa_cons (pe_def DR hr3 (pa_cons (pe_def DL hr (pa_cons (pe_slice sl_list (pv 0) (po_some pe_int) po_none) pa_nil)) pa_nil)) pa_nil)) (nomark _))
        (pe_one (pe_cmpR op_eq (pe_def DX hr3 (pa_cons (pv 1) pa_nil)) (pv 2) (nomark _))))))))), ?_⟩
    have okL := layF_ok hlen
    refine ⟨_, rfl, a, ns, rfl, hS, hlen, fun v H1 hv s1 => ?_⟩
    refine ⟨_, rfl, v, _, rfl, hv, okL, fun H2 s2 => ?_⟩
    refine ⟨_, rfl, _, _, _, _, _, rfl, .str _, rfl, kss, _, rfl, iteF ?_⟩
    have hv2 := LayV.tk (Tk.of s2) hv
    refine ⟨_, rfl, rfl, _, rfl, v, _, rfl, hv2, okL, fun l H3 hl s3 => ⟨_, l, _, rfl, rfl, SqL.of hl, rowsP_len okL, rfl, _, rfl, iteNS rfl ?_⟩⟩
    have s13 : Same H H3 := s1.trans (s2.trans s3)
    have lc : (cutL ns (some 1) none).length ≤ 63 := Nat.le_trans (cutL_le _ _ _) hlen
    have okC := layF_ok lc
    refine ⟨_, rfl, _, rfl, a, _, rfl, s13.seq hS, fun c hc => ?_⟩
    rw [cut_ints]
    have s4 : Same H3 (upd H3 c (.lst ((cutL ns (some 1) none).map V.int))) := (Same.refl _).upd hc
    refine ⟨c, cutL ns (some 1) none, rfl, SqL.of upd_same, lc, fun v2 H5 hv5 s5 => ?_⟩
    refine ⟨v2, _, rfl, hv5, okC, fun H6 s6 => ?_⟩
    have s36 : Same H3 H6 := s4.trans (s5.trans s6)
    refine ⟨_, rfl, rfl, _, rfl, _, rfl, a, _, rfl, (s13.trans s36).seq hS, fun c2 hc2 => ?_⟩
    rw [cut_ints]
    have s7 : Same H6 (upd H6 c2 (.lst ((cutL ns (some 1) none).map V.int))) := (Same.refl _).upd hc2
    refine ⟨c2, cutL ns (some 1) none, rfl, SqL.of upd_same, lc, fun v3 H8 hv8 s8 => ?_⟩
    refine ⟨v3, _, rfl, hv8, okC, fun l2 H9 hl9 s9 => ⟨_, l2, _, rfl, rfl, SqL.of hl9, rowsP_len okC, rfl, ?_⟩⟩
    refine ⟨_, rfl, ?_⟩
    rw [if_pos (decide_eq_true rfl)]
    have hv9 := LayV.tk (Tk.of (s3.trans (s36.trans (s7.trans (s8.trans s9))))) hv2
    refine ⟨_, rfl, v, _, rfl, hv9, okL, fun H10 s10 => ⟨_, rfl, rfl, ?_⟩⟩
    rw [decide_eq_true rfl]
    exact k H10
end

theorem all_mk {l : PySem.W.OpenLaw} {w : World} {K : PySem.W.Frag} {h : Heap} {mg : Str → Option Value} {fa : Addr} (X : K.In h) (G : h.Ns mainGlobals mg) (hfa : mg "law" = some (.ref fa))
    {f0 f1 f2 f3 f4 f5 f6 f7 f8 f9 f10 f11 f12 f13 f14 f15 f16 f17 : Addr}
    {od0 an0 od1 an1 od2 an2 od3 an3 od4 an4 od5 an5 od6 an6 od7 an7 od8 an8 od9 an9 od10 an10 od11 an11 od12 an12 od13 an13 od14 an14 od15 an15 od16 an16 od17 an17 : Option Addr} {sl0 sl1 sl2 sl3 sl4 sl5 sl6 sl7 sl8 sl9 sl10 sl11 sl12 sl13 sl14 sl15 sl16 sl17 : Array (Option Value)}
    {oc0 kV0 dc0 pm0 cd0 ct0 oc1 kV1 dc1 pm1 cd1 ct1 oc2 kV2 dc2 pm2 cd2 ct2 oc3 kV3 dc3 pm3 cd3 ct3 oc4 kV4 dc4 pm4 cd4 ct4 oc5 kV5 dc5 pm5 cd5 ct5 oc6 kV6 dc6 pm6 cd6 ct6 oc7 kV7 dc7 pm7 cd7 ct7 oc8 kV8 dc8 pm8 cd8 ct8 oc9 kV9 dc9 pm9 cd9 ct9 oc10 kV10 dc10 pm10 cd10 ct10 oc11 kV11 dc11 pm11 cd11 ct11 oc12 kV12 dc12 pm12 cd12 ct12 oc13 kV13 dc13 pm13 cd13 ct13 oc14 kV14 dc14 pm14 cd14 ct14 oc15 kV15 dc15 pm15 cd15 ct15 oc16 kV16 dc16 pm16 cd16 ct16 oc17 kV17 dc17 pm17 cd17 ct17 : Value}
    (a0 : PySem.W.nsIn K mainGlobals "path_text" = some (some (.ref f0))) (l0 : K.lookup f0 = some ⟨oc0, od0, .func (PySem.W.fnOf "path_text" "path_text" (defArgs sPathText) (defBody sPathText) (defScope sPathText) .none kV0 dc0 pm0 an0 cd0 ct0), sl0⟩) (c0 : PySem.W.codeIn K cd0 "path_text" = true) (k0 : PySem.W.keepIn K (.ref f0) = true)
    (a1 : PySem.W.nsIn K mainGlobals "layer_text" = some (some (.ref f1))) (l1 : K.lookup f1 = some ⟨oc1, od1, .func (PySem.W.fnOf "layer_text" "layer_text" (defArgs sLayerText) (defBody sLayerText) (defScope sLayerText) .none kV1 dc1 pm1 an1 cd1 ct1), sl1⟩) (c1 : PySem.W.codeIn K cd1 "layer_text" = true) (k1 : PySem.W.keepIn K (.ref f1) = true)
    (a2 : PySem.W.nsIn K mainGlobals "entry_text" = some (some (.ref f2))) (l2 : K.lookup f2 = some ⟨oc2, od2, .func (PySem.W.fnOf "entry_text" "entry_text" (defArgs sEntryText) (defBody sEntryText) (defScope sEntryText) .none kV2 dc2 pm2 an2 cd2 ct2), sl2⟩) (c2 : PySem.W.codeIn K cd2 "entry_text" = true) (k2 : PySem.W.keepIn K (.ref f2) = true)
    (a3 : PySem.W.nsIn K mainGlobals "pair_text" = some (some (.ref f3))) (l3 : K.lookup f3 = some ⟨oc3, od3, .func (PySem.W.fnOf "pair_text" "pair_text" (defArgs sPairText) (defBody sPairText) (defScope sPairText) .none kV3 dc3 pm3 an3 cd3 ct3), sl3⟩) (c3 : PySem.W.codeIn K cd3 "pair_text" = true) (k3 : PySem.W.keepIn K (.ref f3) = true)
    (a4 : PySem.W.nsIn K mainGlobals "_law_box" = some (some (.ref f4))) (l4 : K.lookup f4 = some ⟨oc4, od4, .func (PySem.W.fnOf "_law_box" "_law_box" (defArgs sBox) (defBody sBox) (defScope sBox) .none kV4 dc4 pm4 an4 cd4 ct4), sl4⟩) (c4 : PySem.W.codeIn K cd4 "_law_box" = true) (k4 : PySem.W.keepIn K (.ref f4) = true)
    (a5 : PySem.W.nsIn K mainGlobals "_law_take" = some (some (.ref f5))) (l5 : K.lookup f5 = some ⟨oc5, od5, .func (PySem.W.fnOf "_law_take" "_law_take" (defArgs sTake) (defBody sTake) (defScope sTake) .none kV5 dc5 pm5 an5 cd5 ct5), sl5⟩) (c5 : PySem.W.codeIn K cd5 "_law_take" = true) (k5 : PySem.W.keepIn K (.ref f5) = true)
    (a6 : PySem.W.nsIn K mainGlobals "_law_word" = some (some (.ref f6))) (l6 : K.lookup f6 = some ⟨oc6, od6, .func (PySem.W.fnOf "_law_word" "_law_word" (defArgs sWord) (defBody sWord) (defScope sWord) .none kV6 dc6 pm6 an6 cd6 ct6), sl6⟩) (c6 : PySem.W.codeIn K cd6 "_law_word" = true) (k6 : PySem.W.keepIn K (.ref f6) = true)
    (a7 : PySem.W.nsIn K mainGlobals "_law_text" = some (some (.ref f7))) (l7 : K.lookup f7 = some ⟨oc7, od7, .func (PySem.W.fnOf "_law_text" "_law_text" (defArgs sText) (defBody sText) (defScope sText) .none kV7 dc7 pm7 an7 cd7 ct7), sl7⟩) (c7 : PySem.W.codeIn K cd7 "_law_text" = true) (k7 : PySem.W.keepIn K (.ref f7) = true)
    (a8 : PySem.W.nsIn K mainGlobals "_law_any_path" = some (some (.ref f8))) (l8 : K.lookup f8 = some ⟨oc8, od8, .func (PySem.W.fnOf "_law_any_path" "_law_any_path" (defArgs sAnyPath) (defBody sAnyPath) (defScope sAnyPath) .none kV8 dc8 pm8 an8 cd8 ct8), sl8⟩) (c8 : PySem.W.codeIn K cd8 "_law_any_path" = true) (k8 : PySem.W.keepIn K (.ref f8) = true)
    (a9 : PySem.W.nsIn K mainGlobals "_law_new_file" = some (some (.ref f9))) (l9 : K.lookup f9 = some ⟨oc9, od9, .func (PySem.W.fnOf "_law_new_file" "_law_new_file" (defArgs sNewFile) (defBody sNewFile) (defScope sNewFile) .none kV9 dc9 pm9 an9 cd9 ct9), sl9⟩) (c9 : PySem.W.codeIn K cd9 "_law_new_file" = true) (k9 : PySem.W.keepIn K (.ref f9) = true)
    (a10 : PySem.W.nsIn K mainGlobals "_law_grow" = some (some (.ref f10))) (l10 : K.lookup f10 = some ⟨oc10, od10, .func (PySem.W.fnOf "_law_grow" "_law_grow" (defArgs sGrow) (defBody sGrow) (defScope sGrow) .none kV10 dc10 pm10 an10 cd10 ct10), sl10⟩) (c10 : PySem.W.codeIn K cd10 "_law_grow" = true) (k10 : PySem.W.keepIn K (.ref f10) = true)
    (a11 : PySem.W.nsIn K mainGlobals "_law_deep" = some (some (.ref f11))) (l11 : K.lookup f11 = some ⟨oc11, od11, .func (PySem.W.fnOf "_law_deep" "_law_deep" (defArgs sDeep) (defBody sDeep) (defScope sDeep) .none kV11 dc11 pm11 an11 cd11 ct11), sl11⟩) (c11 : PySem.W.codeIn K cd11 "_law_deep" = true) (k11 : PySem.W.keepIn K (.ref f11) = true)
    (a12 : PySem.W.nsIn K mainGlobals "_law_layer" = some (some (.ref f12))) (l12 : K.lookup f12 = some ⟨oc12, od12, .func (PySem.W.fnOf "_law_layer" "_law_layer" (defArgs sLayer) (defBody sLayer) (defScope sLayer) .none kV12 dc12 pm12 an12 cd12 ct12), sl12⟩) (c12 : PySem.W.codeIn K cd12 "_law_layer" = true) (k12 : PySem.W.keepIn K (.ref f12) = true)
    (a13 : PySem.W.nsIn K mainGlobals "_law_path_text" = some (some (.ref f13))) (l13 : K.lookup f13 = some ⟨oc13, od13, .func (PySem.W.fnOf "_law_path_text" "_law_path_text" (defArgs sLPathText) (defBody sLPathText) (defScope sLPathText) .none kV13 dc13 pm13 an13 cd13 ct13), sl13⟩) (c13 : PySem.W.codeIn K cd13 "_law_path_text" = true) (k13 : PySem.W.keepIn K (.ref f13) = true)
    (a14 : PySem.W.nsIn K mainGlobals "_law_entry_row" = some (some (.ref f14))) (l14 : K.lookup f14 = some ⟨oc14, od14, .func (PySem.W.fnOf "_law_entry_row" "_law_entry_row" (defArgs sEntryRow) (defBody sEntryRow) (defScope sEntryRow) .none kV14 dc14 pm14 an14 cd14 ct14), sl14⟩) (c14 : PySem.W.codeIn K cd14 "_law_entry_row" = true) (k14 : PySem.W.keepIn K (.ref f14) = true)
    (a15 : PySem.W.nsIn K mainGlobals "_law_pair_row" = some (some (.ref f15))) (l15 : K.lookup f15 = some ⟨oc15, od15, .func (PySem.W.fnOf "_law_pair_row" "_law_pair_row" (defArgs sPairRow) (defBody sPairRow) (defScope sPairRow) .none kV15 dc15 pm15 an15 cd15 ct15), sl15⟩) (c15 : PySem.W.codeIn K cd15 "_law_pair_row" = true) (k15 : PySem.W.keepIn K (.ref f15) = true)
    (a16 : PySem.W.nsIn K mainGlobals "_law_rows" = some (some (.ref f16))) (l16 : K.lookup f16 = some ⟨oc16, od16, .func (PySem.W.fnOf "_law_rows" "_law_rows" (defArgs sRows) (defBody sRows) (defScope sRows) .none kV16 dc16 pm16 an16 cd16 ct16), sl16⟩) (c16 : PySem.W.codeIn K cd16 "_law_rows" = true) (k16 : PySem.W.keepIn K (.ref f16) = true)
    (a17 : PySem.W.nsIn K mainGlobals "law" = some (some (.ref f17))) (l17 : K.lookup f17 = some ⟨oc17, od17, .func (PySem.W.fnOf "law" "law" (defArgs sLaw) (defBody sLaw) (defScope sLaw) .none kV17 dc17 pm17 an17 cd17 ct17), sl17⟩) (c17 : PySem.W.codeIn K cd17 "law" = true) (k17 : PySem.W.keepIn K (.ref f17) = true)
    (z0 : PySem.W.nsIn K mainGlobals "len" = some none)
    (z1 : PySem.W.nsIn K mainGlobals "abs" = some none)
    (z2 : PySem.W.nsIn K mainGlobals "range" = some none)
    (z3 : PySem.W.nsIn K mainGlobals "int" = some none)
    (z4 : PySem.W.nsIn K mainGlobals "tuple" = some none)
    (z5 : PySem.W.nsIn K mainGlobals "sorted" = some none)
    (z6 : PySem.W.nsIn K mainGlobals "str" = some none)
    (z7 : PySem.W.nsIn K mainGlobals "isinstance" = some none)
    (kitss : PySem.W.kitOne K (.type "str") (.type "str") = some true)
    : ∃ fd : FuncData, (∀ (s : Shared) (v : Value), BindsTo s fd ⟨[v], []⟩ [("_law_script", v)]) ∧ ∀ base : Heap, K.In base → base.Ns mainGlobals mg → FnOk l.prog w K mg base CX0 7 fa fd ["_law_script"] (spLaw K) := by
  have e := hfa.symm.trans (PySem.W.mg_of X G a17)
  cases e
  have FPathText := fun_mk (st := sPathText) l0 c0 k0
  have bPathText := FPathText.binds (ps := ["path"]) fun _ _ _ _ _ _ us hl => match us, hl with | [_], _ => rfl
  have mPathText := PySem.W.mg_of X G a0
  have FLayerText := fun_mk (st := sLayerText) l1 c1 k1
  have bLayerText := FLayerText.binds (ps := ["layer"]) fun _ _ _ _ _ _ us hl => match us, hl with | [_], _ => rfl
  have mLayerText := PySem.W.mg_of X G a1
  have FEntryText := fun_mk (st := sEntryText) l2 c2 k2
  have bEntryText := FEntryText.binds (ps := ["entry"]) fun _ _ _ _ _ _ us hl => match us, hl with | [_], _ => rfl
  have mEntryText := PySem.W.mg_of X G a2
  have FPairText := fun_mk (st := sPairText) l3 c3 k3
  have bPairText := FPairText.binds (ps := ["pair"]) fun _ _ _ _ _ _ us hl => match us, hl with | [_], _ => rfl
  have mPairText := PySem.W.mg_of X G a3
  have FBox := fun_mk (st := sBox) l4 c4 k4
  have bBox := FBox.binds (ps := ["_law_script", "_law_k"]) fun _ _ _ _ _ _ us hl => match us, hl with | [_, _], _ => rfl
  have mBox := PySem.W.mg_of X G a4
  have FTake := fun_mk (st := sTake) l5 c5 k5
  have bTake := FTake.binds (ps := ["_law_box_here", "_law_many"]) fun _ _ _ _ _ _ us hl => match us, hl with | [_, _], _ => rfl
  have mTake := PySem.W.mg_of X G a5
  have FWord := fun_mk (st := sWord) l6 c6 k6
  have bWord := FWord.binds (ps := ["_law_box_here"]) fun _ _ _ _ _ _ us hl => match us, hl with | [_], _ => rfl
  have mWord := PySem.W.mg_of X G a6
  have FText := fun_mk (st := sText) l7 c7 k7
  have bText := FText.binds (ps := ["_law_box_here"]) fun _ _ _ _ _ _ us hl => match us, hl with | [_], _ => rfl
  have mText := PySem.W.mg_of X G a7
  have FAnyPath := fun_mk (st := sAnyPath) l8 c8 k8
  have bAnyPath := FAnyPath.binds (ps := ["_law_box_here"]) fun _ _ _ _ _ _ us hl => match us, hl with | [_], _ => rfl
  have mAnyPath := PySem.W.mg_of X G a8
  have FNewFile := fun_mk (st := sNewFile) l9 c9 k9
  have bNewFile := FNewFile.binds (ps := ["_law_box_here", "_law_pairs"]) fun _ _ _ _ _ _ us hl => match us, hl with | [_, _], _ => rfl
  have mNewFile := PySem.W.mg_of X G a9
  have FGrow := fun_mk (st := sGrow) l10 c10 k10
  have bGrow := FGrow.binds (ps := ["_law_box_here", "_law_rows_here", "_law_pairs", "_law_folders"]) fun _ _ _ _ _ _ us hl => match us, hl with | [_, _, _, _], _ => rfl
  have mGrow := PySem.W.mg_of X G a10
  have FDeep := fun_mk (st := sDeep) l11 c11 k11
  have bDeep := FDeep.binds (ps := ["_law_rows_here", "_law_name"]) fun _ _ _ _ _ _ us hl => match us, hl with | [_, _], _ => rfl
  have mDeep := PySem.W.mg_of X G a11
  have FLayer := fun_mk (st := sLayer) l12 c12 k12
  have bLayer := FLayer.binds (ps := ["_law_script"]) fun _ _ _ _ _ _ us hl => match us, hl with | [_], _ => rfl
  have mLayer := PySem.W.mg_of X G a12
  have FLPathText := fun_mk (st := sLPathText) l13 c13 k13
  have bLPathText := FLPathText.binds (ps := ["_law_path"]) fun _ _ _ _ _ _ us hl => match us, hl with | [_], _ => rfl
  have mLPathText := PySem.W.mg_of X G a13
  have FEntryRow := fun_mk (st := sEntryRow) l14 c14 k14
  have bEntryRow := FEntryRow.binds (ps := ["_law_entry"]) fun _ _ _ _ _ _ us hl => match us, hl with | [_], _ => rfl
  have mEntryRow := PySem.W.mg_of X G a14
  have FPairRow := fun_mk (st := sPairRow) l15 c15 k15
  have bPairRow := FPairRow.binds (ps := ["_law_pair"]) fun _ _ _ _ _ _ us hl => match us, hl with | [_], _ => rfl
  have mPairRow := PySem.W.mg_of X G a15
  have FRows := fun_mk (st := sRows) l16 c16 k16
  have bRows := FRows.binds (ps := ["_law_layer_here"]) fun _ _ _ _ _ _ us hl => match us, hl with | [_], _ => rfl
  have mRows := PySem.W.mg_of X G a16
  have FLaw := fun_mk (st := sLaw) l17 c17 k17
  have z_len := PySem.W.mg_none_of X G z0
  have z_abs := PySem.W.mg_none_of X G z1
  have z_range := PySem.W.mg_none_of X G z2
  have z_int := PySem.W.mg_none_of X G z3
  have z_tuple := PySem.W.mg_none_of X G z4
  have z_sorted := PySem.W.mg_none_of X G z5
  have z_str := PySem.W.mg_none_of X G z6
  have z_isinstance := PySem.W.mg_none_of X G z7
  refine ⟨PySem.W.fnOf "law" "law" (defArgs sLaw) (defBody sLaw) (defScope sLaw) .none kV17 dc17 pm17 an17 cd17 ct17, fun s v => .of_eq rfl, fun base _ _ => ?_⟩
  have DBox : Def l.prog w K mg base 1 "_law_box" ["_law_script", "_law_k"] (spBox K) := ⟨f4, _, ok_box FBox z_len z_abs, mBox, k4, bBox⟩
  have DTake : Def l.prog w K mg base 1 "_law_take" ["_law_box_here", "_law_many"] spTake := ⟨f5, _, ok_take FTake, mTake, k5, bTake⟩
  have DWord : Def l.prog w K mg base 2 "_law_word" ["_law_box_here"] spWord := ⟨f6, _, ok_word FWord z_range DTake, mWord, k6, bWord⟩
  have DText : Def l.prog w K mg base 2 "_law_text" ["_law_box_here"] spText := ⟨f7, _, ok_text FText z_range DTake, mText, k7, bText⟩
  have DAnyPath : Def l.prog w K mg base 3 "_law_any_path" ["_law_box_here"] spAny := ⟨f8, _, ok_any FAnyPath z_range z_int z_tuple DTake DWord, mAnyPath, k8, bAnyPath⟩
  have DNewFile : Def l.prog w K mg base 4 "_law_new_file" ["_law_box_here", "_law_pairs"] spNew := ⟨f9, _, ok_new FNewFile z_len DTake DAnyPath DText, mNewFile, k9, bNewFile⟩
  have DGrow : Def l.prog w K mg base 5 "_law_grow" ["_law_box_here", "_law_rows_here", "_law_pairs", "_law_folders"] spGrow := ⟨f10, _, ok_grow FGrow z_len DTake DWord DAnyPath DText DNewFile, mGrow, k10, bGrow⟩
  have DDeep : Def l.prog w K mg base 1 "_law_deep" ["_law_rows_here", "_law_name"] spDeep := ⟨f11, _, ok_deep FDeep z_range, mDeep, k11, bDeep⟩
  have DLayer : Def l.prog w K mg base 6 "_law_layer" ["_law_script"] (spLayer K) := ⟨f12, _, ok_layer FLayer z_len z_range z_tuple z_sorted DTake DBox DWord DGrow DDeep, mLayer, k12, bLayer⟩
  have DPathText : Def l.prog w K mg base 1 "path_text" ["path"] spPT := ⟨f0, _, ok_PathText FPathText, mPathText, k0, bPathText⟩
  have DLPathText : Def l.prog w K mg base 1 "_law_path_text" ["_law_path"] spPT := ⟨f13, _, ok_LPathText FLPathText, mLPathText, k13, bLPathText⟩
  have DEntryText : Def l.prog w K mg base 2 "entry_text" ["entry"] spEntT := ⟨f2, _, ok_entT FEntryText DPathText, mEntryText, k2, bEntryText⟩
  have DPairText : Def l.prog w K mg base 2 "pair_text" ["pair"] spPrT := ⟨f3, _, ok_prT FPairText DPathText, mPairText, k3, bPairText⟩
  have DEntryRow : Def l.prog w K mg base 2 "_law_entry_row" ["_law_entry"] spEntT := ⟨f14, _, ok_entR FEntryRow z_str DLPathText, mEntryRow, k14, bEntryRow⟩
  have DPairRow : Def l.prog w K mg base 2 "_law_pair_row" ["_law_pair"] spPrT := ⟨f15, _, ok_prR FPairRow DLPathText, mPairRow, k15, bPairRow⟩
  have DRows : Def l.prog w K mg base 3 "_law_rows" ["_law_layer_here"] spRows := ⟨f16, _, ok_rows FRows DEntryRow DPairRow, mRows, k16, bRows⟩
  have DLayerText : Def l.prog w K mg base 3 "layer_text" ["layer"] spLT := ⟨f1, _, ok_LT FLayerText DEntryText DPairText, mLayerText, k1, bLayerText⟩
  exact ok_law FLaw kitss z_isinstance z_str DLayer DLayerText DRows
theorem walk {l : PySem.W.OpenLaw} {q : Program} {loose : List Str} {XP : (Str → Option Value) → Heap → Prop} {YP : World → Heap → Prop} {d : DefRec} {K : Params → PySem.W.Frag} (hn : l.most = some 63) (hdf : d.params.defaults = [])
    (hY : ∀ (w : World) (h : Heap), YP w h → (K w.params).In h)
    (F : ∀ (w : World) (mg : Str → Option Value) (fa : Addr) (h : Heap), (K w.params).In h → h.Ns mainGlobals mg → mg d.name = some (.ref fa) →
      ∃ fd : FuncData, (∀ (s : Shared) (u : Value), BindsTo s fd ⟨[u], []⟩ [("_law_script", u)]) ∧ ∀ base : Heap, (K w.params).In base → base.Ns mainGlobals mg → FnOk l.prog w (K w.params) mg base CX0 7 fa fd ["_law_script"] (spLaw (K w.params))) :
    PySem.W.WalkO q loose XP YP l.row.toRowW d [] (fun f vs => PySem.call f vs) :=
  L2.walk_of (n := 63) (k := 7) (x := "_law_script") (CX := fun _ => CX0) (sp := fun w => spLaw (K w.params)) hn (by decide) hdf ⟨rfl, by decide, by decide⟩ hY F (fun _ _ a ns hl _ hS => ⟨a, ns, rfl, hS, hl, fun _ => rfl⟩) fun _ _ _ _ _ z => z
end K20
open PySem PySem.W PyProof.Rows
set_option maxRecDepth 100000 in
set_option maxHeartbeats 0 in
theorem PySem.Challenge.cw_overfold_k20_layers_written_holds : PySem.Challenge.rw_overfold_k20_layers_written.Holds := by
  w_on; o_law; k_head; (case hw => w_witness2)
  k_fill
  refine K20.walk (l := PySem.Challenge.rw_overfold_k20_layers_written) rfl rfl (fun w h Y => PySem.W.kIn_of Y) ?F
  case F =>
    intro w mg fa h KX G hmg
    refine' K20.all_mk KX G hmg ?uua0 ?uul0 ?uuc0 ?uuk0 ?uua1 ?uul1 ?uuc1 ?uuk1 ?uua2 ?uul2 ?uuc2 ?uuk2 ?uua3 ?uul3 ?uuc3 ?uuk3 ?uua4 ?uul4 ?uuc4 ?uuk4 ?uua5 ?uul5 ?uuc5 ?uuk5 ?uua6 ?uul6 ?uuc6 ?uuk6 ?uua7 ?uul7 ?uuc7 ?uuk7 ?uua8 ?uul8 ?uuc8 ?uuk8 ?uua9 ?uul9 ?uuc9 ?uuk9 ?uua10 ?uul10 ?uuc10 ?uuk10 ?uua11 ?uul11 ?uuc11 ?uuk11 ?uua12 ?uul12 ?uuc12 ?uuk12 ?uua13 ?uul13 ?uuc13 ?uuk13 ?uua14 ?uul14 ?uuc14 ?uuk14 ?uua15 ?uul15 ?uuc15 ?uuk15 ?uua16 ?uul16 ?uuc16 ?uuk16 ?uua17 ?uul17 ?uuc17 ?uuk17 ?uuz0 ?uuz1 ?uuz2 ?uuz3 ?uuz4 ?uuz5 ?uuz6 ?uuz7 ?uukitss
    (case uua0 => k_is)
    (case uul0 => k_is)
    (case uuc0 => k_is)
    (case uuk0 => k_is)
    (case uua1 => k_is)
    (case uul1 => k_is)
    (case uuc1 => k_is)
    (case uuk1 => k_is)
    (case uua2 => k_is)
    (case uul2 => k_is)
    (case uuc2 => k_is)
    (case uuk2 => k_is)
    (case uua3 => k_is)
    (case uul3 => k_is)
    (case uuc3 => k_is)
    (case uuk3 => k_is)
    (case uua4 => k_is)
    (case uul4 => k_is)
    (case uuc4 => k_is)
    (case uuk4 => k_is)
    (case uua5 => k_is)
    (case uul5 => k_is)
    (case uuc5 => k_is)
    (case uuk5 => k_is)
    (case uua6 => k_is)
    (case uul6 => k_is)
    (case uuc6 => k_is)
    (case uuk6 => k_is)
    (case uua7 => k_is)
    (case uul7 => k_is)
    (case uuc7 => k_is)
    (case uuk7 => k_is)
    (case uua8 => k_is)
    (case uul8 => k_is)
    (case uuc8 => k_is)
    (case uuk8 => k_is)
    (case uua9 => k_is)
    (case uul9 => k_is)
    (case uuc9 => k_is)
    (case uuk9 => k_is)
    (case uua10 => k_is)
    (case uul10 => k_is)
    (case uuc10 => k_is)
    (case uuk10 => k_is)
    (case uua11 => k_is)
    (case uul11 => k_is)
    (case uuc11 => k_is)
    (case uuk11 => k_is)
    (case uua12 => k_is)
    (case uul12 => k_is)
    (case uuc12 => k_is)
    (case uuk12 => k_is)
    (case uua13 => k_is)
    (case uul13 => k_is)
    (case uuc13 => k_is)
    (case uuk13 => k_is)
    (case uua14 => k_is)
    (case uul14 => k_is)
    (case uuc14 => k_is)
    (case uuk14 => k_is)
    (case uua15 => k_is)
    (case uul15 => k_is)
    (case uuc15 => k_is)
    (case uuk15 => k_is)
    (case uua16 => k_is)
    (case uul16 => k_is)
    (case uuc16 => k_is)
    (case uuk16 => k_is)
    (case uua17 => k_is)
    (case uul17 => k_is)
    (case uuc17 => k_is)
    (case uuk17 => k_is)
    (case uuz0 => k_is)
    (case uuz1 => k_is)
    (case uuz2 => k_is)
    (case uuz3 => k_is)
    (case uuz4 => k_is)
    (case uuz5 => k_is)
    (case uuz6 => k_is)
    (case uuz7 => k_is)
    (case uukitss => kit_is)
