import PyProof.Rows.All
import Wide.All
import OpenK.AllK
import Wide.FinOn
import Lean
import PyProof.EqAt
import PyProof.EqKinds
import PyProof.TupleCall
import PySem.Challenge.RW_evenbeat_k08_whole_even_or_fault
set_option Elab.async false
set_option linter.all false
set_option maxRecDepth 100000
/-! THE HAND LAYER, for ints, bools, texts, own classes, LISTS and tuples (index, slices, in, append, pop ..), calls, loops. Paste it whole ahead of your own text; what your proof does not reach may be deleted. -/
namespace L2
open PySem PySem.Spec PyProof.Rows

/-- a key: an int or a str -/
abbrev Key := Sum Int Str
def keyIs : Key → Value → Bool
  | .inl k, v => Value.isInt k v
  | .inr x, v => Value.isStrOf x v
def keyH (w : World) : Key → Int
  | .inl k => hashInt k
  | .inr x => hashStr w x
theorem keyIs_shape : ∀ {k : Key} {v : Value}, keyIs k v = true → (∃ i t, k = Sum.inl i ∧ v = Value.int i t) ∨ (∃ x t, k = Sum.inr x ∧ v = Value.str x t)
  | .inl i, v, h => by
    obtain ⟨t, e⟩ := Value.isInt_shape (k := i) (v := v) h
    exact .inl ⟨i, t, rfl, e⟩
  | .inr x, v, h => by
    obtain ⟨t, e⟩ := Value.isStrOf_shape (x := x) (v := v) h
    exact .inr ⟨x, t, rfl, e⟩
theorem keyIs_int (i : Int) (t : Tok) : keyIs (.inl i) (.int i t) = true := by simp [keyIs, Value.isInt]
theorem keyIs_str (x : Str) (t : Tok) : keyIs (.inr x) (.str x t) = true := by simp [keyIs, Value.isStrOf]
theorem key_ll (a b : Int) : decide ((Sum.inl a : Key) = Sum.inl b) = (a == b) := by
  by_cases e : a = b
  · subst e; simp
  · have h : ¬ (Sum.inl a : Key) = Sum.inl b := fun q => e (Sum.inl.inj q)
    rw [decide_eq_false h]
    exact (beq_eq_false_iff_ne.mpr e).symm
theorem key_rr (a b : Str) : decide ((Sum.inr a : Key) = Sum.inr b) = decide (a = b) := by
  by_cases e : a = b
  · subst e; simp
  · have h : ¬ (Sum.inr a : Key) = Sum.inr b := fun q => e (Sum.inr.inj q)
    rw [decide_eq_false h, decide_eq_false e]
theorem key_lr (a : Int) (b : Str) : decide ((Sum.inl a : Key) = Sum.inr b) = false := decide_eq_false (fun q => nomatch q)
theorem key_rl (a : Str) (b : Int) : decide ((Sum.inr a : Key) = Sum.inl b) = false := decide_eq_false (fun q => nomatch q)

def mixKind (prog : Program) (w : World) : PySem.KeyKind prog w Key where
  is := keyIs
  hash := keyH w
  inj := fun v a b ha hb => by
    rcases keyIs_shape ha with ⟨i, t, rfl, rfl⟩ | ⟨x, t, rfl, rfl⟩
    · rcases keyIs_shape hb with ⟨j, u, rfl, e⟩ | ⟨y, u, rfl, e⟩
      · injection e with e1 _; rw [e1]
      · exact nomatch e
    · rcases keyIs_shape hb with ⟨j, u, rfl, e⟩ | ⟨y, u, rfl, e⟩
      · exact nomatch e
      · injection e with e1 _; rw [e1]
  byValue := fun k v h => by
    rcases keyIs_shape h with ⟨i, t, rfl, rfl⟩ | ⟨x, t, rfl, rfl⟩ <;> rfl
  pyHash := fun hv h => by
    rcases keyIs_shape hv with ⟨i, t, rfl, rfl⟩ | ⟨x, t, rfl, rfl⟩
    · exact wpAny_pyHash_int h
    · exact wpAny_pyHash_str h
  eqBool := fun hu hv h => by
    rcases keyIs_shape hu with ⟨i, t, rfl, rfl⟩ | ⟨x, t, rfl, rfl⟩
    · rcases keyIs_shape hv with ⟨j, u, rfl, rfl⟩ | ⟨y, u, rfl, rfl⟩
      · rw [key_ll] at h; exact wpAny_eqBool_int h
      · rw [key_lr] at h; exact SeqAt.EqAt.int_str i t y u _ _ _ _ h
    · rcases keyIs_shape hv with ⟨j, u, rfl, rfl⟩ | ⟨y, u, rfl, rfl⟩
      · rw [key_rl] at h; exact SeqAt.EqAt.str_int x t j u _ _ _ _ h
      · rw [key_rr] at h; exact wpAny_eqBool_str h
  «strs» := fun k x t v h => by
    rcases keyIs_shape h with ⟨i, u, rfl, e⟩ | ⟨y, u, rfl, e⟩
    · exact nomatch e
    · injection e with e1 _
      subst e1
      cases v <;> rfl

theorem mixKind_is (prog : Program) (w : World) (k : Key) (v : Value) : (mixKind prog w).is k v = keyIs k v := rfl
theorem mixKind_int (prog : Program) (w : World) (i : Int) (t : Tok) : (mixKind prog w).is (.inl i) (.int i t) = true := keyIs_int i t
theorem mixKind_str (prog : Program) (w : World) (x : Str) (t : Tok) : (mixKind prog w).is (.inr x) (.str x t) = true := keyIs_str x t
end L2

namespace L2
open PySem PySem.Spec PyProof.Rows

/-- a value, without the heap -/
inductive V where
  | non | bl (b : Bool) | int (i : Int) | str (x : Str) | byt (b : Array UInt8) | flt (b : UInt64) | ref (a : Addr) | ty (n : String)
  deriving DecidableEq

def RelV : V → Value → Prop
  | .non, u => u = Value.none
  | .bl b, u => u = Value.bool b
  | .int i, u => ∃ t, u = Value.int i t
  | .str x, u => ∃ t, u = Value.str x t
  | .byt b, u => ∃ t, u = Value.bytes b t
  | .flt b, u => ∃ t, u = Value.float b t
  | .ref a, u => u = Value.ref a
  | .ty n, u => u = Value.type n

abbrev Vals : List V → List Value → Prop := Paired RelV
theorem Vals.length {xs : List V} {us : List Value} (r : Vals xs us) : xs.length = us.length := Paired.length r
theorem Vals.get : ∀ {xs : List V} {us : List Value} {i : Nat} {x : V}, Vals xs us → xs[i]? = some x → ∃ u, us[i]? = some u ∧ RelV x u
  | _, _, _, _, .nil, e => by simp at e
  | _, _, 0, _, .cons r _, e => by simp at e; subst e; exact ⟨_, rfl, r⟩
  | _, _, i + 1, x, .cons _ t, e => by
    obtain ⟨u, h1, h2⟩ := Vals.get (i := i) (x := x) t (by simpa using e)
    exact ⟨u, by simpa using h1, h2⟩
theorem Vals.set {x : V} {u : Value} (r : RelV x u) : ∀ {xs : List V} {us : List Value} (i : Nat), Vals xs us → Vals (xs.set i x) (us.set i u)
  | _, _, _, .nil => .nil
  | _, _, 0, .cons _ t => .cons r t
  | _, _, i + 1, .cons q t => .cons q (Vals.set r i t)
theorem Vals.append : ∀ {xs ys : List V} {us ws : List Value}, Vals xs us → Vals ys ws → Vals (xs ++ ys) (us ++ ws)
  | _, _, _, _, .nil, s => s
  | _, _, _, _, .cons r t, s => .cons r (Vals.append t s)
theorem Vals.take : ∀ {xs : List V} {us : List Value} (n : Nat), Vals xs us → Vals (xs.take n) (us.take n)
  | _, _, 0, _ => .nil
  | _, _, _ + 1, .nil => .nil
  | _, _, n + 1, .cons r t => .cons r (Vals.take n t)
theorem Vals.drop : ∀ {xs : List V} {us : List Value} (n : Nat), Vals xs us → Vals (xs.drop n) (us.drop n)
  | _, _, 0, r => r
  | _, _, _ + 1, .nil => .nil
  | _, _, n + 1, .cons _ t => Vals.drop n t
theorem Vals.none_of : ∀ {xs : List V} {us : List Value} {i : Nat}, Vals xs us → xs[i]? = none → us[i]? = none := fun {xs us i} r e => by
  have h1 := r.length
  have h2 : xs.length ≤ i := List.getElem?_eq_none_iff.mp e
  exact List.getElem?_eq_none_iff.mpr (by omega)

def RelO : Option V → Option Value → Prop
  | some v, some u => RelV v u
  | none, none => True
  | _, _ => False
def KV {κ : Type} : List (κ × V) → List (κ × Value) → Prop := Paired fun (p : κ × V) (q : κ × Value) => p.1 = q.1 ∧ RelV p.2 q.2

/-- a key of a dict (00_mix): an int or a text -/
def kV : Key → V
  | .inl i => .int i
  | .inr x => .str x

/-- what stands at a tracked address -/
inductive HO where
  /-- a list -/
  | lst (xs : List V)
  /-- a tuple (never changes) -/
  | tup (xs : List V)
  /-- a dict whose keys are ints and texts; one whose keys are tuples of ints and texts (the empty one is both) -/
  | dK (kvs : List (Key × V)) | dT (kvs : List (List Key × V))
  /-- a set of ints: its members, its size -/
  | set (S : Int → Bool) (n : Nat)
  /-- an instance of the class at C, its dict at dx, its attributes -/
  | ins (C dx : Addr) (fs : List (Str × V))
  /-- the dict of the instance at x -/
  | own (x : Addr)
  /-- the dict of an exception -/
  | xd (fs : List (Str × V))
  /-- a bound method, f of x -/
  | met (f x : Addr)
  /-- a range object lo, lo + 1, .. below hi -/
  | rng (lo hi : Int)
  /-- a thing that is known to the object (the script; a dict while a loop walks it): read, never written while it is so -/
  | frz (o : Obj) (u : HO)
  /-- a code object's table -/
  | tbl (ps : Array Value)
  /-- any other thing, by what is true of its one object (a def of one's own: SetO a S n := HO.ext fun h => ..) -/
  | ext (φ : Heap → Prop)

abbrev Hp := Addr → Option HO
def upd (H : Hp) (a : Addr) (o : HO) : Hp := fun b => if b = a then some o else H b
theorem upd_same {H : Hp} {a : Addr} {o : HO} : upd H a o a = some o := by unfold upd; rw [if_pos rfl]
theorem upd_ne {H : Hp} {a b : Addr} {o : HO} (h : b ≠ a) : upd H a o b = H b := by unfold upd; rw [if_neg h]
theorem upd_upd {H : Hp} {a : Addr} {o u : HO} : upd (upd H a o) a u = upd H a u := by
  funext b; unfold upd; split <;> rfl
/-- two objects of different content stand apart -/
theorem ne_of {H : Hp} {a b : Addr} {o u : HO} (h : H a = some o) (h' : H b = some u) (d : o ≠ u) : a ≠ b := by
  intro e; subst e; rw [h] at h'; exact d (Option.some.inj h')
theorem ne_of_none {H : Hp} {a b : Addr} {o : HO} (h : H a = some o) (h' : H b = none) : a ≠ b := by
  intro e; subst e; rw [h] at h'; cases h'

section
variable (P : Program) (w : World)
def ObjOk (H : Hp) (h : Heap) (a : Addr) : HO → Prop
  | .lst xs => xs.length ≤ sizeLine ∧ ∃ (its : List Value) (n : Nat), Vals xs its ∧ h.get? a = some { cls := .type "list", data := .seq its.toArray n }
  | .tup xs => xs.length ≤ sizeLine ∧ ∃ its : List Value, Vals xs its ∧ IsTup h a its.toArray
  | .dK kvs => kvs.length ≤ sizeLine ∧ (a == sysModules) = false ∧ ∃ vs, KV kvs vs ∧ h.DictOf (mixKind P w) a vs
  | .dT kvs => kvs.length ≤ sizeLine ∧ (a == sysModules) = false ∧ ∃ xs : List (List Key × Addr × Value),
      Paired (fun (p : List Key × V) (q : List Key × Addr × Value) => p.1 = q.1 ∧ H q.2.1 = some (.tup (p.1.map kV)) ∧ RelV p.2 q.2.2) kvs xs ∧
      ∃ o es ep, h.get? a = some o ∧ o.ExactDict ∧ o.data = .dict es ep ∧ es.toList = xs.map (entryOfKey (tupleKind (mixKind P w))) ∧ (xs.map (·.1)).Nodup
  | .set S n => h.SetOf (intKind P w) a S n
  | .ins C dx fs => H dx = some (.own a) ∧ fs.length ≤ 1000 ∧ dx ≠ a ∧ h.get? a = some (PySem.W.instObj C dx) ∧
      ∃ mA, h.Ns1 dx mA ∧ (∀ f, RelO (fs.lookup f) (mA f)) ∧ PySem.Within mA (fs.map (·.1))
  | .own _ => ∃ o, h.get? a = some o
  | .xd fs => ∃ mA, h.Ns1 a mA ∧ ∀ f, RelO (fs.lookup f) (mA f)
  | .rng lo hi => ∃ t u v, h.get? a = some { cls := .type "range", data := .fields #[.int lo t, .int hi u, .int 1 v] }
  | .frz o u => h.get? a = some o ∧ ObjOk H h a u
  | .tbl ps => h.get? a = some { cls := .none, data := .fields ps }
  | .met f x => h.get? a = some (PySem.W.methodObj (.ref f) (.ref x))
  | .ext φ => φ h ∧ (∃ o, h.get? a = some o) ∧ ∀ h1 h2 : Heap, φ h1 → (∀ o, h1.get? a = some o → h2.get? a = some o) → φ h2
/-- the abstract heap is held -/
def HOk (H : Hp) (h : Heap) : Prop := ∀ a o, H a = some o → ObjOk P w H h a o
end

section
variable {P : Program} {w : World} {H H' : Hp} {h h' : Heap} {a : Addr} {o : HO}
theorem ObjOk.lt (x : ObjOk P w H h a o) : a < h.objs.size := by
  cases o with
  | lst xs => obtain ⟨_, _, _, _, e⟩ := x; exact Heap.lt_size e
  | tup xs => obtain ⟨_, _, _, p⟩ := x; exact p.lt
  | dK kvs => obtain ⟨_, _, _, _, o, _, _, e, _⟩ := x; exact Heap.lt_size e
  | dT kvs => obtain ⟨_, _, _, _, o, _, _, e, _⟩ := x; exact Heap.lt_size e
  | set S n => obtain ⟨o, _, _, _, e, _⟩ := x; exact Heap.lt_size e
  | ins C dx fs => obtain ⟨_, _, _, e, _⟩ := x; exact Heap.lt_size e
  | own y => obtain ⟨_, e⟩ := x; exact Heap.lt_size e
  | xd fs => obtain ⟨_, ⟨_, _, _, e, _⟩, _⟩ := x; exact Heap.lt_size e
  | rng lo hi => obtain ⟨_, _, _, e⟩ := x; exact Heap.lt_size e
  | frz ob u => obtain ⟨e, _⟩ := x; exact Heap.lt_size e
  | tbl ps => exact Heap.lt_size (show h.get? a = some _ from x)
  | met f y => exact Heap.lt_size (show h.get? a = some _ from x)
  | ext φ => obtain ⟨_, ⟨_, e⟩, _⟩ := x; exact Heap.lt_size e
theorem Paired.mapP {α β : Type} {F G : α → β → Prop} : ∀ {l₁ : List α} {l₂ : List β}, Paired F l₁ l₂ → (∀ a b, F a b → G a b) → Paired G l₁ l₂
  | _, _, .nil, _ => .nil
  | _, _, .cons r t, f => .cons (f _ _ r) (Paired.mapP t f)
theorem Paired.imp' {α β : Type} {F G : α → β → Prop} (f : ∀ a b, F a b → G a b) {l₁ : List α} {l₂ : List β} (r : Paired F l₁ l₂) : Paired G l₁ l₂ := Paired.mapP r f
/-- what an object's description leans on: its own object, its own dict, the tuples -/
theorem ObjOk.stay (x : ObjOk P w H h a o) (k : ∀ b u, (b = a ∨ H b = some (.own a)) → h.get? b = some u → h'.get? b = some u)
    (ho : ∀ b, H b = some (.own a) → H' b = some (.own a)) (ht : ∀ b xs, H b = some (.tup xs) → H' b = some (.tup xs)) : ObjOk P w H' h' a o := by
  induction o with
  | lst xs => obtain ⟨z, its, n, r, e⟩ := x; exact ⟨z, its, n, r, k _ _ (.inl rfl) e⟩
  | tup xs => obtain ⟨z, its, r, ob, e, c⟩ := x; exact ⟨z, its, r, ob, k _ _ (.inl rfl) e, c⟩
  | dK kvs => obtain ⟨z, y, vs, r, ob, es, ep, e, c⟩ := x; exact ⟨z, y, vs, r, ob, es, ep, k _ _ (.inl rfl) e, c⟩
  | dT kvs =>
    obtain ⟨z, y, xs, r, ob, es, ep, e, c⟩ := x
    exact ⟨z, y, xs, Paired.mapP r fun p q z => ⟨z.1, ht _ _ z.2.1, z.2.2⟩, ob, es, ep, k _ _ (.inl rfl) e, c⟩
  | set S n => obtain ⟨ob, es, ep, t, e, c⟩ := x; exact ⟨ob, es, ep, t, k _ _ (.inl rfl) e, c⟩
  | ins C dx fs =>
    obtain ⟨d, z, ne, e, mA, ⟨od, es, ep, e2, c⟩, r⟩ := x
    exact ⟨ho _ d, z, ne, k _ _ (.inl rfl) e, mA, ⟨od, es, ep, k _ _ (.inr d) e2, c⟩, r⟩
  | own y => obtain ⟨ob, e⟩ := x; exact ⟨ob, k _ _ (.inl rfl) e⟩
  | xd fs => obtain ⟨mA, ⟨od, es, ep, e, c⟩, r⟩ := x; exact ⟨mA, ⟨od, es, ep, k _ _ (.inl rfl) e, c⟩, r⟩
  | rng lo hi => obtain ⟨t, u, v, e⟩ := x; exact ⟨t, u, v, k _ _ (.inl rfl) e⟩
  | frz ob u ih => obtain ⟨e, q⟩ := x; exact ⟨k _ _ (.inl rfl) e, ih q⟩
  | tbl ps =>
    have e : h.get? a = some { cls := .none, data := .fields ps } := x
    show h'.get? a = some { cls := .none, data := .fields ps }
    exact k a _ (.inl rfl) e
  | met f y =>
    have e : h.get? a = some (PySem.W.methodObj (.ref f) (.ref y)) := x
    show h'.get? a = some (PySem.W.methodObj (.ref f) (.ref y))
    exact k a _ (.inl rfl) e
  | ext φ => obtain ⟨p, ⟨o, e⟩, st⟩ := x; exact ⟨st _ _ p fun o q => k _ _ (.inl rfl) q, ⟨o, k _ _ (.inl rfl) e⟩, st⟩
theorem HOk.lt (x : HOk P w H h) (e : H a = some o) : a < h.objs.size := (x a o e).lt
theorem HOk.fresh (x : HOk P w H h) (e : h.objs.size ≤ a) : H a = none := by
  cases q : H a with
  | none => rfl
  | some u => exact absurd (Nat.lt_of_lt_of_le (x.lt q) e) (Nat.lt_irrefl _)
/-- every object of the heap is kept -/
theorem HOk.kept (x : HOk P w H h) (k : ∀ b u, h.get? b = some u → h'.get? b = some u) : HOk P w H h' := fun a o e =>
  (x a o e).stay (fun b u _ q => k b u q) (fun _ q => q) fun _ _ q => q
/-- a new object is laid and tracked -/
theorem HOk.laid (x : HOk P w H h) (k : ∀ b u, h.get? b = some u → h'.get? b = some u) (hp : h.objs.size ≤ a) (new : ObjOk P w (upd H a o) h' a o) : HOk P w (upd H a o) h' := fun b u e => by
  have hn := x.fresh hp
  by_cases hb : b = a
  · subst hb; rw [upd_same] at e; cases e; exact new
  · rw [upd_ne hb] at e
    exact (x b u e).stay (fun c v _ q => k c v q) (fun c q => by rw [upd_ne (ne_of_none q hn)]; exact q) fun c xs q => by rw [upd_ne (ne_of_none q hn)]; exact q
end

/-- what may be read as u: it is u, or a known u -/
def Rd (H : Hp) (a : Addr) (u : HO) : Prop := H a = some u ∨ ∃ o, H a = some (.frz o u)
theorem Rd.of {H : Hp} {a : Addr} {u : HO} (h : H a = some u) : Rd H a u := .inl h
theorem Rd.ok {P : Program} {w : World} {H : Hp} {h : Heap} {a : Addr} {u : HO} (r : Rd H a u) (x : HOk P w H h) : ObjOk P w H h a u := by
  rcases r with r | ⟨o, r⟩
  · exact x a u r
  · obtain ⟨_, q⟩ := x a _ r
    exact q
/-- what may be written -/
def Mut : Option HO → Prop
  | some (.lst _) => True
  | some (.dK _) => True
  | some (.dT _) => True
  | some (.set _ _) => True
  | some (.ins _ _ _) => True
  | some (.ext _) => True
  | _ => False
section
variable {P : Program} {w : World} {H : Hp} {h h' : Heap} {x e : Addr} {o' : HO}
/-- the object at e is changed: x itself, or the dict of the instance x -/
theorem HOk.write (ok : HOk P w H h) (mu : Mut (H x)) (he : e = x ∨ H e = some (.own x)) (k : ∀ b u, b ≠ e → h.get? b = some u → h'.get? b = some u) (heo : ∃ u, h'.get? e = some u)
    (new : ObjOk P w (upd H x o') h' x o') : HOk P w (upd H x o') h' := fun b u q => by
  have nown : ∀ c y, H c = some (.own y) → c ≠ x := fun c y r z => by subst z; rw [r] at mu; exact mu
  have ntup : ∀ c xs, H c = some (.tup xs) → c ≠ x := fun c xs r z => by subst z; rw [r] at mu; exact mu
  by_cases hb : b = x
  · subst hb; rw [upd_same] at q; cases q; exact new
  · rw [upd_ne hb] at q
    by_cases hbe : b = e
    · have q' : H b = some (.own x) := by
        rcases he with z | z
        · exact absurd (hbe.trans z) hb
        · rw [hbe]; exact z
      rw [q] at q'; cases q'
      obtain ⟨v, hv⟩ := heo
      exact ⟨v, by rw [hbe]; exact hv⟩
    · refine (ok b u q).stay (fun c v hc r => k c v ?_ r) (fun c r => by rw [upd_ne (nown c b r)]; exact r) fun c xs r => by rw [upd_ne (ntup c xs r)]; exact r
      rcases hc with rfl | hc
      · exact hbe
      · rintro rfl
        rcases he with z | z
        · exact nown c b hc z
        · rw [hc] at z; cases z; exact hb rfl
end

/-! ### kept unless tracked; of the frames at fs (the callers') the slots may change (an exception that passes writes there); of the records at ex (iterators) nothing is said -/
structure Un (fs ex : List Addr) (H H' : Hp) (h h' : Heap) : Prop where
  keep : ∀ b o, h.get? b = some o → H b = none → b ∉ fs → b ∉ ex → h'.get? b = some o
  slot : ∀ b o, h.get? b = some o → H b = none → b ∈ fs → b ∉ ex → ∃ sl, h'.get? b = some { o with slots := sl }
  free : ∀ b o, h.get? b = some o → H b = none → b ∉ ex → H' b = none
  there : ∀ b o, h.get? b = some o → b ∉ ex → ∃ o', h'.get? b = some o'
  tups : ∀ b xs, H b = some (.tup xs) → H' b = some (.tup xs)
  frzs : ∀ b o u, H b = some (.frz o u) → H' b = some (.frz o u)
  tbls : ∀ b ps, H b = some (.tbl ps) → ∃ more, H' b = some (.tbl (ps ++ more))
section
variable {fs fs' ex ex' : List Addr} {H H1 H2 : Hp} {h h1 h2 h' : Heap} {a x e : Addr} {o : HO}
theorem Un.any (u : Un fs ex H H1 h h1) {b : Addr} {ob : Obj} (q : h.get? b = some ob) (n : H b = none) (hx : b ∉ ex) : ∃ sl, h1.get? b = some { ob with slots := sl } := by
  by_cases hb : b ∈ fs
  · exact u.slot b ob q n hb hx
  · exact ⟨ob.slots, u.keep b ob q n hb hx⟩
theorem Un.trans (a : Un fs ex H H1 h h1) (b : Un fs ex H1 H2 h1 h2) : Un fs ex H H2 h h2 where
  keep := fun c ob q n hc hx => b.keep c ob (a.keep c ob q n hc hx) (a.free c ob q n hx) hc hx
  slot := fun c ob q n hc hx => by
    obtain ⟨sl, e1⟩ := a.slot c ob q n hc hx
    obtain ⟨sl', e2⟩ := b.slot c _ e1 (a.free c ob q n hx) hc hx
    exact ⟨sl', e2⟩
  free := fun c ob q n hx => by
    obtain ⟨o', e1⟩ := a.there c ob q hx
    exact b.free c o' e1 (a.free c ob q n hx) hx
  there := fun c ob q hx => by
    obtain ⟨o', e1⟩ := a.there c ob q hx
    exact b.there c o' e1 hx
  tups := fun c xs q => b.tups c xs (a.tups c xs q)
  frzs := fun c ob xs q => b.frzs c ob xs (a.frzs c ob xs q)
  tbls := fun c ps q => by
    obtain ⟨m1, e1⟩ := a.tbls c ps q
    obtain ⟨m2, e2⟩ := b.tbls c _ e1
    exact ⟨m1 ++ m2, by rw [e2, Array.append_assoc]⟩
theorem Un.kept (k : ∀ b u, h.get? b = some u → h'.get? b = some u) : Un fs ex H H h h' :=
  ⟨fun b ob q _ _ _ => k b ob q, fun b ob q _ _ _ => ⟨ob.slots, k b ob q⟩, fun _ _ _ n _ => n, fun b ob q _ => ⟨ob, k b ob q⟩, fun _ _ q => q, fun _ _ _ q => q, fun _ ps q => ⟨#[], by rw [q]; simp⟩⟩
theorem Un.refl : Un fs ex H H h h := Un.kept fun _ _ q => q
theorem Un.laid (k : ∀ b u, h.get? b = some u → h'.get? b = some u) (hp : h.objs.size ≤ a) (hn : H a = none) : Un fs ex H (upd H a o) h h' where
  keep := fun b u q _ _ _ => k b u q
  slot := fun b u q _ _ _ => ⟨u.slots, k b u q⟩
  free := fun b u q n _ => by rw [upd_ne (Nat.ne_of_lt (Nat.lt_of_lt_of_le (Heap.lt_size q) hp))]; exact n
  there := fun b u q _ => ⟨u, k b u q⟩
  tups := fun b xs q => by rw [upd_ne (ne_of_none q hn)]; exact q
  frzs := fun b u xs q => by rw [upd_ne (ne_of_none q hn)]; exact q
  tbls := fun b ps q => ⟨#[], by rw [upd_ne (ne_of_none q hn), q]; simp⟩
theorem Un.write (mu : Mut (H x)) (he : e = x ∨ H e = some (.own x)) (k : ∀ b u, b ≠ e → h.get? b = some u → h'.get? b = some u) (heo : ∃ u, h'.get? e = some u) : Un fs ex H (upd H x o) h h' := by
  have hx : ∀ b, H b = none → b ≠ x := fun b n z => by subst z; rw [n] at mu; exact mu
  have hb : ∀ b, H b = none → b ≠ e := fun b n z => by
    subst z
    rcases he with r | r
    · exact hx b n r
    · rw [n] at r; cases r
  have hm : ∀ b u, H b = some u → ¬ Mut (some u) → b ≠ x := fun b u q nm z => by subst z; rw [q] at mu; exact nm mu
  refine ⟨fun b u q n _ _ => k b u (hb b n) q, fun b u q n _ _ => ⟨u.slots, k b u (hb b n) q⟩, fun b u q n _ => by rw [upd_ne (hx b n)]; exact n, fun b u q _ => ?_,
    fun b xs q => by rw [upd_ne (hm b _ q fun z => z)]; exact q, fun b u xs q => by rw [upd_ne (hm b _ q fun z => z)]; exact q, fun b ps q => ⟨#[], by rw [upd_ne (hm b _ q fun z => z), q]; simp⟩⟩
  by_cases hbe : b = e
  · subst hbe; exact heo
  · exact ⟨u, k b u hbe q⟩
theorem Un.mono (u : Un fs ex H H1 h h1) (hs : ∀ b ∈ fs, b ∈ fs') (hx : ∀ b ∈ ex, b ∈ ex') : Un fs' ex' H H1 h h1 :=
  ⟨fun b ob q n hb he => u.keep b ob q n (fun z => hb (hs b z)) fun z => he (hx b z), fun _ _ q n _ he => u.any q n fun z => he (hx _ z), fun b ob q n he => u.free b ob q n fun z => he (hx b z), fun b ob q he => u.there b ob q fun z => he (hx b z), u.tups, u.frzs, u.tbls⟩
end

/-! ### the heap without what is tracked -/
def trk (h : Heap) (H : Hp) : List Addr := (List.range h.objs.size).filter fun a => (H a).isSome
def hidT (h : Heap) (H : Hp) : Heap := PySem.W.hideAll h (trk h H)
theorem hidT_size (h : Heap) (H : Hp) : (hidT h H).objs.size = h.objs.size := PySem.W.hideAll_size _ _
theorem hidT_get {h : Heap} {H : Hp} {b : Addr} {o : Obj} (e : h.get? b = some o) (n : H b = none) : (hidT h H).get? b = some o :=
  PySem.W.hideAll_get _ e fun hm => by
    have q : (H b).isSome = true := (List.mem_filter.mp hm).2
    rw [n] at q; simp at q
theorem of_hidT {h : Heap} {H : Hp} {b : Addr} {o : Obj} (e : (hidT h H).get? b = some o) : h.get? b = some o ∧ H b = none := by
  have e' : h.get? b = some o := PySem.W.of_hideAll (trk h H) e
  refine ⟨e', ?_⟩
  cases q : H b with
  | none => rfl
  | some x =>
    have hm : b ∈ trk h H := List.mem_filter.mpr ⟨List.mem_range.mpr (Heap.lt_size e'), by simp [q]⟩
    have z : (hidT h H).get? b = none := PySem.W.hideAll_none (trk h H) hm
    rw [z] at e; cases e

/-! ### OpenK's ledger, filled with every new object but one -/
def allNews (g h : Heap) (L : Addr) : List (Addr × Obj) := (List.range h.objs.size).filterMap fun a => if a = L ∨ (g.get? a).isSome = true then none else (h.get? a).map fun o => (a, o)
theorem mem_allNews {g h : Heap} {L a : Addr} {o : Obj} (h1 : a ≠ L) (h2 : g.get? a = none) (h3 : h.get? a = some o) : (a, o) ∈ allNews g h L :=
  List.mem_filterMap.mpr ⟨a, List.mem_range.mpr (Heap.lt_size h3), by simp [h1, h2, h3]⟩
theorem of_mem_allNews {g h : Heap} {L : Addr} {p : Addr × Obj} (hp : p ∈ allNews g h L) : p.1 ≠ L ∧ g.get? p.1 = none ∧ h.get? p.1 = some p.2 := by
  obtain ⟨b, _, e⟩ := List.mem_filterMap.mp hp
  split at e
  · cases e
  · rename_i hn
    cases q : h.get? b with
    | none => rw [q] at e; simp at e
    | some u =>
      rw [q] at e
      simp only [Option.map_some, Option.some.injEq] at e
      subst e
      refine ⟨fun z => hn (.inl z), ?_, q⟩
      show g.get? b = none
      cases r : g.get? b with
      | none => rfl
      | some v => exact (hn (.inr (by simp [r]))).elim
def rest (g h : Heap) (L d : Addr) : List (Addr × Obj) := (allNews g h L).filter fun p => decide (p.1 ≠ d)
theorem rest_ne {g h : Heap} {L d : Addr} : ∀ p ∈ rest g h L d, p.1 ≠ d := fun p hp => of_decide_eq_true (List.mem_filter.mp hp).2
theorem mem_rest {g h : Heap} {L d a : Addr} {o : Obj} (h1 : a ≠ L) (h2 : g.get? a = none) (h3 : h.get? a = some o) (h4 : a ≠ d) : (a, o) ∈ rest g h L d :=
  List.mem_filter.mpr ⟨mem_allNews h1 h2 h3, decide_eq_true h4⟩
theorem news_all {g h : Heap} {L : Addr} : News g L h (allNews g h L) := fun p hp => let ⟨a, b, c⟩ := of_mem_allNews hp; ⟨c, a, b⟩
theorem news_at {g h : Heap} {L d : Addr} {o : Obj} (h1 : d ≠ L) (h2 : g.get? d = none) (h3 : h.get? d = some o) : News g L h ((d, o) :: rest g h L d) := fun p hp => by
  rcases List.mem_cons.mp hp with rfl | hp
  · exact ⟨h3, h1, h2⟩
  · exact news_all p (List.mem_filter.mp hp).1
/-- behind a rule that changed d alone: all else but the frame is kept -/
theorem kept_of_news {g h h' : Heap} {L d : Addr} {m : Str → Option Value} (k : ∀ b o, g.get? b = some o → h.get? b = some o) (F : Fr g L h' m) (N : News g L h' (rest g h L d)) :
    ∀ b o, b ≠ L → b ≠ d → h.get? b = some o → h'.get? b = some o := fun b o h1 h2 e => by
  cases q : g.get? b with
  | some u =>
    have := k b u q
    rw [e] at this; cases this
    exact F.keep b _ q
  | none => exact (N (b, o) (mem_rest h1 q e h2)).1
end L2

namespace L2
open PySem PySem.Spec PyProof.Rows

/-- the module's facts, over the base: the heap at the law's entry without what is tracked there -/
structure Mod (K : PySem.W.Frag) (mg : Str → Option Value) (base : Heap) : Prop where
  kin : K.In base
  glob : base.Ns mainGlobals mg
  blt : ∃ mb, base.Ns builtinsNs mb ∧ ∀ x : Str, x ≠ "__name__" → mb x = bootBuiltins x
  nolimit : base.NoLimit

/-- the context: a def's body (or a comprehension's block) running. base: fixed through the whole law; s₀, H₀: the entry; outer: the frames whose slots others may change (a def's callers); stack: all frames that run;
   ex: iterators that were made ahead of the entry and are walked here (a comprehension's); fn: the names whose cells were made at the entry (a def: all; a comprehension's block: its own); calm: not within an except suite; pn: pins that every state bears; xe: what is wanted of an exception that leaves the code -/
structure Cx where
  prog : Program
  w : World
  K : PySem.W.Frag
  mg : Str → Option Value
  base : Heap
  A : Around
  N : List Str
  s₀ : Shared
  H₀ : Hp
  env : Env
  outer : List Env
  stack : List Env
  ex : List Addr
  fn : Str → Bool
  calm : Bool
  pn : List (Addr × Obj)
  xe : Value → Shared → Prop
/-- the callers' frames -/
def frs (l : List Env) : List Addr := l.filterMap (·.frame)
abbrev Cx.fs (X : Cx) : List Addr := frs X.outer

def Vis (sc : Scope) (x : Str) : Prop := sc.names.lookup x = some .local ∨ sc.names.lookup x = some .cell ∨ sc.names.lookup x = some .free
def Loc (sc : Scope) (x : Str) : Prop := sc.names.lookup x = some .local ∨ sc.names.lookup x = some .cell
def Look (env : Env) (h : Heap) (m : Str → Option Value) (x : Str) (u : Value) : Prop :=
  (env.kindOf x = some .local ∧ m x = some u) ∨ ((env.kindOf x = some .cell ∨ env.kindOf x = some .free) ∧ ∃ c, env.cells.lookup x = some c ∧ h.IsCell c (some u))

structure Cx.Ok (X : Cx) : Prop where
  mod : Mod X.K X.mg X.base
  kind : X.env.scope.kind = .function
  glob : X.env.globals = mainGlobals
  blt : X.env.builtins = builtinsNs
  above : X.s₀.heap.objs.size ≤ X.env.locals
  inj : ∀ x y c, X.env.cells.lookup x = some c → X.env.cells.lookup y = some c → x = y
  has : ∀ x, (X.env.kindOf x = some .cell ∨ X.env.kindOf x = some .free) → ∃ c, X.env.cells.lookup x = some c
  cab : ∀ x c, X.fn x = true → X.env.cells.lookup x = some c → X.s₀.heap.objs.size ≤ c
  hd : X.calm = true → X.A.handled = none
  frames : X.A.frames = some X.stack
  stk : X.stack = X.outer ∨ (X.stack = X.env :: X.outer ∧ X.env.frame = some X.env.locals)
  exf : ∀ b ∈ X.ex, b ≠ X.env.locals ∧ ∀ x c, X.env.cells.lookup x = some c → c ≠ b
  bs : ∀ b o, X.base.get? b = some o → X.s₀.heap.get? b = some o ∧ X.H₀ b = none
  bsz : X.base.objs.size ≤ X.s₀.heap.objs.size
  noex : ∀ b o, X.base.get? b = some o → b ∉ X.ex
  exfs : ∀ b ∈ X.ex, b ∉ X.fs
  funs : X.s₀.heap.FunFrames X.base X.outer
  frf : ∀ b ∈ X.fs, X.H₀ b = none

structure Inv (X : Cx) (pins : List (Addr × Obj)) (σ : List (Option V)) (H : Hp) (s : Shared) : Prop where
  ok : X.Ok
  os : s.os = X.s₀.os
  bare : AllBare s.gens
  base : Un X.fs X.ex X.H₀ H X.s₀.heap s.heap
  loc : ∃ m, s.heap.Ns X.env.locals m ∧ ∀ (i : Nat) (x : Str) (v : V), X.N[i]? = some x → σ[i]? = some (some v) → Vis X.env.scope x → ∃ u, RelV v u ∧ Look X.env s.heap m x u
  cell : ∀ x c, X.env.cells.lookup x = some c → ∃ v, s.heap.IsCell c v
  free : H X.env.locals = none
  freeC : ∀ x c, X.env.cells.lookup x = some c → H c = none
  pin : ∀ p ∈ X.pn ++ pins, s.heap.get? p.1 = some p.2 ∧ H p.1 = none ∧ p.1 ≠ X.env.locals ∧ p.1 ∉ X.fs ∧ ∀ v, p.2.data ≠ .cell v
  hok : HOk X.prog X.w H s.heap
  len : σ.length = X.N.length

section
variable {X : Cx} {pins : List (Addr × Obj)} {σ : List (Option V)} {H H' : Hp} {s : Shared} {h' : Heap}

theorem Cx.Ok.nofr (ok : X.Ok) {b : Addr} {o : Obj} (e : X.base.get? b = some o) : b ∉ X.fs := fun hb => by
  have := (ok.funs.mem hb).1
  rw [e] at this; cases this
theorem Inv.bs (I : Inv X pins σ H s) : ∀ b o, X.base.get? b = some o → s.heap.get? b = some o ∧ H b = none := fun b o e =>
  ⟨I.base.keep b o (I.ok.bs b o e).1 (I.ok.bs b o e).2 (I.ok.nofr e) (I.ok.noex b o e), I.base.free b o (I.ok.bs b o e).1 (I.ok.bs b o e).2 (I.ok.noex b o e)⟩
theorem Inv.bk (I : Inv X pins σ H s) : ∀ b o, X.base.get? b = some o → s.heap.get? b = some o := fun b o e => (I.bs b o e).1
theorem Inv.mod (I : Inv X pins σ H s) : Mod X.K X.mg X.base := I.ok.mod
theorem Inv.kIn (I : Inv X pins σ H s) : X.K.In s.heap := I.ok.mod.kin.keeps I.bk
theorem Inv.nolimit (I : Inv X pins σ H s) : s.heap.NoLimit := I.ok.mod.nolimit.keeps I.bk
/-- the frame over the base: for OpenK's rules (K.In X.base is I.mod.kin) -/
theorem Inv.fr (I : Inv X pins σ H s) : ∃ m, Fr X.base X.env.locals s.heap m :=
  let ⟨m, hn, _⟩ := I.loc
  ⟨m, hn, I.bk, Nat.le_trans I.ok.bsz I.ok.above⟩
theorem Inv.lt (I : Inv X pins σ H s) : X.env.locals < s.heap.objs.size := let ⟨_, hn, _⟩ := I.loc; hn.lt
theorem Inv.sz (I : Inv X pins σ H s) : X.s₀.heap.objs.size ≤ s.heap.objs.size := Nat.le_trans I.ok.above (Nat.le_of_lt I.lt)
theorem Inv.nofs (I : Inv X pins σ H s) {a : Addr} (h : s.heap.objs.size ≤ a) : a ∉ X.fs := fun hb => by
  obtain ⟨_, o, ho, _⟩ := I.ok.funs.mem hb
  exact absurd (Nat.lt_of_lt_of_le (Heap.lt_size ho) (Nat.le_trans I.sz h)) (Nat.lt_irrefl _)
theorem Inv.cne (I : Inv X pins σ H s) : ∀ x c, X.env.cells.lookup x = some c → c ≠ X.env.locals := fun x c e z => by
  obtain ⟨v, o, ho, hd⟩ := I.cell x c e
  obtain ⟨m, ⟨o', es, ep, ho', hd', _⟩, _⟩ := I.loc
  rw [z, ho'] at ho; cases ho; rw [hd'] at hd; cases hd
theorem Inv.funs (I : Inv X pins σ H s) : s.heap.FunFrames X.base X.outer := by
  have all : ∀ (l : List Env), (∀ b ∈ frs l, b ∈ X.fs) → X.s₀.heap.FunFrames X.base l → s.heap.FunFrames X.base l := by
    intro l
    induction l with
    | nil => intro _ _; trivial
    | cons env r ih =>
      intro hs hl
      obtain ⟨hk, ⟨L, o, hf, hn, ho, hd⟩, hr⟩ := hl
      have hL : L ∈ X.fs := hs L (by unfold frs; rw [List.filterMap_cons, hf]; exact List.mem_cons_self)
      obtain ⟨sl, e⟩ := I.base.slot L o ho (I.ok.frf L hL) hL fun z => I.ok.exfs L z hL
      exact ⟨hk, ⟨L, _, hf, hn, e, hd⟩, ih (fun b hb => hs b (by unfold frs; rw [List.filterMap_cons, hf]; exact List.mem_cons_of_mem _ hb)) hr⟩
  exact all X.outer (fun _ hb => hb) I.ok.funs

/-- the frames that run, for a call -/
theorem Inv.stack (I : Inv X pins σ H s) : s.heap.FunFrames X.base X.stack := by
  rcases I.ok.stk with e | ⟨e, hf⟩
  · rw [e]; exact I.funs
  · rw [e]
    obtain ⟨m, hn, _⟩ := I.loc
    refine .cons (by rw [I.ok.kind]; decide) hf hn ?_ I.funs
    exact Heap.get?_none_of_le (Nat.le_trans I.ok.bsz I.ok.above)
theorem Inv.stkSub (I : Inv X pins σ H s) : ∀ b ∈ frs X.stack, b ∈ X.env.locals :: X.fs := fun b hb => by
  rcases I.ok.stk with e | ⟨e, hf⟩
  · rw [e] at hb; exact List.mem_cons_of_mem _ hb
  · rw [e] at hb
    unfold frs at hb
    rw [List.filterMap_cons, hf] at hb
    exact hb
theorem Inv.stkFree (I : Inv X pins σ H s) : ∀ b ∈ frs X.stack, H b = none := fun b hb => by
  rcases List.mem_cons.mp (I.stkSub b hb) with e | hb
  · rw [e]; exact I.free
  · obtain ⟨_, o, ho, _⟩ := I.ok.funs.mem hb
    exact I.base.free b o ho (I.ok.frf b hb) fun z => I.ok.exfs b z hb

/-- THE STEP: the untracked objects but the frame and the records at ch are kept (the callers' frames up to slots), the frame's map is kept, the new abstract heap is held -/
theorem Inv.step {g' : Array GenState} {t' : Nat} {d' : Drawn} {ch : List Addr} (I : Inv X pins σ H s)
    (hch : ∀ b ∈ ch, (b ∈ X.ex ∨ X.s₀.heap.objs.size ≤ b) ∧ b ≠ X.env.locals ∧ (∀ x c, X.env.cells.lookup x = some c → c ≠ b) ∧ ∀ p ∈ X.pn ++ pins, p.1 ≠ b)
    (keep : ∀ b o, b ≠ X.env.locals → b ∉ X.fs → b ∉ ch → s.heap.get? b = some o → H b = none → h'.get? b = some o)
    (slot : ∀ b o, b ≠ X.env.locals → b ∈ X.fs → b ∉ ch → s.heap.get? b = some o → H b = none → ∃ sl, h'.get? b = some { o with slots := sl }) (free : ∀ b o, b ∉ ch → s.heap.get? b = some o → H b = none → H' b = none)
    (there : ∀ b o, b ∉ ch → s.heap.get? b = some o → ∃ o', h'.get? b = some o')
    (tups : ∀ b xs, H b = some (.tup xs) → H' b = some (.tup xs)) (frzs : ∀ b o u, H b = some (.frz o u) → H' b = some (.frz o u)) (tbls : ∀ b ps, H b = some (.tbl ps) → ∃ more, H' b = some (.tbl (ps ++ more)))
    (ns : ∀ m, s.heap.Ns X.env.locals m → h'.Ns X.env.locals m) (hok : HOk X.prog X.w H' h') (hg : AllBare g') :
    Inv X pins σ H' { s with heap := h', gens := g', drawn := d', toks := t' } := by
  have neL : ∀ b o, X.s₀.heap.get? b = some o → b ≠ X.env.locals := fun b o e => Nat.ne_of_lt (Nat.lt_of_lt_of_le (Heap.lt_size e) I.ok.above)
  have neC : ∀ b o, X.s₀.heap.get? b = some o → b ∉ X.ex → b ∉ ch := fun b o e hx hb => by
    rcases (hch b hb).1 with z | z
    · exact hx z
    · exact absurd (Nat.lt_of_lt_of_le (Heap.lt_size e) z) (Nat.lt_irrefl _)
  have cellK : ∀ x c, X.env.cells.lookup x = some c → ∀ v, s.heap.IsCell c v → h'.IsCell c v := fun x c e v ⟨o, ho, hd⟩ => by
    have nch : c ∉ ch := fun z => (hch c z).2.2.1 x c e rfl
    by_cases hc : c ∈ X.fs
    · obtain ⟨sl, q⟩ := slot c o (I.cne x c e) hc nch ho (I.freeC x c e)
      exact ⟨_, q, hd⟩
    · exact ⟨o, keep c o (I.cne x c e) hc nch ho (I.freeC x c e), hd⟩
  refine ⟨I.ok, I.os, hg, ⟨fun b o e n hb hx => ?_, fun b o e n hb hx => ?_, fun b o e n hx => ?_, fun b o e hx => ?_, fun b xs e => tups b xs (I.base.tups b xs e), fun b o xs e => frzs b o xs (I.base.frzs b o xs e), fun b ps e => ?_⟩, ?_, fun x c e => ?_, ?_, fun x c e => ?_, fun p hp => ?_, hok, I.len⟩
  · exact keep b o (neL b o e) hb (neC b o e hx) (I.base.keep b o e n hb hx) (I.base.free b o e n hx)
  · obtain ⟨sl, e1⟩ := I.base.slot b o e n hb hx
    obtain ⟨sl', e2⟩ := slot b _ (neL b o e) hb (neC b o e hx) e1 (I.base.free b o e n hx)
    exact ⟨sl', e2⟩
  · obtain ⟨o', e1⟩ := I.base.there b o e hx
    exact free b o' (neC b o e hx) e1 (I.base.free b o e n hx)
  · obtain ⟨o', e1⟩ := I.base.there b o e hx
    exact there b o' (neC b o e hx) e1
  · obtain ⟨m1, e1⟩ := I.base.tbls b ps e
    obtain ⟨m2, e2⟩ := tbls b _ e1
    exact ⟨m1 ++ m2, by rw [e2, Array.append_assoc]⟩
  · obtain ⟨m, hn, hl⟩ := I.loc
    refine ⟨m, ns m hn, fun i x v e1 e2 e3 => ?_⟩
    obtain ⟨u, r, l⟩ := hl i x v e1 e2 e3
    refine ⟨u, r, ?_⟩
    rcases l with l | ⟨k, c, e, z⟩
    · exact .inl l
    · exact .inr ⟨k, c, e, cellK x c e _ z⟩
  · obtain ⟨v, z⟩ := I.cell x c e
    exact ⟨v, cellK x c e v z⟩
  · obtain ⟨m, ⟨o, _, _, ho, _⟩, _⟩ := I.loc
    exact free _ o (fun z => (hch _ z).2.1 rfl) ho I.free
  · obtain ⟨v, o, ho, hd⟩ := I.cell x c e
    exact free c o (fun z => (hch c z).2.2.1 x c e rfl) ho (I.freeC x c e)
  · obtain ⟨e, n, ne, nf, d⟩ := I.pin p hp
    have nch : p.1 ∉ ch := fun z => (hch p.1 z).2.2.2 p hp rfl
    exact ⟨keep p.1 p.2 ne nf nch e n, free p.1 p.2 nch e n, ne, nf, d⟩
/-- .. where the frame's own object is kept too -/
theorem Inv.un {t' : Nat} (I : Inv X pins σ H s) (u : Un X.fs [] H H' s.heap h') (hok : HOk X.prog X.w H' h') : Inv X pins σ H' { s with heap := h', toks := t' } := by
  obtain ⟨m, ⟨o, es, ep, ho, r⟩, _⟩ := id I.loc
  obtain ⟨sl, hL⟩ := u.any ho I.free (by simp)
  exact I.step (g' := s.gens) (d' := s.drawn) (ch := []) (fun _ z => nomatch z) (fun b o _ hb _ e n => u.keep b o e n hb (by simp)) (fun b o _ hb _ e n => u.slot b o e n hb (by simp)) (fun b o _ e n => u.free b o e n (by simp)) (fun b o _ e => u.there b o e (by simp)) u.tups u.frzs u.tbls (fun m' hm => by
    obtain ⟨o', es', ep', ho', r'⟩ := hm
    rw [ho] at ho'; cases ho'
    exact ⟨_, es', ep', hL, r'⟩) hok I.bare
/-- behind a call (or a comprehension's block): the slots of this frame may have changed too, the records at ch may have turned -/
theorem Inv.call {g' : Array GenState} {t' : Nat} {d' : Drawn} {ch : List Addr} (I : Inv X pins σ H s) (u : Un (frs X.stack) ch H H' s.heap h') (hok : HOk X.prog X.w H' h') (hg : AllBare g')
    (hch : ∀ b ∈ ch, (b ∈ X.ex ∨ X.s₀.heap.objs.size ≤ b) ∧ b ≠ X.env.locals ∧ (∀ x c, X.env.cells.lookup x = some c → c ≠ b) ∧ ∀ p ∈ X.pn ++ pins, p.1 ≠ b) :
    Inv X pins σ H' { s with heap := h', gens := g', drawn := d', toks := t' } := by
  obtain ⟨m, ⟨o, es, ep, ho, r⟩, _⟩ := id I.loc
  obtain ⟨sl, hL⟩ := u.any ho I.free fun z => (hch _ z).2.1 rfl
  exact I.step (ch := ch) hch (fun b o hL hb hc e n => u.keep b o e n (fun z => (List.mem_cons.mp (I.stkSub b z)).elim hL hb) hc) (fun b o _ _ hc e n => u.any e n hc) (fun b o hc e n => u.free b o e n hc) (fun b o hc e => u.there b o e hc) u.tups u.frzs u.tbls (fun m' hm => by
    obtain ⟨o', es', ep', ho', r'⟩ := hm
    rw [ho] at ho'; cases ho'
    exact ⟨_, es', ep', hL, r'⟩) hok hg
/-- an untracked record of ours (an iterator) has turned -/
theorem Inv.turned {t' : Nat} {it : Addr} (I : Inv X pins σ H s) (k : ∀ b o, b ≠ it → s.heap.get? b = some o → h'.get? b = some o) (hn : H it = none) (hL : it ≠ X.env.locals)
    (h1 : it ∈ X.ex ∨ X.s₀.heap.objs.size ≤ it) (h2 : ∀ x c, X.env.cells.lookup x = some c → c ≠ it) (h3 : ∀ p ∈ X.pn ++ pins, p.1 ≠ it) : Inv X pins σ H { s with heap := h', toks := t' } := by
  have nit : ∀ b u, H b = some u → b ≠ it := fun b u e z => by rw [z, hn] at e; cases e
  refine I.step (g' := s.gens) (d' := s.drawn) (ch := [it]) (fun b hb => ?_) (fun b o _ _ hc e _ => k b o (fun z => hc (by simp [z])) e) (fun b o _ _ hc e _ => ⟨o.slots, k b o (fun z => hc (by simp [z])) e⟩) (fun _ _ _ _ n => n)
    (fun b o hc e => ⟨o, k b o (fun z => hc (by simp [z])) e⟩) (fun _ _ e => e) (fun _ _ _ e => e) (fun b ps e => ⟨#[], by rw [e]; simp⟩) (fun m hm => ?_) (fun b u e => ?_) I.bare
  · have e : b = it := by simpa using hb
    subst e
    exact ⟨h1, hL, h2, h3⟩
  · obtain ⟨o, es, ep, ho, r⟩ := hm
    exact ⟨o, es, ep, k _ o (Ne.symm hL) ho, r⟩
  · refine (I.hok b u e).stay (fun c v hc q => k c v ?_ q) (fun _ q => q) fun _ _ q => q
    rcases hc with z | z
    · rw [z]; exact nit b u e
    · exact nit c _ z
theorem Inv.tok (I : Inv X pins σ H s) (t : Nat) : Inv X pins σ H { s with toks := t } := I.un (h' := s.heap) (t' := t) Un.refl I.hok
/-- all objects kept -/
theorem Inv.kept {t' : Nat} (I : Inv X pins σ H s) (k : ∀ b u, s.heap.get? b = some u → h'.get? b = some u) : Inv X pins σ H { s with heap := h', toks := t' } := I.un (Un.kept k) (I.hok.kept k)
/-- a new object laid and tracked -/
theorem Inv.laid {a : Addr} {o : HO} {t' : Nat} (I : Inv X pins σ H s) (k : ∀ b u, s.heap.get? b = some u → h'.get? b = some u) (hp : s.heap.objs.size ≤ a) (new : ObjOk X.prog X.w (upd H a o) h' a o) :
    Inv X pins σ (upd H a o) { s with heap := h', toks := t' } := I.un (Un.laid k hp (I.hok.fresh hp)) (I.hok.laid k hp new)
/-- an object written -/
theorem Inv.write {x e : Addr} {o : HO} {t' : Nat} (I : Inv X pins σ H s) (mu : Mut (H x)) (he : e = x ∨ H e = some (.own x)) (k : ∀ b u, b ≠ e → s.heap.get? b = some u → h'.get? b = some u) (heo : ∃ u, h'.get? e = some u)
    (new : ObjOk X.prog X.w (upd H x o) h' x o) : Inv X pins σ (upd H x o) { s with heap := h', toks := t' } := I.un (Un.write mu he k heo) (I.hok.write mu he k heo new)
/-- forgetting slots, pins -/
theorem Inv.weak {σ' : List (Option V)} (I : Inv X pins σ H s) (hl : σ'.length = σ.length) (w : ∀ (i : Nat) v, σ'[i]? = some (some v) → σ[i]? = some (some v)) : Inv X pins σ' H s :=
  ⟨I.ok, I.os, I.bare, I.base, let ⟨m, hn, hl'⟩ := I.loc; ⟨m, hn, fun i x v e1 e2 e3 => hl' i x v e1 (w i v e2) e3⟩, I.cell, I.free, I.freeC, I.pin, I.hok, hl.trans I.len⟩
theorem Inv.pins_of {pins' : List (Addr × Obj)} (I : Inv X pins σ H s) (h : ∀ p ∈ pins', s.heap.get? p.1 = some p.2 ∧ H p.1 = none ∧ p.1 ≠ X.env.locals ∧ p.1 ∉ X.fs ∧ ∀ v, p.2.data ≠ .cell v) : Inv X pins' σ H s :=
  ⟨I.ok, I.os, I.bare, I.base, I.loc, I.cell, I.free, I.freeC, fun p hp => (List.mem_append.mp hp).elim (fun z => I.pin p (List.mem_append_left _ z)) (h p), I.hok, I.len⟩

theorem nodup_ix {N : List Str} (hN : N.Nodup) {i j : Nat} {x : Str} (a : N[i]? = some x) (b : N[j]? = some x) : i = j := by
  obtain ⟨h1, e1⟩ := List.getElem?_eq_some_iff.mp a
  obtain ⟨h2, e2⟩ := List.getElem?_eq_some_iff.mp b
  exact (List.getElem_inj hN).mp (e1.trans e2.symm)

/-- a name is stored; what changed -/
theorem store_ok2 {M : Model} {A : Around} {E : Value → Shared → Prop} {i : Nat} {x : Str} {v : V} {u : Value} {Q : Unit → Shared → Prop} (I : Inv X pins σ H s) (hN : X.N.Nodup) (hi : X.N[i]? = some x) (hx : Loc X.env.scope x) (r : RelV v u)
    (h : ∀ s', Inv X pins (σ.set i (some v)) H s' → (∃ a, Heap.SameBut a s.heap s'.heap ∧ (a = X.env.locals ∨ X.env.cells.lookup x = some a)) → Q () s') (hf : X.fn x = true ∨ X.env.scope.names.lookup x = some .local := by first | exact .inl rfl | exact .inr rfl | assumption) : wpAny M A (storeName X.env x u) Q E s := by
  obtain ⟨m, hn, hl⟩ := id I.loc
  have hcls : (X.env.scope.kind == .class || (X.env.scope.kind == .module && X.env.locals != X.env.globals)) = false := by rw [I.ok.kind]; rfl
  have hiσ : i < σ.length := by rw [I.len]; exact (List.getElem?_eq_some_iff.mp hi).1
  have cne := I.cne
  have tracked : ∀ {a : Addr} {h' : Heap}, (∃ o, s.heap.get? a = some o ∧ H a = none) → Heap.SameBut a s.heap h' → HOk X.prog X.w H h' := fun {a h'} ha hs b ob e => by
    obtain ⟨_, _, hfree⟩ := ha
    refine (I.hok b ob e).stay (fun c w' hc q => (hs.2 c ?_).trans q) (fun _ q => q) fun _ _ q => q
    rintro rfl
    rcases hc with rfl | hc
    · rw [hfree] at e; cases e
    · rw [hfree] at hc; cases hc
  rcases hx with hk | hk
  · refine wpAny_storeName_local hk hn (fun h' hn' hs => ?_) hcls
    obtain ⟨oL, _, _, hoL, _⟩ := id hn
    refine h _ ⟨I.ok, I.os, I.bare, ⟨fun b o e n hb hx => ?_, fun b o e n hb hx => ?_, I.base.free, fun b o e hx => ?_, I.base.tups, I.base.frzs, I.base.tbls⟩, ⟨_, hn', fun j y v' e1 e2 e3 => ?_⟩, fun y c e => ?_, I.free, I.freeC, fun p hp => ?_, tracked ⟨oL, hoL, I.free⟩ hs, by simpa using I.len⟩ ⟨_, hs, .inl rfl⟩
    · exact (hs.2 b (Nat.ne_of_lt (Nat.lt_of_lt_of_le (Heap.lt_size e) I.ok.above))).trans (I.base.keep b o e n hb hx)
    · obtain ⟨sl, e1⟩ := I.base.slot b o e n hb hx
      exact ⟨sl, (hs.2 b (Nat.ne_of_lt (Nat.lt_of_lt_of_le (Heap.lt_size e) I.ok.above))).trans e1⟩
    · obtain ⟨o', e1⟩ := I.base.there b o e hx
      exact ⟨o', (hs.2 b (Nat.ne_of_lt (Nat.lt_of_lt_of_le (Heap.lt_size e) I.ok.above))).trans e1⟩
    · by_cases hj : j = i
      · subst hj
        rw [hi] at e1; cases e1
        rw [List.getElem?_set_self hiσ] at e2
        cases e2
        exact ⟨u, r, .inl ⟨hk, by simp⟩⟩
      · rw [List.getElem?_set_ne (Ne.symm hj)] at e2
        obtain ⟨u', r', q⟩ := hl j y v' e1 e2 e3
        refine ⟨u', r', ?_⟩
        rcases q with ⟨k, e⟩ | ⟨k, c, e, z⟩
        · refine .inl ⟨k, ?_⟩
          have : y ≠ x := fun e => hj (nodup_ix hN e1 (e ▸ hi))
          simp [this, e]
        · exact .inr ⟨k, c, e, z.sameBut hs (cne y c e)⟩
    · obtain ⟨w', z⟩ := I.cell y c e
      exact ⟨w', z.sameBut hs (cne y c e)⟩
    · obtain ⟨e, n, ne, nf, d⟩ := I.pin p hp
      exact ⟨(hs.2 p.1 ne).trans e, n, ne, nf, d⟩
  · have hfn : X.fn x = true := by
      rcases hf with z | z
      · exact z
      · rw [z] at hk; cases hk
    obtain ⟨c, hc⟩ := I.ok.has x (.inl hk)
    obtain ⟨w', z⟩ := I.cell x c hc
    refine wpAny_storeName_cell I.ok.kind hk hc z (fun h' hc' hs => ?_)
    obtain ⟨oc, hoc, hocd⟩ := id z
    refine h { s with heap := h' } ⟨I.ok, I.os, I.bare, ⟨fun b o e n hb hx => ?_, fun b o e n hb hx => ?_, I.base.free, fun b o e hx => ?_, I.base.tups, I.base.frzs, I.base.tbls⟩, ⟨m, hn.sameBut hs (Ne.symm (cne x c hc)), fun j y v' e1 e2 e3 => ?_⟩, fun y c' e => ?_, I.free, I.freeC, fun p hp => ?_, tracked ⟨oc, hoc, I.freeC x c hc⟩ hs, by simpa using I.len⟩ ⟨c, hs, .inr hc⟩
    · exact (hs.2 b (Nat.ne_of_lt (Nat.lt_of_lt_of_le (Heap.lt_size e) (I.ok.cab x c hfn hc)))).trans (I.base.keep b o e n hb hx)
    · obtain ⟨sl, e1⟩ := I.base.slot b o e n hb hx
      exact ⟨sl, (hs.2 b (Nat.ne_of_lt (Nat.lt_of_lt_of_le (Heap.lt_size e) (I.ok.cab x c hfn hc)))).trans e1⟩
    · obtain ⟨o', e1⟩ := I.base.there b o e hx
      exact ⟨o', (hs.2 b (Nat.ne_of_lt (Nat.lt_of_lt_of_le (Heap.lt_size e) (I.ok.cab x c hfn hc)))).trans e1⟩
    · by_cases hj : j = i
      · subst hj
        rw [hi] at e1; cases e1
        rw [List.getElem?_set_self hiσ] at e2
        cases e2
        exact ⟨u, r, .inr ⟨.inl hk, c, hc, hc'⟩⟩
      · rw [List.getElem?_set_ne (Ne.symm hj)] at e2
        obtain ⟨u', r', q⟩ := hl j y v' e1 e2 e3
        refine ⟨u', r', ?_⟩
        rcases q with q | ⟨k, c', e, z'⟩
        · exact .inl q
        · refine .inr ⟨k, c', e, z'.sameBut hs ?_⟩
          rintro rfl
          exact hj (nodup_ix hN e1 (I.ok.inj _ _ _ e hc ▸ hi))
    · by_cases hcc : c' = c
      · subst hcc; exact ⟨_, hc'⟩
      · obtain ⟨w2, z2⟩ := I.cell y c' e
        exact ⟨w2, z2.sameBut hs hcc⟩
    · obtain ⟨e, n, ne, nf, d⟩ := I.pin p hp
      refine ⟨(hs.2 p.1 ?_).trans e, n, ne, nf, d⟩
      intro q
      rw [q, hoc] at e
      have q' : oc = p.2 := Option.some.inj e
      exact d w' (by rw [← q']; exact hocd)
theorem store_ok {M : Model} {A : Around} {E : Value → Shared → Prop} {i : Nat} {x : Str} {v : V} {u : Value} {Q : Unit → Shared → Prop} (I : Inv X pins σ H s) (hN : X.N.Nodup) (hi : X.N[i]? = some x) (hx : Loc X.env.scope x) (r : RelV v u)
    (h : ∀ s', Inv X pins (σ.set i (some v)) H s' → Q () s') (hf : X.fn x = true ∨ X.env.scope.names.lookup x = some .local := by first | exact .inl rfl | exact .inr rfl | assumption) : wpAny M A (storeName X.env x u) Q E s :=
  store_ok2 I hN hi hx r (fun s' I' _ => h s' I') hf
/-- behind a call or a block, the state as it is -/
theorem Inv.call' {s' : Shared} {ch : List Addr} (I : Inv X pins σ H s) (ho : s'.os = s.os) (u : Un (frs X.stack) ch H H' s.heap s'.heap) (hok : HOk X.prog X.w H' s'.heap) (hg : AllBare s'.gens)
    (hch : ∀ b ∈ ch, (b ∈ X.ex ∨ X.s₀.heap.objs.size ≤ b) ∧ b ≠ X.env.locals ∧ (∀ x c, X.env.cells.lookup x = some c → c ≠ b) ∧ ∀ p ∈ X.pn ++ pins, p.1 ≠ b) : Inv X pins σ H' s' := by
  obtain ⟨h', g', d', t', o'⟩ := s'
  have e : o' = s.os := ho
  subst e
  exact I.call (g' := g') (t' := t') (d' := d') u hok hg hch
end

/-! ### the judgements -/
/-- an exception: its class, its own dict's address (where it has one), the abstract heap behind it -/
abbrev XK := Value → Option Addr → Hp → Prop
abbrev St := List (Option V)
abbrev VK := V → Hp → Prop
/-- an expression's reading; a test's; an argument list's -/
abbrev TE := St → Hp → VK → Prop
abbrev TT := St → Hp → (Bool → Hp → Prop) → Prop
abbrev TA := St → Hp → (List V → Hp → Prop) → Prop
/-- what is wanted behind a statement -/
structure Ends where
  nx : St → Hp → Prop
  rt : VK
  bk : St → Hp → Prop := fun _ _ => False
  ct : St → Hp → Prop := fun _ _ => False
abbrev TS := Ends → St → Hp → Prop

def EP (X : Cx) (pins : List (Addr × Obj)) (σ : St) (Q : VK) (u : Value) (s' : Shared) : Prop := ∃ v H', Inv X pins σ H' s' ∧ RelV v u ∧ Q v H'
def TP (X : Cx) (pins : List (Addr × Obj)) (σ : St) (Q : Bool → Hp → Prop) (b : Bool) (s' : Shared) : Prop := ∃ H', Inv X pins σ H' s' ∧ Q b H'
def AP (X : Cx) (pins : List (Addr × Obj)) (σ : St) (Q : List V → Hp → Prop) (us : List Value) (s' : Shared) : Prop := ∃ vs H', Inv X pins σ H' s' ∧ Vals vs us ∧ Q vs H'
def SP (X : Cx) (pins : List (Addr × Obj)) (D : Ends) (f : Flow) (s' : Shared) : Prop :=
  match f with
  | .next => ∃ σ' H', Inv X pins σ' H' s' ∧ D.nx σ' H'
  | .brk => ∃ σ' H', Inv X pins σ' H' s' ∧ D.bk σ' H'
  | .cont => ∃ σ' H', Inv X pins σ' H' s' ∧ D.ct σ' H'
  | .ret u => ∃ v σ' H', Inv X pins σ' H' s' ∧ RelV v u ∧ D.rt v H'

def PE (X : Cx) (e : Expr) (t : TE) : Prop :=
  ∀ (pins : List (Addr × Obj)) (s : Shared) (σ : St) (H : Hp) (Q : VK), Inv X pins σ H s → t σ H Q → wpAny (model X.prog X.w) X.A (eval e X.env) (EP X pins σ Q) X.xe s
def PT (X : Cx) (e : Expr) (t : TT) : Prop :=
  ∀ (pins : List (Addr × Obj)) (s : Shared) (σ : St) (H : Hp) (Q : Bool → Hp → Prop), Inv X pins σ H s → t σ H Q → wpAny (model X.prog X.w) X.A (isTrue e X.env (eval e X.env)) (TP X pins σ Q) X.xe s
/-- a test whatever its 'whole' is (and, or) -/
def PW (X : Cx) (e : Expr) (t : TT) : Prop :=
  ∀ (whole : Sem Value) (pins : List (Addr × Obj)) (s : Shared) (σ : St) (H : Hp) (Q : Bool → Hp → Prop), Inv X pins σ H s → t σ H Q → wpAny (model X.prog X.w) X.A (isTrue e X.env whole) (TP X pins σ Q) X.xe s
theorem PW.pt {X : Cx} {e : Expr} {t : TT} (h : PW X e t) : PT X e t := h _
/-- an argument list (no star), from the left -/
def PA (X : Cx) (es : List Expr) (t : TA) : Prop :=
  ∀ (pos : Pos) (pins : List (Addr × Obj)) (s : Shared) (σ : St) (H : Hp) (Q : List V → Hp → Prop), Inv X pins σ H s → t σ H Q → wpAny (model X.prog X.w) X.A (spliced (backTo pos (starEach es X.env))) (AP X pins σ Q) X.xe s
def PS (X : Cx) (st : Stmt) (t : TS) : Prop :=
  ∀ (pins : List (Addr × Obj)) (s : Shared) (σ : St) (H : Hp) (D : Ends), Inv X pins σ H s → t D σ H → wpAny (model X.prog X.w) X.A (exec st X.env) (SP X pins D) X.xe s
def PSs (X : Cx) (st : List Stmt) (t : TS) : Prop :=
  ∀ (pins : List (Addr × Obj)) (s : Shared) (σ : St) (H : Hp) (D : Ends), Inv X pins σ H s → t D σ H → wpAny (model X.prog X.w) X.A (execs st X.env) (SP X pins D) X.xe s
/-- weaken the end -/
theorem thn {α : Type} {t : Sem α} {Q Q' : α → Shared → Prop} {M : Model} {A : Around} {E : Value → Shared → Prop} {s : Shared} (h : wpAny M A t Q E s) (hQ : ∀ a s, Q a s → Q' a s) : wpAny M A t Q' E s := wpAny_mono h hQ fun _ _ x => x
end L2

namespace L2
open PySem PySem.Spec PyProof.Rows
section
variable {X : Cx}

/-- two expressions in a row -/
theorem bin {a b : Expr} {ta tb : TE} (ha : PE X a ta) (hb : PE X b tb) {pins : List (Addr × Obj)} {s : Shared} {σ : St} {H : Hp} {R : V → V → Hp → Prop} (I : Inv X pins σ H s) (h : ta σ H fun x H1 => tb σ H1 fun y H2 => R x y H2)
    {α : Type} {Q : α → Shared → Prop} {f : Value → Value → Sem α}
    (hf : ∀ v u s2 x y H2, Inv X pins σ H2 s2 → RelV x v → RelV y u → R x y H2 → wpAny (model X.prog X.w) X.A (f v u) Q X.xe s2) :
    wpAny (model X.prog X.w) X.A (eval a X.env) (fun v s₁ => wpAny (model X.prog X.w) X.A (eval b X.env) (fun u s₂ => wpAny (model X.prog X.w) X.A (f v u) Q X.xe s₂) X.xe s₁) X.xe s := by
  refine thn (ha pins s σ H _ I h) fun v s1 ⟨x, H1, I1, r1, q1⟩ => ?_
  refine thn (hb pins s1 σ H1 _ I1 q1) fun u s2 ⟨y, H2, I2, r2, q2⟩ => ?_
  exact hf v u s2 x y H2 I2 r1 r2 q2

/-! ### names and constants -/
def tVar (i : Nat) : TE := fun σ H Q => ∃ v, σ[i]? = some (some v) ∧ Q v H
def tC (v : V) : TE := fun _ H Q => Q v H
theorem pe_var {i : Nat} {x : Str} {pos : Pos} (hN : X.N[i]? = some x) (hv : Vis X.env.scope x) (hd : (x == ("__debug__" : Str)) = false := by decide) (hcd : (x == ("__classdict__" : Str)) = false := by decide) : PE X (.Name x pos) (tVar i) := by
  intro pins s σ H Q I h
  obtain ⟨v, e, h⟩ := h
  obtain ⟨m, hn, hl⟩ := I.loc
  obtain ⟨u, r, l⟩ := hl i x v hN e hv
  have fin : EP X pins σ Q u s := ⟨v, H, I, r, h⟩
  rcases l with ⟨hk, hm⟩ | ⟨hk, c, hc, hcell⟩
  · exact wpAny_Name (wpAny_loadName_local I.ok.kind hk hn hm fin) hd
  · rcases hk with hk | hk
    · exact wpAny_Name (wpAny_loadName_cell I.ok.kind hk hc hcell fin) hd
    · exact wpAny_Name (wpAny_loadName_free I.ok.kind hk hc hcell fin hcd) hd
theorem pe_int {i j pos} : PE X (.Constant (.int i) j pos) (tC (.int i)) := fun _ _ _ H _ I h => wpAny_Constant_int ⟨.int i, H, I.tok _, ⟨_, rfl⟩, h⟩
theorem pe_bl {b j pos} : PE X (.Constant (.bool b) j pos) (tC (.bl b)) := fun _ _ _ H _ I h => Constant_bool ⟨.bl b, H, I, rfl, h⟩
theorem pe_non {j pos} : PE X (.Constant .none j pos) (tC .non) := fun _ _ _ H _ I h => Constant_none ⟨.non, H, I, rfl, h⟩
theorem pe_str {x j pos} : PE X (.Constant (.str x) j pos) (tC (.str x)) := fun _ _ _ H _ I h => Calls.Constant_str ⟨.str x, H, I.tok _, ⟨_, rfl⟩, h⟩

/-- a global name of the def -/
def Gl (X : Cx) (x : Str) : Prop := X.env.kindOf x = some .globalImplicit
theorem ld_glob {E : Value → Shared → Prop} {pins : List (Addr × Obj)} {s : Shared} {σ : St} {H : Hp} {x : Str} {u : Value} {pos : Pos} {Q : Value → Shared → Prop} (I : Inv X pins σ H s) (hg : Gl X x) (hm : X.mg x = some u) (h : Q u s)
    (hd : (x == ("__debug__" : Str)) = false := by decide) : wpAny (model X.prog X.w) X.A (eval (.Name x pos) X.env) Q E s :=
  Calls.Name_function_global I.ok.kind hg (Calls.loadGlobal_global (by rw [I.ok.glob]; exact I.mod.glob.keeps I.bk) hm h) hd
theorem ld_blt {E : Value → Shared → Prop} {pins : List (Addr × Obj)} {s : Shared} {σ : St} {H : Hp} {x : Str} {u : Value} {pos : Pos} {Q : Value → Shared → Prop} (I : Inv X pins σ H s) (hg : Gl X x) (hm : X.mg x = none) (hv : bootBuiltins x = some u) (h : Q u s)
    (hn : x ≠ "__name__" := by decide) (hd : (x == ("__debug__" : Str)) = false := by decide) : wpAny (model X.prog X.w) X.A (eval (.Name x pos) X.env) Q E s := by
  obtain ⟨mb, h1, h2⟩ := I.mod.blt
  exact Calls.Name_function_global I.ok.kind hg (Calls.loadGlobal_builtin (by rw [I.ok.glob]; exact I.mod.glob.keeps I.bk) hm (by rw [I.ok.blt]; exact h1.keeps I.bk) ((h2 x hn).trans hv) h) hd
/-- a module's constant, a class, a function, as a value -/
theorem pe_glob {x : Str} {v : V} {u : Value} {pos : Pos} (hg : Gl X x) (hm : X.mg x = some u) (r : RelV v u) (hd : (x == ("__debug__" : Str)) = false := by decide) : PE X (.Name x pos) (tC v) :=
  fun _ _ _ H _ I h => ld_glob I hg hm ⟨v, H, I, r, h⟩ hd
theorem pe_bltn {x : Str} {v : V} {u : Value} {pos : Pos} (hg : Gl X x) (hm : X.mg x = none) (hv : bootBuiltins x = some u) (r : RelV v u) (hn : x ≠ "__name__" := by decide) (hd : (x == ("__debug__" : Str)) = false := by decide) : PE X (.Name x pos) (tC v) :=
  fun _ _ _ H _ I h => ld_blt I hg hm hv ⟨v, H, I, r, h⟩ hn hd

/-! ### arithmetic -/
/-- two ints -/
def t2I (ta tb : TE) (k : Int → Int → Hp → Prop) : St → Hp → Prop := fun σ H => ta σ H fun x H1 => tb σ H1 fun y H2 => ∃ i j, x = .int i ∧ y = .int j ∧ k i j H2
def tAdd (ta tb : TE) : TE := fun σ H Q => t2I ta tb (fun i j H2 => Q (.int (i + j)) H2) σ H
def tSub (ta tb : TE) : TE := fun σ H Q => t2I ta tb (fun i j H2 => Q (.int (i - j)) H2) σ H
/-- the left factor below 2^64 -/
def tMul (ta tb : TE) : TE := fun σ H Q => t2I ta tb (fun i j H2 => (-(2 ^ 64) < i ∧ i < 2 ^ 64) ∧ Q (.int (i * j)) H2) σ H
variable {a b : Expr} {ta tb : TE} {pos : Pos}
theorem pe_add (ha : PE X a ta) (hb : PE X b tb) : PE X (.BinOp a .Add b pos) (tAdd ta tb) := by
  intro pins s σ H Q I h
  refine wpAny_BinOp (bin ha hb I h fun v u s2 x y H2 I2 rx ry q => ?_)
  obtain ⟨i, j, rfl, rfl, q⟩ := q
  obtain ⟨t, rfl⟩ := rx
  obtain ⟨t', rfl⟩ := ry
  exact add_int ⟨.int _, H2, I2.tok _, ⟨_, rfl⟩, q⟩
theorem pe_sub (ha : PE X a ta) (hb : PE X b tb) : PE X (.BinOp a .Sub b pos) (tSub ta tb) := by
  intro pins s σ H Q I h
  refine wpAny_BinOp (bin ha hb I h fun v u s2 x y H2 I2 rx ry q => ?_)
  obtain ⟨i, j, rfl, rfl, q⟩ := q
  obtain ⟨t, rfl⟩ := rx
  obtain ⟨t', rfl⟩ := ry
  exact sub_int ⟨.int _, H2, I2.tok _, ⟨_, rfl⟩, q⟩
theorem pe_mul (ha : PE X a ta) (hb : PE X b tb) : PE X (.BinOp a .Mult b pos) (tMul ta tb) := by
  intro pins s σ H Q I h
  refine wpAny_BinOp (bin ha hb I h fun v u s2 x y H2 I2 rx ry q => ?_)
  obtain ⟨i, j, rfl, rfl, ⟨q1, q2⟩, q⟩ := q
  obtain ⟨t, rfl⟩ := rx
  obtain ⟨t', rfl⟩ := ry
  exact mul_int ⟨.int _, H2, I2.tok _, ⟨_, rfl⟩, q⟩ (.of_left (intBits_le_64 q1 q2))

/-! ### comparisons -/
def PC (X : Cx) (op : CmpOp) (a b : Expr) (t : TE) : Prop :=
  ∀ (pins : List (Addr × Obj)) (s : Shared) (σ : St) (H : Hp) (Q : VK), Inv X pins σ H s → t σ H Q →
    wpAny (model X.prog X.w) X.A (eval a X.env) (fun v s₁ => wpAny (model X.prog X.w) X.A (eval b X.env) (fun u s₂ => wpAny (model X.prog X.w) X.A (compareOp op v u) (EP X pins σ Q) X.xe s₂) X.xe s₁) X.xe s
theorem nobehind (b : Expr) {op : CmpOp} (h : op ≠ .In) (h2 : op ≠ .NotIn) : behindInMarks op b = false := by
  have e1 : (op == CmpOp.In) = false := by cases op <;> first | rfl | exact absurd rfl h
  have e2 : (op == CmpOp.NotIn) = false := by cases op <;> first | rfl | exact absurd rfl h2
  cases b <;> simp [behindInMarks, e1, e2]
def tCmp (p : Int → Int → Bool) (ta tb : TE) : TE := fun σ H Q => t2I ta tb (fun i j H2 => Q (.bl (p i j)) H2) σ H
abbrev tLt : TE → TE → TE := tCmp fun i j => decide (i < j)
abbrev tLe : TE → TE → TE := tCmp fun i j => decide (i ≤ j)
abbrev tGt : TE → TE → TE := tCmp fun i j => decide (j < i)
abbrev tGe : TE → TE → TE := tCmp fun i j => decide (j ≤ i)
abbrev tEqI : TE → TE → TE := tCmp fun i j => decide (i = j)
abbrev tNeI : TE → TE → TE := tCmp fun i j => !decide (i = j)
/-- a comparison of two ints, by its rule -/
theorem pc_int {op : CmpOp} {p : Int → Int → Bool} (ha : PE X a ta) (hb : PE X b tb)
    (rule : ∀ (i j : Int) (t u : Tok) (Q : Value → Shared → Prop) (s : Shared), Q (.bool (p i j)) s → wpAny (model X.prog X.w) X.A (compareOp op (.int i t) (.int j u)) Q X.xe s) : PC X op a b (tCmp p ta tb) := by
  intro pins s σ H Q I h
  refine bin ha hb I h fun v u s2 x y H2 I2 rx ry q => ?_
  obtain ⟨i, j, rfl, rfl, q⟩ := q
  obtain ⟨t, rfl⟩ := rx
  obtain ⟨t', rfl⟩ := ry
  exact rule i j t t' _ s2 ⟨.bl _, H2, I2, rfl, q⟩
theorem pc_lt (ha : PE X a ta) (hb : PE X b tb) : PC X .Lt a b (tLt ta tb) := pc_int ha hb fun _ _ _ _ _ _ h => lt_int h
theorem pc_le (ha : PE X a ta) (hb : PE X b tb) : PC X .LtE a b (tLe ta tb) := pc_int ha hb fun _ _ _ _ _ _ h => le_int h
theorem pc_gt (ha : PE X a ta) (hb : PE X b tb) : PC X .Gt a b (tGt ta tb) := pc_int ha hb fun _ _ _ _ _ _ h => gt_int h
theorem pc_ge (ha : PE X a ta) (hb : PE X b tb) : PC X .GtE a b (tGe ta tb) := pc_int ha hb fun _ _ _ _ _ _ h => ge_int h
theorem pc_eqI (ha : PE X a ta) (hb : PE X b tb) : PC X .Eq a b (tEqI ta tb) := pc_int ha hb fun _ _ _ _ _ _ h => eq_int (by rw [Bool.beq_eq_decide_eq]; exact h)
theorem pc_neI (ha : PE X a ta) (hb : PE X b tb) : PC X .NotEq a b (tNeI ta tb) := pc_int ha hb fun _ _ _ _ _ _ h => ne_int (by rw [bne, Bool.beq_eq_decide_eq]; exact h)
/-- is None -/
def tIsN (ta : TE) : TE := fun σ H Q => ta σ H fun x H1 => Q (.bl (decide (x = .non))) H1
def tNotN (ta : TE) : TE := fun σ H Q => ta σ H fun x H1 => Q (.bl (!decide (x = .non))) H1
theorem RelV.none_iff {x : V} {v : Value} (r : RelV x v) : (v == Value.none) = decide (x = .non) := by
  cases x with
  | non => cases r; rfl
  | bl _ => cases r; rfl
  | int _ => obtain ⟨t, rfl⟩ := r; rfl
  | str _ => obtain ⟨t, rfl⟩ := r; rfl
  | byt _ => obtain ⟨t, rfl⟩ := r; rfl
  | flt _ => obtain ⟨t, rfl⟩ := r; rfl
  | ref _ => cases r; rfl
  | ty _ => cases r; rfl
theorem pc_isN {j pos'} (ha : PE X a ta) : PC X .Is a (.Constant .none j pos') (tIsN ta) := by
  intro pins s σ H Q I h
  refine thn (ha pins s σ H _ I h) fun v s1 ⟨x, H1, I1, r1, q1⟩ => ?_
  exact Constant_none (is_none_gen ⟨.bl _, H1, I1, by rw [r1.none_iff]; rfl, q1⟩)
theorem pc_notN {j pos'} (ha : PE X a ta) : PC X .IsNot a (.Constant .none j pos') (tNotN ta) := by
  intro pins s σ H Q I h
  refine thn (ha pins s σ H _ I h) fun v s1 ⟨x, H1, I1, r1, q1⟩ => ?_
  exact Constant_none (isnot_none_gen ⟨.bl _, H1, I1, by rw [r1.none_iff]; rfl, q1⟩)
/-- a comparison as a value, as a test -/
def tB (t : TE) : TT := fun σ H Q => t σ H fun x H1 => ∃ c, x = .bl c ∧ Q c H1
theorem pe_cmp {op : CmpOp} {t : TE} (h : PC X op a b t) (h1 : behindInMarks op b = false := by first | exact nobehind _ (by decide) (by decide) | rfl) : PE X (.Compare a [op] [b] pos) t := fun pins s σ H Q I hw => wpAny_Compare1 (h pins s σ H Q I hw) h1
theorem pt_cmp {op : CmpOp} {t : TE} (h : PC X op a b t) (h1 : behindInMarks op b = false := by first | exact nobehind _ (by decide) (by decide) | rfl) : PT X (.Compare a [op] [b] pos) (tB t) := by
  intro pins s σ H Q I hw
  refine wpAny_isTrue_Compare1 (thn (h pins s σ H _ I hw) fun v s1 h1 => thn h1 fun u s2 h2 => thn h2 fun c s3 ⟨x, H1, I1, r1, q1⟩ => ?_) h1
  obtain ⟨d, rfl, q⟩ := q1
  cases r1
  exact wpAny_truthy_bool ⟨H1, I1, q⟩
/-- an expression whose value is a bool, as a test -/
theorem pt_val {e : Expr} {t : TE} (h : PE X e t) (he : ∀ whole, isTrue e X.env whole = (do let v ← whole; standAt e.pos; holding [v] (truthy v)) := by intro _; rfl) : PT X e (tB t) := by
  intro pins s σ H Q I hw
  refine isTrue_plain (thn (h pins s σ H _ I hw) fun v s1 ⟨x, H1, I1, r1, q1⟩ => ?_) (he _)
  obtain ⟨d, rfl, q⟩ := q1
  cases r1
  exact wpAny_truthy_bool ⟨H1, I1, q⟩

/-! ### and, or, not -/
variable {tA tB' : TT} {rest : List Expr}
def tAnd (t u : TT) : TT := fun σ H Q => t σ H fun c H1 => if c = true then u σ H1 Q else Q false H1
def tOr (t u : TT) : TT := fun σ H Q => t σ H fun c H1 => if c = true then Q true H1 else u σ H1 Q
def tNot (t : TT) : TT := fun σ H Q => t σ H fun c H1 => Q (!c) H1
theorem pw_and1 (ha : PT X a tA) : PW X (.BoolOp .And [a] pos) tA := by
  intro wh pins s σ H Q I h
  refine isTrue_and (thn (ha pins s σ H Q I h) fun c s1 e => ?_)
  cases c with
  | true => exact isTrue_and_nil e
  | false => exact e
theorem pw_or1 (ha : PT X a tA) : PW X (.BoolOp .Or [a] pos) tA := by
  intro wh pins s σ H Q I h
  refine isTrue_or (thn (ha pins s σ H Q I h) fun c s1 e => ?_)
  cases c with
  | false => exact isTrue_or_nil e
  | true => exact e
theorem pw_and (ha : PT X a tA) (hb : PW X (.BoolOp .And (b :: rest) pos) tB') : PW X (.BoolOp .And (a :: b :: rest) pos) (tAnd tA tB') := by
  intro wh pins s σ H Q I h
  refine isTrue_and (thn (ha pins s σ H _ I h) fun c s1 ⟨H1, I1, q1⟩ => ?_)
  cases c with
  | true => exact hb wh pins s1 σ H1 Q I1 q1
  | false => exact ⟨H1, I1, q1⟩
theorem pw_or (ha : PT X a tA) (hb : PW X (.BoolOp .Or (b :: rest) pos) tB') : PW X (.BoolOp .Or (a :: b :: rest) pos) (tOr tA tB') := by
  intro wh pins s σ H Q I h
  refine isTrue_or (thn (ha pins s σ H _ I h) fun c s1 ⟨H1, I1, q1⟩ => ?_)
  cases c with
  | true => exact ⟨H1, I1, q1⟩
  | false => exact hb wh pins s1 σ H1 Q I1 q1
theorem pt_not (ha : PT X a tA) : PT X (.UnaryOp .Not a pos) (tNot tA) := by
  intro pins s σ H Q I h
  exact isTrue_not (ha pins s σ H (fun c H1 => Q (!c) H1) I h)
/-- .. as values (bools) -/
def tAndV (ta tb : TE) : TE := fun σ H Q => ta σ H fun x H1 => ∃ c, x = .bl c ∧ if c = true then tb σ H1 Q else Q (.bl false) H1
def tOrV (ta tb : TE) : TE := fun σ H Q => ta σ H fun x H1 => ∃ c, x = .bl c ∧ if c = true then Q (.bl true) H1 else tb σ H1 Q
def tNotV (ta : TE) : TE := fun σ H Q => ta σ H fun x H1 => ∃ c, x = .bl c ∧ Q (.bl (!c)) H1
theorem pe_one {op} {t : TE} (h : PE X a t) : PE X (.BoolOp op [a] pos) t := fun pins s σ H Q I hw => BoolOp_one (h pins s σ H Q I hw)
theorem pe_and (ha : PE X a ta) (hb : PE X (.BoolOp .And (b :: rest) pos) tb) : PE X (.BoolOp .And (a :: b :: rest) pos) (tAndV ta tb) := by
  intro pins s σ H Q I h
  refine BoolOp_and (thn (ha pins s σ H _ I h) fun v s1 ⟨x, H1, I1, r1, q1⟩ => ?_)
  obtain ⟨c, rfl, q1⟩ := q1
  cases r1
  refine wpAny_truthy_bool ?_
  cases c with
  | true => exact hb pins s1 σ H1 Q I1 q1
  | false => exact ⟨.bl false, H1, I1, rfl, q1⟩
theorem pe_or (ha : PE X a ta) (hb : PE X (.BoolOp .Or (b :: rest) pos) tb) : PE X (.BoolOp .Or (a :: b :: rest) pos) (tOrV ta tb) := by
  intro pins s σ H Q I h
  refine BoolOp_or (thn (ha pins s σ H _ I h) fun v s1 ⟨x, H1, I1, r1, q1⟩ => ?_)
  obtain ⟨c, rfl, q1⟩ := q1
  cases r1
  refine wpAny_truthy_bool ?_
  cases c with
  | false => exact hb pins s1 σ H1 Q I1 q1
  | true => exact ⟨.bl true, H1, I1, rfl, q1⟩
theorem pe_not (ha : PE X a ta) : PE X (.UnaryOp .Not a pos) (tNotV ta) := by
  intro pins s σ H Q I h
  refine UnaryOp_ (thn (ha pins s σ H _ I h) fun v s1 ⟨x, H1, I1, r1, q1⟩ => ?_)
  obtain ⟨c, rfl, q1⟩ := q1
  cases r1
  exact not_of (wpAny_truthy_bool ⟨.bl (!c), H1, I1, rfl, q1⟩)
/-- a if t else b -/
def tIf (t : TT) (ta tb : TE) : TE := fun σ H Q => t σ H fun c H1 => if c = true then ta σ H1 Q else tb σ H1 Q
theorem pe_ifExp {c : Expr} (hc : PT X c tA) (ha : PE X a ta) (hb : PE X b tb) : PE X (.IfExp c a b pos) (tIf tA ta tb) := by
  intro pins s σ H Q I h
  refine wpAny_IfExp (thn (hc pins s σ H _ I h) fun d s1 ⟨H1, I1, q1⟩ => ?_)
  cases d with
  | true => exact ha pins s1 σ H1 Q I1 q1
  | false => exact hb pins s1 σ H1 Q I1 q1
end
end L2

namespace L2
open PySem PySem.Spec PyProof.Rows

/-! ### a list, a tuple that is read: tracked, frozen, or an object of the module -/
def SqL (K : PySem.W.Frag) (H : Hp) (a : Addr) (xs : List V) : Prop :=
  Rd H a (.lst xs) ∨
    ∃ (o : Obj) (its : Array Value) (n : Nat), K.lookup a = some o ∧ o.cls = .type "list" ∧ o.dict = none ∧ o.data = .seq its n ∧ its.size ≤ sizeLine ∧ Vals xs its.toList
def SqT (K : PySem.W.Frag) (H : Hp) (a : Addr) (xs : List V) : Prop :=
  Rd H a (.tup xs) ∨
    ∃ (o : Obj) (its : Array Value) (n : Nat), K.lookup a = some o ∧ o.cls = .type "tuple" ∧ o.data = .seq its n ∧ its.size ≤ sizeLine ∧ Vals xs its.toList
def absV : Value → Option V
  | .none => some .non
  | .bool b => some (.bl b)
  | .int i _ => some (.int i)
  | .str x _ => some (.str x)
  | .bytes b _ => some (.byt b)
  | .float b _ => some (.flt b)
  | .ref a => some (.ref a)
  | .type n => some (.ty n)
  | _ => none
theorem RelV.abs {x : V} {u : Value} (r : RelV x u) : absV u = some x := by
  cases x with
  | non => cases r; rfl
  | bl _ => cases r; rfl
  | int _ => obtain ⟨t, rfl⟩ := r; rfl
  | str _ => obtain ⟨t, rfl⟩ := r; rfl
  | byt _ => obtain ⟨t, rfl⟩ := r; rfl
  | flt _ => obtain ⟨t, rfl⟩ := r; rfl
  | ref _ => cases r; rfl
  | ty _ => cases r; rfl
theorem RelV.inj {x y : V} {u : Value} (r : RelV x u) (q : RelV y u) : x = y := Option.some.inj (r.abs.symm.trans q.abs)
theorem Vals.inj : ∀ {xs ys : List V} {us : List Value}, Vals xs us → Vals ys us → xs = ys
  | _, _, _, .nil, .nil => rfl
  | _, _, _, .cons r t, .cons r' t' => by rw [r.inj r', Vals.inj t t']
section
variable {X : Cx} {pins : List (Addr × Obj)} {σ : St} {H : Hp} {s : Shared} {a : Addr} {xs ys : List V}
theorem SqL.of {K : PySem.W.Frag} (h : H a = some (.lst xs)) : SqL K H a xs := .inl (.inl h)
theorem SqT.of {K : PySem.W.Frag} (h : H a = some (.tup xs)) : SqT K H a xs := .inl (.inl h)
theorem Inv.list (I : Inv X pins σ H s) (h : SqL X.K H a xs) : ∃ its : List Value, Vals xs its ∧ PlainL s.heap a its.toArray ∧ xs.length ≤ sizeLine := by
  rcases h with h | ⟨o, its, n, hk, hc, hd, hs, hz, r⟩
  · obtain ⟨z, its, n, r, e⟩ := h.ok I.hok
    exact ⟨its, r, ⟨_, n, e, rfl, rfl, rfl⟩, z⟩
  · refine ⟨its.toList, r, ⟨o, n, I.kIn a o hk, hc, hd, by simpa using hs⟩, ?_⟩
    have e := r.length
    simp only [Array.length_toList] at e
    omega
theorem Inv.tuple (I : Inv X pins σ H s) (h : SqT X.K H a xs) : ∃ its : List Value, Vals xs its ∧ IsTup s.heap a its.toArray ∧ xs.length ≤ sizeLine := by
  rcases h with h | ⟨o, its, n, hk, hc, hs, hz, r⟩
  · obtain ⟨z, its, r, p⟩ := h.ok I.hok
    exact ⟨its, r, p, z⟩
  · refine ⟨its.toList, r, ⟨o, I.kIn a o hk, hc, n, by simpa using hs⟩, ?_⟩
    have e := r.length
    simp only [Array.length_toList] at e
    omega
theorem Inv.list_inj (I : Inv X pins σ H s) (h : SqL X.K H a xs) (h' : SqL X.K H a ys) : xs = ys := by
  obtain ⟨its, r, ⟨o, n, e, _, _, d⟩, _⟩ := I.list h
  obtain ⟨its', r', ⟨o', n', e', _, _, d'⟩, _⟩ := I.list h'
  rw [e] at e'; cases e'
  rw [d] at d'
  injection d' with d1 _
  have : its = its' := by simpa using congrArg Array.toList d1
  subst this
  exact r.inj r'
theorem Inv.tuple_inj (I : Inv X pins σ H s) (h : SqT X.K H a xs) (h' : SqT X.K H a ys) : xs = ys := by
  obtain ⟨its, r, ⟨o, e, _, n, d⟩, _⟩ := I.tuple h
  obtain ⟨its', r', ⟨o', e', _, n', d'⟩, _⟩ := I.tuple h'
  rw [e] at e'; cases e'
  rw [d] at d'
  injection d' with d1 _
  have : its = its' := by simpa using congrArg Array.toList d1
  subst this
  exact r.inj r'
end

/-! ### another wish about exceptions -/
abbrev Cx.wish (X : Cx) (E : Value → Shared → Prop) : Cx := { X with xe := E }
/-- no exception leaves -/
abbrev Cx.nox (X : Cx) : Cx := X.wish fun _ _ => False
theorem Cx.Ok.wish {X : Cx} (ok : X.Ok) (E : Value → Shared → Prop) : (X.wish E).Ok :=
  ⟨ok.mod, ok.kind, ok.glob, ok.blt, ok.above, ok.inj, ok.has, ok.cab, ok.hd, ok.frames, ok.stk, ok.exf, ok.bs, ok.bsz, ok.noex, ok.exfs, ok.funs, ok.frf⟩
theorem Cx.Ok.unwish {X : Cx} {E : Value → Shared → Prop} (ok : (X.wish E).Ok) : X.Ok :=
  ⟨ok.mod, ok.kind, ok.glob, ok.blt, ok.above, ok.inj, ok.has, ok.cab, ok.hd, ok.frames, ok.stk, ok.exf, ok.bs, ok.bsz, ok.noex, ok.exfs, ok.funs, ok.frf⟩
section
variable {X : Cx} {pins : List (Addr × Obj)} {σ : St} {H : Hp} {s : Shared} {E : Value → Shared → Prop}
theorem Inv.wish (I : Inv X pins σ H s) (E : Value → Shared → Prop) : Inv (X.wish E) pins σ H s := ⟨I.ok.wish E, I.os, I.bare, I.base, I.loc, I.cell, I.free, I.freeC, I.pin, I.hok, I.len⟩
theorem Inv.unwish (I : Inv (X.wish E) pins σ H s) : Inv X pins σ H s := ⟨I.ok.unwish, I.os, I.bare, I.base, I.loc, I.cell, I.free, I.freeC, I.pin, I.hok, I.len⟩
theorem SP.unwish {D : Ends} {f : Flow} {s' : Shared} (h : SP (X.wish E) pins D f s') : SP X pins D f s' := by
  cases f with
  | next => obtain ⟨σ', H', I, q⟩ := h; exact ⟨σ', H', I.unwish, q⟩
  | brk => obtain ⟨σ', H', I, q⟩ := h; exact ⟨σ', H', I.unwish, q⟩
  | cont => obtain ⟨σ', H', I, q⟩ := h; exact ⟨σ', H', I.unwish, q⟩
  | ret u => obtain ⟨v, σ', H', I, r, q⟩ := h; exact ⟨v, σ', H', I.unwish, r, q⟩
theorem PE.nox {e : Expr} {t : TE} (h : PE X.nox e t) : PE X e t := fun pins s σ H Q I hw =>
  wpAny_mono (h pins s σ H Q (I.wish _) hw) (fun _ _ ⟨v, H', I', r, q⟩ => ⟨v, H', I'.unwish, r, q⟩) fun _ _ z => False.elim z
theorem PT.nox {e : Expr} {t : TT} (h : PT X.nox e t) : PT X e t := fun pins s σ H Q I hw =>
  wpAny_mono (h pins s σ H Q (I.wish _) hw) (fun _ _ ⟨H', I', q⟩ => ⟨H', I'.unwish, q⟩) fun _ _ z => False.elim z
theorem PSs.nox {st : List Stmt} {t : TS} (h : PSs X.nox st t) : PSs X st t := fun pins s σ H D I hw =>
  wpAny_mono (h pins s σ H D (I.wish _) hw) (fun _ _ q => q.unwish) fun _ _ z => False.elim z
end

/-! ### blocks and small statements -/
section
variable {X : Cx} {st : Stmt} {rest : List Stmt} {t u : TS} {e : Expr} {te : TE} {pos : Pos}
def tNext : TS := fun D σ H => D.nx σ H
def tSeq (t u : TS) : TS := fun D σ H => t { D with nx := u D } σ H
theorem pss_nil : PSs X [] tNext := fun _ _ σ H _ I h => wpAny_execs_nil ⟨σ, H, I, h⟩
theorem pss_cons (h1 : PS X st t) (h2 : PSs X rest u) : PSs X (st :: rest) (tSeq t u) := by
  intro pins s σ H D I h
  refine wpAny_execs_cons (thn (h1 pins s σ H { D with nx := u D } I h) fun f s1 q => ?_)
  cases f with
  | next =>
    obtain ⟨σ', H', I', q⟩ := q
    exact h2 pins s1 σ' H' D I' q
  | ret v => exact q
  | brk => exact q
  | cont => exact q
theorem pss_one (h1 : PS X st t) : PSs X [st] t := by
  intro pins s σ H D I h
  refine wpAny_execs_cons (thn (h1 pins s σ H D I h) fun f s1 q => ?_)
  cases f with
  | next => exact wpAny_execs_nil q
  | ret v => exact q
  | brk => exact q
  | cont => exact q
def tBreak : TS := fun D σ H => D.bk σ H
def tCont : TS := fun D σ H => D.ct σ H
theorem ps_pass : PS X (.Pass pos) tNext := fun _ _ σ H _ I h => wpAny_Pass ⟨σ, H, I, h⟩
theorem ps_break : PS X (.Break pos) tBreak := fun _ _ σ H _ I h => wpAny_Break ⟨σ, H, I, h⟩
theorem ps_continue : PS X (.Continue pos) tCont := fun _ _ σ H _ I h => wpAny_Continue ⟨σ, H, I, h⟩
/-- in a def's body nothing is shown -/
theorem Inv.quiet {pins : List (Addr × Obj)} {σ : St} {H : Hp} {s : Shared} (I : Inv X pins σ H s) : interactive X.env = false := by simp [interactive, I.ok.kind]
/-- a docstring -/
theorem ps_doc {x j pos pos'} : PS X (.Expr (.Constant (.str x) j pos) pos') tNext := fun _ s σ H _ I h => wpAny_Expr (Calls.Constant_str (show SP X _ _ .next { s with toks := s.toks + 1 } from ⟨σ, H, I.tok _, h⟩)) I.quiet
/-- an expression whose value is dropped -/
def tDrop (te : TE) : TS := fun D σ H => te σ H fun _ H1 => D.nx σ H1
theorem ps_expr (he : PE X e te) (hs : swapsWith e none pos.line X.env = pure false := by rfl) : PS X (.Expr e pos) (tDrop te) := by
  intro pins s σ H D I h
  exact wpAny_Expr_any (thn (he pins s σ H _ I h) fun v s1 ⟨x, H1, I1, r1, q1⟩ => ⟨σ, H1, I1, q1⟩) I.quiet hs
def tRet (te : TE) : TS := fun D σ H => te σ H D.rt
theorem ps_ret (he : PE X e te) : PS X (.Return (some e) pos) (tRet te) := by
  intro pins s σ H D I h
  exact wpAny_Return_some (thn (he pins s σ H _ I h) fun v s1 ⟨x, H1, I1, r1, q1⟩ => ⟨x, σ, H1, I1, r1, q1⟩)
def tRetN : TS := fun D _ H => D.rt .non H
theorem ps_retN : PS X (.Return none pos) tRetN := fun _ _ σ H _ I h => wpAny_Return_none ⟨.non, σ, H, I, rfl, h⟩
def tIfS (c : TT) (t u : TS) : TS := fun D σ H => c σ H fun b H1 => if b = true then t D σ H1 else u D σ H1
theorem ps_if {c : Expr} {a b : List Stmt} {tc : TT} (hc : PT X c tc) (ha : PSs X a t) (hb : PSs X b u) : PS X (.If c a b pos) (tIfS tc t u) := by
  intro pins s σ H D I h
  refine wpAny_If (thn (hc pins s σ H _ I h) fun d s1 ⟨H1, I1, q1⟩ => ?_)
  cases d with
  | true => exact ha pins s1 σ H1 D I1 q1
  | false => exact hb pins s1 σ H1 D I1 q1
/-- code that the proof never comes to -/
def tNever : TS := fun _ _ _ => False
theorem ps_never : PS X st tNever := fun _ _ _ _ _ _ h => h.elim
theorem pss_never {sts : List Stmt} : PSs X sts tNever := fun _ _ _ _ _ _ h => h.elim
end

/-! ### targets -/
abbrev TG := V → St → Hp → (St → Hp → Prop) → Prop
abbrev TGs := List V → St → Hp → (St → Hp → Prop) → Prop
def PG (X : Cx) (target : Expr) (t : TG) : Prop :=
  ∀ (pins : List (Addr × Obj)) (s : Shared) (σ : St) (H : Hp) (v : V) (u : Value) (Q : St → Hp → Prop), Inv X pins σ H s → RelV v u → t v σ H Q →
    wpAny (model X.prog X.w) X.A (assign target X.env u) (fun _ s' => ∃ σ' H', Inv X pins σ' H' s' ∧ Q σ' H') X.xe s
/-- several targets, one after another -/
def PGs (X : Cx) (ts : List Expr) (t : TGs) : Prop :=
  ∀ (pins : List (Addr × Obj)) (s : Shared) (σ : St) (H : Hp) (vs : List V) (us : List Value) (Q : St → Hp → Prop), Inv X pins σ H s → Vals vs us → t vs σ H Q →
    wpAny (model X.prog X.w) X.A (assignInOrder ((assignEach ts X.env).map (·.2)) us) (fun _ s' => ∃ σ' H', Inv X pins σ' H' s' ∧ Q σ' H') X.xe s
/-- o[i] = v, by values -/
abbrev TSet := V → V → V → Hp → (Hp → Prop) → Prop
def PSet (X : Cx) (t : TSet) : Prop :=
  ∀ (pins : List (Addr × Obj)) (s : Shared) (σ : St) (H : Hp) (o i v : V) (ov iv u : Value) (Q : Hp → Prop), Inv X pins σ H s → RelV o ov → RelV i iv → RelV v u → t o i v H Q →
    wpAny (model X.prog X.w) X.A (setItem ov iv u) (fun _ s' => ∃ H', Inv X pins σ H' s' ∧ Q H') X.xe s
/-- a op= b, by values -/
abbrev TIp := V → V → Hp → VK → Prop
def PIp (X : Cx) (op : Operator) (t : TIp) : Prop :=
  ∀ (pins : List (Addr × Obj)) (s : Shared) (σ : St) (H : Hp) (x y : V) (v u : Value) (Q : VK), Inv X pins σ H s → RelV x v → RelV y u → t x y H Q →
    wpAny (model X.prog X.w) X.A (inplaceOp op v u) (EP X pins σ Q) X.xe s
section
variable {X : Cx} {pos : Pos}
def gName (i : Nat) : TG := fun v σ H Q => Q (σ.set i (some v)) H
theorem pg_name {i : Nat} {x : Str} (hN : X.N.Nodup) (hi : X.N[i]? = some x) (hx : Loc X.env.scope x) (hf : X.fn x = true ∨ X.env.scope.names.lookup x = some .local := by first | exact .inl rfl | exact .inr rfl | assumption) : PG X (.Name x pos) (gName i) := by
  intro pins s σ H v u Q I r h
  exact wpAny_assign_Name (store_ok I hN hi hx r (fun s' I' => ⟨_, H, I', h⟩) hf)
def gNil : TGs := fun vs σ H Q => vs = [] ∧ Q σ H
def gCons (t : TG) (u : TGs) : TGs := fun vs σ H Q => ∃ v r, vs = v :: r ∧ t v σ H fun σ' H' => u r σ' H' Q
theorem pgs_nil : PGs X [] gNil := by
  intro pins s σ H vs us Q I r h
  obtain ⟨e, h⟩ := h
  subst e
  cases r
  exact assignInOrder_nil ⟨σ, H, I, h⟩
theorem pgs_cons {e : Expr} {es : List Expr} {t : TG} {u : TGs} (h1 : PG X e t) (h2 : PGs X es u)
    (hs : (assignEach (e :: es) X.env).map (·.2) = assign e X.env :: (assignEach es X.env).map (·.2) := by rfl) : PGs X (e :: es) (gCons t u) := by
  intro pins s σ H vs us Q I r h
  obtain ⟨v, vr, e1, h⟩ := h
  subst e1
  cases r with
  | cons r rr =>
    rw [hs]
    refine assignInOrder_cons (thn (h1 pins s σ H _ _ _ I r h) fun _ s1 ⟨σ1, H1, I1, q1⟩ => ?_)
    exact h2 pins s1 σ1 H1 _ _ Q I1 rr q1
/-- (a, b, ..) = a tuple of that length -/
def gTup (K : PySem.W.Frag) (n : Nat) (t : TGs) : TG := fun v σ H Q => ∃ a xs, v = .ref a ∧ SqT K H a xs ∧ xs.length = n ∧ t xs σ H Q
theorem pg_tup {es : List Expr} {k : Nat} {t : TGs} {n : Nat} (hc : X.calm = true) (h : PGs X es t)
    (hn : (assignEach es X.env).length = n := by rfl) (hst : (assignEach es X.env).findIdx? (·.1) = none := by rfl) : PG X (.Tuple es k pos) (gTup X.K n t) := by
  intro pins s σ H v u Q I r hw
  obtain ⟨a, xs, e1, hq, hl, hw⟩ := hw
  subst e1
  cases r
  obtain ⟨its, rv, ht, hz⟩ := I.tuple hq
  refine assign_Tuple_tuple (I.ok.hd hc) ht (by simp [hn, ← hl, rv.length]) hst fun h' hx => ?_
  have I1 : Inv X pins σ H { s with heap := h' } := I.kept (t' := s.toks) fun b o e => hx b o (Nat.ne_of_lt (Heap.lt_size e)) e
  exact h pins _ σ H xs _ Q I1 (by simpa using rv) hw
/-- o[i] = .. -/
def gSub (to ti : TE) (t : TSet) : TG := fun v σ H Q => to σ H fun o H1 => ti σ H1 fun i H2 => t o i v H2 fun H3 => Q σ H3
theorem pg_sub {o i : Expr} {to ti : TE} {t : TSet} (ho : PE X o to) (hi : PE X i ti) (hs : PSet X t)
    (ha : ∀ v, assign (.Subscript o i pos) X.env v = (do
      let ov ← holding [v] (eval o X.env)
      let iv ← holding [v, ov] (eval i X.env)
      standAt pos
      holding [v, ov, iv] (setItem ov iv v)
      release [v, ov, iv] []) := by intro _; rfl) : PG X (.Subscript o i pos) (gSub to ti t) := by
  intro pins s σ H v u Q I r h
  rw [ha]
  refine wpAny_bind (wpAny_holding (thn (ho pins s σ H _ I h) fun ov s1 ⟨x, H1, I1, r1, q1⟩ => ?_))
  refine wpAny_bind (wpAny_holding (thn (hi pins s1 σ H1 _ I1 q1) fun iv s2 ⟨y, H2, I2, r2, q2⟩ => ?_))
  refine wpAny_bind (wpAny_standAt (wpAny_bind (wpAny_holding (thn (hs pins s2 σ H2 x y v ov iv u _ I2 r1 r2 r q2) fun _ s3 ⟨H3, I3, q3⟩ => ?_))))
  exact wpAny_release ⟨σ, H3, I3, q3⟩
/-- target = value -/
def tAsg (te : TE) (g : TG) : TS := fun D σ H => te σ H fun x H1 => g x σ H1 D.nx
theorem ps_asg {tg e : Expr} {te : TE} {g : TG} (he : PE X e te) (hg : PG X tg g) (hs : swapsWithSole [tg] e pos.line X.env = pure false := by rfl) (hw : swappedStores [tg] e X.env = pure none := by rfl)
    (h1 : (assignEach [tg] X.env).map (·.2) = [assign tg X.env] := by rfl) : PS X (.Assign [tg] e pos) (tAsg te g) := by
  intro pins s σ H D I h
  refine wpAny_Assign_stores (thn (he pins s σ H _ I h) fun v s1 ⟨x, H1, I1, r1, q1⟩ => ?_) hs hw
  rw [h1]
  exact thn (hg pins s1 σ H1 x v _ I1 r1 q1) fun _ s2 q => q
/-- name = value -/
theorem ps_set {i : Nat} {x : Str} {e : Expr} {te : TE} {pos' : Pos} (hN : X.N.Nodup) (hi : X.N[i]? = some x) (hx : Loc X.env.scope x) (he : PE X e te) (hs : swapsWith e (some (.Name x pos')) pos.line X.env = pure false := by rfl) (hf : X.fn x = true ∨ X.env.scope.names.lookup x = some .local := by first | exact .inl rfl | exact .inr rfl | assumption) :
    PS X (.Assign [.Name x pos'] e pos) (tAsg te (gName i)) := by
  intro pins s σ H D I h
  refine wpAny_Assign_Name (thn (he pins s σ H _ I h) fun v s1 ⟨y, H1, I1, r1, q1⟩ => ?_) hs
  exact store_ok I1 hN hi hx r1 (fun s2 I2 => ⟨_, H1, I2, q1⟩) hf
/-- a, b = x, y with plain local names: stored from the right; the pair itself is not tracked (the opening rows as in PyProof/Rows/TupAssign.lean:23) -/
def tPar (i j : Nat) (ta : TA) : TS := fun D σ H => ta σ H fun vs H1 => ∃ v w, vs = [v, w] ∧ D.nx ((σ.set i (some v)).set j (some w)) H1
theorem ps_par {i j : Nat} {x y : Str} {a b : Expr} {ta : TA} {px py pt : Pos} {kt k2 pt2} (hc : X.calm = true) (hN : X.N.Nodup) (hi : X.N[i]? = some x) (hj : X.N[j]? = some y) (hij : i ≠ j)
    (hx : X.env.scope.names.lookup x = some .local) (hy : X.env.scope.names.lookup y = some .local) (ha : PA X [a, b] ta)
    (hw : swappedStores [.Tuple [.Name x px, .Name y py] kt pt] (.Tuple [a, b] k2 pt2) X.env = pure (some [x, y]))
    (hs : swapsWithSole [.Tuple [.Name x px, .Name y py] kt pt] (.Tuple [a, b] k2 pt2) pos.line X.env = pure false := by rfl) :
    PS X (.Assign [.Tuple [.Name x px, .Name y py] kt pt] (.Tuple [a, b] k2 pt2) pos) (tPar i j ta) := by
  intro pins s σ H D I h
  rw [exec_Assign_arm]
  refine wpAny_bind (wpAny_standAt ?_)
  rw [hs]
  refine wpAny_bind (wpAny_pure ?_)
  rw [if_neg (by decide)]
  refine wpAny_bind (Tuple_ (thn (ha _ pins s σ H _ I h) fun us s1 ⟨vs, H1, I1, r1, q1⟩ => ?_))
  obtain ⟨v, w, e1, q1⟩ := q1
  subst e1
  obtain ⟨u1, u2, rfl, rv, rw'⟩ : ∃ u1 u2, us = [u1, u2] ∧ RelV v u1 ∧ RelV w u2 := by
    cases r1 with
    | cons p q =>
      cases q with
      | cons p' q' =>
        cases q'
        exact ⟨_, _, rfl, p, p'⟩
  refine wpAny_newObj_type ?_ (by show 2 ≤ sizeLine; decide)
  have I2 : Inv X pins σ H1 { s1 with heap := s1.heap.push { cls := .type "tuple", data := .seq [u1, u2].toArray } } := I1.kept (t' := s1.toks) fun b o e => Heap.get?_push_of_some _ e
  rw [hw]
  refine wpAny_bind (wpAny_pure ?_)
  show wpAny (model X.prog X.w) X.A (do rule "assign.swapped-stores"; let items ← unpackItems (.ref s1.heap.objs.size) 2 none; assignInOrder [fun v => bindName X.env y v, fun v => bindName X.env x v] items.reverse; pure Flow.next) _ _ _
  refine wpAny_bind (wpAny_rule (wpAny_bind (unpackItems_tuple (items := #[u1, u2]) (I.ok.hd hc) (IsTup.new s1.heap _) fun h' hx' => ?_)))
  have I3 := I2.kept (h' := h') (t' := s1.toks) fun b o e => hx' b o (Nat.ne_of_lt (Heap.lt_size e)) e
  show wpAny _ _ (assignInOrder [fun v => bindName X.env y v, fun v => bindName X.env x v] [u2, u1] >>= fun _ => pure Flow.next) _ _ _
  refine wpAny_bind (assignInOrder_cons (wpAny_bindName (store_ok I3 hN hj (.inl hy) rw' (fun s2 I4 => ?_) (.inr hy))))
  refine assignInOrder_cons (wpAny_bindName (store_ok I4 hN hi (.inl hx) rv (fun s3 I5 => assignInOrder_nil (wpAny_pure ?_)) (.inr hx)))
  rw [List.set_comm _ _ (Ne.symm hij)] at I5
  exact ⟨_, H1, I5, q1⟩
/-- name op= e -/
def tAug (i : Nat) (te : TE) (ti : TIp) : TS := fun D σ H => ∃ x, σ[i]? = some (some x) ∧ te σ H fun y H1 => ti x y H1 fun z H2 => D.nx (σ.set i (some z)) H2
theorem ps_aug {i : Nat} {x : Str} {e : Expr} {te : TE} {op : Operator} {ti : TIp} {pos' : Pos} (hN : X.N.Nodup) (hi : X.N[i]? = some x) (hx : Loc X.env.scope x) (he : PE X e te) (ho : PIp X op ti) (hf : X.fn x = true ∨ X.env.scope.names.lookup x = some .local := by first | exact .inl rfl | exact .inr rfl | assumption) :
    PS X (.AugAssign (.Name x pos') op e pos) (tAug i te ti) := by
  intro pins s σ H D I h
  obtain ⟨v, e1, h⟩ := h
  obtain ⟨m, hn, hl⟩ := I.loc
  have vis : Vis X.env.scope x := by rcases hx with k | k; exact .inl k; exact .inr (.inl k)
  obtain ⟨u, r, l⟩ := hl i x v hi e1 vis
  refine wpAny_AugAssign_Name ?_
  have go : wpAny (model X.prog X.w) X.A (eval e X.env) (fun w s₂ => wpAny (model X.prog X.w) X.A (inplaceOp op u w) (fun r s₃ => wpAny (model X.prog X.w) X.A (storeName X.env x r) (fun _ => SP X pins D .next) X.xe s₃) X.xe s₂) X.xe s := by
    refine thn (he pins s σ H _ I h) fun w s1 ⟨y, H1, I1, r1, q1⟩ => ?_
    refine thn (ho pins s1 σ H1 v y u w _ I1 r r1 q1) fun z s2 ⟨zv, H2, I2, r2, q2⟩ => ?_
    exact store_ok I2 hN hi hx r2 (fun s3 I3 => ⟨_, H2, I3, q2⟩) hf
  rcases l with ⟨hk, hm⟩ | ⟨hk, c, hc, hcell⟩
  · exact wpAny_loadName_local I.ok.kind hk hn hm go
  · rcases hk with hk | hk
    · exact wpAny_loadName_cell I.ok.kind hk hc hcell go
    · rcases hx with k | k
      · have : X.env.scope.names.lookup x = some .free := hk
        rw [k] at this; cases this
      · have : X.env.scope.names.lookup x = some .free := hk
        rw [k] at this; cases this
/-- o[i] op= e -/
def tAugS (to ti te : TE) (tget : V → V → Hp → VK → Prop) (tip : TIp) (tset : TSet) : TS := fun D σ H => to σ H fun o H1 => ti σ H1 fun i H2 => tget o i H2 fun x H3 => te σ H3 fun y H4 => tip x y H4 fun z H5 => tset o i z H5 fun H6 => D.nx σ H6
/-- o[i], by values -/
def PGet (X : Cx) (t : V → V → Hp → VK → Prop) : Prop :=
  ∀ (pins : List (Addr × Obj)) (s : Shared) (σ : St) (H : Hp) (o i : V) (ov iv : Value) (Q : VK), Inv X pins σ H s → RelV o ov → RelV i iv → t o i H Q →
    wpAny (model X.prog X.w) X.A (getItem ov iv) (EP X pins σ Q) X.xe s
theorem ps_augS {o i e : Expr} {to ti te : TE} {tget : V → V → Hp → VK → Prop} {tip : TIp} {tset : TSet} {op : Operator} {tpos : Pos} (ho : PE X o to) (hi : PE X i ti) (hg : PGet X tget) (he : PE X e te) (hp : PIp X op tip) (hs : PSet X tset)
    (ha : ∀ ov iv new, augStore i ov iv new = (do holding [new, ov, iv] (setItem ov iv new); release [new, ov, iv] []; pure .next) := by intros; rfl) : PS X (.AugAssign (.Subscript o i tpos) op e pos) (tAugS to ti te tget tip tset) := by
  intro pins s σ H D I h
  refine wpAny_AugAssign_SubscriptAny (thn (ho pins s σ H _ I h) fun ov s1 ⟨x1, H1, I1, r1, q1⟩ => ?_) ha
  refine thn (hi pins s1 σ H1 _ I1 q1) fun iv s2 ⟨x2, H2, I2, r2, q2⟩ => ?_
  refine thn (hg pins s2 σ H2 x1 x2 ov iv _ I2 r1 r2 q2) fun old s3 ⟨x3, H3, I3, r3, q3⟩ => ?_
  refine thn (he pins s3 σ H3 _ I3 q3) fun v s4 ⟨x4, H4, I4, r4, q4⟩ => ?_
  refine thn (hp pins s4 σ H4 x3 x4 old v _ I4 r3 r4 q4) fun new s5 ⟨x5, H5, I5, r5, q5⟩ => ?_
  exact thn (hs pins s5 σ H5 x1 x2 x5 ov iv new _ I5 r1 r2 r5 q5) fun _ s6 ⟨H6, I6, q6⟩ => ⟨σ, H6, I6, q6⟩
/-- ints -/
def ipI (f : Int → Int → Int) : TIp := fun x y H Q => ∃ i j, x = .int i ∧ y = .int j ∧ Q (.int (f i j)) H
theorem ip_add : PIp X .Add (ipI fun i j => i + j) := by
  intro pins s σ H x y v u Q I r1 r2 h
  obtain ⟨i, j, e1, e2, q⟩ := h
  subst e1; subst e2
  obtain ⟨t, rfl⟩ := r1
  obtain ⟨t', rfl⟩ := r2
  exact iadd_int ⟨.int _, H, I.tok _, ⟨_, rfl⟩, q⟩
theorem ip_sub : PIp X .Sub (ipI fun i j => i - j) := by
  intro pins s σ H x y v u Q I r1 r2 h
  obtain ⟨i, j, e1, e2, q⟩ := h
  subst e1; subst e2
  obtain ⟨t, rfl⟩ := r1
  obtain ⟨t', rfl⟩ := r2
  exact isub_int ⟨.int _, H, I.tok _, ⟨_, rfl⟩, q⟩
end

/-! ### while -/
section
variable {X : Cx} {pos : Pos}
/-- the invariant W with its measure -/
def tWhile (c : TT) (tb : TS) : TS := fun D σ H => ∃ W : Nat → St → Hp → Prop, (∃ m, W m σ H) ∧ ∀ m σ H, W m σ H →
  c σ H fun b H1 => if b = true then ∃ N : St → Hp → Prop, (∀ σ' H', N σ' H' → ∃ m', m' < m ∧ W m' σ' H') ∧ tb { D with nx := N, ct := N, bk := D.nx } σ H1 else D.nx σ H1
theorem ps_while {c : Expr} {body : List Stmt} {tc : TT} {tb : TS} (hp : PassesOwn (model X.prog X.w) X.A X.env X.xe) (hc : PT X c tc) (hb : PSs X body tb) : PS X (.While c body [] pos) (tWhile tc tb) := by
  intro pins s σ H D I h
  obtain ⟨W, ⟨m0, w0⟩, turn⟩ := h
  refine wpAny_While (codeAny_whileLoop (fun n s' => ∃ σ' H', Inv X pins σ' H' s' ∧ W n σ' H') ?_ m0 ⟨σ, H, I, w0⟩)
  rintro n s1 ⟨σ1, H1, I1, w1⟩
  refine wpAny_passesOwn hp (thn (hc pins s1 σ1 H1 _ I1 (turn n σ1 H1 w1)) fun b s2 ⟨H2, I2, q2⟩ => ?_)
  cases b with
  | true =>
    obtain ⟨N, hN, q2⟩ := q2
    rw [if_pos rfl]
    refine wpAny_passesOwn hp (thn (hb pins s2 σ1 H2 _ I2 q2) fun f s3 q3 => ?_)
    cases f with
    | next =>
      obtain ⟨σ3, H3, I3, n3⟩ := q3
      obtain ⟨m', hm, w3⟩ := hN σ3 H3 n3
      exact ⟨m', hm, σ3, H3, I3, w3⟩
    | cont =>
      obtain ⟨σ3, H3, I3, n3⟩ := q3
      obtain ⟨m', hm, w3⟩ := hN σ3 H3 n3
      exact ⟨m', hm, σ3, H3, I3, w3⟩
    | brk => exact q3
    | ret v => exact q3
  | false =>
    rw [if_neg Bool.false_ne_true]
    exact wpAny_execs_nil ⟨σ1, H2, I2, q2⟩
end

/-! ### what a loop or a comprehension walks -/
/-- at turn i: it yields x (the heap may grow), or it stops -/
structure It where
  go : Nat → Hp → Prop
  yld : Nat → Hp → V → Hp → Prop
  stop : Nat → Hp → Prop
/-- the iterator's own objects may turn: they are not the frame's, not pinned, younger than the entry (or a comprehension's own) -/
def FpOk (X : Cx) (pins : List (Addr × Obj)) (H : Hp) (b : Addr) : Prop :=
  H b = none ∧ b ≠ X.env.locals ∧ b ∉ X.fs ∧ (b ∈ X.ex ∨ X.s₀.heap.objs.size ≤ b) ∧ (∀ x c, X.env.cells.lookup x = some c → c ≠ b) ∧ ∀ p ∈ X.pn ++ pins, p.1 ≠ b
theorem Inv.fpOk {X : Cx} {pins : List (Addr × Obj)} {σ : St} {H H' : Hp} {s : Shared} {b : Addr} (I : Inv X pins σ H s) (hb : s.heap.objs.size ≤ b) (hn : H' b = none) : FpOk X pins H' b := by
  refine ⟨hn, Nat.ne_of_gt (Nat.lt_of_lt_of_le I.lt hb), I.nofs hb, .inr (Nat.le_trans I.sz hb), fun x c e z => ?_, fun p hp z => ?_⟩
  · obtain ⟨v, q⟩ := I.cell x c e
    exact absurd (Nat.lt_of_lt_of_le q.lt (by rw [z]; exact hb)) (Nat.lt_irrefl _)
  · exact absurd (Nat.lt_of_lt_of_le (Heap.lt_size (I.pin p hp).1) (by rw [z]; exact hb)) (Nat.lt_irrefl _)
structure Turn (P : Program) (w : World) (K : PySem.W.Frag) (tg : Expr) (J : It) (fp : List Addr) (it : Addr) (tn : Nat → Heap → Prop) : Prop where
  mem : it ∈ fp
  obj : ∀ i h, tn i h → ∀ b ∈ fp, ∃ o, h.get? b = some o ∧ ∀ v, o.data ≠ .cell v
  keep : ∀ i h h', tn i h → (∀ b ∈ fp, ∀ o, h.get? b = some o → h'.get? b = some o) → tn i h'
  item : ∀ (X : Cx), X.prog = P → X.w = w → X.K = K → X.calm = true → ∀ (i : Nat) (pins : List (Addr × Obj)) (s : Shared) (σ : St) (H : Hp) (E : Value → Shared → Prop), Inv X pins σ H s → (∀ b ∈ fp, FpOk X pins H b) → tn i s.heap → J.go i H →
    wpAny (model P w) X.A (pyNext (.ref it)) (fun r s1 => ∃ u, r = some u ∧
      wpAny (model P w) X.A (letOwnedTupleGo tg (.ref it) u) (fun _ s2 => ∃ x H', Inv X pins σ H' s2 ∧ RelV x u ∧ J.yld i H x H' ∧ tn (i + 1) s2.heap ∧ ∀ b ∈ fp, H' b = none) E s1) E s
  done : ∀ (X : Cx), X.prog = P → X.w = w → X.K = K → X.calm = true → ∀ (i : Nat) (pins : List (Addr × Obj)) (s : Shared) (σ : St) (H : Hp) (E : Value → Shared → Prop), Inv X pins σ H s → (∀ b ∈ fp, FpOk X pins H b) → tn i s.heap → J.stop i H →
    wpAny (model P w) X.A (pyNext (.ref it)) (fun r s1 => r = none ∧ Inv X pins σ H s1) E s
  self : ∀ (A : Around) (i : Nat) (s : Shared) (Q : Value → Shared → Prop) (E : Value → Shared → Prop), tn i s.heap → Q (.ref it) s → wpAny (model P w) A (pyIter (.ref it)) Q E s
abbrev TI := St → Hp → (It → Hp → Prop) → Prop
/-- an iterator has come -/
def PIE (X : Cx) (pins : List (Addr × Obj)) (σ : St) (tg : Expr) (R : It → Hp → Prop) (itv : Value) (s2 : Shared) : Prop :=
  ∃ (it : Addr) (fp : List Addr) (tn : Nat → Heap → Prop) (J : It) (H' : Hp), itv = .ref it ∧ Inv X pins σ H' s2 ∧ Turn X.prog X.w X.K tg J fp it tn ∧ tn 0 s2.heap ∧ (∀ b ∈ fp, FpOk X pins H' b) ∧ R J H'
def PI (X : Cx) (tg iter : Expr) (wi : TI) : Prop :=
  ∀ (pins : List (Addr × Obj)) (s : Shared) (σ : St) (H : Hp) (R : It → Hp → Prop), Inv X pins σ H s → wi σ H R →
    wpAny (model X.prog X.w) X.A (eval iter X.env) (fun v s1 => wpAny (model X.prog X.w) X.A (pyIter v) (PIE X pins σ tg R) X.xe s1) X.xe s

/-- the step ahead of the store is nothing for an iterator that keeps no tuple -/
theorem go_of {M : Model} {A : Around} {E : Value → Shared → Prop} {s : Shared} {tg : Expr} {it : Addr} {u : Value} {o : Obj} {n : String} {vs : Array Value} {Q : Unit → Shared → Prop} (ho : s.heap.get? it = some o) (hc : o.cls = .type n) (hd : o.data = .fields vs)
    (hn : ["enumerate", "zip", "dict_itemiterator", "dict_reverseitemiterator", "odict_iterator", "itertools.zip_longest", "itertools.pairwise"].contains n = false) (hQ : Q () s) : wpAny M A (letOwnedTupleGo tg (.ref it) u) Q E s := by
  unfold letOwnedTupleGo
  cases tg <;> first
    | exact wpAny_pure hQ
    | (cases u <;> first
        | exact wpAny_pure hQ
        | (refine wpAny_bind (wpAny_load ho ?_)
           rw [hc, hd]
           show wpAny M A (if (["enumerate", "zip", "dict_itemiterator", "dict_reverseitemiterator", "odict_iterator", "itertools.zip_longest", "itertools.pairwise"].contains n && vs[0]? == some (rawInt _)) = true then _ else _) Q E s
           rw [if_neg (by intro h; rw [hn, Bool.false_and] at h; cases h)]
           exact wpAny_pure hQ))

/-- the list at a, as it stands at each turn (a loop may append to it) -/
def Itl (K : PySem.W.Frag) (a : Addr) : It :=
  ⟨fun i H => ∃ xs x, SqL K H a xs ∧ xs[i]? = some x, fun i H x H' => H' = H ∧ ∀ xs, SqL K H a xs → xs[i]? = some x, fun i H => ∃ xs, SqL K H a xs ∧ xs.length ≤ i⟩
def Itt (K : PySem.W.Frag) (a : Addr) : It :=
  ⟨fun i H => ∃ xs x, SqT K H a xs ∧ xs[i]? = some x, fun i H x H' => H' = H ∧ ∀ xs, SqT K H a xs → xs[i]? = some x, fun i H => ∃ xs, SqT K H a xs ∧ xs.length ≤ i⟩
/-- lo, lo + 1, .. (n of them) -/
def Itr (lo : Int) (n : Nat) : It := ⟨fun i _ => i < n, fun i H x H' => H' = H ∧ x = .int (lo + i), fun i _ => n ≤ i⟩
theorem turn_list {P : Program} {w : World} {K : PySem.W.Frag} {tg : Expr} (a it : Addr) : Turn P w K tg (Itl K a) [it] it (fun i h => h.IsListIter it a i) where
  mem := by simp
  obj := fun i h st b hb => by
    have e : b = it := by simpa using hb
    subst e
    obtain ⟨o, e, c, d⟩ := st
    exact ⟨o, e, fun v z => by rw [d] at z; cases z⟩
  keep := fun i h h' st k => st.at fun o e => k it (by simp) o e
  item := by
    intro X hP hw hK hc i pins s σ H E I hf st hg
    subst hP hw hK
    obtain ⟨xs, x, hq, hx⟩ := hg
    obtain ⟨its, rv, p, hz⟩ := I.list hq
    obtain ⟨u, hu, ru⟩ := rv.get hx
    obtain ⟨f0, f1, f2, f3, f4, f5⟩ := hf it (by simp)
    refine wpAny_pyNext_list_item st p.isList (x := u) (by simpa using hu) fun h' st' sb => ?_
    have I1 : Inv X pins σ H { s with heap := h' } := I.turned (t' := s.toks) (fun b o hb e => (sb.2 b hb).trans e) f0 f1 f3 f4 f5
    obtain ⟨o, e, c, d⟩ := id st'
    exact ⟨u, rfl, go_of (s := { s with heap := h' }) e c d (by decide) ⟨x, H, I1, ru, ⟨rfl, fun ys hy => by rw [I.list_inj hy hq]; exact hx⟩, st', fun b hb => (hf b hb).1⟩⟩
  done := by
    intro X hP hw hK hc i pins s σ H E I hf st hg
    subst hP hw hK
    obtain ⟨xs, hq, hx⟩ := hg
    obtain ⟨its, rv, p, hz⟩ := I.list hq
    obtain ⟨f0, f1, f2, f3, f4, f5⟩ := hf it (by simp)
    have hl := rv.length
    exact wpAny_pyNext_list_end (I.ok.hd hc) st p.isList (by simp; omega) fun h' eb => ⟨rfl, I.turned (t' := s.toks) (fun b o hb e => eb b o hb e) f0 f1 f3 f4 f5⟩
  self := fun _ _ _ _ _ st h => wpAny_pyIter_listiter st h
theorem turn_tuple {P : Program} {w : World} {K : PySem.W.Frag} {tg : Expr} (a it : Addr) : Turn P w K tg (Itt K a) [it] it (fun i h => h.IsTupleIter it a i) where
  mem := by simp
  obj := fun i h st b hb => by
    have e : b = it := by simpa using hb
    subst e
    obtain ⟨o, e, c, d⟩ := st
    exact ⟨o, e, fun v z => by rw [d] at z; cases z⟩
  keep := fun i h h' st k => st.at fun o e => k it (by simp) o e
  item := by
    intro X hP hw hK hc i pins s σ H E I hf st hg
    subst hP hw hK
    obtain ⟨xs, x, hq, hx⟩ := hg
    obtain ⟨its, rv, p, hz⟩ := I.tuple hq
    obtain ⟨u, hu, ru⟩ := rv.get hx
    obtain ⟨f0, f1, f2, f3, f4, f5⟩ := hf it (by simp)
    refine wpAny_pyNext_tuple_item st (show s.heap.IsTuple a its.toArray from p) (x := u) (by simpa using hu) fun h' st' sb => ?_
    have I1 : Inv X pins σ H { s with heap := h' } := I.turned (t' := s.toks) (fun b o hb e => (sb.2 b hb).trans e) f0 f1 f3 f4 f5
    obtain ⟨o, e, c, d⟩ := id st'
    exact ⟨u, rfl, go_of (s := { s with heap := h' }) e c d (by decide) ⟨x, H, I1, ru, ⟨rfl, fun ys hy => by rw [I.tuple_inj hy hq]; exact hx⟩, st', fun b hb => (hf b hb).1⟩⟩
  done := by
    intro X hP hw hK hc i pins s σ H E I hf st hg
    subst hP hw hK
    obtain ⟨xs, hq, hx⟩ := hg
    obtain ⟨its, rv, p, hz⟩ := I.tuple hq
    obtain ⟨f0, f1, f2, f3, f4, f5⟩ := hf it (by simp)
    have hl := rv.length
    exact wpAny_pyNext_tuple_end (I.ok.hd hc) st (show s.heap.IsTuple a its.toArray from p) (by simp; omega) fun h' eb => ⟨rfl, I.turned (t' := s.toks) (fun b o hb e => eb b o hb e) f0 f1 f3 f4 f5⟩
  self := fun _ _ _ _ _ st h => wpAny_pyIter_tupleiter st h
theorem turn_range {P : Program} {w : World} {K : PySem.W.Frag} {tg : Expr} (it : Addr) (lo : Int) (n : Nat) : Turn P w K tg (Itr lo n) [it] it (fun i h => IsRangeIter h it (lo + (i : Nat) * 1) ((n : Int) - (i : Nat)) 1) where
  mem := by simp
  obj := fun i h st b hb => by
    have e : b = it := by simpa using hb
    subst e
    exact ⟨_, st, fun v z => by
      have z' : Data.fields _ = Data.cell v := z
      cases z'⟩
  keep := fun i h h' st k => k it (by simp) _ st
  item := by
    intro X hP hw hK hc i pins s σ H E I hf st hg
    subst hP hw hK
    obtain ⟨f0, f1, f2, f3, f4, f5⟩ := hf it (by simp)
    have W := Walks.range (prog := X.prog) (w := X.w) (I.ok.hd hc) it lo 1 n
    refine W.item i s _ _ hg st fun v h' tk hv st' kk => ?_
    obtain ⟨t, rfl⟩ := hv
    have I1 : Inv X pins σ H { s with heap := h', toks := tk } := I.turned (fun b o hb e => kk b o (by simpa using hb) e) f0 f1 f3 f4 f5
    refine ⟨_, rfl, go_of (s := { s with heap := h', toks := tk }) (n := "range_iterator") st' rfl rfl (by decide) ⟨.int (lo + i), H, I1, ⟨t, ?_⟩, ⟨rfl, rfl⟩, st', fun b hb => (hf b hb).1⟩⟩
    rw [Int.mul_one]
  done := by
    intro X hP hw hK hc i pins s σ H E I hf st hg
    subst hP hw hK
    obtain ⟨f0, f1, f2, f3, f4, f5⟩ := hf it (by simp)
    exact wpAny_pyNext_range_end (I.ok.hd hc) st (by have : n ≤ i := hg; omega) fun h' eb => ⟨rfl, I.turned (t' := s.toks) (fun b o hb e => eb b o hb e) f0 f1 f3 f4 f5⟩
  self := fun _ _ _ _ _ st h => wpAny_pyIter_rangeiter st h
end L2

namespace L2
open PySem PySem.Spec PyProof.Rows
section
variable {X : Cx} {tg : Expr}
def iList (K : PySem.W.Frag) (tl : TE) : TI := fun σ H R => tl σ H fun x H1 => ∃ a, x = .ref a ∧ (∃ xs, SqL K H1 a xs) ∧ R (Itl K a) H1
def iTup (K : PySem.W.Frag) (tl : TE) : TI := fun σ H R => tl σ H fun x H1 => ∃ a, x = .ref a ∧ (∃ xs, SqT K H1 a xs) ∧ R (Itt K a) H1
theorem pi_list {l : Expr} {tl : TE} (hl : PE X l tl) : PI X tg l (iList X.K tl) := by
  intro pins s σ H R I h
  refine thn (hl pins s σ H _ I h) fun v s1 ⟨x, H1, I1, r1, q1⟩ => ?_
  obtain ⟨a, e, ⟨xs, hq⟩, q⟩ := q1
  subst e
  cases r1
  obtain ⟨its, rv, p, hz⟩ := I1.list hq
  refine wpAny_pyIter_list p.isList ?_
  refine ⟨s1.heap.objs.size, [s1.heap.objs.size], _, _, H1, rfl, I1.kept (t' := s1.toks) fun b o e => Heap.get?_push_of_some _ e, turn_list a _, ⟨_, Heap.get?_push_size _ rfl, rfl, rfl⟩, fun b hb => ?_, q⟩
  have e : b = s1.heap.objs.size := by simpa using hb
  subst e
  exact I1.fpOk (Nat.le_refl _) (I1.hok.fresh (Nat.le_refl _))
theorem pi_tup {l : Expr} {tl : TE} (hl : PE X l tl) : PI X tg l (iTup X.K tl) := by
  intro pins s σ H R I h
  refine thn (hl pins s σ H _ I h) fun v s1 ⟨x, H1, I1, r1, q1⟩ => ?_
  obtain ⟨a, e, ⟨xs, hq⟩, q⟩ := q1
  subst e
  cases r1
  obtain ⟨its, rv, p, hz⟩ := I1.tuple hq
  refine wpAny_pyIter_tuple (show s1.heap.IsTuple a its.toArray from p) ?_
  refine ⟨s1.heap.objs.size, [s1.heap.objs.size], _, _, H1, rfl, I1.kept (t' := s1.toks) fun b o e => Heap.get?_push_of_some _ e, turn_tuple a _, ⟨_, Heap.get?_push_size _ rfl, rfl, rfl⟩, fun b hb => ?_, q⟩
  have e : b = s1.heap.objs.size := by simpa using hb
  subst e
  exact I1.fpOk (Nat.le_refl _) (I1.hok.fresh (Nat.le_refl _))
/-- a range object just made, walked -/
theorem range_it {pins : List (Addr × Obj)} {σ : St} {H : Hp} {s : Shared} {R : It → Hp → Prop} {E : Value → Shared → Prop} {lo hi : Int} {t u v : Tok} {tk : Nat} (I : Inv X pins σ H s) (h1 : -(2 ^ 62) ≤ lo) (h2 : lo < 2 ^ 62) (h3 : -(2 ^ 62) ≤ hi) (h4 : hi < 2 ^ 62)
    (q : R (Itr lo (hi - lo).toNat) H) : wpAny (model X.prog X.w) X.A (pyIter (.ref s.heap.objs.size)) (PIE X pins σ tg R) E { s with heap := s.heap.push { cls := .type "range", data := .fields #[.int lo t, .int hi u, .int 1 v] }, toks := tk } := by
  refine wpAny_pyIter_range (IsRange.new ..) (small_one h1 h2 h3 h4) ?_
  have I1 : Inv X pins σ H { s with heap := s.heap.push { cls := .type "range", data := .fields #[.int lo t, .int hi u, .int 1 v] }, toks := tk } := I.kept fun b o e => Heap.get?_push_of_some _ e
  refine ⟨(s.heap.push { cls := .type "range", data := .fields #[.int lo t, .int hi u, .int 1 v] }).objs.size, [(s.heap.push { cls := .type "range", data := .fields #[.int lo t, .int hi u, .int 1 v] }).objs.size], _, _, H, rfl,
    I1.kept (t' := tk) fun b o e => Heap.get?_push_of_some _ e, turn_range _ lo (hi - lo).toNat, ?_, fun b hb => ?_, q⟩
  · have e1 : lo + ((0 : Nat) : Int) * 1 = lo := by simp
    have e2 : (((hi - lo).toNat : Nat) : Int) - ((0 : Nat) : Int) = Builtin.Range.rangeSize lo hi 1 := by rw [rangeSize_one]; split <;> omega
    show IsRangeIter _ _ (lo + ((0 : Nat) : Int) * 1) ((((hi - lo).toNat : Nat) : Int) - ((0 : Nat) : Int)) 1
    rw [e1, e2]
    exact Heap.get?_push_size _ rfl
  · have e : b = (s.heap.push { cls := .type "range", data := .fields #[.int lo t, .int hi u, .int 1 v] }).objs.size := by simpa using hb
    subst e
    exact I1.fpOk (Nat.le_refl _) (I1.hok.fresh (Nat.le_refl _))
def iRng1 (ta : TA) : TI := fun σ H R => ta σ H fun vs H1 => ∃ j : Int, vs = [.int j] ∧ -(2 ^ 62) ≤ j ∧ j < 2 ^ 62 ∧ R (Itr 0 j.toNat) H1
def iRng2 (ta : TA) : TI := fun σ H R => ta σ H fun vs H1 => ∃ i j : Int, vs = [.int i, .int j] ∧ (-(2 ^ 62) ≤ i ∧ i < 2 ^ 62 ∧ -(2 ^ 62) ≤ j ∧ j < 2 ^ 62) ∧ R (Itr i (j - i).toNat) H1
theorem pi_range1 {a : Expr} {ta : TA} {p pos : Pos} (hg : Gl X "range") (hm : X.mg "range" = none) (ha : PA X [a] ta) (hs : starEach [a] X.env = [(false, eval a X.env)] := by rfl) : PI X tg (.Call (.Name "range" p) [a] [] pos) (iRng1 ta) := by
  intro pins s σ H R I h
  refine Call_ (ld_blt I hg hm boot_range (PyProof.Rows.callWith_type1 (thn (ha pos pins s σ H _ I h) fun us s1 ⟨vs, H1, I1, r1, q1⟩ => ?_) hs rfl))
  obtain ⟨j, e, q1, q2, q⟩ := q1
  subst e
  cases r1 with
  | cons r rr =>
    cases rr
    obtain ⟨t, rfl⟩ := r
    exact call_range_1 (range_it I1 (by omega) (by omega) q1 q2 (by simpa using q))
theorem pi_range2 {a b : Expr} {ta : TA} {p pos : Pos} (hg : Gl X "range") (hm : X.mg "range" = none) (ha : PA X [a, b] ta) (hs : starEach [a, b] X.env = [(false, eval a X.env), (false, eval b X.env)] := by rfl) (hs2 : starEach [b] X.env = [(false, eval b X.env)] := by rfl) :
    PI X tg (.Call (.Name "range" p) [a, b] [] pos) (iRng2 ta) := by
  intro pins s σ H R I h
  refine Call_ (ld_blt I hg hm boot_range (PyProof.Rows.callWith_type1 (thn (ha pos pins s σ H _ I h) fun us s1 ⟨vs, H1, I1, r1, q1⟩ => ?_) (by rw [hs, hs2]) (by rw [hs2]; rfl)))
  obtain ⟨i, j, e, ⟨q1, q2, q3, q4⟩, q⟩ := q1
  subst e
  cases r1 with
  | cons r rr =>
    cases rr with
    | cons r' rr =>
      cases rr
      obtain ⟨t, rfl⟩ := r
      obtain ⟨t', rfl⟩ := r'
      exact call_range_2 (range_it I1 q1 q2 q3 q4 q)

/-! ### for -/
/-- W: the invariant by the turn and a measure; N: what the body is to reach -/
def tFor (wi : TI) (g : TG) (tb : TS) : TS := fun D σ H => wi σ H fun J H1 => ∃ W : Nat → Nat → St → Hp → Prop, (∃ m, W 0 m σ H1) ∧ ∀ i m σ H, W i m σ H →
  (J.stop i H ∧ D.nx σ H) ∨ (J.go i H ∧ ∃ N : St → Hp → Prop, (∀ σ' H', N σ' H' → ∃ m', m' < m ∧ W (i + 1) m' σ' H') ∧ ∀ x H', J.yld i H x H' → g x σ H' fun σ2 H2 => tb { D with nx := N, ct := N, bk := D.nx } σ2 H2)
/-- the records at fp as they stand -/
def pinsAt (fp : List Addr) (h : Heap) : List (Addr × Obj) := fp.filterMap fun b => (h.get? b).map fun o => (b, o)
theorem mem_pinsAt {fp : List Addr} {h : Heap} {b : Addr} {o : Obj} (hb : b ∈ fp) (e : h.get? b = some o) : (b, o) ∈ pinsAt fp h := List.mem_filterMap.mpr ⟨b, hb, by rw [e]; rfl⟩
theorem of_pinsAt {fp : List Addr} {h : Heap} {p : Addr × Obj} (hp : p ∈ pinsAt fp h) : p.1 ∈ fp ∧ h.get? p.1 = some p.2 := by
  obtain ⟨b, hb, e⟩ := List.mem_filterMap.mp hp
  cases q : h.get? b with
  | none => rw [q] at e; cases e
  | some o =>
    rw [q] at e
    have e' : (b, o) = p := Option.some.inj e
    subst e'
    exact ⟨hb, q⟩
theorem Inv.pinned {pins : List (Addr × Obj)} {σ : St} {H : Hp} {s : Shared} {fp : List Addr} (I : Inv X pins σ H s) (hf : ∀ b ∈ fp, FpOk X pins H b) (ho : ∀ b ∈ fp, ∃ o, s.heap.get? b = some o ∧ ∀ v, o.data ≠ .cell v) : Inv X (pins ++ pinsAt fp s.heap) σ H s :=
  I.pins_of fun p hp => (List.mem_append.mp hp).elim (fun z => I.pin p (List.mem_append_right _ z)) fun z => by
    obtain ⟨hb, e⟩ := of_pinsAt z
    obtain ⟨f0, f1, f2, _⟩ := hf p.1 hb
    obtain ⟨o, e', d⟩ := ho p.1 hb
    rw [e] at e'; cases e'
    exact ⟨e, f0, f1, f2, d⟩
theorem Inv.unpinned {pins pl : List (Addr × Obj)} {σ : St} {H : Hp} {s : Shared} (I : Inv X (pins ++ pl) σ H s) : Inv X pins σ H s := I.pins_of fun p hp => I.pin p (List.mem_append_right _ (List.mem_append_left _ hp))
theorem ps_for {iter : Expr} {body : List Stmt} {wi : TI} {g : TG} {tb : TS} {pos : Pos} (hp : PassesOwn (model X.prog X.w) X.A X.env X.xe) (hc : X.calm = true) (hi : PI X tg iter wi) (hg : PG X tg g) (hb : PSs X body tb)
    (hs : ∀ x, foldedSetIterable iter X.env x = pure x := by intro _; rfl) : PS X (.For tg iter body [] pos) (tFor wi g tb) := by
  intro pins s σ H D I h
  refine wpAny_For (thn (hi pins s σ H _ I h) fun v s1 h1 => thn h1 fun itv s2 h2 => ?_) hs
  obtain ⟨it, fp, tn, J, H2, e, I2, T, st2, f2, W, ⟨m0, w0⟩, turn⟩ := h2
  subst e
  -- what stays true of the iterator's objects through the loop
  have stat : ∀ {H' : Hp}, (∀ b ∈ fp, H' b = none) → ∀ b ∈ fp, FpOk X pins H' b := fun hn b hb => ⟨hn b hb, (f2 b hb).2⟩
  refine codeAny_forLoop_any (fun n s' => ∃ i σ' H', Inv X pins σ' H' s' ∧ tn i s'.heap ∧ (∀ b ∈ fp, H' b = none) ∧ W i n σ' H') ?_ m0 ⟨0, σ, H2, I2, st2, fun b hb => (f2 b hb).1, w0⟩
  rintro n s3 ⟨i, σ3, H3, I3, st3, fr3, w3⟩
  rcases turn i n σ3 H3 w3 with ⟨stop, qn⟩ | ⟨go, N, hN, step⟩
  · refine wpAny_passesOwn hp (thn (T.done X rfl rfl rfl hc i pins s3 σ3 H3 X.xe I3 (stat fr3) st3 stop) fun r s4 ⟨hr, I4⟩ => ?_)
    subst hr
    exact wpAny_execs_nil ⟨σ3, H3, I4, qn⟩
  · refine wpAny_passesOwn hp (thn (T.item X rfl rfl rfl hc i pins s3 σ3 H3 X.xe I3 (stat fr3) st3 go) fun r s4 ⟨u, hr, h4⟩ => ?_)
    subst hr
    refine wpAny_passesOwn hp (thn h4 fun _ s5 ⟨x, H5, I5, r5, y5, st5, fr5⟩ => ?_)
    have I5' := I5.pinned (stat fr5) (T.obj _ _ st5)
    refine wpAny_passesOwn hp (thn (hg _ s5 σ3 H5 x u _ I5' r5 (step x H5 y5)) fun _ s6 ⟨σ6, H6, I6, q6⟩ => ?_)
    refine wpAny_passesOwn hp (thn (hb _ s6 σ6 H6 _ I6 q6) fun f s7 q7 => ?_)
    have again : ∀ {σ7 : St} {H7 : Hp}, Inv X (pins ++ pinsAt fp s5.heap) σ7 H7 s7 → N σ7 H7 → ∃ m, m < n ∧ ∃ i σ' H', Inv X pins σ' H' s7 ∧ tn i s7.heap ∧ (∀ b ∈ fp, H' b = none) ∧ W i m σ' H' := fun {σ7 H7} I7 n7 => by
      obtain ⟨m', hm, w7⟩ := hN σ7 H7 n7
      refine ⟨m', hm, i + 1, σ7, H7, I7.unpinned, T.keep _ _ _ st5 fun b hb o e => (I7.pin (b, o) (List.mem_append_right _ (List.mem_append_right _ (mem_pinsAt hb e)))).1, fun b hb => ?_, w7⟩
      obtain ⟨o, e, d⟩ := T.obj _ _ st5 b hb
      exact (I7.pin (b, o) (List.mem_append_right _ (List.mem_append_right _ (mem_pinsAt hb e)))).2.1
    cases f with
    | next => obtain ⟨σ7, H7, I7, n7⟩ := q7; exact again I7 n7
    | cont => obtain ⟨σ7, H7, I7, n7⟩ := q7; exact again I7 n7
    | brk => obtain ⟨σ7, H7, I7, q7⟩ := q7; exact ⟨σ7, H7, I7.unpinned, q7⟩
    | ret v => obtain ⟨x7, σ7, H7, I7, r7, q7⟩ := q7; exact ⟨x7, σ7, H7, I7.unpinned, r7, q7⟩
end

/-! ### the forms one uses -/
/-- over a list that the body leaves as it is -/
theorem for_list {K : PySem.W.Frag} {a : Addr} {xs : List V} {g : TG} {tb : TS} {D : Ends} {σ : St} {H : Hp} (Pv : Nat → St → Hp → Prop) (h0 : Pv 0 σ H) (hl : ∀ i σ H, i ≤ xs.length → Pv i σ H → SqL K H a xs)
    (hs : ∀ i x σ H, xs[i]? = some x → Pv i σ H → g x σ H fun σ2 H2 => tb { D with nx := Pv (i + 1), ct := Pv (i + 1), bk := D.nx } σ2 H2) (hd : ∀ σ H, Pv xs.length σ H → D.nx σ H) :
    ∃ W : Nat → Nat → St → Hp → Prop, (∃ m, W 0 m σ H) ∧ ∀ i m σ H, W i m σ H →
      ((Itl K a).stop i H ∧ D.nx σ H) ∨ ((Itl K a).go i H ∧ ∃ N : St → Hp → Prop, (∀ σ' H', N σ' H' → ∃ m', m' < m ∧ W (i + 1) m' σ' H') ∧ ∀ x H', (Itl K a).yld i H x H' → g x σ H' fun σ2 H2 => tb { D with nx := N, ct := N, bk := D.nx } σ2 H2) := by
  refine ⟨fun i m σ H => m = xs.length - i ∧ i ≤ xs.length ∧ Pv i σ H, ⟨xs.length, by simp, Nat.zero_le _, h0⟩, ?_⟩
  rintro i m σ H ⟨rfl, hi, p⟩
  have q := hl i σ H hi p
  by_cases hlt : i < xs.length
  · refine .inr ⟨⟨xs, xs[i], q, by simp [hlt]⟩, Pv (i + 1), fun σ' H' p' => ⟨xs.length - (i + 1), by omega, rfl, hlt, p'⟩, fun x H' y => ?_⟩
    obtain ⟨e, y⟩ := y
    subst e
    exact hs i x σ _ (y xs q) p
  · have e : i = xs.length := by omega
    subst e
    exact .inl ⟨⟨xs, q, Nat.le_refl _⟩, hd σ H p⟩
theorem for_tup {K : PySem.W.Frag} {a : Addr} {xs : List V} {g : TG} {tb : TS} {D : Ends} {σ : St} {H : Hp} (Pv : Nat → St → Hp → Prop) (h0 : Pv 0 σ H) (hl : ∀ i σ H, i ≤ xs.length → Pv i σ H → SqT K H a xs)
    (hs : ∀ i x σ H, xs[i]? = some x → Pv i σ H → g x σ H fun σ2 H2 => tb { D with nx := Pv (i + 1), ct := Pv (i + 1), bk := D.nx } σ2 H2) (hd : ∀ σ H, Pv xs.length σ H → D.nx σ H) :
    ∃ W : Nat → Nat → St → Hp → Prop, (∃ m, W 0 m σ H) ∧ ∀ i m σ H, W i m σ H →
      ((Itt K a).stop i H ∧ D.nx σ H) ∨ ((Itt K a).go i H ∧ ∃ N : St → Hp → Prop, (∀ σ' H', N σ' H' → ∃ m', m' < m ∧ W (i + 1) m' σ' H') ∧ ∀ x H', (Itt K a).yld i H x H' → g x σ H' fun σ2 H2 => tb { D with nx := N, ct := N, bk := D.nx } σ2 H2) := by
  refine ⟨fun i m σ H => m = xs.length - i ∧ i ≤ xs.length ∧ Pv i σ H, ⟨xs.length, by simp, Nat.zero_le _, h0⟩, ?_⟩
  rintro i m σ H ⟨rfl, hi, p⟩
  have q := hl i σ H hi p
  by_cases hlt : i < xs.length
  · refine .inr ⟨⟨xs, xs[i], q, by simp [hlt]⟩, Pv (i + 1), fun σ' H' p' => ⟨xs.length - (i + 1), by omega, rfl, hlt, p'⟩, fun x H' y => ?_⟩
    obtain ⟨e, y⟩ := y
    subst e
    exact hs i x σ _ (y xs q) p
  · have e : i = xs.length := by omega
    subst e
    exact .inl ⟨⟨xs, q, Nat.le_refl _⟩, hd σ H p⟩
theorem for_range {lo : Int} {n : Nat} {g : TG} {tb : TS} {D : Ends} {σ : St} {H : Hp} (Pv : Nat → St → Hp → Prop) (h0 : Pv 0 σ H)
    (hs : ∀ i σ H, i < n → Pv i σ H → g (.int (lo + i)) σ H fun σ2 H2 => tb { D with nx := Pv (i + 1), ct := Pv (i + 1), bk := D.nx } σ2 H2) (hd : ∀ σ H, Pv n σ H → D.nx σ H) :
    ∃ W : Nat → Nat → St → Hp → Prop, (∃ m, W 0 m σ H) ∧ ∀ i m σ H, W i m σ H →
      ((Itr lo n).stop i H ∧ D.nx σ H) ∨ ((Itr lo n).go i H ∧ ∃ N : St → Hp → Prop, (∀ σ' H', N σ' H' → ∃ m', m' < m ∧ W (i + 1) m' σ' H') ∧ ∀ x H', (Itr lo n).yld i H x H' → g x σ H' fun σ2 H2 => tb { D with nx := N, ct := N, bk := D.nx } σ2 H2) := by
  refine ⟨fun i m σ H => m = n - i ∧ i ≤ n ∧ Pv i σ H, ⟨n, by simp, Nat.zero_le _, h0⟩, ?_⟩
  rintro i m σ H ⟨rfl, hi, p⟩
  by_cases hlt : i < n
  · refine .inr ⟨hlt, Pv (i + 1), fun σ' H' p' => ⟨n - (i + 1), by omega, rfl, hlt, p'⟩, fun x H' y => ?_⟩
    obtain ⟨e, y⟩ := y
    subst e y
    exact hs i σ _ hlt p
  · have e : i = n := by omega
    subst e
    exact .inl ⟨Nat.le_refl _, hd σ H p⟩
/-- while, by a word and a measure of the state -/
theorem while_by {c : TT} {tb : TS} {D : Ends} {σ : St} {H : Hp} (Pv : St → Hp → Prop) (μ : St → Hp → Nat) (h0 : Pv σ H)
    (hs : ∀ σ H, Pv σ H → c σ H fun b H1 => if b = true then tb { D with nx := fun σ' H' => Pv σ' H' ∧ μ σ' H' < μ σ H, ct := fun σ' H' => Pv σ' H' ∧ μ σ' H' < μ σ H, bk := D.nx } σ H1 else D.nx σ H1)
    (mono : ∀ σ H Q Q', (∀ b H1, Q b H1 → Q' b H1) → c σ H Q → c σ H Q') : tWhile c tb D σ H := by
  refine ⟨fun m σ H => m = μ σ H ∧ Pv σ H, ⟨_, rfl, h0⟩, ?_⟩
  rintro m σ H ⟨rfl, p⟩
  refine mono σ H _ _ (fun b H1 q => ?_) (hs σ H p)
  cases b with
  | true => exact ⟨_, fun σ' H' ⟨p', l⟩ => ⟨_, l, rfl, p'⟩, q⟩
  | false => exact q
end L2

namespace L2
open PySem PySem.Spec PyProof.Rows

abbrev R2 := V → V → Hp → VK → Prop
/-- a two-place operation on values: f is binaryOp op, inplaceOp op or compareOp op -/
def OpR (X : Cx) (f : Value → Value → Sem Value) (r : R2) : Prop :=
  ∀ (pins : List (Addr × Obj)) (s : Shared) (σ : St) (H : Hp) (x y : V) (v u : Value) (Q : VK), Inv X pins σ H s → RelV x v → RelV y u → r x y H Q →
    wpAny (model X.prog X.w) X.A (f v u) (EP X pins σ Q) X.xe s
/-- a one-place operation -/
def UnR (X : Cx) (f : Value → Sem Value) (r : V → Hp → VK → Prop) : Prop :=
  ∀ (pins : List (Addr × Obj)) (s : Shared) (σ : St) (H : Hp) (x : V) (v : Value) (Q : VK), Inv X pins σ H s → RelV x v → r x H Q →
    wpAny (model X.prog X.w) X.A (f v) (EP X pins σ Q) X.xe s
/-- a call of a value that is known (a builtin, a type) with values -/
def CallR (X : Cx) (f : Value) (r : List V → Hp → VK → Prop) : Prop :=
  ∀ (pins : List (Addr × Obj)) (s : Shared) (σ : St) (H : Hp) (xs : List V) (us : List Value) (Q : VK), Inv X pins σ H s → Vals xs us → r xs H Q →
    wpAny (model X.prog X.w) X.A (call f us) (EP X pins σ Q) X.xe s
/-- a value's truth -/
def TruR (X : Cx) (r : V → Hp → (Bool → Hp → Prop) → Prop) : Prop :=
  ∀ (pins : List (Addr × Obj)) (s : Shared) (σ : St) (H : Hp) (x : V) (v : Value) (Q : Bool → Hp → Prop), Inv X pins σ H s → RelV x v → r x H Q →
    wpAny (model X.prog X.w) X.A (truthy v) (TP X pins σ Q) X.xe s

def tOp (r : R2) (ta tb : TE) : TE := fun σ H Q => ta σ H fun x H1 => tb σ H1 fun y H2 => r x y H2 Q
def tUn (r : V → Hp → VK → Prop) (ta : TE) : TE := fun σ H Q => ta σ H fun x H1 => r x H1 Q
/-- ints in, under C, and a value out -/
def rI (C : Int → Int → Prop) (g : Int → Int → V) : R2 := fun x y H Q => ∃ i j, x = .int i ∧ y = .int j ∧ C i j ∧ Q (g i j) H
def rI0 (g : Int → Int → V) : R2 := fun x y H Q => ∃ i j, x = .int i ∧ y = .int j ∧ Q (g i j) H
def rU (g : Int → V) : V → Hp → VK → Prop := fun x H Q => ∃ i, x = .int i ∧ Q (g i) H

section
variable {X : Cx} {a b c : Expr} {ta tb tc : TE} {pos : Pos}

theorem binT (ha : PE X a ta) (hb : PE X b tb) {pins : List (Addr × Obj)} {s : Shared} {σ : St} {H : Hp} {R : V → V → Hp → Prop} (I : Inv X pins σ H s)
    (h : ta σ H fun x H1 => tb σ H1 fun y H2 => R x y H2) {Q : Value → Shared → Prop} {f : Value → Value → Sem Value}
    (hf : ∀ v u s2 x y H2, Inv X pins σ H2 s2 → RelV x v → RelV y u → R x y H2 → wpAny (model X.prog X.w) X.A (f v u) Q X.xe s2) :
    wpAny (model X.prog X.w) X.A (eval a X.env) (fun v s₁ => wpAny (model X.prog X.w) X.A (eval b X.env) (fun u s₂ => wpAny (model X.prog X.w) X.A (f v u) Q X.xe s₂) X.xe s₁) X.xe s := by
  refine thn (ha pins s σ H _ I h) fun v s1 ⟨x, H1, I1, r1, q1⟩ => ?_
  refine thn (hb pins s1 σ H1 _ I1 q1) fun u s2 ⟨y, H2, I2, r2, q2⟩ => ?_
  exact hf v u s2 x y H2 I2 r1 r2 q2

theorem pe_op {op : Operator} {r : R2} (ho : OpR X (binaryOp op) r) (ha : PE X a ta) (hb : PE X b tb) : PE X (.BinOp a op b pos) (tOp r ta tb) := by
  intro pins s σ H Q I h
  exact wpAny_BinOp (binT ha hb I h fun v u s2 x y H2 I2 rx ry q => ho pins s2 σ H2 x y v u Q I2 rx ry q)
theorem pe_un {op : UnaryOp} {r : V → Hp → VK → Prop} (ho : UnR X (unaryOp op) r) (ha : PE X a ta) : PE X (.UnaryOp op a pos) (tUn r ta) := by
  intro pins s σ H Q I h
  exact UnaryOp_ (thn (ha pins s σ H _ I h) fun v s1 ⟨x, H1, I1, r1, q1⟩ => ho pins s1 σ H1 x v Q I1 r1 q1)
/-- a op= e at a name: the name's slot i -/
theorem augR {op : Operator} {r : R2} (ho : OpR X (inplaceOp op) r) {pins : List (Addr × Obj)} {s : Shared} {σ : St} {H : Hp} {x y : V} {v u : Value} {Q : VK} (I : Inv X pins σ H s)
    (rx : RelV x v) (ry : RelV y u) (q : r x y H Q) : wpAny (model X.prog X.w) X.A (inplaceOp op v u) (EP X pins σ Q) X.xe s := ho pins s σ H x y v u Q I rx ry q

/-! ### ints -/
theorem opI {f : Value → Value → Sem Value} {C : Int → Int → Prop} {g : Int → Int → Int}
    (rule : ∀ (i j : Int) (t u : Tok) (s : Shared) (Q : Value → Shared → Prop) (E : Value → Shared → Prop), C i j → Q (.int (g i j) s.toks) { s with toks := s.toks + 1 } → wpAny (model X.prog X.w) X.A (f (.int i t) (.int j u)) Q E s) :
    OpR X f (rI C fun i j => .int (g i j)) := by
  intro pins s σ H x y v u Q I rx ry h
  obtain ⟨i, j, rfl, rfl, hc, q⟩ := h
  obtain ⟨t, rfl⟩ := rx
  obtain ⟨t', rfl⟩ := ry
  exact rule i j t t' s _ _ hc ⟨.int (g i j), H, I.tok _, ⟨_, rfl⟩, q⟩
theorem opI0 {f : Value → Value → Sem Value} {g : Int → Int → Int}
    (rule : ∀ (i j : Int) (t u : Tok) (s : Shared) (Q : Value → Shared → Prop) (E : Value → Shared → Prop), Q (.int (g i j) s.toks) { s with toks := s.toks + 1 } → wpAny (model X.prog X.w) X.A (f (.int i t) (.int j u)) Q E s) :
    OpR X f (rI0 fun i j => .int (g i j)) := by
  intro pins s σ H x y v u Q I rx ry h
  obtain ⟨i, j, rfl, rfl, q⟩ := h
  obtain ⟨t, rfl⟩ := rx
  obtain ⟨t', rfl⟩ := ry
  exact rule i j t t' s _ _ ⟨.int (g i j), H, I.tok _, ⟨_, rfl⟩, q⟩
theorem opB0 {f : Value → Value → Sem Value} {g : Int → Int → Bool}
    (rule : ∀ (i j : Int) (t u : Tok) (s : Shared) (Q : Value → Shared → Prop) (E : Value → Shared → Prop), Q (.bool (g i j)) s → wpAny (model X.prog X.w) X.A (f (.int i t) (.int j u)) Q E s) :
    OpR X f (rI0 fun i j => .bl (g i j)) := by
  intro pins s σ H x y v u Q I rx ry h
  obtain ⟨i, j, rfl, rfl, q⟩ := h
  obtain ⟨t, rfl⟩ := rx
  obtain ⟨t', rfl⟩ := ry
  exact rule i j t t' s _ _ ⟨.bl (g i j), H, I, rfl, q⟩

def CDiv (i j : Int) : Prop := 0 < j ∧ j < 1073741824
def CDivN (i j : Int) : Prop := j ≠ 0 ∧ j.natAbs < 1073741824
def CPow (i j : Int) : Prop := 0 ≤ j ∧ j ≤ 1000000 ∧ i.natAbs < 2 ^ 64
def CMul (i j : Int) : Prop := (-(2 ^ 64) < i ∧ i < 2 ^ 64) ∨ (-(2 ^ 64) < j ∧ j < 2 ^ 64)
theorem CMul.ok {i j : Int} (h : CMul i j) : IntMulOk i j := by
  rcases h with ⟨h1, h2⟩ | ⟨h1, h2⟩
  · exact .of_left (intBits_le_64 h1 h2)
  · exact .of_right (intBits_le_64 h1 h2)
theorem two_pow_nn (k : Nat) : (0 : Int) ≤ 2 ^ k := by
  rw [two_pow_cast]
  exact Int.natCast_nonneg _

theorem op_add : OpR X (binaryOp .Add) (rI0 fun i j => .int (i + j)) := opI0 fun _ _ _ _ _ _ _ q => add_int q
theorem op_sub : OpR X (binaryOp .Sub) (rI0 fun i j => .int (i - j)) := opI0 fun _ _ _ _ _ _ _ q => sub_int q
theorem op_mul : OpR X (binaryOp .Mult) (rI CMul fun i j => .int (i * j)) := opI fun _ _ _ _ _ _ _ hc q => mul_int q hc.ok
/-- // by a positive divisor -/
theorem op_fdiv : OpR X (binaryOp .FloorDiv) (rI CDiv fun i j => .int (i / j)) := opI fun i j _ _ _ _ _ hc q => by
  have h1 : (0 : Int) < j := hc.1
  have h2 : j < 1073741824 := hc.2
  exact floordiv_int (by omega) (by rw [Int.fdiv_eq_ediv_of_nonneg i (by omega)]; exact q) (.inl (PyProof.noPylong_small (by omega)))
theorem op_fdivN : OpR X (binaryOp .FloorDiv) (rI CDivN fun i j => .int (i.fdiv j)) := opI fun _ _ _ _ _ _ _ hc q => floordiv_int hc.1 q (.inl (PyProof.noPylong_small hc.2))
/-- % by a positive divisor of any size -/
theorem op_mod : OpR X (binaryOp .Mod) (rI (fun _ j => 0 < j) fun i j => .int (i % j)) := opI fun i j _ _ _ _ _ hc q => by
  have h1 : (0 : Int) < j := hc
  exact mod_int' (by omega) (by rw [Int.fmod_eq_emod_of_nonneg i (by omega)]; exact q)
theorem op_modN : OpR X (binaryOp .Mod) (rI (fun _ j => j ≠ 0) fun i j => .int (i.fmod j)) := opI fun _ _ _ _ _ _ _ hc q => mod_int' hc q
theorem op_pow : OpR X (binaryOp .Pow) (rI CPow fun i j => .int (i ^ j.toNat)) := opI fun _ _ _ _ _ _ _ hc q => pow_int_small hc.1 hc.2.1 hc.2.2 q
theorem op_shl : OpR X (binaryOp .LShift) (rI CPow fun i j => .int (i * 2 ^ j.toNat)) := opI fun _ _ _ _ _ _ _ hc q => lshift_int_small hc.1 hc.2.1 hc.2.2 q
theorem op_shr : OpR X (binaryOp .RShift) (rI (fun _ j => 0 ≤ j) fun i j => .int (i / 2 ^ j.toNat)) := opI fun i j _ _ _ _ _ hc q =>
  rshift_int hc (by rw [Int.fdiv_eq_ediv_of_nonneg i (two_pow_nn _)]; exact q)
theorem op_and : OpR X (binaryOp .BitAnd) (rI0 fun i j => .int (Builtin.bitAnd i j)) := opI0 fun _ _ _ _ _ _ _ q => and_int q
theorem op_or : OpR X (binaryOp .BitOr) (rI0 fun i j => .int (Builtin.bitOr i j)) := opI0 fun _ _ _ _ _ _ _ q => or_int q
theorem op_xor : OpR X (binaryOp .BitXor) (rI0 fun i j => .int (Builtin.bitXor i j)) := opI0 fun _ _ _ _ _ _ _ q => xor_int q

theorem iop_add : OpR X (inplaceOp .Add) (rI0 fun i j => .int (i + j)) := opI0 fun _ _ _ _ _ _ _ q => iadd_int q
theorem iop_sub : OpR X (inplaceOp .Sub) (rI0 fun i j => .int (i - j)) := opI0 fun _ _ _ _ _ _ _ q => isub_int q
theorem iop_mul : OpR X (inplaceOp .Mult) (rI CMul fun i j => .int (i * j)) := opI fun _ _ _ _ _ _ _ hc q => imul_int q hc.ok
theorem iop_fdiv : OpR X (inplaceOp .FloorDiv) (rI CDiv fun i j => .int (i / j)) := opI fun i j _ _ _ _ _ hc q => by
  have h1 : (0 : Int) < j := hc.1
  have h2 : j < 1073741824 := hc.2
  exact ifloordiv_int (by omega) (by rw [Int.fdiv_eq_ediv_of_nonneg i (by omega)]; exact q) (.inl (PyProof.noPylong_small (by omega)))
theorem iop_mod : OpR X (inplaceOp .Mod) (rI (fun _ j => 0 < j) fun i j => .int (i % j)) := opI fun i j _ _ _ _ _ hc q => by
  have h1 : (0 : Int) < j := hc
  exact imod_int (by omega) (by rw [Int.fmod_eq_emod_of_nonneg i (by omega)]; exact q)
theorem iop_shl : OpR X (inplaceOp .LShift) (rI CPow fun i j => .int (i * 2 ^ j.toNat)) := opI fun _ _ _ _ _ _ _ hc q => ilshift_int_small hc.1 hc.2.1 hc.2.2 q
theorem iop_shr : OpR X (inplaceOp .RShift) (rI (fun _ j => 0 ≤ j) fun i j => .int (i / 2 ^ j.toNat)) := opI fun i j _ _ _ _ _ hc q =>
  irshift_int hc (by rw [Int.fdiv_eq_ediv_of_nonneg i (two_pow_nn _)]; exact q)
theorem iop_and : OpR X (inplaceOp .BitAnd) (rI0 fun i j => .int (Builtin.bitAnd i j)) := opI0 fun _ _ _ _ _ _ _ q => iand_int q
theorem iop_or : OpR X (inplaceOp .BitOr) (rI0 fun i j => .int (Builtin.bitOr i j)) := opI0 fun _ _ _ _ _ _ _ q => ior_int q
theorem iop_xor : OpR X (inplaceOp .BitXor) (rI0 fun i j => .int (Builtin.bitXor i j)) := opI0 fun _ _ _ _ _ _ _ q => ixor_int q

theorem unI {f : Value → Sem Value} {g : Int → Int}
    (rule : ∀ (i : Int) (t : Tok) (s : Shared) (Q : Value → Shared → Prop) (E : Value → Shared → Prop), Q (.int (g i) s.toks) { s with toks := s.toks + 1 } → wpAny (model X.prog X.w) X.A (f (.int i t)) Q E s) :
    UnR X f (rU fun i => .int (g i)) := by
  intro pins s σ H x v Q I rx h
  obtain ⟨i, rfl, q⟩ := h
  obtain ⟨t, rfl⟩ := rx
  exact rule i t s _ _ ⟨.int (g i), H, I.tok _, ⟨_, rfl⟩, q⟩
theorem un_neg : UnR X (unaryOp .USub) (rU fun i => .int (-i)) := unI fun _ _ _ _ _ q => neg_int q
theorem un_inv : UnR X (unaryOp .Invert) (rU fun i => .int (Builtin.bitNot i)) := unI fun _ _ _ _ _ q => invert_int q

/-! ### bools among ints: n += (a < b) -/
theorem op_add_ib : OpR X (binaryOp .Add) (fun x y H Q => ∃ i k, x = .int i ∧ y = .bl k ∧ Q (.int (i + b2i k)) H) := by
  intro pins s σ H x y v u Q I rx ry h
  obtain ⟨i, k, rfl, rfl, q⟩ := h
  obtain ⟨t, rfl⟩ := rx
  cases ry
  exact add_int_bool ⟨.int (i + b2i k), H, I.tok _, ⟨_, rfl⟩, q⟩
end

/-! ### comparisons -/
/-- the scalars that == tells apart as data does -/
def scal : V → V → Bool
  | .non, .non => true | .non, .int _ => true | .int _, .non => true | .non, .bl _ => true | .bl _, .non => true | .non, .str _ => true | .str _, .non => true
  | .int _, .int _ => true | .bl _, .bl _ => true | .str _, .str _ => true | .byt _, .byt _ => true
  | .int _, .str _ => true | .str _, .int _ => true | .bl _, .str _ => true | .str _, .bl _ => true
  | _, _ => false
def rEq : R2 := fun x y H Q => scal x y = true ∧ Q (.bl (decide (x = y))) H
def rNe : R2 := fun x y H Q => scal x y = true ∧ Q (.bl (!decide (x = y))) H

theorem dec_int {i j : Int} : decide (V.int i = V.int j) = (i == j) := by
  rw [Bool.eq_iff_iff]
  simp
theorem dec_bl {i j : Bool} : decide (V.bl i = V.bl j) = (i == j) := by
  rw [Bool.eq_iff_iff]
  simp
theorem dec_str {i j : Str} : decide (V.str i = V.str j) = (i == j) := by
  rw [Bool.eq_iff_iff]
  simp
theorem dec_byt {i j : Array UInt8} : decide (V.byt i = V.byt j) = (i.toList == j.toList) := by
  rw [Bool.eq_iff_iff]
  cases i
  cases j
  simp

section
variable {X : Cx} {a b c : Expr} {ta tb tc : TE} {pos : Pos}
theorem fin_bl {pins : List (Addr × Obj)} {σ : St} {H : Hp} {s : Shared} {Q : VK} {k k' : Bool} (I : Inv X pins σ H s) (q : Q (.bl k) H) (e : k = k') : EP X pins σ Q (.bool k') s := by
  subst e
  exact ⟨.bl k, H, I, rfl, q⟩
theorem op_eq : OpR X (compareOp .Eq) rEq := by
  intro pins s σ H x y v u Q I rx ry h
  obtain ⟨hs, q⟩ := h
  cases x with
  | non =>
    cases rx
    cases y with
    | non => cases ry; exact PySem.EqNone.eq_none_none (fin_bl I q (by simp))
    | bl j => cases ry; exact PySem.EqNone.eq_none_bool (fin_bl I q (by simp))
    | int j => obtain ⟨t', rfl⟩ := ry; exact PySem.EqNone.eq_none_int (fin_bl I q (by simp))
    | str j => obtain ⟨t', rfl⟩ := ry; exact PySem.EqNone.eq_none_str (fin_bl I q (by simp))
    | _ => exact absurd (show false = true from hs) Bool.false_ne_true
  | bl i =>
    cases rx
    cases y with
    | non => cases ry; exact PySem.EqNone.eq_bool_none (fin_bl I q (by simp))
    | bl j => cases ry; exact eq_bool (fin_bl I q dec_bl)
    | str j => obtain ⟨t', rfl⟩ := ry; exact PySem.EqMixed.eq_bool_str (fin_bl I q (by simp))
    | _ => exact absurd (show false = true from hs) Bool.false_ne_true
  | int i =>
    obtain ⟨t, rfl⟩ := rx
    cases y with
    | non => cases ry; exact PySem.EqNone.eq_int_none (fin_bl I q (by simp))
    | int j => obtain ⟨t', rfl⟩ := ry; exact eq_int (fin_bl I q dec_int)
    | str j => obtain ⟨t', rfl⟩ := ry; exact PySem.EqMixed.eq_int_str (fin_bl I q (by simp))
    | _ => exact absurd (show false = true from hs) Bool.false_ne_true
  | str i =>
    obtain ⟨t, rfl⟩ := rx
    cases y with
    | non => cases ry; exact PySem.EqNone.eq_str_none (fin_bl I q (by simp))
    | bl j => cases ry; exact PySem.EqMixed.eq_str_bool (fin_bl I q (by simp))
    | int j => obtain ⟨t', rfl⟩ := ry; exact PySem.EqMixed.eq_str_int (fin_bl I q (by simp))
    | str j => obtain ⟨t', rfl⟩ := ry; exact eq_str (fin_bl I q dec_str)
    | _ => exact absurd (show false = true from hs) Bool.false_ne_true
  | byt i =>
    obtain ⟨t, rfl⟩ := rx
    cases y with
    | byt j => obtain ⟨t', rfl⟩ := ry; exact PySem.W.eq_bytes (fin_bl I q dec_byt)
    | _ => exact absurd (show false = true from hs) Bool.false_ne_true
  | _ => cases y <;> exact absurd (show false = true from hs) Bool.false_ne_true
theorem op_ne : OpR X (compareOp .NotEq) rNe := by
  intro pins s σ H x y v u Q I rx ry h
  obtain ⟨hs, q⟩ := h
  cases x with
  | non =>
    cases rx
    cases y with
    | non => cases ry; exact PySem.EqNone.ne_none_none (fin_bl I q (by simp))
    | bl j => cases ry; exact PySem.EqNone.ne_none_bool (fin_bl I q (by simp))
    | int j => obtain ⟨t', rfl⟩ := ry; exact PySem.EqNone.ne_none_int (fin_bl I q (by simp))
    | str j => obtain ⟨t', rfl⟩ := ry; exact PySem.EqNone.ne_none_str (fin_bl I q (by simp))
    | _ => exact absurd (show false = true from hs) Bool.false_ne_true
  | bl i =>
    cases rx
    cases y with
    | non => cases ry; exact PySem.EqNone.ne_bool_none (fin_bl I q (by simp))
    | bl j => cases ry; exact ne_bool (fin_bl I q (congrArg not dec_bl))
    | str j => obtain ⟨t', rfl⟩ := ry; exact PySem.EqMixed.ne_bool_str (fin_bl I q (by simp))
    | _ => exact absurd (show false = true from hs) Bool.false_ne_true
  | int i =>
    obtain ⟨t, rfl⟩ := rx
    cases y with
    | non => cases ry; exact PySem.EqNone.ne_int_none (fin_bl I q (by simp))
    | int j => obtain ⟨t', rfl⟩ := ry; exact ne_int (fin_bl I q (congrArg not dec_int))
    | str j => obtain ⟨t', rfl⟩ := ry; exact PySem.EqMixed.ne_int_str (fin_bl I q (by simp))
    | _ => exact absurd (show false = true from hs) Bool.false_ne_true
  | str i =>
    obtain ⟨t, rfl⟩ := rx
    cases y with
    | non => cases ry; exact PySem.EqNone.ne_str_none (fin_bl I q (by simp))
    | bl j => cases ry; exact PySem.EqMixed.ne_str_bool (fin_bl I q (by simp))
    | int j => obtain ⟨t', rfl⟩ := ry; exact PySem.EqMixed.ne_str_int (fin_bl I q (by simp))
    | str j => obtain ⟨t', rfl⟩ := ry; exact ne_str (fin_bl I q (congrArg not dec_str))
    | _ => exact absurd (show false = true from hs) Bool.false_ne_true
  | byt i =>
    obtain ⟨t, rfl⟩ := rx
    cases y with
    | byt j => obtain ⟨t', rfl⟩ := ry; exact PySem.W.ne_bytes (fin_bl I q (congrArg not dec_byt))
    | _ => exact absurd (show false = true from hs) Bool.false_ne_true
  | _ => cases y <;> exact absurd (show false = true from hs) Bool.false_ne_true

theorem op_lt : OpR X (compareOp .Lt) (rI0 fun i j => .bl (decide (i < j))) := opB0 fun _ _ _ _ _ _ _ q => lt_int q
theorem op_le : OpR X (compareOp .LtE) (rI0 fun i j => .bl (decide (i ≤ j))) := opB0 fun _ _ _ _ _ _ _ q => le_int q
theorem op_gt : OpR X (compareOp .Gt) (rI0 fun i j => .bl (decide (j < i))) := opB0 fun _ _ _ _ _ _ _ q => gt_int q
theorem op_ge : OpR X (compareOp .GtE) (rI0 fun i j => .bl (decide (j ≤ i))) := opB0 fun _ _ _ _ _ _ _ q => ge_int q
theorem op_lt_str : OpR X (compareOp .Lt) (fun x y H Q => ∃ i j, x = .str i ∧ y = .str j ∧ Q (.bl (decide (i.cps.toList < j.cps.toList))) H) := by
  intro pins s σ H x y v u Q I rx ry h
  obtain ⟨i, j, rfl, rfl, q⟩ := h
  obtain ⟨t, rfl⟩ := rx
  obtain ⟨t', rfl⟩ := ry
  exact lt_str (fin_bl I q rfl)
/-- the one string within the other -/
theorem op_in_str : OpR X (compareOp .In) (fun x y H Q => ∃ i j, x = .str i ∧ y = .str j ∧ Q (.bl (!(Builtin.Str.occurrences j i 0 j.length 1).isEmpty)) H) := by
  intro pins s σ H x y v u Q I rx ry h
  obtain ⟨i, j, rfl, rfl, q⟩ := h
  obtain ⟨t, rfl⟩ := rx
  obtain ⟨t', rfl⟩ := ry
  exact in_str (fin_bl I q rfl)

/-- is None, is not None: the right side a value none -/
theorem op_isN : OpR X (compareOp .Is) (fun x y H Q => y = .non ∧ Q (.bl (decide (x = .non))) H) := by
  intro pins s σ H x y v u Q I rx ry h
  obtain ⟨rfl, q⟩ := h
  cases ry
  refine is_none_gen (fin_bl I q ?_)
  cases x <;> first
    | (cases rx; rfl)
    | (obtain ⟨t, rfl⟩ := rx; rfl)
theorem op_notN : OpR X (compareOp .IsNot) (fun x y H Q => y = .non ∧ Q (.bl (!decide (x = .non))) H) := by
  intro pins s σ H x y v u Q I rx ry h
  obtain ⟨rfl, q⟩ := h
  cases ry
  refine isnot_none_gen (fin_bl I q ?_)
  cases x <;> first
    | (cases rx; rfl)
    | (obtain ⟨t, rfl⟩ := rx; rfl)

theorem op_notin_str : OpR X (compareOp .NotIn) (fun x y H Q => ∃ i j, x = .str i ∧ y = .str j ∧ Q (.bl (!(!(Builtin.Str.occurrences j i 0 j.length 1).isEmpty))) H) := by
  intro pins s σ H x y v u Q I rx ry h
  obtain ⟨i, j, rfl, rfl, q⟩ := h
  obtain ⟨t, rfl⟩ := rx
  obtain ⟨t', rfl⟩ := ry
  exact notIn_str (fin_bl I q rfl)
/-- is, is not of two objects that are tracked lists or instances -/
def isObj : HO → Bool
  | .lst _ => true
  | .ins _ _ _ => true
  | _ => false
theorem obj_there {pins : List (Addr × Obj)} {s : Shared} {σ : St} {H : Hp} {a : Addr} {o : HO} (I : Inv X pins σ H s) (h : H a = some o) (p : isObj o = true) : ∃ ob, s.heap.get? a = some ob ∧ ob.cls ≠ .type "tuple" := by
  cases o with
  | lst xs =>
    obtain ⟨_, its, n, _, e⟩ : xs.length ≤ sizeLine ∧ ∃ (its : List Value) (n : Nat), Vals xs its ∧ s.heap.get? a = some { cls := .type "list", data := .seq its.toArray n } := I.hok a _ h
    exact ⟨_, e, (by show Value.type "list" ≠ .type "tuple"; decide +kernel)⟩
  | ins C dx fs =>
    have x := I.hok a _ h
    obtain ⟨_, _, _, e, _⟩ := x
    exact ⟨_, e, (by show Value.ref C ≠ .type "tuple"; exact fun z => by cases z)⟩
  | _ => exact absurd (show false = true from p) Bool.false_ne_true
theorem op_is_ref : OpR X (compareOp .Is) (fun x y H Q => ∃ a b oa ob, x = .ref a ∧ y = .ref b ∧ H a = some oa ∧ isObj oa = true ∧ H b = some ob ∧ isObj ob = true ∧ Q (.bl (decide (a = b))) H) := by
  intro pins s σ H x y v u Q I rx ry h
  obtain ⟨a, b, oa, ob, rfl, rfl, ha, pa, hb, pb, q⟩ := h
  cases rx
  cases ry
  obtain ⟨o1, e1, n1⟩ := obj_there I ha pa
  obtain ⟨o2, e2, _⟩ := obj_there I hb pb
  by_cases z : a = b
  · subst z
    exact wpAny_is_ref_self (fin_bl I q (by simp))
  · exact wpAny_is_ref_other z e1 e2 n1 (fin_bl I q (by simp [z]))
theorem op_isnot_ref : OpR X (compareOp .IsNot) (fun x y H Q => ∃ a b oa ob, x = .ref a ∧ y = .ref b ∧ H a = some oa ∧ isObj oa = true ∧ H b = some ob ∧ isObj ob = true ∧ Q (.bl (!decide (a = b))) H) := by
  intro pins s σ H x y v u Q I rx ry h
  obtain ⟨a, b, oa, ob, rfl, rfl, ha, pa, hb, pb, q⟩ := h
  cases rx
  cases ry
  obtain ⟨o1, e1, n1⟩ := obj_there I ha pa
  obtain ⟨o2, e2, _⟩ := obj_there I hb pb
  by_cases z : a = b
  · subst z
    exact wpAny_isNot_ref_self (fin_bl I q (by simp))
  · exact wpAny_isNot_ref_other z e1 e2 n1 (fin_bl I q (by simp [z]))

/-- two rules for one operation: by cases -/
theorem OpR.or {f : Value → Value → Sem Value} {r r' : R2} (h : OpR X f r) (h' : OpR X f r') : OpR X f (fun x y H Q => r x y H Q ∨ r' x y H Q) := by
  intro pins s σ H x y v u Q I rx ry q
  rcases q with q | q
  · exact h pins s σ H x y v u Q I rx ry q
  · exact h' pins s σ H x y v u Q I rx ry q

theorem nomark (b : Expr) {op : CmpOp} (h : op ≠ .In := by decide) (h2 : op ≠ .NotIn := by decide) : behindInMarks op b = false := by
  have e1 : (op == CmpOp.In) = false := by cases op <;> first | rfl | exact absurd rfl h
  have e2 : (op == CmpOp.NotIn) = false := by cases op <;> first | rfl | exact absurd rfl h2
  cases b <;> simp [behindInMarks, e1, e2]
/-- a comparison as a value; hm: nomark b, or (for in, not in) by with_unfolding_all rfl -/
theorem pe_cmpR {op : CmpOp} {r : R2} (ho : OpR X (compareOp op) r) (ha : PE X a ta) (hb : PE X b tb) (hm : behindInMarks op b = false) : PE X (.Compare a [op] [b] pos) (tOp r ta tb) := by
  intro pins s σ H Q I h
  exact wpAny_Compare1 (binT ha hb I h fun v u s2 x y H2 I2 rx ry q => ho pins s2 σ H2 x y v u Q I2 rx ry q) hm
/-- a reading of a value as a test -/
def tTest (t : TE) : TT := fun σ H Q => t σ H fun x H' => ∃ k, x = .bl k ∧ Q k H'
theorem pt_cmpR {op : CmpOp} {r : R2} (ho : OpR X (compareOp op) r) (ha : PE X a ta) (hb : PE X b tb) (hm : behindInMarks op b = false) : PT X (.Compare a [op] [b] pos) (tTest (tOp r ta tb)) := by
  intro pins s σ H Q I h
  refine wpAny_isTrue_Compare1 (thn (ha pins s σ H _ I h) fun v s1 ⟨x, H1, I1, r1, q1⟩ => thn (hb pins s1 σ H1 _ I1 q1) fun u s2 ⟨y, H2, I2, r2, q2⟩ =>
    thn (ho pins s2 σ H2 x y v u _ I2 r1 r2 q2) fun c s3 ⟨z, H3, I3, r3, k, e, q3⟩ => ?_) hm
  subst e
  cases r3
  exact wpAny_truthy_bool ⟨H3, I3, q3⟩
/-- a op1 b op2 c -/
def tChain (r r' : R2) (ta tb tc : TE) : TE := fun σ H Q => ta σ H fun x H1 => tb σ H1 fun y H2 => r x y H2 fun z H3 => ∃ k, z = .bl k ∧
  (if k = true then tc σ H3 fun w' H4 => r' y w' H4 Q else Q (.bl false) H3)
theorem pe_chain {op op' : CmpOp} {r r' : R2} (ho : OpR X (compareOp op) r) (ho' : OpR X (compareOp op') r') (ha : PE X a ta) (hb : PE X b tb) (hc : PE X c tc)
    (hm : lastMarks [op, op'] [b, c] = false := by with_unfolding_all rfl) : PE X (.Compare a [op, op'] [b, c] pos) (tChain r r' ta tb tc) := by
  intro pins s σ H Q I h
  refine Compare_chain (thn (ha pins s σ H _ I h) fun v s1 ⟨x, H1, I1, r1, q1⟩ => chain_link (thn (hb pins s1 σ H1 _ I1 q1) fun u s2 ⟨y, H2, I2, r2, q2⟩ =>
    thn (ho pins s2 σ H2 x y v u _ I2 r1 r2 q2) fun d s3 ⟨z, H3, I3, r3, k, e, q3⟩ => ?_)) hm
  subst e
  cases r3
  refine wpAny_truthy_bool ?_
  cases k with
  | false => exact ite_ff ⟨.bl false, H3, I3, rfl, q3⟩
  | true => exact ite_tt (chain_last (thn (hc pins s3 σ H3 _ I3 q3) fun w' s4 ⟨z', H4, I4, r4, q4⟩ => ho' pins s4 σ H4 y z' u w' Q I4 r2 r4 q4))
theorem pt_chain {op op' : CmpOp} {r r' : R2} (ho : OpR X (compareOp op) r) (ho' : OpR X (compareOp op') r') (ha : PE X a ta) (hb : PE X b tb) (hc : PE X c tc)
    (hm : lastMarks [op, op'] [b, c] = false := by with_unfolding_all rfl) : PT X (.Compare a [op, op'] [b, c] pos) (tTest (tChain r r' ta tb tc)) := by
  intro pins s σ H Q I h
  refine isTrue_chain (thn (ha pins s σ H _ I h) fun v s1 ⟨x, H1, I1, r1, q1⟩ => test_link (thn (hb pins s1 σ H1 _ I1 q1) fun u s2 ⟨y, H2, I2, r2, q2⟩ =>
    thn (ho pins s2 σ H2 x y v u _ I2 r1 r2 q2) fun d s3 ⟨z, H3, I3, r3, k, e, q3⟩ => ?_)) hm
  subst e
  cases r3
  refine wpAny_truthy_bool ?_
  cases k with
  | false =>
    obtain ⟨k', e', q'⟩ := q3
    cases e'
    exact ite_ff ⟨H3, I3, q'⟩
  | true =>
    refine ite_tt (test_last (thn (hc pins s3 σ H3 _ I3 q3) fun w' s4 ⟨z', H4, I4, r4, q4⟩ => thn (ho' pins s4 σ H4 y z' u w' _ I4 r2 r4 q4) fun d' s5 ⟨z2, H5, I5, r5, k2, e2, q5⟩ => ?_))
    subst e2
    cases r5
    exact wpAny_truthy_bool ⟨H5, I5, q5⟩

/-! ### truth -/
/-- a value's truth by the abstract heap -/
def TruV (K : PySem.W.Frag) (x : V) (H : Hp) (k : Bool) : Prop :=
  match x with
  | .non => k = false
  | .bl b => k = b
  | .int i => k = (i != 0)
  | .str y => y.length ≤ sizeLine ∧ k = ((y.length : Int) != 0)
  | .byt y => y.size ≤ sizeLine ∧ k = ((y.size : Int) != 0)
  | .ref p => (∃ xs, SqL K H p xs ∧ k = !xs.isEmpty) ∨ (∃ xs, SqT K H p xs ∧ k = !xs.isEmpty) ∨ ∃ kvs, H p = some (.dK kvs) ∧ k = !kvs.isEmpty
  | _ => False
theorem isEmpty_kv {κ : Type} {kvs : List (κ × V)} {vs : List (κ × Value)} (r : KV kvs vs) : (!vs.isEmpty) = !kvs.isEmpty := by
  cases r <;> rfl
theorem isEmpty_of {xs : List V} {its : List Value} (r : Vals xs its) : (!its.toArray.isEmpty) = !xs.isEmpty := by
  cases r <;> simp
theorem line63 : (sizeLine : Nat) < 2 ^ 63 := by rw [sizeLine_eq]; decide
theorem tru_ok : TruR X (fun x H Q => ∃ k, TruV X.K x H k ∧ Q k H) := by
  intro pins s σ H x v Q I rx h
  obtain ⟨k, e, q⟩ := h
  have hl := line63
  have hs : sizeLine = 16777216 := sizeLine_eq
  cases x with
  | non =>
    cases rx
    have e' : k = false := e
    subst e'
    exact truthy_none ⟨H, I, q⟩
  | bl b =>
    cases rx
    have e' : k = b := e
    subst e'
    exact wpAny_truthy_bool ⟨H, I, q⟩
  | int i =>
    obtain ⟨t, rfl⟩ := rx
    have e' : k = (i != 0) := e
    subst e'
    exact PySem.P.truthy_int ⟨H, I, q⟩
  | str y =>
    obtain ⟨t, rfl⟩ := rx
    obtain ⟨hy, e'⟩ : y.length ≤ sizeLine ∧ k = ((y.length : Int) != 0) := e
    subst e'
    exact PySem.P.truthy_str (by omega) ⟨H, I.tok _, q⟩
  | byt y =>
    obtain ⟨t, rfl⟩ := rx
    obtain ⟨hy, e'⟩ : y.size ≤ sizeLine ∧ k = ((y.size : Int) != 0) := e
    subst e'
    exact PySem.W.truthy_bytes (by omega) ⟨H, I.tok _, q⟩
  | ref p =>
    cases rx
    have e' : (∃ xs, SqL X.K H p xs ∧ k = !xs.isEmpty) ∨ (∃ xs, SqT X.K H p xs ∧ k = !xs.isEmpty) ∨ ∃ kvs, H p = some (.dK kvs) ∧ k = !kvs.isEmpty := e
    rcases e' with ⟨xs, hx, e'⟩ | ⟨xs, hx, e'⟩ | ⟨kvs, hx, e'⟩
    · subst e'
      obtain ⟨its, r, pl, hz⟩ := I.list hx
      have hlen := r.length
      exact wpAny_truthy_list pl.isList (by simp only [List.size_toArray]; omega) ⟨H, I.tok _, by rw [isEmpty_of r]; exact q⟩
    · subst e'
      obtain ⟨its, r, pl, hz⟩ := I.tuple hx
      have hlen := r.length
      exact truthy_tuple pl (by simp only [List.size_toArray]; omega) ⟨H, I.tok _, by rw [isEmpty_of r]; exact q⟩
    · subst e'
      obtain ⟨hz, hS, vs, r, m⟩ : kvs.length ≤ sizeLine ∧ (p == sysModules) = false ∧ ∃ vs, KV kvs vs ∧ s.heap.DictOf (mixKind X.prog X.w) p vs := I.hok p _ hx
      have hlen : kvs.length = vs.length := Paired.length r
      exact wpAny_truthy_dict hS m (by omega) ⟨H, I.tok _, by rw [isEmpty_kv r]; exact q⟩
  | _ => exact (show False from e).elim
/-- any expression whose test is its value's truth (a name, a call, a subscript, a field ..: he by fun _ => rfl) -/
theorem pt_truth (ha : PE X a ta) (he : ∀ whole, isTrue a X.env whole = (do let v ← whole; standAt a.pos; holding [v] (truthy v))) :
    PT X a (fun σ H Q => ta σ H fun x H' => ∃ k, TruV X.K x H' k ∧ Q k H') := by
  intro pins s σ H Q I h
  exact isTrue_plain (thn (ha pins s σ H _ I h) fun v s1 ⟨x, H1, I1, r1, q1⟩ => tru_ok pins s1 σ H1 x v Q I1 r1 q1) (he _)

/-! ### strs and bytes -/
theorem pe_byt {x : List UInt8} {k : Nat} : PE X (.Constant (.bytes x) k pos) (fun _ H Q => Q (.byt x.toArray) H) := fun _ _ _ H _ I h => PySem.W.Constant_bytes ⟨.byt x.toArray, H, I.tok _, ⟨_, rfl⟩, h⟩
theorem op_add_str : OpR X (binaryOp .Add) (fun x y H Q => ∃ i j, x = .str i ∧ y = .str j ∧ i.length + j.length ≤ sizeLine ∧ Q (.str (i ++ j)) H) := by
  intro pins s σ H x y v u Q I rx ry h
  obtain ⟨i, j, rfl, rfl, hz, q⟩ := h
  obtain ⟨t, rfl⟩ := rx
  obtain ⟨t', rfl⟩ := ry
  exact add_str (fun t' tk => ⟨.str (i ++ j), H, I.tok _, ⟨_, rfl⟩, q⟩) hz
theorem iop_add_str : OpR X (inplaceOp .Add) (fun x y H Q => ∃ i j, x = .str i ∧ y = .str j ∧ i.length + j.length ≤ sizeLine ∧ Q (.str (i ++ j)) H) := by
  intro pins s σ H x y v u Q I rx ry h
  obtain ⟨i, j, rfl, rfl, hz, q⟩ := h
  obtain ⟨t, rfl⟩ := rx
  obtain ⟨t', rfl⟩ := ry
  exact iadd_str (fun t' tk => ⟨.str (i ++ j), H, I.tok _, ⟨_, rfl⟩, q⟩) hz
theorem op_add_byt : OpR X (binaryOp .Add) (fun x y H Q => ∃ i j, x = .byt i ∧ y = .byt j ∧ i.size + j.size ≤ 16777216 ∧ Q (.byt (i ++ j)) H) := by
  intro pins s σ H x y v u Q I rx ry h
  obtain ⟨i, j, rfl, rfl, hz, q⟩ := h
  obtain ⟨t, rfl⟩ := rx
  obtain ⟨t', rfl⟩ := ry
  exact PySem.W.KBy.add_bytes hz (fun t' tk => ⟨.byt (i ++ j), H, I.tok _, ⟨_, rfl⟩, q⟩)

def PlainIxT (b : Expr) : Prop := ∀ o i, subscripted b false o i = operate [o, i] (getItem o i)
/-- s[i], 0 ≤ i < len -/
theorem pe_item_str (ha : PE X a ta) (hb : PE X b tb) (hs : PlainIxT b) :
    PE X (.Subscript a b pos) (tOp (fun x y H Q => ∃ z i c, x = .str z ∧ y = .int i ∧ 0 ≤ i ∧ i < 2 ^ 63 ∧ i < z.length ∧ z.cps[i.toNat]? = some c ∧ Q (.str ⟨#[c]⟩) H) ta tb) := by
  intro pins s σ H Q I h
  refine Subscript_ (binT ha hb I h fun v u s2 x y H2 I2 rx ry q => ?_)
  obtain ⟨z, i, c, rfl, rfl, h0, h63, h1, hc, q⟩ := q
  obtain ⟨t, rfl⟩ := rx
  obtain ⟨t', rfl⟩ := ry
  have e : seqIndex? i z.length = some i.toNat := PySem.StrLaws.seqIndex_nonneg h0 h1
  exact tail_any (typeIs_str s2 z t) slot_str_getitem.lookup (getItem_str (c := c) (by
    have e1 : decide (i < -(2 ^ 63 : Int)) = false := decide_eq_false (by omega)
    have e2 : decide (i ≥ 2 ^ 63) = false := decide_eq_false (by omega)
    rw [e1, e2] <;> rfl) (by rw [e]; exact hc) ⟨.str ⟨#[c]⟩, H2, I2.tok _, ⟨_, rfl⟩, q⟩) (hs _ _)
/-- b[i], 0 ≤ i < len -/
theorem pe_item_byt (ha : PE X a ta) (hb : PE X b tb) (hs : PlainIxT b) :
    PE X (.Subscript a b pos) (tOp (fun x y H Q => ∃ (z : List UInt8) (i : Int), x = .byt z.toArray ∧ y = .int i ∧ z.length ≤ sizeLine ∧ 0 ≤ i ∧ i < z.length ∧ Q (.int ((z.getD i.toNat 0).toNat : Nat)) H) ta tb) := by
  intro pins s σ H Q I h
  refine Subscript_ (binT ha hb I h fun v u s2 x y H2 I2 rx ry q => ?_)
  obtain ⟨z, i, rfl, rfl, hz, h0, h1, q⟩ := q
  obtain ⟨t, rfl⟩ := rx
  obtain ⟨t', rfl⟩ := ry
  have hl : sizeLine = 16777216 := sizeLine_eq
  exact tail_any (PySem.W.typeIs_bytes s2 z.toArray t) PySem.W.FB.slot_bytes_getitem.lookup (PySem.W.getItem_bytes (by omega) h0 h1 ⟨.int ((z.getD i.toNat 0).toNat : Nat), H2, I2.tok _, ⟨_, rfl⟩, q⟩) (hs _ _)

/-! ### scalar builtins, by CallR -/
theorem vals1 {x : V} {us : List Value} (r : Vals [x] us) : ∃ u, us = [u] ∧ RelV x u := by
  cases r with
  | cons r1 r2 => cases r2; exact ⟨_, rfl, r1⟩
theorem vals2 {x y : V} {us : List Value} (r : Vals [x, y] us) : ∃ u w', us = [u, w'] ∧ RelV x u ∧ RelV y w' := by
  cases r with
  | cons r1 r2 =>
    cases r2 with
    | cons r3 r4 => cases r4; exact ⟨_, _, rfl, r1, r3⟩
theorem call_abs : CallR X (.builtin "abs") (fun xs H Q => ∃ i, xs = [.int i] ∧ Q (.int (if i < 0 then -i else i)) H) := by
  intro pins s σ H xs us Q I r h
  obtain ⟨i, rfl, q⟩ := h
  obtain ⟨u, rfl, t, rfl⟩ := vals1 r
  exact call_abs_int fun u tk => ⟨.int (if i < 0 then -i else i), H, I.tok _, ⟨_, rfl⟩, q⟩
theorem call_max2 (hc : X.calm = true) : CallR X (.builtin "max") (fun xs H Q => ∃ i j, xs = [.int i, .int j] ∧ Q (.int (if j > i then j else i)) H) := by
  intro pins s σ H xs us Q I r h
  obtain ⟨i, j, rfl, q⟩ := h
  obtain ⟨u, w', rfl, ⟨t, rfl⟩, ⟨t', rfl⟩⟩ := vals2 r
  refine max_two_ints (I.ok.hd hc) fun h' tk k => ⟨_, H, I.kept k, ?_, q⟩
  by_cases hj : j > i
  · rw [if_pos hj, if_pos hj]; exact ⟨_, rfl⟩
  · rw [if_neg hj, if_neg hj]; exact ⟨_, rfl⟩
theorem call_min2 (hc : X.calm = true) : CallR X (.builtin "min") (fun xs H Q => ∃ i j, xs = [.int i, .int j] ∧ Q (.int (if j < i then j else i)) H) := by
  intro pins s σ H xs us Q I r h
  obtain ⟨i, j, rfl, q⟩ := h
  obtain ⟨u, w', rfl, ⟨t, rfl⟩, ⟨t', rfl⟩⟩ := vals2 r
  refine min_two_ints (I.ok.hd hc) fun h' tk k => ⟨_, H, I.kept k, ?_, q⟩
  by_cases hj : j < i
  · rw [if_pos hj, if_pos hj]; exact ⟨_, rfl⟩
  · rw [if_neg hj, if_neg hj]; exact ⟨_, rfl⟩
theorem call_int1 : CallR X (.type "int") (fun xs H Q => (∃ i, xs = [.int i] ∧ Q (.int i) H) ∨ ∃ k, xs = [.bl k] ∧ Q (.int (if k then 1 else 0)) H) := by
  intro pins s σ H xs us Q I r h
  rcases h with ⟨i, rfl, q⟩ | ⟨k, rfl, q⟩
  · obtain ⟨u, rfl, t, rfl⟩ := vals1 r
    exact call_int_int ⟨.int i, H, I, ⟨_, rfl⟩, q⟩
  · obtain ⟨u, rfl, r1⟩ := vals1 r
    cases r1
    exact call_int_bool ⟨.int (if k then 1 else 0), H, I.tok _, ⟨_, rfl⟩, q⟩
theorem call_bool1 : CallR X (.type "bool") (fun xs H Q => (∃ i, xs = [.int i] ∧ Q (.bl (i != 0)) H) ∨ ∃ k, xs = [.bl k] ∧ Q (.bl k) H) := by
  intro pins s σ H xs us Q I r h
  rcases h with ⟨i, rfl, q⟩ | ⟨k, rfl, q⟩
  · obtain ⟨u, rfl, t, rfl⟩ := vals1 r
    exact call_bool_int ⟨.bl (i != 0), H, I, rfl, q⟩
  · obtain ⟨u, rfl, r1⟩ := vals1 r
    cases r1
    exact call_bool_bool ⟨.bl k, H, I, rfl, q⟩
theorem call_str_int : CallR X (.type "str") (fun xs H Q => ∃ i, xs = [.int i] ∧ i.natAbs.log2 < 1920 ∧ Q (.str (toString i)) H) := by
  intro pins s σ H xs us Q I r h
  obtain ⟨i, rfl, hz, q⟩ := h
  obtain ⟨u, rfl, t, rfl⟩ := vals1 r
  exact PySem.P.str_of_int hz ⟨.str _, H, I.tok _, ⟨_, rfl⟩, q⟩
theorem call_ord : CallR X (.builtin "ord") (fun xs H Q => ∃ x, xs = [.str x] ∧ x.length = 1 ∧ Q (.int (x.cps.getD 0 0 : Nat)) H) := by
  intro pins s σ H xs us Q I r h
  obtain ⟨x, rfl, hz, q⟩ := h
  obtain ⟨u, rfl, t, rfl⟩ := vals1 r
  exact ord_of_one hz ⟨.int _, H, I.tok _, ⟨_, rfl⟩, q⟩
theorem call_chr : CallR X (.builtin "chr") (fun xs H Q => ∃ i, xs = [.int i] ∧ 0 ≤ i ∧ i ≤ 1114111 ∧ Q (.str ⟨#[i.toNat]⟩) H) := by
  intro pins s σ H xs us Q I r h
  obtain ⟨i, rfl, h0, h1, q⟩ := h
  obtain ⟨u, rfl, t, rfl⟩ := vals1 r
  exact chr_of_range h0 h1 ⟨.str _, H, I.tok _, ⟨_, rfl⟩, q⟩
/-- len of a str, a bytes, a list, a tuple -/
def LenV (K : PySem.W.Frag) (x : V) (H : Hp) (n : Nat) : Prop :=
  match x with
  | .str y => y.length ≤ sizeLine ∧ n = y.length
  | .byt y => y.size ≤ sizeLine ∧ n = y.size
  | .ref p => (∃ xs, SqL K H p xs ∧ n = xs.length) ∨ ∃ xs, SqT K H p xs ∧ n = xs.length
  | _ => False
theorem call_len : CallR X (.builtin "len") (fun xs H Q => ∃ x n, xs = [x] ∧ LenV X.K x H n ∧ Q (.int n) H) := by
  intro pins s σ H xs us Q I r h
  obtain ⟨x, n, rfl, e, q⟩ := h
  obtain ⟨u, rfl, rx⟩ := vals1 r
  have hl := line63
  have hs : sizeLine = 16777216 := sizeLine_eq
  cases x with
  | str y =>
    obtain ⟨t, rfl⟩ := rx
    obtain ⟨hy, e'⟩ : y.length ≤ sizeLine ∧ n = y.length := e
    subst e'
    exact len_str (by omega) ⟨.int _, H, I.tok _, ⟨_, rfl⟩, q⟩
  | byt y =>
    obtain ⟨t, rfl⟩ := rx
    obtain ⟨hy, e'⟩ : y.size ≤ sizeLine ∧ n = y.size := e
    subst e'
    exact PySem.W.len_bytes (by omega) ⟨.int _, H, I.tok _, ⟨_, rfl⟩, q⟩
  | ref p =>
    cases rx
    have e' : (∃ xs, SqL X.K H p xs ∧ n = xs.length) ∨ ∃ xs, SqT X.K H p xs ∧ n = xs.length := e
    rcases e' with ⟨xs, hx, e'⟩ | ⟨xs, hx, e'⟩
    · subst e'
      obtain ⟨its, r', pl, hz⟩ := I.list hx
      have hlen := r'.length
      exact Calls.call_len_list pl.isList (by simp only [List.size_toArray]; omega) ⟨.int xs.length, H, I.tok _, ⟨_, by simp only [List.size_toArray]; rw [hlen]⟩, q⟩
    · subst e'
      obtain ⟨its, r', pl, hz⟩ := I.tuple hx
      have hlen := r'.length
      exact len_tuple pl (by simp only [List.size_toArray]; omega) ⟨.int xs.length, H, I.tok _, ⟨_, by simp only [List.size_toArray]; rw [hlen]⟩, q⟩
  | _ => exact (show False from e).elim
/-- divmod: a new tuple -/
theorem call_divmod : CallR X (.builtin "divmod") (fun xs H Q => ∃ i j, xs = [.int i, .int j] ∧ CDiv i j ∧ ∀ p, H p = none → Q (.ref p) (upd H p (.tup [.int (i / j), .int (i % j)]))) := by
  intro pins s σ H xs us Q I r h
  obtain ⟨i, j, rfl, ⟨h1, h2⟩, q⟩ := h
  obtain ⟨u, w', rfl, ⟨t, rfl⟩, ⟨t', rfl⟩⟩ := vals2 r
  refine divmod_int (by omega) ?_ (.inl (PyProof.noPylong_small (by omega)))
  rw [Int.fdiv_eq_ediv_of_nonneg i (by omega), Int.fmod_eq_emod_of_nonneg i (by omega)]
  have hn : H s.heap.objs.size = none := I.hok.fresh (Nat.le_refl _)
  refine ⟨.ref s.heap.objs.size, _, ?_, rfl, q _ hn⟩
  refine I.laid (fun b o e => Heap.get?_push_of_some _ e) (Nat.le_refl _) ⟨by simp only [List.length_cons, List.length_nil]; rw [sizeLine_eq]; decide, [.int (i / j) s.toks, .int (i % j) (s.toks + 1)], .cons ⟨_, rfl⟩ (.cons ⟨_, rfl⟩ .nil), ?_⟩
  exact ⟨_, Heap.get?_push_size s.heap rfl, rfl, 0, rfl⟩
end
end L2

namespace L2
open PySem PySem.Spec PyProof.Rows

/-! ### an instance, its attributes a map -/
structure ObjM (h : Heap) (x dx C : Addr) (mA : Str → Option Value) : Prop where
  obj : h.get? x = some (PySem.W.instObj C dx)
  ns : h.Ns1 dx mA
  ne : dx ≠ x

theorem lookIn_ns {h : Heap} {dx : Addr} {mA : Str → Option Value} (n : h.Ns1 dx mA) : ∃ od, h.get? dx = some od ∧ ∀ name, PySem.W.lookIn name od = some (mA name) := by
  obtain ⟨o, es, ep, ho, hd, hk, _, hm⟩ := n
  refine ⟨o, ho, fun name => ?_⟩
  have e := hm name
  unfold nsFind findBy at e
  rw [← Array.find?_toList] at e
  unfold PySem.W.lookIn
  rw [hd]
  dsimp only
  split
  · rename_i y q
    rw [q] at e
    exact congrArg some e
  · rename_i q
    rw [q] at e
    have a : es.toList.any (·.refKey) = false := by
      rw [List.any_eq_false]
      intro y hy
      obtain ⟨z, t, hkey⟩ := hk y (Array.mem_toList_iff.mp hy)
      simp [DictEntry.refKey, hkey]
    have a' : ¬ es.toList.any (·.refKey) = true := by rw [a]; exact Bool.false_ne_true
    rw [if_neg a']
    exact congrArg some e

theorem ObjM.look {h : Heap} {x dx C : Addr} {mA : Str → Option Value} (I : ObjM h x dx C mA) : ∃ od, PySem.W.InstAt h x (PySem.W.instObj C dx) C (some od) ∧ ∀ name, PySem.W.lookIn name od = some (mA name) :=
  let ⟨od, ho, hl⟩ := lookIn_ns I.ns
  ⟨od, ⟨I.obj, rfl, rfl, ho⟩, hl⟩

section
variable {prog : Program} {w : World} {A : Around} {E : Value → Shared → Prop} {s : Shared} {K : PySem.W.Frag} {x dx C f : Addr} {mA : Str → Option Value} {name : Str} {v : Value}

theorem get_map {expr : Bool} {Q : Value → Shared → Prop} (X : K.In s.heap) (I : ObjM s.heap x dx C mA) (hg : PySem.W.plainGet K C name = true) (hh : PySem.W.hasDictIn K C = true)
    (ha : PySem.W.findIn K (.ref C) name = some none) (hv : mA name = some v) (hv' : PySem.W.handedIn v = true) (h : Q v { s with toks := s.toks + 1 }) :
    wpAny (model prog w) A (getAttr (.ref x) name expr) Q E s := by
  obtain ⟨od, J, hl⟩ := I.look
  exact PySem.W.get_value X J (PySem.W.plainGet_of hg).1 (PySem.W.findObj_own hh ha rfl (by rw [hl, hv])) hv' h

theorem get_const {expr : Bool} {a : Value} {Q : Value → Shared → Prop} (X : K.In s.heap) (I : ObjM s.heap x dx C mA) (hg : PySem.W.plainGet K C name = true) (hh : PySem.W.hasDictIn K C = true)
    (ha : PySem.W.findIn K (.ref C) name = some (some a)) (hn : PySem.W.specialIn K a "__get__" = some none) (hc : PySem.W.copiedNames.contains name = false) (hv : mA name = none) (hv' : PySem.W.handedIn a = true)
    (h : Q a { s with toks := s.toks + 1 }) : wpAny (model prog w) A (getAttr (.ref x) name expr) Q E s := by
  obtain ⟨od, J, hl⟩ := I.look
  exact PySem.W.get_value X J (PySem.W.plainGet_of hg).1 (PySem.W.findObj_cls hh ha hn hv' hc (by rw [hl, hv])) hv' h

theorem get_meth {pl : Sem Bool} {Q : Value × List Value → Shared → Prop} (X : K.In s.heap) (I : ObjM s.heap x dx C mA) (hg : PySem.W.plainGet K C name = true)
    (hf : PySem.W.findIn K (.ref C) name = some (some (.ref f))) (ht : PySem.W.isFn K (.ref f) = true) (hv : mA name = none) (h : Q (.ref f, [.ref x]) s) :
    wpAny (model prog w) A (getMethod (.ref x) name pl) Q E s := by
  obtain ⟨od, J, hl⟩ := I.look
  exact PySem.W.method_fn X J (PySem.W.plainGet_of hg).1 (PySem.W.plainGet_of hg).2 hf (beq_iff_eq.mp ht) (by show (PySem.W.lookIn name od).map (·.isSome) = some false; rw [hl, hv]; rfl) h

theorem set_map {ns : List Str} {Q : Unit → Shared → Prop} (X : K.In s.heap) (I : ObjM s.heap x dx C mA)
    (hs : PySem.W.findIn K (.ref C) "__setattr__" = some (some (.builtin "object.__setattr__"))) (hp : PySem.W.plainOver K C = true) (ht : PySem.W.takerIn K C name = some none) (hh : PySem.W.hasDictIn K C = true)
    (hw : PySem.Within mA ns) (hsz : ns.length ≤ sizeLine)
    (h : ∀ h', ObjM h' x dx C (fun y => if y = name then some v else mA y) → Heap.SameBut dx s.heap h' → Q () { s with heap := h', toks := s.toks + 2 }) :
    wpAny (model prog w) A (setAttr (.ref x) name v) Q E s := by
  obtain ⟨od, J, hl⟩ := I.look
  refine PySem.W.set_plain X J hs (PySem.W.osa_open (s := { s with toks := s.toks + 1 }) (r := none) X J hp ht fun b => ?_)
  obtain ⟨cd, hc, hd'⟩ := PySem.W.any_some hh
  have hx : s.heap.get? x = some ⟨.ref C, some dx, .plain, #[]⟩ := I.obj
  refine wpAny_bind (wpAny_pure (wpAny_bind (wpAny_bind (wpAny_loadPart hx (wpAny_bind (PySem.W.Looks.here (s := { s with toks := s.toks + 1 }) (PySem.W.looks_clsIn X hc) ?_))))))
  rw [hd']
  refine wpAny_pure (a := some dx) (wpAny_bind (wpAny_pure (wpAny_bind ?_)))
  refine wpAny_nsSet1 (s := { s with toks := s.toks + 1 }) I.ns fun h' hn2 hs2 => ?_
  obtain ⟨oD, esD, epD, hoD, hdD, hcD⟩ := hn2.count (PySem.Within.cons name v hw)
  refine wpAny_bind (wpAny_lookBehind hoD (by rw [hdD]; exact pastItsLine_dict (Nat.le_trans hcD (by rw [List.length_cons]; omega))) ?_)
  exact wpAny_pure (h _ ⟨(hs2.2 _ (Ne.symm I.ne)).trans I.obj, hn2, I.ne⟩ hs2)

/-- C(..): the dict at the heap's end, the instance behind it; then its __init__ -/
theorem make_map {R : Result → Shared → Prop} {vs : List Value} {kw : List (Str × Value)} (X : K.In s.heap) (hm : PySem.W.makesIn K C = true)
    (hi : PySem.W.findIn K (.ref C) "__init__" = some (some (.ref f))) (hf : PySem.W.typeIn K (.ref f) = some (.type "function"))
    (h : codeAny (model prog w) (A.under (.builtin "type.__call__" ⟨.ref C :: vs, kw⟩)) (.call (.ref f) ⟨.ref (s.heap.objs.size + 1) :: vs, kw⟩) (PySem.W.InitBack (s.heap.objs.size + 1) R)
      { s with heap := (s.heap.push PySem.W.emptyDict).push (PySem.W.instObj C s.heap.objs.size) }) :
    codeAny (model prog w) A (.call (.ref C) ⟨vs, kw⟩) R s := by
  obtain ⟨hh, g, d, t, os⟩ := s
  exact PySem.W.make_core (PySem.W.makes_of X hm) (PySem.W.looks_findIn X hi) (fun self => PySem.W.bind_fn X self hf) (.inl rfl) h
/-- C() where there is no __init__ but object's -/
theorem make_map0 {R : Result → Shared → Prop} (X : K.In s.heap) (hm : PySem.W.makesIn K C = true)
    (hi : PySem.W.findIn K (.ref C) "__init__" = some (some (.builtin "object.__init__")))
    (hb : ∀ self, PySem.W.Looks (model prog w) s.heap (bindSpecial (.builtin "object.__init__") self) (.builtin "object.__init__", [self]))
    (h : codeAny (model prog w) (A.under (.builtin "type.__call__" ⟨[.ref C], []⟩)) (.call (.builtin "object.__init__") ⟨[.ref (s.heap.objs.size + 1)], []⟩) (PySem.W.InitBack (s.heap.objs.size + 1) R)
      { s with heap := (s.heap.push PySem.W.emptyDict).push (PySem.W.instObj C s.heap.objs.size) }) :
    codeAny (model prog w) A (.call (.ref C) ⟨[], []⟩) R s := by
  obtain ⟨hh, g, d, t, os⟩ := s
  exact PySem.W.make_core (PySem.W.makes_of X hm) (PySem.W.looks_findIn X hi) hb (.inr ⟨rfl, rfl⟩) h
end

/-! ### the attributes as a list of pairs -/
def putF (f : Str) (v : V) : List (Str × V) → List (Str × V)
  | [] => [(f, v)]
  | (g, x) :: r => if g = f then (g, v) :: r else (g, x) :: putF f v r
theorem lookup_putF (f g : Str) (v : V) : ∀ fs : List (Str × V), (putF f v fs).lookup g = if g = f then some v else fs.lookup g
  | [] => by
    show List.lookup g [(f, v)] = _
    by_cases h : g = f
    · have hb : (g == f) = true := beq_iff_eq.mpr h
      simp only [List.lookup, hb, if_pos h]
    · have hb : (g == f) = false := beq_eq_false_iff_ne.mpr h
      simp only [List.lookup, hb, if_neg h]
  | (k, x) :: r => by
    have ih := lookup_putF f g v r
    rw [show putF f v ((k, x) :: r) = (if k = f then (k, v) :: r else (k, x) :: putF f v r) from rfl]
    by_cases hk : k = f
    · rw [if_pos hk]
      by_cases h : g = k
      · have hb : (g == k) = true := beq_iff_eq.mpr h
        simp only [List.lookup, hb, if_pos (h.trans hk)]
      · have hb : (g == k) = false := beq_eq_false_iff_ne.mpr h
        simp only [List.lookup, hb, if_neg (fun e : g = f => h (e.trans hk.symm))]
    · rw [if_neg hk]
      by_cases h : g = k
      · have hb : (g == k) = true := beq_iff_eq.mpr h
        simp only [List.lookup, hb, if_neg (fun e : g = f => hk (h.symm.trans e))]
      · have hb : (g == k) = false := beq_eq_false_iff_ne.mpr h
        simp only [List.lookup, hb]
        exact ih
theorem keys_putF (f : Str) (v : V) : ∀ fs : List (Str × V), f ∈ (putF f v fs).map (·.1) ∧ ∀ g, g ∈ fs.map (·.1) → g ∈ (putF f v fs).map (·.1)
  | [] => ⟨by simp [putF], fun g h => by simp at h⟩
  | (k, x) :: r => by
    obtain ⟨i1, i2⟩ := keys_putF f v r
    rw [show putF f v ((k, x) :: r) = (if k = f then (k, v) :: r else (k, x) :: putF f v r) from rfl]
    by_cases hk : k = f
    · rw [if_pos hk]
      subst hk
      exact ⟨by simp, fun g h => by simpa using h⟩
    · rw [if_neg hk]
      refine ⟨?_, fun g h => ?_⟩
      · rw [List.map_cons]
        exact List.mem_cons_of_mem _ i1
      · rw [List.map_cons] at h ⊢
        rcases List.mem_cons.mp h with e | e
        · exact List.mem_cons.mpr (.inl e)
        · exact List.mem_cons_of_mem _ (i2 g e)
theorem length_putF (f : Str) (v : V) : ∀ fs : List (Str × V), (putF f v fs).length ≤ fs.length + 1
  | [] => by simp [putF]
  | (k, x) :: r => by
    have ih := length_putF f v r
    rw [show putF f v ((k, x) :: r) = (if k = f then (k, v) :: r else (k, x) :: putF f v r) from rfl]
    by_cases hk : k = f
    · rw [if_pos hk, List.length_cons, List.length_cons]; omega
    · rw [if_neg hk, List.length_cons, List.length_cons]; omega

theorem RelO.some_of {v : V} {o : Option Value} (r : RelO (some v) o) : ∃ u, o = some u ∧ RelV v u := by
  cases o with
  | none => exact (show False from r).elim
  | some u => exact ⟨u, rfl, r⟩
theorem RelO.none_of {o : Option Value} (r : RelO none o) : o = none := by
  cases o with
  | none => rfl
  | some u => exact (show False from r).elim
theorem handed_of {v : V} {u : Value} (r : RelV v u) : PySem.W.handedIn u = true := by
  cases v with
  | non => cases (show u = Value.none from r); rfl
  | bl b => cases (show u = Value.bool b from r); rfl
  | int i => obtain ⟨t, e⟩ := (show ∃ t, u = Value.int i t from r); cases e; rfl
  | str x => obtain ⟨t, e⟩ := (show ∃ t, u = Value.str x t from r); cases e; rfl
  | byt b => obtain ⟨t, e⟩ := (show ∃ t, u = Value.bytes b t from r); cases e; rfl
  | flt b => obtain ⟨t, e⟩ := (show ∃ t, u = Value.float b t from r); cases e; rfl
  | ref a => cases (show u = Value.ref a from r); rfl
  | ty n => cases (show u = Value.type n from r); rfl

section
variable {P : Program} {w : World} {H H' : Hp} {h h' : Heap} {a C dx : Addr} {fs fs' : List (Str × V)}
theorem ins_get (hok : HOk P w H h) (e : H a = some (.ins C dx fs)) : ∃ mA, ObjM h a dx C mA ∧ (∀ f, RelO (fs.lookup f) (mA f)) ∧ PySem.Within mA (fs.map (·.1)) ∧ fs.length ≤ 1000 ∧ H dx = some (.own a) := by
  obtain ⟨d, z, ne, ob, mA, n, r, q⟩ := (show ObjOk P w H h a (.ins C dx fs) from hok a _ e)
  exact ⟨mA, ⟨ob, n, ne⟩, r, q, z, d⟩
end

/-! ### what of the text a class must have -/
structure Cls (K : PySem.W.Frag) (C : Addr) : Prop where
  pg : PySem.W.plainGet K C Str.empty = true
  hd : PySem.W.hasDictIn K C = true
  po : PySem.W.plainOver K C = true
  sa : PySem.W.findIn K (.ref C) "__setattr__" = some (some (.builtin "object.__setattr__"))
theorem Cls.get {K : PySem.W.Frag} {C : Addr} (c : Cls K C) (f : Str) : PySem.W.plainGet K C f = true := c.pg
/-- no class of it has the name -/
def NoAttr (K : PySem.W.Frag) (C : Addr) (f : Str) : Prop := PySem.W.findIn K (.ref C) f = some none
theorem NoAttr.taker {K : PySem.W.Frag} {C : Addr} {f : Str} (n : NoAttr K C f) : PySem.W.takerIn K C f = some none := by
  unfold PySem.W.takerIn
  rw [show PySem.W.findIn K (.ref C) f = some none from n]
  rfl
/-- a constant of the class -/
structure Con (K : PySem.W.Frag) (C : Addr) (f : Str) (v : V) (u : Value) : Prop where
  at_ : PySem.W.findIn K (.ref C) f = some (some u)
  rel : RelV v u
  get : PySem.W.specialIn K u "__get__" = some none
  cp : PySem.W.copiedNames.contains f = false
/-- a method: a plain def of the class or of one above it -/
structure Meth (K : PySem.W.Frag) (C : Addr) (m : Str) (f : Addr) : Prop where
  at_ : PySem.W.findIn K (.ref C) m = some (some (.ref f))
  fn : PySem.W.isFn K (.ref f) = true
  kp : PySem.W.keepIn K (.ref f) = true

section
variable {X : Cx} {pins : List (Addr × Obj)} {σ : St} {H : Hp} {s : Shared} {a C dx : Addr} {fs : List (Str × V)} {f : Str} {v : V} {A : Around} {E : Value → Shared → Prop}

theorem getattr_ok {b : Bool} {Q : Value → Shared → Prop} (I : Inv X pins σ H s) (e : H a = some (.ins C dx fs)) (c : Cls X.K C) (n : NoAttr X.K C f) (l : fs.lookup f = some v)
    (h : ∀ u s', Inv X pins σ H s' → RelV v u → Q u s') : wpAny (model X.prog X.w) A (getAttr (.ref a) f b) Q E s := by
  obtain ⟨mA, O, r, _, _, _⟩ := ins_get I.hok e
  obtain ⟨u, hu, ru⟩ := RelO.some_of (v := v) (o := mA f) (by rw [← l]; exact r f)
  exact get_map I.kIn O (c.get f) c.hd n hu (handed_of ru) (h u _ (I.tok _) ru)

theorem getcon_ok {b : Bool} {u : Value} {Q : Value → Shared → Prop} (I : Inv X pins σ H s) (e : H a = some (.ins C dx fs)) (c : Cls X.K C) (k : Con X.K C f v u) (l : fs.lookup f = none)
    (h : ∀ s', Inv X pins σ H s' → Q u s') : wpAny (model X.prog X.w) A (getAttr (.ref a) f b) Q E s := by
  obtain ⟨mA, O, r, _, _, _⟩ := ins_get I.hok e
  have hn : mA f = none := RelO.none_of (by rw [← l]; exact r f)
  exact get_const I.kIn O (c.get f) c.hd k.at_ k.get k.cp hn (handed_of k.rel) (h _ (I.tok _))

theorem getmeth_ok {m : Str} {g : Addr} {pl : Sem Bool} {Q : Value × List Value → Shared → Prop} (I : Inv X pins σ H s) (e : H a = some (.ins C dx fs)) (c : Cls X.K C) (k : Meth X.K C m g) (l : fs.lookup m = none)
    (h : Q (.ref g, [.ref a]) s) : wpAny (model X.prog X.w) A (getMethod (.ref a) m pl) Q E s := by
  obtain ⟨mA, O, r, _, _, _⟩ := ins_get I.hok e
  have hn : mA m = none := RelO.none_of (by rw [← l]; exact r m)
  exact get_meth I.kIn O (c.get m) k.at_ k.fn hn h

theorem setattr_ok {y : V} {u : Value} {Q : Unit → Shared → Prop} (I : Inv X pins σ H s) (e : H a = some (.ins C dx fs)) (c : Cls X.K C) (n : NoAttr X.K C f) (hl : fs.length < 1000) (ry : RelV y u)
    (h : ∀ s', Inv X pins σ (upd H a (.ins C dx (putF f y fs))) s' → Q () s') : wpAny (model X.prog X.w) A (setAttr (.ref a) f u) Q E s := by
  obtain ⟨mA, O, r, wi, _, ho⟩ := ins_get I.hok e
  have hz : (fs.map (·.1)).length ≤ sizeLine := by rw [List.length_map, sizeLine_eq]; omega
  refine set_map I.kIn O c.sa c.po n.taker c.hd wi hz fun h' O' sb => h _ ?_
  have hd : ∃ o, h'.get? dx = some o := let ⟨o, _, _, e', _⟩ := O'.ns; ⟨o, e'⟩
  refine I.write (x := a) (e := dx) (by rw [e]; exact True.intro) (.inr ho) (fun b q hb z => (sb.2 b hb).trans z) hd ?_
  refine ⟨by rw [upd_ne O.ne]; exact ho, ?_, O.ne, O'.obj, _, O'.ns, fun g => ?_, fun g hg => ?_⟩
  · have := length_putF f y fs; omega
  · show RelO ((putF f y fs).lookup g) (if g = f then some u else mA g)
    rw [lookup_putF]
    by_cases q : g = f
    · rw [if_pos q, if_pos q]; exact ry
    · rw [if_neg q, if_neg q]; exact r g
  · by_cases q : g = f
    · rw [q]; exact (keys_putF f y fs).1
    · refine (keys_putF f y fs).2 g (wi g fun z => hg ?_)
      show (if g = f then some u else mA g) = none
      rw [if_neg q]; exact z

/-- a new instance, tracked, without attributes -/
theorem Inv.made (I : Inv X pins σ H s) : Inv X pins σ (upd (upd H s.heap.objs.size (.own (s.heap.objs.size + 1))) (s.heap.objs.size + 1) (.ins C s.heap.objs.size []))
    { s with heap := (s.heap.push PySem.W.emptyDict).push (PySem.W.instObj C s.heap.objs.size) } := by
  have e1 : (s.heap.push PySem.W.emptyDict).get? s.heap.objs.size = some PySem.W.emptyDict := Heap.get?_push_size s.heap rfl
  have e2 : ((s.heap.push PySem.W.emptyDict).push (PySem.W.instObj C s.heap.objs.size)).get? (s.heap.objs.size + 1) = some (PySem.W.instObj C s.heap.objs.size) := by
    have := Heap.get?_push_size (s.heap.push PySem.W.emptyDict) (o := PySem.W.instObj C s.heap.objs.size) rfl
    rwa [Heap.size_push] at this
  have e3 : (s.heap.push PySem.W.emptyDict).Ns s.heap.objs.size (fun _ => none) := ⟨PySem.W.emptyDict, #[], _, e1, rfl, (fun e he => absurd he (by simp)), fun _ => rfl⟩
  have I1 := I.laid (a := s.heap.objs.size) (o := .own (s.heap.objs.size + 1)) (h' := s.heap.push PySem.W.emptyDict) (t' := s.toks) (fun b u q => Heap.get?_push_of_some _ q) (Nat.le_refl _) ⟨_, e1⟩
  refine I1.laid (a := s.heap.objs.size + 1) (o := .ins C s.heap.objs.size []) (t' := s.toks) (fun b u q => Heap.get?_push_of_some _ q) (Nat.le_of_eq (Heap.size_push _ _)) ?_
  have ne : s.heap.objs.size ≠ s.heap.objs.size + 1 := Nat.ne_of_lt (Nat.lt_succ_self _)
  refine ⟨by rw [upd_ne ne, upd_same], Nat.zero_le _, ne, e2, fun _ => none, (Heap.Ns1.of_empty e3).at fun o q => Heap.get?_push_of_some _ q, fun _ => True.intro, fun y hy => absurd rfl hy⟩

/-- e.f where nothing but the object is asked: through attributeBase (super) and the last hold -/
theorem attr_of {prog : Program} {w : World} {env : Env} {e : Expr} {f : Str} {pos : Pos} {s : Shared} {Q : Value → Shared → Prop} (hb : attributeBase e f env (eval e env) = eval e env)
    (h : wpAny (model prog w) A (eval e env) (fun o s₁ => wpAny (model prog w) A (getAttr o f true) Q E s₁) E s) : wpAny (model prog w) A (eval (.Attribute e f pos) env) Q E s :=
  Attribute_any_ h (by rw [arm_eval_Attribute, hb])
end

/-! ### readings and rules -/
/-- e.f, an attribute of the instance -/
def tFld (K : PySem.W.Frag) (ta : TE) (f : Str) : TE := fun σ H Q => ta σ H fun x H1 => ∃ a C dx fs v, x = .ref a ∧ H1 a = some (.ins C dx fs) ∧ Cls K C ∧ NoAttr K C f ∧ fs.lookup f = some v ∧ Q v H1
/-- e.f, a constant of the class -/
def tCon (K : PySem.W.Frag) (ta : TE) (f : Str) : TE := fun σ H Q => ta σ H fun x H1 => ∃ a C dx fs v u, x = .ref a ∧ H1 a = some (.ins C dx fs) ∧ Cls K C ∧ Con K C f v u ∧ fs.lookup f = none ∧ Q v H1
/-- e.f = value -/
def sFld (K : PySem.W.Frag) (ta tv : TE) (f : Str) : TS := fun D σ H => tv σ H fun y H1 => ta σ H1 fun x H2 => ∃ a C dx fs, x = .ref a ∧ H2 a = some (.ins C dx fs) ∧ Cls K C ∧ NoAttr K C f ∧ fs.length < 1000 ∧
  D.nx σ (upd H2 a (.ins C dx (putF f y fs)))
/-- an augmented operator on two values -/
def InOp (X : Cx) (op : Operator) (rd : V → V → Hp → VK → Prop) : Prop :=
  ∀ (pins : List (Addr × Obj)) (s : Shared) (σ : St) (H : Hp) (x y : V) (u v : Value) (Q : VK), Inv X pins σ H s → RelV x u → RelV y v → rd x y H Q → wpAny (model X.prog X.w) X.A (inplaceOp op u v) (EP X pins σ Q) X.xe s
/-- e.f op= value -/
def sFldAug (K : PySem.W.Frag) (ta tv : TE) (rd : V → V → Hp → VK → Prop) (f : Str) : TS := fun D σ H => ta σ H fun x H1 => ∃ a C dx fs v, x = .ref a ∧ H1 a = some (.ins C dx fs) ∧ Cls K C ∧ NoAttr K C f ∧ fs.lookup f = some v ∧
  tv σ H1 fun y H2 => rd v y H2 fun z H3 => ∃ dx' fs', H3 a = some (.ins C dx' fs') ∧ fs'.length < 1000 ∧ D.nx σ (upd H3 a (.ins C dx' (putF f z fs')))

section
variable {X : Cx} {o e value : Expr} {f : Str} {pos pos' tpos : Pos} {ta tv : TE}
theorem pe_fld (he : PE X e ta) (hb : attributeBase e f X.env (eval e X.env) = eval e X.env) : PE X (.Attribute e f pos) (tFld X.K ta f) := by
  intro pins s σ H Q I h
  refine attr_of hb (thn (he pins s σ H _ I h) fun u s1 ⟨x, H1, I1, rx, a, C, dx, fs, v, ex, ea, c, n, l, q⟩ => ?_)
  subst ex
  obtain rfl : u = Value.ref a := rx
  exact getattr_ok I1 ea c n l fun u' s2 I2 ru => ⟨v, H1, I2, ru, q⟩
theorem pe_con (he : PE X e ta) (hb : attributeBase e f X.env (eval e X.env) = eval e X.env) : PE X (.Attribute e f pos) (tCon X.K ta f) := by
  intro pins s σ H Q I h
  refine attr_of hb (thn (he pins s σ H _ I h) fun u s1 ⟨x, H1, I1, rx, a, C, dx, fs, v, u0, ex, ea, c, k, l, q⟩ => ?_)
  subst ex
  obtain rfl : u = Value.ref a := rx
  exact getcon_ok I1 ea c k l fun s2 I2 => ⟨v, H1, I2, k.rel, q⟩
theorem ps_fld (ha : PE X o ta) (hv : PE X value tv) (hs : swapsWith value (some (.Attribute o f pos')) pos.line X.env = pure false) : PS X (.Assign [.Attribute o f pos'] value pos) (sFld X.K ta tv f) := by
  intro pins s σ H D I h
  refine plainObj_wpAny_Assign_Attribute (thn (hv pins s σ H _ I h) fun u s1 ⟨y, H1, I1, ry, q⟩ => thn (ha pins s1 σ H1 _ I1 q) fun ov s2 ⟨x, H2, I2, rx, a, C, dx, fs, ex, ea, c, n, l, q2⟩ => ?_) hs
  subst ex
  obtain rfl : ov = Value.ref a := rx
  exact setattr_ok I2 ea c n l ry fun s3 I3 => ⟨σ, _, I3, q2⟩
theorem ps_fldaug {op : Operator} {rd : V → V → Hp → VK → Prop} (ha : PE X o ta) (hv : PE X value tv) (hop : InOp X op rd) : PS X (.AugAssign (.Attribute o f tpos) op value pos) (sFldAug X.K ta tv rd f) := by
  intro pins s σ H D I h
  refine wpAny_AugAssign_AttributeAny (thn (ha pins s σ H _ I h) fun ov s1 ⟨x, H1, I1, rx, a, C, dx, fs, v, ex, ea, c, n, l, q⟩ => ?_)
  subst ex
  obtain rfl : ov = Value.ref a := rx
  refine getattr_ok I1 ea c n l fun u s2 I2 ru => thn (hv pins s2 σ H1 _ I2 q) fun w3 s3 ⟨y, H2, I3, ry, q3⟩ => thn (hop pins s3 σ H2 v y u w3 _ I3 ru ry q3) fun w4 s4 ⟨z, H3, I4, rz, dx', fs', ea', l', q4⟩ => ?_
  exact setattr_ok I4 ea' c n l' rz fun s5 I5 => ⟨σ, _, I5, q4⟩
def rAdd : V → V → Hp → VK → Prop := fun x y H Q => ∃ i j, x = .int i ∧ y = .int j ∧ Q (.int (i + j)) H
def rSub : V → V → Hp → VK → Prop := fun x y H Q => ∃ i j, x = .int i ∧ y = .int j ∧ Q (.int (i - j)) H
theorem in_add : InOp X .Add rAdd := by
  rintro pins s σ H x y u v Q I rx ry ⟨i, j, rfl, rfl, q⟩
  obtain ⟨t, rfl⟩ := (show ∃ t, u = Value.int i t from rx)
  obtain ⟨t', rfl⟩ := (show ∃ t', v = Value.int j t' from ry)
  exact PyProof.Rows.iadd_int ⟨.int (i + j), H, I.tok _, ⟨_, rfl⟩, q⟩
theorem in_sub : InOp X .Sub rSub := by
  rintro pins s σ H x y u v Q I rx ry ⟨i, j, rfl, rfl, q⟩
  obtain ⟨t, rfl⟩ := (show ∃ t, u = Value.int i t from rx)
  obtain ⟨t', rfl⟩ := (show ∃ t', v = Value.int j t' from ry)
  exact PyProof.Rows.isub_int ⟨.int (i - j), H, I.tok _, ⟨_, rfl⟩, q⟩

/-- what is between an instance and its method: the tree of a method call -/
theorem methcall_of {pl : Sem Bool} {m : Str} {apos : Pos} {args : List Expr} {pins : List (Addr × Obj)} {s : Shared} {σ : St} {H : Hp} {Q : Value → Shared → Prop} {te : TE} (he : PE X e te) (I : Inv X pins σ H s)
    (h : te σ H fun x H1 => ∃ a C dx fs g, x = .ref a ∧ H1 a = some (.ins C dx fs) ∧ Cls X.K C ∧ Meth X.K C m g ∧ fs.lookup m = none ∧
      ∀ s1, Inv X pins σ H1 s1 → wpAny (model X.prog X.w) X.A (callWith pos (.ref g) [.ref a] (backTo pos (starEach args X.env)) (backToKw pos (keywordEach [] X.env))) Q X.xe s1)
    (ht : eval (.Call (.Attribute e m apos) args [] pos) X.env = (do
      let ov ← eval e X.env
      standAt apos.atName
      let (f, first) ← holding [ov] (getMethod ov m pl)
      callWith pos f first (backTo pos (starEach args X.env)) (backToKw pos (keywordEach [] X.env)))) :
    wpAny (model X.prog X.w) X.A (eval (.Call (.Attribute e m apos) args [] pos) X.env) Q X.xe s := by
  refine PySem.W.methodCall_KW (pl := pl) (thn (he pins s σ H _ I h) fun u s1 ⟨x, H1, I1, rx, a, C, dx, fs, g, ex, ea, c, k, l, q⟩ => ?_) ht
  subst ex
  obtain rfl : u = Value.ref a := rx
  exact getmeth_ok I1 ea c k l (q s1 I1)
end

/-! ### isinstance -/
section
variable {X : Cx} {pins : List (Addr × Obj)} {σ : St} {H : Hp} {s : Shared} {A : Around} {E : Value → Shared → Prop} {Q : Value → Shared → Prop} {c : Value} {b : Bool}
/-- the type of a value, as the fragment's deciders take it; for an instance its class -/
inductive TyOf (K : PySem.W.Frag) (H : Hp) : V → Value → Prop where
  | non : TyOf K H .non (.type "NoneType")
  | bl (x : Bool) : TyOf K H (.bl x) (.type "bool")
  | int (i : Int) : TyOf K H (.int i) (.type "int")
  | str (x : Str) : TyOf K H (.str x) (.type "str")
  | flt (x : UInt64) : TyOf K H (.flt x) (.type "float")
  | lst {a : Addr} {xs : List V} (e : H a = some (.lst xs)) : TyOf K H (.ref a) (.type "list")
  | frz {a : Addr} {o : Obj} {xs : List V} (e : H a = some (.frz o (.lst xs))) : TyOf K H (.ref a) (.type "list")
  | tup {a : Addr} {xs : List V} (e : H a = some (.tup xs)) : TyOf K H (.ref a) (.type "tuple")
  | dK {a : Addr} {kvs : List (Key × V)} (e : H a = some (.dK kvs)) : TyOf K H (.ref a) (.type "dict")
  | dT {a : Addr} {kvs : List (List Key × V)} (e : H a = some (.dT kvs)) : TyOf K H (.ref a) (.type "dict")
  | ins {a C dx : Addr} {fs : List (Str × V)} (e : H a = some (.ins C dx fs)) (cl : Cls K C) (ha : PySem.W.findIn K (.ref C) "__class__" = some (some (.builtin "object.__class__")))
      (hn : PySem.W.specialIn K (.builtin "object.__class__") "__get__" = some (some (.builtin "getset_descriptor.__get__"))) (htk : PySem.W.takesIn K (.builtin "object.__class__") = some true)
      (hm : PySem.W.mroIn K C (.type "object") = some true) : TyOf K H (.ref a) (.ref C)
/-- isinstance(x, c) for one class c, a built-in or an own one: kitOne's answer -/
theorem isinst_ok {x : V} {u t : Value} (I : Inv X pins σ H s) (rx : RelV x u) (ty : TyOf X.K H x t) (e : PySem.W.kitOne X.K t c = some b) (h : ∀ tk, Q (.bool b) { s with toks := tk }) :
    wpAny (model X.prog X.w) A (call (.builtin "isinstance") [u, c]) Q E s := by
  cases ty with
  | non => cases (show u = Value.none from rx); exact PySem.W.kia_one PySem.W.kitx_none I.kIn True.intro e (fun z => nomatch z) h
  | bl y => cases (show u = Value.bool y from rx); exact PySem.W.kia_one PySem.W.kitx_bool I.kIn True.intro e (fun z => nomatch z) h
  | int i => obtain ⟨t, q⟩ := (show ∃ t, u = Value.int i t from rx); cases q; exact PySem.W.kia_one PySem.W.kitx_int I.kIn True.intro e (fun z => nomatch z) h
  | str y => obtain ⟨t, q⟩ := (show ∃ t, u = Value.str y t from rx); cases q; exact PySem.W.kia_one PySem.W.kitx_str I.kIn True.intro e (fun z => nomatch z) h
  | flt y => obtain ⟨t, q⟩ := (show ∃ t, u = Value.float y t from rx); cases q; exact PySem.W.kia_one PySem.W.kitx_float I.kIn True.intro e (fun z => nomatch z) h
  | @lst a xs ea =>
    cases (show u = Value.ref a from rx)
    obtain ⟨_, _, n, _, h1⟩ := (show ObjOk X.prog X.w H s.heap a (.lst xs) from I.hok a _ ea)
    exact PySem.W.kia_one PySem.W.kitx_list I.kIn ⟨_, h1, rfl⟩ e (fun z => nomatch z) h
  | @frz a ob xs ea =>
    cases (show u = Value.ref a from rx)
    obtain ⟨_, _, _, n, _, h1⟩ := (show ObjOk X.prog X.w H s.heap a (.frz ob (.lst xs)) from I.hok a _ ea)
    exact PySem.W.kia_one PySem.W.kitx_list I.kIn ⟨_, h1, rfl⟩ e (fun z => nomatch z) h
  | @tup a xs ea =>
    cases (show u = Value.ref a from rx)
    obtain ⟨_, _, _, p⟩ := (show ObjOk X.prog X.w H s.heap a (.tup xs) from I.hok a _ ea)
    obtain ⟨o, h1, h2, _⟩ := p
    exact PySem.W.kia_one PySem.W.kitx_tuple I.kIn ⟨o, h1, h2⟩ e (fun z => nomatch z) h
  | @dK a kvs ea =>
    cases (show u = Value.ref a from rx)
    obtain ⟨_, _, vs, _, p⟩ := (show ObjOk X.prog X.w H s.heap a (.dK kvs) from I.hok a _ ea)
    obtain ⟨o, es, ep, h1, h2, _⟩ := p
    exact PySem.W.kia_one PySem.W.kitx_dict I.kIn ⟨o, h1, h2.1⟩ e (fun z => nomatch z) h
  | @dT a kvs ea =>
    cases (show u = Value.ref a from rx)
    obtain ⟨_, _, xs, _, o, es, ep, h1, h2, _⟩ := (show ObjOk X.prog X.w H s.heap a (.dT kvs) from I.hok a _ ea)
    exact PySem.W.kia_one PySem.W.kitx_dict I.kIn ⟨o, h1, h2.1⟩ e (fun z => nomatch z) h
  | @ins a C dx fs ea cl ha hn htk hm =>
    cases (show u = Value.ref a from rx)
    obtain ⟨mA, O, _⟩ := ins_get I.hok ea
    obtain ⟨od, J, _⟩ := O.look
    exact PySem.W.kia_one (PySem.W.kitx_own (cl.get _) cl.hd ha hn htk hm) I.kIn J e (fun z => nomatch z) h
end
end L2

namespace L2
open PySem PySem.Spec PyProof.Rows

/-! ### room -/
structure Room (k : Nat) (A : Around) : Prop where
  hd : A.handled = none
  dp : A.depth + 3 * k + 5 < recursionLimit
  un : A.units + 16 * k + 200 < cLine
theorem Room.mono {j k : Nat} {A : Around} (r : Room k A) (h : j ≤ k) : Room j A := ⟨r.hd, by have := r.dp; omega, by have := r.un; omega⟩
theorem Room.deeper {k : Nat} {A : Around} (r : Room (k + 1) A) (env : Env) : Room k (A.deeper env) :=
  ⟨r.hd, by have := r.dp; show A.depth + 1 + 3 * k + 5 < _; omega, by have := r.un; show A.units + 3 + 16 * k + 200 < _; omega⟩
theorem Room.in1 {k : Nat} {A : Around} (r : Room (k + 1) A) : Room k A.in1 :=
  ⟨r.hd, by have := r.dp; show A.depth + 3 * k + 5 < _; omega, by have := r.un; show A.units + 1 + 16 * k + 200 < _; omega⟩
theorem make_depth {A : Around} {C : Addr} {us : List Value} {kw : List (Str × Value)} : (A.under (.builtin "type.__call__" ⟨.ref C :: us, kw⟩)).depth = A.depth + 1 := by
  first | rfl | simp [Around.under, Code.weight, Code.isCreation, Code.isGuard, Code.isCaller, Code.frames, Code.isFrame, guardIds]
theorem make_units {A : Around} {C : Addr} {us : List Value} {kw : List (Str × Value)} : (A.under (.builtin "type.__call__" ⟨.ref C :: us, kw⟩)).units = A.units + 1 := by
  first | rfl | simp [Around.under, Code.cUnits, Code.frames, Code.isFrame]
theorem Room.make {k : Nat} {A : Around} (r : Room (k + 1) A) (C : Addr) (us : List Value) (kw : List (Str × Value)) : Room k (A.under (.builtin "type.__call__" ⟨.ref C :: us, kw⟩)) :=
  ⟨r.hd, by have := r.dp; rw [make_depth]; omega, by have := r.un; rw [make_units]; omega⟩
theorem Room.depth {k : Nat} {A : Around} (r : Room k A) : A.depth < recursionLimit := by have := r.dp; omega
theorem Room.units {k : Nat} {A : Around} (r : Room k A) : A.units + 64 < cLine := by have := r.un; omega
theorem Room.units0 {k : Nat} {A : Around} (r : Room k A) : A.units < cLine := by have := r.un; omega

/-! ### argument lists and displays -/
def tNil : TA := fun _ H Q => Q [] H
def tCons (ta : TE) (tr : TA) : TA := fun σ H Q => ta σ H fun x H1 => tr σ H1 fun xs H2 => Q (x :: xs) H2
section
variable {X : Cx} {e : Expr} {es : List Expr} {te : TE} {t : TA} {pos : Pos}
theorem pa_nil : PA X [] tNil := fun _ _ _ _ H Q I h => Calls.spliced_nil ⟨[], H, I, .nil, h⟩
theorem pa_cons (ha : PE X e te) (hr : PA X es t) (hs : starEach (e :: es) X.env = (false, eval e X.env) :: starEach es X.env := by rfl) : PA X (e :: es) (tCons te t) := by
  intro pos pins s σ H Q I h
  rw [hs]
  show wpAny _ _ (spliced ((false, eval e X.env) :: backTo pos (starEach es X.env))) _ _ s
  refine Calls.spliced_cons (thn (ha pins s σ H _ I h) fun u s1 ⟨x, H1, I1, r1, q1⟩ => ?_)
  exact thn (hr pos pins s1 σ H1 _ I1 q1) fun us s2 ⟨xs, H2, I2, r2, q2⟩ => ⟨x :: xs, H2, I2, .cons r1 r2, q2⟩

/-- a tuple, a list of written items -/
def tTup (t : TA) : TE := fun σ H Q => t σ H fun xs H1 => xs.length ≤ sizeLine ∧ ∀ p, H1 p = none → Q (.ref p) (upd H1 p (.tup xs))
def tLst (t : TA) : TE := fun σ H Q => t σ H fun xs H1 => xs.length ≤ sizeLine ∧ ∀ p, H1 p = none → Q (.ref p) (upd H1 p (.lst xs))
theorem pe_tup {x1} (h : PA X es t) : PE X (.Tuple es x1 pos) (tTup t) := by
  intro pins s σ H Q I hq
  refine wpAny_Tuple_spliced (thn (h pos pins s σ H _ I hq) fun us s1 ⟨xs, H1, I1, r, z, q⟩ => ⟨by rw [← r.length]; exact z, ?_⟩)
  have hf : H1 s1.heap.objs.size = none := I1.hok.fresh (Nat.le_refl _)
  refine ⟨.ref s1.heap.objs.size, upd H1 s1.heap.objs.size (.tup xs), I1.laid (t' := s1.toks) (fun b u e => Heap.get?_push_of_some _ e) (Nat.le_refl _) ?_, rfl, q _ hf⟩
  exact ⟨z, us, r, ⟨_, Heap.get?_push_size _ rfl, rfl, _, rfl⟩⟩
theorem pe_lst (h : PA X es t) : PE X (.List es pos) (tLst t) := by
  intro pins s σ H Q I hq
  refine wpAny_List_spliced (thn (h pos pins s σ H _ I hq) fun us s1 ⟨xs, H1, I1, r, z, q⟩ => ⟨by rw [← r.length]; exact z, ?_⟩)
  have hf : H1 s1.heap.objs.size = none := I1.hok.fresh (Nat.le_refl _)
  refine ⟨.ref s1.heap.objs.size, upd H1 s1.heap.objs.size (.lst xs), I1.laid (t' := s1.toks) (fun b u e => Heap.get?_push_of_some _ e) (Nat.le_refl _) ?_, rfl, q _ hf⟩
  exact ⟨z, us, 0, r, Heap.get?_push_size _ rfl⟩
end

/-! ### what a def promises -/
/-- a def's promise: the bound arguments in the parameters' order, the heap, the wanted end, the wanted exception -/
abbrev Sp := List V → Hp → VK → XK → Prop
/-- how an exception lies behind a call (file 08 gives it): the callers' frames, abstract heap and state ahead of the call, the wish, the exception, the state -/
abbrev CXT := List Env → Hp → Shared → XK → Value → Shared → Prop

/-- the state at a call -/
structure Env0 (P : Program) (w : World) (K : PySem.W.Frag) (mg : Str → Option Value) (base : Heap) (A : Around) (outer : List Env) (s : Shared) (H : Hp) : Prop where
  frames : A.frames = some outer
  mod : Mod K mg base
  bs : ∀ b o, base.get? b = some o → s.heap.get? b = some o ∧ H b = none
  bsz : base.objs.size ≤ s.heap.objs.size
  funs : s.heap.FunFrames base outer
  frf : ∀ b ∈ frs outer, H b = none
  hok : HOk P w H s.heap
  bare : AllBare s.gens
/-- a call's end -/
def CE (outer : List Env) (P : Program) (w : World) (H : Hp) (s : Shared) (Q : VK) (u : Value) (s' : Shared) : Prop :=
  ∃ v H', s'.os = s.os ∧ AllBare s'.gens ∧ Un (frs outer) [] H H' s.heap s'.heap ∧ HOk P w H' s'.heap ∧ RelV v u ∧ Q v H'
def CR (CX : CXT) (outer : List Env) (P : Program) (w : World) (H : Hp) (s : Shared) (Q : VK) (E : XK) (r : Result) (s' : Shared) : Prop :=
  match r with
  | .ok (.ret u) => CE outer P w H s Q u s'
  | .ok _ => False
  | .error e => CX outer H s E e s'
structure FnOk (P : Program) (w : World) (K : PySem.W.Frag) (mg : Str → Option Value) (base : Heap) (CX : CXT) (k : Nat) (f : Addr) (fd : FuncData) (ps : List Str) (sp : Sp) : Prop where
  len : ∀ vs H Q E, sp vs H Q E → vs.length = ps.length
  run : ∀ (A : Around) (outer : List Env) (s : Shared) (H : Hp) (args : Args) (us : List Value) (vs : List V) (Q : VK) (E : XK), Room k A → Env0 P w K mg base A outer s H → BindsTo s fd args (ps.zip us) → Vals vs us → sp vs H Q E →
    codeAny (model P w) A (.call (.ref f) args) (CR CX outer P w H s Q E) s
theorem FnOk.mono {P : Program} {w : World} {K : PySem.W.Frag} {mg : Str → Option Value} {base : Heap} {CX : CXT} {j k : Nat} {f : Addr} {fd : FuncData} {ps : List Str} {sp : Sp} (F : FnOk P w K mg base CX j f fd ps sp) (h : j ≤ k) :
    FnOk P w K mg base CX k f fd ps sp := ⟨F.len, fun A outer s H args us vs Q E hr => F.run A outer s H args us vs Q E (hr.mono h)⟩
/-- a weaker promise -/
theorem FnOk.imp {P : Program} {w : World} {K : PySem.W.Frag} {mg : Str → Option Value} {base : Heap} {CX : CXT} {k : Nat} {f : Addr} {fd : FuncData} {ps : List Str} {sp sp' : Sp} (F : FnOk P w K mg base CX k f fd ps sp)
    (h : ∀ vs H Q E, sp' vs H Q E → sp vs H Q E) : FnOk P w K mg base CX k f fd ps sp' :=
  ⟨fun vs H Q E q => F.len vs H Q E (h _ _ _ _ q), fun A outer s H args us vs Q E hr he hb hv hs => F.run A outer s H args us vs Q E hr he hb hv (h _ _ _ _ hs)⟩

theorem Env0.make {P : Program} {w : World} {K : PySem.W.Frag} {mg : Str → Option Value} {base : Heap} {A : Around} {outer : List Env} {s : Shared} {H : Hp} (e : Env0 P w K mg base A outer s H) (C : Addr) (us : List Value) (kw : List (Str × Value)) :
    Env0 P w K mg base (A.under (.builtin "type.__call__" ⟨.ref C :: us, kw⟩)) outer s H := ⟨by first | exact e.frames | (simpa [Around.under, Code.envs, Code.isFrame, pushEnvs] using e.frames), e.mod, e.bs, e.bsz, e.funs, e.frf, e.hok, e.bare⟩
theorem Env0.in1 {P : Program} {w : World} {K : PySem.W.Frag} {mg : Str → Option Value} {base : Heap} {A : Around} {outer : List Env} {s : Shared} {H : Hp} (e : Env0 P w K mg base A outer s H) :
    Env0 P w K mg base A.in1 outer s H := ⟨e.frames, e.mod, e.bs, e.bsz, e.funs, e.frf, e.hok, e.bare⟩

section
variable {X : Cx} {pins : List (Addr × Obj)} {σ : St} {H : Hp} {s s' : Shared}
/-- from a body: what a callee wants -/
theorem Inv.env0 (I : Inv X pins σ H s) : Env0 X.prog X.w X.K X.mg X.base X.A X.stack s H :=
  ⟨I.ok.frames, I.ok.mod, I.bs, Nat.le_trans I.ok.bsz I.sz, I.stack, I.stkFree, I.hok, I.bare⟩
/-- behind a call -/
theorem Inv.after {Q : VK} {u : Value} (I : Inv X pins σ H s) (h : CE X.stack X.prog X.w H s Q u s') : EP X pins σ Q u s' := by
  obtain ⟨v, H', os, bare, un, hok, r, q⟩ := h
  obtain ⟨hh, g, d, t, os'⟩ := s'
  obtain rfl : os' = s.os := os
  exact ⟨v, H', I.call (h' := hh) (g' := g) (d' := d) (t' := t) (ch := []) un hok bare (fun b z => absurd z (by simp)), r, q⟩
end

/-! ### calls -/
/-- f(..): the written arguments, then the defaults dvs; E: what is wanted of an exception -/
def tCall (sp : Sp) (dvs : List V) (E : XK) (t : TA) : TE := fun σ H Q => t σ H fun vs H1 => sp (vs ++ dvs) H1 Q E
/-- o.m(..) of an instance of the class at C -/
def tMeth (C : Addr) (m : Str) (sp : Sp) (dvs : List V) (E : XK) (ta : TE) (t : TA) : TE := fun σ H Q => ta σ H fun x H1 => ∃ a dx fs, x = .ref a ∧ H1 a = some (.ins C dx fs) ∧ fs.lookup m = none ∧
  t σ H1 fun vs H2 => sp (x :: (vs ++ dvs)) H2 Q E
/-- C(..): a new instance and its dict, then __init__ -/
def tMake (C : Addr) (sp : Sp) (dvs : List V) (E : XK) (t : TA) : TE := fun σ H Q => t σ H fun vs H1 => ∀ x dx, H1 x = none → H1 dx = none → dx ≠ x →
  sp (.ref x :: (vs ++ dvs)) (upd (upd H1 dx (.own x)) x (.ins C dx [])) (fun v H2 => v = .non ∧ Q (.ref x) H2) E

/-- how the parameters are bound: us the positional arguments, kw the keywords' values by name, ds the defaults that fill up -/
def Binds (K : PySem.W.Frag) (fd : FuncData) (ps : List Str) (ds : List Value) : Prop :=
  ∀ (s : Shared) (us : List Value), K.In s.heap → (us ++ ds).length = ps.length → BindsTo s fd ⟨us, []⟩ (ps.zip (us ++ ds))
/-- every parameter is given -/
theorem Binds.all {K : PySem.W.Frag} {fd : FuncData} {ps : List Str} (h : ∀ us : List Value, us.length = ps.length → bindArgs fd ⟨us, []⟩ = pure (ps.zip us)) : Binds K fd ps [] := fun s us _ hl => by
  rw [List.append_nil] at hl ⊢
  exact .of_eq (h us hl)

/-- an exception of a callee reaches what this body wants of exceptions -/
def Passes (CX : CXT) (X : Cx) (E : XK) : Prop := ∀ (pins : List (Addr × Obj)) (σ : St) (H : Hp) (s : Shared) (e : Value) (s' : Shared), Inv X pins σ H s → CX X.stack H s E e s' → X.xe e s'

section
variable {X : Cx} {CX : CXT} {k : Nat} {f C : Addr} {fd : FuncData} {ps : List Str} {sp : Sp} {dvs : List V} {ds : List Value} {E : XK} {x m : Str} {p pos apos : Pos} {e o : Expr} {es : List Expr} {ta : TE} {t : TA}

/-- the callee runs -/
theorem run_fn {pins : List (Addr × Obj)} {σ : St} {H : Hp} {s : Shared} {Q : VK} {us : List Value} {vs : List V} (F : FnOk X.prog X.w X.K X.mg X.base CX k f fd ps sp) (hr : Room k X.A) (hb : Binds X.K fd ps ds) (hd : Vals dvs ds) (hx : Passes CX X E)
    (I : Inv X pins σ H s) (r : Vals vs us) (h : sp (vs ++ dvs) H Q E) : wpAny (model X.prog X.w) X.A (call (.ref f) us) (EP X pins σ Q) X.xe s := by
  have r2 : Vals (vs ++ dvs) (us ++ ds) := r.append hd
  have hl : (us ++ ds).length = ps.length := by rw [← r2.length]; exact F.len _ _ _ _ h
  refine wpAny_call (codeAny_mono (F.run X.A X.stack s H ⟨us, []⟩ (us ++ ds) (vs ++ dvs) Q E hr I.env0 (hb s us I.kIn hl) r2 h) fun r s' hq => ?_)
  cases r with
  | error e => exact hx pins σ H s e s' I hq
  | ok fl =>
    cases fl with
    | ret u => exact I.after hq
    | next => exact False.elim hq
    | brk => exact False.elim hq
    | cont => exact False.elim hq

theorem pe_call (F : FnOk X.prog X.w X.K X.mg X.base CX k f fd ps sp) (hr : Room k X.A) (hg : Gl X x) (hm : X.mg x = some (.ref f)) (hk : PySem.W.keepIn X.K (.ref f) = true) (hb : Binds X.K fd ps ds) (hd : Vals dvs ds) (hx : Passes CX X E)
    (ha : PA X (e :: es) t) (hdb : (x == ("__debug__" : Str)) = false := by decide) (he : starEach (e :: es) X.env = (false, eval e X.env) :: starEach es X.env := by rfl) (hpl : (backTo pos (starEach es X.env)).any (·.1) = false := by rfl) :
    PE X (.Call (.Name x p) (e :: es) [] pos) (tCall sp dvs E t) := by
  intro pins s σ H Q I h
  refine wpAny_Call_Name_kw (ld_glob I hg hm ?_ hdb)
  refine PySem.W.callWith_K (h₀ := X.base) I.ok.mod.kin hk (thn (ha pos pins s σ H _ I h) fun us s1 ⟨vs, H1, I1, r, q⟩ => ⟨I1.kIn, ?_⟩) he hpl
  exact run_fn F hr hb hd hx I1 r q
theorem pe_call0 (F : FnOk X.prog X.w X.K X.mg X.base CX k f fd ps sp) (hr : Room k X.A) (hg : Gl X x) (hm : X.mg x = some (.ref f)) (hk : PySem.W.keepIn X.K (.ref f) = true) (hb : Binds X.K fd ps ds) (hd : Vals dvs ds) (hx : Passes CX X E)
    (hdb : (x == ("__debug__" : Str)) = false := by decide) : PE X (.Call (.Name x p) [] [] pos) (tCall sp dvs E tNil) := by
  intro pins s σ H Q I h
  refine wpAny_Call_Name_kw (ld_glob I hg hm ?_ hdb)
  exact PySem.W.callWith_K0 I.kIn hk (run_fn (us := []) F hr hb hd hx I .nil h)

/-- o.m(e, ..) -/
theorem pe_meth {pl : Sem Bool} (he : PE X o ta) (c : Cls X.K C) (hm : Meth X.K C m f) (F : FnOk X.prog X.w X.K X.mg X.base CX k f fd ps sp) (hr : Room k X.A) (hb : Binds X.K fd ps ds) (hd : Vals dvs ds) (hx : Passes CX X E) (ha : PA X (e :: es) t)
    (hst : starEach (e :: es) X.env = (false, eval e X.env) :: starEach es X.env := by rfl) (hpl : (backTo pos (starEach es X.env)).any (·.1) = false := by rfl)
    (ht : eval (.Call (.Attribute o m apos) (e :: es) [] pos) X.env = (do
      let ov ← eval o X.env
      standAt apos.atName
      let (f, first) ← holding [ov] (getMethod ov m pl)
      callWith pos f first (backTo pos (starEach (e :: es) X.env)) (backToKw pos (keywordEach [] X.env))) := by rfl) :
    PE X (.Call (.Attribute o m apos) (e :: es) [] pos) (tMeth C m sp dvs E ta t) := by
  intro pins s σ H Q I h
  refine PySem.W.methodCall_KW (pl := pl) (thn (he pins s σ H _ I h) fun u s1 ⟨x, H1, I1, rx, a, dx, fs, ex, ea, l, q⟩ => ?_) ht
  subst ex
  obtain rfl : u = Value.ref a := rx
  refine getmeth_ok I1 ea c hm l ?_
  refine PySem.W.callWith_K (first := [.ref a]) (h₀ := X.base) I.ok.mod.kin hm.kp (thn (ha pos pins s1 σ H1 _ I1 q) fun us s2 ⟨vs, H2, I2, r, q2⟩ => ⟨I2.kIn, ?_⟩) hst hpl
  exact run_fn (us := .ref a :: us) (vs := .ref a :: vs) F hr hb hd hx I2 (.cons rfl r) q2
/-- o.m() -/
theorem pe_meth0 {pl : Sem Bool} (he : PE X o ta) (c : Cls X.K C) (hm : Meth X.K C m f) (F : FnOk X.prog X.w X.K X.mg X.base CX k f fd ps sp) (hr : Room k X.A) (hb : Binds X.K fd ps ds) (hd : Vals dvs ds) (hx : Passes CX X E)
    (ht : eval (.Call (.Attribute o m apos) [] [] pos) X.env = (do
      let ov ← eval o X.env
      standAt apos.atName
      let (f, first) ← holding [ov] (getMethod ov m pl)
      callWith pos f first (backTo pos (starEach [] X.env)) (backToKw pos (keywordEach [] X.env))) := by rfl) :
    PE X (.Call (.Attribute o m apos) [] [] pos) (tMeth C m sp dvs E ta tNil) := by
  intro pins s σ H Q I h
  refine PySem.W.methodCall_KW (pl := pl) (thn (he pins s σ H _ I h) fun u s1 ⟨x, H1, I1, rx, a, dx, fs, ex, ea, l, q⟩ => ?_) ht
  subst ex
  obtain rfl : u = Value.ref a := rx
  refine getmeth_ok I1 ea c hm l ?_
  exact PySem.W.callWith_K0 (first := [.ref a]) I1.kIn hm.kp (run_fn (us := [.ref a]) (vs := [.ref a]) F hr hb hd hx I1 (.cons rfl .nil) q)

/-- what a class must have to be made -/
structure Mk (K : PySem.W.Frag) (C f : Addr) : Prop where
  makes : PySem.W.makesIn K C = true
  init : PySem.W.findIn K (.ref C) "__init__" = some (some (.ref f))
  fn : PySem.W.isFn K (.ref f) = true
  kp : PySem.W.keepIn K (.ref C) = true

theorem run_make {pins : List (Addr × Obj)} {σ : St} {H : Hp} {s : Shared} {Q : VK} {us : List Value} {vs : List V} (M : Mk X.K C f) (F : FnOk X.prog X.w X.K X.mg X.base CX k f fd ps sp) (hr : Room (k + 1) X.A) (hb : Binds X.K fd ps ds) (hd : Vals dvs ds)
    (hx : Passes CX X E) (I : Inv X pins σ H s) (r : Vals vs us)
    (h : ∀ x dx, H x = none → H dx = none → dx ≠ x → sp (.ref x :: (vs ++ dvs)) (upd (upd H dx (.own x)) x (.ins C dx [])) (fun v H2 => v = .non ∧ Q (.ref x) H2) E) :
    wpAny (model X.prog X.w) X.A (call (.ref C) us) (EP X pins σ Q) X.xe s := by
  have hq := h (s.heap.objs.size + 1) s.heap.objs.size (I.hok.fresh (Nat.le_succ _)) (I.hok.fresh (Nat.le_refl _)) (Nat.ne_of_lt (Nat.lt_succ_self _))
  have I2 := Inv.made (C := C) I
  have r2 : Vals (V.ref (s.heap.objs.size + 1) :: (vs ++ dvs)) (Value.ref (s.heap.objs.size + 1) :: (us ++ ds)) := .cons rfl (r.append hd)
  have hl : (Value.ref (s.heap.objs.size + 1) :: us ++ ds).length = ps.length := by
    have e := r2.length
    rw [F.len _ _ _ _ hq] at e
    exact e.symm
  refine wpAny_call (make_map (f := f) I.kIn M.makes M.init (beq_iff_eq.mp M.fn) (codeAny_mono (F.run _ X.stack _ _ ⟨Value.ref (s.heap.objs.size + 1) :: us, []⟩ (Value.ref (s.heap.objs.size + 1) :: (us ++ ds)) _ _ E (hr.make C us [])
    (I2.env0.make C us []) (hb _ (Value.ref (s.heap.objs.size + 1) :: us) I2.kIn hl) r2 hq) fun r s' hq' => ?_))
  cases r with
  | error e => exact hx pins σ _ _ e s' I2 hq'
  | ok fl =>
    cases fl with
    | ret u =>
      obtain ⟨v, H', I3, rv, ev, q3⟩ := I2.after hq'
      subst ev
      exact ⟨rv, ⟨V.ref (s.heap.objs.size + 1), H', I3, rfl, q3⟩⟩
    | next => exact False.elim hq'
    | brk => exact False.elim hq'
    | cont => exact False.elim hq'
theorem pe_make (M : Mk X.K C f) (F : FnOk X.prog X.w X.K X.mg X.base CX k f fd ps sp) (hr : Room (k + 1) X.A) (hg : Gl X x) (hm : X.mg x = some (.ref C)) (hb : Binds X.K fd ps ds) (hd : Vals dvs ds) (hx : Passes CX X E)
    (ha : PA X (e :: es) t) (hdb : (x == ("__debug__" : Str)) = false := by decide) (he : starEach (e :: es) X.env = (false, eval e X.env) :: starEach es X.env := by rfl) (hpl : (backTo pos (starEach es X.env)).any (·.1) = false := by rfl) :
    PE X (.Call (.Name x p) (e :: es) [] pos) (tMake C sp dvs E t) := by
  intro pins s σ H Q I h
  refine wpAny_Call_Name_kw (ld_glob I hg hm ?_ hdb)
  refine PySem.W.callWith_K (h₀ := X.base) I.ok.mod.kin M.kp (thn (ha pos pins s σ H _ I h) fun us s1 ⟨vs, H1, I1, r, q⟩ => ⟨I1.kIn, ?_⟩) he hpl
  exact run_make M F hr hb hd hx I1 r q
theorem pe_make0 (M : Mk X.K C f) (F : FnOk X.prog X.w X.K X.mg X.base CX k f fd ps sp) (hr : Room (k + 1) X.A) (hg : Gl X x) (hm : X.mg x = some (.ref C)) (hb : Binds X.K fd ps ds) (hd : Vals dvs ds) (hx : Passes CX X E)
    (hdb : (x == ("__debug__" : Str)) = false := by decide) : PE X (.Call (.Name x p) [] [] pos) (tMake C sp dvs E tNil) := by
  intro pins s σ H Q I h
  refine wpAny_Call_Name_kw (ld_glob I hg hm ?_ hdb)
  exact PySem.W.callWith_K0 I.kIn M.kp (run_make (us := []) M F hr hb hd hx I .nil h)
end

/-! ### keywords -/
/-- the values of the keywords, from the left -/
def PK (X : Cx) (kws : List Keyword) (t : TA) : Prop :=
  ∀ (pos : Pos) (pins : List (Addr × Obj)) (s : Shared) (σ : St) (H : Hp) (Q : List V → Hp → Prop), Inv X pins σ H s → t σ H Q → wpAny (model X.prog X.w) X.A (evalAll ((backToKw pos (keywordEach kws X.env)).map (·.2))) (AP X pins σ Q) X.xe s
section
variable {X : Cx} {CX : CXT} {k : Nat} {f C : Addr} {fd : FuncData} {ps ks : List Str} {sp : Sp} {E : XK} {x m : Str} {p pos apos kpos : Pos} {e o : Expr} {es : List Expr} {kws : List Keyword} {te ta : TE} {t tk : TA} {nm : Option Str}
theorem pk_nil : PK X [] tNil := fun _ _ _ _ H Q I h => wpAny_evalAll_nil ⟨[], H, I, .nil, h⟩
theorem pk_cons (ha : PE X e te) (hr : PK X kws t) : PK X (⟨nm, e, kpos⟩ :: kws) (tCons te t) := by
  intro pos pins s σ H Q I h
  show wpAny _ _ (evalAll ((do let v ← eval e X.env; standAt pos; pure v) :: (backToKw pos (keywordEach kws X.env)).map (·.2))) _ _ s
  refine wpAny_evalAll_cons (wpAny_bind (thn (ha pins s σ H _ I h) fun u s1 ⟨x, H1, I1, r1, q1⟩ => wpAny_bind (wpAny_standAt (wpAny_pure ?_))))
  exact thn (hr pos pins s1 σ H1 _ I1 q1) fun us s2 ⟨xs, H2, I2, r2, q2⟩ => ⟨x :: xs, H2, I2, .cons r1 r2, q2⟩

/-- how a call with keywords binds: g puts the positional values us and the keywords' values ws (names ks) in the parameters' order, defaults among them -/
structure KBinds (K : PySem.W.Frag) (fd : FuncData) (ps ks : List Str) (g : List Value → List Value → List Value) (gV : List V → List V → List V) : Prop where
  to : ∀ (s : Shared) (us ws : List Value), K.In s.heap → (g us ws).length = ps.length → BindsTo s fd ⟨us, ks.zip ws⟩ (ps.zip (g us ws))
  rel : ∀ {vs : List V} {us : List Value} {zs : List V} {ws : List Value}, Vals vs us → Vals zs ws → Vals (gV vs zs) (g us ws)
def tCallK (sp : Sp) (gV : List V → List V → List V) (E : XK) (t tk : TA) : TE := fun σ H Q => t σ H fun vs H1 => tk σ H1 fun zs H2 => sp (gV vs zs) H2 Q E
variable {g : List Value → List Value → List Value} {gV : List V → List V → List V}
theorem run_fnk {pins : List (Addr × Obj)} {σ : St} {H : Hp} {s : Shared} {Q : VK} {us ws : List Value} {vs zs : List V} (F : FnOk X.prog X.w X.K X.mg X.base CX k f fd ps sp) (hr : Room k X.A) (hb : KBinds X.K fd ps ks g gV) (hx : Passes CX X E)
    (I : Inv X pins σ H s) (r : Vals vs us) (rz : Vals zs ws) (h : sp (gV vs zs) H Q E) : wpAny (model X.prog X.w) X.A (call (.ref f) us (ks.zip ws)) (EP X pins σ Q) X.xe s := by
  have r2 := hb.rel r rz
  have hl : (g us ws).length = ps.length := by rw [← r2.length]; exact F.len _ _ _ _ h
  refine wpAny_call (codeAny_mono (F.run X.A X.stack s H ⟨us, ks.zip ws⟩ (g us ws) (gV vs zs) Q E hr I.env0 (hb.to s us ws I.kIn hl) r2 h) fun r s' hq => ?_)
  cases r with
  | error e => exact hx pins σ H s e s' I hq
  | ok fl =>
    cases fl with
    | ret u => exact I.after hq
    | next => exact False.elim hq
    | brk => exact False.elim hq
    | cont => exact False.elim hq
/-- f(e, .., k = v, ..) -/
theorem pe_callK (F : FnOk X.prog X.w X.K X.mg X.base CX k f fd ps sp) (hr : Room k X.A) (hg : Gl X x) (hm : X.mg x = some (.ref f)) (hk : PySem.W.keepIn X.K (.ref f) = true) (hb : KBinds X.K fd ps ks g gV) (hx : Passes CX X E)
    (ha : PA X (e :: es) t) (hkw : PK X kws tk) (hall : (backToKw pos (keywordEach kws X.env)).all (·.1.isSome) = true := by rfl) (hks : (backToKw pos (keywordEach kws X.env)).filterMap (·.1) = ks := by rfl)
    (hdb : (x == ("__debug__" : Str)) = false := by decide) (he : starEach (e :: es) X.env = (false, eval e X.env) :: starEach es X.env := by rfl)
    (hpl : ((backTo pos (starEach (e :: es) X.env)).any (·.1) || (backToKw pos (keywordEach kws X.env)).any (·.1.isNone)) = false := by rfl) :
    PE X (.Call (.Name x p) (e :: es) kws pos) (tCallK sp gV E t tk) := by
  intro pins s σ H Q I h
  refine wpAny_Call_Name_kw (ld_glob I hg hm ?_ hdb)
  refine PySem.W.callWith_KW (h₀ := X.base) I.ok.mod.kin hk hall (thn (ha pos pins s σ H _ I h) fun us s1 ⟨vs, H1, I1, r, q⟩ => ?_) hpl he
  refine thn (hkw pos pins s1 σ H1 _ I1 q) fun ws s2 ⟨zs, H2, I2, rz, q2⟩ => ⟨I2.kIn, ?_⟩
  rw [hks]
  exact run_fnk F hr hb hx I2 r rz q2
end

/-! ### a def's body keeps its promise -/
/-- names: the parameters first -/
structure FnScope (N P : List Str) (sc : Scope) : Prop where
  kind : sc.kind = .function
  co : sc.isCoroutine = false
  gen : sc.isGenerator = false
  nd : N.Nodup
  pre : N.take P.length = P
  par : ∀ x ∈ P, sc.names.lookup x = some .local ∨ sc.names.lookup x = some .cell
  nofree : ∀ y ∈ sc.names, y.2 ≠ .free

theorem bindL_out {kindOf : Str → Option NameKind} {x : Str} : ∀ {binds : List (Str × Value)} {m : Str → Option Value}, (∀ v, (x, v) ∉ binds) → bindL kindOf binds m x = m x
  | [], _, _ => rfl
  | (n, v) :: r, m, h => by
    unfold bindL
    rw [bindL_out fun w hw => h w (List.mem_cons_of_mem _ hw)]
    split
    · have : x ≠ n := by rintro rfl; exact h v List.mem_cons_self
      simp [this]
    · rfl
theorem bindC_out {kindOf : Str → Option NameKind} {x : Str} : ∀ {binds : List (Str × Value)} {m : Str → Option Value}, (∀ v, (x, v) ∉ binds) → bindC kindOf binds m x = m x
  | [], _, _ => rfl
  | (n, v) :: r, m, h => by
    unfold bindC
    rw [bindC_out fun w hw => h w (List.mem_cons_of_mem _ hw)]
    split
    · rfl
    · have : x ≠ n := by rintro rfl; exact h v List.mem_cons_self
      simp [this]
theorem bindL_get {kindOf : Str → Option NameKind} {x : Str} {v : Value} : ∀ {P : List Str} {vs : List Value} {i : Nat} {m : Str → Option Value}, P.Nodup → P[i]? = some x → vs[i]? = some v → kindOf x = some .local →
    bindL kindOf (P.zip vs) m x = some v
  | [], _, _, _, _, h, _, _ => by simp at h
  | _ :: _, [], _, _, _, _, h, _ => by simp at h
  | p :: P, w :: vs, 0, m, nd, h1, h2, hk => by
    simp at h1 h2; subst h1; subst h2
    show bindL kindOf ((p, w) :: P.zip vs) m p = _
    unfold bindL
    rw [bindL_out fun v hv => (List.nodup_cons.mp nd).1 (List.of_mem_zip hv).1, if_pos hk]
    simp
  | p :: P, w :: vs, i + 1, m, nd, h1, h2, hk => by
    show bindL kindOf ((p, w) :: P.zip vs) m x = _
    unfold bindL
    exact bindL_get (i := i) (List.nodup_cons.mp nd).2 (by simpa using h1) (by simpa using h2) hk
theorem bindC_get {kindOf : Str → Option NameKind} {x : Str} {v : Value} : ∀ {P : List Str} {vs : List Value} {i : Nat} {m : Str → Option Value}, P.Nodup → P[i]? = some x → vs[i]? = some v → kindOf x ≠ some .local →
    bindC kindOf (P.zip vs) m x = some v
  | [], _, _, _, _, h, _, _ => by simp at h
  | _ :: _, [], _, _, _, _, h, _ => by simp at h
  | p :: P, w :: vs, 0, m, nd, h1, h2, hk => by
    simp at h1 h2; subst h1; subst h2
    show bindC kindOf ((p, w) :: P.zip vs) m p = _
    unfold bindC
    rw [bindC_out fun v hv => (List.nodup_cons.mp nd).1 (List.of_mem_zip hv).1, if_neg hk]
    simp
  | p :: P, w :: vs, i + 1, m, nd, h1, h2, hk => by
    show bindC kindOf ((p, w) :: P.zip vs) m x = _
    unfold bindC
    exact bindC_get (i := i) (List.nodup_cons.mp nd).2 (by simpa using h1) (by simpa using h2) hk

/-- the names' values at the entry -/
def start (N : List Str) (vs : List V) : St := vs.map some ++ List.replicate (N.length - vs.length) none

/-- the context of a def's body, at its entry; an exception leaves the frame, then lies as CX says -/
def cxOf (CX : CXT) (P : Program) (w : World) (K : PySem.W.Frag) (mg : Str → Option Value) (base : Heap) (N : List Str) (qual : Str) (scope : Scope) (f : Addr) (cd : Value) (A : Around) (outer : List Env) (s : Shared) (H : Hp) (E : XK) : Cx where
  prog := P
  w := w
  K := K
  mg := mg
  base := base
  A := A.deeper (envOfC qual scope s.heap.objs.size f cd)
  N := N
  s₀ := s
  H₀ := H
  env := envOfC qual scope s.heap.objs.size f cd
  outer := outer
  stack := envOfC qual scope s.heap.objs.size f cd :: outer
  ex := []
  calm := true
  fn := fun _ => true
  pn := []
  xe := fun e s' => wpAny (model P w) (A.deeper (envOfC qual scope s.heap.objs.size f cd)) (leaving (envOfC qual scope s.heap.objs.size f cd) e) (fun _ s'' => CX outer H s E e s'') (fun e' s'' => CX outer H s E e' s'') s'

theorem cell_has {sc : Scope} {n : Nat} {x : Str} (h : sc.names.lookup x = some .cell) : ∃ c, (cellsFrom n sc.names []).lookup x = some c := by
  have q := PySem.W.cellsFrom_some sc.names n [] (.inl h)
  exact Option.isSome_iff_exists.mp q

theorem inv_start {CX : CXT} {P : Program} {w : World} {K : PySem.W.Frag} {mg : Str → Option Value} {base : Heap} {N ps : List Str} {qual : Str} {scope : Scope} {f : Addr} {cd : Value} {A : Around} {outer : List Env} {s s1 : Shared} {H : Hp} {E : XK} {us : List Value} {vs : List V}
    (S : FnScope N ps scope) (hd : A.handled = none) (e0 : Env0 P w K mg base A outer s H) (hl : vs.length = ps.length) (r : Vals vs us)
    (x : InCallC s s.heap.objs.size (bindL (envOfC qual scope s.heap.objs.size f cd).kindOf (ps.zip us) fun _ => none) (cellsFrom (s.heap.objs.size + 1) scope.names []) (bindC (envOfC qual scope s.heap.objs.size f cd).kindOf (ps.zip us) fun _ => none) s1) :
    Inv (cxOf CX P w K mg base N qual scope f cd A outer s H E) [] (start N vs) H s1 := by
  have hpl : ps.length ≤ N.length := by have := congrArg List.length S.pre; rw [List.length_take] at this; omega
  obtain ⟨h1, tk, rfl, hk⟩ := x.done
  have noA : ∀ b : Addr, b ∉ (cxOf CX P w K mg base N qual scope f cd A outer s H E).ex := fun b z => absurd (show b ∈ ([] : List Addr) from z) (by simp)
  refine ⟨⟨e0.mod, S.kind, rfl, rfl, Nat.le_refl _, fun y z c h1 h2 => ?_, fun y hy => ?_, fun y c _ h => ?_, fun _ => hd, Around.frames_deeper e0.frames, .inr ⟨rfl, rfl⟩, fun b z => absurd z (noA b), e0.bs, e0.bsz, fun b _ _ => noA b, fun b z => absurd z (noA b), e0.funs, e0.frf⟩,
    rfl, e0.bare, Un.kept hk, ⟨_, x.toInCall.ns, fun i y v h1 h2 h3 => ?_⟩, fun y c h => ⟨_, x.cell y c h⟩, e0.hok.fresh (Nat.le_refl _), fun y c h => ?_, fun p hp => absurd (show p ∈ ([] : List (Addr × Obj)) from hp) (by simp), e0.hok.kept hk, ?_⟩
  · exact name_of_addr x.apart (PySem.mem_of_lookup h1) (PySem.mem_of_lookup h2)
  · have hy : scope.names.lookup y = some .cell ∨ scope.names.lookup y = some .free := hy
    rcases hy with hy | hy
    · exact cell_has hy
    · exact absurd rfl (S.nofree _ (PySem.mem_of_lookup hy))
  · exact Nat.le_of_lt (x.above y c (PySem.mem_of_lookup h))
  · have hi : i < vs.length := by
      unfold start at h2
      by_cases hi : i < vs.length
      · exact hi
      · rw [List.getElem?_append_right (by simpa using hi)] at h2
        rw [List.getElem?_replicate] at h2
        split at h2 <;> cases h2
    have ha : vs[i]? = some v := by
      unfold start at h2
      rw [List.getElem?_append_left (by simpa using hi), List.getElem?_map] at h2
      cases e : vs[i]? with
      | none => rw [e] at h2; cases h2
      | some a => rw [e] at h2; cases h2; rfl
    obtain ⟨u, hu, rv⟩ := r.get ha
    have hp : ps[i]? = some y := by
      rw [← S.pre, List.getElem?_take_of_lt (by omega)]; exact h1
    have ndP : ps.Nodup := by rw [← S.pre]; exact S.nd.sublist (List.take_sublist _ _)
    refine ⟨u, rv, ?_⟩
    rcases S.par y (List.mem_of_getElem? hp) with k | k
    · exact .inl ⟨k, bindL_get ndP hp hu k⟩
    · obtain ⟨c, e⟩ := cell_has (n := s.heap.objs.size + 1) k
      refine .inr ⟨.inl k, c, e, ?_⟩
      have q := x.cell y c e
      rw [bindC_get ndP hp hu (by show scope.names.lookup y ≠ _; rw [k]; decide)] at q
      exact q
  · exact e0.hok.fresh (Nat.le_of_lt (x.above y c (PySem.mem_of_lookup h)))
  · unfold start
    show _ = N.length
    rw [List.length_append, List.length_map, List.length_replicate]
    omega

/-- THE RULE: a def (or a method) of the text, by its body. The body's reading t is chosen for each entry; it is run at the parameters' values -/
theorem fn_of {CX : CXT} {P : Program} {w : World} {K : PySem.W.Frag} {mg : Str → Option Value} {base : Heap} {k : Nat} {f : Addr} {name qual : Str} {params : Arguments} {body : List Stmt} {scope : Scope} {dV kV doc pm cdv ct oc : Value} {an od : Option Addr}
    {osl : Array (Option Value)} {N ps : List Str} {sp : Sp} (lk : K.lookup f = some ⟨oc, od, .func (PySem.W.fnOf name qual params body scope dV kV doc pm an cdv ct), osl⟩) (hcd : PySem.W.codeIn K cdv qual = true) (S : FnScope N ps scope)
    (len : ∀ vs H Q E, sp vs H Q E → vs.length = ps.length)
    (hbody : ∀ (A : Around) (outer : List Env) (s : Shared) (H : Hp) (vs : List V) (Q : VK) (E : XK), Room k (A.deeper (envOfC qual scope s.heap.objs.size f cdv)) → sp vs H Q E →
      ∃ t, PSs (cxOf CX P w K mg base N qual scope f cdv A outer s H E) body t ∧ t { nx := fun _ H' => Q .non H', rt := Q } (start N vs) H) :
    FnOk P w K mg base CX (k + 1) f (PySem.W.fnOf name qual params body scope dV kV doc pm an cdv ct) ps sp := by
  refine ⟨len, fun A outer s H args us vs Q E hr e0 hb r hsp => ?_⟩
  have hl := len _ _ _ _ hsp
  have KX : K.In s.heap := e0.mod.kin.keeps fun b o e => (e0.bs b o e).1
  have lim : s.heap.NoLimit := e0.mod.nolimit.keeps fun b o e => (e0.bs b o e).1
  have hkind : ∀ y ∈ ps.zip us, scope.names.lookup y.1 = some .local ∨ (scope.names.lookup y.1 = some .cell ∧ ((cellsFrom (s.heap.objs.size + 1) scope.names []).lookup y.1).isSome = true) := fun ⟨n, v⟩ hy => by
    rcases S.par n (List.of_mem_zip hy).1 with q | q
    · exact .inl q
    · exact .inr ⟨q, PySem.W.cellsFrom_some _ _ _ (.inl q)⟩
  refine codeAny_call_function hr.depth (KX _ _ lk) rfl S.co S.gen rfl (PySem.W.codeRec_of KX hcd) (hb _ _ _ _ ?_)
  refine wpAny_newFunctionEnv_cells S.kind hkind fun env he s1 x => ?_
  subst he
  refine ⟨lim.keeps x.toInCall.keep, codeAny_func ?_⟩
  obtain ⟨t, ht, hq⟩ := hbody A outer s H vs Q E (hr.deeper _) hsp
  have I : Inv (cxOf CX P w K mg base N qual scope f cdv A outer s H E) [] (start N vs) H s1 := inv_start S hr.hd e0 hl r x
  refine wpAny_mono (ht [] s1 (start N vs) H _ I hq) (fun fl s' hs => ?_) fun e s' hs => hs
  have fin : ∀ {σ' : St} {H' : Hp} {v : V} {u : Value}, Inv (cxOf CX P w K mg base N qual scope f cdv A outer s H E) [] σ' H' s' → RelV v u → Q v H' → CE outer P w H s Q u s' :=
    fun {σ' H' v u} J rv q => ⟨v, H', J.os, J.bare, J.base, J.hok, rv, q⟩
  cases fl with
  | ret u =>
    obtain ⟨v, σ', H', J, rv, q⟩ := hs
    exact fin J rv q
  | next =>
    obtain ⟨σ', H', J, q⟩ := hs
    exact fin (v := V.non) (u := Value.none) J rfl q
  | brk =>
    obtain ⟨_, _, _, q⟩ := hs
    exact False.elim q
  | cont =>
    obtain ⟨_, _, _, q⟩ := hs
    exact False.elim q
end L2

namespace L2
open PySem PySem.Spec PyProof.Rows
section
variable {X : Cx} {x : Str} {p pos : Pos} {e : Expr} {es : List Expr} {t : TA} {id T : String} {r : List V → Hp → VK → Prop}

def tCB (r : List V → Hp → VK → Prop) (t : TA) : TE := fun σ H Q => t σ H fun vs H1 => r vs H1 Q
/-- f(e, ..), f a built-in function -/
theorem pe_callB (hc : CallR X (.builtin id) r) (hg : Gl X x) (hm : X.mg x = none) (hv : bootBuiltins x = some (.builtin id)) (ha : PA X (e :: es) t) (hn : x ≠ "__name__" := by decide) (hdb : (x == ("__debug__" : Str)) = false := by decide)
    (he : starEach (e :: es) X.env = (false, eval e X.env) :: starEach es X.env := by rfl) (hpl : (backTo pos (starEach es X.env)).any (·.1) = false := by rfl) : PE X (.Call (.Name x p) (e :: es) [] pos) (tCB r t) := by
  intro pins s σ H Q I h
  refine wpAny_Call_Name_kw (ld_blt I hg hm hv ?_ hn hdb)
  exact PyProof.Rows.callWith_builtin1 (thn (ha pos pins s σ H _ I h) fun us s1 ⟨vs, H1, I1, r1, q1⟩ => hc pins s1 σ H1 vs us Q I1 r1 q1) he hpl
/-- T(e, ..), T a built-in type -/
theorem pe_callTy (hc : CallR X (.type T) r) (hg : Gl X x) (hm : X.mg x = none) (hv : bootBuiltins x = some (.type T)) (ha : PA X (e :: es) t) (hn : x ≠ "__name__" := by decide) (hdb : (x == ("__debug__" : Str)) = false := by decide)
    (he : starEach (e :: es) X.env = (false, eval e X.env) :: starEach es X.env := by rfl) (hpl : (backTo pos (starEach es X.env)).any (·.1) = false := by rfl) : PE X (.Call (.Name x p) (e :: es) [] pos) (tCB r t) := by
  intro pins s σ H Q I h
  refine wpAny_Call_Name_kw (ld_blt I hg hm hv ?_ hn hdb)
  exact PyProof.Rows.callWith_type1 (thn (ha pos pins s σ H _ I h) fun us s1 ⟨vs, H1, I1, r1, q1⟩ => hc pins s1 σ H1 vs us Q I1 r1 q1) he hpl
/-- T() -/
theorem pe_callTy0 (hc : CallR X (.type T) r) (hg : Gl X x) (hm : X.mg x = none) (hv : bootBuiltins x = some (.type T)) (hn : x ≠ "__name__" := by decide) (hdb : (x == ("__debug__" : Str)) = false := by decide) :
    PE X (.Call (.Name x p) [] [] pos) (tCB r tNil) := by
  intro pins s σ H Q I h
  refine wpAny_Call_Name_kw (ld_blt I hg hm hv ?_ hn hdb)
  exact PyProof.Rows.callWith_type0 (hc pins s σ H [] [] Q I .nil h)
end
end L2

namespace HT
open PySem PyProof.Rows

/-- t < u of tuples of ints -/
def lexLt : List Int → List Int → Bool
  | [], [] => false
  | [], _ :: _ => true
  | _ :: _, [] => false
  | x :: xs, y :: ys => if x = y then lexLt xs ys else decide (x < y)
theorem lexLt_cons (x y : Int) (xs ys : List Int) : lexLt (x :: xs) (y :: ys) = if x = y then lexLt xs ys else decide (x < y) := rfl
theorem lexLt_nil_nil : lexLt [] [] = false := rfl
theorem lexLt_nil_cons (y : Int) (ys : List Int) : lexLt [] (y :: ys) = true := rfl
theorem lexLt_cons_nil (x : Int) (xs : List Int) : lexLt (x :: xs) [] = false := rfl

theorem eqAt_int (A : Around) (s : Shared) (a : Int) (t : Tok) (c : Int) (u : Tok) : ∃ e, SeqAt.EqAt A s (.int a t) (.int c u) e ∧ (e = true ↔ a = c) :=
  ⟨(a == c), SeqAt.EqAt.int_int a t c u, by simp⟩
theorem rcLt_int (A : Around) (s : Shared) (a : Int) (t : Tok) (c : Int) (u : Tok) (prog : Program) (w : World) (E : Value → Shared → Prop) (Q : Value → Shared → Prop) (h : Q (.bool (decide (a < c))) s) :
    wpAny (model prog w) A (richCompare .Lt (.int a t) (.int c u)) Q E s :=
  (PyProof.Rows.lt_int h : wpAny (model prog w) A (compareOp .Lt (.int a t) (.int c u)) Q E s)

section
open PySem.SeqAt
open PySem.AutoSeq1 (wpAny_loadPart')
open PySem.MeetsSeq PySem.MeetsSeq2 PySem.MeetsSeq3

theorem tuple_lt_ints (l b : Addr) (items items2 : Array Value) (n n2 : Nat) (dd dd2 : Option Addr) (sl sl2 : Array (Option Value)) (ns ms : List Int) (hi : IntsAre items.toList ns) (hj : IntsAre items2.toList ms) :
    Meets (Builtin.«tuple.__lt__» ⟨[.ref l, .ref b], []⟩)
      (fun _ R s => s.heap.get? l = some { cls := .type "tuple", dict := dd, data := .seq items n, slots := sl } ∧ s.heap.get? b = some { cls := .type "tuple", dict := dd2, data := .seq items2 n2, slots := sl2 } ∧
        R (.ok (.ret (.bool (lexLt ns ms)))) s) :=
  .of_wp fun prog w A R s h => by
    obtain ⟨hp, g, d, tk, os⟩ := s; obtain ⟨hl, hb, h⟩ := h
    have f2 := AutoSeq1.sub_tuple_tuple
    have z1 : items.size = ns.length := by rw [← hi.length]; simp
    have z2 : items2.size = ms.length := by rw [← hj.length]; simp
    wp_walk using wpAny_loadPart' hl, wpAny_loadPart' hb, wpAny_forIn_list _ (fun rest b s' => b.1 = none ∧ s' = ⟨hp, g, d, tk, os⟩ ∧ ∃ (vs ws : List Value) (ns' ms' : List Int), rest = vs.zip ws ∧
      IntsAre vs ns' ∧ IntsAre ws ms' ∧ ns'.length + items2.size = ms'.length + items.size ∧ R (.ok (.ret (.bool (lexLt ns' ms')))) ⟨hp, g, d, tk, os⟩) _
    case turn =>
      rintro ⟨y, x⟩ rest b s' ⟨hb', rfl, vs, ws, ns', ms', hz, hvi, hwi, hlen, hR⟩
      cases hvi with
      | nil => rw [List.zip_nil_left] at hz; cases hz
      | cons a t hvi' =>
        cases hwi with
        | nil => rw [List.zip_nil_right] at hz; cases hz
        | cons c u hwi' =>
          rw [List.zip_cons_cons] at hz
          injection hz with hyx hrest
          injection hyx with hy hx
          subst hy hx
          rw [lexLt_cons] at hR
          simp only [List.length_cons] at hlen
          obtain ⟨e, he, hiff⟩ := eqAt_int A.in1 ⟨hp, g, d, tk, os⟩ a t c u
          refine wpAny_bind (he prog w _ _ ?_)
          cases e with
          | true =>
            rw [if_pos (hiff.mp rfl)] at hR
            wp_walk
            exact ⟨rfl, rfl, _, _, _, _, hrest, hvi', hwi', by omega, hR⟩
          | false =>
            rw [if_neg (fun q => absurd (hiff.mpr q) Bool.false_ne_true)] at hR
            have hri := rcLt_int A.in1 ⟨hp, g, d, tk, os⟩ a t c u prog w
            wp_walk using hri
            exact ⟨_, rfl, by simpa using hR⟩
    case fin =>
      rintro ⟨b1, b2⟩ s' ⟨hb', rfl, vs, ws, ns', ms', hz, hvi, hwi, hlen, hR⟩
      simp only at hb'
      subst hb'
      have hv : lexLt ns' ms' = decide (items.size < items2.size) := by
        cases hvi with
        | nil =>
          cases hwi with
          | nil =>
            simp only [List.length_nil] at hlen
            rw [lexLt_nil_nil]
            exact (decide_eq_false (by omega)).symm
          | cons c u hw =>
            simp only [List.length_nil, List.length_cons] at hlen
            rw [lexLt_nil_cons]
            exact (decide_eq_true (by omega)).symm
        | cons a t hv =>
          cases hwi with
          | nil =>
            simp only [List.length_nil, List.length_cons] at hlen
            rw [lexLt_cons_nil]
            exact (decide_eq_false (by omega)).symm
          | cons c u hw =>
            rw [List.zip_cons_cons] at hz
            cases hz
      rw [hv] at hR
      wp_walk
      exact ⟨_, rfl, by simpa [Builtin.Tuple.tupleCompareSizes] using hR⟩
    case h =>
      exact ⟨rfl, rfl, items.toList, items2.toList, ns, ms, rfl, hi, hj, by omega, h⟩
end

section
variable {prog : Program} {w : World} {A : Around} {E : Value → Shared → Prop} {s : Shared}

theorem lt_tupInts {l b : Addr} {items items2 : Array Value} {ns ms : List Int} {Q : Value → Shared → Prop} (hl : IsTup s.heap l items) (hb : IsTup s.heap b items2) (hi : IntsAre items.toList ns) (hj : IntsAre items2.toList ms)
    (hu : A.units < cLine) (h : Q (.bool (lexLt ns ms)) s) : wpAny (model prog w) A (compareOp .Lt (.ref l) (.ref b)) Q E s := by
  obtain ⟨⟨cls, dd, data, sl⟩, ho, hc, n, hd⟩ := id hl
  obtain ⟨⟨cls2, dd2, data2, sl2⟩, ho2, hc2, n2, hd2⟩ := id hb
  simp only at hc hd hc2 hd2
  subst hc hd hc2 hd2
  exact richCompare_meets_room (op := .Lt) ⟨_, ho, rfl⟩ ⟨_, ho2, rfl⟩ PySem.F.slot_tuple_lt PySem.F.entry_tuple_lt (PySem.F.args_tuple_lt_2 _ _) (tuple_lt_ints l b items items2 n n2 dd dd2 sl sl2 ns ms hi hj)
    ⟨ho, ho2, show Value.bool (lexLt ns ms) ≠ Value.notImplemented ∧ Q (.bool (lexLt ns ms)) s from ⟨(fun x => nomatch x), h⟩⟩ hu

/-- t + u, t not empty -/
theorem cat_tup {t b : Addr} {vs ws : List Value} {Q : Value → Shared → Prop} (ht : IsTup s.heap t vs.toArray) (hb : IsTup s.heap b ws.toArray) (hv : vs ≠ [])
    (h1 : ws = [] → Q (.ref t) s) (h2 : ws ≠ [] → Q (.ref s.heap.objs.size) { s with heap := s.heap.push { cls := .type "tuple", data := .seq (vs ++ ws).toArray } })
    (hsz : vs.length + ws.length ≤ sizeLine) : wpAny (model prog w) A (binaryOp .Add (.ref t) (.ref b)) Q E s := by
  obtain ⟨⟨cls, dd, data, sl⟩, ho, hc, n, hd⟩ := id ht
  obtain ⟨⟨cls2, dd2, data2, sl2⟩, ho2, hc2, n2, hd2⟩ := id hb
  simp only at hc hd hc2 hd2
  subst hc hd hc2 hd2
  have e : vs.toArray ++ ws.toArray = (vs ++ ws).toArray := by simp
  by_cases hw : ws = []
  · exact concat_meets ⟨_, ho, rfl⟩ ⟨_, ho2, rfl⟩ noFill_tuple_add seq_tuple_add PySem.F.slot_tuple_add PySem.F.entry_tuple_add (PySem.F.args_tuple_add_2 _ _)
      (tuple_addW1 t b vs.toArray ws.toArray n n2 dd dd2 sl sl2 (by simpa using hv) (by simp [hw])) ⟨ho, ho2, h1 hw⟩
  · refine concat_meets ⟨_, ho, rfl⟩ ⟨_, ho2, rfl⟩ noFill_tuple_add seq_tuple_add PySem.F.slot_tuple_add PySem.F.entry_tuple_add (PySem.F.args_tuple_add_2 _ _)
      (tuple_addW2 t b vs.toArray ws.toArray n n2 dd dd2 sl sl2 (by simpa using hv) (by simpa using hw) (by rw [List.size_toArray, List.size_toArray]; exact hsz)) ⟨ho, ho2, ?_⟩
    rw [e]
    exact h2 hw

/-! ### t[a:b], not the whole -/
/-- a slice's bound as a place among n (d where it is left out) -/
def sIx (n d : Nat) : Option Int → Nat
  | none => d
  | some v => if v < 0 then (v + (n : Int)).toNat else min v.toNat n
theorem sIx_none (n d : Nat) : sIx n d none = d := rfl
theorem sIx_nat (n d k : Nat) : sIx n d (some (k : Int)) = min k n := by
  show (if (k : Int) < 0 then ((k : Int) + (n : Int)).toNat else min (k : Int).toNat n) = min k n
  rw [if_neg (by omega), Int.toNat_natCast]
theorem sIx_le (n d : Nat) (hd : d ≤ n) (o : Option Int) : sIx n d o ≤ n := by
  cases o with
  | none => exact hd
  | some v =>
    show (if v < 0 then (v + (n : Int)).toNat else min v.toNat n) ≤ n
    by_cases hv : v < 0
    · rw [if_pos hv]; omega
    · rw [if_neg hv]; exact Nat.min_le_right _ _
theorem clip_eq (v : Int) (n d : Nat) : (if v < 0 then max (v + (n : Int)) 0 else min v (n : Int)) = ((sIx n d (some v) : Nat) : Int) := by
  show (if v < 0 then max (v + (n : Int)) 0 else min v (n : Int)) = (((if v < 0 then (v + (n : Int)).toNat else min v.toNat n) : Nat) : Int)
  by_cases hv : v < 0
  · simp only [if_pos hv]; omega
  · simp only [if_neg hv]; omega
theorem adjust_gen (lo hi : Option Int) (n : Nat) : Builtin.Slice.sliceAdjust lo hi 1 (n : Int) = (((sIx n 0 lo : Nat) : Int), ((sIx n n hi : Nat) : Int)) := by
  have h1 : ¬ ((1 : Int) < 0) := by omega
  unfold Builtin.Slice.sliceAdjust
  simp only [h1, if_false]
  refine Prod.ext ?_ ?_
  · cases lo with
    | none => rfl
    | some v => exact clip_eq v n 0
  · cases hi with
    | none => rfl
    | some v => exact clip_eq v n n
theorem places_gen (i j : Nat) : Builtin.Slice.slicePlaces (i : Int) (j : Int) 1 = j - i := by
  unfold Builtin.Slice.slicePlaces
  have h1 : (1 : Int) > 0 := by omega
  simp only [h1, if_true, Int.ediv_one]
  split <;> omega
theorem slicePart_ {v : Value} {o : Option Int} {Q : Option Int → Shared → Prop} (p : IsPart v o) (h : Q o s) : wpAny (model prog w) A (Builtin.Slice.slicePartIndex v) Q E s := by
  cases p with
  | none => exact slicePart_none h
  | int i t => exact slicePart_int h
theorem sliceApplied_gen {sl : Addr} {vl vu : Value} {lo hi : Option Int} {n : Nat} {Q : Int × Int × Nat → Shared → Prop} (hs : s.heap.IsSliceOf sl vl vu .none) (pl : IsPart vl lo) (pu : IsPart vu hi)
    (h : Q (((sIx n 0 lo : Nat) : Int), 1, sIx n n hi - sIx n 0 lo) s) : wpAny (model prog w) A (Builtin.Slice.sliceApplied (.ref sl) (pure (n : Int))) Q E s := by
  obtain ⟨os, hos, hcs, hds⟩ := id hs
  unfold Builtin.Slice.sliceApplied Builtin.Slice.sliceFields
  refine wpAny_bind (wpAny_bind (wpAny_field hos hds (x := vl) rfl (wpAny_bind (wpAny_field hos hds (x := vu) rfl (wpAny_bind (wpAny_field hos hds (x := .none) rfl (wpAny_pure ?_)))))))
  refine wpAny_bind (slicePart_none ?_)
  show wpAny _ _ (if ((1 : Int) == 0) = true then _ else _) _ _ s
  rw [if_neg (by decide)]
  refine wpAny_bind (slicePart_ pl (wpAny_bind (slicePart_ pu (wpAny_bind (wpAny_pure ?_)))))
  show wpAny _ _ (match Builtin.Slice.sliceAdjust lo hi 1 (n : Int) with | (lo, hi) => pure (lo, (1 : Int), Builtin.Slice.slicePlaces lo hi 1)) _ _ s
  rw [adjust_gen lo hi n]
  show wpAny _ _ (pure (((sIx n 0 lo : Nat) : Int), (1 : Int), Builtin.Slice.slicePlaces ((sIx n 0 lo : Nat) : Int) ((sIx n n hi : Nat) : Int) 1)) _ _ s
  rw [places_gen]
  exact wpAny_pure h
theorem pick_gen (xs : Array Value) (i k : Nat) : ((List.range k).filterMap fun (m : Nat) => xs[((i : Int) + (m : Int) * 1).toNat]?).toArray = ((xs.toList.drop i).take k).toArray := by
  have e : (fun (m : Nat) => xs[((i : Int) + (m : Int) * 1).toNat]?) = fun m => xs[i + m]? := by
    funext m
    have : ((i : Int) + (m : Int) * 1).toNat = i + m := by omega
    rw [this]
  rw [e]
  have := pick_run xs i k
  rw [List.filterMap_map] at this
  have e2 : ((fun x => xs[x]?) ∘ fun x => i + x) = fun m => xs[i + m]? := rfl
  rw [e2] at this
  rw [this]

theorem getItem_tuple_cut {t sl : Addr} {items : Array Value} {vl vu : Value} {lo hi : Option Int} {Q : Value → Shared → Prop} (ht : IsTup s.heap t items) (hs : s.heap.IsSliceOf sl vl vu .none) (pl : IsPart vl lo) (pu : IsPart vu hi)
    (hw : ¬ (sIx items.size 0 lo = 0 ∧ sIx items.size items.size hi = items.size))
    (h : Q (.ref s.heap.objs.size) { s with heap := s.heap.push { cls := .type "tuple", data := .seq ((items.toList.drop (sIx items.size 0 lo)).take (sIx items.size items.size hi - sIx items.size 0 lo)).toArray } })
    (hsz : items.size ≤ sizeLine) : wpAny (model prog w) A (getItem (.ref t) (.ref sl)) Q E s := by
  have htake : sizeOk (.seq ((items.toList.drop (sIx items.size 0 lo)).take (sIx items.size items.size hi - sIx items.size 0 lo)).toArray) := by
    show ((items.toList.drop (sIx items.size 0 lo)).take (sIx items.size items.size hi - sIx items.size 0 lo)).toArray.size ≤ sizeLine
    rw [List.size_toArray, List.length_take, List.length_drop, Array.length_toList]
    omega
  have hj : sIx items.size items.size hi ≤ items.size := sIx_le _ _ (Nat.le_refl _) hi
  obtain ⟨os, hos, hcs, hds⟩ := id hs
  have hTs : s.TypeIs (.ref sl) "slice" := ⟨os, hos, hcs⟩
  unfold getItem
  try with_reducible refine wpAny_holding ?_
  first | refine wpAny_bind (wpAny_pure ?_) | skip
  refine wpAny_bind (wpAny_sequenceKey ht.typeIs (by decide) ?_)
  refine wpAny_bind (wpAny_callSpecial?_slot (name := Str.ofString "__getitem__") ht.typeIs PyProof.Rows.slot_tuple_getitem
    (wpAny_call_entry PyProof.Rows.slot_tuple_getitem ht.typeIs entry_tuple_getitem ?_ (args_tuple_getitem _ _)))
  show wpAny _ _ (Builtin.Tuple.tupleItemsOf (.ref t) >>= _) _ _ s
  refine wpAny_bind (tupleItemsOf_ ht ?_)
  refine wpAny_bind (wpAny_typeOf hTs ?_)
  rw [if_pos (by decide)]
  refine wpAny_bind (sliceApplied_gen hs pl pu ?_)
  have hno : ¬ ((((sIx items.size 0 lo : Nat) : Int) == 0 && (1 : Int) == 1 && (sIx items.size items.size hi - sIx items.size 0 lo) == items.size) = true) := by
    intro q
    rw [Bool.and_eq_true, Bool.and_eq_true] at q
    have q1 : ((sIx items.size 0 lo : Nat) : Int) = 0 := eq_of_beq q.1.1
    have q2 : sIx items.size items.size hi - sIx items.size 0 lo = items.size := eq_of_beq q.2
    exact hw ⟨by omega, by omega⟩
  show wpAny _ _ (if (((sIx items.size 0 lo : Nat) : Int) == 0 && (1 : Int) == 1 && (sIx items.size items.size hi - sIx items.size 0 lo) == items.size) = true then _ else _) _ _ s
  rw [if_neg hno, pick_gen]
  first
    | exact wpAny_bind (m := Builtin.Tuple.tupleExact _) (wpAny_newObj_type (wpAny_pure ⟨_, rfl, wpAny_pure h⟩) htake)
    | exact wpAny_bind (m := Builtin.Tuple.tupleExact _) (wpAny_newObj_type (wpAny_bind (wpAny_pure (wpAny_pure ⟨_, rfl, wpAny_pure h⟩))) htake)
    | exact wpAny_bind (wpAny_bind (m := Builtin.Tuple.tupleExact _) (wpAny_newObj_type (wpAny_pure (wpAny_pure ⟨_, rfl, wpAny_pure h⟩)) htake))
    | exact wpAny_bind (wpAny_bind (m := Builtin.Tuple.tupleExact _) (wpAny_newObj_type (wpAny_pure ⟨_, rfl, wpAny_pure h⟩) htake))
end
end HT

namespace L2
open PySem PySem.Spec PyProof.Rows

/-! ### the parts of a slice -/
abbrev TO := St → Hp → (Option Int → Hp → Prop) → Prop
/-- a slice's part (left out, or an int) -/
def PO (X : Cx) (e : Option Expr) (t : TO) : Prop :=
  ∀ (pins : List (Addr × Obj)) (s : Shared) (σ : St) (H : Hp) (Q : Option Int → Hp → Prop), Inv X pins σ H s → t σ H Q →
    wpAny (model X.prog X.w) X.A (evalPart e X.env) (fun u s' => ∃ o H', Inv X pins σ H' s' ∧ IsPart u o ∧ Q o H') X.xe s
def tNoPart : TO := fun _ H Q => Q none H
def tPart (t : TE) : TO := fun σ H Q => t σ H fun x H1 => ∃ i, x = .int i ∧ Q (some i) H1

theorem intsAre_of {ns : List Int} : ∀ {us : List Value}, Vals (ns.map V.int) us → IntsAre us ns := by
  induction ns with
  | nil => intro us r; rw [List.map_nil] at r; cases r; exact .nil
  | cons n ns ih =>
    intro us r
    rw [List.map_cons] at r
    cases r with
    | cons r1 r2 =>
      obtain ⟨t, e⟩ := r1
      subst e
      exact .cons n t (ih r2)

section
variable {X : Cx} {e : Expr} {te : TE} {lo hi : Option Expr} {tl th : TO} {pos p2 : Pos}

theorem po_none : PO X none tNoPart := by
  intro pins s σ H Q I h
  rw [evalPart_none]
  exact wpAny_pure ⟨none, H, I, .none, h⟩
theorem po_some (h : PE X e te) : PO X (some e) (tPart te) := by
  intro pins s σ H Q I hw
  rw [evalPart_some]
  refine thn (h pins s σ H _ I hw) fun u s1 ⟨x, H1, I1, r1, q1⟩ => ?_
  obtain ⟨i, rfl, q⟩ := q1
  obtain ⟨t, rfl⟩ := r1
  exact ⟨some i, H1, I1, .int i t, q⟩

/-- what a slice of a value is, by values: the slice object stands at sl -/
def SlR (X : Cx) (r : V → Option Int → Option Int → Hp → VK → Prop) : Prop :=
  ∀ (pins : List (Addr × Obj)) (s : Shared) (σ : St) (H : Hp) (x : V) (v vl vu : Value) (lo hi : Option Int) (sl : Addr) (Q : VK), Inv X pins σ H s → RelV x v → s.heap.IsSliceOf sl vl vu .none → IsPart vl lo → IsPart vu hi → r x lo hi H Q →
    ∃ T id, typeLookup (.type T) "__getitem__" = pure (some (.builtin id)) ∧ s.TypeIs v T ∧ wpAny (model X.prog X.w) X.A (getItem v (.ref sl)) (EP X pins σ Q) X.xe s
theorem SlR.or {r r' : V → Option Int → Option Int → Hp → VK → Prop} (h : SlR X r) (h' : SlR X r') : SlR X (fun x lo hi H Q => r x lo hi H Q ∨ r' x lo hi H Q) := by
  intro pins s σ H x v vl vu lo hi sl Q I rx hs pl pu q
  rcases q with q | q
  · exact h pins s σ H x v vl vu lo hi sl Q I rx hs pl pu q
  · exact h' pins s σ H x v vl vu lo hi sl Q I rx hs pl pu q
def tSl (r : V → Option Int → Option Int → Hp → VK → Prop) (te : TE) (tl th : TO) : TE := fun σ H Q => te σ H fun x H1 => tl σ H1 fun l H2 => th σ H2 fun u H3 => r x l u H3 Q
/-- a[lo:hi], any a -/
theorem pe_slice {r : V → Option Int → Option Int → Hp → VK → Prop} (hr : SlR X r) (he : PE X e te) (hl : PO X lo tl) (hu : PO X hi th) : PE X (.Subscript e (.Slice lo hi none p2) pos) (tSl r te tl th) := by
  intro pins s σ H Q I h
  refine Subscript_ (thn (he pins s σ H _ I h) fun v s1 ⟨x, H1, I1, r1, q1⟩ => ?_)
  refine wpAny_Slice (thn (hl pins s1 σ H1 _ I1 q1) fun vl s2 ⟨l, H2, I2, pl, q2⟩ => thn (hu pins s2 σ H2 _ I2 q2) fun vu s3 ⟨u, H3, I3, pu, q3⟩ => ?_)
  rw [evalPart_none]
  refine wpAny_pure ?_
  have I4 : Inv X pins σ H3 { s3 with heap := s3.heap.push { cls := .type "slice", data := .fields #[vl, vu, .none] } } := I3.kept (t' := s3.toks) fun b ob q => Heap.get?_push_of_some _ q
  obtain ⟨T, id, hT, ht, hg⟩ := hr pins { s3 with heap := s3.heap.push { cls := .type "slice", data := .fields #[vl, vu, .none] } } σ H3 x v vl vu l u s3.heap.objs.size Q I4 r1 (Heap.IsSliceOf.new ..) pl pu q3
  show wpAny (model X.prog X.w) X.A (subscriptTail e (.Slice lo hi none p2) v (.ref s3.heap.objs.size)) (EP X pins σ Q) X.xe { s3 with heap := s3.heap.push { cls := .type "slice", data := .fields #[vl, vu, .none] } }
  exact tail_any (ops := [.ref s3.heap.objs.size, v]) ht hT hg (by with_unfolding_all rfl)

/-- the items of xs[lo:hi] -/
def cutV (xs : List V) (lo hi : Option Int) : List V := (xs.drop (HT.sIx xs.length 0 lo)).take (HT.sIx xs.length xs.length hi - HT.sIx xs.length 0 lo)
theorem cutV_length (xs : List V) (lo hi : Option Int) : (cutV xs lo hi).length ≤ xs.length := by
  unfold cutV
  rw [List.length_take, List.length_drop]
  omega
/-- t[lo:hi], not the whole of it (the whole would be t itself) -/
def rSlT (K : PySem.W.Frag) : V → Option Int → Option Int → Hp → VK → Prop := fun x lo hi H Q => ∃ a xs, x = .ref a ∧ SqT K H a xs ∧
  ¬ (HT.sIx xs.length 0 lo = 0 ∧ HT.sIx xs.length xs.length hi = xs.length) ∧ ∀ p, H p = none → Q (.ref p) (upd H p (.tup (cutV xs lo hi)))
theorem sl_tup : SlR X (rSlT X.K) := by
  intro pins s σ H x v vl vu lo hi sl Q I rx hs pl pu h
  obtain ⟨a, xs, rfl, hx, hw, q⟩ := h
  cases rx
  obtain ⟨its, r, ht, hz⟩ := I.tuple hx
  have hlen : its.toArray.size = xs.length := by rw [List.size_toArray]; exact r.length.symm
  refine ⟨"tuple", _, PyProof.Rows.slot_tuple_getitem.lookup, ht.typeIs, ?_⟩
  refine HT.getItem_tuple_cut ht hs pl pu (by rw [hlen]; exact hw) ?_ (by rw [hlen]; exact hz)
  rw [hlen]
  refine ⟨.ref s.heap.objs.size, _, I.laid (t' := s.toks) (o := .tup (cutV xs lo hi)) (fun b ob q => Heap.get?_push_of_some _ q) (Nat.le_refl _) ?_, rfl, q _ (I.hok.fresh (Nat.le_refl _))⟩
  exact ⟨Nat.le_trans (cutV_length xs lo hi) hz, _, (r.drop (HT.sIx xs.length 0 lo)).take (HT.sIx xs.length xs.length hi - HT.sIx xs.length 0 lo), IsTup.new _ _⟩

/-! ### t < u, t + u -/
def rLtT (K : PySem.W.Frag) : R2 := fun x y H Q => ∃ a b ns ms, x = .ref a ∧ y = .ref b ∧ SqT K H a (ns.map V.int) ∧ SqT K H b (ms.map V.int) ∧ Q (.bl (HT.lexLt ns ms)) H
theorem op_ltT (hu : X.A.units < cLine) : OpR X (compareOp .Lt) (rLtT X.K) := by
  intro pins s σ H x y v u Q I rx ry h
  obtain ⟨a, b, ns, ms, rfl, rfl, ha, hb, q⟩ := h
  cases rx
  cases ry
  obtain ⟨its, r1, p1, _⟩ := I.tuple ha
  obtain ⟨its2, r2, p2, _⟩ := I.tuple hb
  have i1 : IntsAre its.toArray.toList ns := intsAre_of r1
  have i2 : IntsAre its2.toArray.toList ms := intsAre_of r2
  exact HT.lt_tupInts p1 p2 i1 i2 hu ⟨.bl (HT.lexLt ns ms), H, I, rfl, q⟩
/-- t + u, t not empty: u empty gives t itself -/
def rCatT (K : PySem.W.Frag) : R2 := fun x y H Q => ∃ a b xs ys, x = .ref a ∧ y = .ref b ∧ SqT K H a xs ∧ SqT K H b ys ∧ xs ≠ [] ∧ xs.length + ys.length ≤ sizeLine ∧
  (ys = [] → Q (.ref a) H) ∧ (ys ≠ [] → ∀ p, H p = none → Q (.ref p) (upd H p (.tup (xs ++ ys))))
theorem Vals.nil_iff {xs : List V} {us : List Value} (r : Vals xs us) : us = [] ↔ xs = [] := by
  cases r with
  | nil => simp
  | cons _ _ => simp
theorem op_catT : OpR X (binaryOp .Add) (rCatT X.K) := by
  intro pins s σ H x y v u Q I rx ry h
  obtain ⟨a, b, xs, ys, rfl, rfl, ha, hb, hx, hz, q1, q2⟩ := h
  cases rx
  cases ry
  obtain ⟨its, r1, p1, _⟩ := I.tuple ha
  obtain ⟨its2, r2, p2, _⟩ := I.tuple hb
  refine HT.cat_tup p1 p2 (fun z => hx (r1.nil_iff.mp z)) (fun z => ⟨.ref a, H, I, rfl, q1 (r2.nil_iff.mp z)⟩) (fun z => ?_) (by rw [← r1.length, ← r2.length]; exact hz)
  refine ⟨.ref s.heap.objs.size, _, I.laid (t' := s.toks) (o := .tup (xs ++ ys)) (fun b ob q => Heap.get?_push_of_some _ q) (Nat.le_refl _) ?_, rfl, q2 (fun w => z (r2.nil_iff.mpr w)) _ (I.hok.fresh (Nat.le_refl _))⟩
  exact ⟨by rw [List.length_append]; exact hz, _, r1.append r2, IsTup.new _ _⟩
/-- tuple(t) -/
theorem call_tupleT : CallR X (.type "tuple") (fun xs H Q => ∃ a ys, xs = [.ref a] ∧ SqT X.K H a ys ∧ Q (.ref a) H) := by
  intro pins s σ H xs us Q I r h
  obtain ⟨a, ys, rfl, ha, q⟩ := h
  obtain ⟨u, rfl, ru⟩ := vals1 r
  cases ru
  obtain ⟨its, _, p1, _⟩ := I.tuple ha
  exact call_tuple_same (items := its.toArray) p1 ⟨.ref a, H, I, rfl, q⟩
end
end L2

namespace L2
open PySem PySem.Spec PyProof.Rows

/-! ### places -/
/-- the place that an index of any sign means -/
def ixN (n : Nat) (i : Int) : Option Nat := if 0 ≤ i then (if i < n then some i.toNat else none) else if -(n : Int) ≤ i then some (i + n).toNat else none
def atI {α : Type} (xs : List α) (i : Int) : Option α := (ixN xs.length i).bind fun j => xs[j]?
theorem ixN_seq {n : Nat} {i : Int} {j : Nat} (h : ixN n i = some j) : seqIndex? i n = some j ∧ j < n ∧ -(n : Int) ≤ i ∧ i < n := by
  unfold ixN at h
  by_cases h0 : 0 ≤ i
  · rw [if_pos h0] at h
    by_cases h1 : i < n
    · rw [if_pos h1] at h
      have e : i.toNat = j := Option.some.inj h
      exact ⟨by rw [seqIndex_of h0 h1, e], by omega, by omega, h1⟩
    · rw [if_neg h1] at h; cases h
  · rw [if_neg h0] at h
    by_cases h1 : -(n : Int) ≤ i
    · rw [if_pos h1] at h
      have e : (i + n).toNat = j := Option.some.inj h
      exact ⟨by rw [seqIndex_neg (by omega) h1, e], by omega, h1, by omega⟩
    · rw [if_neg h1] at h; cases h
theorem atI_get {α : Type} {xs : List α} {i : Int} {v : α} (h : atI xs i = some v) : ∃ j, seqIndex? i xs.length = some j ∧ xs[j]? = some v ∧ j < xs.length ∧ -(xs.length : Int) ≤ i ∧ i < xs.length := by
  unfold atI at h
  cases e : ixN xs.length i with
  | none => rw [e] at h; cases h
  | some j =>
    rw [e] at h
    obtain ⟨h1, h2, h3, h4⟩ := ixN_seq e
    exact ⟨j, h1, h, h2, h3, h4⟩
theorem atI_nat {α : Type} {xs : List α} {j : Nat} {v : α} (h : xs[j]? = some v) : atI xs (j : Int) = some v := by
  have hj : j < xs.length := (List.getElem?_eq_some_iff.mp h).1
  have e : ixN xs.length (j : Int) = some j := by
    unfold ixN
    rw [if_pos (by omega), if_pos (by omega)]; simp
  unfold atI; rw [e]; exact h
theorem atI_last {α : Type} (xs : List α) (v : α) : atI (xs ++ [v]) (-1) = some v := by
  have hl : (xs ++ [v]).length = xs.length + 1 := by simp
  have e : ixN (xs ++ [v]).length (-1) = some xs.length := by
    unfold ixN
    rw [hl, if_neg (by decide), if_pos (by omega)]
    congr 1
    omega
  unfold atI
  rw [e]
  show (xs ++ [v])[xs.length]? = some v
  simp

/-! ### what may be subscripted -/
/-- what stands as an index of a plain subscript -/
def PlainIx (b : Expr) : Prop := ∀ o i, subscripted b false o i = operate [o, i] (getItem o i)
/-- a subscript by values -/
def IxR (X : Cx) (r : R2) : Prop :=
  ∀ (value slice : Expr) (pins : List (Addr × Obj)) (s : Shared) (σ : St) (H : Hp) (x y : V) (v u : Value) (Q : VK), Inv X pins σ H s → RelV x v → RelV y u → r x y H Q →
    subscripted slice false v u = operate [v, u] (getItem v u) → wpAny (model X.prog X.w) X.A (subscriptTail value slice v u) (EP X pins σ Q) X.xe s
/-- a call of a builtin's method by values: the receiver, the arguments -/
def MtR (X : Cx) (id : String) (r : V → List V → Hp → VK → Prop) : Prop :=
  ∀ (pins : List (Addr × Obj)) (s : Shared) (σ : St) (H : Hp) (x : V) (xs : List V) (v : Value) (us : List Value) (Q : VK), Inv X pins σ H s → RelV x v → Vals xs us → r x xs H Q →
    wpAny (model X.prog X.w) X.A (call (.builtin id) (v :: us)) (EP X pins σ Q) X.xe s
section
variable {X : Cx} {a b : Expr} {ta tb : TE} {pos : Pos}
theorem IxR.or {r r' : R2} (h : IxR X r) (h' : IxR X r') : IxR X (fun x y H Q => r x y H Q ∨ r' x y H Q) := by
  intro value slice pins s σ H x y v u Q I rx ry q hs
  rcases q with q | q
  · exact h value slice pins s σ H x y v u Q I rx ry q hs
  · exact h' value slice pins s σ H x y v u Q I rx ry q hs
theorem MtR.or {id : String} {r r' : V → List V → Hp → VK → Prop} (h : MtR X id r) (h' : MtR X id r') : MtR X id (fun x xs H Q => r x xs H Q ∨ r' x xs H Q) := by
  intro pins s σ H x xs v us Q I rx rs q
  rcases q with q | q
  · exact h pins s σ H x xs v us Q I rx rs q
  · exact h' pins s σ H x xs v us Q I rx rs q
/-- a[b] -/
theorem pe_ix {r : R2} (hr : IxR X r) (ha : PE X a ta) (hb : PE X b tb) (hs : PlainIx b) : PE X (.Subscript a b pos) (tOp r ta tb) := by
  intro pins s σ H Q I h
  exact Subscript_ (binT ha hb I h fun v u s2 x y H2 I2 rx ry q => hr a b pins s2 σ H2 x y v u Q I2 rx ry q (hs _ _))

def rIxL (K : PySem.W.Frag) : R2 := fun x y H Q => ∃ p xs i v, x = .ref p ∧ y = .int i ∧ SqL K H p xs ∧ atI xs i = some v ∧ Q v H
def rIxT (K : PySem.W.Frag) : R2 := fun x y H Q => ∃ p xs i v, x = .ref p ∧ y = .int i ∧ SqT K H p xs ∧ atI xs i = some v ∧ Q v H
def rIxS : R2 := fun x y H Q => ∃ z i c, x = .str z ∧ y = .int i ∧ z.length ≤ sizeLine ∧ atI z.cps.toList i = some c ∧ Q (.str ⟨#[c]⟩) H
theorem ix_list : IxR X (rIxL X.K) := by
  intro value slice pins s σ H x y v u Q I rx ry h hs
  obtain ⟨p, xs, i, z, rfl, rfl, hq, he, q⟩ := h
  cases rx
  obtain ⟨t, rfl⟩ := ry
  obtain ⟨its, r, pl, hz⟩ := I.list hq
  obtain ⟨j, h1, h2, h3, h4, h5⟩ := atI_get he
  obtain ⟨w, ew, rw'⟩ := r.get h2
  have hl := r.length
  have hn := line63
  have fin : EP X pins σ Q w s := ⟨z, H, I, rw', q⟩
  by_cases h0 : 0 ≤ i
  · have hj : i.toNat = j := by
      rw [seqIndex_of h0 h5] at h1
      exact Option.some.inj h1
    exact item_listR pl.isList h0 (by omega) (by rw [hj]; simpa using ew) fin hs
  · have hj : (i + (its.toArray.size : Int)).toNat = j := by
      rw [seqIndex_neg (by omega) h4] at h1
      rw [List.size_toArray, ← hl]
      exact Option.some.inj h1
    exact subscriptTail_builtinR (x := w) pl.isList.typeIs slot_list_getitem.lookup
      (wpAny_getItem_list_neg (Q := fun r s' => r = w ∧ EP X pins σ Q r s') pl.isList (by omega) (by rw [List.size_toArray] <;> omega) (by omega) (by rw [hj]; simpa using ew) ⟨rfl, fin⟩) hs
theorem ix_tup : IxR X (rIxT X.K) := by
  intro value slice pins s σ H x y v u Q I rx ry h hs
  obtain ⟨p, xs, i, z, rfl, rfl, hq, he, q⟩ := h
  cases rx
  obtain ⟨t, rfl⟩ := ry
  obtain ⟨its, r, pl, hz⟩ := I.tuple hq
  obtain ⟨j, h1, h2, h3, h4, h5⟩ := atI_get he
  obtain ⟨w, ew, rw'⟩ := r.get h2
  have hl := r.length
  have hn := line63
  have fin : EP X pins σ Q w s := ⟨z, H, I, rw', q⟩
  exact subscriptTail_builtinR (x := w) pl.typeIs slot_tuple_getitem.lookup
    (getItem_tuple (j := j) (Q := fun r s' => r = w ∧ EP X pins σ Q r s') pl (by omega) (by omega) (by rw [List.size_toArray, ← hl]; exact h1) (by simpa using ew) ⟨rfl, fin⟩) hs
theorem ix_str : IxR X rIxS := by
  intro value slice pins s σ H x y v u Q I rx ry h hs
  obtain ⟨z, i, c, rfl, rfl, hz, he, q⟩ := h
  obtain ⟨t, rfl⟩ := rx
  obtain ⟨t', rfl⟩ := ry
  obtain ⟨j, h1, h2, h3, h4, h5⟩ := atI_get he
  have hl : z.cps.toList.length = z.length := by simp [Str.length]
  rw [hl] at h1 h4 h5
  have hn := line63
  exact tail_any (typeIs_str s z t) slot_str_getitem.lookup (getItem_str (c := c) (by
    have e1 : decide (i < -(2 ^ 63 : Int)) = false := decide_eq_false (by omega)
    have e2 : decide (i ≥ 2 ^ 63) = false := decide_eq_false (by omega)
    rw [e1, e2, Bool.or_false]) (by rw [h1]; simpa using h2) ⟨.str ⟨#[c]⟩, H, I.tok _, ⟨_, rfl⟩, q⟩) hs
/-- list, tuple or str -/
def rIx (K : PySem.W.Frag) : R2 := fun x y H Q => rIxL K x y H Q ∨ rIxT K x y H Q ∨ rIxS x y H Q
theorem ix_seq : IxR X (rIx X.K) := ix_list.or (ix_tup.or ix_str)

/-! ### xs[i] = v, any sign -/
/-- the list's object behind a store -/
theorem mapSeq_set (its : List Value) (n j : Nat) (u : Value) : Obj.mapSeq (·.setIfInBounds j u) { cls := .type "list", data := .seq its.toArray n } = { cls := .type "list", data := .seq (its.set j u).toArray n } := by
  simp [Obj.mapSeq]
theorem Inv.lst {pins : List (Addr × Obj)} {σ : St} {H : Hp} {s : Shared} {p : Addr} {xs : List V} (I : Inv X pins σ H s) (h : H p = some (.lst xs)) :
    ∃ (its : List Value) (n : Nat), Vals xs its ∧ s.heap.get? p = some { cls := .type "list", data := .seq its.toArray n } ∧ xs.length ≤ sizeLine := by
  obtain ⟨z, its, n, r, e⟩ := I.hok p _ h
  exact ⟨its, n, r, e, z⟩
/-- the list at p is written by an update of its object -/
theorem Inv.lstUpd {pins : List (Addr × Obj)} {σ : St} {H : Hp} {s : Shared} {p : Addr} {xs ys : List V} {its its' : List Value} {n n' : Nat} {f : Obj → Obj} (I : Inv X pins σ H s) (h : H p = some (.lst xs))
    (ho : s.heap.get? p = some { cls := .type "list", data := .seq its.toArray n }) (hf : f { cls := .type "list", data := .seq its.toArray n } = { cls := .type "list", data := .seq its'.toArray n' }) (r : Vals ys its') (hz : ys.length ≤ sizeLine) (t : Nat) :
    Inv X pins σ (upd H p (.lst ys)) { s with heap := s.heap.update p f, toks := t } := by
  have e : (s.heap.update p f).get? p = some { cls := .type "list", data := .seq its'.toArray n' } := by
    rw [Heap.get?_update_self f ho (by rw [hf] <;> rfl), hf]
  refine I.write (x := p) (e := p) (by rw [h]; trivial) (.inl rfl) (fun b u hb q => (Heap.get?_update_other _ _ (Ne.symm hb)).trans q) ⟨_, e⟩ ?_
  exact ⟨hz, its', n', r, e⟩
def rSetL : V → V → V → Hp → (Hp → Prop) → Prop := fun o i v H Q => ∃ p xs k j, o = .ref p ∧ i = .int k ∧ H p = some (.lst xs) ∧ ixN xs.length k = some j ∧ Q (upd H p (.lst (xs.set j v)))
theorem set_list : PSet X rSetL := by
  intro pins s σ H o i v ov iv u Q I ro ri rv h
  obtain ⟨p, xs, k, j, rfl, rfl, hp, hj, q⟩ := h
  cases ro
  obtain ⟨t, rfl⟩ := ri
  obtain ⟨its, n, r, ho, hz⟩ := I.lst hp
  obtain ⟨h1, h2, h3, h4⟩ := ixN_seq hj
  have hl := r.length
  have hn := line63
  have I' : Inv X pins σ (upd H p (.lst (xs.set j v))) { s with heap := s.heap.update p (Obj.mapSeq (·.setIfInBounds j u)) } :=
    I.lstUpd hp ho (mapSeq_set its n j u) (r.set rv j) (by rw [List.length_set]; exact hz) s.toks
  by_cases h0 : 0 ≤ k
  · have hk : k.toNat = j := by
      rw [seqIndex_of h0 h4] at h1
      exact Option.some.inj h1
    exact PySem.W.ki_setAt ho h0 (by omega) (by rw [List.size_toArray, ← hl]; exact h4) (by rw [hk]; exact ⟨_, I', q⟩)
  · have hk : (k + (its.toArray.size : Int)).toNat = j := by
      rw [seqIndex_neg (by omega) h3] at h1
      rw [List.size_toArray, ← hl]
      exact Option.some.inj h1
    exact PySem.W.ki_setBack ho (by omega) (by rw [List.size_toArray, ← hl]; exact h3) (by omega) (by rw [hk]; exact ⟨_, I', q⟩)

/-! ### slices -/
theorem slice_bounds (lo hi : Option Int) (n : Nat) : (sliceBounds lo hi none n).1 = ((HT.sIx n 0 lo : Nat) : Int) ∧ (sliceBounds lo hi none n).2.1 = ((HT.sIx n n hi : Nat) : Int) ∧ (sliceBounds lo hi none n).2.2 = 1 := by
  refine ⟨?_, ?_, rfl⟩
  · cases lo with
    | none => simp [sliceBounds, HT.sIx]
    | some i =>
      simp only [sliceBounds, HT.sIx, Option.getD_none, show (1 : Int) > 0 by decide, if_true]
      by_cases h : i < 0
      · simp only [h, if_true] <;> omega
      · simp only [h, if_false] <;> omega
  · cases hi with
    | none => simp [sliceBounds, HT.sIx]
    | some i =>
      simp only [sliceBounds, HT.sIx, Option.getD_none, show (1 : Int) > 0 by decide, if_true]
      by_cases h : i < 0
      · simp only [h, if_true] <;> omega
      · simp only [h, if_false] <;> omega
theorem slicePick_cut (its : List Value) (lo hi : Option Int) : slicePick its.toArray lo hi none = ((its.drop (HT.sIx its.length 0 lo)).take (HT.sIx its.length its.length hi - HT.sIx its.length 0 lo)).toArray := by
  obtain ⟨h1, h2, h3⟩ := slice_bounds lo hi its.toArray.size
  unfold slicePick
  rw [h1, h2, h3]
  simp only [sliceRange_one, pick_run, List.size_toArray] <;> rfl
/-- xs[lo:hi] of a list: a new list -/
def rSlL (K : PySem.W.Frag) : V → Option Int → Option Int → Hp → VK → Prop := fun x lo hi H Q => ∃ a xs, x = .ref a ∧ SqL K H a xs ∧ ∀ p, H p = none → Q (.ref p) (upd H p (.lst (cutV xs lo hi)))
theorem sl_list : SlR X (rSlL X.K) := by
  intro pins s σ H x v vl vu lo hi sl Q I rx hs pl pu h
  obtain ⟨a, xs, rfl, hx, q⟩ := h
  cases rx
  obtain ⟨its, r, ht, hz⟩ := I.list hx
  have hlen := r.length
  refine ⟨"list", _, slot_list_getitem.lookup, ht.isList.typeIs, ?_⟩
  refine wpAny_getItem_list_slice ht.isList hs pl pu .none (by simp) ?_ (by rw [List.size_toArray] <;> omega)
  rw [slicePick_cut, ← hlen]
  refine ⟨.ref s.heap.objs.size, _, I.laid (t' := s.toks) (o := .lst (cutV xs lo hi)) (fun b ob q => Heap.get?_push_of_some _ q) (Nat.le_refl _) ?_, rfl, q _ (I.hok.fresh (Nat.le_refl _))⟩
  exact ⟨Nat.le_trans (cutV_length xs lo hi) hz, _, 0, (r.drop (HT.sIx xs.length 0 lo)).take (HT.sIx xs.length xs.length hi - HT.sIx xs.length 0 lo), Heap.get?_push_size _ rfl⟩

/-! ### in, not in: flat items -/
def flatV : V → Bool
  | .non => true
  | .bl _ => true
  | .int _ => true
  | .str _ => true
  | _ => false
/-- == of flat values -/
def eqV : V → V → Bool
  | .non, .non => true
  | .bl a, .bl b => a == b
  | .bl a, .int b => (if a then 1 else 0) == b
  | .int a, .bl b => a == (if b then 1 else 0)
  | .int a, .int b => a == b
  | .str a, .str b => a == b
  | _, _ => false
theorem eqAt_V {A : Around} {s : Shared} {y x : V} {u v : Value} (ry : RelV y u) (rx : RelV x v) (fy : flatV y = true) (fx : flatV x = true) : SeqAt.EqAt A s u v (eqV y x) := by
  cases y with
  | non =>
    cases ry
    cases x with
    | non => cases rx; exact SeqAt.EqAt.same _
    | bl b => cases rx; exact SeqAt.EqAt.none_bool b
    | int b => obtain ⟨t, rfl⟩ := rx; exact SeqAt.EqAt.none_int b t
    | str b => obtain ⟨t, rfl⟩ := rx; exact SeqAt.EqAt.none_str b t
    | _ => exact absurd (show false = true from fx) Bool.false_ne_true
  | bl a =>
    cases ry
    cases x with
    | non => cases rx; exact SeqAt.EqAt.bool_none a
    | bl b => cases rx; exact SeqAt.EqAt.bool_bool a b
    | int b => obtain ⟨t, rfl⟩ := rx; exact SeqAt.EqAt.bool_int a b t
    | str b => obtain ⟨t, rfl⟩ := rx; exact SeqAt.EqAt.bool_str a b t
    | _ => exact absurd (show false = true from fx) Bool.false_ne_true
  | int a =>
    obtain ⟨t', rfl⟩ := ry
    cases x with
    | non => cases rx; exact SeqAt.EqAt.int_none a t'
    | bl b => cases rx; exact SeqAt.EqAt.int_bool a t' b
    | int b => obtain ⟨t, rfl⟩ := rx; exact SeqAt.EqAt.int_int a t' b t
    | str b => obtain ⟨t, rfl⟩ := rx; exact SeqAt.EqAt.int_str a t' b t
    | _ => exact absurd (show false = true from fx) Bool.false_ne_true
  | str a =>
    obtain ⟨t', rfl⟩ := ry
    cases x with
    | non => cases rx; exact SeqAt.EqAt.str_none a t'
    | bl b => cases rx; exact SeqAt.EqAt.str_bool a t' b
    | int b => obtain ⟨t, rfl⟩ := rx; exact SeqAt.EqAt.str_int a t' b t
    | str b => obtain ⟨t, rfl⟩ := rx; exact SeqAt.EqAt.str_str a t' b t
    | _ => exact absurd (show false = true from fx) Bool.false_ne_true
  | _ => exact absurd (show false = true from fy) Bool.false_ne_true
/-- the items' answers, read off the values (a value's own answer does not lean on its token) -/
def eqU (x : V) (u : Value) : Bool := match u with
  | .none => eqV .non x
  | .bool b => eqV (.bl b) x
  | .int i _ => eqV (.int i) x
  | .str z _ => eqV (.str z) x
  | _ => false
theorem eqU_of {x y : V} {u : Value} (r : RelV y u) (f : flatV y = true) : eqU x u = eqV y x := by
  cases y with
  | non => cases r; rfl
  | bl b => cases r; rfl
  | int i => obtain ⟨t, rfl⟩ := r; rfl
  | str z => obtain ⟨t, rfl⟩ := r; rfl
  | _ => exact absurd (show false = true from f) Bool.false_ne_true
theorem any_eqU {x : V} : ∀ {xs : List V} {us : List Value}, Vals xs us → xs.all flatV = true → us.any (eqU x) = xs.any fun y => eqV y x
  | _, _, .nil, _ => rfl
  | y :: xs, u :: us, .cons r t, f => by
    rw [List.all_cons, Bool.and_eq_true] at f
    rw [List.any_cons, List.any_cons, eqU_of r f.1, any_eqU t f.2]
theorem mem_eqAt {A : Around} {s : Shared} {x : V} {v : Value} (rx : RelV x v) (fx : flatV x = true) : ∀ {xs : List V} {us : List Value}, Vals xs us → xs.all flatV = true → ∀ u ∈ us, SeqAt.EqAt A s u v (eqU x u)
  | _, _, .nil, _ => fun u hu => by cases hu
  | y :: xs, u :: us, .cons r t, f => fun u' hu => by
    rw [List.all_cons, Bool.and_eq_true] at f
    rcases List.mem_cons.mp hu with rfl | hu
    · rw [eqU_of r f.1]; exact eqAt_V r rx f.1 fx
    · exact mem_eqAt rx fx t f.2 u' hu
def inV (x : V) (xs : List V) : Bool := xs.any fun y => eqV y x
/-- x in a list or tuple of flat items -/
def rIn (K : PySem.W.Frag) (neg : Bool) : R2 := fun x y H Q => ∃ p xs, y = .ref p ∧ (SqL K H p xs ∨ SqT K H p xs) ∧ flatV x = true ∧ xs.all flatV = true ∧ Q (.bl (if neg then !inV x xs else inV x xs)) H
theorem op_in_seq : OpR X (compareOp .In) (rIn X.K false) := by
  intro pins s σ H x y v u Q I rx ry h
  obtain ⟨p, xs, rfl, hq, fx, fs, q⟩ := h
  cases ry
  rcases hq with hq | hq
  · obtain ⟨its, r, pl, hz⟩ := I.list hq
    refine SeqAt.in_listAt (eqU x) pl.isList (fun w hw => mem_eqAt rx fx r fs w (by simpa using hw)) ⟨.bl _, H, I, rfl, ?_⟩
    rw [show its.toArray.any (eqU x) = its.any (eqU x) by simp, any_eqU r fs]
    exact q
  · obtain ⟨its, r, pl, hz⟩ := I.tuple hq
    refine SeqAt.in_tupleAt (eqU x) pl (fun w hw => mem_eqAt rx fx r fs w (by simpa using hw)) ⟨.bl _, H, I, rfl, ?_⟩
    rw [show its.toArray.any (eqU x) = its.any (eqU x) by simp, any_eqU r fs]
    exact q
theorem op_notIn_seq : OpR X (compareOp .NotIn) (rIn X.K true) := by
  intro pins s σ H x y v u Q I rx ry h
  obtain ⟨p, xs, rfl, hq, fx, fs, q⟩ := h
  cases ry
  rcases hq with hq | hq
  · obtain ⟨its, r, pl, hz⟩ := I.list hq
    refine SeqAt.notIn_listAt (eqU x) pl.isList (fun w hw => mem_eqAt rx fx r fs w (by simpa using hw)) ⟨.bl _, H, I, rfl, ?_⟩
    rw [show its.toArray.any (eqU x) = its.any (eqU x) by simp, any_eqU r fs]
    exact q
  · obtain ⟨its, r, pl, hz⟩ := I.tuple hq
    refine SeqAt.notIn_tupleAt (eqU x) pl (fun w hw => mem_eqAt rx fx r fs w (by simpa using hw)) ⟨.bl _, H, I, rfl, ?_⟩
    rw [show its.toArray.any (eqU x) = its.any (eqU x) by simp, any_eqU r fs]
    exact q
theorem op_notIn_str : OpR X (compareOp .NotIn) (fun x y H Q => ∃ i j, x = .str i ∧ y = .str j ∧ Q (.bl (!(!(Builtin.Str.occurrences j i 0 j.length 1).isEmpty))) H) := by
  intro pins s σ H x y v u Q I rx ry h
  obtain ⟨i, j, rfl, rfl, q⟩ := h
  obtain ⟨t, rfl⟩ := rx
  obtain ⟨t', rfl⟩ := ry
  exact notIn_str ⟨.bl _, H, I, rfl, q⟩

/-! ### len, list(x), tuple(x) of any list or tuple that is read -/
theorem call_len_seq : CallR X (.builtin "len") (fun xs H Q => ∃ p ys, xs = [.ref p] ∧ (SqL X.K H p ys ∨ SqT X.K H p ys) ∧ Q (.int ys.length) H) := by
  intro pins s σ H xs us Q I r h
  obtain ⟨p, ys, rfl, hq, q⟩ := h
  obtain ⟨u, rfl, rx⟩ := vals1 r
  cases rx
  have hn := line63
  rcases hq with hq | hq
  · obtain ⟨its, r', pl, hz⟩ := I.list hq
    have hlen := r'.length
    exact Calls.call_len_list pl.isList (by simp only [List.size_toArray] <;> omega) ⟨.int ys.length, H, I.tok _, ⟨s.toks + 1, by rw [List.size_toArray, hlen]⟩, q⟩
  · obtain ⟨its, r', pl, hz⟩ := I.tuple hq
    have hlen := r'.length
    exact len_tuple pl (by simp only [List.size_toArray] <;> omega) ⟨.int ys.length, H, I.tok _, ⟨s.toks + 1, by rw [List.size_toArray, hlen]⟩, q⟩
theorem call_len_str : CallR X (.builtin "len") (fun xs H Q => ∃ z, xs = [.str z] ∧ z.length ≤ sizeLine ∧ Q (.int z.length) H) := by
  intro pins s σ H xs us Q I r h
  obtain ⟨z, rfl, hz, q⟩ := h
  obtain ⟨u, rfl, t, rfl⟩ := vals1 r
  have hn := line63
  exact len_str (by omega) ⟨.int z.length, H, I.tok _, ⟨_, rfl⟩, q⟩
theorem CallR.or {f : Value} {r r' : List V → Hp → VK → Prop} (h : CallR X f r) (h' : CallR X f r') : CallR X f (fun xs H Q => r xs H Q ∨ r' xs H Q) := by
  intro pins s σ H xs us Q I rs q
  rcases q with q | q
  · exact h pins s σ H xs us Q I rs q
  · exact h' pins s σ H xs us Q I rs q
theorem call_list_of : CallR X (.type "list") (fun xs H Q => ∃ p ys, xs = [.ref p] ∧ (SqL X.K H p ys ∨ SqT X.K H p ys) ∧ ∀ l, H l = none → Q (.ref l) (upd H l (.lst ys))) := by
  intro pins s σ H xs us Q I r h
  obtain ⟨p, ys, rfl, hq, q⟩ := h
  obtain ⟨u, rfl, rx⟩ := vals1 r
  cases rx
  have fin : ∀ (its : List Value), Vals ys its → ys.length ≤ sizeLine → ∀ (h' : Heap) (c' : Nat), (∀ b o', s.heap.get? b = some o' → h'.get? b = some o') →
      h'.get? s.heap.objs.size = some { cls := .type "list", dict := none, data := .seq its.toArray c', slots := #[] } → EP X pins σ Q (.ref s.heap.objs.size) { s with heap := h' } := fun its r' hz h' c' kp e =>
    ⟨.ref s.heap.objs.size, _, I.laid (t' := s.toks) kp (Nat.le_refl _) (show ObjOk X.prog X.w _ h' _ (.lst ys) from ⟨hz, its, c', r', e⟩), rfl, q _ (I.hok.fresh (Nat.le_refl _))⟩
  rcases hq with hq | hq
  · obtain ⟨its, r', pl, hz⟩ := I.list hq
    have hlen := r'.length
    obtain ⟨o, ho, hc, n, hd⟩ := pl.isList
    exact call_list_seq p (.inl rfl) ho hc hd (fun h' c' kp e => fin its r' hz h' c' kp e) (by simp only [List.size_toArray] <;> omega)
  · obtain ⟨its, r', pl, hz⟩ := I.tuple hq
    have hlen := r'.length
    obtain ⟨o, ho, hc, n, hd⟩ := pl
    exact call_list_seq p (.inr rfl) ho hc hd (fun h' c' kp e => fin its r' hz h' c' kp e) (by simp only [List.size_toArray] <;> omega)
theorem call_tuple_of : CallR X (.type "tuple") (fun xs H Q => ∃ p ys, xs = [.ref p] ∧ ((SqL X.K H p ys ∧ ∀ l, H l = none → Q (.ref l) (upd H l (.tup ys))) ∨ (SqT X.K H p ys ∧ Q (.ref p) H))) := by
  intro pins s σ H xs us Q I r h
  obtain ⟨p, ys, rfl, h⟩ := h
  obtain ⟨u, rfl, rx⟩ := vals1 r
  cases rx
  rcases h with ⟨hq, q⟩ | ⟨hq, q⟩
  · obtain ⟨its, r', pl, hz⟩ := I.list hq
    have hlen := r'.length
    refine call_tuple_list pl.isList (fun h' kp => ?_) (by simp only [List.size_toArray] <;> omega)
    have I1 : Inv X pins σ H { s with heap := h' } := I.kept (t' := s.toks) kp
    have I2 : Inv X pins σ (upd H h'.objs.size (.tup ys)) { s with heap := h'.push { cls := .type "tuple", data := .seq its.toArray } } :=
      I1.laid (t' := s.toks) (fun b o e => Heap.get?_push_of_some _ e) (Nat.le_refl _) (show ObjOk X.prog X.w _ _ _ (.tup ys) from ⟨hz, its, r', IsTup.new _ _⟩)
    exact ⟨.ref h'.objs.size, _, I2, rfl, q _ (I1.hok.fresh (Nat.le_refl _))⟩
  · obtain ⟨its, r', pl, hz⟩ := I.tuple hq
    exact call_tuple_same pl ⟨.ref p, H, I, rfl, q⟩

/-! ### the call of a builtin's method: o.m(..) -/
/-- the value is of that builtin type -/
def tyV (K : PySem.W.Frag) (T : String) (x : V) (H : Hp) : Prop := match x with
  | .str _ => T = "str"
  | .int _ => T = "int"
  | .ref p => (T = "list" ∧ ∃ xs, SqL K H p xs) ∨ (T = "tuple" ∧ ∃ o, K.lookup p = some o ∧ o.cls = .type "tuple" ∧ o.dict = none) ∨
      (T = "dict" ∧ ((∃ kvs, H p = some (.dK kvs)) ∨ ∃ kvs, H p = some (.dT kvs))) ∨ (T = "set" ∧ ∃ S n, H p = some (.set S n))
  | _ => False
theorem tyV_is {pins : List (Addr × Obj)} {σ : St} {H : Hp} {s : Shared} {T : String} {x : V} {v : Value} (I : Inv X pins σ H s) (r : RelV x v) (ty : tyV X.K T x H) :
    s.TypeIs v T ∧ ∀ a, v = .ref a → ∃ ob, s.heap.get? a = some ob ∧ ob.dict = none := by
  cases x with
  | str z =>
    obtain ⟨t, rfl⟩ := r
    cases (show T = "str" from ty)
    exact ⟨typeIs_str s z t, fun _ e => nomatch e⟩
  | int i =>
    obtain ⟨t, rfl⟩ := r
    cases (show T = "int" from ty)
    exact ⟨typeIs_int s i t, fun _ e => nomatch e⟩
  | ref p =>
    cases r
    rcases ty with ⟨rfl, xs, hq⟩ | ⟨rfl, o, hk, hc, hd⟩ | ⟨rfl, hk⟩ | ⟨rfl, S, n, hk⟩
    · obtain ⟨its, _, pl, _⟩ := I.list hq
      refine ⟨pl.isList.typeIs, fun a e => ?_⟩
      cases e
      obtain ⟨o, n, e, c, hd, _⟩ := pl
      exact ⟨o, e, hd⟩
    · refine ⟨⟨o, I.kIn p o hk, hc⟩, fun a e => ?_⟩
      cases e
      exact ⟨o, I.kIn _ o hk, hd⟩
    · have z : ∃ o, s.heap.get? p = some o ∧ o.ExactDict := by
        rcases hk with ⟨kvs, hk⟩ | ⟨kvs, hk⟩
        · obtain ⟨_, _, _, _, o, _, _, e, ex, _⟩ := I.hok p _ hk
          exact ⟨o, e, ex⟩
        · obtain ⟨_, _, _, _, o, _, _, e, ex, _⟩ := I.hok p _ hk
          exact ⟨o, e, ex⟩
      obtain ⟨o, e, ex⟩ := z
      refine ⟨⟨o, e, ex.1⟩, fun a e2 => ?_⟩
      cases e2
      exact ⟨o, e, ex.2.1⟩
    · obtain ⟨o, _, _, _, e, ex, _⟩ := I.hok p _ hk
      refine ⟨⟨o, e, ex.1⟩, fun a e2 => ?_⟩
      cases e2
      exact ⟨o, e, ex.2.1⟩
  | _ => exact False.elim ty
def tBM0 (K : PySem.W.Frag) (T : String) (r : V → List V → Hp → VK → Prop) (to : TE) : TE := fun σ H Q => to σ H fun x H1 => tyV K T x H1 ∧ r x [] H1 Q
def tBM (K : PySem.W.Frag) (T : String) (r : V → List V → Hp → VK → Prop) (to : TE) (t : TA) : TE := fun σ H Q => to σ H fun x H1 => tyV K T x H1 ∧ t σ H1 fun xs H2 => r x xs H2 Q
variable {o e : Expr} {es : List Expr} {to : TE} {t : TA} {name : Str} {apos cpos : Pos} {T id : String} {r : V → List V → Hp → VK → Prop}
theorem pe_bm0 (pa : PlainAttrs T) (slot : Slot T name id) (hty : typeOf (.builtin id) = pure (.type "method_descriptor")) (hm : MtR X id r) (ho : PE X o to)
    (hbase : attributeBase o name X.env (eval o X.env) = eval o X.env := by rfl) (hline : (apos.endLine == cpos.line) = true := by rfl) : PE X (.Call (.Attribute o name apos) [] [] cpos) (tBM0 X.K T r to) := by
  intro pins s σ H Q I h
  refine wpAny_Call_method0_late hbase hline (thn (ho pins s σ H _ I h) fun v s1 ⟨x, H1, I1, r1, ty, q1⟩ => ?_)
  obtain ⟨h1, h2⟩ := tyV_is I1 r1 ty
  exact ⟨T, id, pa, slot, hty, h1, h2, Calls.callWith_builtin rfl (PySem.evalArgs_none (hm pins s1 σ H1 x [] v [] Q I1 r1 .nil q1))⟩
theorem pe_bm (pa : PlainAttrs T) (slot : Slot T name id) (hty : typeOf (.builtin id) = pure (.type "method_descriptor")) (hm : MtR X id r) (ho : PE X o to) (ha : PA X (e :: es) t)
    (hbase : attributeBase o name X.env (eval o X.env) = eval o X.env := by rfl)
    (hfew : ((backTo cpos (starEach (e :: es) X.env)).all (fun x => !x.1) && (backToKw cpos (keywordEach [] X.env)).all (fun x => x.1.isSome)
      && decide ((e :: es).length + ([] : List Keyword).length + (if ([] : List Keyword).isEmpty then 0 else 1) < 30)) = true := by rfl)
    (hline : (apos.endLine == cpos.line) = true := by rfl) (hs : starEach (e :: es) X.env = (false, eval e X.env) :: starEach es X.env := by rfl) (hplain : (backTo cpos (starEach es X.env)).any (·.1) = false := by rfl) :
    PE X (.Call (.Attribute o name apos) (e :: es) [] cpos) (tBM X.K T r to t) := by
  intro pins s σ H Q I h
  refine wpAny_Call_method_late hbase hfew hline rfl (thn (ho pins s σ H _ I h) fun v s1 ⟨x, H1, I1, r1, ty, q1⟩ => ?_)
  obtain ⟨h1, h2⟩ := tyV_is I1 r1 ty
  refine ⟨T, id, pa, slot, hty, h1, h2, ?_⟩
  have hA := ha cpos pins s1 σ H1 _ I1 q1
  rw [hs] at hA ⊢
  refine Calls.callWith_builtin (by show (false || (backTo cpos (starEach es X.env)).any (·.1)) = false; rw [hplain] <;> rfl) (Calls.evalArgs_plain ?_)
  exact thn hA fun us s2 ⟨vs, H2, I2, r2, q2⟩ => hm pins s2 σ H2 x vs v us Q I2 r1 r2 q2
/- xs.append(e), list.index on a module's tuple .. are MtR facts of 06m -/
end
end L2

namespace L2
open PySem PySem.Spec PyProof.Rows

def MtM (X : Cx) (id : String) (r : V → List V → Hp → VK → Prop) : Prop :=
  ∀ (pins : List (Addr × Obj)) (s : Shared) (σ : St) (H : Hp) (x : V) (xs : List V) (v : Value) (us : List Value) (Q : VK), Inv X pins σ H s → RelV x v → Vals xs us → r x xs H Q →
    wpAny (model X.prog X.w) X.A (call (.builtin id) (v :: us)) (EP X pins σ Q) X.xe s

/-! ### lists of values -/
theorem Vals.one : ∀ {x : V} {us : List Value}, Vals [x] us → ∃ u, us = [u] ∧ RelV x u
  | _, _, .cons r .nil => ⟨_, rfl, r⟩
theorem Vals.two : ∀ {x y : V} {us : List Value}, Vals [x, y] us → ∃ u v, us = [u, v] ∧ RelV x u ∧ RelV y v
  | _, _, _, .cons r (.cons q .nil) => ⟨_, _, rfl, r, q⟩
theorem Vals.zero : ∀ {us : List Value}, Vals [] us → us = []
  | _, .nil => rfl
theorem Vals.dropLast {xs : List V} {us : List Value} (h : Vals xs us) : Vals xs.dropLast us.dropLast := by
  induction h with
  | nil => exact .nil
  | cons r t ih =>
    cases t with
    | nil => exact .nil
    | cons q t' => exact .cons r ih
theorem Vals.eraseIdx : ∀ {xs : List V} {us : List Value} (i : Nat), Vals xs us → Vals (xs.eraseIdx i) (us.eraseIdx i)
  | _, _, _, .nil => .nil
  | _, _, 0, .cons _ t => t
  | _, _, i + 1, .cons r t => .cons r (Vals.eraseIdx i t)
theorem Vals.reverse {xs : List V} {us : List Value} (h : Vals xs us) : Vals xs.reverse us.reverse := by
  induction h with
  | nil => exact .nil
  | cons r t ih => rw [List.reverse_cons, List.reverse_cons]; exact Vals.append ih (.cons r .nil)
theorem Vals.rep {xs : List V} {us : List Value} (h : Vals xs us) : ∀ k : Nat, Vals (List.replicate k xs).flatten (List.replicate k us).flatten
  | 0 => .nil
  | k + 1 => by
    rw [List.replicate_succ, List.replicate_succ, List.flatten_cons, List.flatten_cons]
    exact Vals.append h (Vals.rep h k)
theorem erase_last {α : Type} (l : List α) : l.eraseIdx (l.length - 1) = l.dropLast := by
  induction l with
  | nil => rfl
  | cons a r ih =>
    cases r with
    | nil => rfl
    | cons b r =>
      have e : (a :: b :: r).length - 1 = ((b :: r).length - 1) + 1 := by
        have h1 : (a :: b :: r).length = r.length + 2 := rfl
        have h2 : (b :: r).length = r.length + 1 := rfl
        omega
      rw [e, List.eraseIdx_cons_succ, ih]
      all_goals rfl
theorem len_erase {α : Type} : ∀ (l : List α) (i : Nat), (l.eraseIdx i).length ≤ l.length
  | [], _ => Nat.le_refl _
  | _ :: _, 0 => Nat.le_succ _
  | _ :: r, i + 1 => Nat.succ_le_succ (len_erase r i)
theorem foldl_rep (its : List Value) : ∀ (k : Nat) (acc : List Value),
    List.foldl (fun x1 x2 => x1 ++ x2) acc.toArray (List.replicate k its.toArray) = (acc ++ (List.replicate k its).flatten).toArray
  | 0, acc => by simp
  | k + 1, acc => by
    have e : acc.toArray ++ its.toArray = (acc ++ its).toArray := by simp
    have e2 : (acc ++ its) ++ (List.replicate k its).flatten = acc ++ (List.replicate (k + 1) its).flatten := by
      rw [List.replicate_succ, List.flatten_cons, List.append_assoc]
    rw [← e2, ← foldl_rep its k (acc ++ its), ← e, List.replicate_succ, List.foldl_cons]

section
variable {X : Cx} {pins : List (Addr × Obj)} {σ : St} {H : Hp} {s : Shared} {l b : Addr} {xs ys zs : List V}

/-! ### the two steps: a tracked list is rewritten, a new list is laid -/
theorem Inv.lset {its its' : List Value} {n : Nat} {f : Array Value → Array Value} {t' : Nat} (I : Inv X pins σ H s) (hH : H l = some (.lst xs))
    (e : s.heap.get? l = some { cls := .type "list", data := .seq its.toArray n }) (hf : f its.toArray = its'.toArray) (hv : Vals ys its') (hz : ys.length ≤ sizeLine) :
    Inv X pins σ (upd H l (.lst ys)) { s with heap := s.heap.update l (Obj.mapSeq f), toks := t' } := by
  have q := PySem.IsL.update e f
  rw [hf] at q
  refine I.write (x := l) (e := l) (by rw [hH]; exact trivial) (.inl rfl) (fun b' u hb hu => (Heap.get?_update_other s.heap (Obj.mapSeq f) (Ne.symm hb)).trans hu) ⟨_, q⟩ ?_
  exact ⟨hz, its', _, hv, q⟩
theorem Inv.lnew {its : List Value} {t' : Nat} (I : Inv X pins σ H s) (hv : Vals ys its) (hz : ys.length ≤ sizeLine) :
    Inv X pins σ (upd H s.heap.objs.size (.lst ys)) { s with heap := s.heap.push { cls := .type "list", data := .seq its.toArray }, toks := t' } :=
  I.laid (fun _ _ q => Heap.get?_push_of_some _ q) (Nat.le_refl _) ⟨hz, its, 0, hv, Heap.get?_push_size _ rfl⟩
theorem Inv.fresh (I : Inv X pins σ H s) : H s.heap.objs.size = none := I.hok.fresh (Nat.le_refl _)
theorem Inv.lstM (I : Inv X pins σ H s) (hH : H l = some (.lst xs)) : xs.length ≤ sizeLine ∧ ∃ (its : List Value) (n : Nat), Vals xs its ∧ xs.length = its.length ∧ s.heap.get? l = some { cls := .type "list", data := .seq its.toArray n } := by
  obtain ⟨z, its, n, r, e⟩ := I.hok l _ hH
  exact ⟨z, its, n, r, r.length, e⟩

theorem notLongL {n : Nat} (h : n ≤ sizeLine) : Builtin.List.listTooLong n = false := by
  unfold Builtin.List.listTooLong
  exact decide_eq_false (by omega)
end

section
variable {X : Cx}

/-! ### methods -/
def rAppend : V → List V → Hp → VK → Prop := fun x vs H Q => ∃ l xs y, x = .ref l ∧ vs = [y] ∧ H l = some (.lst xs) ∧ xs.length < sizeLine ∧ Q .non (upd H l (.lst (xs ++ [y])))
theorem mt_append : MtM X "list.append" rAppend := by
  intro pins s σ H x vs v us Q I rx rv h
  obtain ⟨l, xs, y, rfl, rfl, hH, hz, q⟩ := h
  cases rx
  obtain ⟨u, rfl, ru⟩ := rv.one
  obtain ⟨z, its, n, r, hl, e⟩ := I.lstM hH
  refine call_meets F.slot_list_append ⟨_, e, rfl⟩ F.entry_list_append (F.args_list_append_2 _ _) (PySem.list_append l its.toArray n u (by rw [List.size_toArray]; omega)) ⟨e, ?_⟩
  refine ⟨.non, _, I.lset (its' := its ++ [u]) hH e (by simp) (r.append (.cons ru .nil)) ?_, rfl, q⟩
  rw [List.length_append, List.length_singleton]
  omega

def rExtend : V → List V → Hp → VK → Prop := fun x vs H Q => ∃ l b xs zs, x = .ref l ∧ vs = [.ref b] ∧ H l = some (.lst xs) ∧ H b = some (.lst zs) ∧ xs.length + zs.length ≤ sizeLine ∧ Q .non (upd H l (.lst (xs ++ zs)))
theorem mt_extend : MtM X "list.extend" rExtend := by
  intro pins s σ H x vs v us Q I rx rv h
  obtain ⟨l, b, xs, zs, rfl, rfl, hH, hB, hz, q⟩ := h
  cases rx
  obtain ⟨u, rfl, ru⟩ := rv.one
  cases ru
  obtain ⟨z, its, n, r, hl, e⟩ := I.lstM hH
  obtain ⟨z2, its2, n2, r2, hl2, e2⟩ := I.lstM hB
  have hsz : its.toArray.size + its2.toArray.size ≤ sizeLine := by rw [List.size_toArray, List.size_toArray]; omega
  have hlong : ¬ (!its.toArray.isEmpty && Builtin.List.listTooLong (its.toArray.size + its2.toArray.size)) = true := by
    rw [notLongL hsz, Bool.and_false]
    exact Bool.false_ne_true
  refine call_meets F.slot_list_extend ⟨_, e, rfl⟩ F.entry_list_extend (F.args_list_extend_2 _ _)
    (AutoSeq1.list_extend_list_list_0 l its.toArray n b its2.toArray n2 hlong (by rw [List.size_toArray]; omega) (by omega)) ⟨e, e2, ?_⟩
  refine ⟨.non, _, I.lset (its' := its ++ its2) hH e (by simp) (r.append r2) ?_, rfl, q⟩
  rw [List.length_append]
  omega

def rPop : V → List V → Hp → VK → Prop := fun x vs H Q => ∃ l xs y, x = .ref l ∧ vs = [] ∧ H l = some (.lst xs) ∧ xs[xs.length - 1]? = some y ∧ Q y (upd H l (.lst xs.dropLast))
theorem mt_pop : MtM X "list.pop" rPop := by
  intro pins s σ H x vs v us Q I rx rv h
  obtain ⟨l, xs, y, rfl, rfl, hH, hy, q⟩ := h
  cases rx
  have hus := rv.zero
  subst hus
  obtain ⟨z, its, n, r, hl, e⟩ := I.lstM hH
  obtain ⟨u, hu, ru⟩ := r.get hy
  have hy' : its.toArray[its.toArray.size - 1]? = some u := by
    show its.toArray[its.length - 1]? = some u
    rw [← Array.getElem?_toList, ← hl]
    exact hu
  refine call_meets F.slot_list_pop ⟨_, e, rfl⟩ F.entry_list_pop (F.args_list_pop_1 _) (MeetsSeq.list_pop_last l its.toArray n u hy' (by rw [List.size_toArray]; omega)) ⟨e, ?_⟩
  refine ⟨y, _, I.lset (its' := its.dropLast) hH e ?_ r.dropLast ?_, ru, q⟩
  · show its.toArray.eraseIdxIfInBounds (its.toArray.size - 1) = its.dropLast.toArray
    rw [List.size_toArray, List.eraseIdxIfInBounds_toArray, erase_last]
  · rw [List.length_dropLast]
    omega

def rPopAt : V → List V → Hp → VK → Prop := fun x vs H Q => ∃ l xs i k y, x = .ref l ∧ vs = [.int i] ∧ H l = some (.lst xs) ∧ -(2 ^ 63) ≤ i ∧ i < 2 ^ 63 ∧ seqIndex? i xs.length = some k ∧ xs[k]? = some y ∧ Q y (upd H l (.lst (xs.eraseIdx k)))
theorem mt_popAt : MtM X "list.pop" rPopAt := by
  intro pins s σ H x vs v us Q I rx rv h
  obtain ⟨l, xs, i, k, y, rfl, rfl, hH, h1, h2, hk, hy, q⟩ := h
  cases rx
  obtain ⟨u, rfl, ru⟩ := rv.one
  obtain ⟨t, rfl⟩ := ru
  obtain ⟨z, its, n, r, hl, e⟩ := I.lstM hH
  obtain ⟨w, hw, rw'⟩ := r.get hy
  refine call_meets F.slot_list_pop ⟨_, e, rfl⟩ F.entry_list_pop (F.args_list_pop_2 _ _)
    (MeetsSeq.list_pop_at l its.toArray n i t k w (fitsIndex_both h1 h2) (by rw [List.size_toArray, ← hl]; exact hk) (by rw [← Array.getElem?_toList]; exact hw) (by rw [List.size_toArray]; omega)) ⟨e, ?_⟩
  refine ⟨y, _, I.lset (its' := its.eraseIdx k) hH e ?_ (r.eraseIdx k) ?_, rw', q⟩
  · show its.toArray.eraseIdxIfInBounds k = (its.eraseIdx k).toArray
    rw [List.eraseIdxIfInBounds_toArray]
  · have := len_erase xs k
    omega

def rReverse : V → List V → Hp → VK → Prop := fun x vs H Q => ∃ l xs, x = .ref l ∧ vs = [] ∧ H l = some (.lst xs) ∧ Q .non (upd H l (.lst xs.reverse))
theorem mt_reverse : MtM X "list.reverse" rReverse := by
  intro pins s σ H x vs v us Q I rx rv h
  obtain ⟨l, xs, rfl, rfl, hH, q⟩ := h
  cases rx
  have hus := rv.zero
  subst hus
  obtain ⟨z, its, n, r, hl, e⟩ := I.lstM hH
  refine call_meets F.slot_list_reverse ⟨_, e, rfl⟩ F.entry_list_reverse (F.args_list_reverse_1 _) (AutoSeq1.list_reverse_list_0 l its.toArray n (by rw [List.size_toArray]; omega)) ⟨e, ?_⟩
  refine ⟨.non, _, I.lset (its' := its.reverse) hH e (by simp) r.reverse ?_, rfl, q⟩
  rw [List.length_reverse]
  omega

def rClear : V → List V → Hp → VK → Prop := fun x vs H Q => ∃ l xs, x = .ref l ∧ vs = [] ∧ H l = some (.lst xs) ∧ Q .non (upd H l (.lst []))
theorem mt_clear : MtM X "list.clear" rClear := by
  intro pins s σ H x vs v us Q I rx rv h
  obtain ⟨l, xs, rfl, rfl, hH, q⟩ := h
  cases rx
  have hus := rv.zero
  subst hus
  obtain ⟨z, its, n, r, hl, e⟩ := I.lstM hH
  refine call_meets F.slot_list_clear ⟨_, e, rfl⟩ F.entry_list_clear (F.args_list_clear_1 _) (AutoSeq1.list_clear_list_0 l its.toArray n (by rw [List.size_toArray]; omega)) ⟨e, ?_⟩
  exact ⟨.non, _, I.lset (its' := []) (ys := []) hH e rfl .nil (Nat.zero_le _), rfl, q⟩

/-! ### list + list, list += list, list * int -/
def rCat : R2 := fun x y H Q => ∃ l b xs zs, x = .ref l ∧ y = .ref b ∧ H l = some (.lst xs) ∧ H b = some (.lst zs) ∧ xs.length + zs.length ≤ sizeLine ∧ ∀ p, H p = none → Q (.ref p) (upd H p (.lst (xs ++ zs)))
theorem op_cat : OpR X (binaryOp .Add) rCat := by
  intro pins s σ H x y v u Q I rx ry h
  obtain ⟨l, b, xs, zs, rfl, rfl, hH, hB, hz, q⟩ := h
  cases rx
  cases ry
  obtain ⟨z, its, n, r, hl, e⟩ := I.lstM hH
  obtain ⟨z2, its2, n2, r2, hl2, e2⟩ := I.lstM hB
  refine PySem.P.add_list e e2 ?_ (by rw [List.size_toArray, List.size_toArray]; omega)
  have ea : its.toArray ++ its2.toArray = (its ++ its2).toArray := by simp
  rw [ea]
  exact ⟨.ref _, _, I.lnew (t' := s.toks) (r.append r2) (by rw [List.length_append]; omega), rfl, q _ I.fresh⟩
/-- a list times an int (a negative one is nothing) -/
def rRep : R2 := fun x y H Q => ∃ l k xs, x = .ref l ∧ y = .int k ∧ H l = some (.lst xs) ∧ -(2 ^ 63) ≤ k ∧ k < 2 ^ 63 ∧ xs.length * k.toNat ≤ sizeLine ∧
  ∀ p, H p = none → Q (.ref p) (upd H p (.lst (List.replicate k.toNat xs).flatten))
theorem len_rep {α : Type} (xs : List α) (k : Nat) : (List.replicate k xs).flatten.length = k * xs.length := by
  induction k with
  | zero => simp
  | succ k ih => rw [List.replicate_succ, List.flatten_cons, List.length_append, ih, Nat.succ_mul, Nat.add_comm]
theorem op_rep : OpR X (binaryOp .Mult) rRep := by
  intro pins s σ H x y v u Q I rx ry h
  obtain ⟨l, k, xs, rfl, rfl, hH, h1, h2, hz, q⟩ := h
  cases rx
  obtain ⟨t, rfl⟩ := ry
  obtain ⟨z, its, n, r, hl, e⟩ := I.lstM hH
  have hlen : its.toArray.size * k.toNat ≤ sizeLine := by rw [List.size_toArray, ← hl]; exact hz
  have hcap : ¬ its.toArray.size * k.toNat > (2 ^ 63 - 1) / 8 := by
    have : (sizeLine : Nat) ≤ (2 ^ 63 - 1) / 8 := by decide
    omega
  have hfit : ¬ (!Builtin.List.listFitsIndex k) = true := by
    rw [fitsIndex_both h1 h2]
    exact Bool.false_ne_true
  have hlong : ¬ Builtin.List.listTooLong (its.toArray.size * k.toNat) = true := by
    rw [notLongL hlen]
    exact Bool.false_ne_true
  have hnew : List.foldl (fun x1 x2 => x1 ++ x2) #[] (List.replicate (if its.toArray.isEmpty = true then 0 else k.toNat) its.toArray) = (List.replicate k.toNat its).flatten.toArray := by
    have f0 : ∀ m : Nat, List.foldl (fun x1 x2 => x1 ++ x2) #[] (List.replicate m its.toArray) = (List.replicate m its).flatten.toArray := fun m => by
      have := foldl_rep its m []
      rw [List.nil_append] at this
      exact this
    rw [f0]
    cases its with
    | nil => simp
    | cons a r' => rw [if_neg (by simp)]
  refine wpAny_binaryOp_repeat_ref (T := "list") (U := "int") (by decide) ⟨_, e, rfl⟩ (fun s' => typeIs_int s' k t) noFill_list_mul F.fills_int_mul F.slot_int_rmul repeat_list F.slot_int_index.lookup
    (call_meets F.slot_int_rmul (typeIs_int s k t) F.entry_int_rmul (F.args_int_rmul_2 _ _) (int___rmul___int_list k t l its.toArray n)
      ⟨e, rfl, ⟨_, e, rfl⟩, call_meets F.slot_list_mul ⟨_, e, rfl⟩ F.entry_list_mul (F.args_list_mul_2 _ _) (AutoListH.list___mul___list_int_3 l its.toArray n k t hfit hcap hlong) ⟨e, ?_⟩⟩)
  rw [hnew]
  exact ⟨.ref _, _, I.lnew (t' := s.toks) (r.rep k.toNat) (by rw [len_rep, Nat.mul_comm]; exact hz), rfl, q _ I.fresh⟩

/-! ### del xs[i] -/
theorem del_list {pins : List (Addr × Obj)} {s : Shared} {σ : St} {H : Hp} {l : Addr} {xs : List V} {i : Int} {t : Tok} {k : Nat} {Q : Unit → Shared → Prop} (I : Inv X pins σ H s) (hH : H l = some (.lst xs))
    (h1 : -(2 ^ 63) ≤ i) (h2 : i < 2 ^ 63) (hk : seqIndex? i xs.length = some k) (h : ∀ s', Inv X pins σ (upd H l (.lst (xs.eraseIdx k))) s' → Q () s') :
    wpAny (model X.prog X.w) X.A (delItem (.ref l) (.int i t)) Q X.xe s := by
  obtain ⟨z, its, n, r, hl, e⟩ := I.lstM hH
  refine PySem.P.delItem_list (k := k) e (fitsIndex_both h1 h2) (by rw [List.size_toArray, ← hl]; exact hk) (h _ ?_) (by rw [List.size_toArray]; omega)
  refine I.lset (its' := its.eraseIdx k) (t' := s.toks) hH e ?_ (r.eraseIdx k) ?_
  · show its.toArray.eraseIdxIfInBounds k = (its.eraseIdx k).toArray
    rw [List.eraseIdxIfInBounds_toArray]
  · have := len_erase xs k
    omega
end

/-! ### xs[a:b] = ys -/
section
variable {prog : Program} {w : World} {A : Around} {E : Value → Shared → Prop} {s : Shared}
theorem splice_eq (its its2 : List Value) (a c : Nat) : its.toArray.extract 0 a ++ its2.toArray ++ its.toArray.extract c its.toArray.size = (its.take a ++ its2 ++ its.drop c).toArray := by
  apply Array.toList_inj.mp
  first
    | (simp
       exact List.take_of_length_le (by simp))
    | simp [List.take_of_length_le]
    | simp
theorem bounds_run {a c n : Nat} (hac : a ≤ c) (hc : c ≤ n) : sliceBounds (some (a : Int)) (some (c : Int)) none n = ((a : Int), (c : Int), 1) := by
  simp only [sliceBounds, Option.getD_none]
  have h1 : ¬ ((a : Int) < 0) := by omega
  have h2 : ¬ ((c : Int) < 0) := by omega
  simp only [h1, h2, if_false, show (1 : Int) > 0 by decide, if_true]
  congr 1
  · omega
  · congr 1; omega
set_option maxRecDepth 100000 in
/-- list.__setitem__ with a slice of step one and another list -/
theorem setItem_slice {l b sl : Addr} {items new : Array Value} {n n2 : Nat} {vl vu : Value} {a c : Nat} {Q : Unit → Shared → Prop}
    (e : s.heap.get? l = some { cls := .type "list", data := .seq items n }) (e2 : s.heap.get? b = some { cls := .type "list", data := .seq new n2 }) (hne : l ≠ b)
    (hs : s.heap.IsSliceOf sl vl vu .none) (pl : IsPart vl (some (a : Int))) (pu : IsPart vu (some (c : Int))) (hac : a ≤ c) (hc : c ≤ items.size)
    (hsz : items.size + new.size ≤ sizeLine) (h : Q () { s with heap := s.heap.update l (Obj.mapSeq fun xs => xs.extract 0 a ++ new ++ xs.extract c xs.size) }) :
    wpAny (model prog w) A (setItem (.ref l) (.ref sl) (.ref b)) Q E s := by
  have hl : s.heap.IsList l items := PySem.IsL.isList e
  have hb : s.heap.IsList b new := PySem.IsL.isList e2
  obtain ⟨os, hos, hcs, hds⟩ := id hs
  have hTs : s.TypeIs (.ref sl) "slice" := ⟨os, hos, hcs⟩
  have hstep : ¬ ((rawPart none == rawInt 0) = true) := Bool.false_ne_true
  have hsame : Builtin.List.listSameRef (.ref l) (.ref b) = false := by
    unfold Builtin.List.listSameRef
    exact beq_eq_false_iff_ne.mpr hne
  have hmax : (max (a : Int) (c : Int)).toNat = c := by omega
  have hz' : ((fun xs : Array Value => xs.extract 0 a ++ new ++ xs.extract c xs.size) items).size ≤ sizeLine + 1 := by
    simp only [Array.size_append, Array.size_extract]
    omega
  unfold setItem
  try with_reducible refine wpAny_holding ?_
  first | refine wpAny_bind (wpAny_pure ?_) | skip
  refine wpAny_bind (wpAny_sequenceKey hl.typeIs (by decide) ?_)
  refine wpAny_bind (wpAny_callSpecial?_slot (name := Str.ofString "__setitem__") hl.typeIs slot_list_setitem
    (wpAny_call_entry slot_list_setitem hl.typeIs entry_list_setitem ?_ (args_list_setitem _ _ _)))
  show wpAny _ _ (Builtin.List.listSubscript? (.ref sl) >>= _) _ _ s
  refine wpAny_bind ?_
  unfold Builtin.List.listSubscript?
  refine wpAny_bind (wpAny_specialOf hTs slice_no_index ?_)
  simp only [Option.isNone_none, if_true]
  refine wpAny_pure ?_
  show wpAny _ _ (typeOf (.ref sl) >>= _) _ _ s
  refine wpAny_bind (wpAny_typeOf hTs ?_)
  first
    | rw [if_neg (by decide)]
    | refine PySem.W.KFB.if_not (by decide) ?_
  rw [listSliceParts_eq]
  refine wpAny_bind (wpAny_bind (wpAny_field hos hds (x := .none) rfl (wpAny_bind (wpAny_listPart .none ?_))))
  rw [if_neg hstep]
  refine wpAny_bind (wpAny_field hos hds (x := vl) rfl (wpAny_bind (wpAny_listPart pl ?_)))
  refine wpAny_bind (wpAny_field hos hds (x := vu) rfl (wpAny_bind (wpAny_listPart pu (wpAny_pure ?_))))
  first
    | simp only [hsame, Bool.false_eq_true, if_false]
    | refine PySem.W.KFB.if_not hsame ?_
    | (dsimp only
       rw [if_neg (by rw [hsame]; exact Bool.false_ne_true)])
  refine wpAny_bind (m := Builtin.List.listAllItems (.ref b) "must assign iterable to extended slice") ?_
  unfold Builtin.List.listAllItems
  refine wpAny_bind (wpAny_typeOf hb.typeIs ?_)
  first
    | refine PySem.W.KFB.if_so (by decide) ?_
    | rw [if_pos (by decide)]
    | simp only [beq_self_eq_true, Bool.true_or, if_true]
  unfold Builtin.List.listItems
  refine wpAny_bind (wpAny_seqItems e2 rfl (wpAny_pure ?_))
  refine wpAny_bind (wpAny_bind (wpAny_seqItems e rfl (wpAny_pure ?_)))
  refine wpAny_bind (wpAny_of_eq ((sliceIndices_raw (some (a : Int)) (some (c : Int)) none items.size (by simp)).trans (congrArg (pure : Int × Int × Int → Sem (Int × Int × Int)) (bounds_run hac hc))) ?_)
  show wpAny _ _ (if ((1 : Int) == 1) = true then _ else _) _ _ s
  rw [if_pos (by decide)]
  refine wpAny_bind (wpAny_rule ?_)
  first
    | simp only [notLongL hsz, Bool.false_eq_true, if_false]
    | refine PySem.W.KFB.if_not (notLongL hsz) ?_
  first | refine wpAny_bind (wpAny_pure ?_) | skip
  show wpAny _ _ (updateSeq l (fun xs => xs.extract 0 ((a : Int)).toNat ++ new ++ xs.extract (max (a : Int) (c : Int)).toNat xs.size) >>= _) _ _ s
  rw [hmax, Int.toNat_natCast]
  refine wpAny_bind (wpAny_updateSeq (hz := Nat.le_trans (Nat.le_add_right _ _) hsz) (_hz' := hz') e rfl ?_)
  refine wpAny_bind (wpAny_letGo ?_)
  first
    | exact wpAny_bind (wpAny_pure (wpAny_pure ⟨.none, rfl, wpAny_pure h⟩))
    | exact wpAny_pure ⟨.none, rfl, wpAny_pure h⟩
end

section
variable {X : Cx}
/-- xs[a:c] = ys of another list, at the value level: sl is the slice object that was just made -/
theorem set_slice {pins : List (Addr × Obj)} {s : Shared} {σ : St} {H : Hp} {l b sl : Addr} {xs ys : List V} {a c : Int} {vl vu : Value} {Q : Unit → Shared → Prop} (I : Inv X pins σ H s)
    (hH : H l = some (.lst xs)) (hB : H b = some (.lst ys)) (hne : l ≠ b) (hs : s.heap.IsSliceOf sl vl vu .none) (ra : RelV (.int a) vl) (rc : RelV (.int c) vu) (h0 : 0 ≤ a) (hac : a ≤ c) (hc : c ≤ xs.length)
    (hz : xs.length + ys.length ≤ sizeLine) (h : ∀ s', Inv X pins σ (upd H l (.lst (xs.take a.toNat ++ ys ++ xs.drop c.toNat))) s' → Q () s') :
    wpAny (model X.prog X.w) X.A (setItem (.ref l) (.ref sl) (.ref b)) Q X.xe s := by
  obtain ⟨ta, rfl⟩ := ra
  obtain ⟨tc, rfl⟩ := rc
  obtain ⟨z, its, n, r, hl, e⟩ := I.lstM hH
  obtain ⟨z2, its2, n2, r2, hl2, e2⟩ := I.lstM hB
  obtain ⟨a', rfl⟩ := Int.eq_ofNat_of_zero_le h0
  obtain ⟨c', rfl⟩ := Int.eq_ofNat_of_zero_le (Int.le_trans h0 hac)
  simp only [Int.toNat_natCast] at h
  refine setItem_slice (a := a') (c := c') e e2 hne hs (.int _ _) (.int _ _) (by omega) (by rw [List.size_toArray]; omega) (by rw [List.size_toArray, List.size_toArray]; omega) (h _ ?_)
  refine I.lset (its' := its.take a' ++ its2 ++ its.drop c') (t' := s.toks) hH e ?_ (Vals.append (Vals.append (r.take _) r2) (r.drop _)) ?_
  · exact splice_eq its its2 a' c'
  · rw [List.length_append, List.length_append, List.length_take, List.length_drop]
    omega
end
end L2

namespace Att
open PySem PySem.W PySem.Calls PyProof.Rows

/-! ### the script -/
theorem ints_of_wellAll {P : Params} {h : Heap} : ∀ (ns : List Int) (vs : List Value), WellAll P h vs (ns.map WData.int) → IntsAre vs ns := by
  intro ns
  induction ns with
  | nil =>
    intro vs w
    rw [List.map_nil] at w
    cases w
    exact .nil
  | cons n ns ih =>
    intro vs w
    rw [List.map_cons] at w
    cases w with
    | cons a b =>
      cases a
      exact .cons _ _ (ih _ b)

theorem script_of {l : OpenLaw} {n : Nat} (hn : l.most = some n) {P : Params} {h : Heap} {args : List WData} {vals : List Value}
    (hpre : l.row.toRowW.claim.pre args = true) (hwl : WellAll P h vals args) :
    ∃ a vs ns, vals = [Value.ref a] ∧ args = [WData.list (ns.map WData.int)] ∧ h.get? a = some { cls := .type "list", data := .seq vs.toArray } ∧ IntsAre vs ns ∧ ns.length ≤ n := by
  have hsh : WShape.hasAll [] args [.list .int] = true := (pre_splitW hpre).1
  have hc : l.pre.holds [] { args := args } = true := (pre_splitW hpre).2
  obtain ⟨d, r, rfl, h1, h2⟩ := hasAllW_cons hsh
  obtain rfl := hasAllW_nil h2
  obtain ⟨xs, rfl, h3⟩ := hasW_list h1
  obtain ⟨ns, rfl⟩ := items_int h3
  have hlen : ns.length ≤ n := by
    unfold OpenLaw.pre at hc
    have h4 : (WTm.not (.lt (.lit (.int (n : Int))) (.len (.arg 0)))).holds [] { args := [.list (ns.map .int)] } = true := by
      have h4 := (holds_andW hc).1
      rw [hn] at h4
      exact h4
    have h5 := condW_of h4 (w_not (w_lt w_lit (w_len_list (w_arg rfl))))
    rw [List.length_map] at h5
    refine Nat.le_of_not_lt fun q => ?_
    have q' : (n : Int) < ((ns.length : Nat) : Int) := by omega
    first
      | (rw [decide_eq_true q'] at h5; exact absurd h5 (by decide))
      | (simp at h5; omega)
  cases hwl with
  | cons w1 w2 =>
    cases w2
    cases w1 with
    | list ho hall => exact ⟨_, _, ns, rfl, rfl, ho, ints_of_wellAll ns _ hall, hlen⟩

theorem post_true (l : OpenLaw) (args : List WData) : l.row.toRowW.claim.post args (.bool true) args = true :=
  postW_of (r := l.row.toRowW) (X := (true == true))
    (show WShape.has [] (.bool true) .bool = true by first | rfl | decide | simp [WShape.has, WShape.arms, WShape.armsAll])
    (show (WTm.eq .res (.lit (.bool true))).value [] { args := args, res := some (.bool true), after := args } = some (.bool (true == true)) from w_eq_bool (w_res rfl) w_lit) rfl

/-! ### the attachment: holds_open's last premise (the goal 'hc' behind k_head) from a wpAny of the law's body -/
theorem attach {l : OpenLaw} {n : Nat} {q : Program} {loose : List Str} {XP : (Str → Option Value) → Heap → Prop} {YP : World → Heap → Prop} {d : DefRec} {x : Str}
    (hn : l.most = some n) (hdf : d.params.defaults = [])
    (hbind : ∀ pm cd doc v : Value, bindArgs (docDef d.name d.params d.body d.scope pm cd doc) ⟨[v], []⟩ = pure [(x, v)])
    (hx : d.scope.names.lookup x = some .local ∨ d.scope.names.lookup x = some .cell)
    (hk : d.scope.kind = .function) (hco : d.scope.isCoroutine = false) (hgen : d.scope.isGenerator = false)
    (body : ∀ (w : World) (s₀ s₁ s : Shared) (mg mb : Str → Option Value) (fa : Addr) (o : Obj) (pm cd doc : Value) (a : Addr) (vs : List Value) (ns : List Int),
      Ground q loose [] XP w s₀ mg mb s₁.heap → YP w s₁.heap →
      s₁.heap.get? fa = some o → o.data = .func (docDef d.name d.params d.body d.scope pm cd doc) → s₁.heap.CodeRec cd d.name → mg d.name = some (.ref fa) →
      s₁.heap.get? a = some { cls := .type "list", data := .seq vs.toArray } → IntsAre vs ns → ns.length ≤ n →
      s.gens = #[] → s.os = s₁.os →
      Fr s₁.heap s₁.heap.objs.size s.heap (bindL (envOfC d.name d.scope s₁.heap.objs.size fa cd).kindOf [(x, .ref a)] fun _ => none) →
      Cl s₁.heap.objs.size (cellsFrom (s₁.heap.objs.size + 1) d.scope.names []) s.heap (bindC (envOfC d.name d.scope s₁.heap.objs.size fa cd).kindOf [(x, .ref a)] fun _ => none) →
      wpAny (model l.prog w) (callerA.deeper (envOfC d.name d.scope s₁.heap.objs.size fa cd)) (execs d.body (envOfC d.name d.scope s₁.heap.objs.size fa cd))
        (fun f s' => f = .ret (.bool true) ∧ OldK s₁.heap s'.heap ∧ s'.os = s₁.os ∧ AllBare s'.gens) (fun _ _ => False) s) :
    WalkO q loose XP YP l.row.toRowW d [] (fun f vs => PySem.call f vs) := by
  intro w s₀ s₁ mg mb G Y fa o pm cd doc dV kV ho hd hcd hD hmg hg args vals as hpre hlay hrd hwl hlo
  obtain rfl : dV = .none := Dflts.none hD hdf
  obtain rfl : kV = .none := Dflts.noKw hD
  obtain ⟨a, vs, ns, rfl, rfl, hobj, hints, hlen⟩ := script_of hn hpre hwl
  refine enter_call ?_
  refine call_cells_ret (o := o) (by rw [depth_caller]; decide) ho (fd_plain hd) G.T.nolimit hcd (hbind pm cd doc (.ref a)) (fun y hy => ?_) (fun h₁ tk F X => ?_) hco hgen hk
  · obtain rfl : y = (x, Value.ref a) := List.mem_singleton.mp hy
    rcases hx with e | e
    · exact .inl e
    · exact .inr ⟨e, cellsFrom_some _ _ _ (.inl e)⟩
  · refine wpAny_mono (body w s₀ s₁ { s₁ with heap := h₁, toks := tk } mg mb fa o pm cd doc a vs ns G Y ho (fd_plain hd) hcd hmg hobj hints hlen hg rfl F X) (fun f s' hq => ?_) (fun _ _ hq => hq)
    obtain ⟨rfl, h2, h3, h4⟩ := hq
    exact ⟨.inl ⟨.bool true, .bool true, [], rfl, fun _ => rfl, .bool true, post_true l _, fun _ => ⟨List.Pairwise.nil, fun _ hm => (nomatch hm)⟩⟩, h2, h3, h4⟩

/-- the same from a codeAny of the CALL (for a layer whose function contracts speak of calls) -/
theorem attach_call {l : OpenLaw} {n : Nat} {q : Program} {loose : List Str} {XP : (Str → Option Value) → Heap → Prop} {YP : World → Heap → Prop} {d : DefRec}
    (hn : l.most = some n) (hdf : d.params.defaults = [])
    (call : ∀ (w : World) (s₀ s₁ : Shared) (mg mb : Str → Option Value) (fa : Addr) (o : Obj) (pm cd doc : Value) (a : Addr) (vs : List Value) (ns : List Int),
      Ground q loose [] XP w s₀ mg mb s₁.heap → YP w s₁.heap →
      s₁.heap.get? fa = some o → o.data = .func (docDef d.name d.params d.body d.scope pm cd doc) → s₁.heap.CodeRec cd d.name → mg d.name = some (.ref fa) →
      s₁.heap.get? a = some { cls := .type "list", data := .seq vs.toArray } → IntsAre vs ns → ns.length ≤ n → s₁.gens = #[] →
      codeAny (model l.prog w) callerA (.call (.ref fa) ⟨[.ref a], []⟩) (fun r s' => r = .ok (.ret (.bool true)) ∧ OldK s₁.heap s'.heap ∧ s'.os = s₁.os ∧ AllBare s'.gens) s₁) :
    WalkO q loose XP YP l.row.toRowW d [] (fun f vs => PySem.call f vs) := by
  intro w s₀ s₁ mg mb G Y fa o pm cd doc dV kV ho hd hcd hD hmg hg args vals as hpre hlay hrd hwl hlo
  obtain rfl : dV = .none := Dflts.none hD hdf
  obtain rfl : kV = .none := Dflts.noKw hD
  obtain ⟨a, vs, ns, rfl, rfl, hobj, hints, hlen⟩ := script_of hn hpre hwl
  refine enter_call (codeAny_mono (call w s₀ s₁ mg mb fa o pm cd doc a vs ns G Y ho (fd_plain hd) hcd hmg hobj hints hlen hg) fun r s' hq => ?_)
  obtain ⟨rfl, h2, h3, h4⟩ := hq
  exact ⟨.inl ⟨.bool true, .bool true, [], rfl, fun _ => rfl, .bool true, post_true l _, fun _ => ⟨List.Pairwise.nil, fun _ hm => (nomatch hm)⟩⟩, h2, h3, h4⟩

/-- the same where the top left finished generators (o_head chose holds_openN): nothing may have changed at all and no generator may be left -/
theorem attachN {l : OpenLaw} {n : Nat} {q : Program} {loose : List Str} {XP : (Str → Option Value) → Heap → Prop} {YP : World → Heap → Prop} {d : DefRec} {x : Str}
    (hn : l.most = some n) (hdf : d.params.defaults = [])
    (hbind : ∀ pm cd doc v : Value, bindArgs (docDef d.name d.params d.body d.scope pm cd doc) ⟨[v], []⟩ = pure [(x, v)])
    (hx : d.scope.names.lookup x = some .local ∨ d.scope.names.lookup x = some .cell)
    (hk : d.scope.kind = .function) (hco : d.scope.isCoroutine = false) (hgen : d.scope.isGenerator = false)
    (body : ∀ (w : World) (s₀ s₁ s : Shared) (mg mb : Str → Option Value) (fa : Addr) (o : Obj) (pm cd doc : Value) (a : Addr) (vs : List Value) (ns : List Int),
      Ground q loose [] XP w s₀ mg mb s₁.heap → YP w s₁.heap →
      s₁.heap.get? fa = some o → o.data = .func (docDef d.name d.params d.body d.scope pm cd doc) → s₁.heap.CodeRec cd d.name → mg d.name = some (.ref fa) →
      s₁.heap.get? a = some { cls := .type "list", data := .seq vs.toArray } → IntsAre vs ns → ns.length ≤ n →
      s.gens = #[] → s.os = s₁.os →
      Fr s₁.heap s₁.heap.objs.size s.heap (bindL (envOfC d.name d.scope s₁.heap.objs.size fa cd).kindOf [(x, .ref a)] fun _ => none) →
      Cl s₁.heap.objs.size (cellsFrom (s₁.heap.objs.size + 1) d.scope.names []) s.heap (bindC (envOfC d.name d.scope s₁.heap.objs.size fa cd).kindOf [(x, .ref a)] fun _ => none) →
      wpAny (model l.prog w) (callerA.deeper (envOfC d.name d.scope s₁.heap.objs.size fa cd)) (execs d.body (envOfC d.name d.scope s₁.heap.objs.size fa cd))
        (fun f s' => f = .ret (.bool true) ∧ (∀ b o, s₁.heap.get? b = some o → s'.heap.get? b = some o) ∧ s'.os = s₁.os ∧ s'.gens = #[]) (fun _ _ => False) s) :
    WalkN q loose XP YP l.row.toRowW d [] (fun f vs => PySem.call f vs) := by
  intro w s₀ s₁ mg mb G Y fa o pm cd doc dV kV ho hd hcd hD hmg hg args vals as hpre hlay hrd hwl hlo
  obtain rfl : dV = .none := Dflts.none hD hdf
  obtain rfl : kV = .none := Dflts.noKw hD
  obtain ⟨a, vs, ns, rfl, rfl, hobj, hints, hlen⟩ := script_of hn hpre hwl
  refine enter_callW ?_
  refine call_cells_ret (o := o) (by rw [depth_caller]; decide) ho (fd_plain hd) G.T.nolimit hcd (hbind pm cd doc (.ref a)) (fun y hy => ?_) (fun h₁ tk F X => ?_) hco hgen hk
  · obtain rfl : y = (x, Value.ref a) := List.mem_singleton.mp hy
    rcases hx with e | e
    · exact .inl e
    · exact .inr ⟨e, cellsFrom_some _ _ _ (.inl e)⟩
  · refine wpAny_mono (body w s₀ s₁ { s₁ with heap := h₁, toks := tk } mg mb fa o pm cd doc a vs ns G Y ho (fd_plain hd) hcd hmg hobj hints hlen hg rfl F X) (fun f s' hq => ?_) (fun _ _ hq => hq)
    obtain ⟨rfl, h2, h3, h4⟩ := hq
    exact ⟨.inl ⟨.bool true, .bool true, [], rfl, fun _ => rfl, .bool true, post_true l _, fun _ => ⟨List.Pairwise.nil, fun _ hm => (nomatch hm)⟩⟩, h2, h3, h4⟩

/-! ### rules over ANY heap (no ledger) from facts about the written part K: the library's own take a ledger (News) for what they write -/
section
variable {prog : Program} {w : World} {A : Around} {E : Value → Shared → Prop} {s : Shared} {K : Frag}

/-- a def of the module, or a method (qual 'C.m'), entered: the frame is the next address; cells behind it -/
theorem call_fn {R : Result → Shared → Prop} {name qual : Str} {params : Arguments} {body : List Stmt} {scope : Scope} {dV kV doc pm cdv ct oc : Value} {an od : Option Addr} {osl : Array (Option Value)} {f : Addr} {args : Args} {binds : List (Str × Value)}
    (X : K.In s.heap) (hlim : s.heap.NoLimit) (ho : K.lookup f = some ⟨oc, od, .func (fnOf name qual params body scope dV kV doc pm an cdv ct), osl⟩) (hcd : codeIn K cdv qual = true) (hroom : A.depth < recursionLimit)
    (hbind : BindsTo s (fnOf name qual params body scope dV kV doc pm an cdv ct) args binds)
    (hkind : (binds.all fun y => scope.names.lookup y.1 == some .local || scope.names.lookup y.1 == some .cell) = true)
    (h : ∀ s₁, InCallC s s.heap.objs.size (bindL (envOfC qual scope s.heap.objs.size f cdv).kindOf binds fun _ => none) (cellsFrom (s.heap.objs.size + 1) scope.names [])
        (bindC (envOfC qual scope s.heap.objs.size f cdv).kindOf binds fun _ => none) s₁ →
      wpAny (model prog w) (A.deeper (envOfC qual scope s.heap.objs.size f cdv)) (execs body (envOfC qual scope s.heap.objs.size f cdv))
        (fun fl s' => R (.ok (.ret (match fl with | .ret v => v | _ => .none))) s')
        (fun e s' => wpAny (model prog w) (A.deeper (envOfC qual scope s.heap.objs.size f cdv)) (leaving (envOfC qual scope s.heap.objs.size f cdv) e) (fun _ s'' => R (.error e) s'') (fun e' s'' => R (.error e') s'') s') s₁)
    (hco : scope.isCoroutine = false) (hgen : scope.isGenerator = false) (hk : scope.kind = .function) : codeAny (model prog w) A (.call (.ref f) args) R s := by
  refine codeAny_call_function hroom (X _ _ ho) rfl hco hgen rfl (codeRec_of X hcd) (hbind _ _ _ _ ?_)
  refine wpAny_newFunctionEnv_cells hk (kindsX hkind _) fun env he s₁ x => ?_
  subst he
  exact ⟨hlim.keeps x.toInCall.keep, codeAny_func (h s₁ x)⟩

/-- C(..): dict at size, instance at size + 1, then __init__ -/
theorem make_obj {R : Result → Shared → Prop} {C fI : Addr} {rest : List Value} {kw : List (Str × Value)}
    (X : K.In s.heap) (hm : makesIn K C = true) (hi : findIn K (.ref C) "__init__" = some (some (.ref fI))) (hf : isFn K (.ref fI) = true)
    (h : codeAny (model prog w) (A.under (.builtin "type.__call__" ⟨.ref C :: rest, kw⟩)) (.call (.ref fI) ⟨.ref (s.heap.objs.size + 1) :: rest, kw⟩) (InitBack (s.heap.objs.size + 1) R)
      { s with heap := (s.heap.push emptyDict).push (instObj C s.heap.objs.size) }) : codeAny (model prog w) A (.call (.ref C) ⟨rest, kw⟩) R s := by
  obtain ⟨hh, g, d, t, os⟩ := s
  exact make_core (makes_of X hm) (looks_findIn X hi) (fun self => bind_fn X self (beq_iff_eq.mp hf)) (.inl rfl) h

/-- x.name where the instance's dict holds the name and the class does not -/
theorem get_field {x C : Addr} {ox : Obj} {es : List DictEntry} {n : Nat} {name : Str} {expr : Bool} {v : Value} {Q : Value → Shared → Prop}
    (X : K.In s.heap) (I : PySem.W.InstAt s.heap x ox C (some (dictOf es n))) (hg : plainGet K C name = true) (hh : hasDictIn K C = true) (ha : findIn K (.ref C) name = some none)
    (hl : getL name es = some (some v)) (hv : handedIn v = true) (h : Q v { s with toks := s.toks + 1 }) : wpAny (model prog w) A (getAttr (.ref x) name expr) Q E s :=
  get_value X I (plainGet_of hg).1 (findObj_own hh ha rfl hl) hv h

/-- x.m(..): the method found in the class -/
theorem get_method {x C f : Addr} {ox : Obj} {es : List DictEntry} {n : Nat} {name : Str} {pl : Sem Bool} {Q : Value × List Value → Shared → Prop}
    (X : K.In s.heap) (I : PySem.W.InstAt s.heap x ox C (some (dictOf es n))) (hg : plainGet K C name = true) (hf : findIn K (.ref C) name = some (some (.ref f))) (ht : isFn K (.ref f) = true)
    (hl : getL name es = some none) (h : Q (.ref f, [.ref x]) s) : wpAny (model prog w) A (getMethod (.ref x) name pl) Q E s :=
  method_fn X I (plainGet_of hg).1 (plainGet_of hg).2 hf (beq_iff_eq.mp ht) (by show (lookIn name (dictOf es n)).map _ = _; rw [lookIn_dict, hl]; rfl) h

/-! the whole heap as the ledger: makes every rule that writes through a ledger a rule over any heap -/
def noObjs (h : Heap) : Heap := { h with objs := #[] }
theorem noObjs_get (h : Heap) (b : Addr) : (noObjs h).get? b = none := by
  cases e : (noObjs h).get? b with
  | none => rfl
  | some o => exact absurd (Heap.lt_size e) (Nat.not_lt_zero _)
def ledger (h : Heap) (L d : Addr) : List (Addr × Obj) := (List.range h.objs.size).filterMap fun a => if a = L ∨ a = d then none else (h.get? a).map fun o => (a, o)
theorem mem_ledger {h : Heap} {L d a : Addr} {o : Obj} : (a, o) ∈ ledger h L d ↔ a ≠ L ∧ a ≠ d ∧ h.get? a = some o := by
  unfold ledger
  rw [List.mem_filterMap]
  constructor
  · rintro ⟨b, _, e⟩
    split at e
    · cases e
    · rename_i hb
      obtain ⟨o', ho, e'⟩ := Option.map_eq_some_iff.mp e
      cases e'
      exact ⟨fun q => hb (.inl q), fun q => hb (.inr q), ho⟩
  · rintro ⟨n1, n2, ho⟩
    refine ⟨a, List.mem_range.mpr (Heap.lt_size ho), ?_⟩
    rw [if_neg (show ¬ (a = L ∨ a = d) from fun q => q.elim n1 n2), ho] <;> rfl
theorem news_ledger {h : Heap} {L d : Addr} {od : Obj} (hne : d ≠ L) (ho : h.get? d = some od) : News (noObjs h) L h ([] ++ (d, od) :: ledger h L d) := by
  rintro ⟨a, o⟩ hp
  rcases List.mem_cons.mp hp with e | hp
  · cases e
    exact ⟨ho, hne, noObjs_get _ _⟩
  · obtain ⟨n1, n2, e⟩ := mem_ledger.mp hp
    exact ⟨e, n1, noObjs_get _ _⟩
theorem fr_all {h : Heap} {L : Addr} {m : Str → Option Value} (n : h.Ns L m) : Fr (noObjs h) L h m :=
  ⟨n, fun b o e => (by rw [noObjs_get] at e; cases e), Nat.zero_le _⟩
/-- Upd of the head entry (for append_K, setItem_K ..) -/
theorem upd_ledger {h : Heap} {L d : Addr} {o o' : Obj} : Upd d o o' ((d, o) :: ledger h L d) ((d, o') :: ledger h L d) :=
  .head fun ⟨_, _⟩ hp => (mem_ledger.mp hp).2.1

/-- x.name = v over any heap: L is any namespace of the heap (the frame's, say): its map stays, its object is not told; all else but the dict stays -/
theorem set_field {x C dx L : Addr} {ox : Obj} {m : Str → Option Value} {es es' : List DictEntry} {n n' : Nat} {name : Str} {v : Value} {Q : Unit → Shared → Prop}
    (X : K.In s.heap) (I : PySem.W.InstAt s.heap x ox C (some (dictOf es n))) (hd : ox.dict = some dx) (hL : s.heap.Ns L m) (hne : dx ≠ L)
    (hs : findIn K (.ref C) "__setattr__" = some (some (.builtin "object.__setattr__"))) (hp : plainOver K C = true) (ht : takerIn K C name = some none) (hh : hasDictIn K C = true) (hl : (getL name es).isSome = true)
    (e : (putL name (PyData.keyHash w.params name) (.str name (s.toks + 1)) v es, putN name es n) = (es', n')) (hz : es'.length ≤ 1000)
    (h : ∀ h' : Heap, h'.Ns L m → h'.get? dx = some (dictOf es' n') → (∀ b o, b ≠ dx → b ≠ L → s.heap.get? b = some o → h'.get? b = some o) → Q () { s with heap := h', toks := s.toks + 2 }) :
    wpAny (model prog w) A (setAttr (.ref x) name v) Q E s := by
  obtain ⟨e1, e2⟩ := Prod.mk.inj e
  have hdx : s.heap.get? dx = some (dictOf es n) := by
    have := I.dict
    rw [hd] at this
    exact this
  refine set_plain X I hs (osa_dict (s := { s with toks := s.toks + 1 }) (h₀ := noObjs s.heap) (L := L) (m := m) (od := dictOf es n) (od' := dictOf es' n') (es := es') (n := n') (pre := []) (post := ledger s.heap L dx)
    (fr_all hL) (news_ledger hne hdx) X I hd hp ht hh hl (fun _ q => nomatch q) (fun ⟨_, _⟩ q => (mem_ledger.mp q).2.1) (by rw [putName_dict, e1, e2]) rfl hz fun h' F' N' => ?_)
  exact h h' F'.ns (N'.get (List.Mem.head _)) fun b o n1 n2 ho => N'.get (List.Mem.tail _ (mem_ledger.mpr ⟨n2, n1, ho⟩))
end
end Att

namespace L2
open PySem PySem.Spec PyProof.Rows

theorem vals_ints : ∀ {vs : List Value} {ns : List Int}, IntsAre vs ns → Vals (ns.map V.int) vs
  | _, _, .nil => .nil
  | _, _, .cons n t h => .cons ⟨t, rfl⟩ (vals_ints h)

/-- nothing is tracked but the script, known to the object (or it is an object of the module) -/
def Only (H : Hp) : Prop := ∀ b, H b = none ∨ ∃ o xs, H b = some (.frz o (.lst xs))

/-- THE HEAD: the law's promise, at the heap behind the top. F, the promise of the law's def, may use that base is part of the heap (so K.In base, base.Ns mainGlobals mg stand in Mod) -/
theorem law_call {P : Program} {w : World} {K : PySem.W.Frag} {mg mb : Str → Option Value} {CX : CXT} {k : Nat} {fa a : Addr} {fd : FuncData} {x : Str} {sp : Sp} {s₁ : Shared} {vs : List Value} {ns : List Int}
    (KX : K.In s₁.heap) (hns : s₁.heap.Ns mainGlobals mg) (hb : s₁.heap.Ns builtinsNs mb) (hbb : ∀ x : Str, x ≠ "__name__" → mb x = bootBuiltins x) (hlim : s₁.heap.NoLimit) (hg : s₁.gens = #[])
    (ha : s₁.heap.get? a = some { cls := .type "list", data := .seq vs.toArray }) (hi : IntsAre vs ns) (hl : ns.length ≤ sizeLine) (hr : Room k callerA)
    (F : ∀ base : Heap, K.In base → base.Ns mainGlobals mg → FnOk P w K mg base CX k fa fd [x] sp) (hbind : ∀ (s : Shared) (u : Value), BindsTo s fd ⟨[u], []⟩ [(x, u)])
    (hsp : ∀ H : Hp, Only H → SqL K H a (ns.map V.int) → sp [.ref a] H (fun v _ => v = .bl true) fun _ _ _ => False)
    (hCX : ∀ H e s', CX [] H s₁ (fun _ _ _ => False) e s' → False) :
    codeAny (model P w) callerA (.call (.ref fa) ⟨[.ref a], []⟩) (fun r s' => r = .ok (.ret (.bool true)) ∧ OldK s₁.heap s'.heap ∧ s'.os = s₁.os ∧ AllBare s'.gens) s₁ := by
  have rv := vals_ints hi
  have lenV := hi.length
  -- from an abstract heap in which nothing but the script may be tracked
  have core : ∀ H : Hp, Only H → SqL K H a (ns.map V.int) → HOk P w H s₁.heap → (∀ b, H b ≠ none → b = a) → (H a ≠ none → K.lookup a = none) →
      codeAny (model P w) callerA (.call (.ref fa) ⟨[.ref a], []⟩) (fun r s' => r = .ok (.ret (.bool true)) ∧ OldK s₁.heap s'.heap ∧ s'.os = s₁.os ∧ AllBare s'.gens) s₁ := by
    intro H hO hS hok hA hK
    have base_of : ∀ {b : Addr} {o : Obj}, s₁.heap.get? b = some o → H b = none → (hidT s₁.heap H).get? b = some o := fun e n => hidT_get e n
    have noA : ∀ {b : Addr} {o : Obj} {es : Array DictEntry} {ep : Nat}, s₁.heap.get? b = some o → o.data = .dict es ep → H b = none := fun {b o es ep} e d => by
      cases q : H b with
      | none => rfl
      | some u =>
        have e' : b = a := hA b (by rw [q]; simp)
        subst e'
        rw [ha] at e; cases e
        have d' : Data.seq vs.toArray _ = Data.dict es ep := d
        cases d'
    have nsK : ∀ {b : Addr} {m : Str → Option Value}, s₁.heap.Ns b m → (hidT s₁.heap H).Ns b m := fun {b m} ⟨o, es, ep, e, d, r⟩ => ⟨o, es, ep, base_of e (noA e d), d, r⟩
    have hKb : K.In (hidT s₁.heap H) := fun b o e => base_of (KX b o e) (by
      cases q : H b with
      | none => rfl
      | some u =>
        have e' : b = a := hA b (by rw [q]; simp)
        subst e'
        rw [hK (by rw [q]; simp)] at e; cases e)
    have hM : Mod K mg (hidT s₁.heap H) := ⟨hKb, nsK hns, ⟨mb, nsK hb, hbb⟩, let ⟨mc, h1, h2⟩ := hlim; ⟨mc, nsK h1, h2⟩⟩
    have e0 : Env0 P w K mg (hidT s₁.heap H) callerA [] s₁ H := ⟨rfl, hM, fun b o e => of_hidT e, Nat.le_of_eq (hidT_size _ _), trivial, fun b hb => absurd (show b ∈ ([] : List Addr) from hb) (by simp), hok, .of_eq hg⟩
    refine codeAny_mono ((F _ hKb (nsK hns)).run callerA [] s₁ H ⟨[.ref a], []⟩ [.ref a] [.ref a] _ _ hr e0 (hbind s₁ (.ref a)) (.cons rfl .nil) (hsp H hO hS)) fun r s' h => ?_
    cases r with
    | error e => exact (hCX H e s' h).elim
    | ok fl =>
      cases fl with
      | next => exact False.elim h
      | brk => exact False.elim h
      | cont => exact False.elim h
      | ret u =>
        obtain ⟨v, H', os, bare, un, hok', r', q⟩ := h
        have q' : v = .bl true := q
        subst q'
        obtain rfl : u = Value.bool true := r'
        refine ⟨rfl, OldK.of_keep fun b o e => ?_, os, bare⟩
        cases q : H b with
        | none => exact un.keep b o e q (by intro z; exact absurd (show b ∈ ([] : List Addr) from z) (by simp)) (by simp)
        | some u =>
          rcases hO b with z | ⟨ob, xs, z⟩
          · rw [q] at z; cases z
          · have z2 := un.frzs b ob _ z
            obtain ⟨e1, _⟩ := hok b _ z
            obtain ⟨e2, _⟩ := hok' b _ z2
            rw [e] at e1; cases e1
            exact e2
  cases hk : K.lookup a with
  | some o =>
    -- the script is one of the module's own objects
    have e := KX a o hk
    rw [ha] at e
    cases e
    refine core (fun _ => none) (fun _ => .inl rfl) (.inr ⟨_, vs.toArray, _, hk, rfl, rfl, rfl, by rw [List.size_toArray, lenV]; exact hl, by simpa using rv⟩) (fun b u z => by have z' : (none : Option HO) = some u := z; cases z') (fun b z => absurd rfl z) fun z => absurd rfl z
  | none =>
    refine core (fun b => if b = a then some (.frz { cls := .type "list", data := .seq vs.toArray } (.lst (ns.map V.int))) else none) (fun b => ?_) (.inl (.inr ⟨{ cls := .type "list", data := .seq vs.toArray }, if_pos rfl⟩)) (fun b u z => ?_) (fun b z => ?_) fun _ => hk
    · by_cases hb : b = a
      · exact .inr ⟨_, _, if_pos hb⟩
      · exact .inl (if_neg hb)
    · by_cases hb : b = a
      · have z' := (if_pos hb).symm.trans z
        cases z'
        subst hb
        exact ⟨ha, by rw [List.length_map]; exact hl, vs, _, rv, ha⟩
      · have z' := (if_neg hb).symm.trans z
        cases z'
    · by_cases hb : b = a
      · exact hb
      · exact absurd (if_neg hb) z
end L2

namespace L2
open PySem PySem.Spec PyProof.Rows

abbrev KOf {K : PySem.W.Frag} {h : Heap} (_ : K.In h) : PySem.W.Frag := K

/-- the goal that k_head leaves (case hc), from the law's promise. F gives the function object fd (K's own) once, then the promise over every base -/
theorem walk_of {l : PySem.W.OpenLaw} {n k : Nat} {q : Program} {loose : List Str} {XP : (Str → Option Value) → Heap → Prop} {YP : World → Heap → Prop} {d : DefRec} {K : Params → PySem.W.Frag} {CX : World → CXT} {sp : World → Sp} {x : Str}
    (hn : l.most = some n) (hn2 : n ≤ sizeLine) (hdf : d.params.defaults = []) (hr : Room k callerA)
    (hY : ∀ (w : World) (h : Heap), YP w h → (K w.params).In h)
    (F : ∀ (w : World) (mg : Str → Option Value) (fa : Addr) (h : Heap), (K w.params).In h → h.Ns mainGlobals mg → mg d.name = some (.ref fa) →
      ∃ fd : FuncData, (∀ (s : Shared) (u : Value), BindsTo s fd ⟨[u], []⟩ [(x, u)]) ∧
        ∀ base : Heap, (K w.params).In base → base.Ns mainGlobals mg → FnOk l.prog w (K w.params) mg base (CX w) k fa fd [x] (sp w))
    (hsp : ∀ (w : World) (H : Hp) (a : Addr) (ns : List Int), ns.length ≤ n → Only H → SqL (K w.params) H a (ns.map V.int) → sp w [.ref a] H (fun v _ => v = .bl true) fun _ _ _ => False)
    (hCX : ∀ (w : World) (H : Hp) (s : Shared) (e : Value) (s' : Shared), CX w [] H s (fun _ _ _ => False) e s' → False) :
    PySem.W.WalkO q loose XP YP l.row.toRowW d [] (fun f vs => PySem.call f vs) := by
  refine Att.attach_call hn hdf fun w s₀ s₁ mg mb fa o pm cd doc a vs ns G Y ho hd hcd hmg hobj hints hlen hg => ?_
  have KX := hY w _ Y
  obtain ⟨fd, hb, hF⟩ := F w mg fa _ KX G.T.g hmg
  exact law_call KX G.T.g G.T.b G.T.builtins G.T.nolimit hg hobj hints (Nat.le_trans hlen hn2) hr hF hb (fun H hO hS => hsp w H a ns hlen hO hS) fun H e s' => hCX w H s₁ e s'
/-- the same where the promise hangs on the written part alone: (sp := My.sp_law), no hole under a binder -/
theorem walk_ofK {l : PySem.W.OpenLaw} {n k : Nat} {q : Program} {loose : List Str} {XP : (Str → Option Value) → Heap → Prop} {YP : World → Heap → Prop} {d : DefRec} {K : Params → PySem.W.Frag} {CX : CXT} {sp : PySem.W.Frag → Sp} {x : Str}
    (hn : l.most = some n) (hn2 : n ≤ sizeLine) (hdf : d.params.defaults = []) (hr : Room k callerA)
    (hY : ∀ (w : World) (h : Heap), YP w h → (K w.params).In h)
    (F : ∀ (w : World) (mg : Str → Option Value) (fa : Addr) (h : Heap), (K w.params).In h → h.Ns mainGlobals mg → mg d.name = some (.ref fa) →
      ∃ fd : FuncData, (∀ (s : Shared) (u : Value), BindsTo s fd ⟨[u], []⟩ [(x, u)]) ∧
        ∀ base : Heap, (K w.params).In base → base.Ns mainGlobals mg → FnOk l.prog w (K w.params) mg base CX k fa fd [x] (sp (K w.params)))
    (hsp : ∀ (K : PySem.W.Frag) (H : Hp) (a : Addr) (ns : List Int), ns.length ≤ n → Only H → SqL K H a (ns.map V.int) → sp K [.ref a] H (fun v _ => v = .bl true) fun _ _ _ => False)
    (hCX : ∀ (H : Hp) (s : Shared) (e : Value) (s' : Shared), CX [] H s (fun _ _ _ => False) e s' → False) :
    PySem.W.WalkO q loose XP YP l.row.toRowW d [] (fun f vs => PySem.call f vs) :=
  walk_of (K := K) (CX := fun _ => CX) (sp := fun w => sp (K w.params)) hn hn2 hdf hr hY F (fun w H a ns h1 h2 h3 => hsp (K w.params) H a ns h1 h2 h3) fun _ H s e s' => hCX H s e s'
end L2

/- THE LAST THEOREM (shape; LID, My.* are yours):
   My.Adr: a structure of the addresses that your layer names (classes, functions); My.Txt K t: a structure (Prop) of the equations over K;
   My.txt_mk : {K} {implicit addresses ..} (e1 : nsIn K mainGlobals "law" = some (some (.ref f))) (e2 : K.lookup f = some ⟨oc, od, .func (fnOf "law" "law" params body scope dV kV doc pm an cdv ct), sl⟩) (e3 : codeIn K cdv "law" = true) .. : ∃ t, My.Txt K t

set_option maxRecDepth 100000 in
set_option maxHeartbeats 0 in
theorem PySem.Challenge.cw_LID_holds : PySem.Challenge.rw_LID.Holds := by
  w_on; o_law; k_head; (case hw => w_witness2)
  k_fill
  refine L2.walk_of (l := PySem.Challenge.rw_LID) (n := 63) (k := 40) (x := "script") (CX := fun w => ..) (sp := fun _ => My.sp_law) rfl (by decide) rfl ⟨rfl, by decide, by decide⟩ (fun w h Y => PySem.W.kIn_of Y) ?F ?S ?C
  case F =>
    intro w mg fa h KX G hmg
    have T : ∃ t, My.Txt (L2.KOf KX) t := by
      dsimp only [L2.KOf]                          -- K must stand as «<heap const> w.params» for k_is
      refine' My.txt_mk ?e1 ?e2 ?e3 ..
      (case e1 => PySem.W.k_is)                    -- in the order: a name -> its address -> its object -> its parts
      (case e2 => PySem.W.k_is)
      ..
    obtain ⟨t, T⟩ := T
    have e0 := hmg.symm.trans (PySem.W.mg_of KX G T.law)
    cases e0                                       -- fa is the law's own address
    exact ⟨_, fun s u => .of_eq rfl, fun base kb nb => My.law_fn T kb nb⟩     -- if «.of_eq rfl» comes too early: refine' ⟨_, ?b, fun base kb nb => My.law_fn T kb nb⟩; exact fun s u => .of_eq rfl
  case S => exact fun w H a ns hl hO hS => ..
  case C => exact ..
(the tactic k_is has no namespace: write k_is) -/

/-! SHORT WORDS over the layer: a def of the text, its body, what a loop and a test want. -/
namespace L2
open PySem PySem.Spec PyProof.Rows

/-! ### the text by places -/
/-- the j-th statement of a class's body -/
def inClass (s : Stmt) (j : Nat) : Stmt := match s with
  | .ClassDef _ _ _ body _ _ _ _ _ _ _ => body.getD j (.Pass ⟨0, 0, 0, 0⟩)
  | _ => .Pass ⟨0, 0, 0, 0⟩
def defArgs (s : Stmt) : Arguments := match s with
  | .FunctionDef _ a _ _ _ _ _ _ _ _ => a
  | _ => { posonlyargs := [], args := [], vararg := none, kwonlyargs := [], kw_defaults := [], kwarg := none, defaults := [] }
def defBody (s : Stmt) : List Stmt := match s with
  | .FunctionDef _ _ b _ _ _ _ _ _ _ => b
  | _ => []
def defScope (s : Stmt) : Scope := match s with
  | .FunctionDef _ _ _ _ _ _ sc _ _ _ => sc
  | _ => { kind := .function, names := [], isGenerator := false, isCoroutine := false }

/-! ### no exception leaves a def -/
abbrev CX0 : CXT := fun _ _ _ _ _ _ => False
abbrev E0 : XK := fun _ _ _ => False
theorem pass0 {X : Cx} : Passes CX0 X E0 := fun _ _ _ _ _ _ _ h => h.elim

/-! ### a def (or method) of the text as it stands behind the top -/
structure Fun (K : PySem.W.Frag) (x qual : Str) (st : Stmt) (f : Addr) (fd : FuncData) : Prop where
  ex : ∃ (oc : Value) (od : Option Addr) (kV doc pm : Value) (an : Option Addr) (cdv ct : Value) (osl : Array (Option Value)),
    fd = PySem.W.fnOf x qual (defArgs st) (defBody st) (defScope st) .none kV doc pm an cdv ct ∧ K.lookup f = some ⟨oc, od, .func fd, osl⟩ ∧ PySem.W.codeIn K cdv qual = true
  kp : PySem.W.keepIn K (.ref f) = true
section
variable {P : Program} {w : World} {K : PySem.W.Frag} {mg : Str → Option Value} {base : Heap}
/-- THE RULE for a def: its body as a term of rules, and the reading of that term -/
theorem Fun.ok {x qual : Str} {st : Stmt} {f : Addr} {fd : FuncData} {N ps : List Str} {k : Nat} {sp : Sp} (F : Fun K x qual st f fd) (S : FnScope N ps (defScope st)) (len : ∀ vs H Q E, sp vs H Q E → vs.length = ps.length)
    (hbody : ∀ (cdv : Value) (A : Around) (outer : List Env) (s : Shared) (H : Hp) (vs : List V) (Q : VK) (E : XK), Room k (A.deeper (envOfC qual (defScope st) s.heap.objs.size f cdv)) → sp vs H Q E →
      ∃ t, PSs (cxOf CX0 P w K mg base N qual (defScope st) f cdv A outer s H E).nox (defBody st) t ∧ t { nx := fun _ H' => Q .non H', rt := Q } (start N vs) H) : FnOk P w K mg base CX0 (k + 1) f fd ps sp := by
  obtain ⟨oc, od, kV, doc, pm, an, cdv, ct, osl, rfl, lk, hcd⟩ := F.ex
  refine fn_of lk hcd S len fun A outer s H vs Q E hr hsp => ?_
  obtain ⟨t, h, q⟩ := hbody cdv A outer s H vs Q E hr hsp
  exact ⟨t, h.nox, q⟩
/-- how its arguments bind (no defaults): h is «fun _ _ _ _ _ _ us hl => match us, hl with | [_, _], _ => rfl», one _ a parameter -/
theorem Fun.binds {x qual : Str} {st : Stmt} {f : Addr} {fd : FuncData} {ps : List Str} (F : Fun K x qual st f fd)
    (h : ∀ (kV doc pm : Value) (an : Option Addr) (cdv ct : Value) (us : List Value), us.length = ps.length → bindArgs (PySem.W.fnOf x qual (defArgs st) (defBody st) (defScope st) .none kV doc pm an cdv ct) ⟨us, []⟩ = pure (ps.zip us)) : Binds K fd ps [] := by
  obtain ⟨oc, od, kV, doc, pm, an, cdv, ct, osl, rfl, lk, hcd⟩ := F.ex
  exact .all (h kV doc pm an cdv ct)
theorem fun_mk {x qual : Str} {st : Stmt} {f : Addr} {oc : Value} {od an : Option Addr} {osl : Array (Option Value)} {kV doc pm cdv ct : Value} (l : K.lookup f = some ⟨oc, od, .func (PySem.W.fnOf x qual (defArgs st) (defBody st) (defScope st) .none kV doc pm an cdv ct), osl⟩)
    (c : PySem.W.codeIn K cdv qual = true) (k : PySem.W.keepIn K (.ref f) = true) : Fun K x qual st f (PySem.W.fnOf x qual (defArgs st) (defBody st) (defScope st) .none kV doc pm an cdv ct) := ⟨⟨oc, od, kV, doc, pm, an, cdv, ct, osl, rfl, l, c⟩, k⟩
end
theorem hu_of {A : Around} {k : Nat} (hr : Room k A) : A.units + 1 < cLine := Nat.lt_of_le_of_lt (Nat.add_le_add_left (by decide : 1 ≤ 64) _) hr.units
theorem small1000 {n : Nat} (h : n ≤ 1000) : n < sizeLine := Nat.lt_of_le_of_lt h (by decide)

/-! ### expressions in short: the name that stands in the i-th slot -/
section
variable {X : Cx}
theorem pv (i : Nat) {x : Str} {pos : Pos} (hN : X.N[i]? = some x := by rfl) (hv : Vis X.env.scope x := by first | exact Or.inl rfl | exact Or.inr (Or.inl rfl) | exact Or.inr (Or.inr rfl)) (hd : (x == ("__debug__" : Str)) = false := by decide)
    (hcd : (x == ("__classdict__" : Str)) = false := by decide) : PE X (.Name x pos) (tVar i) := pe_var hN hv hd hcd
end

/-! ### tests -/
theorem iteF {A B : Prop} (h : B) : if false = true then A else B := by
  rw [if_neg Bool.false_ne_true]
  exact h
theorem iteT {A B : Prop} (h : A) : if true = true then A else B := by
  rw [if_pos rfl]
  exact h
theorem ite2 {c A B : Prop} [Decidable c] (h1 : c → A) (h2 : ¬ c → B) : if c then A else B := by
  by_cases h : c
  · rw [if_pos h]
    exact h1 h
  · rw [if_neg h]
    exact h2 h
theorem iteNS {c A B : Prop} [Decidable c] (hc : c) (h : B) : if (!decide c) = true then A else B := by
  rw [decide_eq_true hc]
  exact iteF h

/-! ### heaps -/
/-- all that was tracked is as it was -/
def Same (H H' : Hp) : Prop := ∀ b o, H b = some o → H' b = some o
theorem Same.refl (H : Hp) : Same H H := fun _ _ h => h
theorem Same.trans {H H1 H2 : Hp} (a : Same H H1) (b : Same H1 H2) : Same H H2 := fun c o h => b c o (a c o h)
theorem Same.free {H H' : Hp} (e : Same H H') {l : Addr} (h : H' l = Option.none) : H l = Option.none := by
  cases q : H l with
  | none => rfl
  | some o =>
    rw [e l o q] at h
    cases h
theorem Same.seq {K : PySem.W.Frag} {H H' : Hp} {a : Addr} {xs : List V} (e : Same H H') (h : SqL K H a xs) : SqL K H' a xs := by
  rcases h with (h | ⟨o, h⟩) | h
  · exact .inl (.inl (e _ _ h))
  · exact .inl (.inr ⟨o, e _ _ h⟩)
  · exact .inr h

end L2

namespace Eb
/-- how many stand ahead -/
def ah (s p a : Int) : Int := s * a / p
/-- the place of a stroke -/
def pl (s p n : Int) : Int := (p * (n + 1) - 1) / s

theorem fdiv_lo (x : Int) {p : Int} (hp : 0 < p) : x / p * p ≤ x := Int.ediv_mul_le x (Int.ne_of_gt hp)
theorem fdiv_hi (x : Int) {p : Int} (hp : 0 < p) : x < (x / p + 1) * p := Int.lt_ediv_add_one_mul_self x hp
/-- the quotient is what lies between -/
theorem fdiv_of {x p q : Int} (hp : 0 < p) (lo : q * p ≤ x) (hi : x < (q + 1) * p) : x / p = q := by
  have l := fdiv_lo x hp
  have h := fdiv_hi x hp
  have a : x / p * p < (q + 1) * p := by omega
  have b : q * p < (x / p + 1) * p := by omega
  have a' := Int.lt_of_mul_lt_mul_right a (Int.le_of_lt hp)
  have b' := Int.lt_of_mul_lt_mul_right b (Int.le_of_lt hp)
  omega
theorem le_fdiv {x p q : Int} (hp : 0 < p) (lo : q * p ≤ x) : q ≤ x / p := by
  have h := fdiv_hi x hp
  have a : q * p < (x / p + 1) * p := by omega
  have a' := Int.lt_of_mul_lt_mul_right a (Int.le_of_lt hp)
  omega
theorem fdiv_lt {x p q : Int} (hp : 0 < p) (hi : x < q * p) : x / p < q := by
  have h := fdiv_lo x hp
  have a : x / p * p < q * p := by omega
  exact Int.lt_of_mul_lt_mul_right a (Int.le_of_lt hp)
theorem fdiv_mono {x y p : Int} (hp : 0 < p) (h : x ≤ y) : x / p ≤ y / p :=
  le_fdiv hp (Int.le_trans (fdiv_lo x hp) h)

theorem ah_lo (s a : Int) {p : Int} (hp : 0 < p) : ah s p a * p ≤ s * a := fdiv_lo _ hp
theorem ah_hi (s a : Int) {p : Int} (hp : 0 < p) : s * a < (ah s p a + 1) * p := fdiv_hi _ hp
theorem ah_round (s a : Int) {p : Int} (hp : 0 < p) : ah s p (a + p) = ah s p a + s := by
  have l := ah_lo s a hp
  have h := ah_hi s a hp
  refine fdiv_of hp ?_ ?_
  · rw [Int.add_mul, Int.mul_add]; omega
  · rw [Int.mul_add, show ah s p a + s + 1 = ah s p a + 1 + s by omega, Int.add_mul _ s]; omega
theorem ah_mono {s a b p : Int} (hs : 0 ≤ s) (hp : 0 < p) (h : a ≤ b) : ah s p a ≤ ah s p b :=
  fdiv_mono hp (Int.mul_le_mul_of_nonneg_left h hs)
theorem ah_next {s p : Int} (a : Int) (hs : 0 ≤ s) (hsp : s ≤ p) (hp : 0 < p) : ah s p (a + 1) = ah s p a ∨ ah s p (a + 1) = ah s p a + 1 := by
  have m := ah_mono (a := a) (b := a + 1) hs hp (by omega)
  have h := ah_hi s a hp
  have u : ah s p (a + 1) < ah s p a + 2 := by
    refine fdiv_lt hp ?_
    rw [Int.mul_add, Int.mul_one]
    have : (ah s p a + 2) * p = (ah s p a + 1) * p + p := by
      rw [show ah s p a + 2 = ah s p a + 1 + 1 by omega, Int.add_mul _ 1, Int.one_mul]
    omega
  omega
theorem ah_stretch {s p : Int} (a w : Int) (hp : 0 < p) :
    ah s p w ≤ ah s p (a + w) - ah s p a ∧ ah s p (a + w) - ah s p a ≤ ah s p w + 1 ∧ (ah s p (a + w) - ah s p a = ah s p w + 1 → ¬ (s * w) % p = 0) := by
  have la := ah_lo s a hp
  have ha := ah_hi s a hp
  have lw := ah_lo s w hp
  have hw := ah_hi s w hp
  have laa := ah_lo s (a + w) hp
  have haa := ah_hi s (a + w) hp
  rw [Int.mul_add] at laa haa
  have lo : ah s p a + ah s p w ≤ ah s p (a + w) := by
    refine le_fdiv hp ?_
    rw [Int.add_mul, Int.mul_add]; omega
  have hi : ah s p (a + w) < ah s p a + ah s p w + 2 := by
    refine fdiv_lt hp ?_
    rw [show ah s p a + ah s p w + 2 = (ah s p a + 1) + (ah s p w + 1) by omega, Int.add_mul, Int.mul_add]; omega
  refine ⟨by omega, by omega, fun e z => ?_⟩
  have q : s * w = ah s p w * p := by
    have d := Int.mul_ediv_add_emod (s * w) p
    have c := Int.mul_comm p ((s * w) / p)
    show s * w = s * w / p * p
    omega
  have hi2 : ah s p (a + w) < ah s p a + ah s p w + 1 := by
    refine fdiv_lt hp ?_
    rw [show ah s p a + ah s p w + 1 = (ah s p a + 1) + ah s p w by omega, Int.add_mul, Int.mul_add]; omega
  omega

theorem pl_at {s p : Int} (n : Int) (hs : 0 < s) (hsp : s ≤ p) : ah s p (pl s p n) = n ∧ ah s p (pl s p n + 1) = n + 1 := by
  have hp : 0 < p := by omega
  have l := fdiv_lo (p * (n + 1) - 1) hs
  have h := fdiv_hi (p * (n + 1) - 1) hs
  have e : (p * (n + 1) - 1) / s = pl s p n := rfl
  rw [e] at l h
  rw [Int.mul_comm (pl s p n) s] at l
  rw [Int.mul_comm (pl s p n + 1) s] at h
  have h' := h
  rw [Int.mul_add s, Int.mul_one] at h'
  have k : p * (n + 1) = (n + 1) * p := Int.mul_comm _ _
  have k2 : (n + 1) * p = n * p + p := by rw [Int.add_mul, Int.one_mul]
  have k3 : (n + 1 + 1) * p = (n + 1) * p + p := by rw [Int.add_mul _ 1, Int.one_mul]
  refine ⟨fdiv_of hp (by omega) (by omega), fdiv_of hp ?_ ?_⟩
  · omega
  · rw [Int.mul_add, Int.mul_one]; omega
theorem ah_lt_of {s p a b : Int} (hs : 0 ≤ s) (hp : 0 < p) (h : ah s p a < ah s p b) : a < b := by
  rcases Int.lt_or_le a b with q | q
  · exact q
  · have := ah_mono hs hp q; omega
theorem pl_ge {s p a n : Int} (hs : 0 < s) (hsp : s ≤ p) (h : ah s p a ≤ n) : a ≤ pl s p n := by
  have q := (pl_at n hs hsp).2
  have := ah_lt_of (a := a) (b := pl s p n + 1) (s := s) (p := p) (by omega) (by omega) (by omega)
  omega
theorem pl_lt {s p a n : Int} (hs : 0 < s) (hsp : s ≤ p) (h : n < ah s p a) : pl s p n < a := by
  have q := (pl_at n hs hsp).1
  exact ah_lt_of (s := s) (p := p) (by omega) (by omega) (by omega)
end Eb
namespace Eb
/-! sums -/
def sumN (f : Nat → Int) : Nat → Int
  | 0 => 0
  | n + 1 => sumN f n + f n
theorem sumN_add (f : Nat → Int) (a : Nat) : ∀ b, sumN f (a + b) = sumN f a + sumN (fun i => f (a + i)) b
  | 0 => by simp [sumN]
  | b + 1 => by
    show sumN f (a + b) + f (a + b) = _
    rw [sumN_add f a b]; simp only [sumN]; omega
theorem sumN_congr {f g : Nat → Int} : ∀ {n : Nat}, (∀ i, i < n → f i = g i) → sumN f n = sumN g n
  | 0, _ => rfl
  | n + 1, h => by
    simp only [sumN]
    rw [sumN_congr (n := n) (fun i hi => h i (by omega)), h n (by omega)]
theorem sumN_plus (f g : Nat → Int) : ∀ n, sumN (fun i => f i + g i) n = sumN f n + sumN g n
  | 0 => rfl
  | n + 1 => by simp only [sumN]; rw [sumN_plus f g n]; omega
theorem sumN_ge {f : Nat → Int} {c : Int} : ∀ {n : Nat}, (∀ i, i < n → c ≤ f i) → c * n ≤ sumN f n
  | 0, _ => by simp [sumN]
  | n + 1, h => by
    have ih := sumN_ge (n := n) (fun i hi => h i (by omega))
    have := h n (by omega)
    simp only [sumN]
    rw [show ((n + 1 : Nat) : Int) = (n : Int) + 1 by omega, Int.mul_add, Int.mul_one]; omega
theorem sumN_le {f : Nat → Int} {c : Int} : ∀ {n : Nat}, (∀ i, i < n → f i ≤ c) → sumN f n ≤ c * n
  | 0, _ => by simp [sumN]
  | n + 1, h => by
    have ih := sumN_le (n := n) (fun i hi => h i (by omega))
    have := h n (by omega)
    simp only [sumN]
    rw [show ((n + 1 : Nat) : Int) = (n : Int) + 1 by omega, Int.mul_add, Int.mul_one]; omega
/-- one item above the least: the sum is above, too -/
theorem sumN_gt {f : Nat → Int} {c : Int} {n k : Nat} (hk : k < n) (h : ∀ i, i < n → c ≤ f i) (q : c < f k) : c * n < sumN f n := by
  induction n with
  | zero => omega
  | succ n ih =>
    simp only [sumN]
    rw [show ((n + 1 : Nat) : Int) = (n : Int) + 1 by omega, Int.mul_add, Int.mul_one]
    have hn := h n (by omega)
    rcases Nat.lt_or_ge k n with e | e
    · have := ih e (fun i hi => h i (by omega)); omega
    · have e' : k = n := by omega
      subst e'
      have := sumN_ge (f := f) (c := c) (n := k) (fun i hi => h i (by omega)); omega
theorem sumN_lt {f : Nat → Int} {c : Int} {n k : Nat} (hk : k < n) (h : ∀ i, i < n → f i ≤ c) (q : f k < c) : sumN f n < c * n := by
  induction n with
  | zero => omega
  | succ n ih =>
    simp only [sumN]
    rw [show ((n + 1 : Nat) : Int) = (n : Int) + 1 by omega, Int.mul_add, Int.mul_one]
    have hn := h n (by omega)
    rcases Nat.lt_or_ge k n with e | e
    · have := ih e (fun i hi => h i (by omega)); omega
    · have e' : k = n := by omega
      subst e'
      have := sumN_le (f := f) (c := c) (n := k) (fun i hi => h i (by omega)); omega

/-! a round wheel: f is of period n; its strokes are S -/
structure Wheel (n : Nat) (S : Int) (f : Nat → Int) : Prop where
  pos : 0 < n
  per : ∀ i, f (i + n) = f i
  bit : ∀ i, f i = 0 ∨ f i = 1
  sum : sumN f n = S
namespace Wheel
variable {n : Nat} {S : Int} {f : Nat → Int}
theorem round (W : Wheel n S f) : ∀ i, sumN f (i + n) = sumN f i + S
  | 0 => by rw [Nat.zero_add, W.sum]; simp [sumN]
  | i + 1 => by
    rw [show i + 1 + n = (i + n) + 1 by omega]
    simp only [sumN]
    rw [W.round i, W.per i]; omega
/-- strokes of the stretch of width w from i on -/
def cnt (f : Nat → Int) (w i : Nat) : Int := sumN f (i + w) - sumN f i
theorem cnt_succ (f : Nat → Int) (w i : Nat) : cnt f (w + 1) i = cnt f w i + f (i + w) := by
  unfold cnt
  rw [show i + (w + 1) = (i + w) + 1 by omega]; simp only [sumN]; omega
theorem shift_sum (W : Wheel n S f) : ∀ w, sumN (fun i => f (i + w)) n = S
  | 0 => W.sum
  | w + 1 => by
    have ih := shift_sum W w
    have a := sumN_add f w n
    have b := sumN_add f (w + 1) n
    have r1 := W.round w
    have r2 := W.round (w + 1)
    have c1 : sumN (fun i => f (i + (w + 1))) n = sumN (fun i => f (w + 1 + i)) n := sumN_congr fun i _ => by rw [Nat.add_comm]
    omega
theorem cnt_sum (W : Wheel n S f) : ∀ w : Nat, sumN (cnt f w) n = S * w
  | 0 => by
    rw [sumN_congr (g := fun _ => 0) (fun i _ => by unfold cnt; simp)]
    have : ∀ k, sumN (fun _ => 0) k = 0 := fun k => by induction k with | zero => rfl | succ k ih => simp only [sumN]; omega
    simp [this]
  | w + 1 => by
    rw [sumN_congr (g := fun i => cnt f w i + f (i + w)) (fun i _ => cnt_succ f w i), sumN_plus, cnt_sum W w, shift_sum W w]
    rw [show ((w + 1 : Nat) : Int) = (w : Int) + 1 by omega, Int.mul_add, Int.mul_one]
/-- how far the strokes are ahead of their share -/
def dev (n : Nat) (S : Int) (f : Nat → Int) (i : Nat) : Int := n * sumN f i - S * i
theorem dev_round (W : Wheel n S f) (i : Nat) : dev n S f (i + n) = dev n S f i := by
  unfold dev
  rw [W.round i, show ((i + n : Nat) : Int) = (i : Int) + n by omega, Int.mul_add, Int.mul_add, Int.mul_comm (n : Int) S]; omega
/-- even, by the counts -/
def EvC (n : Nat) (f : Nat → Int) : Prop := ∀ w, w ≤ n → ∀ i j, i < n → j < n → cnt f w i - cnt f w j ≤ 1
/-- even, by the shares -/
def EvD (n : Nat) (S : Int) (f : Nat → Int) : Prop := ∀ i j, i < n → j < n → dev n S f i - dev n S f j < n
theorem dev_cnt (w i : Nat) : dev n S f (i + w) - dev n S f i = n * cnt f w i - S * w := by
  unfold dev cnt
  rw [show ((i + w : Nat) : Int) = (i : Int) + w by omega, Int.mul_add, Int.mul_sub]; omega
theorem share_of (W : Wheel n S f) {w : Nat} (h : ∀ i j, i < n → j < n → cnt f w i - cnt f w j ≤ 1) (i : Nat) (hi : i < n) :
    n * cnt f w i - S * w < n ∧ S * w - n * cnt f w i < n := by
  have e := W.cnt_sum w
  constructor
  · have g := sumN_gt (f := cnt f w) (c := cnt f w i - 1) (n := n) hi (fun j hj => by have := h i j hi hj; omega) (by omega)
    rw [Int.sub_mul, Int.one_mul, Int.mul_comm] at g; omega
  · have g := sumN_lt (f := cnt f w) (c := cnt f w i + 1) (n := n) hi (fun j hj => by have := h j i hj hi; omega) (by omega)
    rw [Int.add_mul, Int.one_mul, Int.mul_comm] at g; omega
theorem evD_of_evC (W : Wheel n S f) (h : EvC n f) : EvD n S f := fun i j hi hj => by
  rcases Nat.le_total j i with q | q
  · have e := dev_cnt (n := n) (S := S) (f := f) (i - j) j
    rw [show j + (i - j) = i by omega] at e
    have := (W.share_of (h (i - j) (by omega)) j hj).1
    omega
  · have e := dev_cnt (n := n) (S := S) (f := f) (j - i) i
    rw [show i + (j - i) = j by omega] at e
    have := (W.share_of (h (j - i) (by omega)) i hi).2
    omega
theorem dev_mod (W : Wheel n S f) : ∀ i, ∃ k, k < n ∧ dev n S f i = dev n S f k := fun i => by
  refine ⟨i % n, Nat.mod_lt _ W.pos, ?_⟩
  have h : ∀ q k, dev n S f (k + n * q) = dev n S f k := fun q => by
    induction q with
    | zero => intro k; rfl
    | succ q ih => intro k; rw [Nat.mul_succ, ← Nat.add_assoc, W.dev_round, ih]
  have := h (i / n) (i % n)
  rw [Nat.mod_add_div] at this; exact this
theorem evD_all (W : Wheel n S f) (h : EvD n S f) (i j : Nat) : dev n S f i - dev n S f j < n := by
  obtain ⟨a, ha, ea⟩ := W.dev_mod i
  obtain ⟨b, hb, eb⟩ := W.dev_mod j
  rw [ea, eb]; exact h a b ha hb
/-- each stretch has its share, rounded down or up -/
theorem cnt_share (W : Wheel n S f) (h : EvD n S f) (w i : Nat) : n * cnt f w i - S * w < n ∧ S * w - n * cnt f w i < n := by
  have e := dev_cnt (n := n) (S := S) (f := f) w i
  have a := W.evD_all h (i + w) i
  have b := W.evD_all h i (i + w)
  omega
theorem evC_of_evD (W : Wheel n S f) (h : EvD n S f) : EvC n f := fun w _ i j _ _ => by
  have a := (W.cnt_share h w i).1
  have b := (W.cnt_share h w j).2
  have hn : (0 : Int) < n := by have := W.pos; omega
  have c : n * (cnt f w i - cnt f w j) < n * 2 := by rw [Int.mul_sub]; omega
  have := Int.lt_of_mul_lt_mul_left c (Int.le_of_lt hn)
  omega
/-- where the strokes are farthest ahead -/
theorem top (n : Nat) (g : Nat → Int) (hn : 0 < n) : ∃ t, t < n ∧ ∀ i, i < n → g i ≤ g t := by
  induction n with
  | zero => omega
  | succ n ih =>
    rcases Nat.eq_zero_or_pos n with e | e
    · subst e; exact ⟨0, by omega, fun i hi => by rw [show i = 0 by omega]; exact Int.le_refl _⟩
    · obtain ⟨t, ht, h⟩ := ih e
      rcases Int.lt_or_le (g t) (g n) with q | q
      · refine ⟨n, by omega, fun i hi => ?_⟩
        rcases Nat.lt_or_ge i n with r | r
        · have := h i r; omega
        · rw [show i = n by omega]; exact Int.le_refl _
      · refine ⟨t, by omega, fun i hi => ?_⟩
        rcases Nat.lt_or_ge i n with r | r
        · exact h i r
        · rw [show i = n by omega]; exact q
/-- an even wheel, read from some place on, is the laid one -/
theorem laid_from (W : Wheel n S f) (h : EvD n S f) : ∃ t, t < n ∧ ∀ w, cnt f w t = S * w / n := by
  obtain ⟨t, ht, m⟩ := top n (dev n S f) W.pos
  refine ⟨t, ht, fun w => ?_⟩
  have hn : (0 : Int) < n := by have := W.pos; omega
  have e := dev_cnt (n := n) (S := S) (f := f) w t
  obtain ⟨k, hk, ek⟩ := W.dev_mod (t + w)
  have a := m k hk
  have b := W.evD_all h t (t + w)
  refine (fdiv_of hn ?_ ?_).symm
  · rw [Int.mul_comm]; omega
  · rw [Int.add_mul, Int.one_mul, Int.mul_comm (cnt f w t)]; omega
/-- what reads as the laid one from some place on is even -/
theorem ev_of_laid (W : Wheel n S f) {t : Nat} (h : ∀ w, w ≤ n → cnt f w t = S * w / n) : EvD n S f := fun i j hi hj => by
  have hn : (0 : Int) < n := by have := W.pos; omega
  have key : ∀ i, i < n → dev n S f i ≤ dev n S f t ∧ dev n S f t - dev n S f i < n := fun i hi => by
    -- a place behind t that is i, round the wheel
    have : ∃ w, w ≤ n ∧ dev n S f (t + w) = dev n S f i := by
      obtain ⟨k, hk, ek⟩ := W.dev_mod t
      refine ⟨if t % n ≤ i then i - t % n else i + n - t % n, ?_, ?_⟩
      · have := Nat.mod_lt t W.pos
        split <;> omega
      · have hm := Nat.mod_lt t W.pos
        have hh : ∀ q k, dev n S f (k + n * q) = dev n S f k := fun q => by
          induction q with
          | zero => intro k; rfl
          | succ q ih => intro k; rw [Nat.mul_succ, ← Nat.add_assoc, W.dev_round, ih]
        have d := Nat.mod_add_div t n
        split
        · rename_i c
          rw [show t + (i - t % n) = i + n * (t / n) by omega, hh]
        · rename_i c
          rw [show t + (i + n - t % n) = i + n + n * (t / n) by omega, hh, W.dev_round]
    obtain ⟨w, hw, e⟩ := this
    have d := dev_cnt (n := n) (S := S) (f := f) w t
    rw [h w hw] at d
    have lo := fdiv_lo (S * w) hn
    have hi := fdiv_hi (S * w) hn
    rw [Int.add_mul, Int.one_mul] at hi
    rw [Int.mul_comm] at d
    omega
  have a := key i hi
  have b := key j hj
  omega
/-- the width before bounds the width: the first fault is a fault of just two -/
theorem next_width (W : Wheel n S f) {w : Nat} (h : ∀ i j, i < n → j < n → cnt f w i - cnt f w j ≤ 1) (i j : Nat) (hi : i < n) (hj : j < n) : cnt f (w + 1) i - cnt f (w + 1) j ≤ 2 := by
  have a := h i j hi hj
  rw [cnt_succ, cnt_succ]
  have b := W.bit (i + w)
  have c := W.bit (j + w)
  omega
end Wheel
end Eb
namespace Eb
theorem ah_pos {s p a : Int} (hs : 0 ≤ s) (hsp : s ≤ p) (hp : 0 < p) (ha : 0 ≤ a) : 0 ≤ ah s p a ∧ ah s p a ≤ a := by
  refine ⟨le_fdiv hp (by rw [Int.zero_mul]; exact Int.mul_nonneg hs ha), ?_⟩
  have h : ah s p a < a + 1 := by
    refine fdiv_lt hp ?_
    have := Int.mul_le_mul_of_nonneg_right hsp ha
    rw [Int.add_mul, Int.one_mul, Int.mul_comm a p]; omega
  omega
theorem ah_neg {s p a : Int} (hs : 0 ≤ s) (hsp : s ≤ p) (hp : 0 < p) (ha : a ≤ 0) : a ≤ ah s p a ∧ ah s p a ≤ 0 := by
  have k : s * a ≤ 0 := Int.mul_nonpos_of_nonneg_of_nonpos hs ha
  have k2 : a * p ≤ s * a := by
    have := Int.mul_le_mul_of_nonpos_right hsp ha
    rw [Int.mul_comm a p]; exact this
  refine ⟨le_fdiv hp k2, ?_⟩
  have h : ah s p a < 1 := fdiv_lt hp (by rw [Int.one_mul]; omega)
  omega
/-- no farther off than the place -/
theorem ah_in {s p a b : Int} (hs : 0 ≤ s) (hsp : s ≤ p) (hp : 0 < p) (h0 : -b ≤ a) (h1 : a ≤ b) : -b ≤ ah s p a ∧ ah s p a ≤ b := by
  rcases Int.le_total 0 a with h | h
  · have := ah_pos hs hsp hp h; omega
  · have := ah_neg hs hsp hp h; omega
end Eb
namespace Eb
theorem ediv_in {x s b : Int} (hs : 0 < s) (h0 : -b ≤ x) (h1 : x ≤ b) : -b ≤ x / s ∧ x / s ≤ b := by
  have hb : 0 ≤ b := by omega
  constructor
  · refine le_fdiv hs ?_
    have : b * 1 ≤ b * s := Int.mul_le_mul_of_nonneg_left (by omega) hb
    rw [Int.neg_mul]; omega
  · have : x / s < b + 1 := by
      refine fdiv_lt hs ?_
      have : (b + 1) * 1 ≤ (b + 1) * s := Int.mul_le_mul_of_nonneg_left (by omega) (by omega)
      omega
    omega
theorem mul_in {x y a b : Int} (hx0 : 0 ≤ x) (hx : x ≤ a) (h0 : -b ≤ y) (h1 : y ≤ b) : -(a * b) ≤ x * y ∧ x * y ≤ a * b := by
  have hb : 0 ≤ b := by omega
  have k1 : x * y ≤ x * b := Int.mul_le_mul_of_nonneg_left h1 hx0
  have k2 : x * (-b) ≤ x * y := Int.mul_le_mul_of_nonneg_left h0 hx0
  have k3 : x * b ≤ a * b := Int.mul_le_mul_of_nonneg_right hx hb
  rw [Int.mul_neg] at k2
  omega
theorem pl_in {s p n P N : Int} (hs : 0 < s) (hp0 : 0 ≤ p) (hp : p ≤ P) (h0 : -N ≤ n + 1) (h1 : n + 1 ≤ N) : -(P * N + 1) ≤ pl s p n ∧ pl s p n ≤ P * N + 1 := by
  have m := mul_in hp0 hp h0 h1
  exact ediv_in hs (by omega) (by omega)
end Eb

namespace Eb
/-! the row by groups is even -/
def tr : List Bool → Nat
  | [] => 0
  | true :: r => tr r + 1
  | false :: r => tr r
theorem tr_le : ∀ W : List Bool, tr W ≤ W.length
  | [] => Nat.le_refl _
  | true :: r => by have := tr_le r; simp only [tr, List.length_cons]; omega
  | false :: r => by have := tr_le r; simp only [tr, List.length_cons]; omega
def devW (W : List Bool) (i : Nat) : Int := (W.length : Int) * (tr (W.take i) : Nat) - (tr W : Nat) * (i : Nat)
def EvW (W : List Bool) : Prop := ∀ i j, i ≤ W.length → j ≤ W.length → devW W i - devW W j < W.length
def s1 : List Bool → List Bool
  | [] => []
  | true :: r => true :: false :: s1 r
  | false :: r => false :: s1 r
def s2 : List Bool → List Bool
  | [] => []
  | true :: r => true :: false :: s2 r
  | false :: r => true :: s2 r
theorem tr_s1 : ∀ W, tr (s1 W) = tr W
  | [] => rfl
  | true :: r => by simp only [s1, tr]; rw [tr_s1 r]
  | false :: r => by simp only [s1, tr]; rw [tr_s1 r]
theorem len_s1 : ∀ W, (s1 W).length = W.length + tr W
  | [] => rfl
  | true :: r => by simp only [s1, tr, List.length_cons]; rw [len_s1 r]; omega
  | false :: r => by simp only [s1, tr, List.length_cons]; rw [len_s1 r]; omega
theorem tr_s2 : ∀ W, tr (s2 W) = W.length
  | [] => rfl
  | true :: r => by simp only [s2, tr, List.length_cons]; rw [tr_s2 r]
  | false :: r => by simp only [s2, tr, List.length_cons]; rw [tr_s2 r]
theorem len_s2 : ∀ W, (s2 W).length = W.length + tr W
  | [] => rfl
  | true :: r => by simp only [s2, tr, List.length_cons]; rw [len_s2 r]; omega
  | false :: r => by simp only [s2, tr, List.length_cons]; rw [len_s2 r]; omega
/-- a cut of the image lies at a cut, or within a pair -/
theorem cut1 : ∀ (W : List Bool) (j : Nat), j ≤ (s1 W).length → ∃ i, i ≤ W.length ∧
    ((j = i + tr (W.take i) ∧ tr ((s1 W).take j) = tr (W.take i)) ∨
     (i < W.length ∧ tr (W.take (i + 1)) = tr (W.take i) + 1 ∧ j = i + tr (W.take i) + 1 ∧ tr ((s1 W).take j) = tr (W.take i) + 1))
  | W, 0, _ => ⟨0, Nat.zero_le _, .inl ⟨rfl, rfl⟩⟩
  | [], j + 1, h => by simp [s1] at h
  | true :: r, 1, _ => ⟨0, Nat.zero_le _, .inr ⟨by simp, rfl, rfl, rfl⟩⟩
  | true :: r, j + 2, h => by
    obtain ⟨i, hi, q⟩ := cut1 r j (by simp only [s1, List.length_cons] at h; omega)
    refine ⟨i + 1, by simp only [List.length_cons]; omega, ?_⟩
    rcases q with ⟨q1, q2⟩ | ⟨q0, q1, q2, q3⟩
    · refine .inl ⟨?_, ?_⟩
      · simp only [List.take_succ_cons, tr]; omega
      · simp only [s1, List.take_succ_cons, tr]; omega
    · refine .inr ⟨by simp only [List.length_cons]; omega, ?_, ?_, ?_⟩
      · simp only [List.take_succ_cons, tr]; omega
      · simp only [List.take_succ_cons, tr]; omega
      · simp only [s1, List.take_succ_cons, tr]; omega
  | false :: r, j + 1, h => by
    obtain ⟨i, hi, q⟩ := cut1 r j (by simp only [s1, List.length_cons] at h; omega)
    refine ⟨i + 1, by simp only [List.length_cons]; omega, ?_⟩
    rcases q with ⟨q1, q2⟩ | ⟨q0, q1, q2, q3⟩
    · refine .inl ⟨?_, ?_⟩
      · simp only [List.take_succ_cons, tr]; omega
      · simp only [s1, List.take_succ_cons, tr]; omega
    · refine .inr ⟨by simp only [List.length_cons]; omega, ?_, ?_, ?_⟩
      · simp only [List.take_succ_cons, tr]; omega
      · simp only [List.take_succ_cons, tr]; omega
      · simp only [s1, List.take_succ_cons, tr]; omega
theorem cut2 : ∀ (W : List Bool) (j : Nat), j ≤ (s2 W).length → ∃ i, i ≤ W.length ∧
    ((j = i + tr (W.take i) ∧ tr ((s2 W).take j) = i) ∨
     (i < W.length ∧ tr (W.take (i + 1)) = tr (W.take i) + 1 ∧ j = i + tr (W.take i) + 1 ∧ tr ((s2 W).take j) = i + 1))
  | W, 0, _ => ⟨0, Nat.zero_le _, .inl ⟨rfl, rfl⟩⟩
  | [], j + 1, h => by simp [s2] at h
  | true :: r, 1, _ => ⟨0, Nat.zero_le _, .inr ⟨by simp, rfl, rfl, rfl⟩⟩
  | true :: r, j + 2, h => by
    obtain ⟨i, hi, q⟩ := cut2 r j (by simp only [s2, List.length_cons] at h; omega)
    refine ⟨i + 1, by simp only [List.length_cons]; omega, ?_⟩
    rcases q with ⟨q1, q2⟩ | ⟨q0, q1, q2, q3⟩
    · refine .inl ⟨?_, ?_⟩
      · simp only [List.take_succ_cons, tr]; omega
      · simp only [s2, List.take_succ_cons, tr]; omega
    · refine .inr ⟨by simp only [List.length_cons]; omega, ?_, ?_, ?_⟩
      · simp only [List.take_succ_cons, tr]; omega
      · simp only [List.take_succ_cons, tr]; omega
      · simp only [s2, List.take_succ_cons, tr]; omega
  | false :: r, j + 1, h => by
    obtain ⟨i, hi, q⟩ := cut2 r j (by simp only [s2, List.length_cons] at h; omega)
    refine ⟨i + 1, by simp only [List.length_cons]; omega, ?_⟩
    rcases q with ⟨q1, q2⟩ | ⟨q0, q1, q2, q3⟩
    · refine .inl ⟨?_, ?_⟩
      · simp only [List.take_succ_cons, tr]; omega
      · simp only [s2, List.take_succ_cons, tr]; omega
    · refine .inr ⟨by simp only [List.length_cons]; omega, ?_, ?_, ?_⟩
      · simp only [List.take_succ_cons, tr]; omega
      · simp only [List.take_succ_cons, tr]; omega
      · simp only [s2, List.take_succ_cons, tr]; omega
/-- all shares of a word lie in one strip -/
theorem strip {W : List Bool} (h : EvW W) : ∃ lo hi : Int, hi - lo < W.length ∧ ∀ i, i ≤ W.length → lo ≤ devW W i ∧ devW W i ≤ hi := by
  have top : ∀ m : Nat, m ≤ W.length → ∃ t, t ≤ W.length ∧ ∀ i, i ≤ m → devW W i ≤ devW W t := fun m => by
    induction m with
    | zero => intro _; exact ⟨0, Nat.zero_le _, fun i hi => by rw [show i = 0 by omega]; exact Int.le_refl _⟩
    | succ m ih =>
      intro hm
      obtain ⟨t, ht, q⟩ := ih (by omega)
      rcases Int.lt_or_le (devW W t) (devW W (m + 1)) with c | c
      · refine ⟨m + 1, hm, fun i hi => ?_⟩
        rcases Nat.lt_or_ge i (m + 1) with r | r
        · have := q i (by omega); omega
        · rw [show i = m + 1 by omega]; exact Int.le_refl _
      · refine ⟨t, ht, fun i hi => ?_⟩
        rcases Nat.lt_or_ge i (m + 1) with r | r
        · exact q i (by omega)
        · rw [show i = m + 1 by omega]; exact c
  obtain ⟨t, ht, q⟩ := top W.length (Nat.le_refl _)
  refine ⟨devW W t - (W.length - 1), devW W t, by omega, fun i hi => ⟨?_, q i hi⟩⟩
  have := h t i ht hi
  omega
theorem evw_s1 {W : List Bool} (h : EvW W) : EvW (s1 W) := by
  obtain ⟨lo, hi, hh, q⟩ := strip h
  have key : ∀ j, j ≤ (s1 W).length → lo ≤ devW (s1 W) j ∧ devW (s1 W) j ≤ hi + tr W := fun j hj => by
    obtain ⟨i, hi', c⟩ := cut1 W j hj
    unfold devW
    rw [tr_s1, len_s1, show ((W.length + tr W : Nat) : Int) = (W.length : Int) + (tr W : Nat) by omega, Int.add_mul]
    rcases c with ⟨c1, c2⟩ | ⟨c0, c1, c2, c3⟩
    · have b := q i hi'
      unfold devW at b
      rw [c2, c1, show ((i + tr (W.take i) : Nat) : Int) = (i : Int) + (tr (W.take i) : Nat) by omega, Int.mul_add]
      omega
    · have b := q (i + 1) (by omega)
      unfold devW at b
      rw [c1] at b
      rw [c3, c2, show ((i + tr (W.take i) + 1 : Nat) : Int) = ((i + 1 : Nat) : Int) + (tr (W.take i) : Nat) by omega, Int.mul_add]
      have e : ((tr W : Nat) : Int) * ((tr (W.take i) + 1 : Nat) : Int) = (tr W : Nat) * (tr (W.take i) : Nat) + (tr W : Nat) := by
        rw [show ((tr (W.take i) + 1 : Nat) : Int) = (tr (W.take i) : Nat) + 1 by omega, Int.mul_add, Int.mul_one]
      omega
  intro i j hi hj
  have a := key i hi
  have b := key j hj
  rw [len_s1]; omega
theorem evw_s2 {W : List Bool} (h : EvW W) : EvW (s2 W) := by
  obtain ⟨lo, hi, hh, q⟩ := strip h
  have key : ∀ j, j ≤ (s2 W).length → -hi ≤ devW (s2 W) j ∧ devW (s2 W) j ≤ -lo + tr W := fun j hj => by
    obtain ⟨i, hi', c⟩ := cut2 W j hj
    have tl := tr_le W
    unfold devW
    rw [tr_s2, len_s2, show ((W.length + tr W : Nat) : Int) = (W.length : Int) + (tr W : Nat) by omega, Int.add_mul]
    rcases c with ⟨c1, c2⟩ | ⟨c0, c1, c2, c3⟩
    · have b := q i hi'
      unfold devW at b
      rw [c2, c1, show ((i + tr (W.take i) : Nat) : Int) = (i : Int) + (tr (W.take i) : Nat) by omega, Int.mul_add]
      omega
    · have b := q i hi'
      have b2 := q (i + 1) (by omega)
      unfold devW at b b2
      rw [c1] at b2
      rw [c3, c2, show ((i + tr (W.take i) + 1 : Nat) : Int) = ((i + 1 : Nat) : Int) + (tr (W.take i) : Nat) by omega, Int.mul_add]
      have e : ((tr W : Nat) : Int) * ((i + 1 : Nat) : Int) = (tr W : Nat) * (i : Int) + (tr W : Nat) := by
        rw [show ((i + 1 : Nat) : Int) = (i : Int) + 1 by omega, Int.mul_add, Int.mul_one]
      have e2 : (W.length : Int) * ((tr (W.take i) + 1 : Nat) : Int) = (W.length : Int) * (tr (W.take i) : Nat) + W.length := by
        rw [show ((tr (W.take i) + 1 : Nat) : Int) = (tr (W.take i) : Nat) + 1 by omega, Int.mul_add, Int.mul_one]
      omega
  intro i j hi hj
  have a := key i hi
  have b := key j hj
  rw [len_s2]; omega
def sub (u v : List Int) : List Bool → List Int
  | [] => []
  | true :: r => u ++ sub u v r
  | false :: r => v ++ sub u v r
theorem sub_s1 (u v : List Int) : ∀ W, sub u v (s1 W) = sub (u ++ v) v W
  | [] => rfl
  | true :: r => by simp only [s1, sub]; rw [sub_s1 u v r, List.append_assoc]
  | false :: r => by simp only [s1, sub]; rw [sub_s1 u v r]
theorem sub_s2 (u v : List Int) : ∀ W, sub u v (s2 W) = sub (u ++ v) u W
  | [] => rfl
  | true :: r => by simp only [s2, sub]; rw [sub_s2 u v r, List.append_assoc]
  | false :: r => by simp only [s2, sub]; rw [sub_s2 u v r]
def rep : Nat → List Int → List Int
  | 0, _ => []
  | n + 1, u => u ++ rep n u
theorem sub_rep (u v : List Int) : ∀ m, sub u v (List.replicate m true) = rep m u
  | 0 => rfl
  | m + 1 => by rw [List.replicate_succ]; simp only [sub, rep]; rw [sub_rep u v m]
theorem sub_repF (u v : List Int) : ∀ m, sub u v (List.replicate m false) = rep m v
  | 0 => rfl
  | m + 1 => by rw [List.replicate_succ]; simp only [sub, rep]; rw [sub_repF u v m]
/-- the row by groups -/
def bj (u : List Int) (m : Nat) (v : List Int) (k : Nat) : List Int :=
  if m = 0 ∨ k = 0 then rep m u ++ rep k v
  else if k < m then bj (u ++ v) k u (m - k) else bj (u ++ v) m v (k - m)
termination_by m + k
decreasing_by all_goals omega
theorem tr_rep : ∀ m, tr (List.replicate m true) = m
  | 0 => rfl
  | m + 1 => by rw [List.replicate_succ]; simp only [tr]; rw [tr_rep m]
theorem tr_repF : ∀ m, tr (List.replicate m false) = 0
  | 0 => rfl
  | m + 1 => by rw [List.replicate_succ]; simp only [tr]; rw [tr_repF m]
theorem evw_rep {m : Nat} (h : 0 < m) : EvW (List.replicate m true) := fun i j hi hj => by
  rw [List.length_replicate] at hi hj
  unfold devW
  rw [List.take_replicate, List.take_replicate, tr_rep, tr_rep, tr_rep, List.length_replicate, Nat.min_eq_left hi, Nat.min_eq_left hj]; omega
theorem evw_repF {m : Nat} (h : 0 < m) : EvW (List.replicate m false) := fun i j hi hj => by
  rw [List.length_replicate] at hi hj
  unfold devW
  rw [List.take_replicate, List.take_replicate, tr_repF, tr_repF, tr_repF, List.length_replicate]; omega
/-- what holds of every even way to lay the groups holds of the end -/
theorem bj_of (P : List Int → Prop) (u : List Int) (m : Nat) (v : List Int) (k : Nat) (h : 0 < m + k)
    (hP : ∀ W, EvW W → tr W = m → W.length = m + k → P (sub u v W)) : P (bj u m v k) := by
  unfold bj
  by_cases c : m = 0 ∨ k = 0
  · rw [if_pos c]
    rcases c with c | c
    · subst c
      have := hP (List.replicate k false) (evw_repF (by omega)) (tr_repF k) (by simp)
      rw [sub_repF] at this; exact this
    · subst c
      have := hP (List.replicate m true) (evw_rep (by omega)) (tr_rep m) (by simp)
      rw [sub_rep] at this
      show P (rep m u ++ [])
      rw [List.append_nil]; exact this
  · rw [if_neg c]
    by_cases d : k < m
    · rw [if_pos d]
      refine bj_of P _ _ _ _ (by omega) fun W hW ht hl => ?_
      rw [← sub_s2]
      exact hP _ (evw_s2 hW) (by rw [tr_s2]; omega) (by rw [len_s2]; omega)
    · rw [if_neg d]
      refine bj_of P _ _ _ _ (by omega) fun W hW ht hl => ?_
      rw [← sub_s1]
      exact hP _ (evw_s1 hW) (by rw [tr_s1]; omega) (by rw [len_s1]; omega)
termination_by m + k
decreasing_by all_goals omega
end Eb

/-! What leaves a frame keeps the dict of the exception. -/
namespace L2
open PySem PySem.Spec PyProof.Rows
def DictAt (x : Addr) (d : Option Addr) (h : Heap) : Prop := ∃ o, h.get? x = some o ∧ o.dict = d
structure KD (e : Addr) (d : Option Addr) {α : Type} (t : Sem α) : Prop where
  out : ∀ (M : Model) (Γ : PySem.Ctx) (P : α → Pos → Shared → Prop) (Ee : Value → Pos → Shared → Prop) (p : Pos) (s : Shared), DictAt e d s.heap → Sem.wp M Γ t P Ee p s → Sem.wp M Γ t (fun a p' s' => P a p' s' ∧ DictAt e d s'.heap) Ee p s
section
variable {e : Addr} {d : Option Addr} {α β : Type}
theorem KD.pure (a : α) : KD e d (Pure.pure a : Sem α) := ⟨fun M Γ P Ee p s hd h => ⟨h, hd⟩⟩
theorem KD.bind {m : Sem α} {f : α → Sem β} (h1 : KD e d m) (h2 : ∀ a, KD e d (f a)) : KD e d (m >>= f) := ⟨fun M Γ P Ee p s hd h => by
  rw [Sem.wp_bind'] at h ⊢
  exact Sem.wp_mono M Γ m (fun a p' s' ⟨q, hd'⟩ => (h2 a).out M Γ P Ee p' s' hd' q) (fun _ _ _ q => q) p s (h1.out M Γ _ Ee p s hd h)⟩
theorem KD.ite {c : Prop} [Decidable c] {a b : Sem α} (h1 : KD e d a) (h2 : KD e d b) : KD e d (if c then a else b) := by
  split
  · exact h1
  · exact h2
theorem KD.unsupported (w : String) : KD e d (PySem.unsupported w : Sem α) := ⟨fun M Γ P Ee p s hd h => by
  have z : False := by rw [← Sem.wp_unsupported M Γ P Ee p s w]; exact h
  exact z.elim⟩
theorem KD.load (a : Addr) : KD e d (PySem.load a) := ⟨fun M Γ P Ee p s hd h => by
  rw [Sem.wp_cmd_load] at h ⊢
  obtain ⟨o, h1, h2⟩ := h
  exact ⟨o, h1, h2, hd⟩⟩
theorem KD.stack : KD e d PySem.stack := ⟨fun M Γ P Ee p s hd h => by
  have h' : P ((Γ.code, p) :: Γ.below) p s := by
    have := h
    unfold PySem.stack at this
    rw [Sem.wp_stack] at this
    exact this
  unfold PySem.stack
  rw [Sem.wp_stack]
  exact ⟨h', hd⟩⟩
theorem KD.alloc (o : Obj) : KD e d (PySem.alloc o) := ⟨fun M Γ P Ee p s hd h => by
  unfold PySem.alloc at h ⊢
  rw [Sem.wp_alloc] at h ⊢
  obtain ⟨u, h1, h2⟩ := hd
  exact ⟨h, u, Heap.get?_push_of_some _ h1, h2⟩⟩
theorem get_notFreed {h : Heap} {a : Addr} {o : Obj} (e : h.get? a = some o) : o.isFreed = false := by
  unfold Heap.get? at e
  split at e
  · cases e
  · rename_i hn
    cases q : o.isFreed with
    | false => rfl
    | true =>
      obtain ⟨c, dd, dt, sl⟩ := o
      unfold Obj.isFreed at q
      split at q
      · rename_i e'
        exact absurd (e' ▸ e) (hn _ _ _)
      · cases q
theorem KD.update (a : Addr) (f : Obj → Obj) (hf : ∀ o, (f o).dict = o.dict ∧ (f o).isFreed = o.isFreed) : KD e d (PySem.update a f) := ⟨fun M Γ P Ee p s hd h => by
  rw [Sem.wp_cmd_update] at h ⊢
  refine ⟨h.1, h.2, ?_⟩
  obtain ⟨u, h1, h2⟩ := hd
  by_cases z : e = a
  · subst z
    exact ⟨f u, Heap.get?_update_self f h1 ((hf u).2.trans (get_notFreed h1)), by rw [(hf u).1]; exact h2⟩
  · exact ⟨u, (Heap.get?_update_other s.heap f (Ne.symm z)).trans h1, h2⟩⟩
theorem KD.fieldsOf (v : Value) : KD e d (PySem.fieldsOf v) := by
  unfold PySem.fieldsOf
  split
  · refine .bind (.load _) fun o => ?_
    split
    · exact .pure _
    · exact .unsupported _
  · exact .unsupported _
theorem KD.field (v : Value) (i : Nat) : KD e d (PySem.field v i) := by
  unfold PySem.field
  refine .bind (.fieldsOf v) fun vs => ?_
  split
  · exact .pure _
  · exact .unsupported _
theorem KD.setField (v : Value) (i : Nat) (x : Value) : KD e d (PySem.setField v i x) := by
  unfold PySem.setField
  split
  · unfold updateField
    refine .bind (.load _) fun o => ?_
    split
    · refine .ite (.update _ _ fun o => ?_) (.unsupported _)
      obtain ⟨c, dd, dt, sl⟩ := o
      cases dt <;> exact ⟨rfl, rfl⟩
    · exact .unsupported _
  · exact .unsupported _
theorem KD.setFlight (v : Value) (fr : Option Addr) : KD e d (PySem.setFlight v fr) := by
  unfold PySem.setFlight
  exact .bind (.field _ _) fun tb => .ite (.setField _ _ _) (.pure _)
theorem KD.frameEnvs : KD e d PySem.frameEnvs := by
  unfold PySem.frameEnvs
  exact .bind .stack fun _ => .pure _
theorem KD.behind (env : Env) (l : List Env) : KD e d (PySem.behindIsImport env l) := by
  unfold PySem.behindIsImport
  exact .ite (.pure _) (.ite (.pure _) (.bind (.field _ _) fun _ => .pure _))
theorem KD.keptBack (env : Env) (b : Bool) (l : List Env) : KD e d (PySem.keptBack env b l) := by
  unfold PySem.keptBack
  split
  · refine .ite (.pure _) (.bind ?_ fun _ => .pure _)
    unfold underTheClaimsCaller
    exact .bind .stack fun _ => .pure _
  · exact .pure _
theorem KD.ready : ∀ l, KD e d (PySem.readyFrames l)
  | [] => by rw [readyFrames.eq_1]; exact .pure _
  | c :: t => by
    rw [readyFrames.eq_2]
    split
    · refine .bind (.load _) fun o => .ite (.pure _) (.bind (.behind _ _) fun _ => .bind (.keptBack _ _ _) fun _ => .bind (.update _ _ fun o => ?_) fun _ => KD.ready t)
      obtain ⟨c, dd, dt, sl⟩ := o
      cases dt <;> exact ⟨rfl, rfl⟩
    · exact .unsupported _
theorem KD.frameOf (env : Env) : KD e d (PySem.frameOf env) := by
  unfold PySem.frameOf
  refine .bind .frameEnvs fun l => .bind ?_ fun r => ?_
  · unfold frameObject
    split
    · exact .pure _
    · exact .bind (.ready _) fun _ => .pure _
  · split
    · exact .pure _
    · exact .unsupported _
theorem KD.entryPlace (f : Addr) (b : Bool) : KD e d (PySem.entryPlaceOf f b) := by
  unfold PySem.entryPlaceOf
  refine .bind .stack fun l => ?_
  split <;> exact .pure _
theorem KD.newEntry (a b c f g : Value) (l : List Value) : KD e d (PySem.EntryCells.newEntry a b c f g l) := by
  unfold PySem.EntryCells.newEntry newFields newObj newObjAsIs
  dsimp only
  refine .ite (.bind (.unsupported _) fun _ => ?_) ?_
  · exact .bind (.alloc _) fun _ => .pure _
  · exact .bind (.alloc _) fun _ => .pure _
theorem KD.noteFrame (v : Value) (env : Env) : KD e d (PySem.noteFrame v env) := by
  unfold PySem.noteFrame
  split
  · exact .bind (.field _ _) fun hd => .ite (.bind (.field _ _) fun _ => .ite (.pure _) (.bind (.setField _ _ _) fun _ => .bind (.frameOf _) fun _ => .bind (.entryPlace _ _) fun _ => .bind (.newEntry ..) fun _ => .setField _ _ _))
      (.bind (.frameOf _) fun _ => .bind (.entryPlace _ _) fun _ => .bind (.newEntry ..) fun _ => .setField _ _ _)
  · exact .unsupported _
theorem KD.leaving (env : Env) (v : Value) : KD e d (PySem.leaving env v) := by
  unfold PySem.leaving
  exact .bind (.noteFrame _ _) fun _ => .setFlight _ _
theorem KD.any {t : Sem α} {M : Model} {A : Around} {Q : α → Shared → Prop} {E : Value → Shared → Prop} {s : Shared} (k : KD e d t) (hd : DictAt e d s.heap) (h : wpAny M A t Q E s) : wpAny M A t (fun a s' => Q a s' ∧ DictAt e d s'.heap) E s :=
  fun Γ p hi => k.out M Γ _ _ p s hd (h Γ p hi)
end
end L2

/-! An own exception class with its own first method, under own classes under ValueError: how one is made. -/
namespace L2
open PySem PySem.Spec PyProof.Rows
abbrev veTail : List Value := [.type "ValueError", .type "Exception", .type "BaseException", .type "object"]
/-- what the class must be like: its own object, and the one above it -/
structure IniCls (K : PySem.W.Frag) (C B : Addr) : Prop where
  obj : ∃ (dd : Option Addr) (cd : ClassData) (k0 k1 k2 k3 k5 : Option Value), List.lookup C K = some ⟨.type "type", dd, .cls cd, #[k0, k1, k2, k3, some (.builtin "ValueError.__new__"), k5]⟩ ∧ cd.mro = .ref C :: .ref B :: veTail ∧ cd.hasDel = false ∧ cd.hasDict = true
  up : PySem.W.excIn K B veTail "ValueError.__new__" = true
theorem tail_of_exc {K : PySem.W.Frag} {B : Addr} {h : Heap} (X : K.In h) (q : PySem.W.excIn K B veTail "ValueError.__new__" = true) : OwnTail h veTail (.ref B :: veTail) := by
  unfold PySem.W.excIn at q
  split at q
  · rename_i dd cd sl ho
    split at q
    · rename_i C' bm k0 k1 k2 k3 n k5 hm hs
      simp only [Bool.and_eq_true, beq_iff_eq, Bool.not_eq_true'] at q
      exact .own (X _ _ ho) (.of_isNs (PySem.W.isNs_of_in X q.1.2)) (PySem.W.nsMap_none_of_in X q.1.2 q.2) .base
    · cases q
  · cases q
theorem IniCls.there {K : PySem.W.Frag} {C B : Addr} {h : Heap} (X : K.In h) (q : IniCls K C B) : ∃ nm qn N bs hd sn sub ab col dd k0 k1 k2 k3 k5,
    h.get? C = some (excClassObj nm qn C N bs (.ref B :: veTail) hd sn sub ab col dd k0 k1 k2 k3 k5 "ValueError.__new__") ∧ OwnTail h veTail (.ref B :: veTail) := by
  obtain ⟨dd, cd, k0, k1, k2, k3, k5, e, hm, hdel, _⟩ := q.obj
  obtain ⟨nm, bs, mro, ns, qn, hd, sn, sub, ab, col, del⟩ := cd
  dsimp only at hm hdel
  subst hm hdel
  exact ⟨nm, qn, ns, bs, hd, sn, sub, ab, col, dd, k0, k1, k2, k3, k5, X _ _ e, tail_of_exc X q.up⟩
section
open PySem.W
variable {prog : Program} {w : World} {A : Around} {E : Value → Shared → Prop} {K : PySem.W.Frag} {C B fI : Addr} {us : List Value} {s : Shared}
theorem look_ty {M : Model} {h : Heap} {x : Addr} {o : Obj} (e : h.get? x = some o) : Looks M h (typeOf (.ref x)) o.cls := (Looks.ld e).andThen .now
theorem type_call_init {Q : PySem.Fin → Shared → Prop} (X : K.In s.heap) (hc : IniCls K C B) (hi : findIn K (.ref C) "__init__" = some (some (.ref fI))) (hf : PySem.W.isFn K (.ref fI) = true) (hl : us.length ≤ sizeLine)
    (hq : ∀ (h' : Heap) (e : Addr), s.heap.MadeExcOf h' e (.ref C) us → wpAny (model prog w) A (call (.ref fI) (.ref e :: us)) (fun r s' => r = .none ∧ Q (.done (.ret (.ref e))) s') E { s with heap := h' }) :
    wpAny (model prog w) A (Builtin.«type.__call__» ⟨.ref C :: us, []⟩) Q E s := by
  obtain ⟨h, g, d, t, os⟩ := s
  obtain ⟨nm, qn, N, bs, hd, sn, sub, ab, col, dd, k0, k1, k2, k3, k5, hC, T⟩ := hc.there X
  unfold Builtin.«type.__call__»
  dsimp only
  rw [if_neg (by intro z; cases z)]
  refine wpAny_bind (wpAny_mroOf_exc hC ?_)
  refine wpAny_ite_false rfl ?_
  refine wpAny_bind (wpAny_madeBy_exc hC ?_)
  dsimp only
  refine wpAny_bind (wpAny_pure (wpAny_bind (wpAny_holding (wpAny_call (codeAny_call_builtin_code (Code.quiet_builtin _ PySem.F.excBase_ValueError.quiet) (wpAny_check_new_subT PySem.F.excBase_ValueError T hC (codeAny_exc_new_subT PySem.F.excBase_ValueError T hC ?_ hl)))))))
  have k : ∀ b o, h.get? b = some o → ((h.push { cls := Value.type "tuple", data := Data.seq us.toArray }).push { cls := Value.ref C, data := Data.fields #[Value.ref h.objs.size, Value.none, Value.none, Value.none, Value.bool false, Value.none] }).get? b = some o := fun b o q =>
    Heap.get?_push_of_some _ (Heap.get?_push_of_some _ q)
  have hget : ((h.push { cls := Value.type "tuple", data := Data.seq us.toArray }).push { cls := Value.ref C, data := Data.fields #[Value.ref h.objs.size, Value.none, Value.none, Value.none, Value.bool false, Value.none] }).get? (h.objs.size + 1)
      = some { cls := Value.ref C, data := Data.fields #[Value.ref h.objs.size, Value.none, Value.none, Value.none, Value.bool false, Value.none] } := Heap.get?_push_at (by simp [Heap.size_push]) rfl
  have htup : ((h.push { cls := Value.type "tuple", data := Data.seq us.toArray }).push { cls := Value.ref C, data := Data.fields #[Value.ref h.objs.size, Value.none, Value.none, Value.none, Value.bool false, Value.none] }).get? h.objs.size
      = some { cls := Value.type "tuple", data := Data.seq us.toArray } := Heap.get?_push_of_some _ (Heap.get?_push_at rfl rfl)
  have hm : h.MadeExcOf _ (h.objs.size + 1) (.ref C) us := ⟨k, by
      cases q : h.get? (h.objs.size + 1) with
      | none => rfl
      | some o => exact absurd (show h.objs.size + 1 < h.objs.size from Heap.lt_size q) (by omega), _, hget, by
      cases q : h.get? h.objs.size with
      | none => rfl
      | some o => exact absurd (show h.objs.size < h.objs.size from Heap.lt_size q) (by omega), htup⟩
  have X' := X.keeps k
  dsimp only
  unfold isInstance
  refine wpAny_bind (wpAny_bind ?_)
  refine (look_ty hget).at ?_
  refine wpAny_isSubtype_exc (k _ _ hC) ?_
  have hcc : (Value.ref C :: .ref B :: veTail).contains (Value.ref C) = true := by simp
  rw [hcc]
  refine wpAny_ite_false rfl ?_
  refine wpAny_bind (wpAny_holding ?_)
  unfold callSpecial?
  refine wpAny_bind ?_
  unfold specialOf
  refine wpAny_bind ((look_ty hget).at ?_)
  refine (looks_findIn X' hi).at ?_
  dsimp only
  refine wpAny_holding (wpAny_bind ?_)
  unfold bindSpecial
  refine wpAny_bind ((looks_typeIn X' (beq_iff_eq.mp hf)).at ?_)
  refine wpAny_ite_true rfl (wpAny_pure ?_)
  dsimp only
  refine wpAny_bind (wpAny_mono (hq _ _ hm) (fun r s' ⟨e1, q⟩ => ?_) fun _ _ z => z)
  subst e1
  refine wpAny_pure ?_
  dsimp only
  refine wpAny_ite_false rfl ?_
  exact wpAny_pure q
theorem call_init {Q : Value → Shared → Prop} (X : K.In s.heap) (hc : IniCls K C B) (hi : findIn K (.ref C) "__init__" = some (some (.ref fI))) (hf : PySem.W.isFn K (.ref fI) = true) (hl : us.length ≤ sizeLine)
    (hq : ∀ (h' : Heap) (e : Addr), s.heap.MadeExcOf h' e (.ref C) us → wpAny (model prog w) (A.under (.builtin "type.__call__" ⟨.ref C :: us, []⟩)) (call (.ref fI) (.ref e :: us)) (fun r s' => r = .none ∧ Q (.ref e) s') E { s with heap := h' }) :
    wpAny (model prog w) A (call (.ref C) us) Q E s := by
  obtain ⟨nm, qn, N, bs, hd, sn, sub, ab, col, dd, k0, k1, k2, k3, k5, hC, T⟩ := hc.there X
  refine wpAny_call (codeAny_of_tree ?_)
  refine wpAny_bind (wpAny_load' hC ?_)
  refine wpAny_bind (wpAny_specialOf ⟨_, hC, rfl⟩ tc_lookup (wpAny_bind (wpAny_of_eq (tc_bind (.ref C)) ?_)))
  refine wpAny_bind (wpAny_pure (wpAny_ite_true rfl (wpAny_pure ⟨rfl, codeAny_call_builtin_at (Code.quiet_builtin _ (by decide +kernel)) entry_typeCall ?_⟩)))
  obtain ⟨h, g, d, t, os⟩ := s
  exact wpAny_check_type_call_sub hC (type_call_init X hc hi hf hl fun h' e hm => hq h' e hm)
end
end L2

/-! An own exception: its attributes are written and read. -/
namespace L2
open PySem PySem.Spec PyProof.Rows
structure FldCls (K : PySem.W.Frag) (C B : Addr) : Prop where
  ini : IniCls K C B
  sa : PySem.W.findIn K (.ref C) "__setattr__" = some (some (.builtin "object.__setattr__"))
  ga : PySem.W.findIn K (.ref C) "__getattribute__" = some (some (.builtin "BaseException.__getattribute__"))
  gt : PySem.W.findIn K (.ref C) "__getattr__" = some none
theorem FldCls.cls {K : PySem.W.Frag} {C B : Addr} (c : FldCls K C B) : ∃ cd, PySem.W.clsIn K C = some cd ∧ cd.mro = .ref C :: .ref B :: veTail ∧ cd.hasDict = true := by
  obtain ⟨dd, cd, k0, k1, k2, k3, k5, e, hm, _, hd⟩ := c.ini.obj
  refine ⟨cd, ?_, hm, hd⟩
  unfold PySem.W.clsIn
  rw [e]
theorem own_sa : builtinOwn "ValueError" (Str.ofString "__setattr__") = none ∧ builtinOwn "Exception" (Str.ofString "__setattr__") = none ∧ builtinOwn "BaseException" (Str.ofString "__setattr__") = none ∧ (builtinOwn "object" (Str.ofString "__setattr__")).isSome = true := by
  refine ⟨?_, ?_, ?_, ?_⟩ <;> decide +kernel
section
open PySem.W PySem.Builtin PySem.Builtin.ObjectAttr
variable {prog : Program} {w : World} {A : Around} {E : Value → Shared → Prop} {s : Shared} {K : PySem.W.Frag} {x dx C B : Addr} {mA : Str → Option Value} {name : Str} {v : Value} {ox : Obj}
theorem refuse_ve (self : Value) : refuseLoop self (Str.ofString "__setattr__") (.ref C :: .ref B :: veTail) = pure () := by
  obtain ⟨h1, h2, h3, h4⟩ := own_sa
  have h5 : isObjects "object" (Str.ofString "__setattr__").toString = true := by simp [isObjects]
  simp [refuseLoop, veTail, classOwn, h1, h2, h3, h4, h5]
theorem set_exc {Q : Unit → Shared → Prop} {od : Option Obj} (X : K.In s.heap) (c : FldCls K C B) (I : InstAt s.heap x ox C od) (hn : findIn K (.ref C) name = some none)
    (h : wpAny (model prog w) A.in1 (storeInOwnDict (.ref x) (.ref C) (.str name s.toks) name v false) (fun fin s' => fin = .done (.ret .none) ∧ Q () s') (fun _ _ => False) { s with toks := s.toks + 1 }) :
    wpAny (model prog w) A (setAttr (.ref x) name v) Q E s := by
  obtain ⟨cd, hcd, hm, hd⟩ := c.cls
  have sub : Looks (model prog w) s.heap (isInstance (.ref x) (.type "object")) true := I.type.andThen (looks_mroIn X (by
    unfold mroIn
    rw [hcd, Option.bind_some, hm]
    rfl))
  have hmro : Looks (model prog w) s.heap (mroOf (.ref C)) (.ref C :: .ref B :: veTail) := by
    have q : Looks (model prog w) s.heap (mroOf (.ref C)) cd.mro := (looks_clsIn X hcd).andThen .now
    rw [hm] at q
    exact q
  have L2 := looks_findIn (M := model prog w) X hn
  refine set_plain X I c.sa ?_
  have SF := F.store_object
  refine codeAny_call_builtin SF.slot.plain SF.entry ?_
  have sub' : Looks (model prog w) ({ s with toks := s.toks + 1 } : Shared).heap (isInstance (.ref x) (.type "object")) true := sub
  have ar := SF.args (.ref x) (.str name s.toks) v
  refine @check_slot (model prog w) A.in1 _ { s with toks := s.toks + 1 } "object.__setattr__" "object" "__setattr__" (.ref x) [.str name s.toks, v] [] _ SF.kind SF.split sub' ar ?_
  rw [osa_eq, refuse_eq]
  refine wpAny_bind (wpAny_bind (I.type.here (s := { s with toks := s.toks + 1 }) (wpAny_bind (hmro.here (s := { s with toks := s.toks + 1 }) ?_))))
  refine wpAny_of_eq (refuse_ve _) ?_
  refine wpAny_bind (I.type.here (s := { s with toks := s.toks + 1 }) (wpAny_bind (L2.here (s := { s with toks := s.toks + 1 }) (wpAny_bind (wpAny_pure (a := none) ?_)))))
  refine wpAny_mono h (fun fin s' ⟨e, q⟩ => ?_) fun _ _ z => False.elim z
  subst e
  exact q
theorem set_old {ns : List Str} {vs : Array Value} {sl : Array (Option Value)} {Q : Unit → Shared → Prop} (X : K.In s.heap) (c : FldCls K C B) (hx : s.heap.get? x = some ⟨.ref C, some dx, .fields vs, sl⟩) (hN : s.heap.Ns1 dx mA) (ne : dx ≠ x) (hn : findIn K (.ref C) name = some none)
    (hw : PySem.Within mA ns) (hsz : ns.length ≤ sizeLine)
    (h : ∀ h', h'.Ns1 dx (fun y => if y = name then some v else mA y) → Heap.SameBut dx s.heap h' → Q () { s with heap := h', toks := s.toks + 2 }) :
    wpAny (model prog w) A (setAttr (.ref x) name v) Q E s := by
  obtain ⟨od, ho, _⟩ := lookIn_ns hN
  obtain ⟨cd, hcd, hm, hd⟩ := c.cls
  refine set_exc (od := some od) X c ⟨hx, rfl, rfl, ho⟩ hn ?_
  refine wpAny_bind (wpAny_pure (wpAny_bind (wpAny_bind (wpAny_loadPart hx (wpAny_bind (PySem.W.Looks.here (s := { s with toks := s.toks + 1 }) (PySem.W.looks_clsIn X hcd) ?_))))))
  rw [hd]
  refine wpAny_pure (a := some dx) (wpAny_bind (wpAny_pure (wpAny_bind ?_)))
  refine wpAny_nsSet1 (s := { s with toks := s.toks + 1 }) hN fun h' hn2 hs2 => ?_
  obtain ⟨oD, esD, epD, hoD, hdD, hcD⟩ := hn2.count (PySem.Within.cons name v hw)
  refine wpAny_bind (wpAny_lookBehind hoD (by rw [hdD]; exact pastItsLine_dict (Nat.le_trans hcD (by rw [List.length_cons]; omega))) ?_)
  exact wpAny_pure ⟨rfl, h _ hn2 hs2⟩
theorem ns1_empty {h : Heap} : (h.push emptyDict).Ns1 h.objs.size fun _ => none :=
  ⟨emptyDict, #[], 0, Heap.get?_push_size h rfl, rfl, fun y hy => absurd hy (by simp), by unfold UniqKeys; simp, fun _ => rfl⟩
theorem within_none : PySem.Within (fun _ => none) [] := by
  intro y hy
  simp_all
theorem set_new {vs : Array Value} {sl : Array (Option Value)} {Q : Unit → Shared → Prop} (X : K.In s.heap) (c : FldCls K C B) (hx : s.heap.get? x = some ⟨.ref C, none, .fields vs, sl⟩) (hn : findIn K (.ref C) name = some none)
    (h : ∀ h', h'.get? x = some ⟨.ref C, some s.heap.objs.size, .fields vs, sl⟩ → h'.Ns1 s.heap.objs.size (fun y => if y = name then some v else none) → (∀ b o, b ≠ x → s.heap.get? b = some o → h'.get? b = some o) → Q () { s with heap := h', toks := s.toks + 2 }) :
    wpAny (model prog w) A (setAttr (.ref x) name v) Q E s := by
  obtain ⟨cd, hcd, hm, hd⟩ := c.cls
  refine set_exc (od := none) X c ⟨hx, rfl, rfl, trivial⟩ hn ?_
  refine wpAny_bind (wpAny_pure (wpAny_bind (wpAny_bind (wpAny_loadPart hx (wpAny_bind (PySem.W.Looks.here (s := { s with toks := s.toks + 1 }) (PySem.W.looks_clsIn X hcd) ?_))))))
  rw [hd]
  have lt : x < s.heap.objs.size := Heap.lt_size hx
  have hx1 : (s.heap.push emptyDict).get? x = some ⟨.ref C, none, .fields vs, sl⟩ := Heap.get?_push_of_some _ hx
  refine wpAny_bind (wpAny_alloc (wpAny_bind (wpAny_update hx1 ?_)))
  refine wpAny_pure (a := some s.heap.objs.size) (wpAny_bind (wpAny_pure (wpAny_bind ?_)))
  have hx2 := Heap.get?_update_self (fun o : Obj => { cls := o.cls, dict := some s.heap.objs.size, data := o.data, slots := o.slots }) hx1 rfl
  have hN : ((s.heap.push emptyDict).update x fun o => { cls := o.cls, dict := some s.heap.objs.size, data := o.data, slots := o.slots }).Ns1 s.heap.objs.size fun _ => none := by
    obtain ⟨o, es, ep, e, r⟩ := ns1_empty (h := s.heap)
    exact ⟨o, es, ep, (Heap.get?_update_other _ _ (Nat.ne_of_lt lt)).trans e, r⟩
  refine wpAny_nsSet1 (s := ⟨(s.heap.push emptyDict).update x fun o => { cls := o.cls, dict := some s.heap.objs.size, data := o.data, slots := o.slots }, s.gens, s.drawn, s.toks + 1, s.os⟩) hN fun h' hn2 hs2 => ?_
  obtain ⟨oD, esD, epD, hoD, hdD, hcD⟩ := hn2.count (PySem.Within.cons name v within_none)
  refine wpAny_bind (wpAny_lookBehind hoD (by rw [hdD]; exact pastItsLine_dict (Nat.le_trans hcD (by rw [List.length_cons, sizeLine_eq]; decide))) ?_)
  refine wpAny_pure ⟨rfl, h _ ((hs2.2 _ (Nat.ne_of_lt lt)).trans hx2) hn2 fun b o nb e => ?_⟩
  have lb : b < s.heap.objs.size := Heap.lt_size e
  rw [hs2.2 _ (Nat.ne_of_lt lb)]
  exact (Heap.get?_update_other _ _ (Ne.symm nb)).trans (Heap.get?_push_of_some _ e)
theorem get_exc {Q : Value → Shared → Prop} {expr : Bool} {vs : Array Value} {sl : Array (Option Value)} (X : K.In s.heap) (c : FldCls K C B) (hx : s.heap.get? x = some ⟨.ref C, some dx, .fields vs, sl⟩) (hN : s.heap.Ns1 dx mA) (hn : findIn K (.ref C) name = some none)
    (hv : mA name = some v) (hv' : handedIn v = true) (h : Q v { s with toks := s.toks + 1 }) : wpAny (model prog w) A (getAttr (.ref x) name expr) Q E s := by
  obtain ⟨hh, g, d, t, os⟩ := s
  obtain ⟨od, ho, hl⟩ := lookIn_ns hN
  obtain ⟨cd, hcd, hm, hd⟩ := c.cls
  have J : InstAt hh x ⟨.ref C, some dx, .fields vs, sl⟩ C (some od) := ⟨hx, rfl, rfl, ho⟩
  have hdi : hasDictIn K C = true := by
    unfold hasDictIn
    rw [hcd]
    exact hd
  have LF := looks_find (M := model prog w) X J (findObj_own hdi hn rfl (by rw [hl, hv]))
  have L1 := looks_findIn (M := model prog w) X c.ga
  have L2 := looks_findIn (M := model prog w) X c.gt
  have LB : Looks (model prog w) hh (isSubtype (.ref C) (.type "BaseException")) true := looks_mroIn X (by
    unfold mroIn
    rw [hcd, Option.bind_some, hm]
    rfl)
  have T : Looks (model prog w) hh (typeOf (.ref x)) (.ref C) := J.type
  have f3 := PySem.F.excAttr_ValueError.ga.bind (.ref x)
  have hk : builtinKind "BaseException.__getattribute__" = some .slot := by decide +kernel
  have hsplit : splitId "BaseException.__getattribute__" = some ("BaseException", "__getattribute__") := by decide +kernel
  unfold getAttr
  refine wpAny_bind (wpAny_mkText ?_)
  unfold getAttrBy
  refine wpAny_holding (wpAny_bind (T.at (wpAny_bind (L1.at ?_))))
  dsimp only
  have hne : (Value.builtin "BaseException.__getattribute__" == Value.builtin "object.__getattribute__") = false := by decide +kernel
  rw [hne, Bool.and_false, if_neg Bool.false_ne_true]
  unfold getAttrByItsOwn hookBefore
  refine wpAny_bind ?_
  show wpAny _ _ (typeLookup (.ref C) "__getattr__") _ _ _
  refine L2.at ?_
  refine wpAny_bind (wpAny_attempt (wpAny_holding ?_))
  unfold callGetattribute
  rw [show onTheHeap (.builtin "BaseException.__getattribute__") = false from rfl, Bool.and_false, if_neg Bool.false_ne_true]
  unfold boundAndCalled
  refine wpAny_bind (wpAny_of_eq f3 ?_)
  refine wpAny_call (codeAny_call_builtin PySem.F.excAttr_ValueError.ga.plain PySem.F.entry_bexc_ga ?_)
  have ha := PySem.F.args_bexc_ga (.ref x) (.str name t)
  simp only [checkBuiltinCall, hk, hsplit, List.cons_append, List.nil_append]
  refine wpAny_bind ?_
  unfold isInstance
  refine wpAny_bind (T.at (LB.at ?_))
  rw [if_neg (by decide)]
  refine wpAny_of_eq ha ?_
  unfold Builtin.«object.__getattribute__»
  refine wpAny_bind (wpAny_pure (a := (Value.ref x, [Value.str name t])) ?_)
  dsimp only
  refine wpAny_bind (wpAny_pure (a := name) ?_)
  refine wpAny_bind (T.at (wpAny_bind (LF.at ?_)))
  dsimp only
  refine wpAny_pure ?_
  exact handed_on hv' h
end
end L2

/-! EXCEPTIONS over the hand layer: own error classes, raised with arguments that raise nothing, carried through defs, taken in a try of one call. -/
namespace L2
open PySem PySem.Spec PyProof.Rows

section
variable {P : Program} {w : World} {H : Hp} {h h' : Heap} {a : Addr} {o : HO}
theorem ObjOk.obj (x : ObjOk P w H h a o) : ∃ u, h.get? a = some u := by
  cases o with
  | lst xs => obtain ⟨_, _, _, _, e⟩ := x; exact ⟨_, e⟩
  | tup xs => obtain ⟨_, _, _, ob, e, _⟩ := x; exact ⟨_, e⟩
  | dK kvs => obtain ⟨_, _, _, _, o, _, _, e, _⟩ := x; exact ⟨_, e⟩
  | dT kvs => obtain ⟨_, _, _, _, o, _, _, e, _⟩ := x; exact ⟨_, e⟩
  | set S n => obtain ⟨o, _, _, _, e, _⟩ := x; exact ⟨_, e⟩
  | ins C dx fs => obtain ⟨_, _, _, e, _⟩ := x; exact ⟨_, e⟩
  | own y => exact x
  | xd fs => obtain ⟨_, ⟨_, _, _, e, _⟩, _⟩ := x; exact ⟨_, e⟩
  | rng lo hi => obtain ⟨_, _, _, e⟩ := x; exact ⟨_, e⟩
  | frz ob u => obtain ⟨e, _⟩ := x; exact ⟨_, e⟩
  | tbl ps => exact ⟨_, (show h.get? a = some _ from x)⟩
  | met f y => exact ⟨_, (show h.get? a = some _ from x)⟩
  | ext φ => obtain ⟨_, e, _⟩ := x; exact e
theorem HOk.obj (x : HOk P w H h) (e : H a = some o) : ∃ u, h.get? a = some u := (x a o e).obj
theorem HOk.none_of (x : HOk P w H h) (e : h.get? a = none) : H a = none := by
  cases q : H a with
  | none => rfl
  | some u =>
    obtain ⟨v, z⟩ := x.obj q
    rw [e] at z; cases z
theorem HOk.into (x : HOk P w H h) (k : ∀ b u, H b ≠ none → h.get? b = some u → h'.get? b = some u) : HOk P w H h' := fun a o e =>
  (x a o e).stay (fun b u hb q => k b u (by
    rcases hb with rfl | hb
    · rw [e]; simp
    · rw [hb]; simp) q) (fun _ q => q) fun _ _ q => q
end

/-- an exception of the class cls flies at x; B: what stands fast -/
structure Lie (P : Program) (w : World) (outer : List Env) (H : Hp) (h : Heap) (x : Addr) (cls a0 : Value) (H' : Hp) (B h' : Heap) : Prop where
  un : Un (frs outer) [] H H' h h'
  hok : HOk P w H' h'
  fly : Heap.FlyingW B outer x cls a0 h'
  nx : H' x = none
  T : ∀ b u, H' b ≠ none → h'.get? b = some u → B.get? b = some u
  U : ∀ b o, h.get? b = some o → H b = none → b ∉ frs outer → B.get? b = some o
  V : ∀ b o, h.get? b = some o → b ∉ frs outer → ∃ o', B.get? b = some o'
/-- how an exception lies behind a call -/
def CXW (P : Program) (w : World) : CXT := fun outer H s E e s' =>
  ∃ (x : Addr) (cls a0 : Value) (od : Option Addr) (H' : Hp) (B : Heap), e = .ref x ∧ s'.os = s.os ∧ AllBare s'.gens ∧ Lie P w outer H s.heap x cls a0 H' B s'.heap ∧ DictAt x od s'.heap ∧ E cls od H'
/-- an exception of the class at C, at x, with its dict; fr: it has not flown yet -/
def excO (x C : Addr) (od : Option Addr) (fr : Bool) : HO := .ext fun h => ∃ o vs, h.get? x = some o ∧ o.cls = .ref C ∧ o.dict = od ∧ o.data = .fields vs ∧ (fr = true → vs[1]? = some .none ∧ ∃ a0, vs[0]? = some a0)
theorem excO_ok {P : Program} {w : World} {H : Hp} {h : Heap} {x C : Addr} {od : Option Addr} {fr : Bool} (e : ∃ o vs, h.get? x = some o ∧ o.cls = .ref C ∧ o.dict = od ∧ o.data = .fields vs ∧ (fr = true → vs[1]? = some .none ∧ ∃ a0, vs[0]? = some a0)) : ObjOk P w H h x (excO x C od fr) := by
  obtain ⟨o, vs, a, b⟩ := e
  exact ⟨⟨o, vs, a, b⟩, ⟨o, a⟩, fun h1 h2 ⟨o', vs', a', b'⟩ k => ⟨o', vs', k o' a', b'⟩⟩
/-- what is no more tracked -/
def del (H : Hp) (x : Addr) : Hp := fun b => if b = x then none else H b
theorem del_same {H : Hp} {x : Addr} : del H x x = none := by unfold del; rw [if_pos rfl]
theorem del_ne {H : Hp} {x b : Addr} (h : b ≠ x) : del H x b = H b := by unfold del; rw [if_neg h]

/-- the frames: there, untracked, no records -/
def FrsOk (outer : List Env) (H : Hp) (h : Heap) : Prop := ∀ b ∈ frs outer, H b = none ∧ ∃ o, h.get? b = some o ∧ ∀ vs, o.data ≠ .fields vs

section
variable {P : Program} {w : World} {outer : List Env} {H H' : Hp} {h h1 h2 B : Heap} {x : Addr} {cls a0 : Value}
theorem Lie.turn (L : Lie P w outer H h x cls a0 H' B h1) (up : h1.UpToSlots h2) (fl : Heap.FlyingW B outer x cls a0 h2) (ff : FrsOk outer H h) : Lie P w outer H h x cls a0 H' B h2 := by
  have slot : ∀ b o, h.get? b = some o → H b = none → b ∈ frs outer → ∃ sl, h2.get? b = some { o with slots := sl } := fun b o e n hb => by
    obtain ⟨sl, e1⟩ := L.un.slot b o e n hb (by simp)
    obtain ⟨_, o', e', nf⟩ := ff b hb
    rw [e] at e'; cases e'
    obtain ⟨sl', e2⟩ := up b _ e1 nf
    exact ⟨sl', e2⟩
  refine ⟨⟨fun b o e n hb _ => fl.1 b o (L.U b o e n hb), fun b o e n hb _ => slot b o e n hb, L.un.free, fun b o e _ => ?_, L.un.tups, L.un.frzs, L.un.tbls⟩,
    L.hok.into fun b u hb q => fl.1 b u (L.T b u hb q), fl, L.nx, fun b u hb q => ?_, L.U, L.V⟩
  · by_cases hb : b ∈ frs outer
    · obtain ⟨sl, z⟩ := slot b o e (ff b hb).1 hb
      exact ⟨_, z⟩
    · obtain ⟨o', z⟩ := L.V b o e hb
      exact ⟨o', fl.1 b o' z⟩
  · cases e : H' b with
    | none => exact absurd e hb
    | some o =>
      obtain ⟨v, z⟩ := L.hok.obj e
      have t := L.T b v hb z
      have := fl.1 b v t
      rw [q] at this; cases this
      exact t
end

section
variable {X : Cx} {pins : List (Addr × Obj)} {σ : St} {H : Hp} {s : Shared}
theorem Inv.frsOk (I : Inv X pins σ H s) : FrsOk X.stack H s.heap := fun b hb => ⟨I.stkFree b hb, by
  obtain ⟨_, o, ho, nf⟩ := I.stack.mem hb
  exact ⟨o, ho, nf⟩⟩
/-- a def's own frame -/
structure OwnFrame (X : Cx) : Prop where
  stk : X.stack = X.env :: X.outer
  fr : X.env.frame = some X.env.locals
  ex : X.ex = []
theorem OwnFrame.frs (O : OwnFrame X) : frs X.stack = X.env.locals :: frs X.outer := by
  rw [O.stk]; unfold L2.frs; rw [List.filterMap_cons, O.fr]
theorem Inv.outFrs (I : Inv X pins σ H s) (O : OwnFrame X) {b : Addr} {o : Obj} (e : X.s₀.heap.get? b = some o) (hb : b ∉ frs X.outer) : b ∉ frs X.stack := fun z => by
  rw [O.frs] at z
  rcases List.mem_cons.mp z with z | z
  · exact absurd (Nat.lt_of_lt_of_le (Heap.lt_size e) I.ok.above) (by rw [z]; exact Nat.lt_irrefl _)
  · exact hb z
theorem Inv.frsOk₀ (I : Inv X pins σ H s) : FrsOk X.outer X.H₀ X.s₀.heap := fun b hb => ⟨I.ok.frf b hb, by
  obtain ⟨_, o, ho, nf⟩ := I.ok.funs.mem hb
  exact ⟨o, ho, nf⟩⟩

/-- a fresh exception leaves the def -/
theorem leave_made0 {h2 : Heap} {x : Addr} {cls : Value} {args : List Value} {M : Model} {E : Value → Shared → Prop} {Q : Unit → Shared → Prop} (I : Inv X pins σ H s) (O : OwnFrame X) (hx : Heap.MadeExcOf s.heap h2 x cls args)
    (hQ : ∀ h' a0 B, Lie X.prog X.w X.outer X.H₀ X.s₀.heap x cls a0 H B h' → Q () { s with heap := h' }) : wpAny M X.A (leaving X.env (.ref x)) Q E { s with heap := h2 } := by
  have hin : ∀ env ∈ X.stack, ∀ a, env.frame = some a → a ∈ frs X.stack := fun env he a ha => List.mem_filterMap.mpr ⟨env, he, ha⟩
  have ff : s.heap.FunFrames (PySem.W.hideAll s.heap (frs X.stack)) X.stack := PySem.W.funFrames_hide I.stack hin
  have hfr : X.A.frames = some (X.env :: X.outer) := by rw [I.ok.frames, O.stk]
  rw [O.stk] at ff
  have ex0 : ∀ b : Addr, b ∉ X.ex := fun b => by rw [O.ex]; simp
  refine wpAny_leaves_madeW (base := PySem.W.hideAll s.heap (frs X.stack)) (h := s.heap) (s := { s with heap := h2 }) hfr O.fr (fun b o e => PySem.W.of_hideAll _ e) (by rw [← O.stk] at ff ⊢; exact ff) hx fun h' t fl _ _ up => ?_
  refine hQ h' (.ref t) (PySem.W.hideAll s.heap (frs X.stack)) ?_
  have U : ∀ b o, X.s₀.heap.get? b = some o → X.H₀ b = none → b ∉ frs X.outer → (PySem.W.hideAll s.heap (frs X.stack)).get? b = some o := fun b o e n hb =>
    PySem.W.hideAll_get _ (I.base.keep b o e n hb (ex0 b)) (I.outFrs O e hb)
  have V : ∀ b o, X.s₀.heap.get? b = some o → b ∉ frs X.outer → ∃ o', (PySem.W.hideAll s.heap (frs X.stack)).get? b = some o' := fun b o e hb => by
    obtain ⟨o', z⟩ := I.base.there b o e (ex0 b)
    exact ⟨o', PySem.W.hideAll_get _ z (I.outFrs O e hb)⟩
  have T0 : ∀ b u, H b ≠ none → s.heap.get? b = some u → (PySem.W.hideAll s.heap (frs X.stack)).get? b = some u := fun b u hb e =>
    PySem.W.hideAll_get _ e fun z => hb (I.stkFree b z)
  have slot : ∀ b o, X.s₀.heap.get? b = some o → X.H₀ b = none → b ∈ frs X.outer → ∃ sl, h'.get? b = some { o with slots := sl } := fun b o e n hb => by
    obtain ⟨sl, e1⟩ := I.base.slot b o e n hb (ex0 b)
    obtain ⟨_, o', e', nf⟩ := I.frsOk₀ b hb
    rw [e] at e'; cases e'
    obtain ⟨sl', e2⟩ := up b _ (hx.keeps b _ e1) nf
    exact ⟨sl', e2⟩
  refine ⟨⟨fun b o e n hb _ => fl.1 b o (U b o e n hb), fun b o e n hb _ => slot b o e n hb, fun b o e n _ => I.base.free b o e n (ex0 b), fun b o e _ => ?_, I.base.tups, I.base.frzs, I.base.tbls⟩,
    I.hok.into fun b u hb q => fl.1 b u (T0 b u hb q), fl, I.hok.none_of hx.new, fun b u hb q => ?_, U, V⟩
  · by_cases hb : b ∈ frs X.outer
    · obtain ⟨sl, z⟩ := slot b o e (I.ok.frf b hb) hb
      exact ⟨_, z⟩
    · obtain ⟨o', z⟩ := V b o e hb
      exact ⟨o', fl.1 b o' z⟩
  · cases e : H b with
    | none => exact absurd e hb
    | some o =>
      obtain ⟨v, z⟩ := I.hok.obj e
      have t := T0 b v hb z
      have := fl.1 b v t
      rw [q] at this; cases this
      exact t

theorem leave_made {h2 : Heap} {x : Addr} {cls : Value} {args : List Value} {M : Model} {E : Value → Shared → Prop} {Q : Unit → Shared → Prop} (I : Inv X pins σ H s) (O : OwnFrame X) (hx : Heap.MadeExcOf s.heap h2 x cls args)
    (hQ : ∀ h' a0 B, Lie X.prog X.w X.outer X.H₀ X.s₀.heap x cls a0 H B h' → DictAt x none h' → Q () { s with heap := h' }) : wpAny M X.A (leaving X.env (.ref x)) Q E { s with heap := h2 } := by
  obtain ⟨t, ht, _⟩ := hx.there
  refine wpAny_mono (KD.any (KD.leaving (e := x) (d := none) X.env (.ref x)) (s := { s with heap := h2 }) ⟨_, ht, rfl⟩ (leave_made0 (Q := fun _ s' => ∃ h' a0 B, s' = { s with heap := h' } ∧ Lie X.prog X.w X.outer X.H₀ X.s₀.heap x cls a0 H B h') I O hx fun h' a0 B L => ⟨h', a0, B, rfl, L⟩)) (fun _ s' ⟨⟨h', a0, B, e, L⟩, hd⟩ => ?_) fun _ _ z => z
  subst e
  exact hQ h' a0 B L hd
/-- an exception that is tracked, new since the def's begin, leaves the def -/
theorem leave_raised {x C : Addr} {od : Option Addr} {M : Model} {E : Value → Shared → Prop} {Q : Unit → Shared → Prop} (I : Inv X pins σ H s) (O : OwnFrame X) (hx : H x = some (excO x C od true)) (hf : X.s₀.heap.get? x = none)
    (hQ : ∀ h' a0 B, Lie X.prog X.w X.outer X.H₀ X.s₀.heap x (.ref C) a0 (del H x) B h' → DictAt x od h' → Q () { s with heap := h' }) : wpAny M X.A (leaving X.env (.ref x)) Q E s := by
  obtain ⟨⟨oe, vs, e1, e2, e3, e4, e5⟩, _, _⟩ := (show ObjOk X.prog X.w H s.heap x (excO x C od true) from I.hok x _ hx)
  obtain ⟨v1, a0, v0⟩ := e5 rfl
  have xn : x ∉ frs X.stack := fun z => by have := I.stkFree x z; rw [hx] at this; cases this
  have ex0 : ∀ b : Addr, b ∉ X.ex := fun b => by rw [O.ex]; simp
  have hin : ∀ env ∈ X.stack, ∀ a, env.frame = some a → a ∈ x :: frs X.stack := fun env he a ha => List.mem_cons_of_mem _ (List.mem_filterMap.mpr ⟨env, he, ha⟩)
  have ff : s.heap.FunFrames (PySem.W.hideAll s.heap (x :: frs X.stack)) X.stack := PySem.W.funFrames_hide I.stack hin
  have hfr : X.A.frames = some (X.env :: X.outer) := by rw [I.ok.frames, O.stk]
  have bx : (PySem.W.hideAll s.heap (x :: frs X.stack)).get? x = none := PySem.W.hideAll_none _ (List.mem_cons_self ..)
  refine wpAny_mono (KD.any (KD.leaving (e := x) (d := od) X.env (.ref x)) ⟨_, e1, e3⟩ (wpAny_leaving_firstW (E := E) (Q := fun _ s' => ∃ h', s' = { s with heap := h' } ∧ (PySem.W.hideAll s.heap (x :: frs X.stack)).LeftW (X.env :: X.outer) x oe.cls a0 s.heap h') (base := PySem.W.hideAll s.heap (x :: frs X.stack)) hfr (by rw [← O.stk]; exact ff) O.fr e1 (fun b o q => PySem.W.of_hideAll _ q) bx e4 v1 v0 fun h' L => ⟨h', rfl, L⟩)) (fun _ s' ⟨⟨h', e, L⟩, hd⟩ => ?_) fun _ _ z => z
  subst e
  obtain ⟨st, fu, tr, up⟩ := L
  rw [e2] at tr
  have fl : (PySem.W.hideAll s.heap (x :: frs X.stack)).FlyingW X.outer x (.ref C) a0 h' := ⟨st, bx, by rw [Heap.FunFrames.eq_2] at fu; exact fu.2.2, tr⟩
  refine hQ h' a0 (PySem.W.hideAll s.heap (x :: frs X.stack)) ?_ hd
  have nx0 : ∀ b o, X.s₀.heap.get? b = some o → b ≠ x := fun b o e z => by rw [z, hf] at e; cases e
  have U : ∀ b o, X.s₀.heap.get? b = some o → X.H₀ b = none → b ∉ frs X.outer → (PySem.W.hideAll s.heap (x :: frs X.stack)).get? b = some o := fun b o e n hb =>
    PySem.W.hideAll_get _ (I.base.keep b o e n hb (ex0 b)) fun z => by
      rcases List.mem_cons.mp z with z | z
      · exact nx0 b o e z
      · exact I.outFrs O e hb z
  have V : ∀ b o, X.s₀.heap.get? b = some o → b ∉ frs X.outer → ∃ o', (PySem.W.hideAll s.heap (x :: frs X.stack)).get? b = some o' := fun b o e hb => by
    obtain ⟨o', z⟩ := I.base.there b o e (ex0 b)
    refine ⟨o', PySem.W.hideAll_get _ z fun z => ?_⟩
    rcases List.mem_cons.mp z with z | z
    · exact nx0 b o e z
    · exact I.outFrs O e hb z
  have T0 : ∀ b u, del H x b ≠ none → s.heap.get? b = some u → (PySem.W.hideAll s.heap (x :: frs X.stack)).get? b = some u := fun b u hb e => by
    have bne : b ≠ x := fun z => hb (by rw [z]; exact del_same)
    rw [del_ne bne] at hb
    refine PySem.W.hideAll_get _ e fun z => ?_
    rcases List.mem_cons.mp z with z | z
    · exact bne z
    · exact hb (I.stkFree b z)
  have slot : ∀ b o, X.s₀.heap.get? b = some o → X.H₀ b = none → b ∈ frs X.outer → ∃ sl, h'.get? b = some { o with slots := sl } := fun b o e n hb => by
    obtain ⟨sl, e1⟩ := I.base.slot b o e n hb (ex0 b)
    obtain ⟨_, o', e', nf⟩ := I.frsOk₀ b hb
    rw [e] at e'; cases e'
    obtain ⟨sl', e2⟩ := up b _ e1 nf
    exact ⟨sl', e2⟩
  have nt : ∀ b u, H b = some u → (∀ φ, u ≠ .ext φ) → b ≠ x := fun b u q nu z => by
    rw [z, hx] at q
    exact nu _ (Option.some.inj q).symm
  have hok0 : HOk X.prog X.w (del H x) s.heap := fun b u q => by
    by_cases hb : b = x
    · rw [hb, del_same] at q; cases q
    · rw [del_ne hb] at q
      exact (I.hok b u q).stay (fun _ _ _ q => q) (fun c q => by rw [del_ne (nt c _ q fun φ z => nomatch z)]; exact q) fun c xs q => by rw [del_ne (nt c _ q fun φ z => nomatch z)]; exact q
  refine ⟨⟨fun b o e n hb _ => fl.1 b o (U b o e n hb), fun b o e n hb _ => slot b o e n hb, fun b o e n _ => by rw [del_ne (nx0 b o e)]; exact I.base.free b o e n (ex0 b), fun b o e _ => ?_, fun b xs q => ?_, fun b o u q => ?_, fun b ps q => ?_⟩,
    hok0.into fun b u hb q => fl.1 b u (T0 b u hb q), fl, del_same, fun b u hb q => ?_, U, V⟩
  · by_cases hb : b ∈ frs X.outer
    · obtain ⟨sl, z⟩ := slot b o e (I.ok.frf b hb) hb
      exact ⟨_, z⟩
    · obtain ⟨o', z⟩ := V b o e hb
      exact ⟨o', fl.1 b o' z⟩
  · have z := I.base.tups b xs q
    rw [del_ne (nt b _ z fun φ z => nomatch z)]; exact z
  · have z := I.base.frzs b o u q
    rw [del_ne (nt b _ z fun φ z => nomatch z)]; exact z
  · obtain ⟨m, z⟩ := I.base.tbls b ps q
    exact ⟨m, by rw [del_ne (nt b _ z fun φ z => nomatch z)]; exact z⟩
  · cases e : del H x b with
    | none => exact absurd e hb
    | some o =>
      obtain ⟨v, z⟩ := hok0.obj e
      have t := T0 b v hb z
      have := fl.1 b v t
      rw [q] at this; cases this
      exact t

/-- an exception of a callee leaves the def -/
theorem leave_on0 {s' : Shared} {x : Addr} {cls a0 : Value} {H2 : Hp} {B : Heap} {M : Model} {E : Value → Shared → Prop} {Q : Unit → Shared → Prop} (I : Inv X pins σ H s) (O : OwnFrame X) (L : Lie X.prog X.w X.stack H s.heap x cls a0 H2 B s'.heap)
    (hQ : ∀ h', Lie X.prog X.w X.outer X.H₀ X.s₀.heap x cls a0 H2 B h' → Q () { s' with heap := h' }) : wpAny M X.A (leaving X.env (.ref x)) Q E s' := by
  have hfr : X.A.frames = some (X.env :: X.outer) := by rw [I.ok.frames, O.stk]
  have ex0 : ∀ b : Addr, b ∉ X.ex := fun b => by rw [O.ex]; simp
  have fly := L.fly
  rw [O.stk] at fly
  refine wpAny_leaves_onW hfr O.fr fly fun h' fl up => hQ h' ?_
  have U : ∀ b o, X.s₀.heap.get? b = some o → X.H₀ b = none → b ∉ frs X.outer → B.get? b = some o := fun b o e n hb =>
    L.U b o (I.base.keep b o e n hb (ex0 b)) (I.base.free b o e n (ex0 b)) (I.outFrs O e hb)
  have V : ∀ b o, X.s₀.heap.get? b = some o → b ∉ frs X.outer → ∃ o', B.get? b = some o' := fun b o e hb => by
    obtain ⟨o', z⟩ := I.base.there b o e (ex0 b)
    exact L.V b o' z (I.outFrs O e hb)
  have sub : ∀ b ∈ frs X.outer, b ∈ frs X.stack := fun b hb => by rw [O.frs]; exact List.mem_cons_of_mem _ hb
  have slot : ∀ b o, X.s₀.heap.get? b = some o → X.H₀ b = none → b ∈ frs X.outer → ∃ sl, h'.get? b = some { o with slots := sl } := fun b o e n hb => by
    obtain ⟨sl, e1⟩ := I.base.slot b o e n hb (ex0 b)
    obtain ⟨sl2, e2⟩ := L.un.slot b _ e1 (I.base.free b o e n (ex0 b)) (sub b hb) (by simp)
    obtain ⟨_, o', e', nf⟩ := I.frsOk₀ b hb
    rw [e] at e'; cases e'
    obtain ⟨sl', e3⟩ := up b _ e2 nf
    exact ⟨sl', e3⟩
  refine ⟨⟨fun b o e n hb _ => fl.1 b o (U b o e n hb), fun b o e n hb _ => slot b o e n hb, fun b o e n _ => ?_, fun b o e _ => ?_, fun b xs e => L.un.tups b xs (I.base.tups b xs e), fun b o u e => L.un.frzs b o u (I.base.frzs b o u e), fun b ps e => ?_⟩,
    L.hok.into fun b u hb q => fl.1 b u (L.T b u hb q), fl, L.nx, fun b u hb q => ?_, U, V⟩
  · obtain ⟨o', e1⟩ := I.base.there b o e (ex0 b)
    exact L.un.free b o' e1 (I.base.free b o e n (ex0 b)) (by simp)
  · by_cases hb : b ∈ frs X.outer
    · obtain ⟨sl, z⟩ := slot b o e (I.ok.frf b hb) hb
      exact ⟨_, z⟩
    · obtain ⟨o', z⟩ := V b o e hb
      exact ⟨o', fl.1 b o' z⟩
  · obtain ⟨m1, e1⟩ := I.base.tbls b ps e
    obtain ⟨m2, e2⟩ := L.un.tbls b _ e1
    exact ⟨m1 ++ m2, by rw [e2, Array.append_assoc]⟩
  · cases e : H2 b with
    | none => exact absurd e hb
    | some o =>
      obtain ⟨v, z⟩ := L.hok.obj e
      have t := L.T b v hb z
      have := fl.1 b v t
      rw [q] at this; cases this
      exact t
theorem leave_on {s' : Shared} {x : Addr} {cls a0 : Value} {od : Option Addr} {H2 : Hp} {B : Heap} {M : Model} {E : Value → Shared → Prop} {Q : Unit → Shared → Prop} (I : Inv X pins σ H s) (O : OwnFrame X) (L : Lie X.prog X.w X.stack H s.heap x cls a0 H2 B s'.heap) (hd : DictAt x od s'.heap)
    (hQ : ∀ h', Lie X.prog X.w X.outer X.H₀ X.s₀.heap x cls a0 H2 B h' → DictAt x od h' → Q () { s' with heap := h' }) : wpAny M X.A (leaving X.env (.ref x)) Q E s' := by
  refine wpAny_mono (KD.any (KD.leaving (e := x) (d := od) X.env (.ref x)) hd (leave_on0 (Q := fun _ s2 => ∃ h', s2 = { s' with heap := h' } ∧ Lie X.prog X.w X.outer X.H₀ X.s₀.heap x cls a0 H2 B h') I O L fun h' L => ⟨h', rfl, L⟩)) (fun _ s2 ⟨⟨h', e, L⟩, hd⟩ => ?_) fun _ _ z => z
  subst e
  exact hQ h' L hd
end

/-! ### raise -/
/-- what a body does with an exception: it is made here, it is raised here, or it comes from a callee -/
structure Throws (X : Cx) (W : XK) : Prop where
  made : ∀ (pins : List (Addr × Obj)) (σ : St) (H : Hp) (s : Shared) (h2 : Heap) (x : Addr) (cls : Value) (args : List Value), Inv X pins σ H s → Heap.MadeExcOf s.heap h2 x cls args → W cls none H → X.xe (.ref x) { s with heap := h2 }
  raised : ∀ (pins : List (Addr × Obj)) (σ : St) (H : Hp) (s : Shared) (x C : Addr) (od : Option Addr), Inv X pins σ H s → H x = some (excO x C od true) → X.s₀.heap.get? x = none → W (.ref C) od (del H x) → X.xe (.ref x) s
  pass : Passes (CXW X.prog X.w) X W
theorem own_cx (CX : CXT) (P : Program) (w : World) (K : PySem.W.Frag) (mg : Str → Option Value) (base : Heap) (N : List Str) (qual : Str) (scope : Scope) (f : Addr) (cd : Value) (A : Around) (outer : List Env) (s : Shared) (H : Hp) (E : XK) :
    OwnFrame (cxOf CX P w K mg base N qual scope f cd A outer s H E) := ⟨rfl, rfl, rfl⟩
theorem throws_cx {P : Program} {w : World} {K : PySem.W.Frag} {mg : Str → Option Value} {base : Heap} {N : List Str} {qual : Str} {scope : Scope} {f : Addr} {cd : Value} {A : Around} {outer : List Env} {s : Shared} {H : Hp} {E : XK} :
    Throws (cxOf (CXW P w) P w K mg base N qual scope f cd A outer s H E) E where
  made := fun pins σ H1 s1 h2 x cls args I hx hW =>
    leave_made I (own_cx ..) hx fun h' a0 B L hd => ⟨x, cls, a0, none, H1, B, rfl, I.os, I.bare, L, hd, hW⟩
  raised := fun pins σ H1 s1 x C od I hx hf hW =>
    leave_raised I (own_cx ..) hx hf fun h' a0 B L hd => ⟨x, _, a0, od, _, B, rfl, I.os, I.bare, L, hd, hW⟩
  pass := fun pins σ H1 s1 e s' I q => by
    obtain ⟨x, cls, a0, od, H2, B, rfl, os, bare, L, hd, hE⟩ := q
    exact leave_on I (own_cx ..) L hd fun h' L' hd' => ⟨x, cls, a0, od, H2, B, rfl, os.trans I.os, bare, L', hd', hE⟩

/-- an own error class that has no __init__ of its own, under ValueError -/
structure ErrCls (K : PySem.W.Frag) (mg : Str → Option Value) (x : Str) (C : Addr) : Prop where
  mg : mg x = some (.ref C)
  exc : PySem.W.excIn K C [.type "ValueError", .type "Exception", .type "BaseException", .type "object"] "ValueError.__new__" = true
theorem ErrCls.own {K : PySem.W.Frag} {mg : Str → Option Value} {x : Str} {C : Addr} {h : Heap} (c : ErrCls K mg x C) (X : K.In h) : OwnCls x C [.type "ValueError", .type "Exception", .type "BaseException", .type "object"] "ValueError.__new__" mg h := by
  refine ⟨c.mg, ?_⟩
  have q := c.exc
  unfold PySem.W.excIn at q
  split at q
  · rename_i dd cd sl ho
    split at q
    · rename_i C' bm k0 k1 k2 k3 n k5 hm hs
      simp only [Bool.and_eq_true, beq_iff_eq, Bool.not_eq_true'] at q
      obtain ⟨⟨⟨⟨⟨rfl, rfl⟩, hdel⟩, ht⟩, hok⟩, hni⟩ := q
      obtain ⟨nm, bs, mro, ns, qn, hd, sn, sub, ab, col, del⟩ := cd
      dsimp only at hm hdel hok hni
      subst hm hdel
      have hsl : sl = #[k0, k1, k2, k3, some (.builtin "ValueError.__new__"), k5] := by
        obtain ⟨l⟩ := sl
        simp only at hs
        rw [hs]
      subst hsl
      exact ⟨bm, ns, nm, qn, bs, hd, sn, sub, ab, col, dd, k0, k1, k2, k3, k5, _, X _ _ ho, .of_isNs (PySem.W.isNs_of_in X hok), PySem.W.nsMap_none_of_in X hok hni, PySem.W.tail_of_in X ht⟩
    · cases q
  · cases q
section
variable {X : Cx} {x : Str} {C : Addr} {e : Expr} {es : List Expr} {t : TA} {np cpos pos : Pos} {W : XK}
/-- raise C(e, ..) -/
def tRaise (W : XK) (C : Addr) (t : TA) : TS := fun _ σ H => t σ H fun vs H1 => vs.length ≤ sizeLine ∧ W (.ref C) none H1
theorem ps_raise (c : ErrCls X.K X.mg x C) (th : Throws X W) (hc : X.calm = true) (hg : Gl X x) (ha : PA X (e :: es) t) (hdb : (x == ("__debug__" : Str)) = false := by decide)
    (he : starEach (e :: es) X.env = (false, eval e X.env) :: starEach es X.env := by rfl) (hpl : (backTo cpos (starEach es X.env)).any (·.1) = false := by rfl) :
    PS X (.Raise (some (.Call (.Name x np) (e :: es) [] cpos)) none pos) (tRaise W C t) := by
  intro pins s σ H D I h
  obtain ⟨tl, N, nm, q, bs, hdct, sn, sub, ab, col, dd, k0, k1, k2, k3, k5, mN, hC, hN, hni, T⟩ := (c.own I.mod.kin).obj
  refine wpAny_Raise_call_subT (C := C) (nm := nm) (q := q) (N := N) (bs := bs) (bm := tl) (hdct := hdct) (sn := sn) (sub := sub) (ab := ab) (col := col) (dd := dd) (k0 := k0) (k1 := k1) (k2 := k2) (k3 := k3) (k5 := k5)
    PySem.F.excBase_ValueError (mN := mN) (T.hasType PySem.F.excBase_ValueError.hasBase) (I.ok.hd hc) (by rw [he]; show (false || (backTo cpos (starEach es X.env)).any (·.1)) = false; rw [hpl]; rfl) hni (ld_glob I hg c.mg ⟨rfl, ?_⟩ hdb)
  have hA := ha cpos pins s σ H _ I h
  rw [he] at hA ⊢
  refine Calls.evalArgs_plain (wpAny_mono hA (fun us s2 ⟨vs, H1, I1, r, q1, q2⟩ => ?_) fun _ _ y => y)
  exact ⟨rfl, by rw [← r.length]; exact q1, I1.bk _ _ hC, hN.keeps I1.bk, T.keeps I1.bk, fun h' x hm => th.made pins σ H1 s2 h' x _ _ I1 hm q2⟩
end
end L2

/-! Own exceptions with fields: made, written, read, raised. -/
namespace L2
open PySem PySem.Spec PyProof.Rows

structure InitCls (K : PySem.W.Frag) (mg : Str → Option Value) (x : Str) (C B fI : Addr) : Prop where
  mg : mg x = some (.ref C)
  init : PySem.W.findIn K (.ref C) "__init__" = some (some (.ref fI))
  fn : PySem.W.isFn K (.ref fI) = true
  kp : PySem.W.keepIn K (.ref C) = true
  fld : FldCls K C B
section
variable {X : Cx} {pins : List (Addr × Obj)} {σ : St} {H : Hp} {s : Shared}
/-- a new object, wherever it stands, is tracked -/
theorem Inv.newAt {e : Addr} {o : HO} {h' : Heap} {t' : Nat} (I : Inv X pins σ H s) (k : ∀ b u, s.heap.get? b = some u → h'.get? b = some u) (hn : s.heap.get? e = none) (new : ObjOk X.prog X.w (upd H e o) h' e o) :
    Inv X pins σ (upd H e o) { s with heap := h', toks := t' } := by
  have he := I.hok.none_of hn
  have ne : ∀ b u, s.heap.get? b = some u → b ≠ e := fun b u q z => by rw [z, hn] at q; cases q
  refine I.un ⟨fun b o q n _ _ => k b o q, fun b o q n _ _ => ⟨o.slots, k b o q⟩, fun b o q n _ => by rw [upd_ne (ne b o q)]; exact n, fun b o q _ => ⟨o, k b o q⟩, fun b xs q => ?_, fun b o u q => ?_, fun b ps q => ?_⟩ fun b u q => ?_
  · rw [upd_ne (ne_of_none q he)]; exact q
  · rw [upd_ne (ne_of_none q he)]; exact q
  · exact ⟨#[], by rw [upd_ne (ne_of_none q he), Array.append_empty]; exact q⟩
  · by_cases hb : b = e
    · subst hb
      rw [upd_same] at q
      cases q
      exact new
    · rw [upd_ne hb] at q
      exact (I.hok b u q).stay (fun c v _ r => k c v r) (fun c r => by rw [upd_ne (ne_of_none r he)]; exact r) fun c xs r => by rw [upd_ne (ne_of_none r he)]; exact r
end
section
variable {X : Cx} {CX : CXT} {k : Nat} {f C B : Addr} {fd : FuncData} {ps : List Str} {sp : Sp} {dvs : List V} {ds : List Value} {E : XK} {x m : Str} {p pos apos : Pos} {e o : Expr} {es : List Expr} {ta : TE} {t : TA}
/-- C(..): a new exception, then its __init__ -/
def tMakeX (C : Addr) (sp : Sp) (dvs : List V) (E : XK) (t : TA) : TE := fun σ H Q => t σ H fun vs H1 => vs.length ≤ sizeLine ∧ ∀ x, H1 x = none →
  sp (.ref x :: (vs ++ dvs)) (upd H1 x (excO x C none true)) (fun v H2 => v = .non ∧ Q (.ref x) H2) E
theorem pe_makeX (M : InitCls X.K X.mg x C B f) (F : FnOk X.prog X.w X.K X.mg X.base CX k f fd ps sp) (hr : Room (k + 1) X.A) (hg : Gl X x) (hb : Binds X.K fd ps ds) (hd : Vals dvs ds) (hx : Passes CX X E)
    (ha : PA X (e :: es) t) (hdb : (x == ("__debug__" : Str)) = false := by decide) (he : starEach (e :: es) X.env = (false, eval e X.env) :: starEach es X.env := by rfl) (hpl : (backTo pos (starEach es X.env)).any (·.1) = false := by rfl) :
    PE X (.Call (.Name x p) (e :: es) [] pos) (tMakeX C sp dvs E t) := by
  intro pins s σ H Q I h
  refine wpAny_Call_Name_kw (ld_glob I hg M.mg ?_ hdb)
  refine PySem.W.callWith_K (h₀ := X.base) I.ok.mod.kin M.kp (thn (ha pos pins s σ H _ I h) fun us s1 ⟨vs, H1, I1, r, hl1, q⟩ => ⟨I1.kIn, ?_⟩) he hpl
  refine call_init I1.kIn M.fld.ini M.init M.fn (by show us.length ≤ sizeLine; rw [← r.length]; exact hl1) fun h' y hm => ?_
  have hy : H1 y = none := I1.hok.none_of hm.new
  have hq := q y hy
  obtain ⟨tt, ht, _⟩ := hm.there
  have I2 : Inv X pins σ (upd H1 y (excO y C none true)) { s1 with heap := h' } := I1.newAt hm.keeps hm.new (excO_ok ⟨_, _, ht, rfl, rfl, rfl, fun _ => ⟨rfl, _, rfl⟩⟩)
  have r2 : Vals (V.ref y :: (vs ++ dvs)) (Value.ref y :: (us ++ ds)) := .cons rfl (r.append hd)
  have hl : (Value.ref y :: us ++ ds).length = ps.length := by
    have e := r2.length
    rw [F.len _ _ _ _ hq] at e
    exact e.symm
  refine wpAny_call (codeAny_mono (F.run _ X.stack _ _ ⟨Value.ref y :: us, []⟩ (Value.ref y :: (us ++ ds)) _ _ E (hr.make C us []) (I2.env0.make C us []) (hb _ (Value.ref y :: us) I2.kIn hl) r2 hq) fun r s' hq' => ?_)
  cases r with
  | error e => exact hx pins σ _ _ e s' I2 hq'
  | ok fl =>
    cases fl with
    | ret u =>
      obtain ⟨v, H', I3, rv, ev, q3⟩ := I2.after hq'
      subst ev
      exact ⟨rv, ⟨V.ref y, H', I3, rfl, q3⟩⟩
    | next => exact False.elim hq'
    | brk => exact False.elim hq'
    | cont => exact False.elim hq'
end

/-! ### the fields -/
/-- the dict of an exception -/
def xdO (d : Addr) (fs : List (Str × V)) : HO := .ext fun h => ∃ mA, h.Ns1 d mA ∧ (∀ f, RelO (fs.lookup f) (mA f)) ∧ PySem.Within mA (fs.map (·.1))
theorem xdO_ok {P : Program} {w : World} {H : Hp} {h : Heap} {d : Addr} {fs : List (Str × V)} (e : ∃ mA, h.Ns1 d mA ∧ (∀ f, RelO (fs.lookup f) (mA f)) ∧ PySem.Within mA (fs.map (·.1))) : ObjOk P w H h d (xdO d fs) := by
  refine ⟨e, ?_, fun h1 h2 ⟨mA, ⟨od, es, ep, e1, c⟩, r⟩ k => ⟨mA, ⟨od, es, ep, k _ e1, c⟩, r⟩⟩
  obtain ⟨mA, ⟨od, es, ep, e1, _⟩, _⟩ := e
  exact ⟨od, e1⟩
section
variable {X : Cx} {pins : List (Addr × Obj)} {σ : St} {H : Hp} {s : Shared} {x d C B : Addr} {fs : List (Str × V)} {f : Str} {v : V} {fr : Bool} {A : Around} {E : Value → Shared → Prop}
theorem Inv.writeNew {φ : Heap → Prop} {o1 o2 : HO} {h' : Heap} {t' : Nat} (I : Inv X pins σ H s) (hx : H x = some (.ext φ)) (k : ∀ b u, b ≠ x → s.heap.get? b = some u → h'.get? b = some u) (hx' : ∃ u, h'.get? x = some u) (hd : s.heap.get? d = none)
    (n1 : ObjOk X.prog X.w (upd (upd H x o1) d o2) h' x o1) (n2 : ObjOk X.prog X.w (upd (upd H x o1) d o2) h' d o2) : Inv X pins σ (upd (upd H x o1) d o2) { s with heap := h', toks := t' } := by
  have he := I.hok.none_of hd
  have ne : ∀ b u, s.heap.get? b = some u → b ≠ d := fun b u q z => by rw [z, hd] at q; cases q
  have nt : ∀ b u, H b = some u → (∀ φ, u ≠ .ext φ) → b ≠ x := fun b u q nu z => by
    rw [z, hx] at q
    exact nu _ (Option.some.inj q).symm
  have nx : ∀ b, H b = none → b ≠ x := fun b q z => by rw [z, hx] at q; cases q
  have up : ∀ b u, H b = some u → (∀ φ, u ≠ .ext φ) → upd (upd H x o1) d o2 b = some u := fun b u q nu => by rw [upd_ne (ne_of_none q he), upd_ne (nt b u q nu)]; exact q
  refine I.un ⟨fun b o q n _ _ => k b o (nx b n) q, fun b o q n _ _ => ⟨o.slots, k b o (nx b n) q⟩, fun b o q n _ => by rw [upd_ne (ne b o q), upd_ne (nx b n)]; exact n, fun b o q _ => ?_, fun b xs q => up b _ q (fun φ z => nomatch z), fun b o u q => up b _ q (fun φ z => nomatch z), fun b ps q => ⟨#[], by rw [Array.append_empty]; exact up b _ q (fun φ z => nomatch z)⟩⟩ fun b u q => ?_
  · by_cases hb : b = x
    · rw [hb]; exact hx'
    · exact ⟨o, k b o hb q⟩
  · by_cases hb : b = d
    · subst hb
      rw [upd_same] at q
      cases q
      exact n2
    · rw [upd_ne hb] at q
      by_cases hbx : b = x
      · subst hbx
        rw [upd_same] at q
        cases q
        exact n1
      · rw [upd_ne hbx] at q
        refine (I.hok b u q).stay (fun c v hc r => k c v ?_ r) (fun c r => up c _ r (fun φ z => nomatch z)) fun c xs r => up c _ r (fun φ z => nomatch z)
        rcases hc with rfl | hc
        · exact hbx
        · exact nt c _ hc (fun φ z => nomatch z)
theorem exc_get (I : Inv X pins σ H s) {od : Option Addr} (e : H x = some (excO x C od fr)) : ∃ vs sl, s.heap.get? x = some ⟨.ref C, od, .fields vs, sl⟩ ∧ (fr = true → vs[1]? = some .none ∧ ∃ a0, vs[0]? = some a0) := by
  obtain ⟨⟨o, vs, e1, e2, e3, e4, e5⟩, _, _⟩ := (show ObjOk X.prog X.w H s.heap x (excO x C od fr) from I.hok x _ e)
  obtain ⟨oc, od', odt, sl⟩ := o
  dsimp only at e2 e3 e4
  subst e2 e3 e4
  exact ⟨vs, sl, e1, e5⟩
theorem xd_get (I : Inv X pins σ H s) (e : H d = some (xdO d fs)) : ∃ mA, s.heap.Ns1 d mA ∧ (∀ f, RelO (fs.lookup f) (mA f)) ∧ PySem.Within mA (fs.map (·.1)) :=
  (show ObjOk X.prog X.w H s.heap d (xdO d fs) from I.hok d _ e).1
theorem getx_ok {b : Bool} {Q : Value → Shared → Prop} (I : Inv X pins σ H s) (e : H x = some (excO x C (some d) fr)) (ed : H d = some (xdO d fs)) (c : FldCls X.K C B) (n : NoAttr X.K C f) (l : fs.lookup f = some v)
    (h : ∀ u s', Inv X pins σ H s' → RelV v u → Q u s') : wpAny (model X.prog X.w) A (getAttr (.ref x) f b) Q E s := by
  obtain ⟨vs, sl, hx, _⟩ := exc_get I e
  obtain ⟨mA, hN, r, _⟩ := xd_get I ed
  obtain ⟨u, hu, ru⟩ := RelO.some_of (v := v) (o := mA f) (by rw [← l]; exact r f)
  exact get_exc I.kIn c hx hN n hu (handed_of ru) (h u _ (I.tok _) ru)
theorem within_put {mA : Str → Option Value} {y : V} {u : Value} (wi : PySem.Within mA (fs.map (·.1))) (r : ∀ f, RelO (fs.lookup f) (mA f)) (ry : RelV y u) :
    (∀ g, RelO ((putF f y fs).lookup g) (if g = f then some u else mA g)) ∧ PySem.Within (fun g => if g = f then some u else mA g) ((putF f y fs).map (·.1)) := by
  refine ⟨fun g => ?_, fun g hg => ?_⟩
  · rw [lookup_putF]
    by_cases q : g = f
    · rw [if_pos q, if_pos q]; exact ry
    · rw [if_neg q, if_neg q]; exact r g
  · by_cases q : g = f
    · rw [q]; exact (keys_putF f y fs).1
    · refine (keys_putF f y fs).2 g (wi g fun z => hg ?_)
      show (if g = f then some u else mA g) = none
      rw [if_neg q]; exact z
theorem setx_ok {y : V} {u : Value} {Q : Unit → Shared → Prop} (I : Inv X pins σ H s) (e : H x = some (excO x C (some d) fr)) (ed : H d = some (xdO d fs)) (c : FldCls X.K C B) (n : NoAttr X.K C f) (hl : fs.length < 1000) (ry : RelV y u)
    (h : ∀ s', Inv X pins σ (upd H d (xdO d (putF f y fs))) s' → Q () s') : wpAny (model X.prog X.w) A (setAttr (.ref x) f u) Q E s := by
  obtain ⟨vs, sl, hx, _⟩ := exc_get I e
  obtain ⟨mA, hN, r, wi⟩ := xd_get I ed
  have ne : d ≠ x := fun z => by
    obtain ⟨o, es, ep, e1, e2, _⟩ := hN
    rw [z, hx] at e1
    cases e1
    cases e2
  have hz : (fs.map (·.1)).length ≤ sizeLine := by rw [List.length_map, sizeLine_eq]; omega
  refine set_old I.kIn c hx hN ne n wi hz fun h' hN' sb => h _ ?_
  have hd : ∃ o, h'.get? d = some o := let ⟨o, _, _, e', _⟩ := hN'; ⟨o, e'⟩
  obtain ⟨q1, q2⟩ := within_put (f := f) wi r ry
  exact I.write (x := d) (e := d) (by rw [ed]; exact True.intro) (.inl rfl) (fun b q hb z => (sb.2 b hb).trans z) hd (xdO_ok ⟨_, hN', q1, q2⟩)
theorem setx_new {y : V} {u : Value} {Q : Unit → Shared → Prop} (I : Inv X pins σ H s) (e : H x = some (excO x C none fr)) (c : FldCls X.K C B) (n : NoAttr X.K C f) (ry : RelV y u)
    (h : ∀ d s', H d = none → d ≠ x → Inv X pins σ (upd (upd H x (excO x C (some d) fr)) d (xdO d [(f, y)])) s' → Q () s') : wpAny (model X.prog X.w) A (setAttr (.ref x) f u) Q E s := by
  obtain ⟨vs, sl, hx, hfr⟩ := exc_get I e
  refine set_new I.kIn c hx n fun h' hx' hN' k => h s.heap.objs.size _ I.fresh (Nat.ne_of_gt (Heap.lt_size hx)) ?_
  have hd : s.heap.get? s.heap.objs.size = none := by
    cases q : s.heap.get? s.heap.objs.size with
    | none => rfl
    | some o => exact absurd (Heap.lt_size q) (Nat.lt_irrefl _)
  obtain ⟨q1, q2⟩ := within_put (fs := []) (f := f) (y := y) (u := u) (mA := fun _ => none) (fun g hg => absurd rfl hg) (fun _ => True.intro) ry
  exact I.writeNew e k ⟨_, hx'⟩ hd (excO_ok ⟨_, _, hx', rfl, rfl, rfl, hfr⟩) (xdO_ok ⟨_, hN', q1, q2⟩)
end
/-! ### readings and rules -/
def tXFld (K : PySem.W.Frag) (ta : TE) (f : Str) : TE := fun σ H Q => ta σ H fun x H1 => ∃ a C B d fr fs v, x = .ref a ∧ H1 a = some (excO a C (some d) fr) ∧ H1 d = some (xdO d fs) ∧ FldCls K C B ∧ NoAttr K C f ∧ fs.lookup f = some v ∧ Q v H1
def sXNew (K : PySem.W.Frag) (ta tv : TE) (f : Str) : TS := fun D σ H => tv σ H fun y H1 => ta σ H1 fun x H2 => ∃ a C B fr, x = .ref a ∧ H2 a = some (excO a C none fr) ∧ FldCls K C B ∧ NoAttr K C f ∧
  ∀ d, H2 d = none → d ≠ a → D.nx σ (upd (upd H2 a (excO a C (some d) fr)) d (xdO d [(f, y)]))
def sXFld (K : PySem.W.Frag) (ta tv : TE) (f : Str) : TS := fun D σ H => tv σ H fun y H1 => ta σ H1 fun x H2 => ∃ a C B d fr fs, x = .ref a ∧ H2 a = some (excO a C (some d) fr) ∧ H2 d = some (xdO d fs) ∧ FldCls K C B ∧ NoAttr K C f ∧ fs.length < 1000 ∧
  D.nx σ (upd H2 d (xdO d (putF f y fs)))
def tRaiseE (K : PySem.W.Frag) (H₀ : Hp) (W : XK) (te : TE) : TS := fun _ σ H => te σ H fun v H1 => ∃ x C od, v = .ref x ∧ H1 x = some (excO x C od true) ∧ PySem.W.typeIn K (.ref C) = some (.type "type") ∧ PySem.W.mroIn K C (.type "BaseException") = some true ∧ H₀ x = none ∧ W (.ref C) od (del H1 x)
section
variable {X : Cx} {o e value : Expr} {f : Str} {pos pos' : Pos} {ta tv te : TE} {W : XK}
theorem pe_xfld (he : PE X e ta) (hb : attributeBase e f X.env (eval e X.env) = eval e X.env) : PE X (.Attribute e f pos) (tXFld X.K ta f) := by
  intro pins s σ H Q I h
  refine attr_of hb (thn (he pins s σ H _ I h) fun u s1 ⟨x, H1, I1, rx, a, C, B, d, fr, fs, v, ex, ea, ed, c, n, l, q⟩ => ?_)
  subst ex
  obtain rfl : u = Value.ref a := rx
  exact getx_ok I1 ea ed c n l fun u' s2 I2 ru => ⟨v, H1, I2, ru, q⟩
theorem ps_xnew (ha : PE X o ta) (hv : PE X value tv) (hs : swapsWith value (some (.Attribute o f pos')) pos.line X.env = pure false) : PS X (.Assign [.Attribute o f pos'] value pos) (sXNew X.K ta tv f) := by
  intro pins s σ H D I h
  refine plainObj_wpAny_Assign_Attribute (thn (hv pins s σ H _ I h) fun u s1 ⟨y, H1, I1, ry, q⟩ => thn (ha pins s1 σ H1 _ I1 q) fun ov s2 ⟨x, H2, I2, rx, a, C, B, fr, ex, ea, c, n, q2⟩ => ?_) hs
  subst ex
  obtain rfl : ov = Value.ref a := rx
  exact setx_new I2 ea c n ry fun d s3 hd hne I3 => ⟨σ, _, I3, q2 d hd hne⟩
theorem ps_xfld (ha : PE X o ta) (hv : PE X value tv) (hs : swapsWith value (some (.Attribute o f pos')) pos.line X.env = pure false) : PS X (.Assign [.Attribute o f pos'] value pos) (sXFld X.K ta tv f) := by
  intro pins s σ H D I h
  refine plainObj_wpAny_Assign_Attribute (thn (hv pins s σ H _ I h) fun u s1 ⟨y, H1, I1, ry, q⟩ => thn (ha pins s1 σ H1 _ I1 q) fun ov s2 ⟨x, H2, I2, rx, a, C, B, d, fr, fs, ex, ea, ed, c, n, l, q2⟩ => ?_) hs
  subst ex
  obtain rfl : ov = Value.ref a := rx
  exact setx_ok I2 ea ed c n l ry fun s3 I3 => ⟨σ, _, I3, q2⟩
/-- raise e -/
theorem ps_raiseE (th : Throws X W) (O : OwnFrame X) (hc : X.calm = true) (he : PE X e te) : PS X (.Raise (some e) none pos) (tRaiseE X.K X.H₀ W te) := by
  intro pins s σ H D I h
  rw [arm_exec_Raise]
  refine wpAny_bind (wpAny_standAt ?_)
  show wpAny _ _ (raiseStmt X.env (some (do
    let v ← eval e X.env
    standAt pos
    pure v)) none) _ _ _
  unfold raiseStmt
  refine wpAny_bind (wpAny_bind (thn (he pins s σ H _ I h) fun u s1 ⟨v, H1, I1, rv, x, C, od, ev, ex, tC, mC, h0, q⟩ => wpAny_bind (wpAny_standAt (wpAny_pure ?_))))
  subst ev
  obtain rfl : u = Value.ref x := rv
  obtain ⟨vs, sl, hx, hfr⟩ := exc_get I1 ex
  obtain ⟨v1, a0, v0⟩ := hfr rfl
  have hf : X.s₀.heap.get? x = none := by
    cases z : X.s₀.heap.get? x with
    | none => rfl
    | some o =>
      have := I1.base.free x o z h0 (by rw [O.ex]; simp)
      rw [ex] at this; cases this
  have hty := look_ty (M := model X.prog X.w) hx
  have hit : PySem.W.Looks (model X.prog X.w) s1.heap (isType (.ref x)) false := by
    intro A' Q' E' s' k q'
    unfold isType loadHead
    exact wpAny_bind (wpAny_loadPart (k _ _ hx) (wpAny_pure q'))
  have htc := PySem.W.looks_typeIn (M := model X.prog X.w) I1.kIn tC
  have hmb := PySem.W.looks_mroIn (M := model X.prog X.w) I1.kIn mC
  refine wpAny_bind (wpAny_pure ?_)
  refine wpAny_bind (wpAny_holding ?_)
  unfold excFromValue isExcClass
  refine wpAny_bind (wpAny_bind (hit.here ?_))
  refine wpAny_ite_false rfl (wpAny_pure (wpAny_ite_false rfl ?_))
  unfold isInstance
  refine wpAny_bind (wpAny_bind (hty.here (hmb.here (wpAny_ite_true rfl (wpAny_pure ?_)))))
  dsimp only
  refine wpAny_bind (hit.here (wpAny_ite_false rfl ?_))
  unfold raisedInstance
  refine wpAny_bind (wpAny_bind (hty.here (wpAny_bind (htc.here (wpAny_ite_true rfl (wpAny_pure ?_))))))
  unfold setFlight field fieldsOf
  dsimp only
  refine wpAny_bind (wpAny_bind (wpAny_bind (wpAny_bind (wpAny_load' hx (wpAny_pure ?_)))))
  rw [v1]
  refine wpAny_pure (wpAny_ite_false rfl (wpAny_pure ?_))
  exact wpAny_raiseNew_none (I.ok.hd hc) (th.raised pins σ H1 s1 x C od I1 ex hf q)
end
end L2

namespace L2
open PySem PySem.Spec PyProof.Rows

/-! ### the class of an exception, asked -/
/-- what the class of an own error must be like -/
structure ClassOf (K : PySem.W.Frag) (C : Addr) : Prop where
  ga : PySem.W.findIn K (.ref C) "__getattribute__" = some (some (.builtin "BaseException.__getattribute__"))
  gt : PySem.W.findIn K (.ref C) "__getattr__" = some none
  cl : PySem.W.findIn K (.ref C) "__class__" = some (some (.builtin "object.__class__"))
  sp : PySem.W.specialIn K (.builtin "object.__class__") "__get__" = some (some (.builtin "getset_descriptor.__get__"))
  tk : PySem.W.takesIn K (.builtin "object.__class__") = some true
  mr : PySem.W.mroIn K C (.type "object") = some true
  mb : PySem.W.mroIn K C (.type "BaseException") = some true
section
open PySem.W PySem.Builtin PySem.Builtin.ObjectAttr PySem.Builtin.Getset_descriptor
variable {prog : Program} {w : World} {A : Around} {E : Value → Shared → Prop} {s : Shared} {K : PySem.W.Frag} {x C : Addr} {name : Str}
theorem look_data {M : Model} {h : Heap} {g a : Value} (X : K.In h) (ha : findIn K (.ref C) name = some (some a)) (hg : specialIn K a "__get__" = some (some g)) (ht : takesIn K a = some true) :
    Looks M h (find (.ref x) (.ref C) name) (.bind g a) := by
  have l1 := looks_findIn (M := M) X ha
  have l2 : Looks M h (getOf (some a)) (some g) := looks_specialIn X hg
  have l3 := looks_takesIn (M := M) X ht
  have l4 : Looks M h (dataDescriptor? (some a) (some g)) (some (g, a)) := l3.andThen .now
  exact l1.andThen (l2.andThen (l4.andThen (Looks.tag .now)))
theorem descr_class {R : Result → Shared → Prop} {tp : Value} (X : K.In s.heap) (T : Looks (model prog w) s.heap (typeOf (.ref x)) (.ref C)) (c : ClassOf K C) (h : R (.ok (.ret (.ref C))) s) :
    codeAny (model prog w) A (.call (.builtin "getset_descriptor.__get__") ⟨[.builtin "object.__class__", .ref x, tp], []⟩) R s := by
  obtain ⟨hh, g, dr, t, os⟩ := s
  have L1 := looks_mroIn (M := model prog w) X c.mr
  refine codeAny_call_builtin KF.slot_gs.plain KF.entry_gs
    (KF.slot_gs.check _ _ _ _ _ _ _ _ KF.type_class (KF.args_gs _ _ _) ?_)
  unfold Builtin.«getset_descriptor.__get__»
  unfold descrGet
  rw [dga_obj]
  refine wpAny_bind (wpAny_pure ?_)
  unfold descrGetter descrCheckInstance
  unfold descrNameAndClass isInstance
  simp only [KF.owner_class]
  repeat lk
  refine ⟨Code.quiet_builtin _ (by decide +kernel),
    codeAny_builtin KF.entry_class ?_⟩
  unfold Builtin.«object.__class__»
  unfold shownTypeOf
  repeat lk
  exact h
theorem class_asked {Q : Option Value → Shared → Prop} (X : K.In s.heap) (T : Looks (model prog w) s.heap (typeOf (.ref x)) (.ref C)) (c : ClassOf K C) (h : Q (some (.ref C)) { s with toks := s.toks + 1 }) :
    wpAny (model prog w) A (getAttr? (.ref x) "__class__") Q E s := by
  obtain ⟨hh, g, d, t, os⟩ := s
  have L1 := looks_findIn (M := model prog w) X c.ga
  have LF : Looks (model prog w) hh (find (.ref x) (.ref C) "__class__") (.bind (.builtin "getset_descriptor.__get__") (.builtin "object.__class__")) := look_data X c.cl c.sp c.tk
  have L2 := looks_findIn (M := model prog w) X c.gt
  have LB := looks_mroIn (M := model prog w) X c.mb
  have f3 := PySem.F.excAttr_ValueError.ga.bind (.ref x)
  have hk : builtinKind "BaseException.__getattribute__" = some .slot := by decide +kernel
  have hsplit : splitId "BaseException.__getattribute__" = some ("BaseException", "__getattribute__") := by decide +kernel
  unfold getAttr? getAttrBy?
  unfold getAttrBy
  refine wpAny_bind (wpAny_mkText (wpAny_bind (wpAny_attempt (wpAny_holding
    (wpAny_bind (T.at (wpAny_bind (L1.at ?_))))))))
  dsimp only
  have hne : (Value.builtin "BaseException.__getattribute__" == Value.builtin "object.__getattribute__") = false := by decide +kernel
  rw [hne, Bool.and_false, if_neg Bool.false_ne_true]
  unfold getAttrByItsOwn hookBefore
  refine wpAny_bind ?_
  show wpAny _ _ (typeLookup (.ref C) "__getattr__") _ _ _
  refine L2.at ?_
  refine wpAny_bind (wpAny_attempt (wpAny_holding ?_))
  show wpAny _ _ (boundAndCalled _ _ _) _ _ _
  unfold boundAndCalled
  refine wpAny_bind (wpAny_of_eq f3 ?_)
  refine wpAny_call (codeAny_call_builtin PySem.F.excAttr_ValueError.ga.plain PySem.F.entry_bexc_ga ?_)
  have ha := PySem.F.args_bexc_ga (.ref x) (.str "__class__" t)
  simp only [checkBuiltinCall, hk, hsplit, List.cons_append, List.nil_append]
  refine wpAny_bind ?_
  unfold isInstance
  refine wpAny_bind (T.at (LB.at ?_))
  rw [if_neg (by decide)]
  refine wpAny_of_eq ha ?_
  unfold Builtin.«object.__getattribute__»
  refine wpAny_bind (wpAny_pure (a := (Value.ref x, [Value.str "__class__" t])) ?_)
  dsimp only
  refine wpAny_bind (wpAny_pure (a := ("__class__" : Str)) ?_)
  refine wpAny_bind (T.at (wpAny_bind (LF.at ?_)))
  dsimp only
  unfold bindTo
  dsimp only
  refine wpAny_bind (wpAny_holding (wpAny_call (descr_class (s := ⟨hh, g, d, t + 1, os⟩) X T c ?_)))
  refine wpAny_pure ?_
  exact handed_on rfl (wpAny_pure h)
theorem look_cls {M : Model} {h : Heap} (e : ∃ o, h.get? x = some o ∧ o.cls = .ref C) : Looks M h (typeOf (.ref x)) (.ref C) := by
  obtain ⟨o, h1, h2⟩ := e
  exact h2 ▸ (Looks.ld h1).andThen .now
theorem cls_there {h : Heap} (X : K.In h) (hm : mroIn K C (.type "object") = some true) : ∃ a b cd sl, K.lookup C = some ⟨a, b, .cls cd, sl⟩ := by
  obtain ⟨cd, a, _⟩ := Option.bind_eq_some_iff.mp hm
  unfold clsIn at a
  split at a
  · rename_i c' d' cd' sl' ho
    exact ⟨c', d', cd', sl', ho⟩
  · cases a
theorem kitx_exc (c : ClassOf K C) : KitX K (.ref x) (.ref C) (fun h => ∃ o, h.get? x = some o ∧ o.cls = .ref C) where
  ty := fun M h _ p => look_cls p
  it := fun M h X _ => by
    obtain ⟨a, b, cd, sl, ho⟩ := cls_there X c.mr
    intro A' Q' E' s' k q
    unfold isType loadHead
    exact wpAny_bind (wpAny_loadPart (k _ _ (X _ _ ho)) (wpAny_pure q))
  ne := fun h tp dd its n sl X htp => by
    obtain ⟨a, b, cd, sl', ho⟩ := cls_there X c.mr
    refine Bool.eq_false_iff.mpr fun q => ?_
    have e : C = tp := Value.ref.inj (beq_iff_eq.mp q)
    subst e
    have z := (X _ _ ho).symm.trans htp
    cases z
  ca := fun X p k => class_asked X (look_cls p) c k
end
theorem excO_cls {P : Program} {w : World} {H : Hp} {h : Heap} {x C : Addr} {od : Option Addr} {fr : Bool} (k : ObjOk P w H h x (excO x C od fr)) : ∃ o, h.get? x = some o ∧ o.cls = .ref C := by
  obtain ⟨⟨o, vs, a, b, _⟩, _, _⟩ := k
  exact ⟨o, a, b⟩

/-! ### isinstance -/
inductive TyE (K : PySem.W.Frag) (H : Hp) : V → Value → Prop where
  | of {v : V} {t : Value} (h : TyOf K H v t) : TyE K H v t
  | exc {a C : Addr} {od : Option Addr} {fr : Bool} (e : H a = some (excO a C od fr)) (c : ClassOf K C) : TyE K H (.ref a) (.ref C)
theorem isi_one {X : Cx} {pins : List (Addr × Obj)} {σ : St} {H : Hp} {s : Shared} {A : Around} {E : Value → Shared → Prop} {Q : Value → Shared → Prop} {c : Value} {b : Bool} {x : V} {u t : Value} (I : Inv X pins σ H s) (rx : RelV x u) (ty : TyE X.K H x t)
    (e : PySem.W.kitOne X.K t c = some b) (h : ∀ tk, Q (.bool b) { s with toks := tk }) : wpAny (model X.prog X.w) A (call (.builtin "isinstance") [u, c]) Q E s := by
  cases ty with
  | of ty => exact isinst_ok I rx ty e h
  | @exc a C od fr ea c =>
    cases (show u = Value.ref a from rx)
    have p := excO_cls (show ObjOk X.prog X.w H s.heap a (excO a C od fr) from I.hok a _ ea)
    exact PySem.W.kia_one (kitx_exc c) I.kIn p e (fun z => nomatch z) h
/-- a class, as a value -/
def clsV : V → Option Value
  | .ty n => some (.type n)
  | .ref a => some (.ref a)
  | _ => none
theorem clsV_rel {v : V} {c u : Value} (e : clsV v = some c) (r : RelV v u) : u = c := by
  cases v <;> first | (cases e; exact r) | cases e
section
variable {X : Cx}
def rIsi (K : PySem.W.Frag) : List V → Hp → VK → Prop := fun xs H Q => ∃ x c cv t b, xs = [x, c] ∧ TyE K H x t ∧ clsV c = some cv ∧ PySem.W.kitOne K t cv = some b ∧ Q (.bl b) H
theorem call_isi : CallR X (.builtin "isinstance") (rIsi X.K) := by
  intro pins s σ H xs us Q I r h
  obtain ⟨x, c, cv, t, b, rfl, ty, e1, e2, q⟩ := h
  cases r with
  | cons r1 rr =>
    cases rr with
    | cons r2 rr =>
      cases rr
      have := clsV_rel e1 r2
      subst this
      exact isi_one I r1 ty e2 fun tk => ⟨.bl b, H, I.tok tk, rfl, q⟩
/-- isinstance(x, (C, D, ..)) of an exception -/
def rIsiT (K : PySem.W.Frag) : List V → Hp → VK → Prop := fun xs H Q => ∃ a C od fr tp cs cvs b, xs = [.ref a, .ref tp] ∧ H a = some (excO a C od fr) ∧ ClassOf K C ∧ H tp = some (.tup cs) ∧ Vals cs cvs ∧ (∀ us, Vals cs us → us = cvs) ∧ PySem.W.kitAny K (.ref C) cvs = some b ∧ Q (.bl b) H
theorem call_isiT : CallR X (.builtin "isinstance") (rIsiT X.K) := by
  intro pins s σ H xs us Q I r h
  obtain ⟨a, C, od, fr, tp, cs, cvs, b, rfl, ea, c, et, _, hu, e2, q⟩ := h
  cases r with
  | cons r1 rr =>
    cases rr with
    | cons r2 rr =>
      cases rr
      cases (show _ = Value.ref a from r1)
      cases (show _ = Value.ref tp from r2)
      have p := excO_cls (show ObjOk X.prog X.w H s.heap a (excO a C od fr) from I.hok a _ ea)
      obtain ⟨_, its, rv, ob, h1, h2, n, h3⟩ := (show ObjOk X.prog X.w H s.heap tp (.tup cs) from I.hok tp _ et)
      have := hu _ rv
      subst this
      obtain ⟨oc, od, odt, osl⟩ := ob
      dsimp only at h2 h3
      subst h2 h3
      exact PySem.W.kia_tup (kitx_exc c) I.kIn p h1 e2 (fun z => nomatch z) fun tk => ⟨.bl b, H, I.tok tk, rfl, q⟩
end

/-! ### try: f(e, ..) except D as n: suite -/
/-- within an except suite -/
abbrev Cx.suite (X : Cx) (e : Value) : Cx := { X with A := X.A.mark (some e), calm := false, xe := fun _ _ => False }
theorem Cx.Ok.suite {X : Cx} (ok : X.Ok) (e : Value) : (X.suite e).Ok :=
  ⟨ok.mod, ok.kind, ok.glob, ok.blt, ok.above, ok.inj, ok.has, ok.cab, fun z => absurd (show false = true from z) Bool.false_ne_true, ok.frames, ok.stk, ok.exf, ok.bs, ok.bsz, ok.noex, ok.exfs, ok.funs, ok.frf⟩
section
variable {X : Cx} {pins : List (Addr × Obj)} {σ : St} {H : Hp} {s : Shared}
theorem Inv.suite (I : Inv X pins σ H s) (e : Value) : Inv (X.suite e) pins σ H s := ⟨I.ok.suite e, I.os, I.bare, I.base, I.loc, I.cell, I.free, I.freeC, I.pin, I.hok, I.len⟩
theorem Inv.unsuite {e : Value} (ok : X.Ok) (I : Inv (X.suite e) pins σ H s) : Inv X pins σ H s := ⟨ok, I.os, I.bare, I.base, I.loc, I.cell, I.free, I.freeC, I.pin, I.hok, I.len⟩
end
/-- the class of an except clause -/
structure ExcBase (K : PySem.W.Frag) (mg : Str → Option Value) (x : Str) (D : Addr) : Prop where
  mg : mg x = some (.ref D)
  ty : PySem.W.typeIn K (.ref D) = some (.type "type")
  ex : PySem.W.subIn K (.ref D) (.type "BaseException") = some true
section
open PySem.W
variable {K : PySem.W.Frag} {mg : Str → Option Value} {D C e : Addr} {x : Str}
theorem exc_matches {M : Model} {A : Around} {E : Value → Shared → Prop} {s : Shared} {Q : Bool → Shared → Prop} (X : K.In s.heap) (b : ExcBase K mg x D) (he : ∃ o, s.heap.get? e = some o ∧ o.cls = .ref C) (hs : subIn K (.ref C) (.ref D) = some true) (hq : Q true s) :
    wpAny M A (excMatches (.ref e) (.ref D)) Q E s := by
  obtain ⟨h, g, d, t, os⟩ := s
  have L1 : Looks M h (isInstance (.ref D) (.type "tuple")) false := (looks_typeIn X b.ty).andThen (Looks.of_pure tc_notTuple)
  have LT : Looks M h (isType (.ref D)) true := by
    obtain ⟨cd, a, _⟩ := Option.bind_eq_some_iff.mp (show mroIn K D (.type "BaseException") = some true from b.ex)
    unfold clsIn at a
    split at a
    · rename_i c' d' cd' sl' ho
      intro A' Q' E' s' k q
      unfold isType loadHead
      exact wpAny_bind (wpAny_loadPart (k _ _ (X _ _ ho)) (wpAny_pure q))
    · cases a
  have L2 : Looks M h (isExcClass (.ref D)) true := LT.andThen (looks_subIn X b.ex)
  have L3 : Looks M h (typeOf (.ref e)) (.ref C) := look_cls he
  have L4 := looks_subIn (M := M) X hs
  unfold excMatches
  refine wpAny_bind (L1.at ?_)
  rw [if_neg Bool.false_ne_true]
  refine wpAny_bind (wpAny_pure ?_)
  simp only [List.forIn_cons, List.forIn_nil]
  refine wpAny_bind (wpAny_bind (wpAny_bind (L2.at ?_)))
  simp only [Bool.not_true, Bool.false_eq_true, if_false]
  refine wpAny_pure (wpAny_pure ?_)
  refine wpAny_bind (L3.at ?_)
  refine wpAny_bind (wpAny_bind (wpAny_bind (L4.at ?_)))
  simp only [if_true]
  exact wpAny_pure (wpAny_pure (wpAny_pure hq))
end
end L2

namespace L2
open PySem PySem.Spec PyProof.Rows

section
variable {P : Program} {w : World} {outer : List Env} {H H' : Hp} {h h' B : Heap} {x C : Addr} {cls a0 : Value}
/-- the exception is new -/
theorem Lie.new (L : Lie P w outer H h x cls a0 H' B h') (ff : FrsOk outer H h) : h.get? x = none := by
  cases q : h.get? x with
  | none => rfl
  | some o =>
    by_cases hb : x ∈ frs outer
    · obtain ⟨n, o', e, nf⟩ := ff x hb
      obtain ⟨sl, z⟩ := L.un.slot x o' e n hb (by simp)
      obtain ⟨oe, vs, h1, _, h3, _⟩ := L.fly.first
      rw [z] at h1; cases h1
      exact absurd h3 (nf vs)
    · obtain ⟨o', z⟩ := L.V x o q hb
      rw [L.fly.2.1] at z; cases z
theorem Lie.track {od : Option Addr} (L : Lie P w outer H h x (.ref C) a0 H' B h') (hd : DictAt x od h') (hx : h.get? x = none) : Un (frs outer) [] H (upd H' x (excO x C od false)) h h' ∧ HOk P w (upd H' x (excO x C od false)) h' := by
  have ne : ∀ b o, h.get? b = some o → b ≠ x := fun b o e z => by rw [z, hx] at e; cases e
  have nt : ∀ b o, H' b = some o → b ≠ x := fun b o e => ne_of_none e L.nx
  refine ⟨⟨L.un.keep, L.un.slot, fun b o e n hx' => by rw [upd_ne (ne b o e)]; exact L.un.free b o e n hx', L.un.there, fun b xs e => ?_, fun b o u e => ?_, fun b ps e => ?_⟩, fun b o e => ?_⟩
  · have q := L.un.tups b xs e
    rw [upd_ne (nt b _ q)]; exact q
  · have q := L.un.frzs b o u e
    rw [upd_ne (nt b _ q)]; exact q
  · obtain ⟨m, q⟩ := L.un.tbls b ps e
    exact ⟨m, by rw [upd_ne (nt b _ q)]; exact q⟩
  · by_cases hb : b = x
    · subst hb
      rw [upd_same] at e
      have e' : excO b C od false = o := Option.some.inj e
      subst e'
      obtain ⟨oe, vs, h1, h2, h3, _⟩ := L.fly.first
      obtain ⟨o2, h4, h5⟩ := hd
      rw [h1] at h4
      cases h4
      exact excO_ok ⟨oe, vs, h1, h2, h5, h3, fun z => nomatch z⟩
    · rw [upd_ne hb] at e
      refine (L.hok b o e).stay (fun _ _ _ q => q) (fun c q => ?_) fun c xs q => ?_
      · rw [upd_ne (nt c _ q)]; exact q
      · rw [upd_ne (nt c _ q)]; exact q
end

section
variable {X : Cx} {pins : List (Addr × Obj)} {σ : St} {H : Hp} {s : Shared}
/-- a name of the frame is gone -/
theorem Inv.forget {i : Nat} {n : Str} {m : Str → Option Value} {v : Option Value} {h' : Heap} {t' : Nat} (I : Inv X pins σ H s) (hN : X.N.Nodup) (hi : X.N[i]? = some n) (hn : s.heap.Ns X.env.locals m) (hn' : h'.Ns X.env.locals fun y => if y = n then v else m y)
    (hs : Heap.SameBut X.env.locals s.heap h') : Inv X pins (σ.set i none) H { s with heap := h', toks := t' } := by
  obtain ⟨m0, hn0, hl⟩ := id I.loc
  have em : m0 = m := by
    obtain ⟨o, es, ep, e, d, _, q⟩ := hn0
    obtain ⟨o', es', ep', e', d', _, q'⟩ := hn
    rw [e] at e'; cases e'
    rw [d] at d'; cases d'
    funext y
    rw [← q, ← q']
  subst em
  have ltL : ∀ b o, X.s₀.heap.get? b = some o → b ≠ X.env.locals := fun b o e => Nat.ne_of_lt (Nat.lt_of_lt_of_le (Heap.lt_size e) I.ok.above)
  refine ⟨I.ok, I.os, I.bare, ⟨fun b o e n hb hx => (hs.2 b (ltL b o e)).trans (I.base.keep b o e n hb hx), fun b o e n hb hx => ?_, I.base.free, fun b o e hx => ?_, I.base.tups, I.base.frzs, I.base.tbls⟩,
    ⟨_, hn', fun j y w e1 e2 e3 => ?_⟩, fun y c e => ?_, I.free, I.freeC, fun p hp => ?_, fun b o e => ?_, by simpa using I.len⟩
  · obtain ⟨sl, e1⟩ := I.base.slot b o e n hb hx
    exact ⟨sl, (hs.2 b (ltL b o e)).trans e1⟩
  · obtain ⟨o', e1⟩ := I.base.there b o e hx
    exact ⟨o', (hs.2 b (ltL b o e)).trans e1⟩
  · by_cases hj : j = i
    · subst hj
      rw [List.getElem?_set] at e2
      split at e2
      · split at e2
        · cases e2
        · cases e2
      · exact absurd rfl (by assumption)
    · rw [List.getElem?_set_ne (Ne.symm hj)] at e2
      obtain ⟨u, r, l⟩ := hl j y w e1 e2 e3
      refine ⟨u, r, ?_⟩
      rcases l with ⟨k, e⟩ | ⟨k, c, e, z⟩
      · refine .inl ⟨k, ?_⟩
        have ny : y ≠ n := fun e => hj (nodup_ix hN e1 (e ▸ hi))
        show (if y = n then v else m0 y) = some u
        rw [if_neg ny]
        exact e
      · exact .inr ⟨k, c, e, z.sameBut hs (I.cne y c e)⟩
  · obtain ⟨w, z⟩ := I.cell y c e
    exact ⟨w, z.sameBut hs (I.cne y c e)⟩
  · obtain ⟨e, n, ne, nf, d⟩ := I.pin p hp
    exact ⟨(hs.2 p.1 ne).trans e, n, ne, nf, d⟩
  · refine (I.hok b o e).stay (fun c u hc q => (hs.2 c ?_).trans q) (fun _ q => q) fun _ _ q => q
    intro z
    rcases hc with y | y
    · rw [← y, z, I.free] at e; cases e
    · rw [z, I.free] at y; cases y
end

/-- an expression that may raise: what is wanted of both ends -/
def PEX (X : Cx) (e : Expr) (t : St → Hp → VK → XK → Prop) : Prop :=
  ∀ (pins : List (Addr × Obj)) (s : Shared) (σ : St) (H : Hp) (Q : VK) (W : XK) (E : Value → Shared → Prop), Inv X pins σ H s → t σ H Q W →
    (∀ H1 s1 e s', Inv X pins σ H1 s1 → CXW X.prog X.w X.stack H1 s1 W e s' → E e s') → wpAny (model X.prog X.w) X.A (eval e X.env) (EP X pins σ Q) E s
section
variable {X : Cx} {k : Nat} {f : Addr} {fd : FuncData} {ps : List Str} {sp : Sp} {dvs : List V} {ds : List Value} {x : Str} {p pos : Pos} {e : Expr} {es : List Expr} {t : TA}
theorem pex_call (F : FnOk X.prog X.w X.K X.mg X.base (CXW X.prog X.w) k f fd ps sp) (hr : Room k X.A) (hg : Gl X x) (hm : X.mg x = some (.ref f)) (hk : PySem.W.keepIn X.K (.ref f) = true) (hb : Binds X.K fd ps ds) (hd : Vals dvs ds) (ha : PA X.nox (e :: es) t)
    (hdb : (x == ("__debug__" : Str)) = false := by decide) (he : starEach (e :: es) X.env = (false, eval e X.env) :: starEach es X.env := by rfl) (hpl : (backTo pos (starEach es X.env)).any (·.1) = false := by rfl) :
    PEX X (.Call (.Name x p) (e :: es) [] pos) fun σ H Q W => t σ H fun vs H1 => sp (vs ++ dvs) H1 Q W := by
  intro pins s σ H Q W E I h hE
  refine wpAny_Call_Name_kw (ld_glob I hg hm ?_ hdb)
  refine PySem.W.callWith_K (h₀ := X.base) I.ok.mod.kin hk (wpAny_mono (ha pos pins s σ H _ (I.wish _) h) (fun us s1 ⟨vs, H1, I0, r, q⟩ => ⟨I0.unwish.kIn, ?_⟩) fun _ _ z => False.elim z) he hpl
  have I1 : Inv X pins σ H1 s1 := I0.unwish
  have r2 : Vals (vs ++ dvs) (us ++ ds) := r.append hd
  have hl : (us ++ ds).length = ps.length := by rw [← r2.length]; exact F.len _ _ _ _ q
  refine wpAny_call (codeAny_mono (F.run X.A X.stack s1 H1 ⟨us, []⟩ (us ++ ds) (vs ++ dvs) Q _ hr I1.env0 (hb s1 us I1.kIn hl) r2 q) fun r s' hq => ?_)
  cases r with
  | error e => exact hE H1 s1 e s' I1 hq
  | ok fl =>
    cases fl with
    | ret u => exact I1.after hq
    | next => exact False.elim hq
    | brk => exact False.elim hq
    | cont => exact False.elim hq
end

section
variable {X : Cx} {ce : Expr} {tc : St → Hp → VK → XK → Prop} {dx n : Str} {D : Addr} {i : Nat} {b0 : Stmt} {suite : List Stmt} {ts : TS} {dp epos hpos pos : Pos}
def tTry (K : PySem.W.Frag) (D : Addr) (i : Nat) (tc : St → Hp → VK → XK → Prop) (ts : TS) : TS := fun Dd σ H => tc σ H (fun _ H1 => Dd.nx σ H1) fun cls od H1 =>
  ∃ C, cls = .ref C ∧ PySem.W.subIn K (.ref C) (.ref D) = some true ∧ ∀ x, H1 x = none → ts { nx := fun σ' H' => Dd.nx (σ'.set i none) H', rt := fun _ _ => False } (σ.set i (some (.ref x))) (upd H1 x (excO x C od false))
theorem ps_try (O : OwnFrame X) (hc : PEX X ce tc) (b : ExcBase X.K X.mg dx D) (hgD : Gl X dx) (hN : X.N.Nodup) (hi : X.N[i]? = some n) (hloc : X.env.scope.names.lookup n = some .local) (hs : ∀ e, PSs (X.suite e) (b0 :: suite) ts)
    (hsw : swapsWith ce none epos.line X.env = pure false := by rfl) (hdb : (dx == ("__debug__" : Str)) = false := by decide) :
    PS X (.Try [.Expr ce epos] [.ExceptHandler (some (.Name dx dp)) (some n) (b0 :: suite) hpos] [] [] pos) (tTry X.K D i tc ts) := by
  intro pins s σ H Dd I h
  refine wpAny_Try_except ?_
  refine wpAny_execs_cons (wpAny_Expr_any (thn (hc pins s σ H _ _ _ I h fun H1 s1 e s' I1 q => ?_) fun v s1 ⟨x, H1, I1, r1, q1⟩ => wpAny_execs_nil (wpAny_execs_nil ⟨σ, H1, I1, q1⟩)) I.quiet hsw)
  · obtain ⟨x, cls, a0, od, H2, B, rfl, os, bare, L, hd, C, rfl, hsub, hts⟩ := q
    have hfr : X.A.frames = some (X.env :: X.outer) := by rw [I1.ok.frames, O.stk]
    have fly := L.fly
    rw [O.stk] at fly
    refine wpAny_mono (KD.any (KD.noteFrame (e := x) (d := od) (.ref x) X.env) hd (wpAny_looks_onW (Q := fun _ s4 => ∃ h4, s4 = { s' with heap := h4 } ∧ B.HeldW (X.env :: X.outer) x (.ref C) a0 X.env.locals h4 ∧ s'.heap.UpToSlots h4) hfr O.fr fly fun h4 held4 up4 => ⟨h4, rfl, held4, up4⟩)) (fun _ s4 ⟨⟨h4, e4, held4, up4⟩, hd4⟩ => ?_) fun _ _ z => z
    subst e4
    refine wpAny_mono (KD.any (KD.setFlight (e := x) (d := od) (.ref x) none) hd4 (wpAny_landsW (Q := fun _ s5 => ∃ h5, s5 = { s' with heap := h5 } ∧ B.FlyingW (X.env :: X.outer) x (.ref C) a0 h5 ∧ h4.UpToSlots h5) held4 fun h5 fl5 up5 => ⟨h5, rfl, fl5, up5⟩)) (fun _ s5 ⟨⟨h5, e5, fl5, up5⟩, hd5⟩ => ?_) fun _ _ z => z
    subst e5
    rw [← O.stk] at fl5
    have L5 := L.turn (up4.trans up5) fl5 I1.frsOk
    have I5 : Inv X pins σ H2 { s' with heap := h5 } := I1.call' (ch := []) (s' := { s' with heap := h5 }) os L5.un L5.hok bare fun b z => nomatch z
    refine wpAny_handleBy_cons (codeAny_handlers_test ?_) (by intro q; cases q)
    refine ld_glob (X := X.suite (.ref x)) (I5.suite _) hgD b.mg ?_ hdb
    refine exc_matches (K := X.K) I5.kIn b L5.fly.there hsub ?_
    rw [if_pos rfl]
    refine codeAny_handlers_suite_as ?_
    refine wpAny_mono (KD.any (KD.setFlight (e := x) (d := od) (.ref x) none) hd5 (lands_againW (Q := fun _ s6 => ∃ h6, s6 = { s' with heap := h6 } ∧ B.FlyingW X.stack x (.ref C) a0 h6 ∧ h5.UpToSlots h6) fl5 fun h6 fl6 up6 => ⟨h6, rfl, fl6, up6⟩)) (fun _ s6 ⟨⟨h6, e6, fl6, up6⟩, hd6⟩ => ?_) fun _ _ z => z
    subst e6
    have L6 := L5.turn up6 fl6 I1.frsOk
    have new := L6.new I1.frsOk
    obtain ⟨un6, hok6⟩ := L6.track hd6 new
    have I6 : Inv X pins σ (upd H2 x (excO x C od false)) { s' with heap := h6 } := I1.call' (ch := []) (s' := { s' with heap := h6 }) os un6 hok6 bare fun b z => nomatch z
    refine store_ok (X := X.suite (.ref x)) (v := .ref x) (I6.suite _) hN hi (.inl hloc) rfl (fun s8 I8 => ?_) (.inr hloc)
    refine wpAny_mono (hs (.ref x) pins s8 _ _ _ I8 (hts x L.nx)) (fun f s9 q9 => ?_) fun _ _ z => False.elim z
    cases f with
    | next =>
      obtain ⟨σ9, H9, I9, q⟩ := q9
      have I9' : Inv X pins σ9 H9 s9 := I9.unsuite I1.ok
      obtain ⟨m, hn, _⟩ := id I9'.loc
      have hcls : (X.env.scope.kind == .class || (X.env.scope.kind == .module && X.env.locals != X.env.globals)) = false := by rw [I1.ok.kind]; rfl
      refine wpAny_nameGoes_keeps hloc hn hcls fun h' v hn' hs' => ?_
      exact ⟨_, H9, I9'.forget hN hi hn hn' hs', q⟩
    | brk => obtain ⟨_, _, _, q⟩ := q9; exact False.elim q
    | cont => obtain ⟨_, _, _, q⟩ := q9; exact False.elim q
    | ret u => obtain ⟨_, _, _, _, _, q⟩ := q9; exact False.elim q
end
end L2

namespace L2
open PySem PySem.Spec PyProof.Rows

/-! ### great numbers -/
theorem noPy {x y : Int} (h0 : 0 < y) (h1 : y ≤ 10 ^ 70) : Builtin.divisionGoesByPylong x y = false := by
  refine PyProof.noPylong_of_log2 ?_
  have h2 : y.natAbs < 2 ^ 9000 := by
    have : y.natAbs ≤ 10 ^ 70 := by omega
    exact Nat.lt_of_le_of_lt this (by decide +kernel)
  exact (Nat.log2_lt (by omega)).mpr h2
theorem bitsB {x : Int} (h0 : -(10 ^ 200) ≤ x) (h1 : x ≤ 10 ^ 200) : Builtin.Int.intBits x ≤ 2 ^ 20 := by
  unfold Builtin.Int.intBits
  split
  · exact Nat.zero_le _
  · rename_i hx
    have hn : x.natAbs < 2 ^ 1000 := by
      have : x.natAbs ≤ 10 ^ 200 := by omega
      exact Nat.lt_of_le_of_lt this (by decide +kernel)
    have h0 : x.natAbs ≠ 0 := by
      intro e
      apply hx
      have : x = 0 := by omega
      rw [this]; rfl
    have : x.natAbs.log2 < 1000 := (Nat.log2_lt h0).mpr hn
    have e : (2 : Nat) ^ 20 = 1048576 := by decide
    omega
def CDivB (_ j : Int) : Prop := 0 < j ∧ j ≤ 10 ^ 70
def CMulB (i j : Int) : Prop := (-(10 ^ 200) ≤ i ∧ i ≤ 10 ^ 200) ∧ (-(10 ^ 200) ≤ j ∧ j ≤ 10 ^ 200)
section
variable {X : Cx}
theorem op_fdivB : OpR X (binaryOp .FloorDiv) (rI CDivB fun i j => .int (i / j)) := opI fun i j _ _ _ _ _ hc q => by
  have e : i.fdiv j = i / j := Int.fdiv_eq_ediv_of_nonneg i (Int.le_of_lt hc.1)
  exact floordiv_int (Int.ne_of_gt hc.1) (by rw [e]; exact q) (.inl (noPy hc.1 hc.2))
theorem op_mulB : OpR X (binaryOp .Mult) (rI CMulB fun i j => .int (i * j)) := opI fun _ _ _ _ _ _ _ hc q =>
  mul_int q (PySem.IntMulOk.of_bits (bitsB hc.1.1 hc.1.2) (bitsB hc.2.1 hc.2.2))
def rIsB (g : Bool → Bool → Bool) : R2 := fun x y H Q => ∃ c d, x = .bl c ∧ y = .bl d ∧ Q (.bl (g c d)) H
theorem op_isB : OpR X (compareOp .Is) (rIsB fun c d => c == d) := by
  intro pins s σ H x y v u Q I rx ry h
  obtain ⟨c, d, rfl, rfl, q⟩ := h
  cases rx
  cases ry
  exact is_bool ⟨.bl _, H, I, rfl, q⟩
theorem op_isnotB : OpR X (compareOp .IsNot) (rIsB fun c d => c != d) := by
  intro pins s σ H x y v u Q I rx ry h
  obtain ⟨c, d, rfl, rfl, q⟩ := h
  cases rx
  cases ry
  exact isnot_bool ⟨.bl _, H, I, rfl, q⟩
end

/-! ### a def, where an error may leave it -/
section
variable {P : Program} {w : World} {K : PySem.W.Frag} {mg : Str → Option Value} {base : Heap}
theorem Fun.okW {x qual : Str} {st : Stmt} {f : Addr} {fd : FuncData} {N ps : List Str} {k : Nat} {sp : Sp} (F : Fun K x qual st f fd) (S : FnScope N ps (defScope st)) (len : ∀ vs H Q E, sp vs H Q E → vs.length = ps.length)
    (hbody : ∀ (cdv : Value) (A : Around) (outer : List Env) (s : Shared) (H : Hp) (vs : List V) (Q : VK) (E : XK), Room k (A.deeper (envOfC qual (defScope st) s.heap.objs.size f cdv)) → sp vs H Q E →
      ∃ t, PSs (cxOf (CXW P w) P w K mg base N qual (defScope st) f cdv A outer s H E) (defBody st) t ∧ t { nx := fun _ H' => Q .non H', rt := Q } (start N vs) H) : FnOk P w K mg base (CXW P w) (k + 1) f fd ps sp := by
  obtain ⟨oc, od, kV, doc, pm, an, cdv, ct, osl, rfl, lk, hcd⟩ := F.ex
  exact fn_of lk hcd S len fun A outer s H vs Q E hr hsp => hbody cdv A outer s H vs Q E hr hsp
/-- .. where none leaves it -/
theorem Fun.ok0 {x qual : Str} {st : Stmt} {f : Addr} {fd : FuncData} {N ps : List Str} {k : Nat} {sp : Sp} (F : Fun K x qual st f fd) (S : FnScope N ps (defScope st)) (len : ∀ vs H Q E, sp vs H Q E → vs.length = ps.length)
    (hbody : ∀ (cdv : Value) (A : Around) (outer : List Env) (s : Shared) (H : Hp) (vs : List V) (Q : VK) (E : XK), Room k (A.deeper (envOfC qual (defScope st) s.heap.objs.size f cdv)) → sp vs H Q E →
      ∃ t, PSs (cxOf (CXW P w) P w K mg base N qual (defScope st) f cdv A outer s H E).nox (defBody st) t ∧ t { nx := fun _ H' => Q .non H', rt := Q } (start N vs) H) : FnOk P w K mg base (CXW P w) (k + 1) f fd ps sp :=
  F.okW S len fun cdv A outer s H vs Q E hr hsp => by
    obtain ⟨t, h, q⟩ := hbody cdv A outer s H vs Q E hr hsp
    exact ⟨t, h.nox, q⟩
end
theorem passW {X : Cx} {W : XK} (h : ∀ cls od H, ¬ W cls od H) : Passes (CXW X.prog X.w) X.nox W := fun pins σ H s e s' I q => by
  obtain ⟨x, cls, a0, od, H', B, _, _, _, _, _, hE⟩ := q
  exact (h cls od H' hE).elim
theorem pass00 {X : Cx} : Passes (CXW X.prog X.w) X.nox E0 := passW fun _ _ _ h => h
end L2
namespace L2
open PySem PySem.Spec PyProof.Rows
theorem cxOf_K {CX : CXT} {P : Program} {w : World} {K : PySem.W.Frag} {mg : Str → Option Value} {base : Heap} {N : List Str} {qual : Str} {scope : Scope} {f : Addr} {cd : Value} {A : Around} {outer : List Env} {s : Shared} {H : Hp} {E : XK} :
    (cxOf CX P w K mg base N qual scope f cd A outer s H E).K = K := rfl
theorem exI {p : Int → Prop} {i : Int} : (∃ c, V.int i = V.int c ∧ p c) ↔ p i := by simp
end L2
namespace L2
theorem scal_ii {i j : Int} : scal (.int i) (.int j) = true := rfl
theorem scal_bb {i j : Bool} : scal (.bl i) (.bl j) = true := rfl
theorem scal_ss {i j : PySem.Str} : scal (.str i) (.str j) = true := rfl
end L2
namespace L2
open PySem PySem.Spec PyProof.Rows
theorem Same.upd {H : Hp} {p : Addr} {o : HO} (h : H p = none) : Same H (upd H p o) := fun b u e => by
  rw [upd_ne (ne_of_none e h)]
  exact e
theorem mem_cutV {xs : List V} {lo hi : Option Int} {x : V} (h : x ∈ cutV xs lo hi) : x ∈ xs := by
  unfold cutV at h
  exact List.mem_of_mem_drop (List.mem_of_mem_take h)
theorem int_at {ns : List Int} {lo hi : Option Int} {i : Nat} {x : V} (h : (cutV (ns.map V.int) lo hi)[i]? = some x) : ∃ c, x = .int c := by
  have := mem_cutV (List.mem_of_getElem? h)
  obtain ⟨c, _, e⟩ := List.mem_map.mp this
  exact ⟨c, e.symm⟩
theorem int_at' {ns : List Int} {i : Nat} {x : V} (h : (ns.map V.int)[i]? = some x) : ∃ c, ns[i]? = some c ∧ x = .int c := by
  rw [List.getElem?_map] at h
  cases e : ns[i]? with
  | none => rw [e] at h; cases h
  | some c => rw [e] at h; exact ⟨c, rfl, (Option.some.inj h).symm⟩
end L2
namespace L2
theorem three {x y z : V} {a b c : PySem.Value} (ha : ∀ u, RelV x u → u = a) (hb : ∀ u, RelV y u → u = b) (hc : ∀ u, RelV z u → u = c) : ∀ us, Vals [x, y, z] us → us = [a, b, c]
  | _, .cons r1 (.cons r2 (.cons r3 .nil)) => by rw [ha _ r1, hb _ r2, hc _ r3]
theorem refs3 {x y z : PySem.Addr} : ∀ us, Vals [.ref x, .ref y, .ref z] us → us = [.ref x, .ref y, .ref z] := three (fun _ r => r) (fun _ r => r) fun _ r => r
end L2
namespace L2
/-- cut behind a statement: what is left is a letter -/
theorem seqK {t u : TS} {D : Ends} {σ : St} {H : Hp} (G : St → Hp → Prop) (h : ∀ R : St → Hp → Prop, (∀ σ' H', G σ' H' → R σ' H') → t { D with nx := R } σ H) (k : ∀ σ' H', G σ' H' → u D σ' H') : tSeq t u D σ H := h (u D) k
end L2

/-! LIST COMPREHENSIONS over the hand layer: [elt for x in iter], one clause, no test, x a name. -/
namespace L2
open PySem PySem.Spec PyProof.Rows

abbrev relN (scope : Scope) (env : Env) : List (Str × NameKind) := (relabel scope env).names
def cellsIn (cells : List (Str × Addr)) : List (Str × Addr) → Prop
  | [] => True
  | p :: r => cells.lookup p.1 = some p.2 ∧ cellsIn cells r
theorem cellsIn.get {cells : List (Str × Addr)} : ∀ {cl : List (Str × Addr)}, cellsIn cells cl → ∀ {y c}, cl.lookup y = some c → cells.lookup y = some c
  | [], _, _, _, e => by simp at e
  | p :: r, h, y, c, e => by
    rw [List.lookup_cons] at e
    cases q : y == p.1 with
    | true =>
      rw [q] at e
      have q' : y = p.1 := beq_iff_eq.mp q
      rw [q', h.1]
      exact e
    | false =>
      rw [q] at e
      exact cellsIn.get h.2 e
/-- the names of the block that are the def's: the place in the def's list -/
def freesIn (X : Cx) (scope : Scope) (cl : List (Str × Addr)) : List Str → List Nat → Prop
  | [], [] => True
  | y :: r, j :: js => (X.N[j]? = some y ∧ X.env.scope.names.lookup y = some .cell ∧ (relN scope X.env).lookup y = some .cell ∧ cl.lookup y = X.env.cells.lookup y) ∧ freesIn X scope cl r js
  | _, _ => False
theorem freesIn.get {X : Cx} {scope : Scope} {cl : List (Str × Addr)} : ∀ {fr : List Str} {js : List Nat}, freesIn X scope cl fr js → ∀ {i : Nat} {y : Str}, fr[i]? = some y →
    ∃ j, js[i]? = some j ∧ X.N[j]? = some y ∧ X.env.scope.names.lookup y = some .cell ∧ (relN scope X.env).lookup y = some .cell ∧ cl.lookup y = X.env.cells.lookup y
  | [], [], _, i, y, e => by simp at e
  | y :: r, j :: js, h, 0, z, e => by
    simp at e; subst e
    exact ⟨j, rfl, h.1⟩
  | y :: r, j :: js, h, i + 1, z, e => by
    obtain ⟨k, a, b⟩ := freesIn.get (i := i) (y := z) h.2 (by simpa using e)
    exact ⟨k, by simpa using a, b⟩
  | [], _ :: _, h, _, _, _ => h.elim
  | _ :: _, [], h, _, _, _ => h.elim
theorem freesIn.len {X : Cx} {scope : Scope} {cl : List (Str × Addr)} : ∀ {fr : List Str} {js : List Nat}, freesIn X scope cl fr js → js.length = fr.length
  | [], [], _ => rfl
  | _ :: _, _ :: _, h => by simp [freesIn.len h.2]
  | [], _ :: _, h => h.elim
  | _ :: _, [], h => h.elim
structure CompScope (X : Cx) (scope : Scope) (cl : List (Str × Addr)) (x : Str) (fr : List Str) (js : List Nat) : Prop where
  kind : scope.kind = .function
  nocell : ∀ y ∈ scope.names, y.2 ≠ .cell
  names : ∀ y ∈ scope.names, y.2 = .local → scope.names.lookup y.1 = some .local
  tgt : scope.names.lookup x = some .local
  clos : closureFor scope X.env = pure cl
  sub : cellsIn X.env.cells cl
  has : ((relN scope X.env).all fun p => !(p.2 == .cell || p.2 == .free) || (cl.lookup p.1).isSome) = true
  frees : freesIn X scope cl fr js
  nd : (x :: fr).Nodup
abbrev freeV (js : List Nat) (σ : St) : St := js.map fun j => (σ[j]?).join

/-- the block's context -/
def cxC (X : Cx) (N' : List Str) (scope : Scope) (cl : List (Str × Addr)) (C : Addr) (fp : List Addr) (s₂ : Shared) (H₂ : Hp) : Cx where
  prog := X.prog
  w := X.w
  K := X.K
  mg := X.mg
  base := X.base
  A := X.A
  N := N'
  s₀ := s₂
  H₀ := H₂
  env := compEnvC scope cl C X.env
  outer := X.stack
  stack := X.stack
  ex := fp
  fn := fun _ => false
  calm := X.calm
  pn := []
  xe := fun _ _ => False

abbrev lobj (its : List Value) (k : Nat) : Obj := { cls := .type "list", data := .seq its.toArray k }

section
variable {X : Cx} {pins : List (Addr × Obj)} {σ : St} {H₂ : Hp} {s₂ : Shared} {scope : Scope} {cl : List (Str × Addr)} {x : Str} {fr : List Str} {js : List Nat} {fp : List Addr} {C : Addr}
theorem cxC_ok (I : Inv X pins σ H₂ s₂) (S : CompScope X scope cl x fr js) (hC : s₂.heap.objs.size ≤ C) (hf : ∀ b ∈ fp, FpOk X pins H₂ b) (hfs : ∀ b ∈ fp, ∃ o, s₂.heap.get? b = some o) : (cxC X (x :: fr) scope cl C fp s₂ H₂).Ok := by
  refine ⟨I.ok.mod, S.kind, I.ok.glob, I.ok.blt, hC, fun y z c h1 h2 => I.ok.inj y z c (S.sub.get h1) (S.sub.get h2), fun y hy => ?_, fun y c h _ => absurd (show false = true from h) Bool.false_ne_true, I.ok.hd, I.ok.frames, .inl rfl, fun b hb => ?_, I.bs,
    Nat.le_trans I.ok.bsz I.sz, fun b o e hb => ?_, fun b hb z => ?_, I.stack, I.stkFree⟩
  · have hy' : (relN scope X.env).lookup y = some .cell ∨ (relN scope X.env).lookup y = some .free := hy
    have key : ∀ k, (relN scope X.env).lookup y = some k → (k = .cell ∨ k = .free) → ∃ c, cl.lookup y = some c := fun k e hk => by
      have q := List.all_eq_true.mp S.has _ (PySem.mem_of_lookup e)
      dsimp only at q
      rw [show (k == NameKind.cell || k == NameKind.free) = true by rcases hk with rfl | rfl <;> rfl] at q
      exact Option.isSome_iff_exists.mp q
    rcases hy' with e | e
    · exact key _ e (.inl rfl)
    · exact key _ e (.inr rfl)
  · obtain ⟨o, e⟩ := hfs b hb
    refine ⟨fun z => ?_, fun y c h => (hf b hb).2.2.2.2.1 y c (S.sub.get h)⟩
    have z' : b = C := z
    exact absurd (Nat.lt_of_lt_of_le (Heap.lt_size e) hC) (by rw [z']; exact Nat.lt_irrefl _)
  · rcases (hf b hb).2.2.2.1 with q | q
    · exact I.ok.noex b o e q
    · exact absurd (Nat.lt_of_lt_of_le (Heap.lt_size e) (Nat.le_trans I.ok.bsz q)) (Nat.lt_irrefl _)
  · rcases List.mem_cons.mp (I.stkSub b z) with q | q
    · exact (hf b hb).2.1 q
    · exact (hf b hb).2.2.1 q

/-- the block begins -/
theorem cxC_start {h₁ : Heap} {D tk : Nat} (I : Inv X pins σ H₂ s₂) (S : CompScope X scope cl x fr js) (hC : s₂.heap.objs.size ≤ C) (hD : s₂.heap.objs.size ≤ D) (hDC : D ≠ C) (hf : ∀ b ∈ fp, FpOk X pins H₂ b) (hfs : ∀ b ∈ fp, ∃ o, s₂.heap.get? b = some o)
    (old : ∀ b o, s₂.heap.get? b = some o → h₁.get? b = some o) (ns : h₁.Ns C fun _ => none) (acc : h₁.get? D = some (lobj [] 0)) :
    Inv (cxC X (x :: fr) scope cl C fp s₂ H₂) [(D, lobj [] 0)] (none :: freeV js σ) H₂ { s₂ with heap := h₁, toks := tk } := by
  have nfr : ∀ b, s₂.heap.objs.size ≤ b → b ∉ frs X.stack := fun b hb z => by
    obtain ⟨_, o, ho, _⟩ := I.stack.mem z
    exact absurd (Nat.lt_of_lt_of_le (Heap.lt_size ho) hb) (Nat.lt_irrefl _)
  refine ⟨cxC_ok I S hC hf hfs, rfl, I.bare, Un.kept old, ⟨_, ns, fun i y v h1 h2 h3 => ?_⟩, fun y c h => ?_, I.hok.fresh hC, fun y c h => I.freeC y c (S.sub.get h), fun p hp => ?_, I.hok.kept old, ?_⟩
  · cases i with
    | zero => simp at h2
    | succ i =>
      have h1' : fr[i]? = some y := by simpa [cxC] using h1
      obtain ⟨j, e1, e2, e3, e4, e5⟩ := S.frees.get h1'
      have h2' : ((σ[j]?).join) = some v := by
        have : (freeV js σ)[i]? = some (some v) := by simpa using h2
        rw [List.getElem?_map, e1] at this
        simpa using this
      have h2'' : σ[j]? = some (some v) := by
        cases q : σ[j]? with
        | none => rw [q] at h2'; cases h2'
        | some z => rw [q] at h2'; exact congrArg some h2'
      obtain ⟨m, hn, hl⟩ := I.loc
      obtain ⟨u, r, l⟩ := hl j y v e2 h2'' (.inr (.inl e3))
      refine ⟨u, r, .inr ⟨.inl e4, ?_⟩⟩
      rcases l with ⟨k, _⟩ | ⟨_, c, ec, o, ho, hd⟩
      · rw [show X.env.kindOf y = X.env.scope.names.lookup y from rfl, e3] at k; cases k
      · exact ⟨c, e5.trans ec, o, old c o ho, hd⟩
  · obtain ⟨v, o, ho, hd⟩ := I.cell y c (S.sub.get h)
    exact ⟨v, o, old c o ho, hd⟩
  · have hp' : p = (D, lobj [] 0) := by simpa [cxC] using hp
    subst hp'
    exact ⟨acc, I.hok.fresh hD, hDC, nfr D hD, fun v z => by cases z⟩
  · show (none :: freeV js σ).length = (x :: fr).length
    simp [freeV, S.frees.len]

/-- the block's end, seen from the def -/
theorem cxC_end {D : Nat} {h' : Heap} {σ' : St} {H' : Hp} {s' : Shared} {acc : List V} {its : List Value} {k : Nat} (I : Inv X pins σ H₂ s₂) (hC : s₂.heap.objs.size ≤ C) (hD : s₂.heap.objs.size ≤ D) (hDC : D ≠ C) (hf : ∀ b ∈ fp, FpOk X pins H₂ b)
    (J : Inv (cxC X (x :: fr) scope cl C fp s₂ H₂) [(D, lobj its k)] σ' H' s') (r : Vals acc its) (hz : acc.length ≤ sizeLine) (hs : Heap.SameBut C s'.heap h') :
    Inv X pins σ (upd H' D (.lst acc)) { s' with heap := h' } := by
  obtain ⟨dD, nD, _⟩ := J.pin (D, lobj its k) (by simp [cxC])
  have nC : H' C = none := J.free
  have neC : ∀ b o, s₂.heap.get? b = some o → b ≠ C := fun b o e z => absurd (Nat.lt_of_lt_of_le (Heap.lt_size e) hC) (by rw [z]; exact Nat.lt_irrefl _)
  have neD : ∀ b o, s₂.heap.get? b = some o → b ≠ D := fun b o e z => absurd (Nat.lt_of_lt_of_le (Heap.lt_size e) hD) (by rw [z]; exact Nat.lt_irrefl _)
  have un : Un (frs X.stack) fp H₂ (upd H' D (.lst acc)) s₂.heap h' := by
    have u : Un (frs X.stack) fp H₂ H' s₂.heap s'.heap := J.base
    have nt : ∀ b o, H' b = some o → b ≠ D := fun b o e => ne_of_none e nD
    refine ⟨fun b o e n hb hx => (hs.2 b (neC b o e)).trans (u.keep b o e n hb hx), fun b o e n hb hx => ?_, fun b o e n hx => ?_, fun b o e hx => ?_, fun b xs e => ?_, fun b o w e => ?_, fun b ps e => ?_⟩
    · obtain ⟨sl, q⟩ := u.slot b o e n hb hx
      exact ⟨sl, (hs.2 b (neC b o e)).trans q⟩
    · rw [upd_ne (neD b o e)]; exact u.free b o e n hx
    · obtain ⟨o', q⟩ := u.there b o e hx
      exact ⟨o', (hs.2 b (neC b o e)).trans q⟩
    · have q := u.tups b xs e
      rw [upd_ne (nt b _ q)]; exact q
    · have q := u.frzs b o w e
      rw [upd_ne (nt b _ q)]; exact q
    · obtain ⟨m, q⟩ := u.tbls b ps e
      exact ⟨m, by rw [upd_ne (nt b _ q)]; exact q⟩
  have hok : HOk X.prog X.w (upd H' D (.lst acc)) h' := fun b o e => by
    by_cases hb : b = D
    · subst hb
      rw [upd_same] at e
      have e' : HO.lst acc = o := Option.some.inj e
      subst e'
      exact ⟨hz, its, k, r, (hs.2 _ hDC).trans dD⟩
    · rw [upd_ne hb] at e
      refine (J.hok b o e).stay (fun c u hc q => (hs.2 c ?_).trans q) (fun c q => ?_) fun c xs q => ?_
      · intro z
        subst z
        rcases hc with z | z
        · rw [← z, nC] at e; cases e
        · rw [nC] at z; cases z
      · rw [upd_ne (ne_of_none q nD)]; exact q
      · rw [upd_ne (ne_of_none q nD)]; exact q
  exact I.call' (s' := { s' with heap := h' }) J.os un hok J.bare fun b hb => ⟨(hf b hb).2.2.2.1, (hf b hb).2.1, (hf b hb).2.2.2.2.1, (hf b hb).2.2.2.2.2⟩
end

/-- [elt for x in iter] -/
def LCW (J : It) (H : Hp) (T : V → Hp → VK → Prop) (Q : VK) : Prop := ∃ W : Nat → Nat → List V → Hp → Prop, (∃ m, W 0 m [] H) ∧ ∀ i m acc H, W i m acc H →
  (J.stop i H ∧ ∀ l, H l = none → Q (.ref l) (upd H l (.lst acc))) ∨
  (J.go i H ∧ acc.length < sizeLine ∧ ∀ x H', J.yld i H x H' → T x H' fun v H2 => ∃ m', m' < m ∧ W (i + 1) m' (acc ++ [v]) H2)
def tLC (wi : TI) (js : List Nat) (te : TE) : TE := fun σ H Q => wi σ H fun J H1 => LCW J H1 (fun x H' R => te (some x :: freeV js σ) H' R) Q

section
variable {X : Cx} {scope : Scope} {cl : List (Str × Addr)} {x : Str} {fr : List Str} {js : List Nat} {elt iter : Expr} {px pos : Pos} {wi : TI} {te : TE}
/-- the walk through the block -/
theorem comp_walk {pins : List (Addr × Obj)} {σ : St} {H₂ : Hp} {s₂ : Shared} {J : It} {fp : List Addr} {it : Addr} {tn : Nat → Heap → Prop} {Q : VK} {E : Value → Shared → Prop} {RR : Value → Addr → Result → Shared → Prop}
    (hc : X.calm = true) (S : CompScope X scope cl x fr js) (he : ∀ C fp s₂ H₂, PE (cxC X (x :: fr) scope cl C fp s₂ H₂) elt te) (I : Inv X pins σ H₂ s₂) (T : Turn X.prog X.w X.K (.Name x px) J fp it tn) (st : tn 0 s₂.heap) (hf : ∀ b ∈ fp, FpOk X pins H₂ b)
    (h : ∃ W : Nat → Nat → List V → Hp → Prop, (∃ m, W 0 m [] H₂) ∧ ∀ i m acc H, W i m acc H →
      (J.stop i H ∧ ∀ l, H l = none → Q (.ref l) (upd H l (.lst acc))) ∨
      (J.go i H ∧ acc.length < sizeLine ∧ ∀ x H', J.yld i H x H' → te (some x :: freeV js σ) H' fun v H2 => ∃ m', m' < m ∧ W (i + 1) m' (acc ++ [v]) H2))
    (hRR : ∀ (D C : Addr) (s' : Shared) (acc : List V) (H' : Hp), (∃ m, s'.heap.Ns C m) → C ≠ X.env.locals → (X.s₀.heap.objs.size ≤ C) → (∀ y c, X.env.cells.lookup y = some c → c ≠ C) → (∀ p ∈ X.pn ++ pins, p.1 ≠ C) → H' C = none → C ≠ D → H' D = none →
      (∀ h', Heap.SameBut C s'.heap h' → Inv X pins σ (upd H' D (.lst acc)) { s' with heap := h' }) → Q (.ref D) (upd H' D (.lst acc)) → RR (.ref D) C (.ok .next) s') :
    wpAny (model X.prog X.w) X.A (newList []) (fun acc s₃ => wpAny (model X.prog X.w) X.A (newFunctionEnv scope X.env.globals cl [] X.env.qual none .none (some X.env)) (fun cenv s₄ =>
      codeAny (model X.prog X.w) X.A (.compStart (.ListComp elt [⟨.Name x px, iter, [], 0⟩] scope pos) 0 (.ref it) acc { cenv with scope := relabel scope X.env }) (RR acc cenv.locals) s₄) E s₃) E s₂ := by
  obtain ⟨W, ⟨m0, w0⟩, turn⟩ := h
  have hfs : ∀ b ∈ fp, ∃ o, s₂.heap.get? b = some o := fun b hb => by
    obtain ⟨o, e, _⟩ := T.obj _ _ st b hb
    exact ⟨o, e⟩
  refine wpAny_newObj_type (wpAny_newFunctionEnv S.nocell (by intro y hy; simp at hy) (fun h₁ hns₁ hsb₁ => ?_) S.kind)
  dsimp only at hns₁ hsb₁ ⊢
  generalize hH2 : s₂.heap.push { cls := .type "list", dict := none, data := .seq ([] : List Value).toArray } = G2 at hns₁ hsb₁ ⊢
  have hCs : G2.objs.size = s₂.heap.objs.size + 1 := by rw [← hH2, Heap.size_push]
  have hC : s₂.heap.objs.size ≤ G2.objs.size := by rw [hCs]; exact Nat.le_succ _
  have hDC : s₂.heap.objs.size ≠ G2.objs.size := by rw [hCs]; exact Nat.ne_of_lt (Nat.lt_succ_self _)
  have old : ∀ b o, s₂.heap.get? b = some o → h₁.get? b = some o := fun b o e =>
    hsb₁.extBut b o (Nat.ne_of_lt (Nat.lt_of_lt_of_le (Heap.lt_size e) hC)) (Heap.get?_push_of_some _ (hH2 ▸ Heap.get?_push_of_some _ e))
  have hacc : h₁.get? s₂.heap.objs.size = some (lobj [] 0) := hsb₁.extBut _ _ hDC (Heap.get?_push_of_some _ (hH2 ▸ Heap.get?_push_size _ rfl))
  have ns0 : h₁.Ns G2.objs.size fun _ => none := hns₁
  have I0 := cxC_start (h₁ := h₁) (tk := s₂.toks + ([] : List (Str × Value)).length) I S hC (Nat.le_refl _) hDC hf hfs old ns0 hacc
  generalize hD : s₂.heap.objs.size = D at hacc hDC I0 hCs ⊢
  have hD' : s₂.heap.objs.size ≤ D := Nat.le_of_eq hD
  generalize hCC : G2.objs.size = C at *
  have hst₁ : tn 0 h₁ := T.keep _ _ _ st fun b _ o e => old b o e
  have neD : ∀ b ∈ fp, b ≠ D := fun b hb z => by
    obtain ⟨o, e⟩ := hfs b hb
    exact absurd (Nat.lt_of_lt_of_le (Heap.lt_size e) hD') (by rw [z]; exact Nat.lt_irrefl _)
  have neC : ∀ b ∈ fp, b ≠ C := fun b hb z => by
    obtain ⟨o, e⟩ := hfs b hb
    exact absurd (Nat.lt_of_lt_of_le (Heap.lt_size e) hC) (by rw [z]; exact Nat.lt_irrefl _)
  have nfr : ∀ b, s₂.heap.objs.size ≤ b → b ∉ frs X.stack := fun b hb z => by
    obtain ⟨_, o, ho, _⟩ := I.stack.mem z
    exact absurd (Nat.lt_of_lt_of_le (Heap.lt_size ho) hb) (Nat.lt_irrefl _)
  have cne : ∀ y c, X.env.cells.lookup y = some c → c < s₂.heap.objs.size := fun y c e => by
    obtain ⟨v, o, ho, _⟩ := I.cell y c e
    exact Heap.lt_size ho
  have stat : ∀ {ob : Obj} {H' : Hp}, (∀ b ∈ fp, H' b = none) → ∀ b ∈ fp, FpOk (cxC X (x :: fr) scope cl C fp s₂ H₂) [(D, ob)] H' b := fun {ob H'} hn b hb => by
    refine ⟨hn b hb, neC b hb, fun z => ?_, .inl hb, fun y c e => (hf b hb).2.2.2.2.1 y c (S.sub.get e), fun p hp => ?_⟩
    · rcases List.mem_cons.mp (I.stkSub b z) with q | q
      · exact (hf b hb).2.1 q
      · exact (hf b hb).2.2.1 q
    · have hp' : p = (D, ob) := by simpa [cxC] using hp
      rw [hp']
      exact (neD b hb).symm
  have loop : ∀ s₃ : Shared, s₃ = { s₂ with heap := h₁, toks := s₂.toks + ([] : List (Str × Value)).length } →
      codeAny (model X.prog X.w) X.A (.compLoop (.ListComp elt [⟨.Name x px, iter, [], 0⟩] scope pos) 0 (.ref it) (.ref D) (compEnvC scope cl C X.env)) (RR (.ref D) C) s₃ := by
    rintro s₃ rfl
    refine codeAny_compLoop_tests (fun n s' => ∃ (i k : Nat) (acc : List V) (its : List Value) (v0 : Option V) (H' : Hp), Inv (cxC X (x :: fr) scope cl C fp s₂ H₂) [(D, lobj its k)] (v0 :: freeV js σ) H' s' ∧ Vals acc its ∧ acc.length ≤ sizeLine ∧ tn i s'.heap ∧ (∀ b ∈ fp, H' b = none) ∧ W i n acc H')
      ?_ m0 ⟨0, 0, [], [], none, H₂, I0, .nil, Nat.zero_le _, hst₁, fun b hb => (hf b hb).1, w0⟩
    rintro n s3 ⟨i, k, acc, its, v0, H3, I3, r3, z3, st3, fr3, w3⟩
    rcases turn i n acc H3 w3 with ⟨stop, qn⟩ | ⟨go, zl, step⟩
    · refine wpAny_mono (T.done (cxC X (x :: fr) scope cl C fp s₂ H₂) rfl rfl rfl hc i _ s3 _ H3 (fun _ _ => False) I3 (stat fr3) st3 stop) (fun r s4 ⟨hr, I4⟩ => ?_) fun _ _ z => z.elim
      subst hr
      obtain ⟨m, hn, _⟩ := id I4.loc
      obtain ⟨dD, nD, _⟩ := I4.pin (D, lobj its k) (by simp [cxC])
      refine hRR D C s4 acc H3 ⟨m, hn⟩ (fun z => ?_) (Nat.le_trans I.sz hC) (fun y c e z => ?_) (fun p hp z => ?_) I4.free (Ne.symm hDC) nD (fun h' hs => cxC_end I hC hD' hDC hf I4 r3 z3 hs) (qn D nD)
      · exact absurd (Nat.lt_of_lt_of_le I.lt hC) (by rw [z]; exact Nat.lt_irrefl _)
      · exact absurd (Nat.lt_of_lt_of_le (cne y c e) hC) (by rw [z]; exact Nat.lt_irrefl _)
      · exact absurd (Nat.lt_of_lt_of_le (Heap.lt_size (I.pin p hp).1) hC) (by rw [z]; exact Nat.lt_irrefl _)
    · refine wpAny_mono (T.item (cxC X (x :: fr) scope cl C fp s₂ H₂) rfl rfl rfl hc i _ s3 _ H3 (fun _ _ => False) I3 (stat fr3) st3 go) (fun r s4 ⟨u, hr, h4⟩ => ?_) fun _ _ z => z.elim
      subst hr
      have go1 : wpAny (model X.prog X.w) X.A (letOwnedTupleGo (.Name x px) (.ref it) u >>= fun _ => assign (.Name x px) (compEnvC scope cl C X.env) u)
          (fun _ s₂_1 => wpAny (model X.prog X.w) X.A (forIn ([] : List Expr) true fun c r => if r = true then do let ok ← isTrue c (compEnvC scope cl C X.env) (eval c (compEnvC scope cl C X.env)); pure (ForInStep.yield ok) else pure (ForInStep.yield r)) (fun ok s₃ =>
            if ok = true then wpAny (model X.prog X.w) X.A (eval elt (compEnvC scope cl C X.env)) (fun x_1 s₄ =>
              wpAny (model X.prog X.w) X.A (call (.builtin "list.append") [.ref D, x_1]) (fun _ s₅ => ∃ m, m < n ∧ ∃ (i k : Nat) (acc : List V) (its : List Value) (v0 : Option V) (H' : Hp), Inv (cxC X (x :: fr) scope cl C fp s₂ H₂) [(D, lobj its k)] (v0 :: freeV js σ) H' s₅ ∧ Vals acc its ∧ acc.length ≤ sizeLine ∧ tn i s₅.heap ∧ (∀ b ∈ fp, H' b = none) ∧ W i m acc H')
                (notedBy (model X.prog X.w) X.A (compEnvC scope cl C X.env) fun e s' => RR (.ref D) C (.error e) s') s₄) (notedBy (model X.prog X.w) X.A (compEnvC scope cl C X.env) fun e s' => RR (.ref D) C (.error e) s') s₃
            else ∃ m, m < n ∧ ∃ (i k : Nat) (acc : List V) (its : List Value) (v0 : Option V) (H' : Hp), Inv (cxC X (x :: fr) scope cl C fp s₂ H₂) [(D, lobj its k)] (v0 :: freeV js σ) H' s₃ ∧ Vals acc its ∧ acc.length ≤ sizeLine ∧ tn i s₃.heap ∧ (∀ b ∈ fp, H' b = none) ∧ W i m acc H')
            (notedBy (model X.prog X.w) X.A (compEnvC scope cl C X.env) fun e s' => RR (.ref D) C (.error e) s') s₂_1) (notedBy (model X.prog X.w) X.A (compEnvC scope cl C X.env) fun e s' => RR (.ref D) C (.error e) s') s4 := by
        refine wpAny_bind (wpAny_mono h4 (fun _ s5 ⟨y, H5, I5, r5, y5, st5, fr5⟩ => ?_) fun _ _ z => z.elim)
        have I5' := I5.pinned (stat fr5) (T.obj _ _ st5)
        refine wpAny_assign_Name (store_ok (X := cxC X (x :: fr) scope cl C fp s₂ H₂) (i := 0) (v := y) I5' S.nd rfl (.inl (lookup_relabel_local S.tgt)) r5 (fun s6 I6 => ?_) (.inr (lookup_relabel_local S.tgt)))
        refine wpAny_tests_nil ?_
        rw [if_pos rfl]
        refine wpAny_mono (he C fp s₂ H₂ _ s6 _ H5 _ I6 (step y H5 y5)) (fun uv s7 ⟨v, H7, I7, r7, m', hm, w7⟩ => ?_) fun _ _ z => (show False from z).elim
        obtain ⟨dD, nD, nDC, nDf, _⟩ := I7.pin (D, lobj its k) (by simp [cxC])
        have keepfp : ∀ b ∈ fp, ∀ o, s5.heap.get? b = some o → s7.heap.get? b = some o ∧ H7 b = none := fun b hb o e => by
          have q := I7.pin (b, o) (List.mem_append_right _ (List.mem_append_right _ (mem_pinsAt hb e)))
          exact ⟨q.1, q.2.1⟩
        have lenI : acc.length = its.length := r3.length
        refine call_meets F.slot_list_append ⟨_, dD, rfl⟩ F.entry_list_append (F.args_list_append_2 _ _) (PySem.list_append D its.toArray k uv (by rw [List.size_toArray]; omega)) ⟨dD, ?_⟩
        obtain ⟨k', q⟩ : ∃ k', (s7.heap.update D (Obj.mapSeq fun a => a.push uv)).get? D = some (lobj (its ++ [uv]) k') := ⟨_, by
          have z := PySem.IsL.update dD (fun a => a.push uv)
          rw [List.push_toArray] at z
          exact z⟩
        have kother : ∀ b o, b ≠ D → s7.heap.get? b = some o → (s7.heap.update D (Obj.mapSeq fun a => a.push uv)).get? b = some o := fun b o hb e => (Heap.get?_update_other s7.heap (Obj.mapSeq fun a => a.push uv) (Ne.symm hb)).trans e
        have I8 : Inv (cxC X (x :: fr) scope cl C fp s₂ H₂) [] (some y :: freeV js σ) H7 s7 := I7.pins_of fun p hp => nomatch hp
        have I9 : Inv (cxC X (x :: fr) scope cl C fp s₂ H₂) [] (some y :: freeV js σ) H7 { s7 with heap := s7.heap.update D (Obj.mapSeq fun a => a.push uv), toks := s7.toks } :=
          I8.turned (it := D) kother nD hDC (.inr hD') (fun y c e z => absurd (Nat.lt_of_lt_of_le (cne y c (S.sub.get e)) hD') (by rw [z]; exact Nat.lt_irrefl _)) (fun p hp => by simp [cxC] at hp)
        refine ⟨m', hm, i + 1, k', acc ++ [v], its ++ [uv], some y, H7, I9.pins_of fun p hp => ?_, r3.append (.cons r7 .nil), by rw [List.length_append, List.length_singleton]; omega, T.keep _ _ _ st5 fun b hb o e => ?_, fun b hb => ?_, w7⟩
        · have hp' : p = (D, lobj (its ++ [uv]) k') := by simpa using hp
          subst hp'
          exact ⟨q, nD, hDC, nfr D hD', fun v z => by cases z⟩
        · exact kother b o (neD b hb) (keepfp b hb o e).1
        · obtain ⟨o, e, _⟩ := T.obj _ _ st5 b hb
          exact (keepfp b hb o e).2
      exact go1
  exact codeAny_compStart_list (loop _ rfl) (T.self _ 0 _ _ _ hst₁ (loop _ rfl))

theorem pe_lc (hc : X.calm = true) (S : CompScope X scope cl x fr js) (hi : PI X (.Name x px) iter wi) (he : ∀ C fp s₂ H₂, PE (cxC X (x :: fr) scope cl C fp s₂ H₂) elt te)
    (hs : ∀ z, foldedSetIterable iter X.env z = pure z := by intro _; rfl) : PE X (.ListComp elt [⟨.Name x px, iter, [], 0⟩] scope pos) (tLC wi js te) := by
  intro pins s σ H Q I h
  rw [eval_ListComp]
  refine wpAny_comprehension_free (use := none) rfl hs S.clos S.kind S.names (wpAny_mono (hi pins s σ H _ I h) (fun xv s₁ h₁ => wpAny_mono h₁ (fun itv s₂ h₂ => ?_) fun _ _ e => e) fun _ _ e => e)
  obtain ⟨it, fp, tn, J, H2, e, I2, T, st2, f2, hw⟩ := h₂
  subst e
  refine comp_walk (RR := fun acc C => compPost (model X.prog X.w) X.A X.xe none (EP X pins σ Q) acc C) hc S he I2 T st2 f2 hw ?_
  intro D C s' acc H' hn _ _ _ _ _ _ _ hI hQ
  obtain ⟨m, hn⟩ := hn
  exact ⟨m, hn, fun h' hs' => ⟨.ref D, _, hI h' hs', rfl, hQ⟩⟩

/-- y = [elt for x in iter], on one row: the store comes ahead of the letting go -/
theorem ps_lc {y : Str} {py spos : Pos} {i : Nat} (hN : X.N.Nodup) (hy : X.N[i]? = some y) (hloc : X.env.scope.names.lookup y = some .local)
    (hsw : swapsWith (.ListComp elt [⟨.Name x px, iter, [], 0⟩] scope pos) (some (.Name y py)) spos.line X.env = pure true)
    (hc : X.calm = true) (S : CompScope X scope cl x fr js) (hi : PI X (.Name x px) iter wi) (he : ∀ C fp s₂ H₂, PE (cxC X (x :: fr) scope cl C fp s₂ H₂) elt te)
    (hs : ∀ z, foldedSetIterable iter X.env z = pure z := by intro _; rfl) : PS X (.Assign [.Name y py] (.ListComp elt [⟨.Name x px, iter, [], 0⟩] scope pos) spos) (fun D σ H => tLC wi js te σ H fun v H' => D.nx (σ.set i (some v)) H') := by
  intro pins s σ H D I h
  rw [exec_Assign_Name_used _ _ _ _ hsw]
  refine wpAny_bind (wpAny_standAt (wpAny_bind ?_))
  show wpAny _ X.A (do let _ ← comprehension (.ListComp elt [⟨.Name x px, iter, [], 0⟩] scope pos) scope X.env _ (newList []) false (eval iter X.env) (some (assign (.Name y py) X.env))) _ _ s
  refine wpAny_bind (wpAny_mono (wpAny_comprehension_free (use := some (assign (.Name y py) X.env)) (Q := fun _ s' => SP X pins D .next s') rfl hs S.clos S.kind S.names
    (wpAny_mono (hi pins s σ H _ I h) (fun xv s₁ h₁ => wpAny_mono h₁ (fun itv s₂ h₂ => ?_) fun _ _ e => e) fun _ _ e => e)) (fun _ s' hq => wpAny_pure (wpAny_pure hq)) fun _ _ e => e)
  obtain ⟨it, fp, tn, J, H2, e, I2, T, st2, f2, hw⟩ := h₂
  subst e
  refine comp_walk (Q := fun v H' => D.nx (σ.set i (some v)) H') (RR := fun acc C => compPost (model X.prog X.w) X.A X.xe (some (assign (.Name y py) X.env)) (fun _ s' => SP X pins D .next s') acc C) hc S he I2 T st2 f2 hw ?_
  intro A C s' acc H' hn nL nS nCell nPin nC nCA nA hI hQ
  obtain ⟨m, hn⟩ := hn
  have I0 : Inv X pins σ (upd H' A (.lst acc)) s' := hI s'.heap (.refl ..)
  show wpAny _ X.A (assign (.Name y py) X.env (.ref A)) _ _ _
  refine wpAny_assign_Name (store_ok2 I0 hN hy (.inl hloc) (v := .ref A) rfl (fun s5 I5 ⟨a, sb, ha⟩ => ?_) (.inr hloc))
  have ne : C ≠ a := by
    rcases ha with rfl | ha
    · exact nL
    · exact Ne.symm (nCell y a ha)
  refine ⟨m, hn.sameBut sb ne, fun h' hs' => ⟨_, _, ?_, hQ⟩⟩
  exact I5.turned (it := C) (t' := s5.toks) (fun b o hb e => (hs'.2 b hb).trans e) (by rw [upd_ne nCA]; exact nC) nL (.inr nS) nCell nPin
end

/-- over a range: the element's reading, turn by turn -/
theorem LCW.range {lo : Int} {n : Nat} {T : V → Hp → VK → Prop} {H : Hp} {Q : VK} (f : Nat → V) (hn : n ≤ sizeLine) (hs : ∀ i, i < n → ∀ R : VK, R (f i) H → T (.int (lo + i)) H R) (hd : ∀ l, H l = none → Q (.ref l) (upd H l (.lst ((List.range n).map f)))) :
    LCW (Itr lo n) H T Q := by
  refine ⟨fun i m acc H1 => m = n - i ∧ i ≤ n ∧ H1 = H ∧ acc = (List.range i).map f, ⟨n, by simp, Nat.zero_le _, rfl, rfl⟩, ?_⟩
  rintro i m acc H1 ⟨rfl, hi, rfl, rfl⟩
  by_cases hlt : i < n
  · refine .inr ⟨hlt, by rw [List.length_map, List.length_range]; omega, fun x H' y => ?_⟩
    obtain ⟨e, y⟩ := y
    subst e y
    refine hs i hlt _ ⟨n - (i + 1), by omega, rfl, hlt, rfl, ?_⟩
    rw [List.range_succ, List.map_append]
    rfl
  · have e : i = n := by omega
    subst e
    exact .inl ⟨Nat.le_refl _, hd⟩
/-- over a list that stays -/
theorem LCW.list {K : PySem.W.Frag} {a : Addr} {xs : List V} {T : V → Hp → VK → Prop} {H : Hp} {Q : VK} (f : V → V) (hl : SqL K H a xs) (hn : xs.length ≤ sizeLine) (hs : ∀ x, x ∈ xs → ∀ R : VK, R (f x) H → T x H R) (hd : ∀ l, H l = none → Q (.ref l) (upd H l (.lst (xs.map f)))) :
    LCW (Itl K a) H T Q := by
  refine ⟨fun i m acc H1 => m = xs.length - i ∧ i ≤ xs.length ∧ H1 = H ∧ acc = (xs.take i).map f, ⟨xs.length, by simp, Nat.zero_le _, rfl, rfl⟩, ?_⟩
  rintro i m acc H1 ⟨rfl, hi, rfl, rfl⟩
  by_cases hlt : i < xs.length
  · refine .inr ⟨⟨xs, xs[i], hl, by simp [hlt]⟩, by rw [List.length_map, List.length_take]; omega, fun x H' y => ?_⟩
    obtain ⟨e, y⟩ := y
    subst e
    have hx := y xs hl
    obtain ⟨h1, h2⟩ := List.getElem?_eq_some_iff.mp hx
    refine hs x (by rw [← h2]; exact List.getElem_mem h1) _ ⟨xs.length - (i + 1), by omega, rfl, hlt, rfl, ?_⟩
    rw [List.take_add_one, hx, List.map_append]
    rfl
  · have e : i = xs.length := by omega
    subst e
    refine .inl ⟨⟨xs, hl, Nat.le_refl _⟩, ?_⟩
    rw [List.take_length]
    exact hd
/-! for, with a name for what is left -/
def FoW (J : It) (σ : St) (H : Hp) (T : V → St → Hp → (St → Hp → Prop) → Prop) (nx : St → Hp → Prop) : Prop := ∃ W : Nat → Nat → St → Hp → Prop, (∃ m, W 0 m σ H) ∧ ∀ i m σ H, W i m σ H →
  (J.stop i H ∧ nx σ H) ∨ (J.go i H ∧ ∃ N : St → Hp → Prop, (∀ σ' H', N σ' H' → ∃ m', m' < m ∧ W (i + 1) m' σ' H') ∧ ∀ x H', J.yld i H x H' → T x σ H' N)
def tForW (wi : TI) (g : TG) (tb : TS) : TS := fun D σ H => wi σ H fun J H1 => FoW J σ H1 (fun x σ H' N => g x σ H' fun σ2 H2 => tb { D with nx := N, ct := N, bk := D.nx } σ2 H2) D.nx
theorem ps_forW {X : Cx} {tg iter : Expr} {body : List Stmt} {wi : TI} {g : TG} {tb : TS} {pos : Pos} (hp : PassesOwn (model X.prog X.w) X.A X.env X.xe) (hc : X.calm = true) (hi : PI X tg iter wi) (hg : PG X tg g) (hb : PSs X body tb)
    (hs : ∀ x, foldedSetIterable iter X.env x = pure x := by intro _; rfl) : PS X (.For tg iter body [] pos) (tForW wi g tb) := ps_for hp hc hi hg hb hs
theorem FoW.list {K : PySem.W.Frag} {a : Addr} {xs : List V} {T : V → St → Hp → (St → Hp → Prop) → Prop} {nx : St → Hp → Prop} {σ : St} {H : Hp} (Pv : Nat → St → Hp → Prop) (h0 : Pv 0 σ H) (hl : ∀ i σ H, i ≤ xs.length → Pv i σ H → SqL K H a xs)
    (hs : ∀ i x σ H, xs[i]? = some x → Pv i σ H → T x σ H (Pv (i + 1))) (hd : ∀ σ H, Pv xs.length σ H → nx σ H) : FoW (Itl K a) σ H T nx := by
  refine ⟨fun i m σ H => m = xs.length - i ∧ i ≤ xs.length ∧ Pv i σ H, ⟨xs.length, by simp, Nat.zero_le _, h0⟩, ?_⟩
  rintro i m σ H ⟨rfl, hi, p⟩
  have q := hl i σ H hi p
  by_cases hlt : i < xs.length
  · refine .inr ⟨⟨xs, xs[i], q, by simp [hlt]⟩, Pv (i + 1), fun σ' H' p' => ⟨xs.length - (i + 1), by omega, rfl, hlt, p'⟩, fun x H' y => ?_⟩
    obtain ⟨e, y⟩ := y
    subst e
    exact hs i x σ _ (y xs q) p
  · have e : i = xs.length := by omega
    subst e
    exact .inl ⟨⟨xs, q, Nat.le_refl _⟩, hd σ H p⟩
theorem FoW.range {lo : Int} {n : Nat} {T : V → St → Hp → (St → Hp → Prop) → Prop} {nx : St → Hp → Prop} {σ : St} {H : Hp} (Pv : Nat → St → Hp → Prop) (h0 : Pv 0 σ H)
    (hs : ∀ i σ H, i < n → Pv i σ H → T (.int (lo + i)) σ H (Pv (i + 1))) (hd : ∀ σ H, Pv n σ H → nx σ H) : FoW (Itr lo n) σ H T nx := by
  refine ⟨fun i m σ H => m = n - i ∧ i ≤ n ∧ Pv i σ H, ⟨n, by simp, Nat.zero_le _, h0⟩, ?_⟩
  rintro i m σ H ⟨rfl, hi, p⟩
  by_cases hlt : i < n
  · refine .inr ⟨hlt, Pv (i + 1), fun σ' H' p' => ⟨n - (i + 1), by omega, rfl, hlt, p'⟩, fun x H' y => ?_⟩
    obtain ⟨e, y⟩ := y
    subst e y
    exact hs i σ _ hlt p
  · have e : i = n := by omega
    subst e
    exact .inl ⟨Nat.le_refl _, hd σ H p⟩
end L2

namespace L2
open PySem PySem.Spec PyProof.Rows
theorem ints_of : ∀ {ns : List Int} {us : List Value}, Vals (ns.map V.int) us → IntsAre us ns
  | [], _, .nil => .nil
  | _ :: _, _, .cons r t => by
    obtain ⟨t', rfl⟩ := r
    exact .cons _ t' (ints_of t)
section
variable {X : Cx}
/-- max, min of a list of ints -/
def rBest (K : PySem.W.Frag) (le : Int → Int → Prop) : List V → Hp → VK → Prop := fun xs H Q => ∃ (l : Addr) (ns : List Int), xs = [.ref l] ∧ SqL K H l (ns.map V.int) ∧ 0 < ns.length ∧ ∀ M, M ∈ ns → (∀ a, a ∈ ns → le a M) → Q (.int M) H
theorem call_maxL (hc : X.calm = true) : CallR X (.builtin "max") (rBest X.K fun a M => a ≤ M) := by
  intro pins s σ H xs us Q I r h
  obtain ⟨l, ns, rfl, hl, hne, q⟩ := h
  obtain ⟨u, rfl, rfl⟩ := vals1 r
  obtain ⟨its, rv, pl, hz⟩ := I.list hl
  have hi := ints_of rv
  obtain ⟨ys, e⟩ := hi.allInts.items
  have hns : ns = ys.toList.map (·.1) := by rw [← hi.numsOf, ← nums_intItems, ← e]
  have hsz : 0 < ys.size := by simpa [hns] using hne
  have il := pl.isList
  rw [e] at il
  refine max_intList (I.ok.hd hc) il hsz fun v h' tk hv hk => ?_
  obtain ⟨t, rfl⟩ := intItems_at hv
  obtain ⟨b1, b2⟩ := argBest_gt (numAt ys) (ys.size - 1)
  refine ⟨.int _, H, I.kept hk, ⟨_, rfl⟩, q _ ?_ fun a ha => ?_⟩
  · rw [hns, numAt_eq]
    refine getD_mem ?_
    rw [List.length_map]
    rw [Array.length_toList]
    omega
  · rw [hns] at ha
    obtain ⟨j, hj, rfl⟩ := mem_getD ha
    rw [← numAt_eq]
    refine b2 j ?_
    rw [List.length_map] at hj
    rw [Array.length_toList] at hj
    omega
theorem call_minL (hc : X.calm = true) : CallR X (.builtin "min") (rBest X.K fun a M => M ≤ a) := by
  intro pins s σ H xs us Q I r h
  obtain ⟨l, ns, rfl, hl, hne, q⟩ := h
  obtain ⟨u, rfl, rfl⟩ := vals1 r
  obtain ⟨its, rv, pl, hz⟩ := I.list hl
  have hi := ints_of rv
  obtain ⟨ys, e⟩ := hi.allInts.items
  have hns : ns = ys.toList.map (·.1) := by rw [← hi.numsOf, ← nums_intItems, ← e]
  have hsz : 0 < ys.size := by simpa [hns] using hne
  have il := pl.isList
  rw [e] at il
  refine min_intList (I.ok.hd hc) il hsz fun v h' tk hv hk => ?_
  obtain ⟨t, rfl⟩ := intItems_at hv
  obtain ⟨b1, b2⟩ := argBest_lt (numAt ys) (ys.size - 1)
  refine ⟨.int _, H, I.kept hk, ⟨_, rfl⟩, q _ ?_ fun a ha => ?_⟩
  · rw [hns, numAt_eq]
    refine getD_mem ?_
    rw [List.length_map]
    rw [Array.length_toList]
    omega
  · rw [hns] at ha
    obtain ⟨j, hj, rfl⟩ := mem_getD ha
    rw [← numAt_eq]
    refine b2 j ?_
    rw [List.length_map] at hj
    rw [Array.length_toList] at hj
    omega
end
end L2
namespace L2
open PySem PySem.Spec PyProof.Rows
theorem passC {X : Cx} {N' : List Str} {scope : Scope} {cl : List (Str × Addr)} {C : Addr} {fp : List Addr} {s : Shared} {H : Hp} : Passes (CXW X.prog X.w) (cxC X N' scope cl C fp s H) E0 := fun pins σ H s e s' I q => by
  obtain ⟨x, cls, a0, od, H', B, _, _, _, _, _, hE⟩ := q
  exact hE.elim
theorem cxC_K {X : Cx} {N' : List Str} {scope : Scope} {cl : List (Str × Addr)} {C : Addr} {fp : List Addr} {s : Shared} {H : Hp} : (cxC X N' scope cl C fp s H).K = X.K := rfl
theorem upd_id {H : Hp} {a : Addr} {o : HO} (h : H a = some o) : upd H a o = H := by
  funext b
  by_cases e : b = a
  · subst e; rw [upd_same, h]
  · rw [upd_ne e]
theorem Same.upd_of {H H' : Hp} {p : Addr} {o : HO} (h : Same H H') (n : H p = none) : Same H (L2.upd H' p o) := fun b u e => by
  rw [upd_ne (ne_of_none e n)]
  exact h b u e
end L2

namespace L2
open PySem PySem.Spec PyProof.Rows
section
variable {X : Cx}
/-- two lists of ints -/
def rEqL (K : PySem.W.Frag) : R2 := fun x y H Q => ∃ (l b : Addr) (ns ms : List Int), x = .ref l ∧ y = .ref b ∧ SqL K H l (ns.map V.int) ∧ SqL K H b (ms.map V.int) ∧ Q (.bl (decide (ns = ms))) H
theorem op_eqL (hu : X.A.units + 64 < cLine) : OpR X (compareOp .Eq) (rEqL X.K) := by
  intro pins s σ H x y v u Q I rx ry h
  obtain ⟨l, b, ns, ms, rfl, rfl, h1, h2, q⟩ := h
  cases rx
  cases ry
  obtain ⟨its, r1, p1, z1⟩ := I.list h1
  obtain ⟨ks, r2, p2, z2⟩ := I.list h2
  exact PySem.W.ke_eq_ints p1.isList p2.isList (ints_of r1) (ints_of r2) hu ⟨.bl _, H, I, rfl, q⟩
def rNeL (K : PySem.W.Frag) : R2 := fun x y H Q => ∃ (l b : Addr) (ns ms : List Int), x = .ref l ∧ y = .ref b ∧ SqL K H l (ns.map V.int) ∧ SqL K H b (ms.map V.int) ∧ Q (.bl (!decide (ns = ms))) H
theorem op_neL (hu : X.A.units + 64 < cLine) : OpR X (compareOp .NotEq) (rNeL X.K) := by
  intro pins s σ H x y v u Q I rx ry h
  obtain ⟨l, b, ns, ms, rfl, rfl, h1, h2, q⟩ := h
  cases rx
  cases ry
  obtain ⟨its, r1, p1, z1⟩ := I.list h1
  obtain ⟨ks, r2, p2, z2⟩ := I.list h2
  exact PySem.W.ke_ne_ints p1.isList p2.isList (ints_of r1) (ints_of r2) hu ⟨.bl _, H, I, rfl, q⟩
/-- list(range(n)) -/
def rows (lo : Int) (n : Nat) : List V := (List.range n).map fun (i : Nat) => .int (lo + i)
def tLR (ta : TA) : TE := fun σ H Q => ta σ H fun vs H1 => ∃ j : Int, vs = [.int j] ∧ -(2 ^ 20) ≤ j ∧ j < 2 ^ 20 ∧ ∀ p, H1 p = none → Q (.ref p) (upd H1 p (.lst (rows 0 j.toNat)))
theorem vals_rows {lo : Int} {n : Nat} {acc : Array Value} (h : ItemsOf (fun i v => ∃ t, v = .int (lo + i * 1) t) acc n) : Vals (rows lo n) acc.toList := by
  obtain ⟨h1, h2⟩ := h
  have key : ∀ (us : List Value) (k : Nat), (∀ j v, us[j]? = some v → ∃ t, v = Value.int (lo + ((k + j : Nat) : Int)) t) → Vals ((List.range' k us.length).map fun (i : Nat) => V.int (lo + i)) us := by
    intro us
    induction us with
    | nil => exact fun k _ => .nil
    | cons u us ih =>
      intro k hk
      obtain ⟨t, e⟩ := hk 0 u rfl
      refine .cons ⟨t, e⟩ (ih (k + 1) fun j v hj => ?_)
      have := hk (j + 1) v hj
      rw [show k + 1 + j = k + (j + 1) by omega]
      exact this
  have := key acc.toList 0 fun j v hj => by
    obtain ⟨t, e⟩ := h2 j v (by simpa using hj)
    exact ⟨t, by rw [e, Int.mul_one, Nat.zero_add]⟩
  rw [show acc.toList.length = n by simpa using h1] at this
  rw [rows, List.range_eq_range']
  exact this
theorem pe_listrange1 {a : Expr} {ta : TA} {p p' pos pos' : Pos} (hc : X.calm = true) (hgl : Gl X "list") (hml : X.mg "list" = none) (hg : Gl X "range") (hm : X.mg "range" = none) (ha : PA X [a] ta) (hs : starEach [a] X.env = [(false, eval a X.env)] := by rfl)
    (hs2 : starEach [Expr.Call (.Name "range" p') [a] [] pos'] X.env = [(false, eval (.Call (.Name "range" p') [a] [] pos') X.env)] := by rfl) :
    PE X (.Call (.Name "list" p) [.Call (.Name "range" p') [a] [] pos'] [] pos) (tLR ta) := by
  intro pins s σ H Q I h
  refine Call_ (ld_blt I hgl hml (show bootBuiltins "list" = some (.type "list") by decide +kernel) (PyProof.Rows.callWith_type1 ?_ hs2 rfl))
  rw [hs2]
  refine Calls.spliced_cons ?_
  refine Call_ (ld_blt I hg hm boot_range (PyProof.Rows.callWith_type1 (thn (ha pos' pins s σ H _ I h) fun us s1 ⟨vs, H1, I1, r1, q1⟩ => ?_) hs rfl))
  obtain ⟨j, e, q1, q2, q⟩ := q1
  subst e
  cases r1 with
  | cons r rr =>
    cases rr
    obtain ⟨t, rfl⟩ := r
    refine call_range_1 ?_
    refine Calls.spliced_nil ?_
    have I2 : Inv X pins σ H1 { s1 with heap := s1.heap.push { cls := .type "range", data := .fields #[.int 0 s1.toks, .int j t, .int 1 (s1.toks + 1)] }, toks := s1.toks + 1 + 1 } := I1.kept fun b o e => Heap.get?_push_of_some _ e
    have hsz : Builtin.Range.rangeSize 0 j 1 = ((j.toNat : Nat) : Int) := by rw [rangeSize_one]; split <;> omega
    refine call_list_range (n := j.toNat) (I2.ok.hd hc) (IsRange.new ..) (small_one (by omega) (by omega) (by omega) (by omega)) hsz (by omega) fun h' tk acc' c' kp e it => ?_
    have hv := vals_rows it
    have hln : (rows 0 j.toNat).length ≤ sizeLine := by
      unfold rows
      rw [List.length_map, List.length_range]
      exact Nat.le_trans (m := 2 ^ 20) (by omega) (by decide)
    exact ⟨.ref _, _, I2.laid (t' := tk) kp (Nat.le_refl _) (show ObjOk X.prog X.w _ h' _ (.lst (rows 0 j.toNat)) from ⟨hln, acc'.toList, c', hv, by rw [Array.toArray_toList]; exact e⟩), rfl, q _ (I2.hok.fresh (Nat.le_refl _))⟩
end
theorem cutV_ints (ns : List Int) (lo hi : Option Int) : ∃ ms : List Int, (∀ c, c ∈ ms → c ∈ ns) ∧ ms.length ≤ ns.length ∧ cutV (ns.map V.int) lo hi = ms.map V.int :=
  ⟨(ns.drop (HT.sIx ns.length 0 lo)).take (HT.sIx ns.length ns.length hi - HT.sIx ns.length 0 lo), fun c h => List.mem_of_mem_drop (List.mem_of_mem_take h), by rw [List.length_take, List.length_drop]; omega,
    by unfold cutV; rw [List.length_map, List.map_take, List.map_drop]⟩
end L2

/-! FOR a, b IN zip(x, y): two lists walked side by side. -/
namespace L2
open PySem PySem.Spec PyProof.Rows
section
variable {X : Cx} {pins : List (Addr × Obj)} {σ : St} {H : Hp} {s : Shared} {h' : Heap}
/-- some untracked records of ours have turned -/
theorem Inv.turnedL {t' : Nat} {fp : List Addr} (I : Inv X pins σ H s) (k : ∀ b o, b ∉ fp → s.heap.get? b = some o → h'.get? b = some o) (hf : ∀ b ∈ fp, FpOk X pins H b) : Inv X pins σ H { s with heap := h', toks := t' } := by
  have nit : ∀ b u, H b = some u → b ∉ fp := fun b u e z => by rw [(hf b z).1] at e; cases e
  refine I.step (g' := s.gens) (d' := s.drawn) (ch := fp) (fun b hb => ?_) (fun b o _ _ hc e _ => k b o hc e) (fun b o _ _ hc e _ => ⟨o.slots, k b o hc e⟩) (fun _ _ _ _ n => n)
    (fun b o hc e => ⟨o, k b o hc e⟩) (fun _ _ e => e) (fun _ _ _ e => e) (fun b ps e => ⟨#[], by rw [e]; simp⟩) (fun m hm => ?_) (fun b u e => ?_) I.bare
  · obtain ⟨_, h1, _, h2, h3, h4⟩ := hf b hb
    exact ⟨h2, h1, h3, h4⟩
  · obtain ⟨o, es, ep, ho, r⟩ := hm
    exact ⟨o, es, ep, k _ o (fun z => (hf _ z).2.1 rfl) ho, r⟩
  · refine (I.hok b u e).stay (fun c v hc q => k c v ?_ q) (fun _ q => q) fun _ _ q => q
    rcases hc with z | z
    · rw [z]; exact nit b u e
    · exact nit c _ z
end
/-- the lists at a and b, as they stand at each turn -/
def Itz (K : PySem.W.Frag) (a b : Addr) : It :=
  ⟨fun i H => ∃ xs x ys y, SqL K H a xs ∧ xs[i]? = some x ∧ SqL K H b ys ∧ ys[i]? = some y,
   fun i H v H' => ∃ t x y, H t = none ∧ v = .ref t ∧ (∀ xs, SqL K H a xs → xs[i]? = some x) ∧ (∀ ys, SqL K H b ys → ys[i]? = some y) ∧ H' = upd H t (.tup [x, y]),
   fun i H => ∃ xs ys, SqL K H a xs ∧ SqL K H b ys ∧ (xs.length ≤ i ∨ ys.length ≤ i)⟩
structure Apart5 (z TI TO i1 i2 : Addr) : Prop where
  TIz : TI ≠ z
  TOz : TO ≠ z
  i1z : i1 ≠ z
  i2z : i2 ≠ z
  TITO : TI ≠ TO
  TIi1 : TI ≠ i1
  TIi2 : TI ≠ i2
  TOi1 : TO ≠ i1
  TOi2 : TO ≠ i2
  i12 : i1 ≠ i2
theorem apart5 (n : Nat) : Apart5 (n + 4) (n + 2) (n + 3) n (n + 1) :=
  ⟨show (n + 2 : Nat) ≠ n + 4 by omega, show (n + 3 : Nat) ≠ n + 4 by omega, show (n : Nat) ≠ n + 4 by omega, show (n + 1 : Nat) ≠ n + 4 by omega, show (n + 2 : Nat) ≠ n + 3 by omega, show (n + 2 : Nat) ≠ n by omega, show (n + 2 : Nat) ≠ n + 1 by omega, show (n + 3 : Nat) ≠ n by omega, show (n + 3 : Nat) ≠ n + 1 by omega, show (n : Nat) ≠ n + 1 by omega⟩
def tnZip (z TI TO i1 i2 a b : Addr) (i : Nat) (h : Heap) : Prop := IsZip h z TI TO .none ∧ IsPair h TI (.ref i1) (.ref i2) ∧ (∃ x y, IsPair h TO x y) ∧ h.IsListIter i1 a i ∧ h.IsListIter i2 b i
theorem ne_cls {h : Heap} {a b : Addr} {o u : Obj} (ha : h.get? a = some o) (hb : h.get? b = some u) (hc : o.cls ≠ u.cls) : a ≠ b := fun z => by
  subst z
  rw [ha] at hb
  cases hb
  exact hc rfl
theorem zip_apart {h : Heap} {z TI TO i1 i2 a b : Addr} {i : Nat} {xs ys : Array Value} (ap : Apart5 z TI TO i1 i2) (t : tnZip z TI TO i1 i2 a b i h) (ha : h.IsList a xs) (hb : h.IsList b ys) : ZipApart z TI TO i1 i2 a b := by
  obtain ⟨hz, hTI, ⟨x, y, hTO⟩, ⟨o1, e1, c1, d1⟩, ⟨o2, e2, c2, d2⟩⟩ := t
  obtain ⟨oa, ea, ca, _⟩ := ha
  obtain ⟨ob, eb, cb, _⟩ := hb
  refine ⟨ap.TIz, ap.TOz, ap.i1z, ap.i2z, ap.TITO, ap.TIi1, ap.TIi2, ap.TOi1, ap.TOi2, ap.i12, ?_, ?_, ?_, ?_, ?_, ?_, ?_, ?_⟩
  · exact ne_cls ea hz (by rw [ca]; show Value.type "list" ≠ Value.type "zip"; decide)
  · exact ne_cls ea hTO (by rw [ca]; show Value.type "list" ≠ Value.type "tuple"; decide)
  · exact ne_cls ea e1 (by rw [ca, c1]; decide)
  · exact ne_cls ea e2 (by rw [ca, c2]; decide)
  · exact ne_cls eb hz (by rw [cb]; show Value.type "list" ≠ Value.type "zip"; decide)
  · exact ne_cls eb hTO (by rw [cb]; show Value.type "list" ≠ Value.type "tuple"; decide)
  · exact ne_cls eb e1 (by rw [cb, c1]; decide)
  · exact ne_cls eb e2 (by rw [cb, c2]; decide)
theorem turn_zip {P : Program} {w : World} {K : PySem.W.Frag} {es : List Expr} {n : Nat} {pos : Pos} (a b z TI TO i1 i2 : Addr) (ap : Apart5 z TI TO i1 i2) : Turn P w K (.Tuple es n pos) (Itz K a b) [z, TI, TO, i1, i2] z (tnZip z TI TO i1 i2 a b) where
  mem := by simp
  obj := fun i h st c hc => by
    obtain ⟨hz, hTI, ⟨x, y, hTO⟩, ⟨o1, e1, c1, d1⟩, ⟨o2, e2, c2, d2⟩⟩ := st
    simp only [List.mem_cons, List.not_mem_nil, or_false] at hc
    rcases hc with rfl | rfl | rfl | rfl | rfl
    · exact ⟨_, hz, fun v q => by cases q⟩
    · exact ⟨_, hTI, fun v q => by cases q⟩
    · exact ⟨_, hTO, fun v q => by cases q⟩
    · exact ⟨_, e1, fun v q => by rw [d1] at q; cases q⟩
    · exact ⟨_, e2, fun v q => by rw [d2] at q; cases q⟩
  keep := fun i h h' st k => by
    obtain ⟨hz, hTI, ⟨x, y, hTO⟩, h1, h2⟩ := st
    exact ⟨k _ (by simp) _ hz, k _ (by simp) _ hTI, ⟨x, y, k _ (by simp) _ hTO⟩, h1.at fun o e => k _ (by simp) o e, h2.at fun o e => k _ (by simp) o e⟩
  item := by
    intro X hP hw hK hc i pins s σ H E I hf st hg
    subst hP hw hK
    obtain ⟨xs, x, ys, y, hq, hx, hq2, hy⟩ := hg
    obtain ⟨its, rv, p, hz⟩ := I.list hq
    obtain ⟨jts, rv2, p2, hz2⟩ := I.list hq2
    obtain ⟨u, hu, ru⟩ := rv.get hx
    obtain ⟨u2, hu2, ru2⟩ := rv2.get hy
    have za := zip_apart ap st p.isList p2.isList
    obtain ⟨sz, sTI, ⟨x0, y0, sTO⟩, s1, s2⟩ := id st
    refine wpAny_pyNext_zip_item za sz sTI sTO s1 s2 p.isList p2.isList (x := u) (y := u2) (by simpa using hu) (by simpa using hu2) fun h1 z1 t1 a1 b1 n1 sz1 k1 => ?_
    refine ⟨_, rfl, wpAny_letOwnedTupleGo_zip z1 fun h2 z2 sb => ?_⟩
    have neT : ∀ c o, s.heap.get? c = some o → c ≠ s.heap.objs.size := fun c o e q => absurd (Heap.lt_size e) (by rw [q]; exact Nat.lt_irrefl _)
    have hzT : s.heap.objs.size ≠ z := fun q => neT _ _ sz q.symm
    have kk : ∀ c o, c ∉ [z, TI, TO, i1, i2] → s.heap.get? c = some o → h2.get? c = some o := fun c o hc e => by
      simp only [List.mem_cons, List.not_mem_nil, or_false, not_or] at hc
      exact (sb.2 c hc.1).trans (k1 c o hc.1 hc.2.2.1 hc.2.2.2.1 hc.2.2.2.2 e)
    have kTI : h2.get? TI = some _ := (sb.2 TI ap.TIz).trans (k1 TI _ ap.TIz ap.TITO ap.TIi1 ap.TIi2 sTI)
    have kT : h2.get? s.heap.objs.size = some _ := (sb.2 _ hzT).trans n1
    -- first the turn, without the pair; then the pair is laid
    have hN : H s.heap.objs.size = none := I.hok.fresh (Nat.le_refl _)
    have fpn : ∀ c ∈ [z, TI, TO, i1, i2], c ≠ s.heap.objs.size := fun c hc => by
      simp only [List.mem_cons, List.not_mem_nil, or_false] at hc
      rcases hc with rfl | rfl | rfl | rfl | rfl
      · exact neT _ _ sz
      · exact neT _ _ sTI
      · exact neT _ _ sTO
      · obtain ⟨o, e, _⟩ := s1; exact neT _ _ e
      · obtain ⟨o, e, _⟩ := s2; exact neT _ _ e
    have I1 : Inv X pins σ (upd H s.heap.objs.size (.tup [x, y])) { s with heap := h2 } := by
      refine I.step (g' := s.gens) (d' := s.drawn) (t' := s.toks) (ch := [z, TI, TO, i1, i2]) (fun c hc => ?_) (fun c o _ _ hc e _ => kk c o hc e) (fun c o _ _ hc e _ => ⟨o.slots, kk c o hc e⟩) (fun c o _ e q => ?_)
        (fun c o hc e => ⟨o, kk c o hc e⟩) (fun c us e => ?_) (fun c o v e => ?_) (fun c ps e => ⟨#[], ?_⟩) (fun m hm => ?_) (fun c v e => ?_) I.bare
      · obtain ⟨_, f1, _, f2, f3, f4⟩ := hf c hc
        exact ⟨f2, f1, f3, f4⟩
      · rw [upd_ne (neT c o e)]; exact q
      · rw [upd_ne (ne_of_none e hN)]; exact e
      · rw [upd_ne (ne_of_none e hN)]; exact e
      · rw [upd_ne (ne_of_none e hN), e]; simp
      · obtain ⟨o, es, ep, ho, r⟩ := hm
        exact ⟨o, es, ep, kk _ o (fun q => (hf _ q).2.1 rfl) ho, r⟩
      · by_cases hcT : c = s.heap.objs.size
        · subst hcT
          rw [upd_same] at e
          have e' : HO.tup [x, y] = v := Option.some.inj e
          subst e'
          exact ⟨(by decide : 2 ≤ sizeLine), [u, u2], .cons ru (.cons ru2 .nil), _, kT, rfl, _, rfl⟩
        · rw [upd_ne hcT] at e
          refine (I.hok c v e).stay (fun d q hd e2 => kk d q (fun hm => ?_) e2) (fun d e2 => ?_) fun d _ e2 => ?_
          · have := (hf d hm).1
            rcases hd with e3 | e3
            · rw [e3, e] at this; cases this
            · rw [e3] at this; cases this
          · rw [upd_ne (ne_of_none e2 hN)]; exact e2
          · rw [upd_ne (ne_of_none e2 hN)]; exact e2
    refine ⟨.ref s.heap.objs.size, _, I1, rfl, ⟨_, x, y, hN, rfl, fun vs hv => by rw [I.list_inj hv hq]; exact hx, fun vs hv => by rw [I.list_inj hv hq2]; exact hy, rfl⟩, ⟨z2, kTI, ⟨_, _, (sb.2 TO ap.TOz).trans t1⟩, a1.at fun o e => (sb.2 i1 ap.i1z).trans e, b1.at fun o e => (sb.2 i2 ap.i2z).trans e⟩, fun c hc => ?_⟩
    rw [upd_ne (fpn c hc)]
    exact (hf c hc).1
  done := by
    intro X hP hw hK hc i pins s σ H E I hf st hg
    subst hP hw hK
    obtain ⟨xs, ys, hq, hq2, hx⟩ := hg
    obtain ⟨its, rv, p, hz⟩ := I.list hq
    obtain ⟨jts, rv2, p2, hz2⟩ := I.list hq2
    have za := zip_apart ap st p.isList p2.isList
    obtain ⟨sz, sTI, ⟨x0, y0, sTO⟩, s1, s2⟩ := id st
    have hl := rv.length
    have hl2 := rv2.length
    refine wpAny_pyNext_zip_end (I.ok.hd hc) za sz sTI sTO s1 s2 p.isList p2.isList ?_ fun h1 k1 => ⟨rfl, I.turnedL (t' := s.toks) (fun c o hc e => ?_) hf⟩
    · rcases hx with q | q
      · exact .inl (by simp; omega)
      · exact .inr (by simp; omega)
    · simp only [List.mem_cons, List.not_mem_nil, or_false, not_or] at hc
      exact k1 c o hc.1 hc.2.2.1 hc.2.2.2.1 hc.2.2.2.2 e
  self := fun _ _ _ _ _ st h => wpAny_pyIter_zip st.1 h
section
variable {X : Cx}
def iZip (K : PySem.W.Frag) (ta : TA) : TI := fun σ H R => ta σ H fun vs H1 => ∃ a b, vs = [.ref a, .ref b] ∧ (∃ xs, SqL K H1 a xs) ∧ (∃ ys, SqL K H1 b ys) ∧ R (Itz K a b) H1
theorem pi_zip {es : List Expr} {n : Nat} {tpos : Pos} {a b : Expr} {ta : TA} {p pos : Pos} (hg : Gl X "zip") (hm : X.mg "zip" = none) (ha : PA X [a, b] ta) (hs : starEach [a, b] X.env = [(false, eval a X.env), (false, eval b X.env)] := by rfl) (hs2 : starEach [b] X.env = [(false, eval b X.env)] := by rfl) :
    PI X (.Tuple es n tpos) (.Call (.Name "zip" p) [a, b] [] pos) (iZip X.K ta) := by
  intro pins s σ H R I h
  refine Call_ (ld_blt I hg hm boot_zip (PyProof.Rows.callWith_type1 (thn (ha pos pins s σ H _ I h) fun us s1 ⟨vs, H1, I1, r1, q1⟩ => ?_) (by rw [hs, hs2]) (by rw [hs2]; rfl)))
  obtain ⟨a, b, e, ⟨xs, hq⟩, ⟨ys, hq2⟩, q⟩ := q1
  subst e
  cases r1 with
  | cons r rr =>
    cases rr with
    | cons r' rr =>
      cases rr
      cases r
      cases r'
      obtain ⟨its, rv, p, hz⟩ := I1.list hq
      obtain ⟨jts, rv2, p2, hz2⟩ := I1.list hq2
      refine call_zip_2 p.isList p2.isList fun h' z1 t1 t2 i1 i2 hsz kk => ?_
      refine wpAny_pyIter_zip z1 ?_
      refine ⟨_, [s1.heap.objs.size + 4, s1.heap.objs.size + 2, s1.heap.objs.size + 3, s1.heap.objs.size, s1.heap.objs.size + 1], _, _, H1, rfl, I1.kept (t' := s1.toks) kk, turn_zip a b (s1.heap.objs.size + 4) (s1.heap.objs.size + 2) (s1.heap.objs.size + 3) s1.heap.objs.size (s1.heap.objs.size + 1) (apart5 _), ⟨z1, t1, ⟨_, _, t2⟩, i1, i2⟩, fun c hc => ?_, q⟩
      have hle : s1.heap.objs.size ≤ c := by
        simp only [List.mem_cons, List.not_mem_nil, or_false] at hc
        rcases hc with rfl | rfl | rfl | rfl | rfl
        · exact Nat.le_add_right _ _
        · exact Nat.le_add_right _ _
        · exact Nat.le_add_right _ _
        · exact Nat.le_refl _
        · exact Nat.le_add_right _ _
      exact I1.fpOk hle (I1.hok.fresh hle)
end
end L2

/-! list(reversed(row)), sum(row) -/
namespace L2
open PySem PySem.Spec PyProof.Rows
theorem nolen_rv : typeLookup (Value.type "list_reverseiterator") (Str.ofString "__len__") = pure none := by with_unfolding_all rfl
theorem hint_rv : typeLookup (Value.type "list_reverseiterator") (Str.ofString "__length_hint__") = pure (some (Value.builtin "list_reverseiterator.__length_hint__")) := by with_unfolding_all rfl
theorem sub_rv : isSubtype (Value.type "list_reverseiterator") (Value.type "list_reverseiterator") = pure true := by with_unfolding_all rfl
theorem split_rv : splitId "list_reverseiterator.__length_hint__" = some ("list_reverseiterator", "__length_hint__") := by decide +kernel
section
variable {prog : Program} {w : World} {A : Around} {s : Shared}
theorem hint_rev {E : Value → Shared → Prop} {r l : Addr} {i : Int} {Q : Bool → Shared → Prop} (h : s.heap.IsRevIter r l i) (q : Q false s) : wpAny (model prog w) A (Builtin.List.listLengthHint (.ref r)) Q E s := by
  unfold Builtin.List.listLengthHint
  refine wpAny_bind (wpAny_specialOf h.typeIs nolen_rv ?_)
  dsimp only
  rw [if_neg (by decide)]
  rw [if_neg (by decide)]
  refine wpAny_bind (wpAny_specialOf h.typeIs hint_rv ?_)
  dsimp only
  rw [split_rv]
  dsimp only
  refine wpAny_bind (wpAny_isInstance h.typeIs sub_rv ?_)
  rw [if_neg (by decide)]
  rw [if_pos (by decide)]
  rw [if_neg (by decide)]
  exact wpAny_pure q
theorem extend_rev {R : Result → Shared → Prop} {r l : Addr} {items : Array Value} (hA : A.handled = none) (h : s.heap.IsRevIter r l ((items.size : Int) - 1)) (hl : s.heap.IsList l items) (hz : items.size ≤ sizeLine) (S : Addr) (res : Value) (c₀ : Nat)
    (hS : s.heap.get? S = some { cls := Value.type "list", data := Data.seq #[] c₀ }) (hSl : S ≠ l)
    (q : ∀ (s' : Shared) (acc' : Array Value) (c' : Nat), Moved [S, r] (fun a b => b = a) s s' → s'.heap.get? S = some { cls := Value.type "list", data := Data.seq acc' c' } → ItemsOf (fun i v => items[items.size - 1 - i]? = some v) acc' items.size → R (Except.ok (Flow.ret res)) s') :
    wpAny (model prog w) A.in1 (Builtin.List.listExtendWith (.ref S) (.ref r) res) (fun fin s' => match fin with | Fin.done f => R (Except.ok f) s' | Fin.again c' => c'.quiet = true ∧ codeAny (model prog w) A c' R s') (fun e s' => R (Except.error e) s') s := by
  have hSr : S ≠ r := fun z => by
    subst z
    obtain ⟨o, e, c, d⟩ := h
    rw [hS] at e; cases e
    exact absurd (show Value.type "list" = Value.type "list_reverseiterator" from c) (by decide)
  have hlr : l ≠ r := fun z => by
    subst z
    obtain ⟨o, e, c, d⟩ := h
    obtain ⟨o', e', c', d'⟩ := hl
    rw [e] at e'; cases e'
    rw [c] at c'
    exact absurd c' (by decide)
  unfold Builtin.List.listExtendWith
  refine wpAny_bind (wpAny_typeOf h.typeIs ?_)
  have e1 : (Builtin.List.listSameRef (.ref S) (.ref r) || Value.type "list_reverseiterator" == Value.type "list" || Value.type "list_reverseiterator" == Value.type "tuple") = false := by
    have : Builtin.List.listSameRef (.ref S) (.ref r) = false := by
      show (S == r) = false
      exact beq_eq_false_iff_ne.mpr hSr
    rw [this]; decide
  rw [if_neg (by rw [e1]; decide)]
  refine wpAny_bind (wpAny_pyIter_revIter h ?_)
  refine wpAny_bind (wpAny_holding (hint_rev h ?_))
  rw [if_neg (by decide)]
  refine wpAny_pure ⟨by with_unfolding_all rfl, ?_⟩
  have W := (Walks.listRev (prog := prog) (w := w) (A := A.in1) hA r l hlr items).toS
  exact codeAny_extend_loopS W hz S (by simp [hSr, hSl]) res items.size 0 s #[] c₀ (by omega) (Nat.zero_le _) ⟨Nat.zero_le _, by simpa using h, hl⟩ hS ⟨rfl, fun j v e => by simp at e⟩ q
theorem init_rev {R : Result → Shared → Prop} {r l : Addr} {items : Array Value} (hA : A.handled = none) (h : s.heap.IsRevIter r l ((items.size : Int) - 1)) (hl : s.heap.IsList l items) (hz : items.size ≤ sizeLine) (S : Addr)
    (hS : s.heap.get? S = some { cls := Value.type "list", data := Data.seq #[] 0 }) (hSl : S ≠ l)
    (q : ∀ (s' : Shared) (acc' : Array Value) (c' : Nat), Moved [S, r] (fun a b => b = a) s s' → s'.heap.get? S = some { cls := Value.type "list", data := Data.seq acc' c' } → ItemsOf (fun i v => items[items.size - 1 - i]? = some v) acc' items.size → R (Except.ok (Flow.ret .none)) s') :
    wpAny (model prog w) A.in1 (Builtin.«list.__init__» { pos := [.ref S, .ref r] }) (fun fin s' => match fin with | Fin.done f => R (Except.ok f) s' | Fin.again c' => c'.quiet = true ∧ codeAny (model prog w) A c' R s') (fun e s' => R (Except.error e) s') s := by
  have hSr : S ≠ r := fun z => by
    subst z
    obtain ⟨o, e, c, d⟩ := h
    rw [hS] at e; cases e
    exact absurd (show Value.type "list" = Value.type "list_reverseiterator" from c) (by decide)
  unfold Builtin.«list.__init__»
  dsimp only
  rw [if_neg (by decide)]
  rw [if_neg (by show ¬ (1 > 1); decide)]
  refine wpAny_bind (wpAny_listItems hS rfl (wpAny_bind (listUpdate_at hS rfl (wpAny_bind (wpAny_letGo ?_)))))
  have same : ∀ b o, s.heap.get? b = some o → (s.heap.update S (Obj.mapSeq fun _ => #[])).get? b = some o := fun b o e => by
    by_cases hb : b = S
    · subst hb
      rw [hS] at e
      cases e
      have z := PySem.IsL.update hS (fun _ => #[])
      exact z
    · exact (Heap.get?_update_other s.heap (Obj.mapSeq fun _ => #[]) (Ne.symm hb)).trans e
  refine extend_rev (s := { s with heap := s.heap.update S (Obj.mapSeq fun _ => #[]) }) hA (h.at fun o e => same _ _ e) (let ⟨o, e, x⟩ := hl; ⟨o, same _ _ e, x⟩) hz S _ 0 (same _ _ hS) hSl fun s' acc c' mv e it => q s' acc c' ⟨fun b o hb e => mv.heap b o hb (same _ _ e), mv.gens, mv.drawn, mv.os, mv.toks⟩ e it
theorem call_list_rev {Q : Value → Shared → Prop} {E : Value → Shared → Prop} {r l : Addr} {items : Array Value} (hA : A.handled = none) (h : s.heap.IsRevIter r l ((items.size : Int) - 1)) (hl : s.heap.IsList l items) (hz : items.size ≤ sizeLine)
    (q : ∀ (s' : Shared) (acc' : Array Value) (c' : Nat), (∀ b o, b ≠ r → s.heap.get? b = some o → s'.heap.get? b = some o) → s'.gens = s.gens → s'.drawn = s.drawn → s'.os = s.os → s'.heap.get? s.heap.objs.size = some { cls := Value.type "list", data := Data.seq acc' c' } →
      ItemsOf (fun i v => items[items.size - 1 - i]? = some v) acc' items.size → Q (.ref s.heap.objs.size) s') :
    wpAny (model prog w) A (call (.type "list") [.ref r]) Q E s := by
  refine callType_codes (Q₁ := fun obj s1 => obj = .ref s.heap.objs.size ∧ s1 = { s with heap := s.heap.push { cls := .type "list", data := .seq #[] } }) F.called_list (F.typeCall_list_1 _) F.entry_list_init (code_list_new _ ⟨rfl, rfl⟩) ?_
  rintro obj s1 ⟨rfl, rfl⟩
  have hold : ∀ b o, s.heap.get? b = some o → (s.heap.push { cls := .type "list", data := .seq #[] }).get? b = some o := fun b o e => Heap.get?_push_of_some _ e
  have hS : (s.heap.push { cls := .type "list", data := .seq #[] }).get? s.heap.objs.size = some { cls := .type "list", data := .seq #[] } := Heap.get?_push_size _ rfl
  refine ⟨?_, F.args_list_init_2 _ _, init_rev (A := A.in1) hA (h.at fun o e => hold _ _ e) (let ⟨o, e, x⟩ := hl; ⟨o, hold _ _ e, x⟩) hz _ hS ?_ ?_⟩
  · exact ⟨_, hS, rfl⟩
  · intro z
    obtain ⟨o, e, _⟩ := hl
    exact absurd (Heap.lt_size e) (by rw [← z]; exact Nat.lt_irrefl _)
  · intro s' acc c' mv e it
    refine ⟨rfl, q s' acc c' (fun b o hb e => mv.heap b o (fun z => ?_) (hold b o e)) mv.gens mv.drawn mv.os e it⟩
    simp only [List.mem_cons, List.not_mem_nil, or_false] at z
    rcases z with z | z
    · exact absurd (Heap.lt_size e) (by rw [z]; exact Nat.lt_irrefl _)
    · exact hb z
end
section
variable {X : Cx}
theorem preSum_nums (xs : Array (Int × Tok)) : ∀ n, n ≤ xs.size → preSum (numAt xs) n = ((xs.toList.map (·.1)).take n).sum
  | 0, _ => rfl
  | n + 1, h => by
    have hn : n < (xs.toList.map (·.1)).length := by rw [List.length_map, Array.length_toList]; omega
    have ih := preSum_nums xs n (by omega)
    have e : (xs.toList.map (·.1))[n]? = some (numAt xs n) := by
      rw [numAt_eq, List.getD_eq_getElem?_getD, List.getElem?_eq_getElem hn]; rfl
    rw [List.take_add_one, e, List.sum_append]
    show preSum (numAt xs) n + numAt xs n = _
    rw [ih]
    simp
def rSumL (K : PySem.W.Frag) : List V → Hp → VK → Prop := fun xs H Q => ∃ (l : Addr) (ns : List Int), xs = [.ref l] ∧ SqL K H l (ns.map V.int) ∧ Q (.int ns.sum) H
theorem call_sumL (hc : X.calm = true) : CallR X (.builtin "sum") (rSumL X.K) := by
  intro pins s σ H xs us Q I r h
  obtain ⟨l, ns, rfl, hl, q⟩ := h
  obtain ⟨u, rfl, rfl⟩ := vals1 r
  obtain ⟨its, rv, pl, hz⟩ := I.list hl
  have hi := ints_of rv
  obtain ⟨ys, e⟩ := hi.allInts.items
  have hns : ns = ys.toList.map (·.1) := by rw [← hi.numsOf, ← nums_intItems, ← e]
  have il := pl.isList
  rw [e] at il
  refine sum_intListG (I.ok.hd hc) il fun h' tk t' hk => ?_
  refine ⟨.int _, H, I.kept hk, ⟨t', rfl⟩, ?_⟩
  rw [preSum_nums ys ys.size (Nat.le_refl _), ← hns]
  have : ys.size = ns.length := by rw [hns]; simp
  rw [this, List.take_length]
  exact q
/-- list(reversed(l)) -/
def tRev (K : PySem.W.Frag) (ta : TA) : TE := fun σ H Q => ta σ H fun vs H1 => ∃ (l : Addr) (xs : List V), vs = [.ref l] ∧ SqL K H1 l xs ∧ ∀ p, H1 p = none → Q (.ref p) (upd H1 p (.lst xs.reverse))
theorem vals_rev {xs : List V} {its : List Value} {acc : Array Value} (r : Vals xs its) (h : ItemsOf (fun i v => its.toArray[its.toArray.size - 1 - i]? = some v) acc its.toArray.size) : Vals xs.reverse acc.toList := by
  have e : acc.toList = its.reverse := by
    obtain ⟨h1, h2⟩ := h
    have hl : acc.toList.length = its.length := by simpa using h1
    refine List.ext_getElem? fun i => ?_
    by_cases hi : i < its.length
    · rw [List.getElem?_eq_getElem (show i < acc.toList.length by omega)]
      have := h2 i (acc.toList[i]'(by omega)) (by simp)
      rw [List.getElem?_reverse hi]
      simpa using this.symm
    · rw [List.getElem?_eq_none (by omega), List.getElem?_eq_none (by rw [List.length_reverse]; omega)]
  rw [e]
  exact r.reverse
theorem pe_listrev {a : Expr} {ta : TA} {p p' pos pos' : Pos} (hc : X.calm = true) (hgl : Gl X "list") (hml : X.mg "list" = none) (hg : Gl X "reversed") (hm : X.mg "reversed" = none) (ha : PA X [a] ta) (hs : starEach [a] X.env = [(false, eval a X.env)] := by rfl)
    (hs2 : starEach [Expr.Call (.Name "reversed" p') [a] [] pos'] X.env = [(false, eval (.Call (.Name "reversed" p') [a] [] pos') X.env)] := by rfl) :
    PE X (.Call (.Name "list" p) [.Call (.Name "reversed" p') [a] [] pos'] [] pos) (tRev X.K ta) := by
  intro pins s σ H Q I h
  refine Call_ (ld_blt I hgl hml (show bootBuiltins "list" = some (.type "list") by decide +kernel) (PyProof.Rows.callWith_type1 ?_ hs2 rfl))
  rw [hs2]
  refine Calls.spliced_cons ?_
  refine Call_ (ld_blt I hg hm boot_reversed (PyProof.Rows.callWith_type1 (thn (ha pos' pins s σ H _ I h) fun us s1 ⟨vs, H1, I1, r1, q1⟩ => ?_) hs rfl))
  obtain ⟨l, xs, e, hl, q⟩ := q1
  subst e
  cases r1 with
  | cons r rr =>
    cases rr
    cases r
    obtain ⟨its, rv, pl, hz⟩ := I1.list hl
    refine call_reversed_list pl.isList ?_
    refine Calls.spliced_nil ?_
    have kp : ∀ b o, s1.heap.get? b = some o → (s1.heap.push (revObj l ((its.toArray.size : Int) - 1))).get? b = some o := fun b o e => Heap.get?_push_of_some _ e
    have I2 : Inv X pins σ H1 { s1 with heap := s1.heap.push (revObj l ((its.toArray.size : Int) - 1)) } := I1.kept (t' := s1.toks) kp
    have hr : (s1.heap.push (revObj l ((its.toArray.size : Int) - 1))).IsRevIter s1.heap.objs.size l ((its.toArray.size : Int) - 1) := ⟨_, Heap.get?_push_size _ rfl, rfl, rfl⟩
    have hl2 := I2.list hl
    have ln := rv.length
    refine call_list_rev (s := { s1 with heap := s1.heap.push (revObj l ((its.toArray.size : Int) - 1)) }) (I2.ok.hd hc) hr (let ⟨o, e, x⟩ := pl.isList; ⟨o, kp _ _ e, x⟩) (by rw [List.size_toArray]; omega) fun s' acc c' kk g d o e it => ?_
    have hv := vals_rev rv it
    have hsz : (s1.heap.push (revObj l ((its.toArray.size : Int) - 1))).objs.size = s1.heap.objs.size + 1 := Heap.size_push ..
    have kk2 : ∀ b o, s1.heap.get? b = some o → s'.heap.get? b = some o := fun b o e2 => kk b o (fun z => absurd (Heap.lt_size e2) (by rw [z]; exact Nat.lt_irrefl _)) (kp b o e2)
    have hle : s1.heap.objs.size ≤ (s1.heap.push (revObj l ((its.toArray.size : Int) - 1))).objs.size := by rw [hsz]; exact Nat.le_succ _
    have I3 := I1.laid (t' := s'.toks) (o := .lst xs.reverse) (h' := s'.heap) kk2 hle (show ObjOk X.prog X.w _ s'.heap _ (.lst xs.reverse) from ⟨by rw [List.length_reverse]; exact hz, acc.toList, c', hv, by rw [Array.toArray_toList]; exact e⟩)
    have es : s' = { s1 with heap := s'.heap, toks := s'.toks } := by
      obtain ⟨a1, a2, a3, a4, a5⟩ := s'
      dsimp only at g d o
      rw [g, d, o]
    refine ⟨.ref _, _, ?_, rfl, q _ (I1.hok.fresh hle)⟩
    rw [es]
    exact I3
end
theorem FoW.zip {K : PySem.W.Frag} {a b : Addr} {xs ys : List V} {T : V → St → Hp → (St → Hp → Prop) → Prop} {nx : St → Hp → Prop} {σ : St} {H : Hp} (hlen : ys.length = xs.length) (Pv : Nat → St → Hp → Prop) (h0 : Pv 0 σ H)
    (hl : ∀ i σ H, i ≤ xs.length → Pv i σ H → SqL K H a xs ∧ SqL K H b ys)
    (hs : ∀ i x y σ H t, xs[i]? = some x → ys[i]? = some y → Pv i σ H → H t = none → T (.ref t) σ (upd H t (.tup [x, y])) (Pv (i + 1))) (hd : ∀ σ H, Pv xs.length σ H → nx σ H) : FoW (Itz K a b) σ H T nx := by
  refine ⟨fun i m σ H => m = xs.length - i ∧ i ≤ xs.length ∧ Pv i σ H, ⟨xs.length, by simp, Nat.zero_le _, h0⟩, ?_⟩
  rintro i m σ H ⟨rfl, hi, p⟩
  obtain ⟨q1, q2⟩ := hl i σ H hi p
  by_cases hlt : i < xs.length
  · refine .inr ⟨⟨xs, xs[i], ys, ys[i]'(by omega), q1, by simp [hlt], q2, by simp [hlen, hlt]⟩, Pv (i + 1), fun σ' H' p' => ⟨xs.length - (i + 1), by omega, rfl, hlt, p'⟩, fun v H' y => ?_⟩
    obtain ⟨t, x, y, ht, rfl, y1, y2, rfl⟩ := y
    exact hs i x y σ _ t (y1 xs q1) (y2 ys q2) p ht
  · have e : i = xs.length := by omega
    subst e
    exact .inl ⟨⟨xs, ys, q1, q2, .inl (Nat.le_refl _)⟩, hd σ H p⟩
end L2

namespace Eb
open Wheel
/-! ### a row as a wheel -/
def wf (rs : List Int) (i : Nat) : Int := rs.getD (i % rs.length) 0
def cnts (rs : List Int) (w : Nat) : List Int := (List.range rs.length).map fun i => cnt (wf rs) w i
def trn (rs : List Int) (b : Int) : List Int := (List.range rs.length).map fun (i : Nat) => rs.getD (((i : Int) + b) % rs.length).toNat 0
theorem cnts_len (rs : List Int) (w : Nat) : (cnts rs w).length = rs.length := by unfold cnts; rw [List.length_map, List.length_range]
theorem trn_len (rs : List Int) (b : Int) : (trn rs b).length = rs.length := by unfold trn; rw [List.length_map, List.length_range]
theorem cnts_at (rs : List Int) (w : Nat) {i : Nat} (h : i < rs.length) : (cnts rs w)[i]? = some (cnt (wf rs) w i) := by
  unfold cnts; rw [List.getElem?_map, List.getElem?_range h]; rfl
theorem trn_at (rs : List Int) (b : Int) {i : Nat} (h : i < rs.length) : (trn rs b)[i]? = some (rs.getD (((i : Int) + b) % rs.length).toNat 0) := by
  unfold trn; rw [List.getElem?_map, List.getElem?_range h]; rfl
theorem wf_lt {rs : List Int} {i : Nat} (h : i < rs.length) : wf rs i = rs.getD i 0 := by unfold wf; rw [Nat.mod_eq_of_lt h]
theorem wf_round (rs : List Int) (i : Nat) : wf rs (i + rs.length) = wf rs i := by unfold wf; rw [Nat.add_mod_right]
theorem getD_at {rs : List Int} {i : Nat} (h : i < rs.length) : rs[i]? = some (rs.getD i 0) := by
  rw [List.getD_eq_getElem?_getD, List.getElem?_eq_getElem h]; rfl
theorem row2_get {rs : List Int} {i : Nat} (h : i < 2 * rs.length) : (rs ++ rs)[i]? = some (wf rs i) := by
  by_cases hi : i < rs.length
  · rw [List.getElem?_append_left hi, wf_lt hi]; exact getD_at hi
  · rw [List.getElem?_append_right (by omega)]
    have e : wf rs i = wf rs (i - rs.length) := by rw [← wf_round rs (i - rs.length), Nat.sub_add_cancel (by omega)]
    rw [e, wf_lt (by omega)]
    exact getD_at (by omega)
theorem row2_take {rs : List Int} : ∀ i, i ≤ 2 * rs.length → ((rs ++ rs).take i).sum = sumN (wf rs) i
  | 0, _ => rfl
  | i + 1, h => by
    rw [List.take_add_one, row2_get (by omega), List.sum_append, row2_take i (by omega)]
    simp [sumN]
theorem take_all {rs : List Int} : rs.sum = sumN (wf rs) rs.length := by
  have := row2_take (rs := rs) rs.length (by omega)
  rw [List.take_append_of_le_length (Nat.le_refl _), List.take_length] at this
  exact this
theorem cut_sum {ms : List Int} {a b : Nat} (h : a ≤ b) : ((ms.drop a).take (b - a)).sum = (ms.take b).sum - (ms.take a).sum := by
  have : ms.take b = ms.take a ++ (ms.drop a).take (b - a) := by
    rw [← List.take_add, Nat.add_sub_cancel' h]
  rw [this, List.sum_append]
  omega
theorem sum_range (f : Nat → Int) : ∀ w, ((List.range w).map f).sum = sumN f w
  | 0 => rfl
  | w + 1 => by rw [List.range_succ, List.map_append, List.sum_append, sum_range f w]; simp [sumN]
theorem range_at {f : Nat → Int} {n i : Nat} (h : i < n) : ((List.range n).map f)[i]? = some (f i) := by
  rw [List.getElem?_map, List.getElem?_range h]; rfl
theorem rev_range {rs : List Int} : (List.range rs.length).map (fun i => rs.getD (rs.length - 1 - i) 0) = rs.reverse := by
  refine List.ext_getElem? fun i => ?_
  by_cases h : i < rs.length
  · rw [range_at h, List.getElem?_reverse h, getD_at (by omega)]
  · rw [List.getElem?_eq_none (by rw [List.length_map, List.length_range]; omega), List.getElem?_eq_none (by rw [List.length_reverse]; omega)]
theorem map_range {rs : List Int} (g : Int → Int) : (List.range rs.length).map (fun i => g (rs.getD i 0)) = rs.map g := by
  refine List.ext_getElem? fun i => ?_
  by_cases h : i < rs.length
  · rw [range_at h, List.getElem?_map, getD_at h]; rfl
  · rw [List.getElem?_eq_none (by rw [List.length_map, List.length_range]; omega), List.getElem?_eq_none (by rw [List.length_map]; omega)]
theorem cut_cnt {rs : List Int} {i w : Nat} (hi : i + w ≤ 2 * rs.length) : (((rs ++ rs).drop i).take w).sum = cnt (wf rs) w i := by
  have := cut_sum (ms := rs ++ rs) (a := i) (b := i + w) (by omega)
  rw [Nat.add_sub_cancel_left, row2_take _ hi, row2_take _ (by omega)] at this
  exact this
theorem cnt_zero (f : Nat → Int) (w : Nat) : cnt f w 0 = sumN f w := by unfold cnt; rw [Nat.zero_add]; simp [sumN]
theorem cnt_next (f : Nat → Int) (w i : Nat) : cnt f w (i + 1) = cnt f w i - f i + f (i + w) := by
  unfold cnt
  rw [show i + 1 + w = (i + w) + 1 by omega]
  simp only [sumN]
  omega
end Eb
namespace L2
open PySem
/-- these addresses are laid and apart -/
structure Fs (H : Hp) (as : List Addr) : Prop where
  nd : as.Nodup
  ins : ∀ a, a ∈ as → ∃ o, H a = some o
theorem Fs.nil (H : Hp) : Fs H [] := ⟨List.nodup_nil, fun _ h => nomatch h⟩
theorem Fs.same {H H' : Hp} {as : List Addr} (F : Fs H as) (s : Same H H') : Fs H' as := ⟨F.nd, fun a h => let ⟨o, e⟩ := F.ins a h; ⟨o, s a o e⟩⟩
theorem Fs.new {H H' : Hp} {as : List Addr} {a : Addr} {o : HO} (F : Fs H as) (n : H a = none) (s : Same H H') (e : H' a = some o) : Fs H' (a :: as) :=
  ⟨List.nodup_cons.mpr ⟨fun h => (by obtain ⟨u, q⟩ := F.ins a h; rw [n] at q; cases q), F.nd⟩, fun b h => by
    rcases List.mem_cons.mp h with z | h
    · subst z; exact ⟨o, e⟩
    · obtain ⟨u, q⟩ := F.ins b h; exact ⟨u, s b u q⟩⟩
theorem Fs.set {H : Hp} {as : List Addr} {p : Addr} {o : HO} (F : Fs H as) : Fs (upd H p o) as := ⟨F.nd, fun a ha => by
  by_cases z : a = p
  · rw [z]; exact ⟨_, upd_same⟩
  · rw [upd_ne z]; exact F.ins a ha⟩
theorem Fs.one {H : Hp} {a : Addr} {o : HO} (e : H a = some o) : Fs H [a] := ⟨by simp, fun b h => by
  have : b = a := by simpa using h
  subst this; exact ⟨o, e⟩⟩
theorem atW {rs : List Int} {j : Int} (h0 : 0 ≤ j) (h1 : j < rs.length) : atI (rs.map V.int) j = some (.int (rs.getD j.toNat 0)) := by
  have := atI_nat (xs := rs.map V.int) (j := j.toNat) (v := .int (rs.getD j.toNat 0)) (by rw [List.getElem?_map, Eb.getD_at (by omega)]; rfl)
  rwa [Int.toNat_of_nonneg h0] at this
theorem cutV_nat {xs : List V} {a b : Nat} (hb : b ≤ xs.length) (hab : a ≤ b) : cutV xs (some (a : Int)) (some (b : Int)) = (xs.drop a).take (b - a) := by
  unfold cutV
  rw [HT.sIx_nat, HT.sIx_nat, Nat.min_eq_left (show a ≤ xs.length by omega), Nat.min_eq_left hb]
/-- two ints lists of the same content are told alike -/
def spAlike : Sp := fun vs H Q _ => ∃ (f d : Addr) (rs : List Int), vs = [.ref f, .ref d] ∧ H f = some (.lst (rs.map V.int)) ∧ H d = some (.lst (rs.map V.int)) ∧ ∀ H', Same H H' → Q (.bl true) H'
section
open PySem.Spec PyProof.Rows
variable {X : Cx} {N' : List Str} {scope : Scope} {cl : List (Str × Addr)} {C : Addr} {fp : List Addr} {s : Shared} {H : Hp}
theorem ixC_list : IxR (cxC X N' scope cl C fp s H) (rIxL X.K) := ix_list
theorem ixC_tup : IxR (cxC X N' scope cl C fp s H) (rIxT X.K) := ix_tup
theorem slC_list : SlR (cxC X N' scope cl C fp s H) (rSlL X.K) := sl_list
theorem callC_sumL (hc : X.calm = true) : CallR (cxC X N' scope cl C fp s H) (.builtin "sum") (rSumL X.K) := call_sumL hc
end
theorem not_take {as : List Addr} (nd : as.Nodup) {i : Nat} {a : Addr} (h : as[i]? = some a) : a ∉ as.take i := fun hm => by
  have e := List.take_append_drop i as
  rw [← e] at nd
  have hd : a ∈ as.drop i := by
    have : (as.drop i)[0]? = some a := by rw [List.getElem?_drop]; simpa using h
    exact List.mem_of_getElem? this
  exact (List.nodup_append.mp nd).2.2 a hm a hd rfl
theorem refs_at {as : List Addr} {i : Nat} {x : V} (h : (as.map V.ref)[i]? = some x) : ∃ a, as[i]? = some a ∧ x = .ref a := by
  rw [List.getElem?_map] at h
  cases e : as[i]? with
  | none => rw [e] at h; cases h
  | some c => rw [e] at h; exact ⟨c, rfl, (Option.some.inj h).symm⟩
theorem ints_ne {ns : List Int} {d : Addr} {rest : List V} : HO.lst (ns.map V.int) ≠ HO.lst (V.ref d :: rest) := fun z => by
  cases ns with
  | nil => cases z
  | cons n ns => cases z
theorem keepI {H : Hp} {a p d : Addr} {ns : List Int} {rest : List V} {o : HO} (h : H a = some (.lst (ns.map V.int))) (hp : H p = some (.lst (.ref d :: rest))) : upd H p o a = some (.lst (ns.map V.int)) :=
  (upd_ne (ne_of h hp ints_ne)).trans h
/-- over a range, with an invariant -/
theorem LCW.rangeP {lo : Int} {n : Nat} {T : V → Hp → VK → Prop} {H : Hp} {Q : VK} (Pv : Nat → List V → Hp → Prop) (hn : n ≤ sizeLine) (h0 : Pv 0 [] H) (hs : ∀ i acc H, i < n → acc.length = i → Pv i acc H → T (.int (lo + i)) H fun v H2 => Pv (i + 1) (acc ++ [v]) H2)
    (hd : ∀ acc H, acc.length = n → Pv n acc H → ∀ l, H l = none → Q (.ref l) (upd H l (.lst acc))) (mono : ∀ v H (R R' : VK), (∀ u H, R u H → R' u H) → T v H R → T v H R') : LCW (Itr lo n) H T Q := by
  refine ⟨fun i m acc H1 => m = n - i ∧ i ≤ n ∧ acc.length = i ∧ Pv i acc H1, ⟨n, by simp, Nat.zero_le _, rfl, h0⟩, ?_⟩
  rintro i m acc H1 ⟨rfl, hi, hl, p⟩
  by_cases hlt : i < n
  · refine .inr ⟨hlt, by omega, fun x H' y => ?_⟩
    obtain ⟨e, y⟩ := y
    subst e y
    exact mono _ _ _ _ (fun u H2 p2 => ⟨n - (i + 1), by omega, rfl, hlt, by rw [List.length_append, hl]; rfl, p2⟩) (hs i acc _ hlt hl p)
  · have e : i = n := by omega
    subst e
    exact .inl ⟨Nat.le_refl _, hd acc H1 hl p⟩
/-- over a range, the heap may grow -/
theorem LCW.rangeS {lo : Int} {n : Nat} {T : V → Hp → VK → Prop} {H : Hp} {Q : VK} (f : Nat → V) (hn : n ≤ sizeLine) (hs : ∀ i, i < n → ∀ H', Same H H' → ∀ R : VK, (∀ H2, Same H' H2 → R (f i) H2) → T (.int (lo + i)) H' R)
    (hd : ∀ H', Same H H' → ∀ l, H' l = none → Q (.ref l) (upd H' l (.lst ((List.range n).map f)))) : LCW (Itr lo n) H T Q := by
  refine ⟨fun i m acc H1 => m = n - i ∧ i ≤ n ∧ Same H H1 ∧ acc = (List.range i).map f, ⟨n, by simp, Nat.zero_le _, Same.refl _, rfl⟩, ?_⟩
  rintro i m acc H1 ⟨rfl, hi, sm, rfl⟩
  by_cases hlt : i < n
  · refine .inr ⟨hlt, by rw [List.length_map, List.length_range]; omega, fun x H' y => ?_⟩
    obtain ⟨e, y⟩ := y
    subst e y
    refine hs i hlt _ sm _ fun H2 s2 => ⟨n - (i + 1), by omega, rfl, hlt, sm.trans s2, ?_⟩
    rw [List.range_succ, List.map_append]
    rfl
  · have e : i = n := by omega
    subst e
    exact .inl ⟨Nat.le_refl _, hd _ sm⟩
end L2

/-! A DEF WITH DEFAULTS -/
namespace L2
open PySem PySem.Spec PyProof.Rows
structure FunD (K : PySem.W.Frag) (x qual : Str) (st : Stmt) (f : Addr) (fd : FuncData) : Prop where
  ex : ∃ (oc : Value) (od : Option Addr) (dV kV doc pm : Value) (an : Option Addr) (cdv ct : Value) (osl : Array (Option Value)),
    fd = PySem.W.fnOf x qual (defArgs st) (defBody st) (defScope st) dV kV doc pm an cdv ct ∧ K.lookup f = some ⟨oc, od, .func fd, osl⟩ ∧ PySem.W.codeIn K cdv qual = true
  kp : PySem.W.keepIn K (.ref f) = true
section
variable {P : Program} {w : World} {K : PySem.W.Frag} {mg : Str → Option Value} {base : Heap}
theorem FunD.okW {x qual : Str} {st : Stmt} {f : Addr} {fd : FuncData} {N ps : List Str} {k : Nat} {sp : Sp} (F : FunD K x qual st f fd) (S : FnScope N ps (defScope st)) (len : ∀ vs H Q E, sp vs H Q E → vs.length = ps.length)
    (hbody : ∀ (cdv : Value) (A : Around) (outer : List Env) (s : Shared) (H : Hp) (vs : List V) (Q : VK) (E : XK), Room k (A.deeper (envOfC qual (defScope st) s.heap.objs.size f cdv)) → sp vs H Q E →
      ∃ t, PSs (cxOf (CXW P w) P w K mg base N qual (defScope st) f cdv A outer s H E) (defBody st) t ∧ t { nx := fun _ H' => Q .non H', rt := Q } (start N vs) H) : FnOk P w K mg base (CXW P w) (k + 1) f fd ps sp := by
  obtain ⟨oc, od, dV, kV, doc, pm, an, cdv, ct, osl, rfl, lk, hcd⟩ := F.ex
  exact fn_of lk hcd S len fun A outer s H vs Q E hr hsp => hbody cdv A outer s H vs Q E hr hsp
theorem FunD.ok0 {x qual : Str} {st : Stmt} {f : Addr} {fd : FuncData} {N ps : List Str} {k : Nat} {sp : Sp} (F : FunD K x qual st f fd) (S : FnScope N ps (defScope st)) (len : ∀ vs H Q E, sp vs H Q E → vs.length = ps.length)
    (hbody : ∀ (cdv : Value) (A : Around) (outer : List Env) (s : Shared) (H : Hp) (vs : List V) (Q : VK) (E : XK), Room k (A.deeper (envOfC qual (defScope st) s.heap.objs.size f cdv)) → sp vs H Q E →
      ∃ t, PSs (cxOf (CXW P w) P w K mg base N qual (defScope st) f cdv A outer s H E).nox (defBody st) t ∧ t { nx := fun _ H' => Q .non H', rt := Q } (start N vs) H) : FnOk P w K mg base (CXW P w) (k + 1) f fd ps sp :=
  F.okW S len fun cdv A outer s H vs Q E hr hsp => by
    obtain ⟨t, h, q⟩ := hbody cdv A outer s H vs Q E hr hsp
    exact ⟨t, h.nox, q⟩
theorem funD_mk {x qual : Str} {st : Stmt} {f : Addr} {oc : Value} {od an : Option Addr} {osl : Array (Option Value)} {dV kV doc pm cdv ct : Value} (l : K.lookup f = some ⟨oc, od, .func (PySem.W.fnOf x qual (defArgs st) (defBody st) (defScope st) dV kV doc pm an cdv ct), osl⟩)
    (c : PySem.W.codeIn K cdv qual = true) (k : PySem.W.keepIn K (.ref f) = true) : FunD K x qual st f (PySem.W.fnOf x qual (defArgs st) (defBody st) (defScope st) dV kV doc pm an cdv ct) := ⟨⟨oc, od, dV, kV, doc, pm, an, cdv, ct, osl, rfl, l, c⟩, k⟩
end
end L2

/-! while with a name for what is left; a loop that nothing leaves inside a def that an error may leave; list.index -/
namespace L2
open PySem PySem.Spec PyProof.Rows
section
variable {X : Cx}
theorem PS.nox0 {st : Stmt} {t : TS} (h : PS X.nox st t) : PS X st t := fun pins s σ H D I hw =>
  wpAny_mono (h pins s σ H D (I.wish _) hw) (fun _ _ q => q.unwish) fun _ _ z => False.elim z
def WhW (c : TT) (T : St → Hp → (St → Hp → Prop) → Prop) (nx : St → Hp → Prop) (σ : St) (H : Hp) : Prop := ∃ W : Nat → St → Hp → Prop, (∃ m, W m σ H) ∧ ∀ m σ H, W m σ H →
  c σ H fun b H1 => if b = true then ∃ N : St → Hp → Prop, (∀ σ' H', N σ' H' → ∃ m', m' < m ∧ W m' σ' H') ∧ T σ H1 N else nx σ H1
def tWhileW (c : TT) (tb : TS) : TS := fun D σ H => WhW c (fun σ H N => tb { D with nx := N, ct := N, bk := D.nx } σ H) D.nx σ H
theorem ps_whileW {c : Expr} {body : List Stmt} {tc : TT} {tb : TS} {pos : Pos} (hp : PassesOwn (model X.prog X.w) X.A X.env X.xe) (hc : PT X c tc) (hb : PSs X body tb) : PS X (.While c body [] pos) (tWhileW tc tb) := ps_while hp hc hb
theorem WhW.of {c : TT} {T : St → Hp → (St → Hp → Prop) → Prop} {nx : St → Hp → Prop} {σ : St} {H : Hp} (Pv : Nat → St → Hp → Prop) (h0 : ∃ m, Pv m σ H)
    (hs : ∀ m σ H, Pv m σ H → c σ H fun b H1 => if b = true then ∃ N : St → Hp → Prop, (∀ σ' H', N σ' H' → ∃ m', m' < m ∧ Pv m' σ' H') ∧ T σ H1 N else nx σ H1) : WhW c T nx σ H := ⟨Pv, h0, hs⟩
def rIndex (K : PySem.W.Frag) : V → List V → Hp → VK → Prop := fun x vs H Q => ∃ (l : Addr) (ns : List Int) (k : Int), x = .ref l ∧ vs = [.int k] ∧ SqL K H l (ns.map V.int) ∧ k ∈ ns ∧ ns.length ≤ 1000 ∧ Q (.int (ns.idxOf k)) H
theorem mt_index : MtM X "list.index" (rIndex X.K) := by
  intro pins s σ H x vs v us Q I rx rv h
  obtain ⟨l, ns, k, rfl, rfl, hl, hk, hz, q⟩ := h
  cases rx
  obtain ⟨u, rfl, ru⟩ := rv.one
  obtain ⟨t, rfl⟩ := ru
  obtain ⟨its, r, p, _⟩ := I.list hl
  obtain ⟨o, n, e, hcls, hdict, hdata⟩ := p
  obtain ⟨cls, dict, data, slots⟩ := o
  dsimp only at hcls hdict hdata
  subst hcls hdict hdata
  have hj : ns.idxOf k < ns.length := List.idxOf_lt_length_of_mem hk
  have hlen : ns.length = its.length := by have := r.length; rwa [List.length_map] at this
  have at_ : ∀ m, (hm : m < ns.length) → ∃ t, its[m]? = some (.int ns[m] t) := fun m hm => by
    obtain ⟨u, e1, t, e2⟩ := r.get (i := m) (x := .int ns[m]) (by rw [List.getElem?_map, List.getElem?_eq_getElem hm]; rfl)
    exact ⟨t, by rw [e1, e2]⟩
  refine call_meets F.slot_list_index ⟨_, e, rfl⟩ F.entry_list_index (F.args_list_index_2 _ _) (SeqAt.list_indexAt l its.toArray n none slots (.int k t) (eqU (.int k)) (ns.idxOf k) (by rw [List.size_toArray]; omega) (by omega) ?_ ?_) ⟨e, ?_, ?_⟩
  · obtain ⟨t', q'⟩ := at_ _ hj
    rw [List.getElem?_eq_getElem (by omega)] at q'
    have q2 := Option.some.inj q'
    rw [List.getElem_idxOf] at q2
    show eqU (.int k) (its.toArray[ns.idxOf k]'_) = true
    rw [List.getElem_toArray, q2]
    simp [eqU, eqV]
  · intro m hm hmj
    have hm' : m < ns.length := by omega
    obtain ⟨t', q'⟩ := at_ _ hm'
    rw [List.getElem?_eq_getElem (by omega)] at q'
    have q2 := Option.some.inj q'
    rw [List.getElem_toArray, q2]
    exact List.not_of_lt_findIdx (p := (· == k)) hmj
  · intro y hy
    exact mem_eqAt (x := .int k) ⟨t, rfl⟩ rfl r (by simp [flatV]) y (by simpa using hy)
  · exact ⟨.int _, H, I.tok _, ⟨_, rfl⟩, q⟩
end
end L2

namespace Eb
open Wheel
def Ev1 (rs : List Int) (w : Nat) : Prop := ∀ i j, i < rs.length → j < rs.length → cnt (wf rs) w i - cnt (wf rs) w j ≤ 1
def bits (rs : List Int) : Prop := ∀ x, x ∈ rs → x = 0 ∨ x = 1
def rowS (s : Int) (n : Nat) : List Int := (List.range n).map fun (i : Nat) => ah s n (i + 1) - ah s n i
theorem rowS_len (s : Int) (n : Nat) : (rowS s n).length = n := by unfold rowS; rw [List.length_map, List.length_range]
theorem bits_wf {rs : List Int} (hb : bits rs) (h1 : 1 ≤ rs.length) (i : Nat) : wf rs i = 0 ∨ wf rs i = 1 := by
  have := getD_at (rs := rs) (i := i % rs.length) (Nat.mod_lt _ h1)
  exact hb _ (List.mem_of_getElem? this)
theorem wheel_of {rs : List Int} (h1 : 1 ≤ rs.length) (hb : bits rs) : Wheel rs.length rs.sum (wf rs) :=
  ⟨h1, wf_round rs, bits_wf hb h1, take_all.symm⟩
theorem sum_in {rs : List Int} (h1 : 1 ≤ rs.length) (hb : bits rs) : 0 ≤ rs.sum ∧ rs.sum ≤ rs.length := by
  rw [take_all]
  have a := sumN_ge (f := wf rs) (c := 0) (n := rs.length) fun i _ => by rcases bits_wf hb h1 i with e | e <;> omega
  have b := sumN_le (f := wf rs) (c := 1) (n := rs.length) fun i _ => by rcases bits_wf hb h1 i with e | e <;> omega
  omega
theorem evC_of {rs : List Int} (W : Wheel rs.length rs.sum (wf rs)) (h : ∀ w, w < rs.length → Ev1 rs w) : EvC rs.length (wf rs) := fun w hw i j hi hj => by
  by_cases hl : w < rs.length
  · exact h w hl i j hi hj
  · have e : w = rs.length := by omega
    subst e
    unfold cnt
    rw [W.round i, W.round j]; omega
theorem trn_nat (rs : List Int) (t : Nat) : trn rs (t : Int) = (List.range rs.length).map fun i => wf rs (i + t) := by
  unfold trn wf
  refine List.map_congr_left fun i _ => ?_
  have e : ((i : Int) + (t : Int)) % (rs.length : Int) = (((i + t) % rs.length : Nat) : Int) := by rfl
  rw [e, Int.toNat_natCast]
theorem start_of {rs : List Int} (h1 : 1 ≤ rs.length) (hb : bits rs) (ev : ∀ w, w < rs.length → Ev1 rs w) : ∃ t, t < rs.length ∧ trn rs (t : Int) = rowS rs.sum rs.length := by
  have W := wheel_of h1 hb
  obtain ⟨t, ht, h⟩ := laid_from W (evD_of_evC W (evC_of W ev))
  refine ⟨t, ht, ?_⟩
  rw [trn_nat]
  unfold rowS
  refine List.map_congr_left fun i _ => ?_
  have a := h i
  have b := h (i + 1)
  rw [cnt_succ, Nat.add_comm t i] at b
  unfold ah
  rw [show ((i : Int) + 1) = ((i + 1 : Nat) : Int) from rfl]
  omega
theorem diff_of_share {rs : List Int} {w : Nat} (h1 : 1 ≤ rs.length) (h : ∀ i, (rs.length : Int) * cnt (wf rs) w i - rs.sum * w < rs.length ∧ rs.sum * w - (rs.length : Int) * cnt (wf rs) w i < rs.length) (i j : Nat) : cnt (wf rs) w i - cnt (wf rs) w j ≤ 1 := by
  have a := (h i).1
  have b := (h j).2
  have : (rs.length : Int) * (cnt (wf rs) w i - cnt (wf rs) w j) < (rs.length : Int) * 2 := by rw [Int.mul_sub]; omega
  have := Int.lt_of_mul_lt_mul_left this (by omega)
  omega
/-- even by the devs: all that the laws ask -/
structure EvenRow (rs : List Int) : Prop where
  one : 1 ≤ rs.length
  bit : bits rs
  evD : EvD rs.length rs.sum (wf rs)
theorem EvenRow.wheel {rs : List Int} (E : EvenRow rs) : Wheel rs.length rs.sum (wf rs) := wheel_of E.one E.bit
theorem EvenRow.diff {rs : List Int} (E : EvenRow rs) (w i j : Nat) : cnt (wf rs) w i - cnt (wf rs) w j ≤ 1 := diff_of_share E.one (fun i => cnt_share E.wheel E.evD w i) i j
theorem EvenRow.ev1 {rs : List Int} (E : EvenRow rs) (w : Nat) : Ev1 rs w := fun i j _ _ => E.diff w i j
theorem evenRow_of {rs : List Int} (h1 : 1 ≤ rs.length) (hb : bits rs) (ev : ∀ w, w < rs.length → Ev1 rs w) : EvenRow rs :=
  ⟨h1, hb, let W := wheel_of h1 hb; evD_of_evC W (evC_of W ev)⟩
/-! the row by groups -/
def ofB (W : List Bool) : List Int := W.map fun b => if b then 1 else 0
theorem sub_ofB : ∀ W, sub [1] [0] W = ofB W
  | [] => rfl
  | true :: r => by simp only [sub]; rw [sub_ofB r]; rfl
  | false :: r => by simp only [sub]; rw [sub_ofB r]; rfl
theorem sum_ofB : ∀ W, (ofB W).sum = (tr W : Nat)
  | [] => rfl
  | true :: r => by show 1 + (ofB r).sum = _; rw [sum_ofB r]; simp only [tr]; omega
  | false :: r => by show 0 + (ofB r).sum = _; rw [sum_ofB r]; simp only [tr]; omega
theorem take_ofB (W : List Bool) (i : Nat) : (ofB W).take i = ofB (W.take i) := by unfold ofB; rw [List.map_take]
theorem len_ofB (W : List Bool) : (ofB W).length = W.length := by unfold ofB; rw [List.length_map]
theorem bits_ofB (W : List Bool) : bits (ofB W) := fun x h => by
  obtain ⟨b, _, rfl⟩ := List.mem_map.mp h
  cases b
  · exact .inl rfl
  · exact .inr rfl
theorem even_ofB {W : List Bool} (h : EvW W) (h1 : 1 ≤ W.length) : EvenRow (ofB W) := by
  refine ⟨by rw [len_ofB]; exact h1, bits_ofB W, fun i j hi hj => ?_⟩
  rw [len_ofB] at hi hj ⊢
  have key : ∀ k, k < W.length → dev W.length (ofB W).sum (wf (ofB W)) k = devW W k := fun k hk => by
    unfold dev devW
    have e := row2_take (rs := ofB W) k (by rw [len_ofB]; omega)
    rw [List.take_append_of_le_length (by rw [len_ofB]; omega), take_ofB, sum_ofB] at e
    rw [← e, sum_ofB]
  rw [key i hi, key j hj]
  exact h i j (by omega) (by omega)
structure Grouped (s : Nat) (p : Nat) (rs : List Int) : Prop where
  len : rs.length = p
  sum : rs.sum = s
  ev : EvenRow rs
theorem grouped_of {s p : Nat} (h1 : 1 ≤ p) (hs : s ≤ p) : Grouped s p (bj [1] s [0] (p - s)) := by
  refine bj_of (Grouped s p) [1] s [0] (p - s) (by omega) fun W hW ht hl => ?_
  rw [sub_ofB]
  have hl' : W.length = p := by omega
  exact ⟨by rw [len_ofB]; exact hl', by rw [sum_ofB, ht], even_ofB hW (by omega)⟩
/-! mirrored and swapped -/
theorem wf_rev {rs : List Int} (h1 : 1 ≤ rs.length) {i : Nat} (hi : i < 2 * rs.length) : wf rs.reverse i = wf rs (2 * rs.length - 1 - i) := by
  have key : ∀ j, j < rs.length → wf rs.reverse j = wf rs (rs.length - 1 - j) := fun j hj => by
    rw [wf_lt (by rw [List.length_reverse]; exact hj), wf_lt (show rs.length - 1 - j < rs.length by omega)]
    rw [List.getD_eq_getElem?_getD, List.getElem?_reverse hj, List.getD_eq_getElem?_getD]
  by_cases h : i < rs.length
  · rw [key i h, ← wf_round rs (rs.length - 1 - i)]; congr 1; omega
  · have := wf_round rs.reverse (i - rs.length)
    rw [List.length_reverse, Nat.sub_add_cancel (by omega)] at this
    rw [this, key _ (by omega)]; congr 1; omega
theorem cnt_rev {rs : List Int} (h1 : 1 ≤ rs.length) {i : Nat} (hi : i < rs.length) : ∀ w, w ≤ rs.length → cnt (wf rs.reverse) w i = cnt (wf rs) w (2 * rs.length - i - w)
  | 0, _ => by unfold cnt; simp
  | w + 1, hw => by
    rw [cnt_succ, cnt_rev h1 hi w (by omega), wf_rev h1 (by omega)]
    have a : 2 * rs.length - i - (w + 1) + 1 = 2 * rs.length - i - w := by omega
    have e := cnt_next (wf rs) w (2 * rs.length - i - (w + 1))
    rw [a] at e
    rw [cnt_succ, e, show 2 * rs.length - 1 - (i + w) = 2 * rs.length - i - (w + 1) by omega]
    omega
theorem sum_rev (rs : List Int) : rs.reverse.sum = rs.sum := by
  induction rs with
  | nil => rfl
  | cons x r ih => rw [List.reverse_cons, List.sum_append, ih, List.sum_cons]; simp; omega
theorem EvenRow.rev {rs : List Int} (E : EvenRow rs) : EvenRow rs.reverse := by
  have hl := List.length_reverse (as := rs)
  refine evenRow_of (by rw [hl]; exact E.one) (fun x hx => E.bit x (List.mem_reverse.mp hx)) fun w hw i j hi hj => ?_
  rw [hl] at hw hi hj
  rw [cnt_rev E.one hi w (by omega), cnt_rev E.one hj w (by omega)]
  exact E.diff w _ _
theorem wf_map {rs : List Int} (h1 : 1 ≤ rs.length) (i : Nat) : wf (rs.map fun x => 1 - x) i = 1 - wf rs i := by
  unfold wf
  rw [List.length_map, List.getD_eq_getElem?_getD, List.getElem?_map, getD_at (Nat.mod_lt _ h1)]; rfl
theorem cnt_map {rs : List Int} (h1 : 1 ≤ rs.length) (i : Nat) : ∀ w, cnt (wf (rs.map fun x => 1 - x)) w i = w - cnt (wf rs) w i
  | 0 => by unfold cnt; simp
  | w + 1 => by rw [cnt_succ, cnt_succ, cnt_map h1 i w, wf_map h1]; omega
theorem EvenRow.swap {rs : List Int} (E : EvenRow rs) : EvenRow (rs.map fun x => 1 - x) := by
  refine evenRow_of (by rw [List.length_map]; exact E.one) (fun x hx => ?_) fun w hw i j hi hj => ?_
  · obtain ⟨y, hy, rfl⟩ := List.mem_map.mp hx
    rcases E.bit y hy with e | e <;> omega
  · rw [List.length_map] at hi hj
    have := E.ev1 w j i hj hi
    rw [cnt_map E.one, cnt_map E.one]
    omega
theorem sum_swap (rs : List Int) : (rs.map fun x => 1 - x).sum = rs.length - rs.sum := by
  induction rs with
  | nil => rfl
  | cons x r ih => rw [List.map_cons, List.sum_cons, ih, List.sum_cons, List.length_cons]; omega
theorem cut_trn {rs : List Int} {t : Nat} (h : t ≤ rs.length) : ((rs ++ rs).drop t).take rs.length = trn rs (t : Int) := by
  rw [trn_nat]
  refine List.ext_getElem? fun i => ?_
  by_cases hi : i < rs.length
  · rw [range_at hi, List.getElem?_take_of_lt hi, List.getElem?_drop, row2_get (by omega), Nat.add_comm]
  · rw [List.getElem?_eq_none (by rw [List.length_take, List.length_drop, List.length_append]; omega), List.getElem?_eq_none (by rw [List.length_map, List.length_range]; omega)]
theorem share_low {n S c w : Int} (hn : 0 < n) (h : S * w - n * c < n) : ¬ c < S * w / n := by
  have := fdiv_lt (x := S * w) (p := n) (q := c + 1) hn (by rw [Int.add_mul, Int.one_mul, Int.mul_comm c n]; omega)
  omega
theorem share_high {n S c w : Int} (hn : 0 < n) (h : n * c - S * w < n) : ¬ (S * w + n - 1) / n < c := by
  have := le_fdiv (x := S * w + n - 1) (p := n) (q := c) hn (by rw [Int.mul_comm c n]; omega)
  omega
end Eb

/-! Walking a tuple; the body of a class. -/
namespace L2
open PySem PySem.Spec PyProof.Rows
theorem FoW.tup {K : PySem.W.Frag} {a : Addr} {xs : List V} {T : V → St → Hp → (St → Hp → Prop) → Prop} {nx : St → Hp → Prop} {σ : St} {H : Hp} (Pv : Nat → St → Hp → Prop) (h0 : Pv 0 σ H) (hl : ∀ i σ H, i ≤ xs.length → Pv i σ H → SqT K H a xs)
    (hs : ∀ i x σ H, xs[i]? = some x → Pv i σ H → T x σ H (Pv (i + 1))) (hd : ∀ σ H, Pv xs.length σ H → nx σ H) : FoW (Itt K a) σ H T nx := by
  refine ⟨fun i m σ H => m = xs.length - i ∧ i ≤ xs.length ∧ Pv i σ H, ⟨xs.length, by simp, Nat.zero_le _, h0⟩, ?_⟩
  rintro i m σ H ⟨rfl, hi, p⟩
  have q := hl i σ H hi p
  by_cases hlt : i < xs.length
  · refine .inr ⟨⟨xs, xs[i], q, by simp [hlt]⟩, Pv (i + 1), fun σ' H' p' => ⟨xs.length - (i + 1), by omega, rfl, hlt, p'⟩, fun x H' y => ?_⟩
    obtain ⟨e, y⟩ := y
    subst e
    exact hs i x σ _ (y xs q) p
  · have e : i = xs.length := by omega
    subst e
    exact .inl ⟨⟨xs, q, Nat.le_refl _⟩, hd σ H p⟩
def clsBody : Stmt → List Stmt
  | .ClassDef _ _ _ b _ _ _ _ _ _ _ => b
  | _ => []
end L2

namespace Eb
open PySem L2
def top (i : Nat) : Stmt := PySem.Challenge.pw_evenbeat_k08_whole_even_or_fault.main.body.getD i (.Pass ⟨0, 0, 0, 0⟩)
abbrev s_Uneven___init__ : Stmt := (clsBody (top 5)).getD 0 (.Pass ⟨0, 0, 0, 0⟩)
abbrev s_check_wheel : Stmt := top 7
abbrev s_ahead : Stmt := top 8
abbrev s_has_stroke : Stmt := top 9
abbrev s_whole_round : Stmt := top 10
abbrev s_counts : Stmt := top 12
abbrev s_fault : Stmt := top 13
abbrev s_turned : Stmt := top 14
abbrev s_start : Stmt := top 15
abbrev s__law_cell_at : Stmt := top 17
abbrev s__law_whole : Stmt := top 18
abbrev s__law_alike : Stmt := top 19
abbrev s__law_sums_row : Stmt := top 20
abbrev s__law_changed : Stmt := top 21
abbrev s__law_made : Stmt := top 22
abbrev s__law_row : Stmt := top 23
abbrev s__law_even : Stmt := top 24
abbrev s__law_counts : Stmt := top 25
abbrev s__law_fault : Stmt := top 26
abbrev s__law_refused : Stmt := top 27
abbrev s__law_own : Stmt := top 28
abbrev s_law : Stmt := top 29
structure Adr where
  BeatError : Addr
  NoWheel : Addr
  NoStroke : Addr
  NoRow : Addr
  Uneven : Addr
  Uneven___init__ : Addr
  fd_Uneven___init__ : FuncData
  check_wheel : Addr
  fd_check_wheel : FuncData
  ahead : Addr
  fd_ahead : FuncData
  has_stroke : Addr
  fd_has_stroke : FuncData
  whole_round : Addr
  fd_whole_round : FuncData
  counts : Addr
  fd_counts : FuncData
  fault : Addr
  fd_fault : FuncData
  turned : Addr
  fd_turned : FuncData
  start : Addr
  fd_start : FuncData
  _law_cell_at : Addr
  fd__law_cell_at : FuncData
  _law_whole : Addr
  fd__law_whole : FuncData
  _law_alike : Addr
  fd__law_alike : FuncData
  _law_sums_row : Addr
  fd__law_sums_row : FuncData
  _law_changed : Addr
  fd__law_changed : FuncData
  _law_made : Addr
  fd__law_made : FuncData
  _law_row : Addr
  fd__law_row : FuncData
  _law_even : Addr
  fd__law_even : FuncData
  _law_counts : Addr
  fd__law_counts : FuncData
  _law_fault : Addr
  fd__law_fault : FuncData
  _law_refused : Addr
  fd__law_refused : FuncData
  _law_own : Addr
  fd__law_own : FuncData
  law : Addr
  fd_law : FuncData
structure Txt (K : PySem.W.Frag) (mg : Str → Option Value) (a : Adr) : Prop where
  m_BeatError : mg "BeatError" = some (.ref a.BeatError)
  m_NoWheel : mg "NoWheel" = some (.ref a.NoWheel)
  m_NoStroke : mg "NoStroke" = some (.ref a.NoStroke)
  m_NoRow : mg "NoRow" = some (.ref a.NoRow)
  m_Uneven : mg "Uneven" = some (.ref a.Uneven)
  c_NoWheel : ErrCls K mg "NoWheel" a.NoWheel
  o_NoWheel : ClassOf K a.NoWheel
  x_BeatError : ExcBase K mg "BeatError" a.BeatError
  i_Uneven : InitCls K mg "Uneven" a.Uneven a.BeatError a.Uneven___init__
  o_Uneven : ClassOf K a.Uneven
  ty_Uneven : PySem.W.typeIn K (.ref a.Uneven) = some (.type "type")
  na_Uneven_width : NoAttr K a.Uneven "width"
  na_Uneven_most : NoAttr K a.Uneven "most"
  na_Uneven_least : NoAttr K a.Uneven "least"
  k_Uneven___init__ : PySem.W.keepIn K (.ref a.Uneven___init__) = true
  f_Uneven___init__ : Fun K "__init__" "Uneven.__init__" s_Uneven___init__ a.Uneven___init__ a.fd_Uneven___init__
  b_Uneven___init__ : Binds K a.fd_Uneven___init__ ["self", "width", "most", "least"] []
  m_check_wheel : mg "check_wheel" = some (.ref a.check_wheel)
  k_check_wheel : PySem.W.keepIn K (.ref a.check_wheel) = true
  f_check_wheel : Fun K "check_wheel" "check_wheel" s_check_wheel a.check_wheel a.fd_check_wheel
  b_check_wheel : Binds K a.fd_check_wheel ["strokes", "places"] []
  m_ahead : mg "ahead" = some (.ref a.ahead)
  k_ahead : PySem.W.keepIn K (.ref a.ahead) = true
  f_ahead : Fun K "ahead" "ahead" s_ahead a.ahead a.fd_ahead
  b_ahead : Binds K a.fd_ahead ["strokes", "places", "at"] []
  m_has_stroke : mg "has_stroke" = some (.ref a.has_stroke)
  k_has_stroke : PySem.W.keepIn K (.ref a.has_stroke) = true
  f_has_stroke : Fun K "has_stroke" "has_stroke" s_has_stroke a.has_stroke a.fd_has_stroke
  b_has_stroke : Binds K a.fd_has_stroke ["strokes", "places", "at"] []
  m_whole_round : mg "whole_round" = some (.ref a.whole_round)
  k_whole_round : PySem.W.keepIn K (.ref a.whole_round) = true
  f_whole_round : Fun K "whole_round" "whole_round" s_whole_round a.whole_round a.fd_whole_round
  b_whole_round : Binds K a.fd_whole_round ["strokes", "places"] []
  m_counts : mg "counts" = some (.ref a.counts)
  k_counts : PySem.W.keepIn K (.ref a.counts) = true
  f_counts : Fun K "counts" "counts" s_counts a.counts a.fd_counts
  b_counts : Binds K a.fd_counts ["row", "width"] []
  m_fault : mg "fault" = some (.ref a.fault)
  k_fault : PySem.W.keepIn K (.ref a.fault) = true
  f_fault : Fun K "fault" "fault" s_fault a.fault a.fd_fault
  b_fault : Binds K a.fd_fault ["row"] []
  m_turned : mg "turned" = some (.ref a.turned)
  k_turned : PySem.W.keepIn K (.ref a.turned) = true
  f_turned : FunD K "turned" "turned" s_turned a.turned a.fd_turned
  b_turned : Binds K a.fd_turned ["row", "by"] []
  bd_turned : ∃ t, Binds K a.fd_turned ["row", "by"] [.int 1 t]
  m_start : mg "start" = some (.ref a.start)
  k_start : PySem.W.keepIn K (.ref a.start) = true
  f_start : Fun K "start" "start" s_start a.start a.fd_start
  b_start : Binds K a.fd_start ["row"] []
  m__law_cell_at : mg "_law_cell_at" = some (.ref a._law_cell_at)
  k__law_cell_at : PySem.W.keepIn K (.ref a._law_cell_at) = true
  f__law_cell_at : Fun K "_law_cell_at" "_law_cell_at" s__law_cell_at a._law_cell_at a.fd__law_cell_at
  b__law_cell_at : Binds K a.fd__law_cell_at ["_law_script", "_law_k"] []
  m__law_whole : mg "_law_whole" = some (.ref a._law_whole)
  k__law_whole : PySem.W.keepIn K (.ref a._law_whole) = true
  f__law_whole : Fun K "_law_whole" "_law_whole" s__law_whole a._law_whole a.fd__law_whole
  b__law_whole : Binds K a.fd__law_whole ["_law_found"] []
  m__law_alike : mg "_law_alike" = some (.ref a._law_alike)
  k__law_alike : PySem.W.keepIn K (.ref a._law_alike) = true
  f__law_alike : Fun K "_law_alike" "_law_alike" s__law_alike a._law_alike a.fd__law_alike
  b__law_alike : Binds K a.fd__law_alike ["_law_found", "_law_due"] []
  m__law_sums_row : mg "_law_sums_row" = some (.ref a._law_sums_row)
  k__law_sums_row : PySem.W.keepIn K (.ref a._law_sums_row) = true
  f__law_sums_row : Fun K "_law_sums_row" "_law_sums_row" s__law_sums_row a._law_sums_row a.fd__law_sums_row
  b__law_sums_row : Binds K a.fd__law_sums_row ["_law_strokes", "_law_places"] []
  m__law_changed : mg "_law_changed" = some (.ref a._law_changed)
  k__law_changed : PySem.W.keepIn K (.ref a._law_changed) = true
  f__law_changed : Fun K "_law_changed" "_law_changed" s__law_changed a._law_changed a.fd__law_changed
  b__law_changed : Binds K a.fd__law_changed ["_law_row_here", "_law_script"] []
  m__law_made : mg "_law_made" = some (.ref a._law_made)
  k__law_made : PySem.W.keepIn K (.ref a._law_made) = true
  f__law_made : Fun K "_law_made" "_law_made" s__law_made a._law_made a.fd__law_made
  b__law_made : Binds K a.fd__law_made ["_law_script"] []
  m__law_row : mg "_law_row" = some (.ref a._law_row)
  k__law_row : PySem.W.keepIn K (.ref a._law_row) = true
  f__law_row : Fun K "_law_row" "_law_row" s__law_row a._law_row a.fd__law_row
  b__law_row : Binds K a.fd__law_row ["_law_script"] []
  m__law_even : mg "_law_even" = some (.ref a._law_even)
  k__law_even : PySem.W.keepIn K (.ref a._law_even) = true
  f__law_even : Fun K "_law_even" "_law_even" s__law_even a._law_even a.fd__law_even
  b__law_even : Binds K a.fd__law_even ["_law_row_here"] []
  m__law_counts : mg "_law_counts" = some (.ref a._law_counts)
  k__law_counts : PySem.W.keepIn K (.ref a._law_counts) = true
  f__law_counts : Fun K "_law_counts" "_law_counts" s__law_counts a._law_counts a.fd__law_counts
  b__law_counts : Binds K a.fd__law_counts ["_law_heads", "_law_places", "_law_width"] []
  m__law_fault : mg "_law_fault" = some (.ref a._law_fault)
  k__law_fault : PySem.W.keepIn K (.ref a._law_fault) = true
  f__law_fault : Fun K "_law_fault" "_law_fault" s__law_fault a._law_fault a.fd__law_fault
  b__law_fault : Binds K a.fd__law_fault ["_law_row_here", "_law_found"] []
  m__law_refused : mg "_law_refused" = some (.ref a._law_refused)
  k__law_refused : PySem.W.keepIn K (.ref a._law_refused) = true
  f__law_refused : Fun K "_law_refused" "_law_refused" s__law_refused a._law_refused a.fd__law_refused
  b__law_refused : Binds K a.fd__law_refused ["_law_row_here", "_law_found"] []
  m__law_own : mg "_law_own" = some (.ref a._law_own)
  k__law_own : PySem.W.keepIn K (.ref a._law_own) = true
  f__law_own : Fun K "_law_own" "_law_own" s__law_own a._law_own a.fd__law_own
  b__law_own : Binds K a.fd__law_own ["_law_cell"] []
  m_law : mg "law" = some (.ref a.law)
  k_law : PySem.W.keepIn K (.ref a.law) = true
  f_law : Fun K "law" "law" s_law a.law a.fd_law
  b_law : Binds K a.fd_law ["_law_script"] []
  n_ValueError : mg "ValueError" = none
  n_bool : mg "bool" = none
  n_int : mg "int" = none
  n_isinstance : mg "isinstance" = none
  n_len : mg "len" = none
  n_list : mg "list" = none
  n_max : mg "max" = none
  n_min : mg "min" = none
  n_range : mg "range" = none
  n_sum : mg "sum" = none
  n_tuple : mg "tuple" = none
  n_zip : mg "zip" = none
  i_ii : PySem.W.kitOne K (.type "int") (.type "int") = some true
  i_ib : PySem.W.kitOne K (.type "int") (.type "bool") = some false
  i_ll : PySem.W.kitOne K (.type "list") (.type "list") = some true
  i_tt : PySem.W.kitOne K (.type "tuple") (.type "tuple") = some true
  s_Uneven : PySem.W.subIn K (.ref a.Uneven) (.ref a.BeatError) = some true
  i_U : PySem.W.kitOne K (.ref a.Uneven) (.ref a.Uneven) = some true
  i_U_VE : PySem.W.kitOne K (.ref a.Uneven) (.type "ValueError") = some true
  i_U_B : PySem.W.kitOne K (.ref a.Uneven) (.ref a.BeatError) = some true
  i_U_R : PySem.W.kitOne K (.ref a.Uneven) (.ref a.NoRow) = some false
  i_U_S : PySem.W.kitOne K (.ref a.Uneven) (.ref a.NoStroke) = some false
  i_U_W : PySem.W.kitOne K (.ref a.Uneven) (.ref a.NoWheel) = some false
open Wheel
structure Wh (s p : Int) : Prop where
  p1 : 1 ≤ p
  s0 : 0 ≤ s
  le : s ≤ p
def spCheck (a : Adr) : Sp := fun vs H Q E => ∃ s p, vs = [.int s, .int p] ∧ (Wh s p → Q .non H) ∧ (¬ Wh s p → E (.ref a.NoWheel) none H)
def spCheckRow (a : Adr) : Sp := fun vs H Q E => ∃ s p, vs = [.int s, .int p] ∧ (Wh s p ∧ p ≤ 120 → Q .non H) ∧ (¬ (Wh s p ∧ p ≤ 120) → E (.ref a.NoWheel) none H)
def spAhead (a : Adr) : Sp := fun vs H Q E => ∃ s p t, vs = [.int s, .int p, .int t] ∧ (Wh s p → p ≤ 10 ^ 61 ∧ -(10 ^ 190) ≤ t ∧ t ≤ 10 ^ 190 ∧ Q (.int (ah s p t)) H) ∧ (¬ Wh s p → E (.ref a.NoWheel) none H)
def hs (s p t : Int) : Bool := decide (ah s p t < ah s p (t + 1))
def spHas (a : Adr) : Sp := fun vs H Q E => ∃ s p t, vs = [.int s, .int p, .int t] ∧ (Wh s p → p ≤ 10 ^ 61 ∧ -(10 ^ 180) ≤ t ∧ t ≤ 10 ^ 180 ∧ Q (.bl (hs s p t)) H) ∧ (¬ Wh s p → E (.ref a.NoWheel) none H)
def spCell (K : PySem.W.Frag) : Sp := fun vs H Q _ => ∃ (l : Addr) (ns : List Int) (k : Int), vs = [.ref l, .int k] ∧ SqL K H l (ns.map V.int) ∧ ns.length ≤ 63 ∧ 0 ≤ k ∧ Q (.int (ns.getD k.toNat 0)) H
def spWhole : Sp := fun vs H Q _ => ∃ i, vs = [.int i] ∧ Q (.bl true) H
def spLaw (K : PySem.W.Frag) : Sp := fun vs H Q _ => ∃ (a : Addr) (ns : List Int), vs = [.ref a] ∧ SqL K H a (ns.map V.int) ∧ ns.length ≤ 63 ∧ ∀ H', Q (.bl true) H'
def rowI (s p : Int) : List Int := (List.range p.toNat).map fun (i : Nat) => ah s p (i + 1) - ah s p i
theorem rowI_len (s : Int) {p : Int} (hp : 0 ≤ p) : ((rowI s p).length : Int) = p := by
  unfold rowI; rw [List.length_map, List.length_range]; omega
theorem rowI_at {s p : Int} {i : Nat} (h : i < p.toNat) : (rowI s p)[i]? = some (ah s p (i + 1) - ah s p i) := by
  unfold rowI; rw [List.getElem?_map, List.getElem?_range h]; rfl
theorem rowV_at {s p : Int} {i : Nat} (h : i < p.toNat) : atI ((rowI s p).map V.int) ((0 : Int) + i) = some (.int (ah s p (i + 1) - ah s p i)) := by
  rw [Int.zero_add]
  exact atI_nat (by rw [List.getElem?_map, rowI_at h]; rfl)
def spRound : Sp := fun vs H Q _ => ∃ s p, vs = [.int s, .int p] ∧ Wh s p ∧ p ≤ 120 ∧ ∀ l, H l = none → Q (.ref l) (upd H l (.lst ((rowI s p).map V.int)))
def spLaid (a : Adr) : Sp := fun vs H Q E => ∃ s p, vs = [.int s, .int p] ∧ (Wh s p ∧ p ≤ 120 → ∀ l, H l = none → Q (.ref l) (upd H l (.lst ((rowI s p).map V.int)))) ∧ (¬ (Wh s p ∧ p ≤ 120) → E (.ref a.NoWheel) none H)

def spCounts : Sp := fun vs H Q _ => ∃ (r : Addr) (rs : List Int) (w : Nat), vs = [.ref r, .int w] ∧ H r = some (.lst (rs.map V.int)) ∧ 1 ≤ rs.length ∧ rs.length ≤ 200 ∧ w ≤ 200 ∧
  ∀ H' l, Same H H' → H l = none → H' l = some (.lst ((cnts rs w).map V.int)) → Q (.ref l) H'
def spTurned : Sp := fun vs H Q _ => ∃ (r : Addr) (rs : List Int) (b : Int), vs = [.ref r, .int b] ∧ H r = some (.lst (rs.map V.int)) ∧ 1 ≤ rs.length ∧ rs.length ≤ 200 ∧
  ∀ l, H l = none → Q (.ref l) (upd H l (.lst ((trn rs b).map V.int)))
def spMirrored : Sp := fun vs H Q _ => ∃ (r : Addr) (rs : List Int), vs = [.ref r] ∧ H r = some (.lst (rs.map V.int)) ∧ ∀ l, H l = none → Q (.ref l) (upd H l (.lst (rs.reverse.map V.int)))
def spSwapped : Sp := fun vs H Q _ => ∃ (r : Addr) (rs : List Int), vs = [.ref r] ∧ H r = some (.lst (rs.map V.int)) ∧ rs.length ≤ 200 ∧ ∀ l, H l = none → Q (.ref l) (upd H l (.lst ((rs.map fun x => 1 - x).map V.int)))
def fSw : V → V
  | .int c => .int (1 - c)
  | v => v

def spFault : Sp := fun vs H Q _ => ∃ (r : Addr) (rs : List Int), vs = [.ref r] ∧ H r = some (.lst (rs.map V.int)) ∧ 1 ≤ rs.length ∧ rs.length ≤ 120 ∧
  ((∀ w, w < rs.length → Ev1 rs w) → ∀ H', Same H H' → Q .non H') ∧
  (∀ (w : Nat) (M m : Int), w < rs.length → (∀ w', w' < w → Ev1 rs w') → M ∈ cnts rs w → (∀ a, a ∈ cnts rs w → a ≤ M) → m ∈ cnts rs w → (∀ a, a ∈ cnts rs w → m ≤ a) → 1 < M - m →
    ∀ H' t, Same H H' → H t = none → H' t = some (.tup [.int w, .int ((cnts rs w).idxOf M), .int ((cnts rs w).idxOf m)]) → Q (.ref t) H')
def spStart : Sp := fun vs H Q _ => ∃ (r : Addr) (rs : List Int), vs = [.ref r] ∧ H r = some (.lst (rs.map V.int)) ∧ 1 ≤ rs.length ∧ rs.length ≤ 120 ∧ bits rs ∧ (∀ w, w < rs.length → Ev1 rs w) ∧
  ∀ H' (t : Nat), Same H H' → t < rs.length → trn rs (t : Int) = rowS rs.sum rs.length → (∀ t', t' < t → trn rs (t' : Int) ≠ rowS rs.sum rs.length) → Q (.int t) H'
theorem rowIS (s : Int) (n : Nat) : rowI s n = rowS s n := by unfold rowI rowS; rw [Int.toNat_natCast]
theorem wh_of {rs : List Int} (h1 : 1 ≤ rs.length) (hb : bits rs) : Wh rs.sum rs.length := ⟨by omega, (sum_in h1 hb).1, (sum_in h1 hb).2⟩
theorem mem_cnts {rs : List Int} {w i : Nat} (h : i < rs.length) : cnt (wf rs) w i ∈ cnts rs w := List.mem_of_getElem? (cnts_at rs w h)

def heads (ms : List Int) (n : Nat) : List Int := (List.range (n + 1)).map fun (i : Nat) => (ms.take i).sum
theorem heads_len (ms : List Int) (n : Nat) : (heads ms n).length = n + 1 := by unfold heads; rw [List.length_map, List.length_range]
theorem heads_at (ms : List Int) {n i : Nat} (h : i ≤ n) : (heads ms n)[i]? = some (ms.take i).sum := by
  unfold heads
  rw [List.getElem?_map, List.getElem?_range (by omega)]; rfl
theorem heads_last (ms : List Int) (n : Nat) : atI ((heads ms n).map V.int) (-1) = some (.int (ms.take n).sum) := by
  unfold atI ixN
  rw [List.length_map, heads_len, if_neg (by decide), if_pos (by omega)]
  show ((heads ms n).map V.int)[(-1 + ((n + 1 : Nat) : Int)).toNat]? = _
  rw [show (-1 + ((n + 1 : Nat) : Int)).toNat = n by omega, List.getElem?_map, heads_at ms (Nat.le_refl n)]; rfl
theorem take_sum {ms : List Int} {i : Nat} {x : Int} (h : ms[i]? = some x) : (ms.take (i + 1)).sum = (ms.take i).sum + x := by
  rw [List.take_add_one, h, List.sum_append]
  simp
theorem heads_next {ms : List Int} {i : Nat} {x : Int} (h : ms[i]? = some x) : (heads ms i).map V.int ++ [V.int ((ms.take i).sum + x)] = (heads ms (i + 1)).map V.int := by
  rw [← take_sum h]
  unfold heads
  rw [List.range_succ (n := i + 1), List.map_append, List.map_append]; rfl
theorem headsW_at {rs : List Int} {i : Int} (h0 : 0 ≤ i) (h1 : i ≤ 2 * rs.length) : atI ((heads (rs ++ rs) (rs ++ rs).length).map V.int) i = some (.int (sumN (wf rs) i.toNat)) := by
  have e : ((i.toNat : Nat) : Int) = i := by omega
  have := row2_take (rs := rs) i.toNat (by omega)
  have := atI_nat (xs := (heads (rs ++ rs) (rs ++ rs).length).map V.int) (j := i.toNat) (v := .int (sumN (wf rs) i.toNat)) (by rw [List.getElem?_map, heads_at _ (by rw [List.length_append]; omega), this]; rfl)
  rwa [e] at this
def fW (p : Int) : V → V
  | .int c => .int (c % (p + 1))
  | v => v

def f2 : V → V
  | .int c => .int (c % 2)
  | v => v
def fds (w m l : Int) : List (Str × V) := [("width", .int w), ("most", .int m), ("least", .int l)]
def spInit (a : Adr) : Sp := fun vs H Q _ => ∃ (x : Addr) (w m l : Int), vs = [.ref x, .int w, .int m, .int l] ∧ H x = some (excO x a.Uneven none true) ∧
  ∀ d, H d = none → d ≠ x → Q .non (upd (upd H x (excO x a.Uneven (some d) true)) d (xdO d (fds w m l)))
structure Gap (rs : List Int) (w : Nat) (M m : Int) : Prop where
  lt : w < rs.length
  ev : ∀ w', w' < w → Ev1 rs w'
  M1 : M ∈ cnts rs w
  M2 : ∀ a, a ∈ cnts rs w → a ≤ M
  m1 : m ∈ cnts rs w
  m2 : ∀ a, a ∈ cnts rs w → m ≤ a
  gap : 1 < M - m
structure Row (rs : List Int) : Prop where
  n1 : 1 ≤ rs.length
  n2 : rs.length ≤ 120
  bit : bits rs
def spStartW (a : Adr) : Sp := fun vs H Q E => ∃ (r : Addr) (rs : List Int), vs = [.ref r] ∧ H r = some (.lst (rs.map V.int)) ∧ Row rs ∧
  ((∀ w, w < rs.length → Ev1 rs w) → ∀ H' (t : Nat), Same H H' → t < rs.length → trn rs (t : Int) = rowS rs.sum rs.length → (∀ t', t' < t → trn rs (t' : Int) ≠ rowS rs.sum rs.length) → Q (.int t) H') ∧
  (∀ (w : Nat) (M m : Int), Gap rs w M m → ∀ H' d, Same H H' → H d = none → H' d = some (xdO d (fds w ((cnts rs w).idxOf M) ((cnts rs w).idxOf m))) → E (.ref a.Uneven) (some d) H')
def spSums : Sp := fun vs H Q _ => ∃ s p, vs = [.int s, .int p] ∧ Wh s p ∧ p ≤ 120 ∧ ∀ l, H l = none → Q (.ref l) (upd H l (.lst ((rowI s p).map V.int)))
def SameX (r : Addr) (H H' : Hp) : Prop := ∀ b o, b ≠ r → H b = some o → H' b = some o
def spChanged (K : PySem.W.Frag) : Sp := fun vs H Q _ => ∃ (r l : Addr) (rs ns : List Int), vs = [.ref r, .ref l] ∧ H r = some (.lst (rs.map V.int)) ∧ Row rs ∧ (∀ H', SameX r H H' → SqL K H' l (ns.map V.int)) ∧ ns.length ≤ 63 ∧
  ∀ H' rs', SameX r H H' → H' r = some (.lst (rs'.map V.int)) → Row rs' → Q (.ref r) H'
def spRow (K : PySem.W.Frag) : Sp := fun vs H Q _ => ∃ (l : Addr) (ns : List Int), vs = [.ref l] ∧ SqL K H l (ns.map V.int) ∧ ns.length ≤ 63 ∧
  ∀ H' r rs, Same H H' → H r = none → H' r = some (.lst (rs.map V.int)) → Row rs → Q (.ref r) H'
def spEven : Sp := fun vs H Q _ => ∃ (r : Addr) (rs : List Int), vs = [.ref r] ∧ H r = some (.lst (rs.map V.int)) ∧ Row rs ∧ (∀ w, w < rs.length → Ev1 rs w) ∧ ∀ H', Same H H' → Q (.bl true) H'
def spLCounts : Sp := fun vs H Q _ => ∃ (h : Addr) (rs : List Int) (w : Nat), vs = [.ref h, .int rs.length, .int w] ∧ H h = some (.lst ((heads (rs ++ rs) (rs ++ rs).length).map V.int)) ∧ Row rs ∧ w ≤ rs.length ∧
  ∀ l, H l = none → Q (.ref l) (upd H l (.lst ((cnts rs w).map V.int)))
def spLFault : Sp := fun vs H Q _ => ∃ (r t : Addr) (rs : List Int) (w : Nat) (M m : Int), vs = [.ref r, .ref t] ∧ H r = some (.lst (rs.map V.int)) ∧ Row rs ∧ Gap rs w M m ∧ H t = some (.tup [.int w, .int ((cnts rs w).idxOf M), .int ((cnts rs w).idxOf m)]) ∧ ∀ H', Same H H' → Q (.bl true) H'
def spOwn : Sp := fun vs H Q _ => ∃ c, vs = [.int c] ∧ ∀ H', Same H H' → Q (.bl true) H'
theorem Gap.not {rs : List Int} {w : Nat} {M m : Int} (g : Gap rs w M m) (ev : ∀ w, w < rs.length → Ev1 rs w) : False := by
  have cl := cnts_len rs w
  obtain ⟨i, hi⟩ := List.mem_iff_getElem?.mp g.M1
  obtain ⟨j, hj⟩ := List.mem_iff_getElem?.mp g.m1
  have hi2 := (List.getElem?_eq_some_iff.mp hi).1
  have hj2 := (List.getElem?_eq_some_iff.mp hj).1
  rw [cnts_at rs w (by omega)] at hi
  rw [cnts_at rs w (by omega)] at hj
  have := ev w g.lt i j (by omega) (by omega)
  have := Option.some.inj hi
  have := Option.some.inj hj
  have := g.gap
  omega

theorem mem_at {rs : List Int} {w : Nat} {x : Int} (h : x ∈ cnts rs w) : ∃ i, i < rs.length ∧ x = cnt (wf rs) w i := by
  have cl := cnts_len rs w
  obtain ⟨i, hi⟩ := List.mem_iff_getElem?.mp h
  have hi2 := (List.getElem?_eq_some_iff.mp hi).1
  rw [cnts_at rs w (by omega)] at hi
  exact ⟨i, by omega, (Option.some.inj hi).symm⟩
theorem cutW {rs : List Int} {t : Nat} (h : t ≤ rs.length) : cutV (rs.map V.int ++ rs.map V.int) (some (t : Int)) (some ((t : Int) + rs.length)) = (trn rs t).map V.int := by
  have hlen : t + rs.length ≤ (rs.map V.int ++ rs.map V.int).length := by rw [List.length_append, List.length_map]; omega
  have e := cutV_nat (xs := rs.map V.int ++ rs.map V.int) (a := t) (b := t + rs.length) hlen (by omega)
  rw [Int.natCast_add] at e
  rw [e, Nat.add_sub_cancel_left, ← cut_trn h, ← List.map_append, List.map_take, List.map_drop]
theorem map_int_inj {x y : List Int} (h : x.map V.int = y.map V.int) : x = y := by
  induction x generalizing y with
  | nil => cases y with
    | nil => rfl
    | cons b y => cases h
  | cons a x ih => cases y with
    | nil => cases h
    | cons b y =>
      rw [List.map_cons, List.map_cons] at h
      obtain ⟨h1, h2⟩ := List.cons.inj h
      rw [V.int.inj h1, ih h2]
theorem cut60 (ns : List Int) : ∃ ms : List Int, ms.length ≤ 60 ∧ cutV (ns.map V.int) (some 1) (some 61) = ms.map V.int := by
  obtain ⟨ms, _, _, e⟩ := cutV_ints ns (some 1) (some 61)
  refine ⟨ms, ?_, e⟩
  have h : (cutV (ns.map V.int) (some 1) (some 61)).length = ms.length := by rw [e, List.length_map]
  rw [← h]
  unfold cutV
  rw [List.length_take, List.length_drop]
  unfold HT.sIx
  simp only
  rw [if_neg (by decide), if_neg (by decide), List.length_map, show Int.toNat 61 = 61 from rfl, show Int.toNat 1 = 1 from rfl]
  omega
theorem bits_nil : bits [] := fun x h => by cases h
theorem bits_row {s p : Int} (W : Wh s p) : bits (rowI s p) := fun x hx => by
  unfold rowI at hx
  obtain ⟨i, _, rfl⟩ := List.mem_map.mp hx
  have := ah_next (i : Int) W.s0 W.le W.p1
  omega
theorem bits_get {rs : List Int} (h : bits rs) (i : Nat) : rs.getD i 0 = 0 ∨ rs.getD i 0 = 1 := by
  rw [List.getD_eq_getElem?_getD]
  cases e : rs[i]? with
  | none => exact .inl rfl
  | some x => exact h x (List.mem_of_getElem? e)
theorem turnI {rs : List Int} {b : Nat} (h : b ≤ rs.length) : cutV (rs.map V.int) (some (b : Int)) none ++ cutV (rs.map V.int) none (some (b : Int)) = (rs.drop b ++ rs.take b).map V.int := by
  have e1 : cutV (rs.map V.int) (some (b : Int)) none = (rs.map V.int).drop b := by
    unfold cutV HT.sIx
    simp only
    rw [if_neg (by omega), List.length_map, Int.toNat_natCast, Nat.min_eq_left h]
    exact List.take_of_length_le (by rw [List.length_drop, List.length_map]; exact Nat.le_refl _)
  have e2 : cutV (rs.map V.int) none (some (b : Int)) = (rs.map V.int).take b := by
    unfold cutV HT.sIx
    simp only
    rw [if_neg (by omega), List.length_map, Int.toNat_natCast, Nat.min_eq_left h, Nat.sub_zero]
    rfl
  rw [e1, e2, List.map_append, List.map_take, List.map_drop]
theorem SameX.refl (r : Addr) (H : Hp) : SameX r H H := fun _ _ _ e => e
theorem SameX.new {r p : Addr} {H H' : Hp} {o : HO} (x : SameX r H H') (h : H' p = none) : SameX r H (upd H' p o) := fun b u n e => by
  have := x b u n e
  rw [upd_ne (ne_of_none this h)]
  exact this
theorem SameX.set {r : Addr} {H H' : Hp} {o : HO} (x : SameX r H H') : SameX r H (upd H' r o) := fun b u n e => by
  rw [upd_ne n]
  exact x b u n e
theorem ixI {rs : List Int} {j : Int} (h0 : 0 ≤ j) (h1 : j < rs.length) : ixN (rs.map V.int).length j = some j.toNat := by
  unfold ixN
  rw [List.length_map, if_pos h0, if_pos h1]
theorem setI (rs : List Int) (j : Nat) (y : Int) : (rs.map V.int).set j (V.int y) = (rs.set j y).map V.int := by rw [List.map_set]
theorem Row.set {rs : List Int} (R : Row rs) {j : Nat} {y : Int} (h : y = 0 ∨ y = 1) : Row (rs.set j y) := ⟨by rw [List.length_set]; exact R.n1, by rw [List.length_set]; exact R.n2, fun x hx => by
  rcases List.mem_or_eq_of_mem_set hx with z | z
  · exact R.bit x z
  · rw [z]; exact h⟩
def fM (n : Int) : V → V
  | .int c => .int (c % n)
  | v => v
theorem Gap.pos {rs : List Int} {w : Nat} {M m : Int} (g : Gap rs w M m) : 1 ≤ w := by
  by_cases h : w = 0
  · subst h
    obtain ⟨i, _, e1⟩ := mem_at g.M1
    obtain ⟨j, _, e2⟩ := mem_at g.m1
    have z : ∀ i, cnt (wf rs) 0 i = 0 := fun i => by unfold cnt; rw [Nat.add_zero]; omega
    rw [z] at e1 e2
    have := g.gap
    omega
  · omega
theorem Gap.le {rs : List Int} {w w' : Nat} {M m M' m' : Int} (g : Gap rs w M m) (g' : Gap rs w' M' m') : w ≤ w' := by
  by_cases h : w' < w
  · exfalso
    obtain ⟨i, hi, e1⟩ := mem_at g'.M1
    obtain ⟨j, hj, e2⟩ := mem_at g'.m1
    have := g.ev w' h i j hi hj
    have := g'.gap
    omega
  · omega
theorem Gap.unique {rs : List Int} {w w' : Nat} {M m M' m' : Int} (g : Gap rs w M m) (g' : Gap rs w' M' m') : w' = w ∧ M' = M ∧ m' = m := by
  have e : w' = w := Nat.le_antisymm (g'.le g) (g.le g')
  subst e
  exact ⟨rfl, Int.le_antisymm (g.M2 _ g'.M1) (g'.M2 _ g.M1), Int.le_antisymm (g'.m2 _ g.m1) (g.m2 _ g'.m1)⟩
theorem Gap.two {rs : List Int} {w : Nat} {M m : Int} (g : Gap rs w M m) (R : Row rs) : M - m = 2 := by
  have h := g.pos
  obtain ⟨v, rfl⟩ : ∃ v, w = v + 1 := ⟨w - 1, by omega⟩
  obtain ⟨i, hi, e1⟩ := mem_at g.M1
  obtain ⟨j, hj, e2⟩ := mem_at g.m1
  have := next_width (wheel_of R.n1 R.bit) (g.ev v (by omega)) i j hi hj
  have := g.gap
  omega
local macro_rules | `(tactic| walk_at "rd") => `(tactic| simp only [tLR, rEqL, rNeL, tForW, tLC, iList, iRng1, iRng2, freeV, tLst, tBM, tBM0, rAppend, tSeq, tIfS, tTest, tOp, tUn, rI0, rI, rU, tVar, tC, tB, tRaise, tCons, tNil, tNext, tOr, tAnd, tNot, tIf, tDrop, tRet, tRetN, tCall, tAndV, tOrV, tNotV, gName, tCB, tAsg, tTup, cxOf_K, List.cons.injEq, tSl, tPart, tNoPart, L2.start, L2.rEq, L2.rNe, scal_ii, scal_bb, scal_ss, rIsB, List.map_cons, List.map_nil, List.length_cons, List.length_nil, List.cons_append, List.nil_append, List.append_nil, List.replicate, List.getElem?_cons_zero, List.getElem?_cons_succ, List.set_cons_zero, List.set_cons_succ, Option.some.injEq, V.int.injEq, V.bl.injEq, V.ref.injEq, Option.join_some, and_assoc, exists_and_left, exists_eq_left', exists_eq_left, decide_eq_true_eq, if_true, true_and, and_true, Bool.not_eq_true', Bool.not_eq_true, decide_eq_false_iff_not, Bool.not_true, Bool.not_false, Bool.false_eq_true, if_false, Bool.true_eq_false, reduceCtorEq, false_and, exists_false, spCheck, spAhead, spHas, spRound, spCell, spWhole, spCounts, spTurned, spAlike, E0, cxC_K, iZip, iTup, gTup, gCons, gNil, rSumL, gSub, rCat, spFault, spStartW, rBest, rIndex, tWhileW, spInit, spSums, spChanged, spRow, spEven, spLCounts, spLFault, spOwn, sXNew, sXFld, tXFld, tMakeX, tRaiseE])
section
variable {P : Program} {w : World} {K : PySem.W.Frag} {mg : Str → Option Value} {base : Heap} {a : Adr}
theorem sc_Uneven___init__ : FnScope ["self", "width", "most", "least"] ["self", "width", "most", "least"] (defScope s_Uneven___init__) := ⟨rfl, rfl, rfl, by decide +kernel, rfl, by decide +kernel, by decide +kernel⟩

set_option maxHeartbeats 4000000 in
theorem ok_Uneven___init__ (T : Txt K mg a) : FnOk P w K mg base (CXW P w) 1 a.Uneven___init__ a.fd_Uneven___init__ ["self", "width", "most", "least"] (spInit a) := by
  refine T.f_Uneven___init__.ok0 sc_Uneven___init__ (fun vs H Q E h => ?_) (fun cdv A outer s H vs Q E hr h => ?_)
  · obtain ⟨x, w, m, l, rfl, hx, q⟩ := h
    rfl
  · obtain ⟨x, w, m, l, rfl, hx, q⟩ := h
    refine ⟨_, (pss_cons (ps_xnew (pv 0) (pv 1) rfl)
      (pss_cons (ps_xfld (pv 0) (pv 2) rfl)
      (pss_one (ps_xfld (pv 0) (pv 3) rfl)))), ?_⟩
    walk_at "rd"
    refine ⟨a.Uneven, a.BeatError, true, hx, T.i_Uneven.fld, T.na_Uneven_width, fun d hd hne => ?_⟩
    have e1 : upd (upd H x (excO x a.Uneven (some d) true)) d (xdO d [(Str.ofString "width", V.int w)]) x = some (excO x a.Uneven (some d) true) := (upd_ne hne.symm).trans upd_same
    refine ⟨a.Uneven, a.BeatError, d, true, e1, _, upd_same, T.i_Uneven.fld, T.na_Uneven_most, by show 1 < 1000; decide, a.Uneven, a.BeatError, d, true, (upd_ne hne.symm).trans e1, _, upd_same, T.i_Uneven.fld, T.na_Uneven_least, ?_, ?_⟩
    · have := length_putF (Str.ofString "most") (V.int m) [(Str.ofString "width", V.int w)]
      simp only [List.length_cons, List.length_nil] at this
      omega
    rw [upd_upd, upd_upd]
    exact q d hd hne
theorem sc_check_wheel : FnScope ["strokes", "places"] ["strokes", "places"] (defScope s_check_wheel) := ⟨rfl, rfl, rfl, by decide +kernel, rfl, by decide +kernel, by decide +kernel⟩

set_option maxHeartbeats 4000000 in
theorem ok_check_wheel (T : Txt K mg a) : FnOk P w K mg base (CXW P w) 1 a.check_wheel a.fd_check_wheel ["strokes", "places"] (spCheck a) := by
  refine T.f_check_wheel.okW sc_check_wheel (fun vs H Q E h => ?_) (fun cdv A outer s H vs Q E hr h => ?_)
  · obtain ⟨s, p, rfl, h1, h2⟩ := h
    rfl
  · obtain ⟨s, p, rfl, h1, h2⟩ := h
    refine ⟨_, (pss_cons (ps_if (pt_cmpR op_lt (pv 1) pe_int (nomark _)) (pss_one (ps_raise T.c_NoWheel throws_cx rfl rfl (pa_cons pe_str pa_nil))) pss_nil)
      (pss_one (ps_if (PW.pt (pw_or (pt_cmpR op_lt (pv 0) pe_int (nomark _)) (pw_or1 (pt_cmpR op_gt (pv 0) (pv 1) (nomark _))))) (pss_one (ps_raise T.c_NoWheel throws_cx rfl rfl (pa_cons pe_str pa_nil))) pss_nil))), ?_⟩
    walk_at "rd"
    have z : 0 + 1 ≤ sizeLine := by decide
    repeat' split
    all_goals first | exact ⟨z, h2 fun q => by have := q.p1; have := q.s0; have := q.le; omega⟩ | exact h1 ⟨by omega, by omega, by omega⟩
theorem sc_ahead : FnScope ["strokes", "places", "at"] ["strokes", "places", "at"] (defScope s_ahead) := ⟨rfl, rfl, rfl, by decide +kernel, rfl, by decide +kernel, by decide +kernel⟩

set_option maxHeartbeats 4000000 in
theorem ok_ahead (T : Txt K mg a) : FnOk P w K mg base (CXW P w) 2 a.ahead a.fd_ahead ["strokes", "places", "at"] (spAhead a) := by
  refine T.f_ahead.okW sc_ahead (fun vs H Q E h => ?_) (fun cdv A outer s H vs Q E hr h => ?_)
  · obtain ⟨s, p, t, rfl, h1, h2⟩ := h
    rfl
  · obtain ⟨s, p, t, rfl, h1, h2⟩ := h
    refine ⟨_, (pss_cons (ps_expr (pe_call (ok_check_wheel T) (hr.mono (by decide)) rfl T.m_check_wheel T.k_check_wheel T.b_check_wheel .nil throws_cx.pass (pa_cons (pv 0) (pa_cons (pv 1) pa_nil))))
      (pss_one (ps_ret (pe_op op_fdivB (pe_op op_mulB (pv 0) (pv 2)) (pv 1))))), ?_⟩
    walk_at "rd"
    refine ⟨fun W => ?_, h2⟩
    obtain ⟨b, t0, t1, q⟩ := h1 W
    have := W.p1; have := W.s0; have := W.le
    exact ⟨⟨⟨by omega, by omega⟩, by omega, by omega⟩, ⟨by omega, by omega⟩, q⟩
theorem sc_has_stroke : FnScope ["strokes", "places", "at"] ["strokes", "places", "at"] (defScope s_has_stroke) := ⟨rfl, rfl, rfl, by decide +kernel, rfl, by decide +kernel, by decide +kernel⟩

set_option maxHeartbeats 4000000 in
theorem ok_has_stroke (T : Txt K mg a) : FnOk P w K mg base (CXW P w) 3 a.has_stroke a.fd_has_stroke ["strokes", "places", "at"] (spHas a) := by
  refine T.f_has_stroke.okW sc_has_stroke (fun vs H Q E h => ?_) (fun cdv A outer s H vs Q E hr h => ?_)
  · obtain ⟨s, p, t, rfl, h1, h2⟩ := h
    rfl
  · obtain ⟨s, p, t, rfl, h1, h2⟩ := h
    refine ⟨_, (pss_one (ps_ret (pe_cmpR op_gt (pe_call (ok_ahead T) (hr.mono (by decide)) rfl T.m_ahead T.k_ahead T.b_ahead .nil throws_cx.pass (pa_cons (pv 0) (pa_cons (pv 1) (pa_cons (pe_op op_add (pv 2) pe_int) pa_nil)))) (pe_call (ok_ahead T) (hr.mono (by decide)) rfl T.m_ahead T.k_ahead T.b_ahead .nil throws_cx.pass (pa_cons (pv 0) (pa_cons (pv 1) (pa_cons (pv 2) pa_nil)))) (nomark _)))), ?_⟩
    walk_at "rd"
    refine ⟨fun W => ?_, h2⟩
    obtain ⟨b, t0, t1, q⟩ := h1 W
    exact ⟨b, by omega, by omega, fun _ => ⟨b, by omega, by omega, q⟩, fun z => (z W).elim⟩
theorem sc_whole_round : FnScope ["strokes", "places"] ["strokes", "places"] (defScope s_whole_round) := ⟨rfl, rfl, rfl, by decide +kernel, rfl, by decide +kernel, by decide +kernel⟩

set_option maxHeartbeats 4000000 in
theorem ok_whole_round (T : Txt K mg a) : FnOk P w K mg base (CXW P w) 4 a.whole_round a.fd_whole_round ["strokes", "places"] (spRound) := by
  refine T.f_whole_round.ok0 sc_whole_round (fun vs H Q E h => ?_) (fun cdv A outer s H vs Q E hr h => ?_)
  · obtain ⟨s, p, rfl, W, hp, q⟩ := h
    rfl
  · obtain ⟨s, p, rfl, W, hp, q⟩ := h
    refine ⟨_, (pss_one (ps_ret (pe_lc (fr := ["strokes", "places"]) (js := [0, 1]) rfl ⟨rfl, by decide +kernel, by decide +kernel, rfl, by with_unfolding_all rfl, by exact ⟨rfl, rfl, trivial⟩, by with_unfolding_all rfl, by exact ⟨⟨rfl, rfl, rfl, rfl⟩, ⟨rfl, rfl, rfl, rfl⟩, trivial⟩, by decide +kernel⟩ (pi_range1 rfl T.n_range (pa_cons (pv 1) pa_nil)) (fun _ _ _ _ => (pe_ifExp (pt_val (pe_call (ok_has_stroke T) (hr.mono (by decide)) rfl T.m_has_stroke T.k_has_stroke T.b_has_stroke .nil passC (pa_cons (pv 1) (pa_cons (pv 2) (pa_cons (pv 0) pa_nil))))) pe_int pe_int))))), ?_⟩
    walk_at "rd"
    have p1 := W.p1
    refine ⟨by omega, by omega, LCW.range (fun (i : Nat) => .int (ah s p (i + 1) - ah s p i)) (Nat.le_trans (m := 120) (by omega) (by decide)) (fun i hi R hR => ?_) (fun l hl => ?_)⟩
    · walk_at "rd"
      refine ⟨fun _ => ⟨by omega, by omega, by omega, ?_⟩, fun z => z W⟩
      have nx := ah_next (0 + (i : Int)) W.s0 W.le p1
      have e : (0 : Int) + i = i := by omega
      rw [e] at nx ⊢
      unfold hs
      rcases nx with nx | nx
      · rw [if_neg (by rw [decide_eq_true_eq]; omega)]
        rw [show ah s p (i + 1) - ah s p i = 0 by omega] at hR
        exact hR
      · rw [if_pos (by rw [decide_eq_true_eq]; omega)]
        rw [show ah s p (i + 1) - ah s p i = 1 by omega] at hR
        exact hR
    · have := q l hl
      rw [rowI, List.map_map] at this
      exact this
theorem sc_counts : FnScope ["row", "width", "places", "within", "told", "at"] ["row", "width"] (defScope s_counts) := ⟨rfl, rfl, rfl, by decide +kernel, rfl, by decide +kernel, by decide +kernel⟩

set_option maxHeartbeats 4000000 in
theorem ok_counts (T : Txt K mg a) : FnOk P w K mg base (CXW P w) 1 a.counts a.fd_counts ["row", "width"] (spCounts) := by
  refine T.f_counts.ok0 sc_counts (fun vs H Q E h => ?_) (fun cdv A outer s H vs Q E hr h => ?_)
  · obtain ⟨r, rs, w, rfl, hr0, n1, n2, w2, q⟩ := h
    rfl
  · obtain ⟨r, rs, w, rfl, hr0, n1, n2, w2, q⟩ := h
    refine ⟨_, (pss_cons (ps_set (i := 2) sc_counts.nd rfl (by first | exact Or.inl rfl | exact Or.inr rfl) (pe_callB call_len_seq rfl T.n_len (by decide +kernel) (pa_cons (pv 0) pa_nil)))
      (pss_cons (ps_set (i := 3) sc_counts.nd rfl (by first | exact Or.inl rfl | exact Or.inr rfl) (pe_callB (call_sumL rfl) rfl T.n_sum (by decide +kernel) (pa_cons (pe_lc (fr := ["row", "places"]) (js := [0, 2]) rfl ⟨rfl, by decide +kernel, by decide +kernel, rfl, by with_unfolding_all rfl, by exact ⟨rfl, rfl, trivial⟩, by with_unfolding_all rfl, by exact ⟨⟨rfl, rfl, rfl, rfl⟩, ⟨rfl, rfl, rfl, rfl⟩, trivial⟩, by decide +kernel⟩ (pi_range1 rfl T.n_range (pa_cons (pv 1) pa_nil)) (fun _ _ _ _ => (pe_ix ixC_list (pv 1) (pe_op op_mod (pv 0) (pv 2)) (fun _ _ => rfl)))) pa_nil)))
      (pss_cons (ps_set (i := 4) sc_counts.nd rfl (by first | exact Or.inl rfl | exact Or.inr rfl) (pe_lst pa_nil))
      (pss_cons (ps_forW PassesOwn.never rfl (pi_range1 rfl T.n_range (pa_cons (pv 2) pa_nil)) (pg_name (i := 5) sc_counts.nd rfl (Or.inl rfl)) (pss_cons (ps_expr (pe_bm PySem.F.plainAttrs_list PySem.F.slot_list_append PySem.F.type_list_append mt_append (pv 4) (pa_cons (pv 3) pa_nil)))
      (pss_one (ps_set (i := 3) sc_counts.nd rfl (by first | exact Or.inl rfl | exact Or.inr rfl) (pe_op op_add (pe_op op_sub (pv 3) (pe_ix ix_list (pv 0) (pv 5) (fun _ _ => rfl))) (pe_ix ix_list (pv 0) (pe_op op_mod (pe_op op_add (pv 5) (pv 1)) (pv 2)) (fun _ _ => rfl)))))))
      (pss_one (ps_ret (pv 4))))))), ?_⟩
    walk_at "rd"
    refine ⟨_, .inl (SqL.of hr0), by omega, by omega, ?_⟩
    rw [List.length_map]
    refine LCW.range (fun (i : Nat) => .int (wf rs i)) (Nat.le_trans (m := 200) (by omega) (by decide)) (fun i hi R hR => ?_) (fun l hl => ?_)
    · walk_at "rd"
      refine ⟨by omega, r, _, _, _, rfl, rfl, SqL.of hr0, atW (Int.emod_nonneg _ (by omega)) (Int.emod_lt_of_pos _ (by omega)), ?_⟩
      have e : ((0 : Int) + (i : Int)) % (rs.length : Int) = ((i % rs.length : Nat) : Int) := by rw [Int.zero_add]; rfl
      rw [e, Int.toNat_natCast]
      exact hR
    have e : (List.range (w : Int).toNat).map (fun (i : Nat) => V.int (wf rs i)) = ((List.range w).map (fun i => wf rs i)).map V.int := by rw [List.map_map, Int.toNat_natCast]; rfl
    rw [e]
    refine ⟨l, rfl, _, SqL.of upd_same, Nat.zero_le _, fun b hb => ⟨by omega, by omega, ?_⟩⟩
    have hlb : l ≠ b := ne_of_none upd_same hb
    have sm0 : Same H (upd H l (HO.lst (((List.range w).map (fun i => wf rs i)).map V.int))) := Same.upd hl
    have hbn : H b = none := sm0.free hb
    have hrl : upd H l (HO.lst (((List.range w).map (fun i => wf rs i)).map V.int)) r = some (.lst (rs.map V.int)) := sm0 _ _ hr0
    have sumw : ((List.range w).map (fun i => wf rs i)).sum = cnt (wf rs) w 0 := by
      rw [cnt_zero]
      exact sum_range (wf rs) w
    rw [sumw]
    generalize upd H l (HO.lst (((List.range w).map (fun i => wf rs i)).map V.int)) = H1 at *
    refine FoW.range (fun i σ H' => ∃ o, σ = [some (.ref r), some (.int w), some (.int rs.length), some (.int (cnt (wf rs) w i)), some (.ref b), o] ∧ H' = upd H1 b (.lst (((List.range i).map fun j => cnt (wf rs) w j).map V.int))) ⟨none, rfl, rfl⟩ ?_ ?_
    · rintro i σ H' hi ⟨o, rfl, rfl⟩
      have hi' : i < rs.length := by omega
      have hrb : r ≠ b := ne_of_none hrl hb
      walk_at "rd"
      refine ⟨.inl ⟨rfl, _, SqL.of upd_same⟩, _, upd_same, by rw [List.length_map, List.length_map, List.length_range]; exact Nat.lt_of_lt_of_le (m := 201) (by omega) (by decide), ?_⟩
      rw [upd_upd]
      refine ⟨r, _, _, _, rfl, rfl, SqL.of ((upd_ne hrb).trans hrl), atW (j := 0 + (i : Int)) (by omega) (by omega), _, rfl, by omega, r, _, _, _, rfl, rfl, SqL.of ((upd_ne hrb).trans hrl), atW (Int.emod_nonneg _ (by omega)) (Int.emod_lt_of_pos _ (by omega)), _, rfl, ?_⟩
      have e1 : ((0 : Int) + (i : Int)).toNat = i := by omega
      have e2 : ((0 : Int) + (i : Int) + (w : Int)) % (rs.length : Int) = (((i + w) % rs.length : Nat) : Int) := by rw [Int.zero_add]; rfl
      rw [e1, e2, Int.toNat_natCast, cnt_next, wf_lt hi']
      refine ⟨rfl, ?_⟩
      rw [List.range_succ, List.map_append, List.map_append]
      rfl
    · rintro σ H' ⟨o, rfl, rfl⟩
      walk_at "rd"
      have e : (((rs.length : Nat) : Int)).toNat = rs.length := Int.toNat_natCast _
      exact q _ b (sm0.upd_of hbn) hbn (by rw [upd_same, e]; rfl)
theorem sc_fault : FnScope ["row", "width", "told", "most", "least"] ["row"] (defScope s_fault) := ⟨rfl, rfl, rfl, by decide +kernel, rfl, by decide +kernel, by decide +kernel⟩

set_option maxHeartbeats 4000000 in
theorem ok_fault (T : Txt K mg a) : FnOk P w K mg base (CXW P w) 2 a.fault a.fd_fault ["row"] (spFault) := by
  refine T.f_fault.ok0 sc_fault (fun vs H Q E h => ?_) (fun cdv A outer s H vs Q E hr h => ?_)
  · obtain ⟨r, rs, rfl, hr0, n1, n2, q1, q2⟩ := h
    rfl
  · obtain ⟨r, rs, rfl, hr0, n1, n2, q1, q2⟩ := h
    refine ⟨_, (pss_cons (ps_forW PassesOwn.never rfl (pi_range1 rfl T.n_range (pa_cons (pe_callB call_len_seq rfl T.n_len (by decide +kernel) (pa_cons (pv 0) pa_nil)) pa_nil)) (pg_name (i := 1) sc_fault.nd rfl (Or.inl rfl)) (pss_cons (ps_set (i := 2) sc_fault.nd rfl (by first | exact Or.inl rfl | exact Or.inr rfl) (pe_call (ok_counts T) (hr.mono (by decide)) rfl T.m_counts T.k_counts T.b_counts .nil pass00 (pa_cons (pv 0) (pa_cons (pv 1) pa_nil))))
      (pss_cons (ps_set (i := 3) sc_fault.nd rfl (by first | exact Or.inl rfl | exact Or.inr rfl) (pe_callB (call_maxL rfl) rfl T.n_max (by decide +kernel) (pa_cons (pv 2) pa_nil)))
      (pss_cons (ps_set (i := 4) sc_fault.nd rfl (by first | exact Or.inl rfl | exact Or.inr rfl) (pe_callB (call_minL rfl) rfl T.n_min (by decide +kernel) (pa_cons (pv 2) pa_nil)))
      (pss_one (ps_if (pt_cmpR op_gt (pe_op op_sub (pv 3) (pv 4)) pe_int (nomark _)) (pss_one (ps_ret (pe_tup (pa_cons (pv 1) (pa_cons (pe_bm PySem.F.plainAttrs_list PySem.F.slot_list_index PySem.F.type_list_index mt_index (pv 2) (pa_cons (pv 3) pa_nil)) (pa_cons (pe_bm PySem.F.plainAttrs_list PySem.F.slot_list_index PySem.F.type_list_index mt_index (pv 2) (pa_cons (pv 4) pa_nil)) pa_nil)))))) pss_nil))))))
      (pss_one (ps_ret pe_non))), ?_⟩
    walk_at "rd"
    refine ⟨_, .inl (SqL.of hr0), ?_⟩
    rw [List.length_map]
    refine ⟨by omega, by omega, FoW.range (fun i σ H' => ∃ o1 o2 o3 o4 : Option V, σ = [some (.ref r), o1, o2, o3, o4] ∧ Same H H' ∧ ∀ w, w < i → Ev1 rs w) ⟨_, _, _, _, rfl, Same.refl _, fun w h => by omega⟩ ?_ ?_⟩
    · rintro i σ H' hi ⟨o1, o2, o3, o4, rfl, sm, ev⟩
      have hi' : i < rs.length := by omega
      walk_at "rd"
      have cl := cnts_len rs i
      refine ⟨rs, i, by omega, sm _ _ hr0, by omega, by omega, by omega, fun H1 l s1 e1 h1 => ⟨_, SqL.of h1, by omega, fun M M1 M2 => ⟨_, SqL.of h1, by omega, fun m m1 m2 => ?_⟩⟩⟩
      split
      · rename_i hgap
        refine ⟨.inl ⟨rfl, _, SqL.of h1⟩, _, SqL.of h1, M1, by omega, .inl ⟨rfl, _, SqL.of h1⟩, _, SqL.of h1, m1, by omega, by decide, fun t ht => ?_⟩
        have e : (0 : Int) + (i : Int) = i := Int.zero_add _
        exact q2 i M m hi' ev M1 M2 m1 m2 hgap _ t ((sm.trans s1).trans (Same.upd ht)) ((sm.trans s1).free ht) (by rw [upd_same, e])
      · rename_i hgap
        refine ⟨sm.trans s1, fun w hw => ?_⟩
        by_cases hwi : w < i
        · exact ev w hwi
        · have e : w = i := by omega
          subst e
          intro i' j' hi' hj'
          have := M2 _ (mem_cnts (w := w) hi')
          have := m2 _ (mem_cnts (w := w) hj')
          omega
    · rintro σ H' ⟨o1, o2, o3, o4, rfl, sm, ev⟩
      walk_at "rd"
      exact q1 (fun w h => ev w (by omega)) _ sm
theorem sc_turned : FnScope ["row", "by", "places"] ["row", "by"] (defScope s_turned) := ⟨rfl, rfl, rfl, by decide +kernel, rfl, by decide +kernel, by decide +kernel⟩

set_option maxHeartbeats 4000000 in
theorem ok_turned (T : Txt K mg a) : FnOk P w K mg base (CXW P w) 1 a.turned a.fd_turned ["row", "by"] (spTurned) := by
  refine T.f_turned.ok0 sc_turned (fun vs H Q E h => ?_) (fun cdv A outer s H vs Q E hr h => ?_)
  · obtain ⟨r, rs, b, rfl, hr0, n1, n2, q⟩ := h
    rfl
  · obtain ⟨r, rs, b, rfl, hr0, n1, n2, q⟩ := h
    refine ⟨_, (pss_cons (ps_set (i := 2) sc_turned.nd rfl (by first | exact Or.inl rfl | exact Or.inr rfl) (pe_callB call_len_seq rfl T.n_len (by decide +kernel) (pa_cons (pv 0) pa_nil)))
      (pss_one (ps_ret (pe_lc (fr := ["row", "by", "places"]) (js := [0, 1, 2]) rfl ⟨rfl, by decide +kernel, by decide +kernel, rfl, by with_unfolding_all rfl, by exact ⟨rfl, rfl, rfl, trivial⟩, by with_unfolding_all rfl, by exact ⟨⟨rfl, rfl, rfl, rfl⟩, ⟨rfl, rfl, rfl, rfl⟩, ⟨rfl, rfl, rfl, rfl⟩, trivial⟩, by decide +kernel⟩ (pi_range1 rfl T.n_range (pa_cons (pv 2) pa_nil)) (fun _ _ _ _ => (pe_ix ixC_list (pv 1) (pe_op op_mod (pe_op op_add (pv 0) (pv 2)) (pv 3)) (fun _ _ => rfl))))))), ?_⟩
    walk_at "rd"
    refine ⟨_, .inl (SqL.of hr0), ?_⟩
    rw [List.length_map]
    refine ⟨by omega, by omega, LCW.range (fun (i : Nat) => .int (rs.getD (((i : Int) + b) % rs.length).toNat 0)) (Nat.le_trans (m := 200) (by omega) (by decide)) (fun i hi R hR => ?_) (fun l hl => ?_)⟩
    · walk_at "rd"
      refine ⟨by omega, r, _, _, _, rfl, rfl, SqL.of hr0, atW (Int.emod_nonneg _ (by omega)) (Int.emod_lt_of_pos _ (by omega)), ?_⟩
      rw [Int.zero_add]
      exact hR
    · have := q l hl
      unfold trn at this
      rw [List.map_map] at this
      exact this
theorem sc_start : FnScope ["row", "found", "wanted", "by"] ["row"] (defScope s_start) := ⟨rfl, rfl, rfl, by decide +kernel, rfl, by decide +kernel, by decide +kernel⟩

set_option maxHeartbeats 4000000 in
theorem ok_start (T : Txt K mg a) : FnOk P w K mg base (CXW P w) 5 a.start a.fd_start ["row"] (spStartW a) := by
  refine T.f_start.okW sc_start (fun vs H Q E h => ?_) (fun cdv A outer s H vs Q E hr h => ?_)
  · obtain ⟨r, rs, rfl, hr0, R, q, qE⟩ := h
    rfl
  · obtain ⟨r, rs, rfl, hr0, R, q, qE⟩ := h
    refine ⟨_, (pss_cons (ps_set (i := 1) sc_start.nd rfl (by first | exact Or.inl rfl | exact Or.inr rfl) (pe_call (ok_fault T) (hr.mono (by decide)) rfl T.m_fault T.k_fault T.b_fault .nil throws_cx.pass (pa_cons (pv 0) pa_nil)))
      (pss_cons (ps_if (pt_cmpR op_notN (pv 1) pe_non (nomark _)) (pss_one (ps_raiseE throws_cx ⟨rfl, rfl, rfl⟩ rfl (pe_makeX T.i_Uneven (ok_Uneven___init__ T) (hr.mono (by decide)) rfl T.b_Uneven___init__ .nil throws_cx.pass (pa_cons (pe_ix ix_tup (pv 1) pe_int (fun _ _ => rfl)) (pa_cons (pe_ix ix_tup (pv 1) pe_int (fun _ _ => rfl)) (pa_cons (pe_ix ix_tup (pv 1) pe_int (fun _ _ => rfl)) pa_nil)))))) pss_nil)
      (pss_cons (ps_set (i := 2) sc_start.nd rfl (by first | exact Or.inl rfl | exact Or.inr rfl) (pe_call (ok_whole_round T) (hr.mono (by decide)) rfl T.m_whole_round T.k_whole_round T.b_whole_round .nil throws_cx.pass (pa_cons (pe_callB (call_sumL rfl) rfl T.n_sum (by decide +kernel) (pa_cons (pv 0) pa_nil)) (pa_cons (pe_callB call_len_seq rfl T.n_len (by decide +kernel) (pa_cons (pv 0) pa_nil)) pa_nil))))
      (pss_cons (ps_set (i := 3) sc_start.nd rfl (by first | exact Or.inl rfl | exact Or.inr rfl) pe_int)
      (pss_cons (PS.nox0 (ps_whileW PassesOwn.never (pt_cmpR (op_neL hr.units) (pe_call (ok_turned T) (hr.mono (by decide)) rfl T.m_turned T.k_turned T.b_turned .nil pass00 (pa_cons (pv 0) (pa_cons (pv 3) pa_nil))) (pv 2) (nomark _)) (pss_one (ps_set (i := 3) sc_start.nd rfl (by first | exact Or.inl rfl | exact Or.inr rfl) (pe_op op_add (pv 3) pe_int)))))
      (pss_one (ps_ret (pv 3)))))))), ?_⟩
    have n1 := R.n1
    have n2 := R.n2
    have hb := R.bit
    walk_at "rd"
    refine ⟨rs, hr0, n1, n2, fun ev H1 s1 => ?_, fun w' M m hw ev M1 M2 m1 m2 hg H1 t s1 t0 ht => ?_⟩
    · replace q := q ev
      rw [if_neg (by decide)]
      have h1 := s1 _ _ hr0
      refine ⟨rs, SqL.of h1, _, .inl (SqL.of h1), ?_⟩
      rw [List.length_map]
      refine ⟨wh_of n1 hb, by omega, fun l hl => ?_⟩
      rw [rowIS]
      have s2 := Same.upd (o := HO.lst ((rowS rs.sum rs.length).map V.int)) hl
      have h2 := s2 _ _ h1
      have hl2 : upd H1 l (HO.lst ((rowS rs.sum rs.length).map V.int)) l = _ := upd_same
      have sm := s1.trans s2
      generalize upd H1 l (HO.lst ((rowS rs.sum rs.length).map V.int)) = H2 at *
      obtain ⟨t0, ht0, hs0⟩ := start_of n1 hb ev
      refine WhW.of (fun m σ H' => ∃ t : Nat, σ = [some (.ref r), some .non, some (.ref l), some (.int t)] ∧ m = rs.length - t ∧ t ≤ t0 ∧ Same H2 H' ∧ ∀ t', t' < t → trn rs (t' : Int) ≠ rowS rs.sum rs.length) ⟨_, 0, rfl, rfl, Nat.zero_le _, Same.refl _, fun t' h => by omega⟩ ?_
      rintro m σ H' ⟨t, rfl, rfl, htt, sm2, hno⟩
      walk_at "rd"
      refine ⟨rs, sm2 _ _ h2, by omega, by omega, fun g hg => ⟨_, SqL.of upd_same, _, SqL.of ((Same.upd hg) _ _ (sm2 _ _ hl2)), ?_⟩⟩
      by_cases he : trn rs (t : Int) = rowS rs.sum rs.length
      · rw [if_neg (by simp [he])]
        exact q _ t ((sm.trans sm2).trans (Same.upd hg)) (by omega) he hno
      · rw [if_pos (by simp [he])]
        refine ⟨fun σ' H' => ∃ m', m' < rs.length - t ∧ ∃ t : Nat, σ' = [some (.ref r), some .non, some (.ref l), some (.int t)] ∧ m' = rs.length - t ∧ t ≤ t0 ∧ Same H2 H' ∧ ∀ t', t' < t → trn rs (t' : Int) ≠ rowS rs.sum rs.length, fun _ _ h => h, rs.length - (t + 1), by omega, t + 1, rfl, rfl, ?_, sm2.trans (Same.upd hg), fun t' ht' => ?_⟩
        · have : t ≠ t0 := fun z => he (z ▸ hs0)
          omega
        · by_cases ht2 : t' < t
          · exact hno t' ht2
          · have e : t' = t := by omega
            rw [e]; exact he
    · rw [if_pos (by decide)]
      refine ⟨t, _, 0, _, rfl, rfl, SqT.of ht, atI_nat (j := 0) rfl, ?_⟩
      refine ⟨t, _, 1, _, rfl, rfl, SqT.of ht, atI_nat (j := 1) rfl, ?_⟩
      refine ⟨t, _, 2, _, rfl, rfl, SqT.of ht, atI_nat (j := 2) rfl, by decide, fun x hx => ⟨_, rfl, _, rfl, _, rfl, upd_same, fun d hd hne => ?_⟩⟩
      have hd1 : H1 d = none := by rw [upd_ne hne] at hd; exact hd
      refine ⟨a.Uneven, some d, (upd_ne hne.symm).trans upd_same, T.ty_Uneven, T.o_Uneven.mb, s1.free hx, ?_⟩
      refine qE w' M m ⟨hw, ev, M1, M2, m1, m2, hg⟩ _ d (fun b o e => ?_) (s1.free hd1) (by rw [del_ne hne]; exact upd_same)
      have e1 := s1 _ _ e
      rw [del_ne (ne_of_none e1 hx), upd_ne (ne_of_none e1 hd1), upd_ne (ne_of_none e1 hx), upd_ne (ne_of_none e1 hx)]
      exact e1
theorem sc__law_cell_at : FnScope ["_law_script", "_law_k"] ["_law_script", "_law_k"] (defScope s__law_cell_at) := ⟨rfl, rfl, rfl, by decide +kernel, rfl, by decide +kernel, by decide +kernel⟩

set_option maxHeartbeats 4000000 in
theorem ok__law_cell_at (T : Txt K mg a) : FnOk P w K mg base (CXW P w) 1 a._law_cell_at a.fd__law_cell_at ["_law_script", "_law_k"] (spCell K) := by
  refine T.f__law_cell_at.ok0 sc__law_cell_at (fun vs H Q E h => ?_) (fun cdv A outer s H vs Q E hr h => ?_)
  · obtain ⟨l, ns, k, rfl, hl, hn, hk, q⟩ := h
    rfl
  · obtain ⟨l, ns, k, rfl, hl, hn, hk, q⟩ := h
    refine ⟨_, (pss_cons (ps_if (pt_cmpR op_lt (pv 1) (pe_callB call_len_seq rfl T.n_len (by decide +kernel) (pa_cons (pv 0) pa_nil)) (nomark _)) (pss_one (ps_ret (pe_ix ix_list (pv 0) (pv 1) (fun _ _ => rfl)))) pss_nil)
      (pss_one (ps_ret pe_int))), ?_⟩
    walk_at "rd"
    refine ⟨_, .inl hl, ?_⟩
    rw [List.length_map]
    split
    · rename_i h
      have e : (ns.map V.int)[k.toNat]? = some (.int (ns.getD k.toNat 0)) := by
        rw [List.getElem?_map, List.getD_eq_getElem?_getD, List.getElem?_eq_getElem (show k.toNat < ns.length by omega)]; rfl
      have e2 := atI_nat e
      rw [Int.toNat_of_nonneg hk] at e2
      exact ⟨l, _, k, _, rfl, rfl, hl, e2, q⟩
    · rename_i h
      rw [List.getD_eq_getElem?_getD, List.getElem?_eq_none (by omega)] at q
      exact q
theorem sc__law_whole : FnScope ["_law_found"] ["_law_found"] (defScope s__law_whole) := ⟨rfl, rfl, rfl, by decide +kernel, rfl, by decide +kernel, by decide +kernel⟩

set_option maxHeartbeats 4000000 in
theorem ok__law_whole (T : Txt K mg a) : FnOk P w K mg base (CXW P w) 1 a._law_whole a.fd__law_whole ["_law_found"] (spWhole) := by
  refine T.f__law_whole.ok0 sc__law_whole (fun vs H Q E h => ?_) (fun cdv A outer s H vs Q E hr h => ?_)
  · obtain ⟨i, rfl, q⟩ := h
    rfl
  · obtain ⟨i, rfl, q⟩ := h
    refine ⟨_, (pss_one (ps_ret (pe_and (pe_callB call_isi rfl T.n_isinstance (by decide +kernel) (pa_cons (pv 0) (pa_cons (pe_bltn (v := .ty "int") rfl T.n_int (show bootBuiltins "int" = some (.type "int") by decide +kernel) rfl) pa_nil))) (pe_one (pe_not (pe_callB call_isi rfl T.n_isinstance (by decide +kernel) (pa_cons (pv 0) (pa_cons (pe_bltn (v := .ty "bool") rfl T.n_bool (show bootBuiltins "bool" = some (.type "bool") by decide +kernel) rfl) pa_nil)))))))), ?_⟩
    walk_at "rd"
    refine ⟨_, _, .type "int", .type "int", true, rfl, .of (.int i), rfl, T.i_ii, true, rfl, ?_⟩
    rw [if_pos rfl]
    exact ⟨_, _, .type "bool", .type "int", false, rfl, .of (.int i), rfl, T.i_ib, false, rfl, q⟩
theorem sc__law_alike : FnScope ["_law_found", "_law_due", "_law_one", "_law_other"] ["_law_found", "_law_due"] (defScope s__law_alike) := ⟨rfl, rfl, rfl, by decide +kernel, rfl, by decide +kernel, by decide +kernel⟩

set_option maxHeartbeats 4000000 in
theorem ok__law_alike (T : Txt K mg a) : FnOk P w K mg base (CXW P w) 2 a._law_alike a.fd__law_alike ["_law_found", "_law_due"] (spAlike) := by
  refine T.f__law_alike.ok0 sc__law_alike (fun vs H Q E h => ?_) (fun cdv A outer s H vs Q E hr h => ?_)
  · obtain ⟨f, d, rs, rfl, hf, hd, q⟩ := h
    rfl
  · obtain ⟨f, d, rs, rfl, hf, hd, q⟩ := h
    refine ⟨_, (pss_cons (ps_if (PW.pt (pw_or (pt_not (pt_val (pe_callB call_isi rfl T.n_isinstance (by decide +kernel) (pa_cons (pv 0) (pa_cons (pe_bltn (v := .ty "list") rfl T.n_list (show bootBuiltins "list" = some (.type "list") by decide +kernel) rfl) pa_nil))))) (pw_or1 (pt_cmpR op_ne (pe_callB call_len_seq rfl T.n_len (by decide +kernel) (pa_cons (pv 0) pa_nil)) (pe_callB call_len_seq rfl T.n_len (by decide +kernel) (pa_cons (pv 1) pa_nil)) (nomark _))))) (pss_one (ps_ret pe_bl)) pss_nil)
      (pss_cons (ps_forW PassesOwn.never rfl (pi_zip rfl T.n_zip (pa_cons (pv 0) (pa_cons (pv 1) pa_nil))) (pg_tup rfl (pgs_cons (pg_name (i := 2) sc__law_alike.nd rfl (Or.inl rfl)) (pgs_cons (pg_name (i := 3) sc__law_alike.nd rfl (Or.inl rfl)) pgs_nil))) (pss_one (ps_if (PW.pt (pw_or (pt_not (pt_val (pe_call (ok__law_whole T) (hr.mono (by decide)) rfl T.m__law_whole T.k__law_whole T.b__law_whole .nil pass00 (pa_cons (pv 2) pa_nil)))) (pw_or1 (pt_cmpR op_ne (pv 2) (pv 3) (nomark _))))) (pss_one (ps_ret pe_bl)) pss_nil)))
      (pss_one (ps_ret pe_bl)))), ?_⟩
    walk_at "rd"
    refine ⟨_, _, .type "list", .type "list", true, rfl, .of (.lst hf), rfl, T.i_ll, true, rfl, ?_⟩
    rw [if_neg (by decide)]
    refine ⟨_, .inl (SqL.of hf), _, .inl (SqL.of hd), ?_⟩
    rw [if_neg (fun h => h rfl)]
    refine ⟨⟨_, SqL.of hf⟩, ⟨_, SqL.of hd⟩, FoW.zip rfl (fun i σ H' => ∃ o p, σ = [some (.ref f), some (.ref d), o, p] ∧ Same H H') ⟨_, _, rfl, Same.refl _⟩ (fun i σ H' _ ⟨o, p, _, sm⟩ => ⟨SqL.of (sm _ _ hf), SqL.of (sm _ _ hd)⟩) ?_ ?_⟩
    · rintro i x y σ H' t hx hy ⟨o, p, rfl, sm⟩ ht
      obtain ⟨c, hc, rfl⟩ := int_at' hx
      obtain ⟨c', hc', rfl⟩ := int_at' hy
      rw [hc] at hc'
      cases hc'
      walk_at "rd"
      refine ⟨_, SqT.of upd_same, rfl, ?_⟩
      walk_at "rd"
      rw [if_neg (by simp)]
      exact sm.trans (Same.upd ht)
    · rintro σ H' ⟨o, p, rfl, sm⟩
      walk_at "rd"
      exact q _ sm
theorem sc__law_sums_row : FnScope ["_law_strokes", "_law_places"] ["_law_strokes", "_law_places"] (defScope s__law_sums_row) := ⟨rfl, rfl, rfl, by decide +kernel, rfl, by decide +kernel, by decide +kernel⟩

set_option maxHeartbeats 4000000 in
theorem ok__law_sums_row (T : Txt K mg a) : FnOk P w K mg base (CXW P w) 1 a._law_sums_row a.fd__law_sums_row ["_law_strokes", "_law_places"] (spSums) := by
  refine T.f__law_sums_row.ok0 sc__law_sums_row (fun vs H Q E h => ?_) (fun cdv A outer s H vs Q E hr h => ?_)
  · obtain ⟨s, p, rfl, W, p2, q⟩ := h
    rfl
  · obtain ⟨s, p, rfl, W, p2, q⟩ := h
    refine ⟨_, (pss_one (ps_ret (pe_lc (fr := ["_law_strokes", "_law_places"]) (js := [0, 1]) rfl ⟨rfl, by decide +kernel, by decide +kernel, rfl, by with_unfolding_all rfl, by exact ⟨rfl, rfl, trivial⟩, by with_unfolding_all rfl, by exact ⟨⟨rfl, rfl, rfl, rfl⟩, ⟨rfl, rfl, rfl, rfl⟩, trivial⟩, by decide +kernel⟩ (pi_range1 rfl T.n_range (pa_cons (pv 1) pa_nil)) (fun _ _ _ _ => (pe_op op_sub (pe_op op_fdivB (pe_op op_mulB (pv 1) (pe_op op_add (pv 0) pe_int)) (pv 2)) (pe_op op_fdivB (pe_op op_mulB (pv 1) (pv 0)) (pv 2))))))), ?_⟩
    have p1 := W.p1; have s0 := W.s0; have sp := W.le
    walk_at "rd"
    refine ⟨by omega, by omega, LCW.range (fun (i : Nat) => .int (ah s p (i + 1) - ah s p i)) (Nat.le_trans (m := 120) (by omega) (by decide)) (fun i hi R hR => ?_) (fun d hd => ?_)⟩
    · walk_at "rd"
      have e : (0 : Int) + (i : Int) = i := Int.zero_add _
      rw [e]
      exact ⟨⟨⟨by omega, by omega⟩, by omega, by omega⟩, ⟨by omega, by omega⟩, ⟨⟨by omega, by omega⟩, by omega, by omega⟩, ⟨by omega, by omega⟩, hR⟩
    · have := q d hd
      rw [rowI, List.map_map] at this
      exact this
theorem sc__law_changed : FnScope ["_law_row_here", "_law_script", "_law_places", "_law_way", "_law_spots", "_law_at", "_law_behind", "_law_kept"] ["_law_row_here", "_law_script"] (defScope s__law_changed) := ⟨rfl, rfl, rfl, by decide +kernel, rfl, by decide +kernel, by decide +kernel⟩

set_option maxHeartbeats 4000000 in
theorem ok__law_changed (T : Txt K mg a) : FnOk P w K mg base (CXW P w) 2 a._law_changed a.fd__law_changed ["_law_row_here", "_law_script"] (spChanged K) := by
  refine T.f__law_changed.ok0 sc__law_changed (fun vs H Q E h => ?_) (fun cdv A outer s H vs Q E hr h => ?_)
  · obtain ⟨r, l, rs, ns, rfl, hr0, R, hl, hn, q⟩ := h
    rfl
  · obtain ⟨r, l, rs, ns, rfl, hr0, R, hl, hn, q⟩ := h
    refine ⟨_, (pss_cons (ps_set (i := 2) sc__law_changed.nd rfl (by first | exact Or.inl rfl | exact Or.inr rfl) (pe_callB call_len_seq rfl T.n_len (by decide +kernel) (pa_cons (pv 0) pa_nil)))
      (pss_cons (ps_set (i := 3) sc__law_changed.nd rfl (by first | exact Or.inl rfl | exact Or.inr rfl) (pe_ix ix_list (pe_lst (pa_cons pe_int (pa_cons pe_int (pa_cons pe_int (pa_cons pe_int (pa_cons pe_int pa_nil)))))) (pe_op op_mod (pe_op op_fdivB (pe_call (ok__law_cell_at T) (hr.mono (by decide)) rfl T.m__law_cell_at T.k__law_cell_at T.b__law_cell_at .nil pass00 (pa_cons (pv 1) (pa_cons pe_int pa_nil))) pe_int) pe_int) (fun _ _ => rfl)))
      (pss_cons (ps_set (i := 4) sc__law_changed.nd rfl (by first | exact Or.inl rfl | exact Or.inr rfl) (pe_lst pa_nil))
      (pss_cons (ps_if (pt_cmpR op_eq (pv 3) pe_int (nomark _)) (pss_one (ps_set (i := 4) sc__law_changed.nd rfl (by first | exact Or.inl rfl | exact Or.inr rfl) (pe_lst (pa_cons (pe_op op_mod (pe_call (ok__law_cell_at T) (hr.mono (by decide)) rfl T.m__law_cell_at T.k__law_cell_at T.b__law_cell_at .nil pass00 (pa_cons (pv 1) (pa_cons pe_int pa_nil))) (pv 2)) pa_nil)))) pss_nil)
      (pss_cons (ps_if (pt_cmpR op_eq (pv 3) pe_int (nomark _)) (pss_one (ps_lc (i := 4) (fr := ["_law_places"]) (js := [2]) sc__law_changed.nd rfl rfl (by with_unfolding_all rfl) rfl ⟨rfl, by decide +kernel, by decide +kernel, rfl, by with_unfolding_all rfl, by exact ⟨rfl, trivial⟩, by with_unfolding_all rfl, by exact ⟨⟨rfl, rfl, rfl, rfl⟩, trivial⟩, by decide +kernel⟩ (pi_list (pe_slice sl_list (pv 1) (po_some pe_int) (po_some pe_int))) (fun _ _ _ _ => (pe_op op_mod (pv 0) (pv 1))))) pss_nil)
      (pss_cons (ps_forW PassesOwn.never rfl (pi_list (pv 4)) (pg_name (i := 5) sc__law_changed.nd rfl (Or.inl rfl)) (pss_one (ps_asg (pe_op op_sub pe_int (pe_ix ix_list (pv 0) (pv 5) (fun _ _ => rfl))) (pg_sub (pv 0) (pv 5) set_list))))
      (pss_cons (ps_if (pt_cmpR op_eq (pv 3) pe_int (nomark _)) (pss_cons (ps_set (i := 5) sc__law_changed.nd rfl (by first | exact Or.inl rfl | exact Or.inr rfl) (pe_op op_mod (pe_call (ok__law_cell_at T) (hr.mono (by decide)) rfl T.m__law_cell_at T.k__law_cell_at T.b__law_cell_at .nil pass00 (pa_cons (pv 1) (pa_cons pe_int pa_nil))) (pv 2)))
      (pss_cons (ps_set (i := 6) sc__law_changed.nd rfl (by first | exact Or.inl rfl | exact Or.inr rfl) (pe_op op_mod (pe_op op_add (pv 5) pe_int) (pv 2)))
      (pss_cons (ps_set (i := 7) sc__law_changed.nd rfl (by first | exact Or.inl rfl | exact Or.inr rfl) (pe_ix ix_list (pv 0) (pv 5) (fun _ _ => rfl)))
      (pss_cons (ps_asg (pe_ix ix_list (pv 0) (pv 6) (fun _ _ => rfl)) (pg_sub (pv 0) (pv 5) set_list))
      (pss_one (ps_asg (pv 7) (pg_sub (pv 0) (pv 6) set_list))))))) pss_nil)
      (pss_one (ps_ret (pv 0)))))))))), ?_⟩
    have n1 := R.n1
    have n2 := R.n2
    generalize hlen : rs.length = n at n1 n2
    refine seqK (fun σ' H' => σ' = [some (.ref r), some (.ref l), some (.int n), none, none, none, none, none] ∧ H = H') (fun R hR => ?_) ?_
    · walk_at "rd"
      refine ⟨_, .inl (SqL.of hr0), ?_⟩
      rw [List.length_map, hlen]
      exact hR _ _ ⟨rfl, rfl⟩
    rintro _ _ ⟨rfl, rfl⟩
    refine seqK (fun σ' H' => ∃ y : Int, σ' = [some (.ref r), some (.ref l), some (.int n), some (.int y), none, none, none, none] ∧ SameX r H H' ∧ H' r = some (.lst (rs.map V.int))) (fun R hR => ?_) ?_
    · walk_at "rd"
      refine ⟨by decide, fun p hp => ⟨ns, hl _ ((SameX.refl r H).new hp), hn, by decide, ⟨by decide, by decide⟩, by decide, ?_⟩⟩
      have b0 := Int.emod_nonneg (ns.getD (Int.toNat 4) 0 / 4) (show (5 : Int) ≠ 0 by decide)
      have b1 := Int.emod_lt_of_pos (ns.getD (Int.toNat 4) 0 / 4) (show (0 : Int) < 5 by decide)
      generalize ns.getD (Int.toNat 4) 0 / 4 % 5 = k at *
      refine ⟨p, [0, 0, 1, 2, 3].map V.int, _, _, rfl, rfl, SqL.of upd_same, atW b0 b1, hR _ _ ⟨_, rfl, (SameX.refl r H).new hp, (Same.upd hp) _ _ hr0⟩⟩
    rintro _ H1 ⟨y, rfl, x1, hr1⟩
    refine seqK (fun σ' H' => ∃ (sp : Addr) (ss : List Int), σ' = [some (.ref r), some (.ref l), some (.int n), some (.int y), some (.ref sp), none, none, none] ∧ SameX r H H' ∧ H' r = some (.lst (rs.map V.int)) ∧ H' sp = some (.lst (ss.map V.int)) ∧ sp ≠ r ∧ (∀ s, s ∈ ss → 0 ≤ s ∧ s < n)) (fun R hR => ?_) ?_
    · walk_at "rd"
      exact ⟨Nat.zero_le _, fun p hp => hR _ _ ⟨p, [], rfl, x1.new hp, (Same.upd hp) _ _ hr1, upd_same, (ne_of_none hr1 hp).symm, fun s h => by cases h⟩⟩
    rintro _ H2 ⟨sp2, ss2, rfl, x2, hr2, hs2, ne2, hb2⟩
    refine seqK (fun σ' H' => ∃ (sp : Addr) (ss : List Int), σ' = [some (.ref r), some (.ref l), some (.int n), some (.int y), some (.ref sp), none, none, none] ∧ SameX r H H' ∧ H' r = some (.lst (rs.map V.int)) ∧ H' sp = some (.lst (ss.map V.int)) ∧ sp ≠ r ∧ (∀ s, s ∈ ss → 0 ≤ s ∧ s < n)) (fun R hR => ?_) ?_
    · walk_at "rd"
      split
      · refine ⟨ns, hl _ x2, hn, by decide, by omega, by decide, fun p hp => hR _ _ ⟨p, [ns.getD (Int.toNat 5) 0 % n], rfl, x2.new hp, (Same.upd hp) _ _ hr2, upd_same, (ne_of_none hr2 hp).symm, fun s h => ?_⟩⟩
        rw [List.mem_singleton] at h
        subst h
        exact ⟨Int.emod_nonneg _ (by omega), Int.emod_lt_of_pos _ (by omega)⟩
      · exact hR _ _ ⟨sp2, ss2, rfl, x2, hr2, hs2, ne2, hb2⟩
    rintro _ H3 ⟨sp3, ss3, rfl, x3, hr3, hs3, ne3, hb3⟩
    refine seqK (fun σ' H' => ∃ (sp : Addr) (ss : List Int), σ' = [some (.ref r), some (.ref l), some (.int n), some (.int y), some (.ref sp), none, none, none] ∧ SameX r H H' ∧ H' r = some (.lst (rs.map V.int)) ∧ H' sp = some (.lst (ss.map V.int)) ∧ sp ≠ r ∧ (∀ s, s ∈ ss → 0 ≤ s ∧ s < n)) (fun R hR => ?_) ?_
    · walk_at "rd"
      split
      · obtain ⟨ms, _, hm, e⟩ := cutV_ints ns (some 5) (some 65)
        refine ⟨l, _, rfl, hl _ x3, fun g hg => ?_⟩
        rw [e]
        have x4 := x3.new (o := HO.lst (ms.map V.int)) hg
        have hg4 : upd H3 g (HO.lst (ms.map V.int)) g = _ := upd_same
        have hr4 := (Same.upd (o := HO.lst (ms.map V.int)) hg) _ _ hr3
        generalize upd H3 g (HO.lst (ms.map V.int)) = H4 at *
        refine ⟨g, rfl, ⟨_, SqL.of hg4⟩, LCW.list (fM n) (SqL.of hg4) (by rw [List.length_map]; exact Nat.le_trans (m := 120) (by omega) (by decide)) (fun x hx R hR => ?_) (fun d hd => ?_)⟩
        · obtain ⟨c, _, rfl⟩ := List.mem_map.mp hx
          exact ⟨_, rfl, by omega, hR⟩
        · have eM : (ms.map V.int).map (fM n) = (ms.map fun x => x % (n : Int)).map V.int := by rw [List.map_map, List.map_map]; rfl
          rw [eM]
          refine hR _ _ ⟨d, _, rfl, x4.new hd, (Same.upd hd) _ _ hr4, upd_same, (ne_of_none hr4 hd).symm, fun s h => ?_⟩
          obtain ⟨c, _, rfl⟩ := List.mem_map.mp h
          exact ⟨Int.emod_nonneg _ (by omega), Int.emod_lt_of_pos _ (by omega)⟩
      · exact hR _ _ ⟨sp3, ss3, rfl, x3, hr3, hs3, ne3, hb3⟩
    rintro _ H4 ⟨sp, ss, rfl, x4, hr4, hs4, ne4, hb4⟩
    refine seqK (fun σ' H' => ∃ (o : Option V) (rs : List Int), σ' = [some (.ref r), some (.ref l), some (.int n), some (.int y), some (.ref sp), o, none, none] ∧ SameX r H H' ∧ H' r = some (.lst (rs.map V.int)) ∧ Row rs ∧ rs.length = n) (fun R0 hR => ?_) ?_
    · walk_at "rd"
      refine ⟨⟨_, SqL.of hs4⟩, FoW.list (xs := ss.map V.int) (fun i σ H' => ∃ (o : Option V) (rs : List Int), σ = [some (.ref r), some (.ref l), some (.int n), some (.int y), some (.ref sp), o, none, none] ∧ SameX r H H' ∧ H' r = some (.lst (rs.map V.int)) ∧ Row rs ∧ rs.length = n ∧ H' sp = some (.lst (ss.map V.int))) ⟨_, rs, rfl, x4, hr4, R, hlen, hs4⟩ (fun i σ H' _ ⟨_, _, _, _, _, _, _, h⟩ => SqL.of h) ?_ fun σ H' ⟨o, rs, e, x, h1, h2, h3, _⟩ => hR _ _ ⟨o, rs, e, x, h1, h2, h3⟩⟩
      rintro i x σ H' hi ⟨o, rs, rfl, x5, hr5, R5, hl5, hs5⟩
      obtain ⟨c, hc, rfl⟩ := int_at' hi
      obtain ⟨c0, c1⟩ := hb4 c (List.mem_of_getElem? hc)
      walk_at "rd"
      refine ⟨r, _, _, _, rfl, rfl, SqL.of hr5, atW c0 (by omega), _, rfl, r, _, _, _, rfl, rfl, hr5, ixI c0 (by omega), ?_⟩
      rw [setI]
      have b := bits_get R5.bit c.toNat
      exact ⟨x5.set, _, upd_same, R5.set (by omega), by rw [List.length_set]; exact hl5, (upd_ne ne4).trans hs5⟩
    rintro _ H5 ⟨o, rs, rfl, x5, hr5, R5, hl5⟩
    walk_at "rd"
    split
    · refine ⟨ns, hl _ x5, hn, by decide, by omega, by omega, ?_⟩
      have a0 := Int.emod_nonneg (ns.getD (Int.toNat 5) 0) (show (n : Int) ≠ 0 by omega)
      have a1 := Int.emod_lt_of_pos (ns.getD (Int.toNat 5) 0) (show (0 : Int) < (n : Int) by omega)
      generalize ns.getD (Int.toNat 5) 0 % (n : Int) = j at *
      have b0 := Int.emod_nonneg (j + 1) (show (n : Int) ≠ 0 by omega)
      have b1 := Int.emod_lt_of_pos (j + 1) (show (0 : Int) < (n : Int) by omega)
      generalize (j + 1) % (n : Int) = k at *
      refine ⟨r, _, _, _, rfl, rfl, SqL.of hr5, atW a0 (by omega), r, _, _, _, rfl, rfl, SqL.of hr5, atW b0 (by omega), r, _, _, _, rfl, rfl, hr5, ixI a0 (by omega), ?_⟩
      rw [setI]
      refine ⟨r, _, _, _, rfl, rfl, upd_same, ixI b0 (by rw [List.length_set]; omega), ?_⟩
      rw [setI, upd_upd]
      exact q _ _ x5.set upd_same ((R5.set (bits_get R5.bit _)).set (bits_get R5.bit _))
    · exact q _ _ x5 hr5 R5
theorem sc__law_made : FnScope ["_law_script", "_law_places", "_law_row_here", "_law_by"] ["_law_script"] (defScope s__law_made) := ⟨rfl, rfl, rfl, by decide +kernel, rfl, by decide +kernel, by decide +kernel⟩

set_option maxHeartbeats 4000000 in
theorem ok__law_made (T : Txt K mg a) : FnOk P w K mg base (CXW P w) 3 a._law_made a.fd__law_made ["_law_script"] (spRow K) := by
  refine T.f__law_made.ok0 sc__law_made (fun vs H Q E h => ?_) (fun cdv A outer s H vs Q E hr h => ?_)
  · obtain ⟨l, ns, rfl, hl, hn, q⟩ := h
    rfl
  · obtain ⟨l, ns, rfl, hl, hn, q⟩ := h
    refine ⟨_, (pss_cons (ps_set (i := 1) sc__law_made.nd rfl (by first | exact Or.inl rfl | exact Or.inr rfl) (pe_op op_add pe_int (pe_op op_mod (pe_call (ok__law_cell_at T) (hr.mono (by decide)) rfl T.m__law_cell_at T.k__law_cell_at T.b__law_cell_at .nil pass00 (pa_cons (pv 0) (pa_cons pe_int pa_nil))) pe_int)))
      (pss_cons (ps_set (i := 2) sc__law_made.nd rfl (by first | exact Or.inl rfl | exact Or.inr rfl) (pe_call (ok__law_sums_row T) (hr.mono (by decide)) rfl T.m__law_sums_row T.k__law_sums_row T.b__law_sums_row .nil pass00 (pa_cons (pe_op op_mod (pe_call (ok__law_cell_at T) (hr.mono (by decide)) rfl T.m__law_cell_at T.k__law_cell_at T.b__law_cell_at .nil pass00 (pa_cons (pv 0) (pa_cons pe_int pa_nil))) (pe_op op_add (pv 1) pe_int)) (pa_cons (pv 1) pa_nil))))
      (pss_cons (ps_set (i := 3) sc__law_made.nd rfl (by first | exact Or.inl rfl | exact Or.inr rfl) (pe_op op_mod (pe_call (ok__law_cell_at T) (hr.mono (by decide)) rfl T.m__law_cell_at T.k__law_cell_at T.b__law_cell_at .nil pass00 (pa_cons (pv 0) (pa_cons pe_int pa_nil))) (pv 1)))
      (pss_cons (ps_set (i := 2) sc__law_made.nd rfl (by first | exact Or.inl rfl | exact Or.inr rfl) (pe_op op_cat (pe_slice sl_list (pv 2) (po_some (pv 3)) po_none) (pe_slice sl_list (pv 2) po_none (po_some (pv 3)))))
      (pss_cons (ps_if (pt_cmpR op_eq (pe_op op_mod (pe_call (ok__law_cell_at T) (hr.mono (by decide)) rfl T.m__law_cell_at T.k__law_cell_at T.b__law_cell_at .nil pass00 (pa_cons (pv 0) (pa_cons pe_int pa_nil))) pe_int) pe_int (nomark _)) (pss_one (ps_set (i := 2) sc__law_made.nd rfl (by first | exact Or.inl rfl | exact Or.inr rfl) (pe_lc (fr := ["_law_row_here", "_law_places"]) (js := [2, 1]) rfl ⟨rfl, by decide +kernel, by decide +kernel, rfl, by with_unfolding_all rfl, by exact ⟨rfl, rfl, trivial⟩, by with_unfolding_all rfl, by exact ⟨⟨rfl, rfl, rfl, rfl⟩, ⟨rfl, rfl, rfl, rfl⟩, trivial⟩, by decide +kernel⟩ (pi_range1 rfl T.n_range (pa_cons (pv 1) pa_nil)) (fun _ _ _ _ => (pe_ix ixC_list (pv 1) (pe_op op_sub (pe_op op_sub (pv 2) pe_int) (pv 0)) (fun _ _ => rfl)))))) pss_nil)
      (pss_cons (ps_if (pt_cmpR op_eq (pe_op op_mod (pe_op op_fdivB (pe_call (ok__law_cell_at T) (hr.mono (by decide)) rfl T.m__law_cell_at T.k__law_cell_at T.b__law_cell_at .nil pass00 (pa_cons (pv 0) (pa_cons pe_int pa_nil))) pe_int) pe_int) pe_int (nomark _)) (pss_one (ps_set (i := 2) sc__law_made.nd rfl (by first | exact Or.inl rfl | exact Or.inr rfl) (pe_lc (fr := []) (js := []) rfl ⟨rfl, by decide +kernel, by decide +kernel, rfl, by with_unfolding_all rfl, by exact trivial, by with_unfolding_all rfl, by exact trivial, by decide +kernel⟩ (pi_list (pv 2)) (fun _ _ _ _ => (pe_op op_sub pe_int (pv 0)))))) pss_nil)
      (pss_one (ps_ret (pe_call (ok__law_changed T) (hr.mono (by decide)) rfl T.m__law_changed T.k__law_changed T.b__law_changed .nil pass00 (pa_cons (pv 2) (pa_cons (pv 0) pa_nil))))))))))), ?_⟩
    refine seqK (fun σ' H' => ∃ n : Nat, σ' = [some (.ref l), some (.int n), none, none] ∧ H = H' ∧ 1 ≤ n ∧ n ≤ 120) (fun R hR => ?_) ?_
    · walk_at "rd"
      exact ⟨ns, hl, hn, by decide, by decide, hR _ _ ⟨(1 + ns.getD (Int.toNat 1) 0 % 120).toNat, by rw [show (((1 + ns.getD (Int.toNat 1) 0 % 120).toNat : Nat) : Int) = 1 + ns.getD (Int.toNat 1) 0 % 120 by omega], rfl, by omega, by omega⟩⟩
    rintro _ _ ⟨n, rfl, rfl, n1, n2⟩
    refine seqK (fun σ' H' => ∃ r rs, σ' = [some (.ref l), some (.int n), some (.ref r), none] ∧ Same H H' ∧ H r = none ∧ H' r = some (.lst (rs.map V.int)) ∧ bits rs ∧ rs.length = n) (fun R hR => ?_) ?_
    · walk_at "rd"
      have b0 := Int.emod_nonneg (ns.getD (Int.toNat 2) 0) (show (n : Int) + 1 ≠ 0 by omega)
      have b1 := Int.emod_lt_of_pos (ns.getD (Int.toNat 2) 0) (show (0 : Int) < (n : Int) + 1 by omega)
      refine ⟨ns, hl, hn, by decide, by omega, ?_⟩
      generalize ns.getD (Int.toNat 2) 0 % ((n : Int) + 1) = s at *
      have W : Wh s n := ⟨by omega, b0, by omega⟩
      refine ⟨W, by omega, fun r hr => hR _ _ ⟨r, _, rfl, Same.upd hr, hr, upd_same, bits_row W, ?_⟩⟩
      have := rowI_len s (p := n) (by omega)
      omega
    rintro _ H1 ⟨r1, rs1, rfl, s1, h10, hr1, hb1, hn1⟩
    refine seqK (fun σ' H' => ∃ b : Nat, σ' = [some (.ref l), some (.int n), some (.ref r1), some (.int b)] ∧ H1 = H' ∧ b < n) (fun R hR => ?_) ?_
    · walk_at "rd"
      have b0 := Int.emod_nonneg (ns.getD (Int.toNat 3) 0) (show (n : Int) ≠ 0 by omega)
      have b1 := Int.emod_lt_of_pos (ns.getD (Int.toNat 3) 0) (show (0 : Int) < (n : Int) by omega)
      refine ⟨ns, s1.seq hl, hn, by decide, by omega, ?_⟩
      generalize ns.getD (Int.toNat 3) 0 % (n : Int) = b at *
      obtain ⟨b, rfl⟩ := Int.eq_ofNat_of_zero_le b0
      exact hR _ _ ⟨b, rfl, rfl, by omega⟩
    rintro _ _ ⟨b, rfl, rfl, hbn⟩
    refine seqK (fun σ' H' => ∃ r rs, σ' = [some (.ref l), some (.int n), some (.ref r), some (.int b)] ∧ Same H H' ∧ H r = none ∧ H' r = some (.lst (rs.map V.int)) ∧ bits rs ∧ rs.length = n) (fun R hR => ?_) ?_
    · walk_at "rd"
      refine ⟨r1, _, rfl, SqL.of hr1, fun g hg => ?_⟩
      have t2 := Same.upd (o := HO.lst (cutV (rs1.map V.int) (some (b : Int)) none)) hg
      refine ⟨r1, _, rfl, SqL.of (t2 _ _ hr1), fun d hd => ?_⟩
      have t3 := Same.upd (o := HO.lst (cutV (rs1.map V.int) none (some (b : Int)))) hd
      have z : (cutV (rs1.map V.int) (some (b : Int)) none).length + (cutV (rs1.map V.int) none (some (b : Int))).length = n := by
        rw [← List.length_append, turnI (by omega), List.length_map, List.length_append, List.length_drop, List.length_take]; omega
      refine ⟨g, rfl, d, rfl, _, t3 _ _ upd_same, _, upd_same, by rw [z]; exact Nat.le_trans (m := 120) (by omega) (by decide), fun p hp => ?_⟩
      rw [turnI (by omega)]
      refine hR _ _ ⟨p, _, rfl, ((s1.trans t2).trans t3).trans (Same.upd hp), ((s1.trans t2).trans t3).free hp, upd_same, fun x hx => ?_, by rw [List.length_append, List.length_drop, List.length_take]; omega⟩
      rcases List.mem_append.mp hx with h | h
      · exact hb1 x (List.mem_of_mem_drop h)
      · exact hb1 x (List.mem_of_mem_take h)
    rintro _ H2 ⟨r2, rs2, rfl, s2, h20, hr2, hb2, hn2⟩
    refine seqK (fun σ' H' => ∃ r rs, σ' = [some (.ref l), some (.int n), some (.ref r), some (.int b)] ∧ Same H H' ∧ H r = none ∧ H' r = some (.lst (rs.map V.int)) ∧ bits rs ∧ rs.length = n) (fun R hR => ?_) ?_
    · walk_at "rd"
      refine ⟨ns, s2.seq hl, hn, by decide, by decide, ?_⟩
      split
      · refine ⟨by omega, by omega, LCW.range (fun (i : Nat) => .int (rs2.getD (n - 1 - i) 0)) (Nat.le_trans (m := 120) (by omega) (by decide)) (fun i hi R hR => ?_) (fun d hd => ?_)⟩
        · have hi' : i < n := by omega
          refine ⟨_, rfl, r2, _, _, _, rfl, rfl, SqL.of hr2, atW (by omega) (by omega), ?_⟩
          rw [show ((n : Int) - 1 - (0 + (i : Int))).toNat = n - 1 - i by omega]
          exact hR
        · have eL : (List.range ((n : Int)).toNat).map (fun (i : Nat) => V.int (rs2.getD (n - 1 - i) 0)) = ((List.range n).map (fun (i : Nat) => rs2.getD (n - 1 - i) 0)).map V.int := by rw [Int.toNat_natCast, List.map_map]; rfl
          rw [eL]
          refine hR _ _ ⟨d, _, rfl, s2.trans (Same.upd hd), s2.free hd, upd_same, fun x hx => ?_, by rw [List.length_map, List.length_range]⟩
          obtain ⟨i, _, rfl⟩ := List.mem_map.mp hx
          exact bits_get hb2 _
      · exact hR _ _ ⟨r2, rs2, rfl, s2, h20, hr2, hb2, hn2⟩
    rintro _ H3 ⟨r3, rs3, rfl, s3, h30, hr3, hb3, hn3⟩
    refine seqK (fun σ' H' => ∃ r rs, σ' = [some (.ref l), some (.int n), some (.ref r), some (.int b)] ∧ Same H H' ∧ H r = none ∧ H' r = some (.lst (rs.map V.int)) ∧ bits rs ∧ rs.length = n) (fun R hR => ?_) ?_
    · walk_at "rd"
      refine ⟨ns, s3.seq hl, hn, by decide, ⟨by decide, by decide⟩, by decide, ?_⟩
      split
      · refine ⟨⟨_, SqL.of hr3⟩, LCW.list fSw (SqL.of hr3) (by rw [List.length_map]; exact Nat.le_trans (m := 120) (by omega) (by decide)) (fun x hx R hR => ?_) (fun d hd => ?_)⟩
        · obtain ⟨y, _, rfl⟩ := List.mem_map.mp hx
          exact ⟨_, rfl, hR⟩
        · have eM : (rs3.map V.int).map fSw = (rs3.map fun x => 1 - x).map V.int := by rw [List.map_map, List.map_map]; rfl
          rw [eM]
          refine hR _ _ ⟨d, _, rfl, s3.trans (Same.upd hd), s3.free hd, upd_same, fun x hx => ?_, by rw [List.length_map]; exact hn3⟩
          obtain ⟨y, hy, rfl⟩ := List.mem_map.mp hx
          have := hb3 y hy
          omega
      · exact hR _ _ ⟨r3, rs3, rfl, s3, h30, hr3, hb3, hn3⟩
    rintro _ H4 ⟨r4, rs4, rfl, s4, h40, hr4, hb4, hn4⟩
    walk_at "rd"
    have sx : ∀ H', SameX r4 H4 H' → Same H H' := fun H' x b o e => x b o (ne_of_none e h40) (s4 _ _ e)
    exact ⟨rs4, hr4, ⟨by omega, by omega, hb4⟩, ns, fun H' x => (sx H' x).seq hl, hn, fun H' rs' x hr' R' => q _ r4 rs' (sx H' x) h40 hr' R'⟩
theorem sc__law_row : FnScope ["_law_script", "_law_head", "_law_row_here", "_law_cell"] ["_law_script"] (defScope s__law_row) := ⟨rfl, rfl, rfl, by decide +kernel, rfl, by decide +kernel, by decide +kernel⟩

set_option maxHeartbeats 4000000 in
theorem ok__law_row (T : Txt K mg a) : FnOk P w K mg base (CXW P w) 4 a._law_row a.fd__law_row ["_law_script"] (spRow K) := by
  refine T.f__law_row.ok0 sc__law_row (fun vs H Q E h => ?_) (fun cdv A outer s H vs Q E hr h => ?_)
  · obtain ⟨l, ns, rfl, hl, hn, q⟩ := h
    rfl
  · obtain ⟨l, ns, rfl, hl, hn, q⟩ := h
    refine ⟨_, (pss_cons (ps_set (i := 1) sc__law_row.nd rfl (by first | exact Or.inl rfl | exact Or.inr rfl) (pe_call (ok__law_cell_at T) (hr.mono (by decide)) rfl T.m__law_cell_at T.k__law_cell_at T.b__law_cell_at .nil pass00 (pa_cons (pv 0) (pa_cons pe_int pa_nil))))
      (pss_cons (ps_set (i := 2) sc__law_row.nd rfl (by first | exact Or.inl rfl | exact Or.inr rfl) (pe_lst pa_nil))
      (pss_cons (ps_if (pt_cmpR op_eq (pe_op op_mod (pv 1) pe_int) pe_int (nomark _)) (pss_one (ps_lc (i := 2) (fr := []) (js := []) sc__law_row.nd rfl rfl (by with_unfolding_all rfl) rfl ⟨rfl, by decide +kernel, by decide +kernel, rfl, by with_unfolding_all rfl, by exact trivial, by with_unfolding_all rfl, by exact trivial, by decide +kernel⟩ (pi_list (pe_slice sl_list (pv 0) (po_some pe_int) (po_some pe_int))) (fun _ _ _ _ => (pe_op op_mod (pv 0) pe_int)))) pss_nil)
      (pss_cons (ps_if (pt_cmpR op_eq (pe_op op_mod (pv 1) pe_int) pe_int (nomark _)) (pss_cons (ps_forW PassesOwn.never rfl (pi_list (pe_slice sl_list (pv 0) (po_some pe_int) (po_some pe_int))) (pg_name (i := 3) sc__law_row.nd rfl (Or.inl rfl)) (pss_one (ps_set (i := 2) sc__law_row.nd rfl (by first | exact Or.inl rfl | exact Or.inr rfl) (pe_op op_cat (pv 2) (pe_lst (pa_cons (pe_op op_mod (pv 3) pe_int) (pa_cons (pe_op op_mod (pe_op op_fdivB (pv 3) pe_int) pe_int) pa_nil)))))))
      (pss_one (ps_if (pt_cmpR op_eq (pe_op op_mod (pe_op op_fdivB (pv 1) pe_int) pe_int) pe_int (nomark _)) (pss_one (ps_set (i := 2) sc__law_row.nd rfl (by first | exact Or.inl rfl | exact Or.inr rfl) (pe_slice sl_list (pv 2) po_none (po_some (pe_un un_neg pe_int))))) pss_nil))) pss_nil)
      (pss_cons (ps_if (pt_cmpR op_gt (pe_op op_mod (pv 1) pe_int) pe_int (nomark _)) (pss_one (ps_set (i := 2) sc__law_row.nd rfl (by first | exact Or.inl rfl | exact Or.inr rfl) (pe_call (ok__law_made T) (hr.mono (by decide)) rfl T.m__law_made T.k__law_made T.b__law_made .nil pass00 (pa_cons (pv 0) pa_nil)))) pss_nil)
      (pss_cons (ps_if (pt_cmpR (op_eqL hr.units) (pv 2) (pe_lst pa_nil) (nomark _)) (pss_one (ps_set (i := 2) sc__law_row.nd rfl (by first | exact Or.inl rfl | exact Or.inr rfl) (pe_lst (pa_cons (pe_op op_mod (pe_op op_fdivB (pv 1) pe_int) pe_int) pa_nil)))) pss_nil)
      (pss_one (ps_ret (pv 2))))))))), ?_⟩
    refine seqK (fun σ' H' => ∃ c : Int, σ' = [some (.ref l), some (.int c), none, none] ∧ H = H') (fun R hR => ?_) ?_
    · walk_at "rd"
      exact ⟨ns, hl, hn, by decide, hR _ _ ⟨_, rfl, rfl⟩⟩
    rintro _ _ ⟨c, rfl, rfl⟩
    refine seqK (fun σ' H' => ∃ r, σ' = [some (.ref l), some (.int c), some (.ref r), none] ∧ Same H H' ∧ H r = none ∧ H' r = some (.lst (([] : List Int).map V.int))) (fun R hR => ?_) ?_
    · walk_at "rd"
      exact ⟨Nat.zero_le _, fun r hr => hR _ _ ⟨r, rfl, Same.upd hr, hr, upd_same⟩⟩
    rintro _ H1 ⟨r, rfl, s1, hr0, hr1⟩
    refine seqK (fun σ' H' => ∃ r rs, σ' = [some (.ref l), some (.int c), some (.ref r), none] ∧ Same H H' ∧ H r = none ∧ H' r = some (.lst (rs.map V.int)) ∧ bits rs ∧ (c % 4 = 1 → rs = []) ∧ rs.length ≤ 120) (fun R hR => ?_) ?_
    · walk_at "rd"
      refine ⟨by decide, ?_⟩
      split
      · rename_i h0
        obtain ⟨ms, _, hm, e⟩ := cutV_ints ns (some 1) (some 121)
        refine ⟨l, _, rfl, s1.seq hl, fun g hg => ?_⟩
        rw [e]
        have s2 := s1.trans (Same.upd (o := HO.lst (ms.map V.int)) hg)
        have hg2 : upd H1 g (HO.lst (ms.map V.int)) g = _ := upd_same
        generalize upd H1 g (HO.lst (ms.map V.int)) = H2 at *
        refine ⟨g, rfl, ⟨_, SqL.of hg2⟩, LCW.list f2 (SqL.of hg2) (by rw [List.length_map]; exact Nat.le_trans (m := 120) (by omega) (by decide)) (fun x hx R hR => ?_) (fun d hd => ?_)⟩
        · obtain ⟨y, _, rfl⟩ := List.mem_map.mp hx
          exact ⟨_, rfl, by decide, hR⟩
        · have eM : (ms.map V.int).map f2 = (ms.map fun x => x % 2).map V.int := by rw [List.map_map, List.map_map]; rfl
          rw [eM]
          refine hR _ _ ⟨d, _, rfl, s2.trans (Same.upd hd), s2.free hd, upd_same, fun x hx => ?_, fun h => by omega, by rw [List.length_map]; omega⟩
          obtain ⟨y, _, rfl⟩ := List.mem_map.mp hx
          omega
      · exact hR _ _ ⟨r, [], rfl, s1, hr0, hr1, bits_nil, fun _ => rfl, Nat.zero_le _⟩
    rintro _ H2 ⟨r2, rs, rfl, s2, h20, hr2, hb2, he2, hn2⟩
    refine seqK (fun σ' H' => ∃ r rs o, σ' = [some (.ref l), some (.int c), some (.ref r), o] ∧ Same H H' ∧ H r = none ∧ H' r = some (.lst (rs.map V.int)) ∧ bits rs ∧ rs.length ≤ 120) (fun R hR => ?_) ?_
    · walk_at "rd"
      refine ⟨by decide, ?_⟩
      split
      · rename_i h1
        have he := he2 h1
        subst he
        obtain ⟨ms, hm, e⟩ := cut60 ns
        refine ⟨l, _, rfl, s2.seq hl, fun g hg => ?_⟩
        rw [e]
        have s3 := Same.upd (o := HO.lst (ms.map V.int)) hg
        have hg3 : upd H2 g (HO.lst (ms.map V.int)) g = _ := upd_same
        have hr3 := s3 _ _ hr2
        have sm3 := s2.trans s3
        generalize upd H2 g (HO.lst (ms.map V.int)) = H3 at *
        refine ⟨g, rfl, ⟨_, SqL.of hg3⟩, FoW.list (xs := ms.map V.int) (fun i σ H' => ∃ r rs o, σ = [some (.ref l), some (.int c), some (.ref r), o] ∧ Same H3 H' ∧ H r = none ∧ H' r = some (.lst (rs.map V.int)) ∧ bits rs ∧ rs.length = 2 * i) ⟨_, [], _, rfl, Same.refl _, h20, hr3, bits_nil, rfl⟩ (fun i σ H' _ ⟨_, _, _, _, s4, _⟩ => SqL.of (s4 _ _ hg3)) ?_ ?_⟩
        · rintro i x σ H' hi ⟨r, rs, o, rfl, s4, r0, hr, hb, hz⟩
          obtain ⟨y, hy, rfl⟩ := int_at' hi
          have hi' : i < ms.length := (List.getElem?_eq_some_iff.mp hy).1
          walk_at "rd"
          refine ⟨by decide, ⟨by decide, by decide⟩, by decide, by decide, fun p hp => ?_⟩
          have s5 := Same.upd (o := HO.lst [V.int (y % 2), V.int (y / 2 % 2)]) hp
          refine ⟨_, s5 _ _ hr, _, upd_same, ?_, fun d hd => ?_⟩
          · rw [List.length_map, hz]; exact Nat.le_trans (m := 122) (by simp only [List.length_cons, List.length_nil]; omega) (by decide)
          · refine ⟨(s4.trans s5).trans (Same.upd hd), ((sm3.trans s4).trans s5).free hd, rs ++ [y % 2, y / 2 % 2], by rw [upd_same, List.map_append]; rfl, fun x hx => ?_, by rw [List.length_append, hz]; simp only [List.length_cons, List.length_nil]; omega⟩
            rcases List.mem_append.mp hx with h | h
            · exact hb x h
            · simp only [List.mem_cons, List.not_mem_nil, or_false] at h
              omega
        · rintro σ H' ⟨r, rs, o, rfl, s4, r0, hr, hb, hz⟩
          rw [List.length_map] at hz
          walk_at "rd"
          refine ⟨⟨by decide, by decide⟩, by decide, ?_⟩
          split
          · obtain ⟨ks, hk1, hk2, e⟩ := cutV_ints rs none (some (-1))
            refine ⟨r, _, rfl, SqL.of hr, fun d hd => ?_⟩
            rw [e]
            exact hR _ _ ⟨d, ks, _, rfl, (sm3.trans s4).trans (Same.upd hd), (sm3.trans s4).free hd, upd_same, fun x hx => hb x (hk1 x hx), by omega⟩
          · exact hR _ _ ⟨r, rs, _, rfl, sm3.trans s4, r0, hr, hb, by omega⟩
      · exact hR _ _ ⟨r2, rs, _, rfl, s2, h20, hr2, hb2, hn2⟩
    rintro _ H3 ⟨r3, rs, o, rfl, s3, h30, hr3, hb3, hn3⟩
    refine seqK (fun σ' H' => ∃ r rs o, σ' = [some (.ref l), some (.int c), some (.ref r), o] ∧ Same H H' ∧ H r = none ∧ H' r = some (.lst (rs.map V.int)) ∧ bits rs ∧ rs.length ≤ 120) (fun R hR => ?_) ?_
    · walk_at "rd"
      refine ⟨by decide, ?_⟩
      split
      · exact ⟨ns, s3.seq hl, hn, fun H4 r4 rs4 s4 h40 hr4 R4 => hR _ _ ⟨r4, rs4, _, rfl, s3.trans s4, s3.free h40, hr4, R4.bit, R4.n2⟩⟩
      · exact hR _ _ ⟨r3, rs, _, rfl, s3, h30, hr3, hb3, hn3⟩
    rintro _ H4 ⟨r4, rs4, o4, rfl, s4, h40, hr4, hb4, hn4⟩
    walk_at "rd"
    refine ⟨Nat.zero_le _, fun p hp => ?_⟩
    have s5 := Same.upd (o := HO.lst []) hp
    refine ⟨_, SqL.of (s5 _ _ hr4), [], SqL.of upd_same, ?_⟩
    split
    · refine ⟨⟨by decide, by decide⟩, by decide, by decide, fun d hd => ?_⟩
      refine q _ d [c / 4 % 2] ((s4.trans s5).trans (Same.upd hd)) ((s4.trans s5).free hd) upd_same ⟨Nat.le_refl _, by show 1 ≤ 120; decide, fun x hx => ?_⟩
      rw [List.mem_singleton] at hx
      omega
    · rename_i hne
      exact q _ r4 rs4 (s4.trans s5) h40 (s5 _ _ hr4) ⟨by
        cases rs4 with
        | nil => exact absurd rfl hne
        | cons b t => rw [List.length_cons]; omega, hn4, hb4⟩
theorem sc__law_even : FnScope ["_law_row_here", "_law_places", "_law_due", "_law_handed", "_law_found", "_law_twice", "_law_at"] ["_law_row_here"] (defScope s__law_even) := ⟨rfl, rfl, rfl, by decide +kernel, rfl, by decide +kernel, by decide +kernel⟩

set_option maxHeartbeats 4000000 in
theorem ok__law_even (T : Txt K mg a) : FnOk P w K mg base (CXW P w) 6 a._law_even a.fd__law_even ["_law_row_here"] (spEven) := by
  refine T.f__law_even.ok0 sc__law_even (fun vs H Q E h => ?_) (fun cdv A outer s H vs Q E hr h => ?_)
  · obtain ⟨r, rs, rfl, hr0, R, ev, q⟩ := h
    rfl
  · obtain ⟨r, rs, rfl, hr0, R, ev, q⟩ := h
    refine ⟨_, (pss_cons (ps_set (i := 1) sc__law_even.nd rfl (by first | exact Or.inl rfl | exact Or.inr rfl) (pe_callB call_len_seq rfl T.n_len (by decide +kernel) (pa_cons (pv 0) pa_nil)))
      (pss_cons (ps_set (i := 2) sc__law_even.nd rfl (by first | exact Or.inl rfl | exact Or.inr rfl) (pe_call (ok__law_sums_row T) (hr.mono (by decide)) rfl T.m__law_sums_row T.k__law_sums_row T.b__law_sums_row .nil pass00 (pa_cons (pe_callB (call_sumL rfl) rfl T.n_sum (by decide +kernel) (pa_cons (pv 0) pa_nil)) (pa_cons (pv 1) pa_nil))))
      (pss_cons (ps_set (i := 3) sc__law_even.nd rfl (by first | exact Or.inl rfl | exact Or.inr rfl) (pe_callTy call_list_of rfl T.n_list (by decide +kernel) (pa_cons (pv 0) pa_nil)))
      (pss_cons (ps_set (i := 4) sc__law_even.nd rfl (by first | exact Or.inl rfl | exact Or.inr rfl) (pe_call (ok_start T) (hr.mono (by decide)) rfl T.m_start T.k_start T.b_start .nil pass00 (pa_cons (pv 3) pa_nil)))
      (pss_cons (ps_if (PW.pt (pw_or (pt_not (pt_val (pe_call (ok__law_whole T) (hr.mono (by decide)) rfl T.m__law_whole T.k__law_whole T.b__law_whole .nil pass00 (pa_cons (pv 4) pa_nil)))) (pw_or (pt_cmpR op_lt (pv 4) pe_int (nomark _)) (pw_or (pt_cmpR op_ge (pv 4) (pv 1) (nomark _)) (pw_or1 (pt_not (pt_val (pe_call (ok__law_alike T) (hr.mono (by decide)) rfl T.m__law_alike T.k__law_alike T.b__law_alike .nil pass00 (pa_cons (pv 3) (pa_cons (pv 0) pa_nil)))))))))) (pss_one (ps_ret pe_bl)) pss_nil)
      (pss_cons (ps_set (i := 5) sc__law_even.nd rfl (by first | exact Or.inl rfl | exact Or.inr rfl) (pe_op op_cat (pv 0) (pv 0)))
      (pss_cons (ps_forW PassesOwn.never rfl (pi_range1 rfl T.n_range (pa_cons (pv 4) pa_nil)) (pg_name (i := 6) sc__law_even.nd rfl (Or.inl rfl)) (pss_one (ps_if (pt_cmpR (op_eqL hr.units) (pe_slice sl_list (pv 5) (po_some (pv 6)) (po_some (pe_op op_add (pv 6) (pv 1)))) (pv 2) (nomark _)) (pss_one (ps_ret pe_bl)) pss_nil)))
      (pss_one (ps_ret (pe_and (pe_cmpR (op_eqL hr.units) (pe_slice sl_list (pv 5) (po_some (pv 4)) (po_some (pe_op op_add (pv 4) (pv 1)))) (pv 2) (nomark _)) (pe_one (pe_call (ok__law_alike T) (hr.mono (by decide)) rfl T.m__law_alike T.k__law_alike T.b__law_alike .nil pass00 (pa_cons (pe_call (ok_turned T) (hr.mono (by decide)) rfl T.m_turned T.k_turned T.b_turned .nil pass00 (pa_cons (pv 3) (pa_cons (pv 4) pa_nil))) (pa_cons (pv 2) pa_nil)))))))))))))), ?_⟩
    have n1 := R.n1
    have n2 := R.n2
    walk_at "rd"
    refine ⟨_, .inl (SqL.of hr0), rs, SqL.of hr0, ?_⟩
    rw [List.length_map]
    refine ⟨wh_of n1 R.bit, by omega, fun d hd => ?_⟩
    rw [rowIS]
    have s1 := Same.upd (o := HO.lst ((rowS rs.sum rs.length).map V.int)) hd
    have hd1 : upd H d (HO.lst ((rowS rs.sum rs.length).map V.int)) d = _ := upd_same
    have hr1 := s1 _ _ hr0
    generalize upd H d (HO.lst ((rowS rs.sum rs.length).map V.int)) = H1 at *
    refine ⟨_, .inl (SqL.of hr1), fun h hh => ?_⟩
    have s2 := Same.upd (o := HO.lst (rs.map V.int)) hh
    have hh2 : upd H1 h (HO.lst (rs.map V.int)) h = _ := upd_same
    have hr2 := s2 _ _ hr1
    have hd2 := s2 _ _ hd1
    generalize upd H1 h (HO.lst (rs.map V.int)) = H2 at *
    refine ⟨rs, hh2, R, fun _ H3 t s3 ht hs hno => ?_, fun w M m G => (G.not ev).elim⟩
    rw [if_neg (by omega), if_neg (by omega)]
    refine ⟨rs, s3 _ _ hh2, s3 _ _ hr2, fun H4 s4 => ?_⟩
    have s34 := s3.trans s4
    have hr4 := s34 _ _ hr2
    refine ⟨_, hr4, _, hr4, by rw [List.length_map]; exact Nat.le_trans (m := 400) (by omega) (by decide), fun tw htw => ?_⟩
    have s5 := s34.trans (Same.upd (o := HO.lst (rs.map V.int ++ rs.map V.int)) htw)
    have htw5 : upd H4 tw (HO.lst (rs.map V.int ++ rs.map V.int)) tw = _ := upd_same
    have hh5 := s5 _ _ hh2
    have hd5 := s5 _ _ hd2
    have sm5 := (s1.trans s2).trans s5
    generalize upd H4 tw (HO.lst (rs.map V.int ++ rs.map V.int)) = H5 at *
    refine ⟨by omega, by omega, FoW.range (fun i σ H' => ∃ o, σ = [some (.ref r), some (.int rs.length), some (.ref d), some (.ref h), some (.int t), some (.ref tw), o] ∧ Same H5 H') ⟨_, rfl, Same.refl _⟩ ?_ ?_⟩
    · rintro i σ H' hi ⟨o, rfl, s6⟩
      have hi' : i < t := by omega
      walk_at "rd"
      refine ⟨tw, _, rfl, SqL.of (s6 _ _ htw5), fun c hc => ?_⟩
      rw [show (0 : Int) + (i : Int) = i from Int.zero_add _, cutW (by omega)]
      have s7 := Same.upd (o := HO.lst ((trn rs (i : Int)).map V.int)) hc
      refine ⟨c, rfl, _, SqL.of upd_same, _, SqL.of (s7 _ _ (s6 _ _ hd5)), ?_⟩
      rw [if_neg (hno i hi')]
      exact s6.trans s7
    · rintro σ H' ⟨o, rfl, s6⟩
      walk_at "rd"
      refine ⟨tw, _, rfl, SqL.of (s6 _ _ htw5), fun c hc => ?_⟩
      rw [cutW (by omega), hs]
      have s7 := s6.trans (Same.upd (o := HO.lst ((rowS rs.sum rs.length).map V.int)) hc)
      refine ⟨c, rfl, _, SqL.of upd_same, _, SqL.of (s7 _ _ hd5), ?_⟩
      rw [if_pos rfl]
      refine ⟨rs, s7 _ _ hh5, n1, by omega, fun g hg => ?_⟩
      rw [hs]
      have s8 := s7.trans (Same.upd (o := HO.lst ((rowS rs.sum rs.length).map V.int)) hg)
      exact ⟨_, upd_same, s8 _ _ hd5, fun H9 s9 => q _ ((sm5.trans s8).trans s9)⟩
theorem sc__law_counts : FnScope ["_law_heads", "_law_places", "_law_width"] ["_law_heads", "_law_places", "_law_width"] (defScope s__law_counts) := ⟨rfl, rfl, rfl, by decide +kernel, rfl, by decide +kernel, by decide +kernel⟩

set_option maxHeartbeats 4000000 in
theorem ok__law_counts (T : Txt K mg a) : FnOk P w K mg base (CXW P w) 1 a._law_counts a.fd__law_counts ["_law_heads", "_law_places", "_law_width"] (spLCounts) := by
  refine T.f__law_counts.ok0 sc__law_counts (fun vs H Q E h => ?_) (fun cdv A outer s H vs Q E hr h => ?_)
  · obtain ⟨h, rs, w, rfl, hh, R, hw, q⟩ := h
    rfl
  · obtain ⟨h, rs, w, rfl, hh, R, hw, q⟩ := h
    refine ⟨_, (pss_one (ps_ret (pe_lc (fr := ["_law_heads", "_law_width"]) (js := [0, 2]) rfl ⟨rfl, by decide +kernel, by decide +kernel, rfl, by with_unfolding_all rfl, by exact ⟨rfl, rfl, trivial⟩, by with_unfolding_all rfl, by exact ⟨⟨rfl, rfl, rfl, rfl⟩, ⟨rfl, rfl, rfl, rfl⟩, trivial⟩, by decide +kernel⟩ (pi_range1 rfl T.n_range (pa_cons (pv 1) pa_nil)) (fun _ _ _ _ => (pe_op op_sub (pe_ix ixC_list (pv 1) (pe_op op_add (pv 0) (pv 2)) (fun _ _ => rfl)) (pe_ix ixC_list (pv 1) (pv 0) (fun _ _ => rfl))))))), ?_⟩
    have n1 := R.n1
    have n2 := R.n2
    walk_at "rd"
    refine ⟨by omega, by omega, LCW.range (fun (i : Nat) => .int (cnt (wf rs) w i)) (Nat.le_trans (m := 120) (by omega) (by decide)) (fun i hi R hR => ?_) (fun d hd => ?_)⟩
    · walk_at "rd"
      refine ⟨h, _, _, _, rfl, rfl, SqL.of hh, headsW_at (by omega) (by omega), h, _, _, _, rfl, rfl, SqL.of hh, headsW_at (by omega) (by omega), _, rfl, _, rfl, ?_⟩
      have e : sumN (wf rs) (0 + (i : Int) + (w : Int)).toNat - sumN (wf rs) (0 + (i : Int)).toNat = cnt (wf rs) w i := by
        rw [show (0 + (i : Int) + (w : Int)).toNat = i + w by omega, show (0 + (i : Int)).toNat = i by omega]; rfl
      rw [e]
      exact hR
    · have := q d hd
      unfold cnts at this
      rw [List.map_map] at this
      rw [Int.toNat_natCast]
      exact this
theorem sc__law_fault : FnScope ["_law_row_here", "_law_found", "_law_places", "_law_heads", "_law_one", "_law_width", "_law_some"] ["_law_row_here", "_law_found"] (defScope s__law_fault) := ⟨rfl, rfl, rfl, by decide +kernel, rfl, by decide +kernel, by decide +kernel⟩

set_option maxHeartbeats 4000000 in
theorem ok__law_fault (T : Txt K mg a) : FnOk P w K mg base (CXW P w) 2 a._law_fault a.fd__law_fault ["_law_row_here", "_law_found"] (spLFault) := by
  refine T.f__law_fault.ok0 sc__law_fault (fun vs H Q E h => ?_) (fun cdv A outer s H vs Q E hr h => ?_)
  · obtain ⟨r, t, rs, w, M, m, rfl, hr0, R, G, ht, q⟩ := h
    rfl
  · obtain ⟨r, t, rs, w, M, m, rfl, hr0, R, G, ht, q⟩ := h
    refine ⟨_, (pss_cons (ps_set (i := 2) sc__law_fault.nd rfl (by first | exact Or.inl rfl | exact Or.inr rfl) (pe_callB call_len_seq rfl T.n_len (by decide +kernel) (pa_cons (pv 0) pa_nil)))
      (pss_cons (ps_if (PW.pt (pw_or (pt_cmpR op_lt (pe_ix ix_tup (pv 1) pe_int (fun _ _ => rfl)) pe_int (nomark _)) (pw_or1 (pt_cmpR op_gt (pe_ix ix_tup (pv 1) pe_int (fun _ _ => rfl)) (pv 2) (nomark _))))) (pss_one (ps_ret pe_bl)) pss_nil)
      (pss_cons (ps_set (i := 3) sc__law_fault.nd rfl (by first | exact Or.inl rfl | exact Or.inr rfl) (pe_lst (pa_cons pe_int pa_nil)))
      (pss_cons (ps_forW PassesOwn.never rfl (pi_list (pe_op op_cat (pv 0) (pv 0))) (pg_name (i := 4) sc__law_fault.nd rfl (Or.inl rfl)) (pss_one (ps_expr (pe_bm PySem.F.plainAttrs_list PySem.F.slot_list_append PySem.F.type_list_append mt_append (pv 3) (pa_cons (pe_op op_add (pe_ix ix_list (pv 3) (pe_un un_neg pe_int) (fun _ _ => rfl)) (pv 4)) pa_nil)))))
      (pss_cons (ps_forW PassesOwn.never rfl (pi_range2 rfl T.n_range (pa_cons pe_int (pa_cons (pe_ix ix_tup (pv 1) pe_int (fun _ _ => rfl)) pa_nil))) (pg_name (i := 5) sc__law_fault.nd rfl (Or.inl rfl)) (pss_cons (ps_set (i := 6) sc__law_fault.nd rfl (by first | exact Or.inl rfl | exact Or.inr rfl) (pe_call (ok__law_counts T) (hr.mono (by decide)) rfl T.m__law_counts T.k__law_counts T.b__law_counts .nil pass00 (pa_cons (pv 3) (pa_cons (pv 2) (pa_cons (pv 5) pa_nil)))))
      (pss_one (ps_if (pt_cmpR op_gt (pe_op op_sub (pe_callB (call_maxL rfl) rfl T.n_max (by decide +kernel) (pa_cons (pv 6) pa_nil)) (pe_callB (call_minL rfl) rfl T.n_min (by decide +kernel) (pa_cons (pv 6) pa_nil))) pe_int (nomark _)) (pss_one (ps_ret pe_bl)) pss_nil))))
      (pss_cons (ps_set (i := 6) sc__law_fault.nd rfl (by first | exact Or.inl rfl | exact Or.inr rfl) (pe_call (ok__law_counts T) (hr.mono (by decide)) rfl T.m__law_counts T.k__law_counts T.b__law_counts .nil pass00 (pa_cons (pv 3) (pa_cons (pv 2) (pa_cons (pe_ix ix_tup (pv 1) pe_int (fun _ _ => rfl)) pa_nil)))))
      (pss_cons (ps_if (pt_cmpR op_ne (pe_op op_sub (pe_callB (call_maxL rfl) rfl T.n_max (by decide +kernel) (pa_cons (pv 6) pa_nil)) (pe_callB (call_minL rfl) rfl T.n_min (by decide +kernel) (pa_cons (pv 6) pa_nil))) pe_int (nomark _)) (pss_one (ps_ret pe_bl)) pss_nil)
      (pss_one (ps_ret (pe_and (pe_cmpR op_eq (pe_ix ix_tup (pv 1) pe_int (fun _ _ => rfl)) (pe_bm PySem.F.plainAttrs_list PySem.F.slot_list_index PySem.F.type_list_index mt_index (pv 6) (pa_cons (pe_callB (call_maxL rfl) rfl T.n_max (by decide +kernel) (pa_cons (pv 6) pa_nil)) pa_nil)) (nomark _)) (pe_one (pe_cmpR op_eq (pe_ix ix_tup (pv 1) pe_int (fun _ _ => rfl)) (pe_bm PySem.F.plainAttrs_list PySem.F.slot_list_index PySem.F.type_list_index mt_index (pv 6) (pa_cons (pe_callB (call_minL rfl) rfl T.n_min (by decide +kernel) (pa_cons (pv 6) pa_nil)) pa_nil)) (nomark _))))))))))))), ?_⟩
    have n1 := R.n1
    have n2 := R.n2
    have w1 := G.pos
    have w2 := G.lt
    have two := G.two R
    walk_at "rd"
    refine ⟨_, .inl (SqL.of hr0), ?_⟩
    rw [List.length_map]
    refine ⟨t, _, 0, _, rfl, rfl, SqT.of ht, atI_nat (j := 0) rfl, _, rfl, ?_⟩
    rw [if_neg (by omega)]
    refine ⟨t, _, 0, _, rfl, rfl, SqT.of ht, atI_nat (j := 0) rfl, _, rfl, ?_⟩
    rw [if_neg (by omega)]
    refine ⟨by decide, fun p hp => ?_⟩
    have hr' := (Same.upd (o := HO.lst [V.int 0]) hp) _ _ hr0
    refine ⟨_, hr', _, hr', by rw [List.length_map]; exact Nat.le_trans (m := 400) (by omega) (by decide), fun g hg => ⟨⟨_, SqL.of upd_same⟩, ?_⟩⟩
    have npg : p ≠ g := ne_of_none upd_same hg
    rw [← List.map_append]
    have hpt : upd (upd H p (HO.lst [V.int 0])) g (HO.lst ((rs ++ rs).map V.int)) p = some (.lst ((heads (rs ++ rs) 0).map V.int)) := (upd_ne npg).trans upd_same
    have htt : upd (upd H p (HO.lst [V.int 0])) g (HO.lst ((rs ++ rs).map V.int)) g = some (.lst ((rs ++ rs).map V.int)) := upd_same
    have sm0 : Same H (upd (upd H p (HO.lst [V.int 0])) g (HO.lst ((rs ++ rs).map V.int))) := (Same.upd hp).trans (Same.upd hg)
    have hlen : (rs ++ rs).length ≤ 400 := by rw [List.length_append]; omega
    generalize upd (upd H p (HO.lst [V.int 0])) g (HO.lst ((rs ++ rs).map V.int)) = H4 at *
    refine FoW.list (xs := (rs ++ rs).map V.int) (fun i σ H' => ∃ o, σ = [some (.ref r), some (.ref t), some (.int rs.length), some (.ref p), o, none, none] ∧ H' = upd H4 p (.lst ((heads (rs ++ rs) i).map V.int))) ⟨_, rfl, (upd_id hpt).symm⟩ ?_ ?_ ?_
    · rintro i σ H' _ ⟨o, _, rfl⟩
      exact SqL.of ((upd_ne npg.symm).trans htt)
    · rintro i x σ H' hi ⟨o, rfl, rfl⟩
      obtain ⟨c, hc, rfl⟩ := int_at' hi
      have hi' : i < (rs ++ rs).length := (List.getElem?_eq_some_iff.mp hc).1
      walk_at "rd"
      refine ⟨.inl ⟨rfl, _, SqL.of upd_same⟩, p, _, -1, _, rfl, rfl, SqL.of upd_same, heads_last _ i, _, rfl, _, upd_same, by rw [List.length_map, heads_len]; exact Nat.lt_of_lt_of_le (m := 402) (by omega) (by decide), ?_⟩
      rw [upd_upd, heads_next hc]
    rintro σ H' ⟨o, rfl, rfl⟩
    rw [List.length_map]
    have h3 : upd H4 p (.lst ((heads (rs ++ rs) (rs ++ rs).length).map V.int)) p = _ := upd_same
    have sm5 := sm0.upd_of (o := HO.lst ((heads (rs ++ rs) (rs ++ rs).length).map V.int)) hp
    have ht5 := sm5 _ _ ht
    generalize upd H4 p (.lst ((heads (rs ++ rs) (rs ++ rs).length).map V.int)) = H5 at *
    walk_at "rd"
    refine ⟨t, _, 0, _, rfl, rfl, SqT.of ht5, atI_nat (j := 0) rfl, _, rfl, by decide, by decide, by omega, by omega, FoW.range (fun i σ H' => ∃ o4 o5 o6 : Option V, σ = [some (.ref r), some (.ref t), some (.int rs.length), some (.ref p), o4, o5, o6] ∧ Same H5 H') ⟨_, _, _, rfl, Same.refl _⟩ ?_ ?_⟩
    · rintro i σ H' hi ⟨o4, o5, o6, rfl, s6⟩
      have hi' : 1 + i < w := by omega
      walk_at "rd"
      have z : 0 < (cnts rs (1 + i)).length := by rw [cnts_len]; omega
      refine ⟨rs, rfl, 1 + i, by omega, s6 _ _ h3, R, by omega, fun l hl => ⟨_, SqL.of upd_same, z, fun M1 a1 a2 => ⟨_, SqL.of upd_same, z, fun m1 b1 b2 => ?_⟩⟩⟩
      obtain ⟨i1, hi1, e1⟩ := mem_at a1
      obtain ⟨j1, hj1, e2⟩ := mem_at b1
      have := G.ev (1 + i) hi' i1 j1 hi1 hj1
      rw [if_neg (by omega)]
      exact s6.trans (Same.upd hl)
    · rintro σ H' ⟨o4, o5, o6, rfl, s6⟩
      have ht6 := s6 _ _ ht5
      walk_at "rd"
      have z : 0 < (cnts rs w).length := by rw [cnts_len]; omega
      refine ⟨t, _, 0, _, rfl, rfl, SqT.of ht6, atI_nat (j := 0) rfl, rs, rfl, w, rfl, s6 _ _ h3, R, by omega, fun l hl => ⟨_, SqL.of upd_same, z, fun M1 a1 a2 => ⟨_, SqL.of upd_same, z, fun m1 b1 b2 => ?_⟩⟩⟩
      have eM : M1 = M := Int.le_antisymm (G.M2 _ a1) (a2 _ G.M1)
      have em : m1 = m := Int.le_antisymm (b2 _ G.m1) (G.m2 _ b1)
      subst eM em
      rw [if_neg (fun h => h two)]
      have s7 := s6.trans (Same.upd (o := HO.lst ((cnts rs w).map V.int)) hl)
      have hl7 : upd H' l (HO.lst ((cnts rs w).map V.int)) l = _ := upd_same
      have ht7 := s7 _ _ ht5
      have z9 : (cnts rs w).length ≤ 1000 := by rw [cnts_len]; omega
      generalize upd H' l (HO.lst ((cnts rs w).map V.int)) = H7 at *
      refine ⟨t, _, 1, _, rfl, rfl, SqT.of ht7, atI_nat (j := 1) rfl, .inl ⟨rfl, _, SqL.of hl7⟩, _, SqL.of hl7, z, fun M2 c1 c2 => ⟨_, SqL.of hl7, c1, z9, rfl, ?_⟩⟩
      have eM : M2 = M1 := Int.le_antisymm (a2 _ c1) (c2 _ a1)
      subst eM
      rw [if_pos rfl]
      refine ⟨t, _, 2, _, rfl, rfl, SqT.of ht7, atI_nat (j := 2) rfl, .inl ⟨rfl, _, SqL.of hl7⟩, _, SqL.of hl7, z, fun m2 d1 d2 => ⟨_, SqL.of hl7, d1, z9, rfl, ?_⟩⟩
      have em : m2 = m1 := Int.le_antisymm (d2 _ b1) (b2 _ d1)
      subst em
      rw [decide_eq_true rfl]
      exact q _ (sm5.trans s7)
theorem sc__law_refused : FnScope ["_law_row_here", "_law_found", "_law_handed", "_law_error", "e"] ["_law_row_here", "_law_found"] (defScope s__law_refused) := ⟨rfl, rfl, rfl, by decide +kernel, rfl, by decide +kernel, by decide +kernel⟩

set_option maxHeartbeats 4000000 in
theorem ok__law_refused (T : Txt K mg a) : FnOk P w K mg base (CXW P w) 6 a._law_refused a.fd__law_refused ["_law_row_here", "_law_found"] (spLFault) := by
  refine T.f__law_refused.ok0 sc__law_refused (fun vs H Q E h => ?_) (fun cdv A outer s H vs Q E hr h => ?_)
  · obtain ⟨r, t, rs, w, M, m, rfl, hr0, R, G, ht, q⟩ := h
    rfl
  · obtain ⟨r, t, rs, w, M, m, rfl, hr0, R, G, ht, q⟩ := h
    refine ⟨_, (pss_cons (ps_set (i := 2) sc__law_refused.nd rfl (by first | exact Or.inl rfl | exact Or.inr rfl) (pe_callTy call_list_of rfl T.n_list (by decide +kernel) (pa_cons (pv 0) pa_nil)))
      (pss_cons (ps_set (i := 3) sc__law_refused.nd rfl (by first | exact Or.inl rfl | exact Or.inr rfl) pe_non)
      (pss_cons (ps_try ⟨rfl, rfl, rfl⟩ (pex_call (ok_start T) (hr.mono (by decide)) rfl T.m_start T.k_start T.b_start .nil (pa_cons (pv 2) pa_nil)) T.x_BeatError rfl sc__law_refused.nd (i := 4) rfl rfl (fun _ => (pss_one (ps_set (i := 3) sc__law_refused.nd rfl (by first | exact Or.inl rfl | exact Or.inr rfl) (pv 4)))))
      (pss_cons (ps_if (PW.pt (pw_or (pt_not (pt_val (pe_callB call_isi rfl T.n_isinstance (by decide +kernel) (pa_cons (pv 3) (pa_cons (pe_glob (v := .ref a.Uneven) rfl T.m_Uneven rfl) pa_nil))))) (pw_or1 (pt_not (pt_val (pe_callB call_isi rfl T.n_isinstance (by decide +kernel) (pa_cons (pv 3) (pa_cons (pe_bltn (v := .ty "ValueError") rfl T.n_ValueError (show bootBuiltins "ValueError" = some (.type "ValueError") by decide +kernel) rfl) pa_nil)))))))) (pss_one (ps_ret pe_bl)) pss_nil)
      (pss_cons (ps_if (PW.pt (pw_or (pt_val (pe_callB call_isi rfl T.n_isinstance (by decide +kernel) (pa_cons (pv 3) (pa_cons (pe_glob (v := .ref a.NoRow) rfl T.m_NoRow rfl) pa_nil)))) (pw_or (pt_val (pe_callB call_isi rfl T.n_isinstance (by decide +kernel) (pa_cons (pv 3) (pa_cons (pe_glob (v := .ref a.NoStroke) rfl T.m_NoStroke rfl) pa_nil)))) (pw_or1 (pt_val (pe_callB call_isi rfl T.n_isinstance (by decide +kernel) (pa_cons (pv 3) (pa_cons (pe_glob (v := .ref a.NoWheel) rfl T.m_NoWheel rfl) pa_nil)))))))) (pss_one (ps_ret pe_bl)) pss_nil)
      (pss_one (ps_ret (pe_and (pe_call (ok__law_alike T) (hr.mono (by decide)) rfl T.m__law_alike T.k__law_alike T.b__law_alike .nil pass00 (pa_cons (pe_lst (pa_cons (pe_xfld (pv 3) rfl) (pa_cons (pe_xfld (pv 3) rfl) (pa_cons (pe_xfld (pv 3) rfl) pa_nil)))) (pa_cons (pe_callTy call_list_of rfl T.n_list (by decide +kernel) (pa_cons (pv 1) pa_nil)) pa_nil))) (pe_one (pe_call (ok__law_alike T) (hr.mono (by decide)) rfl T.m__law_alike T.k__law_alike T.b__law_alike .nil pass00 (pa_cons (pv 2) (pa_cons (pv 0) pa_nil)))))))))))), ?_⟩
    walk_at "rd"
    refine ⟨_, .inl (SqL.of hr0), fun l hl => ?_⟩
    have s1 := Same.upd (o := HO.lst (rs.map V.int)) hl
    have hl1 : upd H l (HO.lst (rs.map V.int)) l = _ := upd_same
    have hr1 := s1 _ _ hr0
    have ht1 := s1 _ _ ht
    generalize upd H l (HO.lst (rs.map V.int)) = H1 at *
    unfold tTry
    walk_at "rd"
    refine ⟨rs, hl1, R, fun ev => (G.not ev).elim, fun w' M' m' G' H2 d s2 d0 hd => ?_⟩
    obtain ⟨e1, e2, e3⟩ := G.unique G'
    subst e1 e2 e3
    refine ⟨a.Uneven, rfl, T.s_Uneven, fun x hx => ?_⟩
    have s3 := Same.upd (o := excO x a.Uneven (some d) false) hx
    have hx3 : upd H2 x (excO x a.Uneven (some d) false) x = _ := upd_same
    have hd3 := s3 _ _ hd
    have hl3 := s3 _ _ (s2 _ _ hl1)
    have hr3 := s3 _ _ (s2 _ _ hr1)
    have ht3 := s3 _ _ (s2 _ _ ht1)
    have sm3 := (s1.trans s2).trans s3
    generalize upd H2 x (excO x a.Uneven (some d) false) = H3 at *
    refine ⟨_, _, .ref a.Uneven, .ref a.Uneven, true, rfl, .exc hx3 T.o_Uneven, rfl, T.i_U, true, rfl, ?_⟩
    rw [if_neg (by decide)]
    refine ⟨_, _, .type "ValueError", .ref a.Uneven, true, rfl, .exc hx3 T.o_Uneven, rfl, T.i_U_VE, true, rfl, ?_⟩
    rw [if_neg (by decide)]
    refine ⟨_, _, .ref a.NoRow, .ref a.Uneven, false, rfl, .exc hx3 T.o_Uneven, rfl, T.i_U_R, false, rfl, ?_⟩
    rw [if_neg (by decide)]
    refine ⟨_, _, .ref a.NoStroke, .ref a.Uneven, false, rfl, .exc hx3 T.o_Uneven, rfl, T.i_U_S, false, rfl, ?_⟩
    rw [if_neg (by decide)]
    refine ⟨_, _, .ref a.NoWheel, .ref a.Uneven, false, rfl, .exc hx3 T.o_Uneven, rfl, T.i_U_W, false, rfl, ?_⟩
    rw [if_neg (by decide)]
    refine ⟨a.Uneven, a.BeatError, d, false, hx3, _, hd3, T.i_Uneven.fld, T.na_Uneven_width, _, rfl, ?_⟩
    refine ⟨a.Uneven, a.BeatError, d, false, hx3, _, hd3, T.i_Uneven.fld, T.na_Uneven_most, _, rfl, ?_⟩
    refine ⟨a.Uneven, a.BeatError, d, false, hx3, _, hd3, T.i_Uneven.fld, T.na_Uneven_least, _, rfl, by decide, fun p hp => ?_⟩
    have s4 := Same.upd (o := HO.lst [V.int (w' : Int), V.int ((cnts rs w').idxOf M' : Int), V.int ((cnts rs w').idxOf m' : Int)]) hp
    refine ⟨_, .inr (SqT.of (s4 _ _ ht3)), fun g hg => ?_⟩
    have s5 := Same.upd (o := HO.lst [V.int (w' : Int), V.int ((cnts rs w').idxOf M' : Int), V.int ((cnts rs w').idxOf m' : Int)]) hg
    refine ⟨[(w' : Int), ((cnts rs w').idxOf M' : Int), ((cnts rs w').idxOf m' : Int)], s5 _ _ upd_same, upd_same, fun H' s6 => ?_⟩
    have s7 := (s4.trans s5).trans s6
    exact ⟨rs, s7 _ _ hl3, s7 _ _ hr3, fun H'' s8 => q _ ((sm3.trans s7).trans s8)⟩
theorem sc__law_own : FnScope ["_law_cell", "_law_three", "_law_error"] ["_law_cell"] (defScope s__law_own) := ⟨rfl, rfl, rfl, by decide +kernel, rfl, by decide +kernel, by decide +kernel⟩

set_option maxHeartbeats 4000000 in
theorem ok__law_own (T : Txt K mg a) : FnOk P w K mg base (CXW P w) 3 a._law_own a.fd__law_own ["_law_cell"] (spOwn) := by
  refine T.f__law_own.ok0 sc__law_own (fun vs H Q E h => ?_) (fun cdv A outer s H vs Q E hr h => ?_)
  · obtain ⟨c, rfl, q⟩ := h
    rfl
  · obtain ⟨c, rfl, q⟩ := h
    refine ⟨_, (pss_cons (ps_set (i := 1) sc__law_own.nd rfl (by first | exact Or.inl rfl | exact Or.inr rfl) (pe_lst (pa_cons (pe_op op_mod (pv 0) pe_int) (pa_cons (pe_op op_add (pe_op op_mod (pv 0) (pe_op op_pow pe_int pe_int)) pe_int) (pa_cons (pe_op op_add (pe_op op_pow pe_int pe_int) (pe_op op_mod (pv 0) pe_int)) pa_nil)))))
      (pss_cons (ps_set (i := 2) sc__law_own.nd rfl (by first | exact Or.inl rfl | exact Or.inr rfl) (pe_makeX T.i_Uneven (ok_Uneven___init__ T) (hr.mono (by decide)) rfl T.b_Uneven___init__ .nil pass00 (pa_cons (pe_ix ix_list (pv 1) pe_int (fun _ _ => rfl)) (pa_cons (pe_ix ix_list (pv 1) pe_int (fun _ _ => rfl)) (pa_cons (pe_ix ix_list (pv 1) pe_int (fun _ _ => rfl)) pa_nil)))))
      (pss_one (ps_ret (pe_and (pe_callB call_isi rfl T.n_isinstance (by decide +kernel) (pa_cons (pv 2) (pa_cons (pe_glob (v := .ref a.BeatError) rfl T.m_BeatError rfl) pa_nil))) (pe_one (pe_call (ok__law_alike T) (hr.mono (by decide)) rfl T.m__law_alike T.k__law_alike T.b__law_alike .nil pass00 (pa_cons (pe_lst (pa_cons (pe_xfld (pv 2) rfl) (pa_cons (pe_xfld (pv 2) rfl) (pa_cons (pe_xfld (pv 2) rfl) pa_nil)))) (pa_cons (pv 1) pa_nil))))))))), ?_⟩
    walk_at "rd"
    refine ⟨by decide, ⟨by decide, by decide, by decide⟩, by decide, ⟨by decide, by decide, by decide⟩, by decide, by decide, ?_⟩
    generalize c % 7919 = c0
    generalize c % 10 ^ Int.toNat 18 + 8000 = c1
    generalize 10 ^ Int.toNat 19 + c % 104729 = c2
    intro p hp
    refine ⟨p, _, 0, _, rfl, rfl, SqL.of upd_same, atI_nat (j := 0) rfl, p, _, 1, _, rfl, rfl, SqL.of upd_same, atI_nat (j := 1) rfl, p, _, 2, _, rfl, rfl, SqL.of upd_same, atI_nat (j := 2) rfl, by decide, fun x hx => ⟨_, rfl, _, rfl, _, rfl, upd_same, fun d hd hne => ?_⟩⟩
    rw [upd_upd]
    have s1 := Same.upd (o := HO.lst [V.int c0, V.int c1, V.int c2]) hp
    have hp1 : upd H p (HO.lst [V.int c0, V.int c1, V.int c2]) p = _ := upd_same
    generalize upd H p (HO.lst [V.int c0, V.int c1, V.int c2]) = H1 at *
    have hd0 : H1 d = none := by rw [upd_ne hne] at hd; exact hd
    have hx1 : upd (upd H1 x (excO x a.Uneven (some d) true)) d (xdO d (fds c0 c1 c2)) x = some (excO x a.Uneven (some d) true) := (upd_ne hne.symm).trans upd_same
    have hd1 : upd (upd H1 x (excO x a.Uneven (some d) true)) d (xdO d (fds c0 c1 c2)) d = _ := upd_same
    have s2 : Same H1 (upd (upd H1 x (excO x a.Uneven (some d) true)) d (xdO d (fds c0 c1 c2))) := fun b o e => by
      rw [upd_ne (ne_of_none e hd0), upd_ne (ne_of_none e hx)]; exact e
    generalize upd (upd H1 x (excO x a.Uneven (some d) true)) d (xdO d (fds c0 c1 c2)) = H2 at *
    refine ⟨_, _, .ref a.BeatError, .ref a.Uneven, true, rfl, .exc hx1 T.o_Uneven, rfl, T.i_U_B, true, rfl, ?_⟩
    rw [if_pos rfl]
    refine ⟨a.Uneven, a.BeatError, d, true, hx1, _, hd1, T.i_Uneven.fld, T.na_Uneven_width, _, rfl, ?_⟩
    refine ⟨a.Uneven, a.BeatError, d, true, hx1, _, hd1, T.i_Uneven.fld, T.na_Uneven_most, _, rfl, ?_⟩
    refine ⟨a.Uneven, a.BeatError, d, true, hx1, _, hd1, T.i_Uneven.fld, T.na_Uneven_least, _, rfl, ?_⟩
    refine ⟨by decide, fun g hg => ?_⟩
    have s3 := Same.upd (o := HO.lst [V.int c0, V.int c1, V.int c2]) hg
    refine ⟨[c0, c1, c2], upd_same, s3 _ _ (s2 _ _ hp1), fun H' s4 => q _ (((s1.trans s2).trans s3).trans s4)⟩
theorem sc_law : FnScope ["_law_script", "_law_row_here", "_law_handed", "_law_found", "_law_one"] ["_law_script"] (defScope s_law) := ⟨rfl, rfl, rfl, by decide +kernel, rfl, by decide +kernel, by decide +kernel⟩

set_option maxHeartbeats 4000000 in
theorem ok_law (T : Txt K mg a) : FnOk P w K mg base (CXW P w) 7 a.law a.fd_law ["_law_script"] (spLaw K) := by
  refine T.f_law.ok0 sc_law (fun vs H Q E h => ?_) (fun cdv A outer s H vs Q E hr h => ?_)
  · obtain ⟨l, ns, rfl, hl, hn, q⟩ := h
    rfl
  · obtain ⟨l, ns, rfl, hl, hn, q⟩ := h
    refine ⟨_, (pss_cons (ps_set (i := 1) sc_law.nd rfl (by first | exact Or.inl rfl | exact Or.inr rfl) (pe_call (ok__law_row T) (hr.mono (by decide)) rfl T.m__law_row T.k__law_row T.b__law_row .nil pass00 (pa_cons (pv 0) pa_nil)))
      (pss_cons (ps_set (i := 2) sc_law.nd rfl (by first | exact Or.inl rfl | exact Or.inr rfl) (pe_callTy call_list_of rfl T.n_list (by decide +kernel) (pa_cons (pv 1) pa_nil)))
      (pss_cons (ps_if (pt_not (pt_val (pe_call (ok__law_own T) (hr.mono (by decide)) rfl T.m__law_own T.k__law_own T.b__law_own .nil pass00 (pa_cons (pe_call (ok__law_cell_at T) (hr.mono (by decide)) rfl T.m__law_cell_at T.k__law_cell_at T.b__law_cell_at .nil pass00 (pa_cons (pv 0) (pa_cons pe_int pa_nil))) pa_nil)))) (pss_one (ps_ret pe_bl)) pss_nil)
      (pss_cons (ps_set (i := 3) sc_law.nd rfl (by first | exact Or.inl rfl | exact Or.inr rfl) (pe_call (ok_fault T) (hr.mono (by decide)) rfl T.m_fault T.k_fault T.b_fault .nil pass00 (pa_cons (pv 2) pa_nil)))
      (pss_cons (ps_if (pt_not (pt_val (pe_call (ok__law_alike T) (hr.mono (by decide)) rfl T.m__law_alike T.k__law_alike T.b__law_alike .nil pass00 (pa_cons (pv 2) (pa_cons (pv 1) pa_nil))))) (pss_one (ps_ret pe_bl)) pss_nil)
      (pss_cons (ps_if (pt_cmpR op_isN (pv 3) pe_non (nomark _)) (pss_one (ps_ret (pe_call (ok__law_even T) (hr.mono (by decide)) rfl T.m__law_even T.k__law_even T.b__law_even .nil pass00 (pa_cons (pv 1) pa_nil)))) pss_nil)
      (pss_cons (ps_if (PW.pt (pw_or (pt_not (pt_val (pe_callB call_isi rfl T.n_isinstance (by decide +kernel) (pa_cons (pv 3) (pa_cons (pe_bltn (v := .ty "tuple") rfl T.n_tuple (show bootBuiltins "tuple" = some (.type "tuple") by decide +kernel) rfl) pa_nil))))) (pw_or1 (pt_cmpR op_ne (pe_callB call_len_seq rfl T.n_len (by decide +kernel) (pa_cons (pv 3) pa_nil)) pe_int (nomark _))))) (pss_one (ps_ret pe_bl)) pss_nil)
      (pss_cons (ps_forW PassesOwn.never rfl (pi_tup (pv 3)) (pg_name (i := 4) sc_law.nd rfl (Or.inl rfl)) (pss_one (ps_if (pt_not (pt_val (pe_call (ok__law_whole T) (hr.mono (by decide)) rfl T.m__law_whole T.k__law_whole T.b__law_whole .nil pass00 (pa_cons (pv 4) pa_nil)))) (pss_one (ps_ret pe_bl)) pss_nil)))
      (pss_one (ps_ret (pe_and (pe_call (ok__law_fault T) (hr.mono (by decide)) rfl T.m__law_fault T.k__law_fault T.b__law_fault .nil pass00 (pa_cons (pv 1) (pa_cons (pv 3) pa_nil))) (pe_one (pe_call (ok__law_refused T) (hr.mono (by decide)) rfl T.m__law_refused T.k__law_refused T.b__law_refused .nil pass00 (pa_cons (pv 1) (pa_cons (pv 3) pa_nil))))))))))))))), ?_⟩
    walk_at "rd"
    refine ⟨ns, hl, hn, fun H1 r rs s1 r0 hr R => ⟨_, .inl (SqL.of hr), fun h hh => ?_⟩⟩
    have s2 := Same.upd (o := HO.lst (rs.map V.int)) hh
    have hh2 : upd H1 h (HO.lst (rs.map V.int)) h = _ := upd_same
    have hr2 := s2 _ _ hr
    have hl2 := (s1.trans s2).seq hl
    generalize upd H1 h (HO.lst (rs.map V.int)) = H2 at *
    refine ⟨ns, hl2, hn, by decide, fun H3 s3 => ?_⟩
    have hh3 := s3 _ _ hh2
    have hr3 := s3 _ _ hr2
    refine ⟨rs, hh3, R.n1, R.n2, fun ev H4 s4 => ?_, fun w M m hw ev M1 M2 m1 m2 hg H4 t s4 t0 ht => ?_⟩
    · exact ⟨rs, s4 _ _ hh3, s4 _ _ hr3, fun H5 s5 => ⟨rs, s5 _ _ (s4 _ _ hr3), R, ev, fun _ _ => q _⟩⟩
    refine ⟨rs, s4 _ _ hh3, s4 _ _ hr3, fun H5 s5 => ?_⟩
    have ht5 := s5 _ _ ht
    have hr5 := s5 _ _ (s4 _ _ hr3)
    refine ⟨_, _, .type "tuple", .type "tuple", true, rfl, .of (.tup ht5), rfl, T.i_tt, true, rfl, ?_⟩
    rw [if_neg (by decide)]
    refine ⟨_, .inr (SqT.of ht5), ?_⟩
    rw [if_neg (fun h => h rfl)]
    have G : Gap rs w M m := ⟨hw, ev, M1, M2, m1, m2, hg⟩
    generalize hi1 : ((cnts rs w).idxOf M : Int) = i1 at *
    generalize hi2 : ((cnts rs w).idxOf m : Int) = i2 at *
    refine ⟨⟨_, SqT.of ht5⟩, FoW.tup (xs := [(w : Int), i1, i2].map V.int) (fun i σ H' => ∃ o, σ = [some (.ref l), some (.ref r), some (.ref h), some (.ref t), o] ∧ Same H5 H') ⟨_, rfl, Same.refl _⟩ (fun i σ H' _ ⟨_, _, s6⟩ => SqT.of (s6 _ _ ht5)) ?_ ?_⟩
    · rintro i x σ H' hi ⟨o, rfl, s6⟩
      obtain ⟨c, hc, rfl⟩ := int_at' hi
      walk_at "rd"
      exact s6
    · rintro σ H' ⟨o, rfl, s6⟩
      walk_at "rd"
      subst hi1 hi2
      exact ⟨rs, s6 _ _ hr5, R, w, M, m, G, s6 _ _ ht5, fun H7 s7 => ⟨rs, s7 _ _ (s6 _ _ hr5), R, w, M, m, G, s7 _ _ (s6 _ _ ht5), fun _ _ => q _⟩⟩
end
theorem all_mk {P : Program} {w : World} {K : PySem.W.Frag} {h : Heap} {mg : Str → Option Value} {fa : Addr} (X : K.In h) (G : h.Ns mainGlobals mg) (hfa : mg "law" = some (.ref fa))
    {C_BeatError : Addr}
    {C_NoWheel : Addr}
    {C_NoStroke : Addr}
    {C_NoRow : Addr}
    {C_Uneven : Addr}
    {F_Uneven___init__ : Addr} {od_Uneven___init__ an_Uneven___init__ : Option Addr} {sl_Uneven___init__ : Array (Option Value)} {oc_Uneven___init__ kv_Uneven___init__ dc_Uneven___init__ pm_Uneven___init__ cd_Uneven___init__ ct_Uneven___init__ : Value}
    {F_check_wheel : Addr} {od_check_wheel an_check_wheel : Option Addr} {sl_check_wheel : Array (Option Value)} {oc_check_wheel kv_check_wheel dc_check_wheel pm_check_wheel cd_check_wheel ct_check_wheel : Value}
    {F_ahead : Addr} {od_ahead an_ahead : Option Addr} {sl_ahead : Array (Option Value)} {oc_ahead kv_ahead dc_ahead pm_ahead cd_ahead ct_ahead : Value}
    {F_has_stroke : Addr} {od_has_stroke an_has_stroke : Option Addr} {sl_has_stroke : Array (Option Value)} {oc_has_stroke kv_has_stroke dc_has_stroke pm_has_stroke cd_has_stroke ct_has_stroke : Value}
    {F_whole_round : Addr} {od_whole_round an_whole_round : Option Addr} {sl_whole_round : Array (Option Value)} {oc_whole_round kv_whole_round dc_whole_round pm_whole_round cd_whole_round ct_whole_round : Value}
    {F_counts : Addr} {od_counts an_counts : Option Addr} {sl_counts : Array (Option Value)} {oc_counts kv_counts dc_counts pm_counts cd_counts ct_counts : Value}
    {F_fault : Addr} {od_fault an_fault : Option Addr} {sl_fault : Array (Option Value)} {oc_fault kv_fault dc_fault pm_fault cd_fault ct_fault : Value}
    {F_turned : Addr} {od_turned an_turned : Option Addr} {sl_turned : Array (Option Value)} {oc_turned kv_turned dc_turned pm_turned cd_turned ct_turned : Value}
    {D_turned : Addr} {Dc_turned : Value} {Dd_turned : Option Addr} {Dt_turned : Tok} {Dn_turned : Nat} {Ds_turned : Array (Option Value)}
    {F_start : Addr} {od_start an_start : Option Addr} {sl_start : Array (Option Value)} {oc_start kv_start dc_start pm_start cd_start ct_start : Value}
    {F__law_cell_at : Addr} {od__law_cell_at an__law_cell_at : Option Addr} {sl__law_cell_at : Array (Option Value)} {oc__law_cell_at kv__law_cell_at dc__law_cell_at pm__law_cell_at cd__law_cell_at ct__law_cell_at : Value}
    {F__law_whole : Addr} {od__law_whole an__law_whole : Option Addr} {sl__law_whole : Array (Option Value)} {oc__law_whole kv__law_whole dc__law_whole pm__law_whole cd__law_whole ct__law_whole : Value}
    {F__law_alike : Addr} {od__law_alike an__law_alike : Option Addr} {sl__law_alike : Array (Option Value)} {oc__law_alike kv__law_alike dc__law_alike pm__law_alike cd__law_alike ct__law_alike : Value}
    {F__law_sums_row : Addr} {od__law_sums_row an__law_sums_row : Option Addr} {sl__law_sums_row : Array (Option Value)} {oc__law_sums_row kv__law_sums_row dc__law_sums_row pm__law_sums_row cd__law_sums_row ct__law_sums_row : Value}
    {F__law_changed : Addr} {od__law_changed an__law_changed : Option Addr} {sl__law_changed : Array (Option Value)} {oc__law_changed kv__law_changed dc__law_changed pm__law_changed cd__law_changed ct__law_changed : Value}
    {F__law_made : Addr} {od__law_made an__law_made : Option Addr} {sl__law_made : Array (Option Value)} {oc__law_made kv__law_made dc__law_made pm__law_made cd__law_made ct__law_made : Value}
    {F__law_row : Addr} {od__law_row an__law_row : Option Addr} {sl__law_row : Array (Option Value)} {oc__law_row kv__law_row dc__law_row pm__law_row cd__law_row ct__law_row : Value}
    {F__law_even : Addr} {od__law_even an__law_even : Option Addr} {sl__law_even : Array (Option Value)} {oc__law_even kv__law_even dc__law_even pm__law_even cd__law_even ct__law_even : Value}
    {F__law_counts : Addr} {od__law_counts an__law_counts : Option Addr} {sl__law_counts : Array (Option Value)} {oc__law_counts kv__law_counts dc__law_counts pm__law_counts cd__law_counts ct__law_counts : Value}
    {F__law_fault : Addr} {od__law_fault an__law_fault : Option Addr} {sl__law_fault : Array (Option Value)} {oc__law_fault kv__law_fault dc__law_fault pm__law_fault cd__law_fault ct__law_fault : Value}
    {F__law_refused : Addr} {od__law_refused an__law_refused : Option Addr} {sl__law_refused : Array (Option Value)} {oc__law_refused kv__law_refused dc__law_refused pm__law_refused cd__law_refused ct__law_refused : Value}
    {F__law_own : Addr} {od__law_own an__law_own : Option Addr} {sl__law_own : Array (Option Value)} {oc__law_own kv__law_own dc__law_own pm__law_own cd__law_own ct__law_own : Value}
    {F_law : Addr} {od_law an_law : Option Addr} {sl_law : Array (Option Value)} {oc_law kv_law dc_law pm_law cd_law ct_law : Value}
    {dd_Uneven : Option Addr} {cd_Uneven : ClassData} {k0_Uneven k1_Uneven k2_Uneven k3_Uneven k5_Uneven : Option Value}
    (a_BeatError : PySem.W.nsIn K mainGlobals "BeatError" = some (some (.ref C_BeatError)))
    (a_NoWheel : PySem.W.nsIn K mainGlobals "NoWheel" = some (some (.ref C_NoWheel)))
    (a_NoStroke : PySem.W.nsIn K mainGlobals "NoStroke" = some (some (.ref C_NoStroke)))
    (a_NoRow : PySem.W.nsIn K mainGlobals "NoRow" = some (some (.ref C_NoRow)))
    (a_Uneven : PySem.W.nsIn K mainGlobals "Uneven" = some (some (.ref C_Uneven)))
    (a_Uneven___init__ : PySem.W.findIn K (.ref C_Uneven) "__init__" = some (some (.ref F_Uneven___init__)))
    (w_Uneven___init__ : PySem.W.isFn K (.ref F_Uneven___init__) = true)
    (l_Uneven___init__ : K.lookup F_Uneven___init__ = some ⟨oc_Uneven___init__, od_Uneven___init__, .func (PySem.W.fnOf "__init__" "Uneven.__init__" (defArgs s_Uneven___init__) (defBody s_Uneven___init__) (defScope s_Uneven___init__) .none kv_Uneven___init__ dc_Uneven___init__ pm_Uneven___init__ an_Uneven___init__ cd_Uneven___init__ ct_Uneven___init__), sl_Uneven___init__⟩)
    (c_Uneven___init__ : PySem.W.codeIn K cd_Uneven___init__ "Uneven.__init__" = true)
    (k_Uneven___init__ : PySem.W.keepIn K (.ref F_Uneven___init__) = true)
    (a_check_wheel : PySem.W.nsIn K mainGlobals "check_wheel" = some (some (.ref F_check_wheel)))
    (l_check_wheel : K.lookup F_check_wheel = some ⟨oc_check_wheel, od_check_wheel, .func (PySem.W.fnOf "check_wheel" "check_wheel" (defArgs s_check_wheel) (defBody s_check_wheel) (defScope s_check_wheel) .none kv_check_wheel dc_check_wheel pm_check_wheel an_check_wheel cd_check_wheel ct_check_wheel), sl_check_wheel⟩)
    (c_check_wheel : PySem.W.codeIn K cd_check_wheel "check_wheel" = true)
    (k_check_wheel : PySem.W.keepIn K (.ref F_check_wheel) = true)
    (a_ahead : PySem.W.nsIn K mainGlobals "ahead" = some (some (.ref F_ahead)))
    (l_ahead : K.lookup F_ahead = some ⟨oc_ahead, od_ahead, .func (PySem.W.fnOf "ahead" "ahead" (defArgs s_ahead) (defBody s_ahead) (defScope s_ahead) .none kv_ahead dc_ahead pm_ahead an_ahead cd_ahead ct_ahead), sl_ahead⟩)
    (c_ahead : PySem.W.codeIn K cd_ahead "ahead" = true)
    (k_ahead : PySem.W.keepIn K (.ref F_ahead) = true)
    (a_has_stroke : PySem.W.nsIn K mainGlobals "has_stroke" = some (some (.ref F_has_stroke)))
    (l_has_stroke : K.lookup F_has_stroke = some ⟨oc_has_stroke, od_has_stroke, .func (PySem.W.fnOf "has_stroke" "has_stroke" (defArgs s_has_stroke) (defBody s_has_stroke) (defScope s_has_stroke) .none kv_has_stroke dc_has_stroke pm_has_stroke an_has_stroke cd_has_stroke ct_has_stroke), sl_has_stroke⟩)
    (c_has_stroke : PySem.W.codeIn K cd_has_stroke "has_stroke" = true)
    (k_has_stroke : PySem.W.keepIn K (.ref F_has_stroke) = true)
    (a_whole_round : PySem.W.nsIn K mainGlobals "whole_round" = some (some (.ref F_whole_round)))
    (l_whole_round : K.lookup F_whole_round = some ⟨oc_whole_round, od_whole_round, .func (PySem.W.fnOf "whole_round" "whole_round" (defArgs s_whole_round) (defBody s_whole_round) (defScope s_whole_round) .none kv_whole_round dc_whole_round pm_whole_round an_whole_round cd_whole_round ct_whole_round), sl_whole_round⟩)
    (c_whole_round : PySem.W.codeIn K cd_whole_round "whole_round" = true)
    (k_whole_round : PySem.W.keepIn K (.ref F_whole_round) = true)
    (a_counts : PySem.W.nsIn K mainGlobals "counts" = some (some (.ref F_counts)))
    (l_counts : K.lookup F_counts = some ⟨oc_counts, od_counts, .func (PySem.W.fnOf "counts" "counts" (defArgs s_counts) (defBody s_counts) (defScope s_counts) .none kv_counts dc_counts pm_counts an_counts cd_counts ct_counts), sl_counts⟩)
    (c_counts : PySem.W.codeIn K cd_counts "counts" = true)
    (k_counts : PySem.W.keepIn K (.ref F_counts) = true)
    (a_fault : PySem.W.nsIn K mainGlobals "fault" = some (some (.ref F_fault)))
    (l_fault : K.lookup F_fault = some ⟨oc_fault, od_fault, .func (PySem.W.fnOf "fault" "fault" (defArgs s_fault) (defBody s_fault) (defScope s_fault) .none kv_fault dc_fault pm_fault an_fault cd_fault ct_fault), sl_fault⟩)
    (c_fault : PySem.W.codeIn K cd_fault "fault" = true)
    (k_fault : PySem.W.keepIn K (.ref F_fault) = true)
    (a_turned : PySem.W.nsIn K mainGlobals "turned" = some (some (.ref F_turned)))
    (l_turned : K.lookup F_turned = some ⟨oc_turned, od_turned, .func (PySem.W.fnOf "turned" "turned" (defArgs s_turned) (defBody s_turned) (defScope s_turned) (.ref D_turned) kv_turned dc_turned pm_turned an_turned cd_turned ct_turned), sl_turned⟩)
    (d_turned : K.lookup D_turned = some ⟨Dc_turned, Dd_turned, .seq #[.int 1 Dt_turned] Dn_turned, Ds_turned⟩)
    (c_turned : PySem.W.codeIn K cd_turned "turned" = true)
    (k_turned : PySem.W.keepIn K (.ref F_turned) = true)
    (a_start : PySem.W.nsIn K mainGlobals "start" = some (some (.ref F_start)))
    (l_start : K.lookup F_start = some ⟨oc_start, od_start, .func (PySem.W.fnOf "start" "start" (defArgs s_start) (defBody s_start) (defScope s_start) .none kv_start dc_start pm_start an_start cd_start ct_start), sl_start⟩)
    (c_start : PySem.W.codeIn K cd_start "start" = true)
    (k_start : PySem.W.keepIn K (.ref F_start) = true)
    (a__law_cell_at : PySem.W.nsIn K mainGlobals "_law_cell_at" = some (some (.ref F__law_cell_at)))
    (l__law_cell_at : K.lookup F__law_cell_at = some ⟨oc__law_cell_at, od__law_cell_at, .func (PySem.W.fnOf "_law_cell_at" "_law_cell_at" (defArgs s__law_cell_at) (defBody s__law_cell_at) (defScope s__law_cell_at) .none kv__law_cell_at dc__law_cell_at pm__law_cell_at an__law_cell_at cd__law_cell_at ct__law_cell_at), sl__law_cell_at⟩)
    (c__law_cell_at : PySem.W.codeIn K cd__law_cell_at "_law_cell_at" = true)
    (k__law_cell_at : PySem.W.keepIn K (.ref F__law_cell_at) = true)
    (a__law_whole : PySem.W.nsIn K mainGlobals "_law_whole" = some (some (.ref F__law_whole)))
    (l__law_whole : K.lookup F__law_whole = some ⟨oc__law_whole, od__law_whole, .func (PySem.W.fnOf "_law_whole" "_law_whole" (defArgs s__law_whole) (defBody s__law_whole) (defScope s__law_whole) .none kv__law_whole dc__law_whole pm__law_whole an__law_whole cd__law_whole ct__law_whole), sl__law_whole⟩)
    (c__law_whole : PySem.W.codeIn K cd__law_whole "_law_whole" = true)
    (k__law_whole : PySem.W.keepIn K (.ref F__law_whole) = true)
    (a__law_alike : PySem.W.nsIn K mainGlobals "_law_alike" = some (some (.ref F__law_alike)))
    (l__law_alike : K.lookup F__law_alike = some ⟨oc__law_alike, od__law_alike, .func (PySem.W.fnOf "_law_alike" "_law_alike" (defArgs s__law_alike) (defBody s__law_alike) (defScope s__law_alike) .none kv__law_alike dc__law_alike pm__law_alike an__law_alike cd__law_alike ct__law_alike), sl__law_alike⟩)
    (c__law_alike : PySem.W.codeIn K cd__law_alike "_law_alike" = true)
    (k__law_alike : PySem.W.keepIn K (.ref F__law_alike) = true)
    (a__law_sums_row : PySem.W.nsIn K mainGlobals "_law_sums_row" = some (some (.ref F__law_sums_row)))
    (l__law_sums_row : K.lookup F__law_sums_row = some ⟨oc__law_sums_row, od__law_sums_row, .func (PySem.W.fnOf "_law_sums_row" "_law_sums_row" (defArgs s__law_sums_row) (defBody s__law_sums_row) (defScope s__law_sums_row) .none kv__law_sums_row dc__law_sums_row pm__law_sums_row an__law_sums_row cd__law_sums_row ct__law_sums_row), sl__law_sums_row⟩)
    (c__law_sums_row : PySem.W.codeIn K cd__law_sums_row "_law_sums_row" = true)
    (k__law_sums_row : PySem.W.keepIn K (.ref F__law_sums_row) = true)
    (a__law_changed : PySem.W.nsIn K mainGlobals "_law_changed" = some (some (.ref F__law_changed)))
    (l__law_changed : K.lookup F__law_changed = some ⟨oc__law_changed, od__law_changed, .func (PySem.W.fnOf "_law_changed" "_law_changed" (defArgs s__law_changed) (defBody s__law_changed) (defScope s__law_changed) .none kv__law_changed dc__law_changed pm__law_changed an__law_changed cd__law_changed ct__law_changed), sl__law_changed⟩)
    (c__law_changed : PySem.W.codeIn K cd__law_changed "_law_changed" = true)
    (k__law_changed : PySem.W.keepIn K (.ref F__law_changed) = true)
    (a__law_made : PySem.W.nsIn K mainGlobals "_law_made" = some (some (.ref F__law_made)))
    (l__law_made : K.lookup F__law_made = some ⟨oc__law_made, od__law_made, .func (PySem.W.fnOf "_law_made" "_law_made" (defArgs s__law_made) (defBody s__law_made) (defScope s__law_made) .none kv__law_made dc__law_made pm__law_made an__law_made cd__law_made ct__law_made), sl__law_made⟩)
    (c__law_made : PySem.W.codeIn K cd__law_made "_law_made" = true)
    (k__law_made : PySem.W.keepIn K (.ref F__law_made) = true)
    (a__law_row : PySem.W.nsIn K mainGlobals "_law_row" = some (some (.ref F__law_row)))
    (l__law_row : K.lookup F__law_row = some ⟨oc__law_row, od__law_row, .func (PySem.W.fnOf "_law_row" "_law_row" (defArgs s__law_row) (defBody s__law_row) (defScope s__law_row) .none kv__law_row dc__law_row pm__law_row an__law_row cd__law_row ct__law_row), sl__law_row⟩)
    (c__law_row : PySem.W.codeIn K cd__law_row "_law_row" = true)
    (k__law_row : PySem.W.keepIn K (.ref F__law_row) = true)
    (a__law_even : PySem.W.nsIn K mainGlobals "_law_even" = some (some (.ref F__law_even)))
    (l__law_even : K.lookup F__law_even = some ⟨oc__law_even, od__law_even, .func (PySem.W.fnOf "_law_even" "_law_even" (defArgs s__law_even) (defBody s__law_even) (defScope s__law_even) .none kv__law_even dc__law_even pm__law_even an__law_even cd__law_even ct__law_even), sl__law_even⟩)
    (c__law_even : PySem.W.codeIn K cd__law_even "_law_even" = true)
    (k__law_even : PySem.W.keepIn K (.ref F__law_even) = true)
    (a__law_counts : PySem.W.nsIn K mainGlobals "_law_counts" = some (some (.ref F__law_counts)))
    (l__law_counts : K.lookup F__law_counts = some ⟨oc__law_counts, od__law_counts, .func (PySem.W.fnOf "_law_counts" "_law_counts" (defArgs s__law_counts) (defBody s__law_counts) (defScope s__law_counts) .none kv__law_counts dc__law_counts pm__law_counts an__law_counts cd__law_counts ct__law_counts), sl__law_counts⟩)
    (c__law_counts : PySem.W.codeIn K cd__law_counts "_law_counts" = true)
    (k__law_counts : PySem.W.keepIn K (.ref F__law_counts) = true)
    (a__law_fault : PySem.W.nsIn K mainGlobals "_law_fault" = some (some (.ref F__law_fault)))
    (l__law_fault : K.lookup F__law_fault = some ⟨oc__law_fault, od__law_fault, .func (PySem.W.fnOf "_law_fault" "_law_fault" (defArgs s__law_fault) (defBody s__law_fault) (defScope s__law_fault) .none kv__law_fault dc__law_fault pm__law_fault an__law_fault cd__law_fault ct__law_fault), sl__law_fault⟩)
    (c__law_fault : PySem.W.codeIn K cd__law_fault "_law_fault" = true)
    (k__law_fault : PySem.W.keepIn K (.ref F__law_fault) = true)
    (a__law_refused : PySem.W.nsIn K mainGlobals "_law_refused" = some (some (.ref F__law_refused)))
    (l__law_refused : K.lookup F__law_refused = some ⟨oc__law_refused, od__law_refused, .func (PySem.W.fnOf "_law_refused" "_law_refused" (defArgs s__law_refused) (defBody s__law_refused) (defScope s__law_refused) .none kv__law_refused dc__law_refused pm__law_refused an__law_refused cd__law_refused ct__law_refused), sl__law_refused⟩)
    (c__law_refused : PySem.W.codeIn K cd__law_refused "_law_refused" = true)
    (k__law_refused : PySem.W.keepIn K (.ref F__law_refused) = true)
    (a__law_own : PySem.W.nsIn K mainGlobals "_law_own" = some (some (.ref F__law_own)))
    (l__law_own : K.lookup F__law_own = some ⟨oc__law_own, od__law_own, .func (PySem.W.fnOf "_law_own" "_law_own" (defArgs s__law_own) (defBody s__law_own) (defScope s__law_own) .none kv__law_own dc__law_own pm__law_own an__law_own cd__law_own ct__law_own), sl__law_own⟩)
    (c__law_own : PySem.W.codeIn K cd__law_own "_law_own" = true)
    (k__law_own : PySem.W.keepIn K (.ref F__law_own) = true)
    (a_law : PySem.W.nsIn K mainGlobals "law" = some (some (.ref F_law)))
    (l_law : K.lookup F_law = some ⟨oc_law, od_law, .func (PySem.W.fnOf "law" "law" (defArgs s_law) (defBody s_law) (defScope s_law) .none kv_law dc_law pm_law an_law cd_law ct_law), sl_law⟩)
    (c_law : PySem.W.codeIn K cd_law "law" = true)
    (k_law : PySem.W.keepIn K (.ref F_law) = true)
    (n_ValueError : PySem.W.nsIn K mainGlobals "ValueError" = some none)
    (n_bool : PySem.W.nsIn K mainGlobals "bool" = some none)
    (n_int : PySem.W.nsIn K mainGlobals "int" = some none)
    (n_isinstance : PySem.W.nsIn K mainGlobals "isinstance" = some none)
    (n_len : PySem.W.nsIn K mainGlobals "len" = some none)
    (n_list : PySem.W.nsIn K mainGlobals "list" = some none)
    (n_max : PySem.W.nsIn K mainGlobals "max" = some none)
    (n_min : PySem.W.nsIn K mainGlobals "min" = some none)
    (n_range : PySem.W.nsIn K mainGlobals "range" = some none)
    (n_sum : PySem.W.nsIn K mainGlobals "sum" = some none)
    (n_tuple : PySem.W.nsIn K mainGlobals "tuple" = some none)
    (n_zip : PySem.W.nsIn K mainGlobals "zip" = some none)
    (e_NoWheel : PySem.W.excIn K C_NoWheel [.type "ValueError", .type "Exception", .type "BaseException", .type "object"] "ValueError.__new__" = true)
    (g1_NoWheel : PySem.W.findIn K (.ref C_NoWheel) "__getattribute__" = some (some (.builtin "BaseException.__getattribute__")))
    (g2_NoWheel : PySem.W.findIn K (.ref C_NoWheel) "__getattr__" = some none)
    (g3_NoWheel : PySem.W.findIn K (.ref C_NoWheel) "__class__" = some (some (.builtin "object.__class__")))
    (g4_NoWheel : PySem.W.specialIn K (.builtin "object.__class__") "__get__" = some (some (.builtin "getset_descriptor.__get__")))
    (g5_NoWheel : PySem.W.takesIn K (.builtin "object.__class__") = some true)
    (g6_NoWheel : PySem.W.mroIn K C_NoWheel (.type "object") = some true)
    (g7_NoWheel : PySem.W.mroIn K C_NoWheel (.type "BaseException") = some true)
    (h1_BeatError : PySem.W.typeIn K (.ref C_BeatError) = some (.type "type"))
    (h2_BeatError : PySem.W.subIn K (.ref C_BeatError) (.type "BaseException") = some true)
    (y1_Uneven : List.lookup C_Uneven K = some ⟨.type "type", dd_Uneven, .cls cd_Uneven, #[k0_Uneven, k1_Uneven, k2_Uneven, k3_Uneven, some (.builtin "ValueError.__new__"), k5_Uneven]⟩)
    (y2_Uneven : cd_Uneven.mro = .ref C_Uneven :: .ref C_BeatError :: veTail)
    (y3_Uneven : cd_Uneven.hasDel = false)
    (y4_Uneven : cd_Uneven.hasDict = true)
    (y5_Uneven : PySem.W.excIn K C_BeatError [.type "ValueError", .type "Exception", .type "BaseException", .type "object"] "ValueError.__new__" = true)
    (y6_Uneven : PySem.W.findIn K (.ref C_Uneven) "__setattr__" = some (some (.builtin "object.__setattr__")))
    (y7_Uneven : PySem.W.keepIn K (.ref C_Uneven) = true)
    (y8_Uneven : PySem.W.typeIn K (.ref C_Uneven) = some (.type "type"))
    (g1_Uneven : PySem.W.findIn K (.ref C_Uneven) "__getattribute__" = some (some (.builtin "BaseException.__getattribute__")))
    (g2_Uneven : PySem.W.findIn K (.ref C_Uneven) "__getattr__" = some none)
    (g3_Uneven : PySem.W.findIn K (.ref C_Uneven) "__class__" = some (some (.builtin "object.__class__")))
    (g4_Uneven : PySem.W.specialIn K (.builtin "object.__class__") "__get__" = some (some (.builtin "getset_descriptor.__get__")))
    (g5_Uneven : PySem.W.takesIn K (.builtin "object.__class__") = some true)
    (g6_Uneven : PySem.W.mroIn K C_Uneven (.type "object") = some true)
    (g7_Uneven : PySem.W.mroIn K C_Uneven (.type "BaseException") = some true)
    (z_Uneven_width : PySem.W.findIn K (.ref C_Uneven) "width" = some none)
    (z_Uneven_most : PySem.W.findIn K (.ref C_Uneven) "most" = some none)
    (z_Uneven_least : PySem.W.findIn K (.ref C_Uneven) "least" = some none)
    (q_i_ii : PySem.W.kitOne K (.type "int") (.type "int") = some true)
    (q_i_ib : PySem.W.kitOne K (.type "int") (.type "bool") = some false)
    (q_i_ll : PySem.W.kitOne K (.type "list") (.type "list") = some true)
    (q_i_tt : PySem.W.kitOne K (.type "tuple") (.type "tuple") = some true)
    (q_s_Uneven : PySem.W.subIn K (.ref C_Uneven) (.ref C_BeatError) = some true)
    (q_i_U : PySem.W.kitOne K (.ref C_Uneven) (.ref C_Uneven) = some true)
    (q_i_U_VE : PySem.W.kitOne K (.ref C_Uneven) (.type "ValueError") = some true)
    (q_i_U_B : PySem.W.kitOne K (.ref C_Uneven) (.ref C_BeatError) = some true)
    (q_i_U_R : PySem.W.kitOne K (.ref C_Uneven) (.ref C_NoRow) = some false)
    (q_i_U_S : PySem.W.kitOne K (.ref C_Uneven) (.ref C_NoStroke) = some false)
    (q_i_U_W : PySem.W.kitOne K (.ref C_Uneven) (.ref C_NoWheel) = some false)
    : ∃ fd : FuncData, (∀ (s : Shared) (v : Value), BindsTo s fd ⟨[v], []⟩ [("_law_script", v)]) ∧ ∀ base : Heap, K.In base → base.Ns mainGlobals mg → FnOk P w K mg base (CXW P w) 7 fa fd ["_law_script"] (spLaw K) := by
  have e := hfa.symm.trans (PySem.W.mg_of X G a_law)
  cases e
  have U_Uneven___init__ := fun_mk (st := s_Uneven___init__) l_Uneven___init__ c_Uneven___init__ k_Uneven___init__
  have B_Uneven___init__ := U_Uneven___init__.binds (ps := ["self", "width", "most", "least"]) fun _ _ _ _ _ _ us hl => match us, hl with | [_, _, _, _], _ => rfl
  have U_check_wheel := fun_mk (st := s_check_wheel) l_check_wheel c_check_wheel k_check_wheel
  have B_check_wheel := U_check_wheel.binds (ps := ["strokes", "places"]) fun _ _ _ _ _ _ us hl => match us, hl with | [_, _], _ => rfl
  have U_ahead := fun_mk (st := s_ahead) l_ahead c_ahead k_ahead
  have B_ahead := U_ahead.binds (ps := ["strokes", "places", "at"]) fun _ _ _ _ _ _ us hl => match us, hl with | [_, _, _], _ => rfl
  have U_has_stroke := fun_mk (st := s_has_stroke) l_has_stroke c_has_stroke k_has_stroke
  have B_has_stroke := U_has_stroke.binds (ps := ["strokes", "places", "at"]) fun _ _ _ _ _ _ us hl => match us, hl with | [_, _, _], _ => rfl
  have U_whole_round := fun_mk (st := s_whole_round) l_whole_round c_whole_round k_whole_round
  have B_whole_round := U_whole_round.binds (ps := ["strokes", "places"]) fun _ _ _ _ _ _ us hl => match us, hl with | [_, _], _ => rfl
  have U_counts := fun_mk (st := s_counts) l_counts c_counts k_counts
  have B_counts := U_counts.binds (ps := ["row", "width"]) fun _ _ _ _ _ _ us hl => match us, hl with | [_, _], _ => rfl
  have U_fault := fun_mk (st := s_fault) l_fault c_fault k_fault
  have B_fault := U_fault.binds (ps := ["row"]) fun _ _ _ _ _ _ us hl => match us, hl with | [_], _ => rfl
  have U_turned := funD_mk (st := s_turned) l_turned c_turned k_turned
  have B_turned : Binds K (PySem.W.fnOf "turned" "turned" (defArgs s_turned) (defBody s_turned) (defScope s_turned) (.ref D_turned) kv_turned dc_turned pm_turned an_turned cd_turned ct_turned) ["row", "by"] [] := fun s us KX hl => match us, hl with | [_, _], _ => BindsTo.of_defaults (T := D_turned) rfl (KX _ _ d_turned) rfl rfl rfl
  have BD_turned : ∃ t, Binds K (PySem.W.fnOf "turned" "turned" (defArgs s_turned) (defBody s_turned) (defScope s_turned) (.ref D_turned) kv_turned dc_turned pm_turned an_turned cd_turned ct_turned) ["row", "by"] [.int 1 t] := ⟨Dt_turned, fun s us KX hl => have h1 : us.length + 1 = 2 := (List.length_append (as := us) ..).symm.trans hl
    match us, h1 with | [_], _ => BindsTo.of_defaults (T := D_turned) rfl (KX _ _ d_turned) rfl rfl rfl⟩
  have U_start := fun_mk (st := s_start) l_start c_start k_start
  have B_start := U_start.binds (ps := ["row"]) fun _ _ _ _ _ _ us hl => match us, hl with | [_], _ => rfl
  have U__law_cell_at := fun_mk (st := s__law_cell_at) l__law_cell_at c__law_cell_at k__law_cell_at
  have B__law_cell_at := U__law_cell_at.binds (ps := ["_law_script", "_law_k"]) fun _ _ _ _ _ _ us hl => match us, hl with | [_, _], _ => rfl
  have U__law_whole := fun_mk (st := s__law_whole) l__law_whole c__law_whole k__law_whole
  have B__law_whole := U__law_whole.binds (ps := ["_law_found"]) fun _ _ _ _ _ _ us hl => match us, hl with | [_], _ => rfl
  have U__law_alike := fun_mk (st := s__law_alike) l__law_alike c__law_alike k__law_alike
  have B__law_alike := U__law_alike.binds (ps := ["_law_found", "_law_due"]) fun _ _ _ _ _ _ us hl => match us, hl with | [_, _], _ => rfl
  have U__law_sums_row := fun_mk (st := s__law_sums_row) l__law_sums_row c__law_sums_row k__law_sums_row
  have B__law_sums_row := U__law_sums_row.binds (ps := ["_law_strokes", "_law_places"]) fun _ _ _ _ _ _ us hl => match us, hl with | [_, _], _ => rfl
  have U__law_changed := fun_mk (st := s__law_changed) l__law_changed c__law_changed k__law_changed
  have B__law_changed := U__law_changed.binds (ps := ["_law_row_here", "_law_script"]) fun _ _ _ _ _ _ us hl => match us, hl with | [_, _], _ => rfl
  have U__law_made := fun_mk (st := s__law_made) l__law_made c__law_made k__law_made
  have B__law_made := U__law_made.binds (ps := ["_law_script"]) fun _ _ _ _ _ _ us hl => match us, hl with | [_], _ => rfl
  have U__law_row := fun_mk (st := s__law_row) l__law_row c__law_row k__law_row
  have B__law_row := U__law_row.binds (ps := ["_law_script"]) fun _ _ _ _ _ _ us hl => match us, hl with | [_], _ => rfl
  have U__law_even := fun_mk (st := s__law_even) l__law_even c__law_even k__law_even
  have B__law_even := U__law_even.binds (ps := ["_law_row_here"]) fun _ _ _ _ _ _ us hl => match us, hl with | [_], _ => rfl
  have U__law_counts := fun_mk (st := s__law_counts) l__law_counts c__law_counts k__law_counts
  have B__law_counts := U__law_counts.binds (ps := ["_law_heads", "_law_places", "_law_width"]) fun _ _ _ _ _ _ us hl => match us, hl with | [_, _, _], _ => rfl
  have U__law_fault := fun_mk (st := s__law_fault) l__law_fault c__law_fault k__law_fault
  have B__law_fault := U__law_fault.binds (ps := ["_law_row_here", "_law_found"]) fun _ _ _ _ _ _ us hl => match us, hl with | [_, _], _ => rfl
  have U__law_refused := fun_mk (st := s__law_refused) l__law_refused c__law_refused k__law_refused
  have B__law_refused := U__law_refused.binds (ps := ["_law_row_here", "_law_found"]) fun _ _ _ _ _ _ us hl => match us, hl with | [_, _], _ => rfl
  have U__law_own := fun_mk (st := s__law_own) l__law_own c__law_own k__law_own
  have B__law_own := U__law_own.binds (ps := ["_law_cell"]) fun _ _ _ _ _ _ us hl => match us, hl with | [_], _ => rfl
  have U_law := fun_mk (st := s_law) l_law c_law k_law
  have B_law := U_law.binds (ps := ["_law_script"]) fun _ _ _ _ _ _ us hl => match us, hl with | [_], _ => rfl
  have T : Txt K mg ⟨C_BeatError, C_NoWheel, C_NoStroke, C_NoRow, C_Uneven, F_Uneven___init__, (PySem.W.fnOf "__init__" "Uneven.__init__" (defArgs s_Uneven___init__) (defBody s_Uneven___init__) (defScope s_Uneven___init__) .none kv_Uneven___init__ dc_Uneven___init__ pm_Uneven___init__ an_Uneven___init__ cd_Uneven___init__ ct_Uneven___init__), F_check_wheel, (PySem.W.fnOf "check_wheel" "check_wheel" (defArgs s_check_wheel) (defBody s_check_wheel) (defScope s_check_wheel) .none kv_check_wheel dc_check_wheel pm_check_wheel an_check_wheel cd_check_wheel ct_check_wheel), F_ahead, (PySem.W.fnOf "ahead" "ahead" (defArgs s_ahead) (defBody s_ahead) (defScope s_ahead) .none kv_ahead dc_ahead pm_ahead an_ahead cd_ahead ct_ahead), F_has_stroke, (PySem.W.fnOf "has_stroke" "has_stroke" (defArgs s_has_stroke) (defBody s_has_stroke) (defScope s_has_stroke) .none kv_has_stroke dc_has_stroke pm_has_stroke an_has_stroke cd_has_stroke ct_has_stroke), F_whole_round, (PySem.W.fnOf "whole_round" "whole_round" (defArgs s_whole_round) (defBody s_whole_round) (defScope s_whole_round) .none kv_whole_round dc_whole_round pm_whole_round an_whole_round cd_whole_round ct_whole_round), F_counts, (PySem.W.fnOf "counts" "counts" (defArgs s_counts) (defBody s_counts) (defScope s_counts) .none kv_counts dc_counts pm_counts an_counts cd_counts ct_counts), F_fault, (PySem.W.fnOf "fault" "fault" (defArgs s_fault) (defBody s_fault) (defScope s_fault) .none kv_fault dc_fault pm_fault an_fault cd_fault ct_fault), F_turned, (PySem.W.fnOf "turned" "turned" (defArgs s_turned) (defBody s_turned) (defScope s_turned) (.ref D_turned) kv_turned dc_turned pm_turned an_turned cd_turned ct_turned), F_start, (PySem.W.fnOf "start" "start" (defArgs s_start) (defBody s_start) (defScope s_start) .none kv_start dc_start pm_start an_start cd_start ct_start), F__law_cell_at, (PySem.W.fnOf "_law_cell_at" "_law_cell_at" (defArgs s__law_cell_at) (defBody s__law_cell_at) (defScope s__law_cell_at) .none kv__law_cell_at dc__law_cell_at pm__law_cell_at an__law_cell_at cd__law_cell_at ct__law_cell_at), F__law_whole, (PySem.W.fnOf "_law_whole" "_law_whole" (defArgs s__law_whole) (defBody s__law_whole) (defScope s__law_whole) .none kv__law_whole dc__law_whole pm__law_whole an__law_whole cd__law_whole ct__law_whole), F__law_alike, (PySem.W.fnOf "_law_alike" "_law_alike" (defArgs s__law_alike) (defBody s__law_alike) (defScope s__law_alike) .none kv__law_alike dc__law_alike pm__law_alike an__law_alike cd__law_alike ct__law_alike), F__law_sums_row, (PySem.W.fnOf "_law_sums_row" "_law_sums_row" (defArgs s__law_sums_row) (defBody s__law_sums_row) (defScope s__law_sums_row) .none kv__law_sums_row dc__law_sums_row pm__law_sums_row an__law_sums_row cd__law_sums_row ct__law_sums_row), F__law_changed, (PySem.W.fnOf "_law_changed" "_law_changed" (defArgs s__law_changed) (defBody s__law_changed) (defScope s__law_changed) .none kv__law_changed dc__law_changed pm__law_changed an__law_changed cd__law_changed ct__law_changed), F__law_made, (PySem.W.fnOf "_law_made" "_law_made" (defArgs s__law_made) (defBody s__law_made) (defScope s__law_made) .none kv__law_made dc__law_made pm__law_made an__law_made cd__law_made ct__law_made), F__law_row, (PySem.W.fnOf "_law_row" "_law_row" (defArgs s__law_row) (defBody s__law_row) (defScope s__law_row) .none kv__law_row dc__law_row pm__law_row an__law_row cd__law_row ct__law_row), F__law_even, (PySem.W.fnOf "_law_even" "_law_even" (defArgs s__law_even) (defBody s__law_even) (defScope s__law_even) .none kv__law_even dc__law_even pm__law_even an__law_even cd__law_even ct__law_even), F__law_counts, (PySem.W.fnOf "_law_counts" "_law_counts" (defArgs s__law_counts) (defBody s__law_counts) (defScope s__law_counts) .none kv__law_counts dc__law_counts pm__law_counts an__law_counts cd__law_counts ct__law_counts), F__law_fault, (PySem.W.fnOf "_law_fault" "_law_fault" (defArgs s__law_fault) (defBody s__law_fault) (defScope s__law_fault) .none kv__law_fault dc__law_fault pm__law_fault an__law_fault cd__law_fault ct__law_fault), F__law_refused, (PySem.W.fnOf "_law_refused" "_law_refused" (defArgs s__law_refused) (defBody s__law_refused) (defScope s__law_refused) .none kv__law_refused dc__law_refused pm__law_refused an__law_refused cd__law_refused ct__law_refused), F__law_own, (PySem.W.fnOf "_law_own" "_law_own" (defArgs s__law_own) (defBody s__law_own) (defScope s__law_own) .none kv__law_own dc__law_own pm__law_own an__law_own cd__law_own ct__law_own), fa, (PySem.W.fnOf "law" "law" (defArgs s_law) (defBody s_law) (defScope s_law) .none kv_law dc_law pm_law an_law cd_law ct_law)⟩ :=
    ⟨PySem.W.mg_of X G a_BeatError,
      PySem.W.mg_of X G a_NoWheel,
      PySem.W.mg_of X G a_NoStroke,
      PySem.W.mg_of X G a_NoRow,
      PySem.W.mg_of X G a_Uneven,
      ⟨PySem.W.mg_of X G a_NoWheel, e_NoWheel⟩,
      ⟨g1_NoWheel, g2_NoWheel, g3_NoWheel, g4_NoWheel, g5_NoWheel, g6_NoWheel, g7_NoWheel⟩,
      ⟨PySem.W.mg_of X G a_BeatError, h1_BeatError, h2_BeatError⟩,
      ⟨PySem.W.mg_of X G a_Uneven, a_Uneven___init__, w_Uneven___init__, y7_Uneven, ⟨⟨⟨_, _, _, _, _, _, _, y1_Uneven, y2_Uneven, y3_Uneven, y4_Uneven⟩, y5_Uneven⟩, y6_Uneven, g1_Uneven, g2_Uneven⟩⟩,
      ⟨g1_Uneven, g2_Uneven, g3_Uneven, g4_Uneven, g5_Uneven, g6_Uneven, g7_Uneven⟩,
      y8_Uneven,
      z_Uneven_width,
      z_Uneven_most,
      z_Uneven_least,
      k_Uneven___init__,
      U_Uneven___init__,
      B_Uneven___init__,
      PySem.W.mg_of X G a_check_wheel,
      k_check_wheel,
      U_check_wheel,
      B_check_wheel,
      PySem.W.mg_of X G a_ahead,
      k_ahead,
      U_ahead,
      B_ahead,
      PySem.W.mg_of X G a_has_stroke,
      k_has_stroke,
      U_has_stroke,
      B_has_stroke,
      PySem.W.mg_of X G a_whole_round,
      k_whole_round,
      U_whole_round,
      B_whole_round,
      PySem.W.mg_of X G a_counts,
      k_counts,
      U_counts,
      B_counts,
      PySem.W.mg_of X G a_fault,
      k_fault,
      U_fault,
      B_fault,
      PySem.W.mg_of X G a_turned,
      k_turned,
      U_turned,
      B_turned,
      BD_turned,
      PySem.W.mg_of X G a_start,
      k_start,
      U_start,
      B_start,
      PySem.W.mg_of X G a__law_cell_at,
      k__law_cell_at,
      U__law_cell_at,
      B__law_cell_at,
      PySem.W.mg_of X G a__law_whole,
      k__law_whole,
      U__law_whole,
      B__law_whole,
      PySem.W.mg_of X G a__law_alike,
      k__law_alike,
      U__law_alike,
      B__law_alike,
      PySem.W.mg_of X G a__law_sums_row,
      k__law_sums_row,
      U__law_sums_row,
      B__law_sums_row,
      PySem.W.mg_of X G a__law_changed,
      k__law_changed,
      U__law_changed,
      B__law_changed,
      PySem.W.mg_of X G a__law_made,
      k__law_made,
      U__law_made,
      B__law_made,
      PySem.W.mg_of X G a__law_row,
      k__law_row,
      U__law_row,
      B__law_row,
      PySem.W.mg_of X G a__law_even,
      k__law_even,
      U__law_even,
      B__law_even,
      PySem.W.mg_of X G a__law_counts,
      k__law_counts,
      U__law_counts,
      B__law_counts,
      PySem.W.mg_of X G a__law_fault,
      k__law_fault,
      U__law_fault,
      B__law_fault,
      PySem.W.mg_of X G a__law_refused,
      k__law_refused,
      U__law_refused,
      B__law_refused,
      PySem.W.mg_of X G a__law_own,
      k__law_own,
      U__law_own,
      B__law_own,
      PySem.W.mg_of X G a_law,
      k_law,
      U_law,
      B_law,
      PySem.W.mg_none_of X G n_ValueError,
      PySem.W.mg_none_of X G n_bool,
      PySem.W.mg_none_of X G n_int,
      PySem.W.mg_none_of X G n_isinstance,
      PySem.W.mg_none_of X G n_len,
      PySem.W.mg_none_of X G n_list,
      PySem.W.mg_none_of X G n_max,
      PySem.W.mg_none_of X G n_min,
      PySem.W.mg_none_of X G n_range,
      PySem.W.mg_none_of X G n_sum,
      PySem.W.mg_none_of X G n_tuple,
      PySem.W.mg_none_of X G n_zip,
      q_i_ii,
      q_i_ib,
      q_i_ll,
      q_i_tt,
      q_s_Uneven,
      q_i_U,
      q_i_U_VE,
      q_i_U_B,
      q_i_U_R,
      q_i_U_S,
      q_i_U_W⟩
  exact ⟨_, fun s v => .of_eq rfl, fun base _ _ => ok_law T⟩
theorem walk {l : PySem.W.OpenLaw} {q : Program} {loose : List Str} {XP : (Str → Option Value) → Heap → Prop} {YP : World → Heap → Prop} {d : DefRec} {K : Params → PySem.W.Frag} (hn : l.most = some 63) (hdf : d.params.defaults = [])
    (hY : ∀ (w : World) (h : Heap), YP w h → (K w.params).In h)
    (F : ∀ (w : World) (mg : Str → Option Value) (fa : Addr) (h : Heap), (K w.params).In h → h.Ns mainGlobals mg → mg d.name = some (.ref fa) →
      ∃ fd : FuncData, (∀ (s : Shared) (u : Value), BindsTo s fd ⟨[u], []⟩ [("_law_script", u)]) ∧ ∀ base : Heap, (K w.params).In base → base.Ns mainGlobals mg → FnOk l.prog w (K w.params) mg base (CXW l.prog w) 7 fa fd ["_law_script"] (spLaw (K w.params))) :
    PySem.W.WalkO q loose XP YP l.row.toRowW d [] (fun f vs => PySem.call f vs) :=
  L2.walk_of (n := 63) (k := 7) (x := "_law_script") (CX := fun w => CXW l.prog w) (sp := fun w => spLaw (K w.params)) hn (by decide) hdf ⟨rfl, by decide, by decide⟩ hY F (fun _ _ a ns hl _ hS => ⟨a, ns, rfl, hS, hl, fun _ => rfl⟩)
    fun w H s e s' z => by
      obtain ⟨_, _, _, _, _, _, _, _, _, _, _, q⟩ := z
      exact q
end Eb
open PySem PySem.W PyProof.Rows
set_option maxRecDepth 100000 in
set_option maxHeartbeats 0 in
theorem PySem.Challenge.cw_evenbeat_k08_whole_even_or_fault_holds : PySem.Challenge.rw_evenbeat_k08_whole_even_or_fault.Holds := by
  w_on; o_law; k_head; (case hw => w_witness2)
  k_fill
  refine Eb.walk (l := PySem.Challenge.rw_evenbeat_k08_whole_even_or_fault) rfl rfl (fun w h Y => PySem.W.kIn_of Y) ?F
  case F =>
    intro w mg fa h KX G hmg
    refine' Eb.all_mk KX G hmg ?a_BeatError ?a_NoWheel ?a_NoStroke ?a_NoRow ?a_Uneven ?a_Uneven___init__ ?w_Uneven___init__ ?l_Uneven___init__ ?c_Uneven___init__ ?k_Uneven___init__ ?a_check_wheel ?l_check_wheel ?c_check_wheel ?k_check_wheel ?a_ahead ?l_ahead ?c_ahead ?k_ahead ?a_has_stroke ?l_has_stroke ?c_has_stroke ?k_has_stroke ?a_whole_round ?l_whole_round ?c_whole_round ?k_whole_round ?a_counts ?l_counts ?c_counts ?k_counts ?a_fault ?l_fault ?c_fault ?k_fault ?a_turned ?l_turned ?d_turned ?c_turned ?k_turned ?a_start ?l_start ?c_start ?k_start ?a__law_cell_at ?l__law_cell_at ?c__law_cell_at ?k__law_cell_at ?a__law_whole ?l__law_whole ?c__law_whole ?k__law_whole ?a__law_alike ?l__law_alike ?c__law_alike ?k__law_alike ?a__law_sums_row ?l__law_sums_row ?c__law_sums_row ?k__law_sums_row ?a__law_changed ?l__law_changed ?c__law_changed ?k__law_changed ?a__law_made ?l__law_made ?c__law_made ?k__law_made ?a__law_row ?l__law_row ?c__law_row ?k__law_row ?a__law_even ?l__law_even ?c__law_even ?k__law_even ?a__law_counts ?l__law_counts ?c__law_counts ?k__law_counts ?a__law_fault ?l__law_fault ?c__law_fault ?k__law_fault ?a__law_refused ?l__law_refused ?c__law_refused ?k__law_refused ?a__law_own ?l__law_own ?c__law_own ?k__law_own ?a_law ?l_law ?c_law ?k_law ?n_ValueError ?n_bool ?n_int ?n_isinstance ?n_len ?n_list ?n_max ?n_min ?n_range ?n_sum ?n_tuple ?n_zip ?e_NoWheel ?g1_NoWheel ?g2_NoWheel ?g3_NoWheel ?g4_NoWheel ?g5_NoWheel ?g6_NoWheel ?g7_NoWheel ?h1_BeatError ?h2_BeatError ?y1_Uneven ?y2_Uneven ?y3_Uneven ?y4_Uneven ?y5_Uneven ?y6_Uneven ?y7_Uneven ?y8_Uneven ?g1_Uneven ?g2_Uneven ?g3_Uneven ?g4_Uneven ?g5_Uneven ?g6_Uneven ?g7_Uneven ?z_Uneven_width ?z_Uneven_most ?z_Uneven_least ?q_i_ii ?q_i_ib ?q_i_ll ?q_i_tt ?q_s_Uneven ?q_i_U ?q_i_U_VE ?q_i_U_B ?q_i_U_R ?q_i_U_S ?q_i_U_W
    (case a_BeatError => k_is)
    (case a_NoWheel => k_is)
    (case a_NoStroke => k_is)
    (case a_NoRow => k_is)
    (case a_Uneven => k_is)
    (case a_Uneven___init__ => k_is)
    (case w_Uneven___init__ => k_is)
    (case l_Uneven___init__ => k_is)
    (case c_Uneven___init__ => k_is)
    (case k_Uneven___init__ => k_is)
    (case a_check_wheel => k_is)
    (case l_check_wheel => k_is)
    (case c_check_wheel => k_is)
    (case k_check_wheel => k_is)
    (case a_ahead => k_is)
    (case l_ahead => k_is)
    (case c_ahead => k_is)
    (case k_ahead => k_is)
    (case a_has_stroke => k_is)
    (case l_has_stroke => k_is)
    (case c_has_stroke => k_is)
    (case k_has_stroke => k_is)
    (case a_whole_round => k_is)
    (case l_whole_round => k_is)
    (case c_whole_round => k_is)
    (case k_whole_round => k_is)
    (case a_counts => k_is)
    (case l_counts => k_is)
    (case c_counts => k_is)
    (case k_counts => k_is)
    (case a_fault => k_is)
    (case l_fault => k_is)
    (case c_fault => k_is)
    (case k_fault => k_is)
    (case a_turned => k_is)
    (case l_turned => k_is)
    (case d_turned => k_is)
    (case c_turned => k_is)
    (case k_turned => k_is)
    (case a_start => k_is)
    (case l_start => k_is)
    (case c_start => k_is)
    (case k_start => k_is)
    (case a__law_cell_at => k_is)
    (case l__law_cell_at => k_is)
    (case c__law_cell_at => k_is)
    (case k__law_cell_at => k_is)
    (case a__law_whole => k_is)
    (case l__law_whole => k_is)
    (case c__law_whole => k_is)
    (case k__law_whole => k_is)
    (case a__law_alike => k_is)
    (case l__law_alike => k_is)
    (case c__law_alike => k_is)
    (case k__law_alike => k_is)
    (case a__law_sums_row => k_is)
    (case l__law_sums_row => k_is)
    (case c__law_sums_row => k_is)
    (case k__law_sums_row => k_is)
    (case a__law_changed => k_is)
    (case l__law_changed => k_is)
    (case c__law_changed => k_is)
    (case k__law_changed => k_is)
    (case a__law_made => k_is)
    (case l__law_made => k_is)
    (case c__law_made => k_is)
    (case k__law_made => k_is)
    (case a__law_row => k_is)
    (case l__law_row => k_is)
    (case c__law_row => k_is)
    (case k__law_row => k_is)
    (case a__law_even => k_is)
    (case l__law_even => k_is)
    (case c__law_even => k_is)
    (case k__law_even => k_is)
    (case a__law_counts => k_is)
    (case l__law_counts => k_is)
    (case c__law_counts => k_is)
    (case k__law_counts => k_is)
    (case a__law_fault => k_is)
    (case l__law_fault => k_is)
    (case c__law_fault => k_is)
    (case k__law_fault => k_is)
    (case a__law_refused => k_is)
    (case l__law_refused => k_is)
    (case c__law_refused => k_is)
    (case k__law_refused => k_is)
    (case a__law_own => k_is)
    (case l__law_own => k_is)
    (case c__law_own => k_is)
    (case k__law_own => k_is)
    (case a_law => k_is)
    (case l_law => k_is)
    (case c_law => k_is)
    (case k_law => k_is)
    (case n_ValueError => k_is)
    (case n_bool => k_is)
    (case n_int => k_is)
    (case n_isinstance => k_is)
    (case n_len => k_is)
    (case n_list => k_is)
    (case n_max => k_is)
    (case n_min => k_is)
    (case n_range => k_is)
    (case n_sum => k_is)
    (case n_tuple => k_is)
    (case n_zip => k_is)
    (case e_NoWheel => k_exc)
    (case g1_NoWheel => k_is)
    (case g2_NoWheel => k_is)
    (case g3_NoWheel => k_is)
    (case g4_NoWheel => k_is)
    (case g5_NoWheel => k_is)
    (case g6_NoWheel => k_is)
    (case g7_NoWheel => k_is)
    (case h1_BeatError => k_is)
    (case h2_BeatError => k_is)
    (case y1_Uneven => k_is)
    (case y2_Uneven => rfl)
    (case y3_Uneven => rfl)
    (case y4_Uneven => rfl)
    (case y5_Uneven => k_exc)
    (case y6_Uneven => k_is)
    (case y7_Uneven => k_is)
    (case y8_Uneven => k_is)
    (case g1_Uneven => k_is)
    (case g2_Uneven => k_is)
    (case g3_Uneven => k_is)
    (case g4_Uneven => k_is)
    (case g5_Uneven => k_is)
    (case g6_Uneven => k_is)
    (case g7_Uneven => k_is)
    (case z_Uneven_width => k_is)
    (case z_Uneven_most => k_is)
    (case z_Uneven_least => k_is)
    (case q_i_ii => kit_is)
    (case q_i_ib => kit_is)
    (case q_i_ll => kit_is)
    (case q_i_tt => kit_is)
    (case q_s_Uneven => k_is)
    (case q_i_U => kit_is)
    (case q_i_U_VE => kit_is)
    (case q_i_U_B => kit_is)
    (case q_i_U_R => kit_is)
    (case q_i_U_S => kit_is)
    (case q_i_U_W => kit_is)
