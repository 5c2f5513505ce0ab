import PyProof.Rows.All
import Wide.All
import OpenK.AllK
import Wide.FinOn
import Lean
import PyProof.EqAt
import PyProof.EqKinds
import PyProof.TupleCall
import PySem.Challenge.RW_oathduel_k31_what_is_a_plan
set_option Elab.async false
set_option linter.all false
set_option maxRecDepth 100000
/-! THE HAND LAYER, for ints, bools, texts, own classes, LISTS and tuples (index, slices, in, append, pop ..), calls, loops. Paste it whole ahead of your own text; what your proof does not reach may be deleted. -/
namespace L2
open PySem PySem.Spec PyProof.Rows

/-- a key: an int or a str -/
abbrev Key := Sum Int Str
def keyIs : Key → Value → Bool
  | .inl k, v => Value.isInt k v
  | .inr x, v => Value.isStrOf x v
def keyH (w : World) : Key → Int
  | .inl k => hashInt k
  | .inr x => hashStr w x
theorem keyIs_shape : ∀ {k : Key} {v : Value}, keyIs k v = true → (∃ i t, k = Sum.inl i ∧ v = Value.int i t) ∨ (∃ x t, k = Sum.inr x ∧ v = Value.str x t)
  | .inl i, v, h => by
    obtain ⟨t, e⟩ := Value.isInt_shape (k := i) (v := v) h
    exact .inl ⟨i, t, rfl, e⟩
  | .inr x, v, h => by
    obtain ⟨t, e⟩ := Value.isStrOf_shape (x := x) (v := v) h
    exact .inr ⟨x, t, rfl, e⟩
theorem keyIs_int (i : Int) (t : Tok) : keyIs (.inl i) (.int i t) = true := by simp [keyIs, Value.isInt]
theorem keyIs_str (x : Str) (t : Tok) : keyIs (.inr x) (.str x t) = true := by simp [keyIs, Value.isStrOf]
theorem key_ll (a b : Int) : decide ((Sum.inl a : Key) = Sum.inl b) = (a == b) := by
  by_cases e : a = b
  · subst e; simp
  · have h : ¬ (Sum.inl a : Key) = Sum.inl b := fun q => e (Sum.inl.inj q)
    rw [decide_eq_false h]
    exact (beq_eq_false_iff_ne.mpr e).symm
theorem key_rr (a b : Str) : decide ((Sum.inr a : Key) = Sum.inr b) = decide (a = b) := by
  by_cases e : a = b
  · subst e; simp
  · have h : ¬ (Sum.inr a : Key) = Sum.inr b := fun q => e (Sum.inr.inj q)
    rw [decide_eq_false h, decide_eq_false e]
theorem key_lr (a : Int) (b : Str) : decide ((Sum.inl a : Key) = Sum.inr b) = false := decide_eq_false (fun q => nomatch q)
theorem key_rl (a : Str) (b : Int) : decide ((Sum.inr a : Key) = Sum.inl b) = false := decide_eq_false (fun q => nomatch q)

def mixKind (prog : Program) (w : World) : PySem.KeyKind prog w Key where
  is := keyIs
  hash := keyH w
  inj := fun v a b ha hb => by
    rcases keyIs_shape ha with ⟨i, t, rfl, rfl⟩ | ⟨x, t, rfl, rfl⟩
    · rcases keyIs_shape hb with ⟨j, u, rfl, e⟩ | ⟨y, u, rfl, e⟩
      · injection e with e1 _; rw [e1]
      · exact nomatch e
    · rcases keyIs_shape hb with ⟨j, u, rfl, e⟩ | ⟨y, u, rfl, e⟩
      · exact nomatch e
      · injection e with e1 _; rw [e1]
  byValue := fun k v h => by
    rcases keyIs_shape h with ⟨i, t, rfl, rfl⟩ | ⟨x, t, rfl, rfl⟩ <;> rfl
  pyHash := fun hv h => by
    rcases keyIs_shape hv with ⟨i, t, rfl, rfl⟩ | ⟨x, t, rfl, rfl⟩
    · exact wpAny_pyHash_int h
    · exact wpAny_pyHash_str h
  eqBool := fun hu hv h => by
    rcases keyIs_shape hu with ⟨i, t, rfl, rfl⟩ | ⟨x, t, rfl, rfl⟩
    · rcases keyIs_shape hv with ⟨j, u, rfl, rfl⟩ | ⟨y, u, rfl, rfl⟩
      · rw [key_ll] at h; exact wpAny_eqBool_int h
      · rw [key_lr] at h; exact SeqAt.EqAt.int_str i t y u _ _ _ _ h
    · rcases keyIs_shape hv with ⟨j, u, rfl, rfl⟩ | ⟨y, u, rfl, rfl⟩
      · rw [key_rl] at h; exact SeqAt.EqAt.str_int x t j u _ _ _ _ h
      · rw [key_rr] at h; exact wpAny_eqBool_str h
  «strs» := fun k x t v h => by
    rcases keyIs_shape h with ⟨i, u, rfl, e⟩ | ⟨y, u, rfl, e⟩
    · exact nomatch e
    · injection e with e1 _
      subst e1
      cases v <;> rfl

theorem mixKind_is (prog : Program) (w : World) (k : Key) (v : Value) : (mixKind prog w).is k v = keyIs k v := rfl
theorem mixKind_int (prog : Program) (w : World) (i : Int) (t : Tok) : (mixKind prog w).is (.inl i) (.int i t) = true := keyIs_int i t
theorem mixKind_str (prog : Program) (w : World) (x : Str) (t : Tok) : (mixKind prog w).is (.inr x) (.str x t) = true := keyIs_str x t
end L2

namespace L2
open PySem PySem.Spec PyProof.Rows

/-- a value, without the heap -/
inductive V where
  | non | bl (b : Bool) | int (i : Int) | str (x : Str) | byt (b : Array UInt8) | flt (b : UInt64) | ref (a : Addr) | ty (n : String)
  deriving DecidableEq

def RelV : V → Value → Prop
  | .non, u => u = Value.none
  | .bl b, u => u = Value.bool b
  | .int i, u => ∃ t, u = Value.int i t
  | .str x, u => ∃ t, u = Value.str x t
  | .byt b, u => ∃ t, u = Value.bytes b t
  | .flt b, u => ∃ t, u = Value.float b t
  | .ref a, u => u = Value.ref a
  | .ty n, u => u = Value.type n

abbrev Vals : List V → List Value → Prop := Paired RelV
theorem Vals.length {xs : List V} {us : List Value} (r : Vals xs us) : xs.length = us.length := Paired.length r
theorem Vals.get : ∀ {xs : List V} {us : List Value} {i : Nat} {x : V}, Vals xs us → xs[i]? = some x → ∃ u, us[i]? = some u ∧ RelV x u
  | _, _, _, _, .nil, e => by simp at e
  | _, _, 0, _, .cons r _, e => by simp at e; subst e; exact ⟨_, rfl, r⟩
  | _, _, i + 1, x, .cons _ t, e => by
    obtain ⟨u, h1, h2⟩ := Vals.get (i := i) (x := x) t (by simpa using e)
    exact ⟨u, by simpa using h1, h2⟩
theorem Vals.set {x : V} {u : Value} (r : RelV x u) : ∀ {xs : List V} {us : List Value} (i : Nat), Vals xs us → Vals (xs.set i x) (us.set i u)
  | _, _, _, .nil => .nil
  | _, _, 0, .cons _ t => .cons r t
  | _, _, i + 1, .cons q t => .cons q (Vals.set r i t)
theorem Vals.append : ∀ {xs ys : List V} {us ws : List Value}, Vals xs us → Vals ys ws → Vals (xs ++ ys) (us ++ ws)
  | _, _, _, _, .nil, s => s
  | _, _, _, _, .cons r t, s => .cons r (Vals.append t s)
theorem Vals.take : ∀ {xs : List V} {us : List Value} (n : Nat), Vals xs us → Vals (xs.take n) (us.take n)
  | _, _, 0, _ => .nil
  | _, _, _ + 1, .nil => .nil
  | _, _, n + 1, .cons r t => .cons r (Vals.take n t)
theorem Vals.drop : ∀ {xs : List V} {us : List Value} (n : Nat), Vals xs us → Vals (xs.drop n) (us.drop n)
  | _, _, 0, r => r
  | _, _, _ + 1, .nil => .nil
  | _, _, n + 1, .cons _ t => Vals.drop n t
theorem Vals.none_of : ∀ {xs : List V} {us : List Value} {i : Nat}, Vals xs us → xs[i]? = none → us[i]? = none := fun {xs us i} r e => by
  have h1 := r.length
  have h2 : xs.length ≤ i := List.getElem?_eq_none_iff.mp e
  exact List.getElem?_eq_none_iff.mpr (by omega)

def RelO : Option V → Option Value → Prop
  | some v, some u => RelV v u
  | none, none => True
  | _, _ => False
def KV {κ : Type} : List (κ × V) → List (κ × Value) → Prop := Paired fun (p : κ × V) (q : κ × Value) => p.1 = q.1 ∧ RelV p.2 q.2

/-- a key of a dict (00_mix): an int or a text -/
def kV : Key → V
  | .inl i => .int i
  | .inr x => .str x

/-- what stands at a tracked address -/
inductive HO where
  /-- a list -/
  | lst (xs : List V)
  /-- a tuple (never changes) -/
  | tup (xs : List V)
  /-- a dict whose keys are ints and texts; one whose keys are tuples of ints and texts (the empty one is both) -/
  | dK (kvs : List (Key × V)) | dT (kvs : List (List Key × V))
  /-- a set of ints: its members, its size -/
  | set (S : Int → Bool) (n : Nat)
  /-- an instance of the class at C, its dict at dx, its attributes -/
  | ins (C dx : Addr) (fs : List (Str × V))
  /-- the dict of the instance at x -/
  | own (x : Addr)
  /-- the dict of an exception -/
  | xd (fs : List (Str × V))
  /-- a bound method, f of x -/
  | met (f x : Addr)
  /-- a range object lo, lo + 1, .. below hi -/
  | rng (lo hi : Int)
  /-- a thing that is known to the object (the script; a dict while a loop walks it): read, never written while it is so -/
  | frz (o : Obj) (u : HO)
  /-- a code object's table -/
  | tbl (ps : Array Value)
  /-- any other thing, by what is true of its one object (a def of one's own: SetO a S n := HO.ext fun h => ..) -/
  | ext (φ : Heap → Prop)

abbrev Hp := Addr → Option HO
def upd (H : Hp) (a : Addr) (o : HO) : Hp := fun b => if b = a then some o else H b
theorem upd_same {H : Hp} {a : Addr} {o : HO} : upd H a o a = some o := by unfold upd; rw [if_pos rfl]
theorem upd_ne {H : Hp} {a b : Addr} {o : HO} (h : b ≠ a) : upd H a o b = H b := by unfold upd; rw [if_neg h]
theorem upd_upd {H : Hp} {a : Addr} {o u : HO} : upd (upd H a o) a u = upd H a u := by
  funext b; unfold upd; split <;> rfl
/-- two objects of different content stand apart -/
theorem ne_of {H : Hp} {a b : Addr} {o u : HO} (h : H a = some o) (h' : H b = some u) (d : o ≠ u) : a ≠ b := by
  intro e; subst e; rw [h] at h'; exact d (Option.some.inj h')
theorem ne_of_none {H : Hp} {a b : Addr} {o : HO} (h : H a = some o) (h' : H b = none) : a ≠ b := by
  intro e; subst e; rw [h] at h'; cases h'

section
variable (P : Program) (w : World)
def ObjOk (H : Hp) (h : Heap) (a : Addr) : HO → Prop
  | .lst xs => xs.length ≤ sizeLine ∧ ∃ (its : List Value) (n : Nat), Vals xs its ∧ h.get? a = some { cls := .type "list", data := .seq its.toArray n }
  | .tup xs => xs.length ≤ sizeLine ∧ ∃ its : List Value, Vals xs its ∧ IsTup h a its.toArray
  | .dK kvs => kvs.length ≤ sizeLine ∧ (a == sysModules) = false ∧ ∃ vs, KV kvs vs ∧ h.DictOf (mixKind P w) a vs
  | .dT kvs => kvs.length ≤ sizeLine ∧ (a == sysModules) = false ∧ ∃ xs : List (List Key × Addr × Value),
      Paired (fun (p : List Key × V) (q : List Key × Addr × Value) => p.1 = q.1 ∧ H q.2.1 = some (.tup (p.1.map kV)) ∧ RelV p.2 q.2.2) kvs xs ∧
      ∃ o es ep, h.get? a = some o ∧ o.ExactDict ∧ o.data = .dict es ep ∧ es.toList = xs.map (entryOfKey (tupleKind (mixKind P w))) ∧ (xs.map (·.1)).Nodup
  | .set S n => h.SetOf (intKind P w) a S n
  | .ins C dx fs => H dx = some (.own a) ∧ fs.length ≤ 1000 ∧ dx ≠ a ∧ h.get? a = some (PySem.W.instObj C dx) ∧
      ∃ mA, h.Ns1 dx mA ∧ (∀ f, RelO (fs.lookup f) (mA f)) ∧ PySem.Within mA (fs.map (·.1))
  | .own _ => ∃ o, h.get? a = some o
  | .xd fs => ∃ mA, h.Ns1 a mA ∧ ∀ f, RelO (fs.lookup f) (mA f)
  | .rng lo hi => ∃ t u v, h.get? a = some { cls := .type "range", data := .fields #[.int lo t, .int hi u, .int 1 v] }
  | .frz o u => h.get? a = some o ∧ ObjOk H h a u
  | .tbl ps => h.get? a = some { cls := .none, data := .fields ps }
  | .met f x => h.get? a = some (PySem.W.methodObj (.ref f) (.ref x))
  | .ext φ => φ h ∧ (∃ o, h.get? a = some o) ∧ ∀ h1 h2 : Heap, φ h1 → (∀ o, h1.get? a = some o → h2.get? a = some o) → φ h2
/-- the abstract heap is held -/
def HOk (H : Hp) (h : Heap) : Prop := ∀ a o, H a = some o → ObjOk P w H h a o
end

section
variable {P : Program} {w : World} {H H' : Hp} {h h' : Heap} {a : Addr} {o : HO}
theorem ObjOk.lt (x : ObjOk P w H h a o) : a < h.objs.size := by
  cases o with
  | lst xs => obtain ⟨_, _, _, _, e⟩ := x; exact Heap.lt_size e
  | tup xs => obtain ⟨_, _, _, p⟩ := x; exact p.lt
  | dK kvs => obtain ⟨_, _, _, _, o, _, _, e, _⟩ := x; exact Heap.lt_size e
  | dT kvs => obtain ⟨_, _, _, _, o, _, _, e, _⟩ := x; exact Heap.lt_size e
  | set S n => obtain ⟨o, _, _, _, e, _⟩ := x; exact Heap.lt_size e
  | ins C dx fs => obtain ⟨_, _, _, e, _⟩ := x; exact Heap.lt_size e
  | own y => obtain ⟨_, e⟩ := x; exact Heap.lt_size e
  | xd fs => obtain ⟨_, ⟨_, _, _, e, _⟩, _⟩ := x; exact Heap.lt_size e
  | rng lo hi => obtain ⟨_, _, _, e⟩ := x; exact Heap.lt_size e
  | frz ob u => obtain ⟨e, _⟩ := x; exact Heap.lt_size e
  | tbl ps => exact Heap.lt_size (show h.get? a = some _ from x)
  | met f y => exact Heap.lt_size (show h.get? a = some _ from x)
  | ext φ => obtain ⟨_, ⟨_, e⟩, _⟩ := x; exact Heap.lt_size e
theorem Paired.mapP {α β : Type} {F G : α → β → Prop} : ∀ {l₁ : List α} {l₂ : List β}, Paired F l₁ l₂ → (∀ a b, F a b → G a b) → Paired G l₁ l₂
  | _, _, .nil, _ => .nil
  | _, _, .cons r t, f => .cons (f _ _ r) (Paired.mapP t f)
theorem Paired.imp' {α β : Type} {F G : α → β → Prop} (f : ∀ a b, F a b → G a b) {l₁ : List α} {l₂ : List β} (r : Paired F l₁ l₂) : Paired G l₁ l₂ := Paired.mapP r f
/-- what an object's description leans on: its own object, its own dict, the tuples -/
theorem ObjOk.stay (x : ObjOk P w H h a o) (k : ∀ b u, (b = a ∨ H b = some (.own a)) → h.get? b = some u → h'.get? b = some u)
    (ho : ∀ b, H b = some (.own a) → H' b = some (.own a)) (ht : ∀ b xs, H b = some (.tup xs) → H' b = some (.tup xs)) : ObjOk P w H' h' a o := by
  induction o with
  | lst xs => obtain ⟨z, its, n, r, e⟩ := x; exact ⟨z, its, n, r, k _ _ (.inl rfl) e⟩
  | tup xs => obtain ⟨z, its, r, ob, e, c⟩ := x; exact ⟨z, its, r, ob, k _ _ (.inl rfl) e, c⟩
  | dK kvs => obtain ⟨z, y, vs, r, ob, es, ep, e, c⟩ := x; exact ⟨z, y, vs, r, ob, es, ep, k _ _ (.inl rfl) e, c⟩
  | dT kvs =>
    obtain ⟨z, y, xs, r, ob, es, ep, e, c⟩ := x
    exact ⟨z, y, xs, Paired.mapP r fun p q z => ⟨z.1, ht _ _ z.2.1, z.2.2⟩, ob, es, ep, k _ _ (.inl rfl) e, c⟩
  | set S n => obtain ⟨ob, es, ep, t, e, c⟩ := x; exact ⟨ob, es, ep, t, k _ _ (.inl rfl) e, c⟩
  | ins C dx fs =>
    obtain ⟨d, z, ne, e, mA, ⟨od, es, ep, e2, c⟩, r⟩ := x
    exact ⟨ho _ d, z, ne, k _ _ (.inl rfl) e, mA, ⟨od, es, ep, k _ _ (.inr d) e2, c⟩, r⟩
  | own y => obtain ⟨ob, e⟩ := x; exact ⟨ob, k _ _ (.inl rfl) e⟩
  | xd fs => obtain ⟨mA, ⟨od, es, ep, e, c⟩, r⟩ := x; exact ⟨mA, ⟨od, es, ep, k _ _ (.inl rfl) e, c⟩, r⟩
  | rng lo hi => obtain ⟨t, u, v, e⟩ := x; exact ⟨t, u, v, k _ _ (.inl rfl) e⟩
  | frz ob u ih => obtain ⟨e, q⟩ := x; exact ⟨k _ _ (.inl rfl) e, ih q⟩
  | tbl ps =>
    have e : h.get? a = some { cls := .none, data := .fields ps } := x
    show h'.get? a = some { cls := .none, data := .fields ps }
    exact k a _ (.inl rfl) e
  | met f y =>
    have e : h.get? a = some (PySem.W.methodObj (.ref f) (.ref y)) := x
    show h'.get? a = some (PySem.W.methodObj (.ref f) (.ref y))
    exact k a _ (.inl rfl) e
  | ext φ => obtain ⟨p, ⟨o, e⟩, st⟩ := x; exact ⟨st _ _ p fun o q => k _ _ (.inl rfl) q, ⟨o, k _ _ (.inl rfl) e⟩, st⟩
theorem HOk.lt (x : HOk P w H h) (e : H a = some o) : a < h.objs.size := (x a o e).lt
theorem HOk.fresh (x : HOk P w H h) (e : h.objs.size ≤ a) : H a = none := by
  cases q : H a with
  | none => rfl
  | some u => exact absurd (Nat.lt_of_lt_of_le (x.lt q) e) (Nat.lt_irrefl _)
/-- every object of the heap is kept -/
theorem HOk.kept (x : HOk P w H h) (k : ∀ b u, h.get? b = some u → h'.get? b = some u) : HOk P w H h' := fun a o e =>
  (x a o e).stay (fun b u _ q => k b u q) (fun _ q => q) fun _ _ q => q
/-- a new object is laid and tracked -/
theorem HOk.laid (x : HOk P w H h) (k : ∀ b u, h.get? b = some u → h'.get? b = some u) (hp : h.objs.size ≤ a) (new : ObjOk P w (upd H a o) h' a o) : HOk P w (upd H a o) h' := fun b u e => by
  have hn := x.fresh hp
  by_cases hb : b = a
  · subst hb; rw [upd_same] at e; cases e; exact new
  · rw [upd_ne hb] at e
    exact (x b u e).stay (fun c v _ q => k c v q) (fun c q => by rw [upd_ne (ne_of_none q hn)]; exact q) fun c xs q => by rw [upd_ne (ne_of_none q hn)]; exact q
end

/-- what may be read as u: it is u, or a known u -/
def Rd (H : Hp) (a : Addr) (u : HO) : Prop := H a = some u ∨ ∃ o, H a = some (.frz o u)
theorem Rd.of {H : Hp} {a : Addr} {u : HO} (h : H a = some u) : Rd H a u := .inl h
theorem Rd.ok {P : Program} {w : World} {H : Hp} {h : Heap} {a : Addr} {u : HO} (r : Rd H a u) (x : HOk P w H h) : ObjOk P w H h a u := by
  rcases r with r | ⟨o, r⟩
  · exact x a u r
  · obtain ⟨_, q⟩ := x a _ r
    exact q
/-- what may be written -/
def Mut : Option HO → Prop
  | some (.lst _) => True
  | some (.dK _) => True
  | some (.dT _) => True
  | some (.set _ _) => True
  | some (.ins _ _ _) => True
  | some (.ext _) => True
  | _ => False
section
variable {P : Program} {w : World} {H : Hp} {h h' : Heap} {x e : Addr} {o' : HO}
/-- the object at e is changed: x itself, or the dict of the instance x -/
theorem HOk.write (ok : HOk P w H h) (mu : Mut (H x)) (he : e = x ∨ H e = some (.own x)) (k : ∀ b u, b ≠ e → h.get? b = some u → h'.get? b = some u) (heo : ∃ u, h'.get? e = some u)
    (new : ObjOk P w (upd H x o') h' x o') : HOk P w (upd H x o') h' := fun b u q => by
  have nown : ∀ c y, H c = some (.own y) → c ≠ x := fun c y r z => by subst z; rw [r] at mu; exact mu
  have ntup : ∀ c xs, H c = some (.tup xs) → c ≠ x := fun c xs r z => by subst z; rw [r] at mu; exact mu
  by_cases hb : b = x
  · subst hb; rw [upd_same] at q; cases q; exact new
  · rw [upd_ne hb] at q
    by_cases hbe : b = e
    · have q' : H b = some (.own x) := by
        rcases he with z | z
        · exact absurd (hbe.trans z) hb
        · rw [hbe]; exact z
      rw [q] at q'; cases q'
      obtain ⟨v, hv⟩ := heo
      exact ⟨v, by rw [hbe]; exact hv⟩
    · refine (ok b u q).stay (fun c v hc r => k c v ?_ r) (fun c r => by rw [upd_ne (nown c b r)]; exact r) fun c xs r => by rw [upd_ne (ntup c xs r)]; exact r
      rcases hc with rfl | hc
      · exact hbe
      · rintro rfl
        rcases he with z | z
        · exact nown c b hc z
        · rw [hc] at z; cases z; exact hb rfl
end

/-! ### kept unless tracked; of the frames at fs (the callers') the slots may change (an exception that passes writes there); of the records at ex (iterators) nothing is said -/
structure Un (fs ex : List Addr) (H H' : Hp) (h h' : Heap) : Prop where
  keep : ∀ b o, h.get? b = some o → H b = none → b ∉ fs → b ∉ ex → h'.get? b = some o
  slot : ∀ b o, h.get? b = some o → H b = none → b ∈ fs → b ∉ ex → ∃ sl, h'.get? b = some { o with slots := sl }
  free : ∀ b o, h.get? b = some o → H b = none → b ∉ ex → H' b = none
  there : ∀ b o, h.get? b = some o → b ∉ ex → ∃ o', h'.get? b = some o'
  tups : ∀ b xs, H b = some (.tup xs) → H' b = some (.tup xs)
  frzs : ∀ b o u, H b = some (.frz o u) → H' b = some (.frz o u)
  tbls : ∀ b ps, H b = some (.tbl ps) → ∃ more, H' b = some (.tbl (ps ++ more))
section
variable {fs fs' ex ex' : List Addr} {H H1 H2 : Hp} {h h1 h2 h' : Heap} {a x e : Addr} {o : HO}
theorem Un.any (u : Un fs ex H H1 h h1) {b : Addr} {ob : Obj} (q : h.get? b = some ob) (n : H b = none) (hx : b ∉ ex) : ∃ sl, h1.get? b = some { ob with slots := sl } := by
  by_cases hb : b ∈ fs
  · exact u.slot b ob q n hb hx
  · exact ⟨ob.slots, u.keep b ob q n hb hx⟩
theorem Un.trans (a : Un fs ex H H1 h h1) (b : Un fs ex H1 H2 h1 h2) : Un fs ex H H2 h h2 where
  keep := fun c ob q n hc hx => b.keep c ob (a.keep c ob q n hc hx) (a.free c ob q n hx) hc hx
  slot := fun c ob q n hc hx => by
    obtain ⟨sl, e1⟩ := a.slot c ob q n hc hx
    obtain ⟨sl', e2⟩ := b.slot c _ e1 (a.free c ob q n hx) hc hx
    exact ⟨sl', e2⟩
  free := fun c ob q n hx => by
    obtain ⟨o', e1⟩ := a.there c ob q hx
    exact b.free c o' e1 (a.free c ob q n hx) hx
  there := fun c ob q hx => by
    obtain ⟨o', e1⟩ := a.there c ob q hx
    exact b.there c o' e1 hx
  tups := fun c xs q => b.tups c xs (a.tups c xs q)
  frzs := fun c ob xs q => b.frzs c ob xs (a.frzs c ob xs q)
  tbls := fun c ps q => by
    obtain ⟨m1, e1⟩ := a.tbls c ps q
    obtain ⟨m2, e2⟩ := b.tbls c _ e1
    exact ⟨m1 ++ m2, by rw [e2, Array.append_assoc]⟩
theorem Un.kept (k : ∀ b u, h.get? b = some u → h'.get? b = some u) : Un fs ex H H h h' :=
  ⟨fun b ob q _ _ _ => k b ob q, fun b ob q _ _ _ => ⟨ob.slots, k b ob q⟩, fun _ _ _ n _ => n, fun b ob q _ => ⟨ob, k b ob q⟩, fun _ _ q => q, fun _ _ _ q => q, fun _ ps q => ⟨#[], by rw [q]; simp⟩⟩
theorem Un.refl : Un fs ex H H h h := Un.kept fun _ _ q => q
theorem Un.laid (k : ∀ b u, h.get? b = some u → h'.get? b = some u) (hp : h.objs.size ≤ a) (hn : H a = none) : Un fs ex H (upd H a o) h h' where
  keep := fun b u q _ _ _ => k b u q
  slot := fun b u q _ _ _ => ⟨u.slots, k b u q⟩
  free := fun b u q n _ => by rw [upd_ne (Nat.ne_of_lt (Nat.lt_of_lt_of_le (Heap.lt_size q) hp))]; exact n
  there := fun b u q _ => ⟨u, k b u q⟩
  tups := fun b xs q => by rw [upd_ne (ne_of_none q hn)]; exact q
  frzs := fun b u xs q => by rw [upd_ne (ne_of_none q hn)]; exact q
  tbls := fun b ps q => ⟨#[], by rw [upd_ne (ne_of_none q hn), q]; simp⟩
theorem Un.write (mu : Mut (H x)) (he : e = x ∨ H e = some (.own x)) (k : ∀ b u, b ≠ e → h.get? b = some u → h'.get? b = some u) (heo : ∃ u, h'.get? e = some u) : Un fs ex H (upd H x o) h h' := by
  have hx : ∀ b, H b = none → b ≠ x := fun b n z => by subst z; rw [n] at mu; exact mu
  have hb : ∀ b, H b = none → b ≠ e := fun b n z => by
    subst z
    rcases he with r | r
    · exact hx b n r
    · rw [n] at r; cases r
  have hm : ∀ b u, H b = some u → ¬ Mut (some u) → b ≠ x := fun b u q nm z => by subst z; rw [q] at mu; exact nm mu
  refine ⟨fun b u q n _ _ => k b u (hb b n) q, fun b u q n _ _ => ⟨u.slots, k b u (hb b n) q⟩, fun b u q n _ => by rw [upd_ne (hx b n)]; exact n, fun b u q _ => ?_,
    fun b xs q => by rw [upd_ne (hm b _ q fun z => z)]; exact q, fun b u xs q => by rw [upd_ne (hm b _ q fun z => z)]; exact q, fun b ps q => ⟨#[], by rw [upd_ne (hm b _ q fun z => z), q]; simp⟩⟩
  by_cases hbe : b = e
  · subst hbe; exact heo
  · exact ⟨u, k b u hbe q⟩
theorem Un.mono (u : Un fs ex H H1 h h1) (hs : ∀ b ∈ fs, b ∈ fs') (hx : ∀ b ∈ ex, b ∈ ex') : Un fs' ex' H H1 h h1 :=
  ⟨fun b ob q n hb he => u.keep b ob q n (fun z => hb (hs b z)) fun z => he (hx b z), fun _ _ q n _ he => u.any q n fun z => he (hx _ z), fun b ob q n he => u.free b ob q n fun z => he (hx b z), fun b ob q he => u.there b ob q fun z => he (hx b z), u.tups, u.frzs, u.tbls⟩
end

/-! ### the heap without what is tracked -/
def trk (h : Heap) (H : Hp) : List Addr := (List.range h.objs.size).filter fun a => (H a).isSome
def hidT (h : Heap) (H : Hp) : Heap := PySem.W.hideAll h (trk h H)
theorem hidT_size (h : Heap) (H : Hp) : (hidT h H).objs.size = h.objs.size := PySem.W.hideAll_size _ _
theorem hidT_get {h : Heap} {H : Hp} {b : Addr} {o : Obj} (e : h.get? b = some o) (n : H b = none) : (hidT h H).get? b = some o :=
  PySem.W.hideAll_get _ e fun hm => by
    have q : (H b).isSome = true := (List.mem_filter.mp hm).2
    rw [n] at q; simp at q
theorem of_hidT {h : Heap} {H : Hp} {b : Addr} {o : Obj} (e : (hidT h H).get? b = some o) : h.get? b = some o ∧ H b = none := by
  have e' : h.get? b = some o := PySem.W.of_hideAll (trk h H) e
  refine ⟨e', ?_⟩
  cases q : H b with
  | none => rfl
  | some x =>
    have hm : b ∈ trk h H := List.mem_filter.mpr ⟨List.mem_range.mpr (Heap.lt_size e'), by simp [q]⟩
    have z : (hidT h H).get? b = none := PySem.W.hideAll_none (trk h H) hm
    rw [z] at e; cases e

/-! ### OpenK's ledger, filled with every new object but one -/
def allNews (g h : Heap) (L : Addr) : List (Addr × Obj) := (List.range h.objs.size).filterMap fun a => if a = L ∨ (g.get? a).isSome = true then none else (h.get? a).map fun o => (a, o)
theorem mem_allNews {g h : Heap} {L a : Addr} {o : Obj} (h1 : a ≠ L) (h2 : g.get? a = none) (h3 : h.get? a = some o) : (a, o) ∈ allNews g h L :=
  List.mem_filterMap.mpr ⟨a, List.mem_range.mpr (Heap.lt_size h3), by simp [h1, h2, h3]⟩
theorem of_mem_allNews {g h : Heap} {L : Addr} {p : Addr × Obj} (hp : p ∈ allNews g h L) : p.1 ≠ L ∧ g.get? p.1 = none ∧ h.get? p.1 = some p.2 := by
  obtain ⟨b, _, e⟩ := List.mem_filterMap.mp hp
  split at e
  · cases e
  · rename_i hn
    cases q : h.get? b with
    | none => rw [q] at e; simp at e
    | some u =>
      rw [q] at e
      simp only [Option.map_some, Option.some.injEq] at e
      subst e
      refine ⟨fun z => hn (.inl z), ?_, q⟩
      show g.get? b = none
      cases r : g.get? b with
      | none => rfl
      | some v => exact (hn (.inr (by simp [r]))).elim
def rest (g h : Heap) (L d : Addr) : List (Addr × Obj) := (allNews g h L).filter fun p => decide (p.1 ≠ d)
theorem rest_ne {g h : Heap} {L d : Addr} : ∀ p ∈ rest g h L d, p.1 ≠ d := fun p hp => of_decide_eq_true (List.mem_filter.mp hp).2
theorem mem_rest {g h : Heap} {L d a : Addr} {o : Obj} (h1 : a ≠ L) (h2 : g.get? a = none) (h3 : h.get? a = some o) (h4 : a ≠ d) : (a, o) ∈ rest g h L d :=
  List.mem_filter.mpr ⟨mem_allNews h1 h2 h3, decide_eq_true h4⟩
theorem news_all {g h : Heap} {L : Addr} : News g L h (allNews g h L) := fun p hp => let ⟨a, b, c⟩ := of_mem_allNews hp; ⟨c, a, b⟩
theorem news_at {g h : Heap} {L d : Addr} {o : Obj} (h1 : d ≠ L) (h2 : g.get? d = none) (h3 : h.get? d = some o) : News g L h ((d, o) :: rest g h L d) := fun p hp => by
  rcases List.mem_cons.mp hp with rfl | hp
  · exact ⟨h3, h1, h2⟩
  · exact news_all p (List.mem_filter.mp hp).1
/-- behind a rule that changed d alone: all else but the frame is kept -/
theorem kept_of_news {g h h' : Heap} {L d : Addr} {m : Str → Option Value} (k : ∀ b o, g.get? b = some o → h.get? b = some o) (F : Fr g L h' m) (N : News g L h' (rest g h L d)) :
    ∀ b o, b ≠ L → b ≠ d → h.get? b = some o → h'.get? b = some o := fun b o h1 h2 e => by
  cases q : g.get? b with
  | some u =>
    have := k b u q
    rw [e] at this; cases this
    exact F.keep b _ q
  | none => exact (N (b, o) (mem_rest h1 q e h2)).1
end L2

namespace L2
open PySem PySem.Spec PyProof.Rows

/-- the module's facts, over the base: the heap at the law's entry without what is tracked there -/
structure Mod (K : PySem.W.Frag) (mg : Str → Option Value) (base : Heap) : Prop where
  kin : K.In base
  glob : base.Ns mainGlobals mg
  blt : ∃ mb, base.Ns builtinsNs mb ∧ ∀ x : Str, x ≠ "__name__" → mb x = bootBuiltins x
  nolimit : base.NoLimit

/-- the context: a def's body (or a comprehension's block) running. base: fixed through the whole law; s₀, H₀: the entry; outer: the frames whose slots others may change (a def's callers); stack: all frames that run;
   ex: iterators that were made ahead of the entry and are walked here (a comprehension's); fn: the names whose cells were made at the entry (a def: all; a comprehension's block: its own); calm: not within an except suite; pn: pins that every state bears; xe: what is wanted of an exception that leaves the code -/
structure Cx where
  prog : Program
  w : World
  K : PySem.W.Frag
  mg : Str → Option Value
  base : Heap
  A : Around
  N : List Str
  s₀ : Shared
  H₀ : Hp
  env : Env
  outer : List Env
  stack : List Env
  ex : List Addr
  fn : Str → Bool
  calm : Bool
  pn : List (Addr × Obj)
  xe : Value → Shared → Prop
/-- the callers' frames -/
def frs (l : List Env) : List Addr := l.filterMap (·.frame)
abbrev Cx.fs (X : Cx) : List Addr := frs X.outer

def Vis (sc : Scope) (x : Str) : Prop := sc.names.lookup x = some .local ∨ sc.names.lookup x = some .cell ∨ sc.names.lookup x = some .free
def Loc (sc : Scope) (x : Str) : Prop := sc.names.lookup x = some .local ∨ sc.names.lookup x = some .cell
def Look (env : Env) (h : Heap) (m : Str → Option Value) (x : Str) (u : Value) : Prop :=
  (env.kindOf x = some .local ∧ m x = some u) ∨ ((env.kindOf x = some .cell ∨ env.kindOf x = some .free) ∧ ∃ c, env.cells.lookup x = some c ∧ h.IsCell c (some u))

structure Cx.Ok (X : Cx) : Prop where
  mod : Mod X.K X.mg X.base
  kind : X.env.scope.kind = .function
  glob : X.env.globals = mainGlobals
  blt : X.env.builtins = builtinsNs
  above : X.s₀.heap.objs.size ≤ X.env.locals
  inj : ∀ x y c, X.env.cells.lookup x = some c → X.env.cells.lookup y = some c → x = y
  has : ∀ x, (X.env.kindOf x = some .cell ∨ X.env.kindOf x = some .free) → ∃ c, X.env.cells.lookup x = some c
  cab : ∀ x c, X.fn x = true → X.env.cells.lookup x = some c → X.s₀.heap.objs.size ≤ c
  hd : X.calm = true → X.A.handled = none
  frames : X.A.frames = some X.stack
  stk : X.stack = X.outer ∨ (X.stack = X.env :: X.outer ∧ X.env.frame = some X.env.locals)
  exf : ∀ b ∈ X.ex, b ≠ X.env.locals ∧ ∀ x c, X.env.cells.lookup x = some c → c ≠ b
  bs : ∀ b o, X.base.get? b = some o → X.s₀.heap.get? b = some o ∧ X.H₀ b = none
  bsz : X.base.objs.size ≤ X.s₀.heap.objs.size
  noex : ∀ b o, X.base.get? b = some o → b ∉ X.ex
  exfs : ∀ b ∈ X.ex, b ∉ X.fs
  funs : X.s₀.heap.FunFrames X.base X.outer
  frf : ∀ b ∈ X.fs, X.H₀ b = none

structure Inv (X : Cx) (pins : List (Addr × Obj)) (σ : List (Option V)) (H : Hp) (s : Shared) : Prop where
  ok : X.Ok
  os : s.os = X.s₀.os
  bare : AllBare s.gens
  base : Un X.fs X.ex X.H₀ H X.s₀.heap s.heap
  loc : ∃ m, s.heap.Ns X.env.locals m ∧ ∀ (i : Nat) (x : Str) (v : V), X.N[i]? = some x → σ[i]? = some (some v) → Vis X.env.scope x → ∃ u, RelV v u ∧ Look X.env s.heap m x u
  cell : ∀ x c, X.env.cells.lookup x = some c → ∃ v, s.heap.IsCell c v
  free : H X.env.locals = none
  freeC : ∀ x c, X.env.cells.lookup x = some c → H c = none
  pin : ∀ p ∈ X.pn ++ pins, s.heap.get? p.1 = some p.2 ∧ H p.1 = none ∧ p.1 ≠ X.env.locals ∧ p.1 ∉ X.fs ∧ ∀ v, p.2.data ≠ .cell v
  hok : HOk X.prog X.w H s.heap
  len : σ.length = X.N.length

section
variable {X : Cx} {pins : List (Addr × Obj)} {σ : List (Option V)} {H H' : Hp} {s : Shared} {h' : Heap}

theorem Cx.Ok.nofr (ok : X.Ok) {b : Addr} {o : Obj} (e : X.base.get? b = some o) : b ∉ X.fs := fun hb => by
  have := (ok.funs.mem hb).1
  rw [e] at this; cases this
theorem Inv.bs (I : Inv X pins σ H s) : ∀ b o, X.base.get? b = some o → s.heap.get? b = some o ∧ H b = none := fun b o e =>
  ⟨I.base.keep b o (I.ok.bs b o e).1 (I.ok.bs b o e).2 (I.ok.nofr e) (I.ok.noex b o e), I.base.free b o (I.ok.bs b o e).1 (I.ok.bs b o e).2 (I.ok.noex b o e)⟩
theorem Inv.bk (I : Inv X pins σ H s) : ∀ b o, X.base.get? b = some o → s.heap.get? b = some o := fun b o e => (I.bs b o e).1
theorem Inv.mod (I : Inv X pins σ H s) : Mod X.K X.mg X.base := I.ok.mod
theorem Inv.kIn (I : Inv X pins σ H s) : X.K.In s.heap := I.ok.mod.kin.keeps I.bk
theorem Inv.nolimit (I : Inv X pins σ H s) : s.heap.NoLimit := I.ok.mod.nolimit.keeps I.bk
/-- the frame over the base: for OpenK's rules (K.In X.base is I.mod.kin) -/
theorem Inv.fr (I : Inv X pins σ H s) : ∃ m, Fr X.base X.env.locals s.heap m :=
  let ⟨m, hn, _⟩ := I.loc
  ⟨m, hn, I.bk, Nat.le_trans I.ok.bsz I.ok.above⟩
theorem Inv.lt (I : Inv X pins σ H s) : X.env.locals < s.heap.objs.size := let ⟨_, hn, _⟩ := I.loc; hn.lt
theorem Inv.sz (I : Inv X pins σ H s) : X.s₀.heap.objs.size ≤ s.heap.objs.size := Nat.le_trans I.ok.above (Nat.le_of_lt I.lt)
theorem Inv.nofs (I : Inv X pins σ H s) {a : Addr} (h : s.heap.objs.size ≤ a) : a ∉ X.fs := fun hb => by
  obtain ⟨_, o, ho, _⟩ := I.ok.funs.mem hb
  exact absurd (Nat.lt_of_lt_of_le (Heap.lt_size ho) (Nat.le_trans I.sz h)) (Nat.lt_irrefl _)
theorem Inv.cne (I : Inv X pins σ H s) : ∀ x c, X.env.cells.lookup x = some c → c ≠ X.env.locals := fun x c e z => by
  obtain ⟨v, o, ho, hd⟩ := I.cell x c e
  obtain ⟨m, ⟨o', es, ep, ho', hd', _⟩, _⟩ := I.loc
  rw [z, ho'] at ho; cases ho; rw [hd'] at hd; cases hd
theorem Inv.funs (I : Inv X pins σ H s) : s.heap.FunFrames X.base X.outer := by
  have all : ∀ (l : List Env), (∀ b ∈ frs l, b ∈ X.fs) → X.s₀.heap.FunFrames X.base l → s.heap.FunFrames X.base l := by
    intro l
    induction l with
    | nil => intro _ _; trivial
    | cons env r ih =>
      intro hs hl
      obtain ⟨hk, ⟨L, o, hf, hn, ho, hd⟩, hr⟩ := hl
      have hL : L ∈ X.fs := hs L (by unfold frs; rw [List.filterMap_cons, hf]; exact List.mem_cons_self)
      obtain ⟨sl, e⟩ := I.base.slot L o ho (I.ok.frf L hL) hL fun z => I.ok.exfs L z hL
      exact ⟨hk, ⟨L, _, hf, hn, e, hd⟩, ih (fun b hb => hs b (by unfold frs; rw [List.filterMap_cons, hf]; exact List.mem_cons_of_mem _ hb)) hr⟩
  exact all X.outer (fun _ hb => hb) I.ok.funs

/-- the frames that run, for a call -/
theorem Inv.stack (I : Inv X pins σ H s) : s.heap.FunFrames X.base X.stack := by
  rcases I.ok.stk with e | ⟨e, hf⟩
  · rw [e]; exact I.funs
  · rw [e]
    obtain ⟨m, hn, _⟩ := I.loc
    refine .cons (by rw [I.ok.kind]; decide) hf hn ?_ I.funs
    exact Heap.get?_none_of_le (Nat.le_trans I.ok.bsz I.ok.above)
theorem Inv.stkSub (I : Inv X pins σ H s) : ∀ b ∈ frs X.stack, b ∈ X.env.locals :: X.fs := fun b hb => by
  rcases I.ok.stk with e | ⟨e, hf⟩
  · rw [e] at hb; exact List.mem_cons_of_mem _ hb
  · rw [e] at hb
    unfold frs at hb
    rw [List.filterMap_cons, hf] at hb
    exact hb
theorem Inv.stkFree (I : Inv X pins σ H s) : ∀ b ∈ frs X.stack, H b = none := fun b hb => by
  rcases List.mem_cons.mp (I.stkSub b hb) with e | hb
  · rw [e]; exact I.free
  · obtain ⟨_, o, ho, _⟩ := I.ok.funs.mem hb
    exact I.base.free b o ho (I.ok.frf b hb) fun z => I.ok.exfs b z hb

/-- THE STEP: the untracked objects but the frame and the records at ch are kept (the callers' frames up to slots), the frame's map is kept, the new abstract heap is held -/
theorem Inv.step {g' : Array GenState} {t' : Nat} {d' : Drawn} {ch : List Addr} (I : Inv X pins σ H s)
    (hch : ∀ b ∈ ch, (b ∈ X.ex ∨ X.s₀.heap.objs.size ≤ b) ∧ b ≠ X.env.locals ∧ (∀ x c, X.env.cells.lookup x = some c → c ≠ b) ∧ ∀ p ∈ X.pn ++ pins, p.1 ≠ b)
    (keep : ∀ b o, b ≠ X.env.locals → b ∉ X.fs → b ∉ ch → s.heap.get? b = some o → H b = none → h'.get? b = some o)
    (slot : ∀ b o, b ≠ X.env.locals → b ∈ X.fs → b ∉ ch → s.heap.get? b = some o → H b = none → ∃ sl, h'.get? b = some { o with slots := sl }) (free : ∀ b o, b ∉ ch → s.heap.get? b = some o → H b = none → H' b = none)
    (there : ∀ b o, b ∉ ch → s.heap.get? b = some o → ∃ o', h'.get? b = some o')
    (tups : ∀ b xs, H b = some (.tup xs) → H' b = some (.tup xs)) (frzs : ∀ b o u, H b = some (.frz o u) → H' b = some (.frz o u)) (tbls : ∀ b ps, H b = some (.tbl ps) → ∃ more, H' b = some (.tbl (ps ++ more)))
    (ns : ∀ m, s.heap.Ns X.env.locals m → h'.Ns X.env.locals m) (hok : HOk X.prog X.w H' h') (hg : AllBare g') :
    Inv X pins σ H' { s with heap := h', gens := g', drawn := d', toks := t' } := by
  have neL : ∀ b o, X.s₀.heap.get? b = some o → b ≠ X.env.locals := fun b o e => Nat.ne_of_lt (Nat.lt_of_lt_of_le (Heap.lt_size e) I.ok.above)
  have neC : ∀ b o, X.s₀.heap.get? b = some o → b ∉ X.ex → b ∉ ch := fun b o e hx hb => by
    rcases (hch b hb).1 with z | z
    · exact hx z
    · exact absurd (Nat.lt_of_lt_of_le (Heap.lt_size e) z) (Nat.lt_irrefl _)
  have cellK : ∀ x c, X.env.cells.lookup x = some c → ∀ v, s.heap.IsCell c v → h'.IsCell c v := fun x c e v ⟨o, ho, hd⟩ => by
    have nch : c ∉ ch := fun z => (hch c z).2.2.1 x c e rfl
    by_cases hc : c ∈ X.fs
    · obtain ⟨sl, q⟩ := slot c o (I.cne x c e) hc nch ho (I.freeC x c e)
      exact ⟨_, q, hd⟩
    · exact ⟨o, keep c o (I.cne x c e) hc nch ho (I.freeC x c e), hd⟩
  refine ⟨I.ok, I.os, hg, ⟨fun b o e n hb hx => ?_, fun b o e n hb hx => ?_, fun b o e n hx => ?_, fun b o e hx => ?_, fun b xs e => tups b xs (I.base.tups b xs e), fun b o xs e => frzs b o xs (I.base.frzs b o xs e), fun b ps e => ?_⟩, ?_, fun x c e => ?_, ?_, fun x c e => ?_, fun p hp => ?_, hok, I.len⟩
  · exact keep b o (neL b o e) hb (neC b o e hx) (I.base.keep b o e n hb hx) (I.base.free b o e n hx)
  · obtain ⟨sl, e1⟩ := I.base.slot b o e n hb hx
    obtain ⟨sl', e2⟩ := slot b _ (neL b o e) hb (neC b o e hx) e1 (I.base.free b o e n hx)
    exact ⟨sl', e2⟩
  · obtain ⟨o', e1⟩ := I.base.there b o e hx
    exact free b o' (neC b o e hx) e1 (I.base.free b o e n hx)
  · obtain ⟨o', e1⟩ := I.base.there b o e hx
    exact there b o' (neC b o e hx) e1
  · obtain ⟨m1, e1⟩ := I.base.tbls b ps e
    obtain ⟨m2, e2⟩ := tbls b _ e1
    exact ⟨m1 ++ m2, by rw [e2, Array.append_assoc]⟩
  · obtain ⟨m, hn, hl⟩ := I.loc
    refine ⟨m, ns m hn, fun i x v e1 e2 e3 => ?_⟩
    obtain ⟨u, r, l⟩ := hl i x v e1 e2 e3
    refine ⟨u, r, ?_⟩
    rcases l with l | ⟨k, c, e, z⟩
    · exact .inl l
    · exact .inr ⟨k, c, e, cellK x c e _ z⟩
  · obtain ⟨v, z⟩ := I.cell x c e
    exact ⟨v, cellK x c e v z⟩
  · obtain ⟨m, ⟨o, _, _, ho, _⟩, _⟩ := I.loc
    exact free _ o (fun z => (hch _ z).2.1 rfl) ho I.free
  · obtain ⟨v, o, ho, hd⟩ := I.cell x c e
    exact free c o (fun z => (hch c z).2.2.1 x c e rfl) ho (I.freeC x c e)
  · obtain ⟨e, n, ne, nf, d⟩ := I.pin p hp
    have nch : p.1 ∉ ch := fun z => (hch p.1 z).2.2.2 p hp rfl
    exact ⟨keep p.1 p.2 ne nf nch e n, free p.1 p.2 nch e n, ne, nf, d⟩
/-- .. where the frame's own object is kept too -/
theorem Inv.un {t' : Nat} (I : Inv X pins σ H s) (u : Un X.fs [] H H' s.heap h') (hok : HOk X.prog X.w H' h') : Inv X pins σ H' { s with heap := h', toks := t' } := by
  obtain ⟨m, ⟨o, es, ep, ho, r⟩, _⟩ := id I.loc
  obtain ⟨sl, hL⟩ := u.any ho I.free (by simp)
  exact I.step (g' := s.gens) (d' := s.drawn) (ch := []) (fun _ z => nomatch z) (fun b o _ hb _ e n => u.keep b o e n hb (by simp)) (fun b o _ hb _ e n => u.slot b o e n hb (by simp)) (fun b o _ e n => u.free b o e n (by simp)) (fun b o _ e => u.there b o e (by simp)) u.tups u.frzs u.tbls (fun m' hm => by
    obtain ⟨o', es', ep', ho', r'⟩ := hm
    rw [ho] at ho'; cases ho'
    exact ⟨_, es', ep', hL, r'⟩) hok I.bare
/-- behind a call (or a comprehension's block): the slots of this frame may have changed too, the records at ch may have turned -/
theorem Inv.call {g' : Array GenState} {t' : Nat} {d' : Drawn} {ch : List Addr} (I : Inv X pins σ H s) (u : Un (frs X.stack) ch H H' s.heap h') (hok : HOk X.prog X.w H' h') (hg : AllBare g')
    (hch : ∀ b ∈ ch, (b ∈ X.ex ∨ X.s₀.heap.objs.size ≤ b) ∧ b ≠ X.env.locals ∧ (∀ x c, X.env.cells.lookup x = some c → c ≠ b) ∧ ∀ p ∈ X.pn ++ pins, p.1 ≠ b) :
    Inv X pins σ H' { s with heap := h', gens := g', drawn := d', toks := t' } := by
  obtain ⟨m, ⟨o, es, ep, ho, r⟩, _⟩ := id I.loc
  obtain ⟨sl, hL⟩ := u.any ho I.free fun z => (hch _ z).2.1 rfl
  exact I.step (ch := ch) hch (fun b o hL hb hc e n => u.keep b o e n (fun z => (List.mem_cons.mp (I.stkSub b z)).elim hL hb) hc) (fun b o _ _ hc e n => u.any e n hc) (fun b o hc e n => u.free b o e n hc) (fun b o hc e => u.there b o e hc) u.tups u.frzs u.tbls (fun m' hm => by
    obtain ⟨o', es', ep', ho', r'⟩ := hm
    rw [ho] at ho'; cases ho'
    exact ⟨_, es', ep', hL, r'⟩) hok hg
/-- an untracked record of ours (an iterator) has turned -/
theorem Inv.turned {t' : Nat} {it : Addr} (I : Inv X pins σ H s) (k : ∀ b o, b ≠ it → s.heap.get? b = some o → h'.get? b = some o) (hn : H it = none) (hL : it ≠ X.env.locals)
    (h1 : it ∈ X.ex ∨ X.s₀.heap.objs.size ≤ it) (h2 : ∀ x c, X.env.cells.lookup x = some c → c ≠ it) (h3 : ∀ p ∈ X.pn ++ pins, p.1 ≠ it) : Inv X pins σ H { s with heap := h', toks := t' } := by
  have nit : ∀ b u, H b = some u → b ≠ it := fun b u e z => by rw [z, hn] at e; cases e
  refine I.step (g' := s.gens) (d' := s.drawn) (ch := [it]) (fun b hb => ?_) (fun b o _ _ hc e _ => k b o (fun z => hc (by simp [z])) e) (fun b o _ _ hc e _ => ⟨o.slots, k b o (fun z => hc (by simp [z])) e⟩) (fun _ _ _ _ n => n)
    (fun b o hc e => ⟨o, k b o (fun z => hc (by simp [z])) e⟩) (fun _ _ e => e) (fun _ _ _ e => e) (fun b ps e => ⟨#[], by rw [e]; simp⟩) (fun m hm => ?_) (fun b u e => ?_) I.bare
  · have e : b = it := by simpa using hb
    subst e
    exact ⟨h1, hL, h2, h3⟩
  · obtain ⟨o, es, ep, ho, r⟩ := hm
    exact ⟨o, es, ep, k _ o (Ne.symm hL) ho, r⟩
  · refine (I.hok b u e).stay (fun c v hc q => k c v ?_ q) (fun _ q => q) fun _ _ q => q
    rcases hc with z | z
    · rw [z]; exact nit b u e
    · exact nit c _ z
theorem Inv.tok (I : Inv X pins σ H s) (t : Nat) : Inv X pins σ H { s with toks := t } := I.un (h' := s.heap) (t' := t) Un.refl I.hok
/-- all objects kept -/
theorem Inv.kept {t' : Nat} (I : Inv X pins σ H s) (k : ∀ b u, s.heap.get? b = some u → h'.get? b = some u) : Inv X pins σ H { s with heap := h', toks := t' } := I.un (Un.kept k) (I.hok.kept k)
/-- a new object laid and tracked -/
theorem Inv.laid {a : Addr} {o : HO} {t' : Nat} (I : Inv X pins σ H s) (k : ∀ b u, s.heap.get? b = some u → h'.get? b = some u) (hp : s.heap.objs.size ≤ a) (new : ObjOk X.prog X.w (upd H a o) h' a o) :
    Inv X pins σ (upd H a o) { s with heap := h', toks := t' } := I.un (Un.laid k hp (I.hok.fresh hp)) (I.hok.laid k hp new)
/-- an object written -/
theorem Inv.write {x e : Addr} {o : HO} {t' : Nat} (I : Inv X pins σ H s) (mu : Mut (H x)) (he : e = x ∨ H e = some (.own x)) (k : ∀ b u, b ≠ e → s.heap.get? b = some u → h'.get? b = some u) (heo : ∃ u, h'.get? e = some u)
    (new : ObjOk X.prog X.w (upd H x o) h' x o) : Inv X pins σ (upd H x o) { s with heap := h', toks := t' } := I.un (Un.write mu he k heo) (I.hok.write mu he k heo new)
/-- forgetting slots, pins -/
theorem Inv.weak {σ' : List (Option V)} (I : Inv X pins σ H s) (hl : σ'.length = σ.length) (w : ∀ (i : Nat) v, σ'[i]? = some (some v) → σ[i]? = some (some v)) : Inv X pins σ' H s :=
  ⟨I.ok, I.os, I.bare, I.base, let ⟨m, hn, hl'⟩ := I.loc; ⟨m, hn, fun i x v e1 e2 e3 => hl' i x v e1 (w i v e2) e3⟩, I.cell, I.free, I.freeC, I.pin, I.hok, hl.trans I.len⟩
theorem Inv.pins_of {pins' : List (Addr × Obj)} (I : Inv X pins σ H s) (h : ∀ p ∈ pins', s.heap.get? p.1 = some p.2 ∧ H p.1 = none ∧ p.1 ≠ X.env.locals ∧ p.1 ∉ X.fs ∧ ∀ v, p.2.data ≠ .cell v) : Inv X pins' σ H s :=
  ⟨I.ok, I.os, I.bare, I.base, I.loc, I.cell, I.free, I.freeC, fun p hp => (List.mem_append.mp hp).elim (fun z => I.pin p (List.mem_append_left _ z)) (h p), I.hok, I.len⟩

theorem nodup_ix {N : List Str} (hN : N.Nodup) {i j : Nat} {x : Str} (a : N[i]? = some x) (b : N[j]? = some x) : i = j := by
  obtain ⟨h1, e1⟩ := List.getElem?_eq_some_iff.mp a
  obtain ⟨h2, e2⟩ := List.getElem?_eq_some_iff.mp b
  exact (List.getElem_inj hN).mp (e1.trans e2.symm)

/-- a name is stored; what changed -/
theorem store_ok2 {M : Model} {A : Around} {E : Value → Shared → Prop} {i : Nat} {x : Str} {v : V} {u : Value} {Q : Unit → Shared → Prop} (I : Inv X pins σ H s) (hN : X.N.Nodup) (hi : X.N[i]? = some x) (hx : Loc X.env.scope x) (r : RelV v u)
    (h : ∀ s', Inv X pins (σ.set i (some v)) H s' → (∃ a, Heap.SameBut a s.heap s'.heap ∧ (a = X.env.locals ∨ X.env.cells.lookup x = some a)) → Q () s') (hf : X.fn x = true ∨ X.env.scope.names.lookup x = some .local := by first | exact .inl rfl | exact .inr rfl | assumption) : wpAny M A (storeName X.env x u) Q E s := by
  obtain ⟨m, hn, hl⟩ := id I.loc
  have hcls : (X.env.scope.kind == .class || (X.env.scope.kind == .module && X.env.locals != X.env.globals)) = false := by rw [I.ok.kind]; rfl
  have hiσ : i < σ.length := by rw [I.len]; exact (List.getElem?_eq_some_iff.mp hi).1
  have cne := I.cne
  have tracked : ∀ {a : Addr} {h' : Heap}, (∃ o, s.heap.get? a = some o ∧ H a = none) → Heap.SameBut a s.heap h' → HOk X.prog X.w H h' := fun {a h'} ha hs b ob e => by
    obtain ⟨_, _, hfree⟩ := ha
    refine (I.hok b ob e).stay (fun c w' hc q => (hs.2 c ?_).trans q) (fun _ q => q) fun _ _ q => q
    rintro rfl
    rcases hc with rfl | hc
    · rw [hfree] at e; cases e
    · rw [hfree] at hc; cases hc
  rcases hx with hk | hk
  · refine wpAny_storeName_local hk hn (fun h' hn' hs => ?_) hcls
    obtain ⟨oL, _, _, hoL, _⟩ := id hn
    refine h _ ⟨I.ok, I.os, I.bare, ⟨fun b o e n hb hx => ?_, fun b o e n hb hx => ?_, I.base.free, fun b o e hx => ?_, I.base.tups, I.base.frzs, I.base.tbls⟩, ⟨_, hn', fun j y v' e1 e2 e3 => ?_⟩, fun y c e => ?_, I.free, I.freeC, fun p hp => ?_, tracked ⟨oL, hoL, I.free⟩ hs, by simpa using I.len⟩ ⟨_, hs, .inl rfl⟩
    · exact (hs.2 b (Nat.ne_of_lt (Nat.lt_of_lt_of_le (Heap.lt_size e) I.ok.above))).trans (I.base.keep b o e n hb hx)
    · obtain ⟨sl, e1⟩ := I.base.slot b o e n hb hx
      exact ⟨sl, (hs.2 b (Nat.ne_of_lt (Nat.lt_of_lt_of_le (Heap.lt_size e) I.ok.above))).trans e1⟩
    · obtain ⟨o', e1⟩ := I.base.there b o e hx
      exact ⟨o', (hs.2 b (Nat.ne_of_lt (Nat.lt_of_lt_of_le (Heap.lt_size e) I.ok.above))).trans e1⟩
    · by_cases hj : j = i
      · subst hj
        rw [hi] at e1; cases e1
        rw [List.getElem?_set_self hiσ] at e2
        cases e2
        exact ⟨u, r, .inl ⟨hk, by simp⟩⟩
      · rw [List.getElem?_set_ne (Ne.symm hj)] at e2
        obtain ⟨u', r', q⟩ := hl j y v' e1 e2 e3
        refine ⟨u', r', ?_⟩
        rcases q with ⟨k, e⟩ | ⟨k, c, e, z⟩
        · refine .inl ⟨k, ?_⟩
          have : y ≠ x := fun e => hj (nodup_ix hN e1 (e ▸ hi))
          simp [this, e]
        · exact .inr ⟨k, c, e, z.sameBut hs (cne y c e)⟩
    · obtain ⟨w', z⟩ := I.cell y c e
      exact ⟨w', z.sameBut hs (cne y c e)⟩
    · obtain ⟨e, n, ne, nf, d⟩ := I.pin p hp
      exact ⟨(hs.2 p.1 ne).trans e, n, ne, nf, d⟩
  · have hfn : X.fn x = true := by
      rcases hf with z | z
      · exact z
      · rw [z] at hk; cases hk
    obtain ⟨c, hc⟩ := I.ok.has x (.inl hk)
    obtain ⟨w', z⟩ := I.cell x c hc
    refine wpAny_storeName_cell I.ok.kind hk hc z (fun h' hc' hs => ?_)
    obtain ⟨oc, hoc, hocd⟩ := id z
    refine h { s with heap := h' } ⟨I.ok, I.os, I.bare, ⟨fun b o e n hb hx => ?_, fun b o e n hb hx => ?_, I.base.free, fun b o e hx => ?_, I.base.tups, I.base.frzs, I.base.tbls⟩, ⟨m, hn.sameBut hs (Ne.symm (cne x c hc)), fun j y v' e1 e2 e3 => ?_⟩, fun y c' e => ?_, I.free, I.freeC, fun p hp => ?_, tracked ⟨oc, hoc, I.freeC x c hc⟩ hs, by simpa using I.len⟩ ⟨c, hs, .inr hc⟩
    · exact (hs.2 b (Nat.ne_of_lt (Nat.lt_of_lt_of_le (Heap.lt_size e) (I.ok.cab x c hfn hc)))).trans (I.base.keep b o e n hb hx)
    · obtain ⟨sl, e1⟩ := I.base.slot b o e n hb hx
      exact ⟨sl, (hs.2 b (Nat.ne_of_lt (Nat.lt_of_lt_of_le (Heap.lt_size e) (I.ok.cab x c hfn hc)))).trans e1⟩
    · obtain ⟨o', e1⟩ := I.base.there b o e hx
      exact ⟨o', (hs.2 b (Nat.ne_of_lt (Nat.lt_of_lt_of_le (Heap.lt_size e) (I.ok.cab x c hfn hc)))).trans e1⟩
    · by_cases hj : j = i
      · subst hj
        rw [hi] at e1; cases e1
        rw [List.getElem?_set_self hiσ] at e2
        cases e2
        exact ⟨u, r, .inr ⟨.inl hk, c, hc, hc'⟩⟩
      · rw [List.getElem?_set_ne (Ne.symm hj)] at e2
        obtain ⟨u', r', q⟩ := hl j y v' e1 e2 e3
        refine ⟨u', r', ?_⟩
        rcases q with q | ⟨k, c', e, z'⟩
        · exact .inl q
        · refine .inr ⟨k, c', e, z'.sameBut hs ?_⟩
          rintro rfl
          exact hj (nodup_ix hN e1 (I.ok.inj _ _ _ e hc ▸ hi))
    · by_cases hcc : c' = c
      · subst hcc; exact ⟨_, hc'⟩
      · obtain ⟨w2, z2⟩ := I.cell y c' e
        exact ⟨w2, z2.sameBut hs hcc⟩
    · obtain ⟨e, n, ne, nf, d⟩ := I.pin p hp
      refine ⟨(hs.2 p.1 ?_).trans e, n, ne, nf, d⟩
      intro q
      rw [q, hoc] at e
      have q' : oc = p.2 := Option.some.inj e
      exact d w' (by rw [← q']; exact hocd)
theorem store_ok {M : Model} {A : Around} {E : Value → Shared → Prop} {i : Nat} {x : Str} {v : V} {u : Value} {Q : Unit → Shared → Prop} (I : Inv X pins σ H s) (hN : X.N.Nodup) (hi : X.N[i]? = some x) (hx : Loc X.env.scope x) (r : RelV v u)
    (h : ∀ s', Inv X pins (σ.set i (some v)) H s' → Q () s') (hf : X.fn x = true ∨ X.env.scope.names.lookup x = some .local := by first | exact .inl rfl | exact .inr rfl | assumption) : wpAny M A (storeName X.env x u) Q E s :=
  store_ok2 I hN hi hx r (fun s' I' _ => h s' I') hf
/-- behind a call or a block, the state as it is -/
theorem Inv.call' {s' : Shared} {ch : List Addr} (I : Inv X pins σ H s) (ho : s'.os = s.os) (u : Un (frs X.stack) ch H H' s.heap s'.heap) (hok : HOk X.prog X.w H' s'.heap) (hg : AllBare s'.gens)
    (hch : ∀ b ∈ ch, (b ∈ X.ex ∨ X.s₀.heap.objs.size ≤ b) ∧ b ≠ X.env.locals ∧ (∀ x c, X.env.cells.lookup x = some c → c ≠ b) ∧ ∀ p ∈ X.pn ++ pins, p.1 ≠ b) : Inv X pins σ H' s' := by
  obtain ⟨h', g', d', t', o'⟩ := s'
  have e : o' = s.os := ho
  subst e
  exact I.call (g' := g') (t' := t') (d' := d') u hok hg hch
end

/-! ### the judgements -/
/-- an exception: its class, its own dict's address (where it has one), the abstract heap behind it -/
abbrev XK := Value → Option Addr → Hp → Prop
abbrev St := List (Option V)
abbrev VK := V → Hp → Prop
/-- an expression's reading; a test's; an argument list's -/
abbrev TE := St → Hp → VK → Prop
abbrev TT := St → Hp → (Bool → Hp → Prop) → Prop
abbrev TA := St → Hp → (List V → Hp → Prop) → Prop
/-- what is wanted behind a statement -/
structure Ends where
  nx : St → Hp → Prop
  rt : VK
  bk : St → Hp → Prop := fun _ _ => False
  ct : St → Hp → Prop := fun _ _ => False
abbrev TS := Ends → St → Hp → Prop

def EP (X : Cx) (pins : List (Addr × Obj)) (σ : St) (Q : VK) (u : Value) (s' : Shared) : Prop := ∃ v H', Inv X pins σ H' s' ∧ RelV v u ∧ Q v H'
def TP (X : Cx) (pins : List (Addr × Obj)) (σ : St) (Q : Bool → Hp → Prop) (b : Bool) (s' : Shared) : Prop := ∃ H', Inv X pins σ H' s' ∧ Q b H'
def AP (X : Cx) (pins : List (Addr × Obj)) (σ : St) (Q : List V → Hp → Prop) (us : List Value) (s' : Shared) : Prop := ∃ vs H', Inv X pins σ H' s' ∧ Vals vs us ∧ Q vs H'
def SP (X : Cx) (pins : List (Addr × Obj)) (D : Ends) (f : Flow) (s' : Shared) : Prop :=
  match f with
  | .next => ∃ σ' H', Inv X pins σ' H' s' ∧ D.nx σ' H'
  | .brk => ∃ σ' H', Inv X pins σ' H' s' ∧ D.bk σ' H'
  | .cont => ∃ σ' H', Inv X pins σ' H' s' ∧ D.ct σ' H'
  | .ret u => ∃ v σ' H', Inv X pins σ' H' s' ∧ RelV v u ∧ D.rt v H'

def PE (X : Cx) (e : Expr) (t : TE) : Prop :=
  ∀ (pins : List (Addr × Obj)) (s : Shared) (σ : St) (H : Hp) (Q : VK), Inv X pins σ H s → t σ H Q → wpAny (model X.prog X.w) X.A (eval e X.env) (EP X pins σ Q) X.xe s
def PT (X : Cx) (e : Expr) (t : TT) : Prop :=
  ∀ (pins : List (Addr × Obj)) (s : Shared) (σ : St) (H : Hp) (Q : Bool → Hp → Prop), Inv X pins σ H s → t σ H Q → wpAny (model X.prog X.w) X.A (isTrue e X.env (eval e X.env)) (TP X pins σ Q) X.xe s
/-- a test whatever its 'whole' is (and, or) -/
def PW (X : Cx) (e : Expr) (t : TT) : Prop :=
  ∀ (whole : Sem Value) (pins : List (Addr × Obj)) (s : Shared) (σ : St) (H : Hp) (Q : Bool → Hp → Prop), Inv X pins σ H s → t σ H Q → wpAny (model X.prog X.w) X.A (isTrue e X.env whole) (TP X pins σ Q) X.xe s
theorem PW.pt {X : Cx} {e : Expr} {t : TT} (h : PW X e t) : PT X e t := h _
/-- an argument list (no star), from the left -/
def PA (X : Cx) (es : List Expr) (t : TA) : Prop :=
  ∀ (pos : Pos) (pins : List (Addr × Obj)) (s : Shared) (σ : St) (H : Hp) (Q : List V → Hp → Prop), Inv X pins σ H s → t σ H Q → wpAny (model X.prog X.w) X.A (spliced (backTo pos (starEach es X.env))) (AP X pins σ Q) X.xe s
def PS (X : Cx) (st : Stmt) (t : TS) : Prop :=
  ∀ (pins : List (Addr × Obj)) (s : Shared) (σ : St) (H : Hp) (D : Ends), Inv X pins σ H s → t D σ H → wpAny (model X.prog X.w) X.A (exec st X.env) (SP X pins D) X.xe s
def PSs (X : Cx) (st : List Stmt) (t : TS) : Prop :=
  ∀ (pins : List (Addr × Obj)) (s : Shared) (σ : St) (H : Hp) (D : Ends), Inv X pins σ H s → t D σ H → wpAny (model X.prog X.w) X.A (execs st X.env) (SP X pins D) X.xe s
/-- weaken the end -/
theorem thn {α : Type} {t : Sem α} {Q Q' : α → Shared → Prop} {M : Model} {A : Around} {E : Value → Shared → Prop} {s : Shared} (h : wpAny M A t Q E s) (hQ : ∀ a s, Q a s → Q' a s) : wpAny M A t Q' E s := wpAny_mono h hQ fun _ _ x => x
end L2

namespace L2
open PySem PySem.Spec PyProof.Rows
section
variable {X : Cx}

/-- two expressions in a row -/
theorem bin {a b : Expr} {ta tb : TE} (ha : PE X a ta) (hb : PE X b tb) {pins : List (Addr × Obj)} {s : Shared} {σ : St} {H : Hp} {R : V → V → Hp → Prop} (I : Inv X pins σ H s) (h : ta σ H fun x H1 => tb σ H1 fun y H2 => R x y H2)
    {α : Type} {Q : α → Shared → Prop} {f : Value → Value → Sem α}
    (hf : ∀ v u s2 x y H2, Inv X pins σ H2 s2 → RelV x v → RelV y u → R x y H2 → wpAny (model X.prog X.w) X.A (f v u) Q X.xe s2) :
    wpAny (model X.prog X.w) X.A (eval a X.env) (fun v s₁ => wpAny (model X.prog X.w) X.A (eval b X.env) (fun u s₂ => wpAny (model X.prog X.w) X.A (f v u) Q X.xe s₂) X.xe s₁) X.xe s := by
  refine thn (ha pins s σ H _ I h) fun v s1 ⟨x, H1, I1, r1, q1⟩ => ?_
  refine thn (hb pins s1 σ H1 _ I1 q1) fun u s2 ⟨y, H2, I2, r2, q2⟩ => ?_
  exact hf v u s2 x y H2 I2 r1 r2 q2

/-! ### names and constants -/
def tVar (i : Nat) : TE := fun σ H Q => ∃ v, σ[i]? = some (some v) ∧ Q v H
def tC (v : V) : TE := fun _ H Q => Q v H
theorem pe_var {i : Nat} {x : Str} {pos : Pos} (hN : X.N[i]? = some x) (hv : Vis X.env.scope x) (hd : (x == ("__debug__" : Str)) = false := by decide) (hcd : (x == ("__classdict__" : Str)) = false := by decide) : PE X (.Name x pos) (tVar i) := by
  intro pins s σ H Q I h
  obtain ⟨v, e, h⟩ := h
  obtain ⟨m, hn, hl⟩ := I.loc
  obtain ⟨u, r, l⟩ := hl i x v hN e hv
  have fin : EP X pins σ Q u s := ⟨v, H, I, r, h⟩
  rcases l with ⟨hk, hm⟩ | ⟨hk, c, hc, hcell⟩
  · exact wpAny_Name (wpAny_loadName_local I.ok.kind hk hn hm fin) hd
  · rcases hk with hk | hk
    · exact wpAny_Name (wpAny_loadName_cell I.ok.kind hk hc hcell fin) hd
    · exact wpAny_Name (wpAny_loadName_free I.ok.kind hk hc hcell fin hcd) hd
theorem pe_int {i j pos} : PE X (.Constant (.int i) j pos) (tC (.int i)) := fun _ _ _ H _ I h => wpAny_Constant_int ⟨.int i, H, I.tok _, ⟨_, rfl⟩, h⟩
theorem pe_bl {b j pos} : PE X (.Constant (.bool b) j pos) (tC (.bl b)) := fun _ _ _ H _ I h => Constant_bool ⟨.bl b, H, I, rfl, h⟩
theorem pe_non {j pos} : PE X (.Constant .none j pos) (tC .non) := fun _ _ _ H _ I h => Constant_none ⟨.non, H, I, rfl, h⟩
theorem pe_str {x j pos} : PE X (.Constant (.str x) j pos) (tC (.str x)) := fun _ _ _ H _ I h => Calls.Constant_str ⟨.str x, H, I.tok _, ⟨_, rfl⟩, h⟩

/-- a global name of the def -/
def Gl (X : Cx) (x : Str) : Prop := X.env.kindOf x = some .globalImplicit
theorem ld_glob {E : Value → Shared → Prop} {pins : List (Addr × Obj)} {s : Shared} {σ : St} {H : Hp} {x : Str} {u : Value} {pos : Pos} {Q : Value → Shared → Prop} (I : Inv X pins σ H s) (hg : Gl X x) (hm : X.mg x = some u) (h : Q u s)
    (hd : (x == ("__debug__" : Str)) = false := by decide) : wpAny (model X.prog X.w) X.A (eval (.Name x pos) X.env) Q E s :=
  Calls.Name_function_global I.ok.kind hg (Calls.loadGlobal_global (by rw [I.ok.glob]; exact I.mod.glob.keeps I.bk) hm h) hd
theorem ld_blt {E : Value → Shared → Prop} {pins : List (Addr × Obj)} {s : Shared} {σ : St} {H : Hp} {x : Str} {u : Value} {pos : Pos} {Q : Value → Shared → Prop} (I : Inv X pins σ H s) (hg : Gl X x) (hm : X.mg x = none) (hv : bootBuiltins x = some u) (h : Q u s)
    (hn : x ≠ "__name__" := by decide) (hd : (x == ("__debug__" : Str)) = false := by decide) : wpAny (model X.prog X.w) X.A (eval (.Name x pos) X.env) Q E s := by
  obtain ⟨mb, h1, h2⟩ := I.mod.blt
  exact Calls.Name_function_global I.ok.kind hg (Calls.loadGlobal_builtin (by rw [I.ok.glob]; exact I.mod.glob.keeps I.bk) hm (by rw [I.ok.blt]; exact h1.keeps I.bk) ((h2 x hn).trans hv) h) hd
/-- a module's constant, a class, a function, as a value -/
theorem pe_glob {x : Str} {v : V} {u : Value} {pos : Pos} (hg : Gl X x) (hm : X.mg x = some u) (r : RelV v u) (hd : (x == ("__debug__" : Str)) = false := by decide) : PE X (.Name x pos) (tC v) :=
  fun _ _ _ H _ I h => ld_glob I hg hm ⟨v, H, I, r, h⟩ hd
theorem pe_bltn {x : Str} {v : V} {u : Value} {pos : Pos} (hg : Gl X x) (hm : X.mg x = none) (hv : bootBuiltins x = some u) (r : RelV v u) (hn : x ≠ "__name__" := by decide) (hd : (x == ("__debug__" : Str)) = false := by decide) : PE X (.Name x pos) (tC v) :=
  fun _ _ _ H _ I h => ld_blt I hg hm hv ⟨v, H, I, r, h⟩ hn hd

/-! ### arithmetic -/
/-- two ints -/
def t2I (ta tb : TE) (k : Int → Int → Hp → Prop) : St → Hp → Prop := fun σ H => ta σ H fun x H1 => tb σ H1 fun y H2 => ∃ i j, x = .int i ∧ y = .int j ∧ k i j H2
def tAdd (ta tb : TE) : TE := fun σ H Q => t2I ta tb (fun i j H2 => Q (.int (i + j)) H2) σ H
def tSub (ta tb : TE) : TE := fun σ H Q => t2I ta tb (fun i j H2 => Q (.int (i - j)) H2) σ H
/-- the left factor below 2^64 -/
def tMul (ta tb : TE) : TE := fun σ H Q => t2I ta tb (fun i j H2 => (-(2 ^ 64) < i ∧ i < 2 ^ 64) ∧ Q (.int (i * j)) H2) σ H
variable {a b : Expr} {ta tb : TE} {pos : Pos}
theorem pe_add (ha : PE X a ta) (hb : PE X b tb) : PE X (.BinOp a .Add b pos) (tAdd ta tb) := by
  intro pins s σ H Q I h
  refine wpAny_BinOp (bin ha hb I h fun v u s2 x y H2 I2 rx ry q => ?_)
  obtain ⟨i, j, rfl, rfl, q⟩ := q
  obtain ⟨t, rfl⟩ := rx
  obtain ⟨t', rfl⟩ := ry
  exact add_int ⟨.int _, H2, I2.tok _, ⟨_, rfl⟩, q⟩
theorem pe_sub (ha : PE X a ta) (hb : PE X b tb) : PE X (.BinOp a .Sub b pos) (tSub ta tb) := by
  intro pins s σ H Q I h
  refine wpAny_BinOp (bin ha hb I h fun v u s2 x y H2 I2 rx ry q => ?_)
  obtain ⟨i, j, rfl, rfl, q⟩ := q
  obtain ⟨t, rfl⟩ := rx
  obtain ⟨t', rfl⟩ := ry
  exact sub_int ⟨.int _, H2, I2.tok _, ⟨_, rfl⟩, q⟩
theorem pe_mul (ha : PE X a ta) (hb : PE X b tb) : PE X (.BinOp a .Mult b pos) (tMul ta tb) := by
  intro pins s σ H Q I h
  refine wpAny_BinOp (bin ha hb I h fun v u s2 x y H2 I2 rx ry q => ?_)
  obtain ⟨i, j, rfl, rfl, ⟨q1, q2⟩, q⟩ := q
  obtain ⟨t, rfl⟩ := rx
  obtain ⟨t', rfl⟩ := ry
  exact mul_int ⟨.int _, H2, I2.tok _, ⟨_, rfl⟩, q⟩ (.of_left (intBits_le_64 q1 q2))

/-! ### comparisons -/
def PC (X : Cx) (op : CmpOp) (a b : Expr) (t : TE) : Prop :=
  ∀ (pins : List (Addr × Obj)) (s : Shared) (σ : St) (H : Hp) (Q : VK), Inv X pins σ H s → t σ H Q →
    wpAny (model X.prog X.w) X.A (eval a X.env) (fun v s₁ => wpAny (model X.prog X.w) X.A (eval b X.env) (fun u s₂ => wpAny (model X.prog X.w) X.A (compareOp op v u) (EP X pins σ Q) X.xe s₂) X.xe s₁) X.xe s
theorem nobehind (b : Expr) {op : CmpOp} (h : op ≠ .In) (h2 : op ≠ .NotIn) : behindInMarks op b = false := by
  have e1 : (op == CmpOp.In) = false := by cases op <;> first | rfl | exact absurd rfl h
  have e2 : (op == CmpOp.NotIn) = false := by cases op <;> first | rfl | exact absurd rfl h2
  cases b <;> simp [behindInMarks, e1, e2]
def tCmp (p : Int → Int → Bool) (ta tb : TE) : TE := fun σ H Q => t2I ta tb (fun i j H2 => Q (.bl (p i j)) H2) σ H
abbrev tLt : TE → TE → TE := tCmp fun i j => decide (i < j)
abbrev tLe : TE → TE → TE := tCmp fun i j => decide (i ≤ j)
abbrev tGt : TE → TE → TE := tCmp fun i j => decide (j < i)
abbrev tGe : TE → TE → TE := tCmp fun i j => decide (j ≤ i)
abbrev tEqI : TE → TE → TE := tCmp fun i j => decide (i = j)
abbrev tNeI : TE → TE → TE := tCmp fun i j => !decide (i = j)
/-- a comparison of two ints, by its rule -/
theorem pc_int {op : CmpOp} {p : Int → Int → Bool} (ha : PE X a ta) (hb : PE X b tb)
    (rule : ∀ (i j : Int) (t u : Tok) (Q : Value → Shared → Prop) (s : Shared), Q (.bool (p i j)) s → wpAny (model X.prog X.w) X.A (compareOp op (.int i t) (.int j u)) Q X.xe s) : PC X op a b (tCmp p ta tb) := by
  intro pins s σ H Q I h
  refine bin ha hb I h fun v u s2 x y H2 I2 rx ry q => ?_
  obtain ⟨i, j, rfl, rfl, q⟩ := q
  obtain ⟨t, rfl⟩ := rx
  obtain ⟨t', rfl⟩ := ry
  exact rule i j t t' _ s2 ⟨.bl _, H2, I2, rfl, q⟩
theorem pc_lt (ha : PE X a ta) (hb : PE X b tb) : PC X .Lt a b (tLt ta tb) := pc_int ha hb fun _ _ _ _ _ _ h => lt_int h
theorem pc_le (ha : PE X a ta) (hb : PE X b tb) : PC X .LtE a b (tLe ta tb) := pc_int ha hb fun _ _ _ _ _ _ h => le_int h
theorem pc_gt (ha : PE X a ta) (hb : PE X b tb) : PC X .Gt a b (tGt ta tb) := pc_int ha hb fun _ _ _ _ _ _ h => gt_int h
theorem pc_ge (ha : PE X a ta) (hb : PE X b tb) : PC X .GtE a b (tGe ta tb) := pc_int ha hb fun _ _ _ _ _ _ h => ge_int h
theorem pc_eqI (ha : PE X a ta) (hb : PE X b tb) : PC X .Eq a b (tEqI ta tb) := pc_int ha hb fun _ _ _ _ _ _ h => eq_int (by rw [Bool.beq_eq_decide_eq]; exact h)
theorem pc_neI (ha : PE X a ta) (hb : PE X b tb) : PC X .NotEq a b (tNeI ta tb) := pc_int ha hb fun _ _ _ _ _ _ h => ne_int (by rw [bne, Bool.beq_eq_decide_eq]; exact h)
/-- is None -/
def tIsN (ta : TE) : TE := fun σ H Q => ta σ H fun x H1 => Q (.bl (decide (x = .non))) H1
def tNotN (ta : TE) : TE := fun σ H Q => ta σ H fun x H1 => Q (.bl (!decide (x = .non))) H1
theorem RelV.none_iff {x : V} {v : Value} (r : RelV x v) : (v == Value.none) = decide (x = .non) := by
  cases x with
  | non => cases r; rfl
  | bl _ => cases r; rfl
  | int _ => obtain ⟨t, rfl⟩ := r; rfl
  | str _ => obtain ⟨t, rfl⟩ := r; rfl
  | byt _ => obtain ⟨t, rfl⟩ := r; rfl
  | flt _ => obtain ⟨t, rfl⟩ := r; rfl
  | ref _ => cases r; rfl
  | ty _ => cases r; rfl
theorem pc_isN {j pos'} (ha : PE X a ta) : PC X .Is a (.Constant .none j pos') (tIsN ta) := by
  intro pins s σ H Q I h
  refine thn (ha pins s σ H _ I h) fun v s1 ⟨x, H1, I1, r1, q1⟩ => ?_
  exact Constant_none (is_none_gen ⟨.bl _, H1, I1, by rw [r1.none_iff]; rfl, q1⟩)
theorem pc_notN {j pos'} (ha : PE X a ta) : PC X .IsNot a (.Constant .none j pos') (tNotN ta) := by
  intro pins s σ H Q I h
  refine thn (ha pins s σ H _ I h) fun v s1 ⟨x, H1, I1, r1, q1⟩ => ?_
  exact Constant_none (isnot_none_gen ⟨.bl _, H1, I1, by rw [r1.none_iff]; rfl, q1⟩)
/-- a comparison as a value, as a test -/
def tB (t : TE) : TT := fun σ H Q => t σ H fun x H1 => ∃ c, x = .bl c ∧ Q c H1
theorem pe_cmp {op : CmpOp} {t : TE} (h : PC X op a b t) (h1 : behindInMarks op b = false := by first | exact nobehind _ (by decide) (by decide) | rfl) : PE X (.Compare a [op] [b] pos) t := fun pins s σ H Q I hw => wpAny_Compare1 (h pins s σ H Q I hw) h1
theorem pt_cmp {op : CmpOp} {t : TE} (h : PC X op a b t) (h1 : behindInMarks op b = false := by first | exact nobehind _ (by decide) (by decide) | rfl) : PT X (.Compare a [op] [b] pos) (tB t) := by
  intro pins s σ H Q I hw
  refine wpAny_isTrue_Compare1 (thn (h pins s σ H _ I hw) fun v s1 h1 => thn h1 fun u s2 h2 => thn h2 fun c s3 ⟨x, H1, I1, r1, q1⟩ => ?_) h1
  obtain ⟨d, rfl, q⟩ := q1
  cases r1
  exact wpAny_truthy_bool ⟨H1, I1, q⟩
/-- an expression whose value is a bool, as a test -/
theorem pt_val {e : Expr} {t : TE} (h : PE X e t) (he : ∀ whole, isTrue e X.env whole = (do let v ← whole; standAt e.pos; holding [v] (truthy v)) := by intro _; rfl) : PT X e (tB t) := by
  intro pins s σ H Q I hw
  refine isTrue_plain (thn (h pins s σ H _ I hw) fun v s1 ⟨x, H1, I1, r1, q1⟩ => ?_) (he _)
  obtain ⟨d, rfl, q⟩ := q1
  cases r1
  exact wpAny_truthy_bool ⟨H1, I1, q⟩

/-! ### and, or, not -/
variable {tA tB' : TT} {rest : List Expr}
def tAnd (t u : TT) : TT := fun σ H Q => t σ H fun c H1 => if c = true then u σ H1 Q else Q false H1
def tOr (t u : TT) : TT := fun σ H Q => t σ H fun c H1 => if c = true then Q true H1 else u σ H1 Q
def tNot (t : TT) : TT := fun σ H Q => t σ H fun c H1 => Q (!c) H1
theorem pw_and1 (ha : PT X a tA) : PW X (.BoolOp .And [a] pos) tA := by
  intro wh pins s σ H Q I h
  refine isTrue_and (thn (ha pins s σ H Q I h) fun c s1 e => ?_)
  cases c with
  | true => exact isTrue_and_nil e
  | false => exact e
theorem pw_or1 (ha : PT X a tA) : PW X (.BoolOp .Or [a] pos) tA := by
  intro wh pins s σ H Q I h
  refine isTrue_or (thn (ha pins s σ H Q I h) fun c s1 e => ?_)
  cases c with
  | false => exact isTrue_or_nil e
  | true => exact e
theorem pw_and (ha : PT X a tA) (hb : PW X (.BoolOp .And (b :: rest) pos) tB') : PW X (.BoolOp .And (a :: b :: rest) pos) (tAnd tA tB') := by
  intro wh pins s σ H Q I h
  refine isTrue_and (thn (ha pins s σ H _ I h) fun c s1 ⟨H1, I1, q1⟩ => ?_)
  cases c with
  | true => exact hb wh pins s1 σ H1 Q I1 q1
  | false => exact ⟨H1, I1, q1⟩
theorem pw_or (ha : PT X a tA) (hb : PW X (.BoolOp .Or (b :: rest) pos) tB') : PW X (.BoolOp .Or (a :: b :: rest) pos) (tOr tA tB') := by
  intro wh pins s σ H Q I h
  refine isTrue_or (thn (ha pins s σ H _ I h) fun c s1 ⟨H1, I1, q1⟩ => ?_)
  cases c with
  | true => exact ⟨H1, I1, q1⟩
  | false => exact hb wh pins s1 σ H1 Q I1 q1
theorem pt_not (ha : PT X a tA) : PT X (.UnaryOp .Not a pos) (tNot tA) := by
  intro pins s σ H Q I h
  exact isTrue_not (ha pins s σ H (fun c H1 => Q (!c) H1) I h)
/-- .. as values (bools) -/
def tAndV (ta tb : TE) : TE := fun σ H Q => ta σ H fun x H1 => ∃ c, x = .bl c ∧ if c = true then tb σ H1 Q else Q (.bl false) H1
def tOrV (ta tb : TE) : TE := fun σ H Q => ta σ H fun x H1 => ∃ c, x = .bl c ∧ if c = true then Q (.bl true) H1 else tb σ H1 Q
def tNotV (ta : TE) : TE := fun σ H Q => ta σ H fun x H1 => ∃ c, x = .bl c ∧ Q (.bl (!c)) H1
theorem pe_one {op} {t : TE} (h : PE X a t) : PE X (.BoolOp op [a] pos) t := fun pins s σ H Q I hw => BoolOp_one (h pins s σ H Q I hw)
theorem pe_and (ha : PE X a ta) (hb : PE X (.BoolOp .And (b :: rest) pos) tb) : PE X (.BoolOp .And (a :: b :: rest) pos) (tAndV ta tb) := by
  intro pins s σ H Q I h
  refine BoolOp_and (thn (ha pins s σ H _ I h) fun v s1 ⟨x, H1, I1, r1, q1⟩ => ?_)
  obtain ⟨c, rfl, q1⟩ := q1
  cases r1
  refine wpAny_truthy_bool ?_
  cases c with
  | true => exact hb pins s1 σ H1 Q I1 q1
  | false => exact ⟨.bl false, H1, I1, rfl, q1⟩
theorem pe_or (ha : PE X a ta) (hb : PE X (.BoolOp .Or (b :: rest) pos) tb) : PE X (.BoolOp .Or (a :: b :: rest) pos) (tOrV ta tb) := by
  intro pins s σ H Q I h
  refine BoolOp_or (thn (ha pins s σ H _ I h) fun v s1 ⟨x, H1, I1, r1, q1⟩ => ?_)
  obtain ⟨c, rfl, q1⟩ := q1
  cases r1
  refine wpAny_truthy_bool ?_
  cases c with
  | false => exact hb pins s1 σ H1 Q I1 q1
  | true => exact ⟨.bl true, H1, I1, rfl, q1⟩
theorem pe_not (ha : PE X a ta) : PE X (.UnaryOp .Not a pos) (tNotV ta) := by
  intro pins s σ H Q I h
  refine UnaryOp_ (thn (ha pins s σ H _ I h) fun v s1 ⟨x, H1, I1, r1, q1⟩ => ?_)
  obtain ⟨c, rfl, q1⟩ := q1
  cases r1
  exact not_of (wpAny_truthy_bool ⟨.bl (!c), H1, I1, rfl, q1⟩)
/-- a if t else b -/
def tIf (t : TT) (ta tb : TE) : TE := fun σ H Q => t σ H fun c H1 => if c = true then ta σ H1 Q else tb σ H1 Q
theorem pe_ifExp {c : Expr} (hc : PT X c tA) (ha : PE X a ta) (hb : PE X b tb) : PE X (.IfExp c a b pos) (tIf tA ta tb) := by
  intro pins s σ H Q I h
  refine wpAny_IfExp (thn (hc pins s σ H _ I h) fun d s1 ⟨H1, I1, q1⟩ => ?_)
  cases d with
  | true => exact ha pins s1 σ H1 Q I1 q1
  | false => exact hb pins s1 σ H1 Q I1 q1
end
end L2

namespace L2
open PySem PySem.Spec PyProof.Rows

/-! ### a list, a tuple that is read: tracked, frozen, or an object of the module -/
def SqL (K : PySem.W.Frag) (H : Hp) (a : Addr) (xs : List V) : Prop :=
  Rd H a (.lst xs) ∨
    ∃ (o : Obj) (its : Array Value) (n : Nat), K.lookup a = some o ∧ o.cls = .type "list" ∧ o.dict = none ∧ o.data = .seq its n ∧ its.size ≤ sizeLine ∧ Vals xs its.toList
def SqT (K : PySem.W.Frag) (H : Hp) (a : Addr) (xs : List V) : Prop :=
  Rd H a (.tup xs) ∨
    ∃ (o : Obj) (its : Array Value) (n : Nat), K.lookup a = some o ∧ o.cls = .type "tuple" ∧ o.data = .seq its n ∧ its.size ≤ sizeLine ∧ Vals xs its.toList
def absV : Value → Option V
  | .none => some .non
  | .bool b => some (.bl b)
  | .int i _ => some (.int i)
  | .str x _ => some (.str x)
  | .bytes b _ => some (.byt b)
  | .float b _ => some (.flt b)
  | .ref a => some (.ref a)
  | .type n => some (.ty n)
  | _ => none
theorem RelV.abs {x : V} {u : Value} (r : RelV x u) : absV u = some x := by
  cases x with
  | non => cases r; rfl
  | bl _ => cases r; rfl
  | int _ => obtain ⟨t, rfl⟩ := r; rfl
  | str _ => obtain ⟨t, rfl⟩ := r; rfl
  | byt _ => obtain ⟨t, rfl⟩ := r; rfl
  | flt _ => obtain ⟨t, rfl⟩ := r; rfl
  | ref _ => cases r; rfl
  | ty _ => cases r; rfl
theorem RelV.inj {x y : V} {u : Value} (r : RelV x u) (q : RelV y u) : x = y := Option.some.inj (r.abs.symm.trans q.abs)
theorem Vals.inj : ∀ {xs ys : List V} {us : List Value}, Vals xs us → Vals ys us → xs = ys
  | _, _, _, .nil, .nil => rfl
  | _, _, _, .cons r t, .cons r' t' => by rw [r.inj r', Vals.inj t t']
section
variable {X : Cx} {pins : List (Addr × Obj)} {σ : St} {H : Hp} {s : Shared} {a : Addr} {xs ys : List V}
theorem SqL.of {K : PySem.W.Frag} (h : H a = some (.lst xs)) : SqL K H a xs := .inl (.inl h)
theorem SqT.of {K : PySem.W.Frag} (h : H a = some (.tup xs)) : SqT K H a xs := .inl (.inl h)
theorem Inv.list (I : Inv X pins σ H s) (h : SqL X.K H a xs) : ∃ its : List Value, Vals xs its ∧ PlainL s.heap a its.toArray ∧ xs.length ≤ sizeLine := by
  rcases h with h | ⟨o, its, n, hk, hc, hd, hs, hz, r⟩
  · obtain ⟨z, its, n, r, e⟩ := h.ok I.hok
    exact ⟨its, r, ⟨_, n, e, rfl, rfl, rfl⟩, z⟩
  · refine ⟨its.toList, r, ⟨o, n, I.kIn a o hk, hc, hd, by simpa using hs⟩, ?_⟩
    have e := r.length
    simp only [Array.length_toList] at e
    omega
theorem Inv.tuple (I : Inv X pins σ H s) (h : SqT X.K H a xs) : ∃ its : List Value, Vals xs its ∧ IsTup s.heap a its.toArray ∧ xs.length ≤ sizeLine := by
  rcases h with h | ⟨o, its, n, hk, hc, hs, hz, r⟩
  · obtain ⟨z, its, r, p⟩ := h.ok I.hok
    exact ⟨its, r, p, z⟩
  · refine ⟨its.toList, r, ⟨o, I.kIn a o hk, hc, n, by simpa using hs⟩, ?_⟩
    have e := r.length
    simp only [Array.length_toList] at e
    omega
theorem Inv.list_inj (I : Inv X pins σ H s) (h : SqL X.K H a xs) (h' : SqL X.K H a ys) : xs = ys := by
  obtain ⟨its, r, ⟨o, n, e, _, _, d⟩, _⟩ := I.list h
  obtain ⟨its', r', ⟨o', n', e', _, _, d'⟩, _⟩ := I.list h'
  rw [e] at e'; cases e'
  rw [d] at d'
  injection d' with d1 _
  have : its = its' := by simpa using congrArg Array.toList d1
  subst this
  exact r.inj r'
theorem Inv.tuple_inj (I : Inv X pins σ H s) (h : SqT X.K H a xs) (h' : SqT X.K H a ys) : xs = ys := by
  obtain ⟨its, r, ⟨o, e, _, n, d⟩, _⟩ := I.tuple h
  obtain ⟨its', r', ⟨o', e', _, n', d'⟩, _⟩ := I.tuple h'
  rw [e] at e'; cases e'
  rw [d] at d'
  injection d' with d1 _
  have : its = its' := by simpa using congrArg Array.toList d1
  subst this
  exact r.inj r'
end

/-! ### another wish about exceptions -/
abbrev Cx.wish (X : Cx) (E : Value → Shared → Prop) : Cx := { X with xe := E }
/-- no exception leaves -/
abbrev Cx.nox (X : Cx) : Cx := X.wish fun _ _ => False
theorem Cx.Ok.wish {X : Cx} (ok : X.Ok) (E : Value → Shared → Prop) : (X.wish E).Ok :=
  ⟨ok.mod, ok.kind, ok.glob, ok.blt, ok.above, ok.inj, ok.has, ok.cab, ok.hd, ok.frames, ok.stk, ok.exf, ok.bs, ok.bsz, ok.noex, ok.exfs, ok.funs, ok.frf⟩
theorem Cx.Ok.unwish {X : Cx} {E : Value → Shared → Prop} (ok : (X.wish E).Ok) : X.Ok :=
  ⟨ok.mod, ok.kind, ok.glob, ok.blt, ok.above, ok.inj, ok.has, ok.cab, ok.hd, ok.frames, ok.stk, ok.exf, ok.bs, ok.bsz, ok.noex, ok.exfs, ok.funs, ok.frf⟩
section
variable {X : Cx} {pins : List (Addr × Obj)} {σ : St} {H : Hp} {s : Shared} {E : Value → Shared → Prop}
theorem Inv.wish (I : Inv X pins σ H s) (E : Value → Shared → Prop) : Inv (X.wish E) pins σ H s := ⟨I.ok.wish E, I.os, I.bare, I.base, I.loc, I.cell, I.free, I.freeC, I.pin, I.hok, I.len⟩
theorem Inv.unwish (I : Inv (X.wish E) pins σ H s) : Inv X pins σ H s := ⟨I.ok.unwish, I.os, I.bare, I.base, I.loc, I.cell, I.free, I.freeC, I.pin, I.hok, I.len⟩
theorem SP.unwish {D : Ends} {f : Flow} {s' : Shared} (h : SP (X.wish E) pins D f s') : SP X pins D f s' := by
  cases f with
  | next => obtain ⟨σ', H', I, q⟩ := h; exact ⟨σ', H', I.unwish, q⟩
  | brk => obtain ⟨σ', H', I, q⟩ := h; exact ⟨σ', H', I.unwish, q⟩
  | cont => obtain ⟨σ', H', I, q⟩ := h; exact ⟨σ', H', I.unwish, q⟩
  | ret u => obtain ⟨v, σ', H', I, r, q⟩ := h; exact ⟨v, σ', H', I.unwish, r, q⟩
theorem PE.nox {e : Expr} {t : TE} (h : PE X.nox e t) : PE X e t := fun pins s σ H Q I hw =>
  wpAny_mono (h pins s σ H Q (I.wish _) hw) (fun _ _ ⟨v, H', I', r, q⟩ => ⟨v, H', I'.unwish, r, q⟩) fun _ _ z => False.elim z
theorem PT.nox {e : Expr} {t : TT} (h : PT X.nox e t) : PT X e t := fun pins s σ H Q I hw =>
  wpAny_mono (h pins s σ H Q (I.wish _) hw) (fun _ _ ⟨H', I', q⟩ => ⟨H', I'.unwish, q⟩) fun _ _ z => False.elim z
theorem PSs.nox {st : List Stmt} {t : TS} (h : PSs X.nox st t) : PSs X st t := fun pins s σ H D I hw =>
  wpAny_mono (h pins s σ H D (I.wish _) hw) (fun _ _ q => q.unwish) fun _ _ z => False.elim z
end

/-! ### blocks and small statements -/
section
variable {X : Cx} {st : Stmt} {rest : List Stmt} {t u : TS} {e : Expr} {te : TE} {pos : Pos}
def tNext : TS := fun D σ H => D.nx σ H
def tSeq (t u : TS) : TS := fun D σ H => t { D with nx := u D } σ H
theorem pss_nil : PSs X [] tNext := fun _ _ σ H _ I h => wpAny_execs_nil ⟨σ, H, I, h⟩
theorem pss_cons (h1 : PS X st t) (h2 : PSs X rest u) : PSs X (st :: rest) (tSeq t u) := by
  intro pins s σ H D I h
  refine wpAny_execs_cons (thn (h1 pins s σ H { D with nx := u D } I h) fun f s1 q => ?_)
  cases f with
  | next =>
    obtain ⟨σ', H', I', q⟩ := q
    exact h2 pins s1 σ' H' D I' q
  | ret v => exact q
  | brk => exact q
  | cont => exact q
theorem pss_one (h1 : PS X st t) : PSs X [st] t := by
  intro pins s σ H D I h
  refine wpAny_execs_cons (thn (h1 pins s σ H D I h) fun f s1 q => ?_)
  cases f with
  | next => exact wpAny_execs_nil q
  | ret v => exact q
  | brk => exact q
  | cont => exact q
def tBreak : TS := fun D σ H => D.bk σ H
def tCont : TS := fun D σ H => D.ct σ H
theorem ps_pass : PS X (.Pass pos) tNext := fun _ _ σ H _ I h => wpAny_Pass ⟨σ, H, I, h⟩
theorem ps_break : PS X (.Break pos) tBreak := fun _ _ σ H _ I h => wpAny_Break ⟨σ, H, I, h⟩
theorem ps_continue : PS X (.Continue pos) tCont := fun _ _ σ H _ I h => wpAny_Continue ⟨σ, H, I, h⟩
/-- in a def's body nothing is shown -/
theorem Inv.quiet {pins : List (Addr × Obj)} {σ : St} {H : Hp} {s : Shared} (I : Inv X pins σ H s) : interactive X.env = false := by simp [interactive, I.ok.kind]
/-- a docstring -/
theorem ps_doc {x j pos pos'} : PS X (.Expr (.Constant (.str x) j pos) pos') tNext := fun _ s σ H _ I h => wpAny_Expr (Calls.Constant_str (show SP X _ _ .next { s with toks := s.toks + 1 } from ⟨σ, H, I.tok _, h⟩)) I.quiet
/-- an expression whose value is dropped -/
def tDrop (te : TE) : TS := fun D σ H => te σ H fun _ H1 => D.nx σ H1
theorem ps_expr (he : PE X e te) (hs : swapsWith e none pos.line X.env = pure false := by rfl) : PS X (.Expr e pos) (tDrop te) := by
  intro pins s σ H D I h
  exact wpAny_Expr_any (thn (he pins s σ H _ I h) fun v s1 ⟨x, H1, I1, r1, q1⟩ => ⟨σ, H1, I1, q1⟩) I.quiet hs
def tRet (te : TE) : TS := fun D σ H => te σ H D.rt
theorem ps_ret (he : PE X e te) : PS X (.Return (some e) pos) (tRet te) := by
  intro pins s σ H D I h
  exact wpAny_Return_some (thn (he pins s σ H _ I h) fun v s1 ⟨x, H1, I1, r1, q1⟩ => ⟨x, σ, H1, I1, r1, q1⟩)
def tRetN : TS := fun D _ H => D.rt .non H
theorem ps_retN : PS X (.Return none pos) tRetN := fun _ _ σ H _ I h => wpAny_Return_none ⟨.non, σ, H, I, rfl, h⟩
def tIfS (c : TT) (t u : TS) : TS := fun D σ H => c σ H fun b H1 => if b = true then t D σ H1 else u D σ H1
theorem ps_if {c : Expr} {a b : List Stmt} {tc : TT} (hc : PT X c tc) (ha : PSs X a t) (hb : PSs X b u) : PS X (.If c a b pos) (tIfS tc t u) := by
  intro pins s σ H D I h
  refine wpAny_If (thn (hc pins s σ H _ I h) fun d s1 ⟨H1, I1, q1⟩ => ?_)
  cases d with
  | true => exact ha pins s1 σ H1 D I1 q1
  | false => exact hb pins s1 σ H1 D I1 q1
/-- code that the proof never comes to -/
def tNever : TS := fun _ _ _ => False
theorem ps_never : PS X st tNever := fun _ _ _ _ _ _ h => h.elim
theorem pss_never {sts : List Stmt} : PSs X sts tNever := fun _ _ _ _ _ _ h => h.elim
end

/-! ### targets -/
abbrev TG := V → St → Hp → (St → Hp → Prop) → Prop
abbrev TGs := List V → St → Hp → (St → Hp → Prop) → Prop
def PG (X : Cx) (target : Expr) (t : TG) : Prop :=
  ∀ (pins : List (Addr × Obj)) (s : Shared) (σ : St) (H : Hp) (v : V) (u : Value) (Q : St → Hp → Prop), Inv X pins σ H s → RelV v u → t v σ H Q →
    wpAny (model X.prog X.w) X.A (assign target X.env u) (fun _ s' => ∃ σ' H', Inv X pins σ' H' s' ∧ Q σ' H') X.xe s
/-- several targets, one after another -/
def PGs (X : Cx) (ts : List Expr) (t : TGs) : Prop :=
  ∀ (pins : List (Addr × Obj)) (s : Shared) (σ : St) (H : Hp) (vs : List V) (us : List Value) (Q : St → Hp → Prop), Inv X pins σ H s → Vals vs us → t vs σ H Q →
    wpAny (model X.prog X.w) X.A (assignInOrder ((assignEach ts X.env).map (·.2)) us) (fun _ s' => ∃ σ' H', Inv X pins σ' H' s' ∧ Q σ' H') X.xe s
/-- o[i] = v, by values -/
abbrev TSet := V → V → V → Hp → (Hp → Prop) → Prop
def PSet (X : Cx) (t : TSet) : Prop :=
  ∀ (pins : List (Addr × Obj)) (s : Shared) (σ : St) (H : Hp) (o i v : V) (ov iv u : Value) (Q : Hp → Prop), Inv X pins σ H s → RelV o ov → RelV i iv → RelV v u → t o i v H Q →
    wpAny (model X.prog X.w) X.A (setItem ov iv u) (fun _ s' => ∃ H', Inv X pins σ H' s' ∧ Q H') X.xe s
/-- a op= b, by values -/
abbrev TIp := V → V → Hp → VK → Prop
def PIp (X : Cx) (op : Operator) (t : TIp) : Prop :=
  ∀ (pins : List (Addr × Obj)) (s : Shared) (σ : St) (H : Hp) (x y : V) (v u : Value) (Q : VK), Inv X pins σ H s → RelV x v → RelV y u → t x y H Q →
    wpAny (model X.prog X.w) X.A (inplaceOp op v u) (EP X pins σ Q) X.xe s
section
variable {X : Cx} {pos : Pos}
def gName (i : Nat) : TG := fun v σ H Q => Q (σ.set i (some v)) H
theorem pg_name {i : Nat} {x : Str} (hN : X.N.Nodup) (hi : X.N[i]? = some x) (hx : Loc X.env.scope x) (hf : X.fn x = true ∨ X.env.scope.names.lookup x = some .local := by first | exact .inl rfl | exact .inr rfl | assumption) : PG X (.Name x pos) (gName i) := by
  intro pins s σ H v u Q I r h
  exact wpAny_assign_Name (store_ok I hN hi hx r (fun s' I' => ⟨_, H, I', h⟩) hf)
def gNil : TGs := fun vs σ H Q => vs = [] ∧ Q σ H
def gCons (t : TG) (u : TGs) : TGs := fun vs σ H Q => ∃ v r, vs = v :: r ∧ t v σ H fun σ' H' => u r σ' H' Q
theorem pgs_nil : PGs X [] gNil := by
  intro pins s σ H vs us Q I r h
  obtain ⟨e, h⟩ := h
  subst e
  cases r
  exact assignInOrder_nil ⟨σ, H, I, h⟩
theorem pgs_cons {e : Expr} {es : List Expr} {t : TG} {u : TGs} (h1 : PG X e t) (h2 : PGs X es u)
    (hs : (assignEach (e :: es) X.env).map (·.2) = assign e X.env :: (assignEach es X.env).map (·.2) := by rfl) : PGs X (e :: es) (gCons t u) := by
  intro pins s σ H vs us Q I r h
  obtain ⟨v, vr, e1, h⟩ := h
  subst e1
  cases r with
  | cons r rr =>
    rw [hs]
    refine assignInOrder_cons (thn (h1 pins s σ H _ _ _ I r h) fun _ s1 ⟨σ1, H1, I1, q1⟩ => ?_)
    exact h2 pins s1 σ1 H1 _ _ Q I1 rr q1
/-- (a, b, ..) = a tuple of that length -/
def gTup (K : PySem.W.Frag) (n : Nat) (t : TGs) : TG := fun v σ H Q => ∃ a xs, v = .ref a ∧ SqT K H a xs ∧ xs.length = n ∧ t xs σ H Q
theorem pg_tup {es : List Expr} {k : Nat} {t : TGs} {n : Nat} (hc : X.calm = true) (h : PGs X es t)
    (hn : (assignEach es X.env).length = n := by rfl) (hst : (assignEach es X.env).findIdx? (·.1) = none := by rfl) : PG X (.Tuple es k pos) (gTup X.K n t) := by
  intro pins s σ H v u Q I r hw
  obtain ⟨a, xs, e1, hq, hl, hw⟩ := hw
  subst e1
  cases r
  obtain ⟨its, rv, ht, hz⟩ := I.tuple hq
  refine assign_Tuple_tuple (I.ok.hd hc) ht (by simp [hn, ← hl, rv.length]) hst fun h' hx => ?_
  have I1 : Inv X pins σ H { s with heap := h' } := I.kept (t' := s.toks) fun b o e => hx b o (Nat.ne_of_lt (Heap.lt_size e)) e
  exact h pins _ σ H xs _ Q I1 (by simpa using rv) hw
/-- o[i] = .. -/
def gSub (to ti : TE) (t : TSet) : TG := fun v σ H Q => to σ H fun o H1 => ti σ H1 fun i H2 => t o i v H2 fun H3 => Q σ H3
theorem pg_sub {o i : Expr} {to ti : TE} {t : TSet} (ho : PE X o to) (hi : PE X i ti) (hs : PSet X t)
    (ha : ∀ v, assign (.Subscript o i pos) X.env v = (do
      let ov ← holding [v] (eval o X.env)
      let iv ← holding [v, ov] (eval i X.env)
      standAt pos
      holding [v, ov, iv] (setItem ov iv v)
      release [v, ov, iv] []) := by intro _; rfl) : PG X (.Subscript o i pos) (gSub to ti t) := by
  intro pins s σ H v u Q I r h
  rw [ha]
  refine wpAny_bind (wpAny_holding (thn (ho pins s σ H _ I h) fun ov s1 ⟨x, H1, I1, r1, q1⟩ => ?_))
  refine wpAny_bind (wpAny_holding (thn (hi pins s1 σ H1 _ I1 q1) fun iv s2 ⟨y, H2, I2, r2, q2⟩ => ?_))
  refine wpAny_bind (wpAny_standAt (wpAny_bind (wpAny_holding (thn (hs pins s2 σ H2 x y v ov iv u _ I2 r1 r2 r q2) fun _ s3 ⟨H3, I3, q3⟩ => ?_))))
  exact wpAny_release ⟨σ, H3, I3, q3⟩
/-- target = value -/
def tAsg (te : TE) (g : TG) : TS := fun D σ H => te σ H fun x H1 => g x σ H1 D.nx
theorem ps_asg {tg e : Expr} {te : TE} {g : TG} (he : PE X e te) (hg : PG X tg g) (hs : swapsWithSole [tg] e pos.line X.env = pure false := by rfl) (hw : swappedStores [tg] e X.env = pure none := by rfl)
    (h1 : (assignEach [tg] X.env).map (·.2) = [assign tg X.env] := by rfl) : PS X (.Assign [tg] e pos) (tAsg te g) := by
  intro pins s σ H D I h
  refine wpAny_Assign_stores (thn (he pins s σ H _ I h) fun v s1 ⟨x, H1, I1, r1, q1⟩ => ?_) hs hw
  rw [h1]
  exact thn (hg pins s1 σ H1 x v _ I1 r1 q1) fun _ s2 q => q
/-- name = value -/
theorem ps_set {i : Nat} {x : Str} {e : Expr} {te : TE} {pos' : Pos} (hN : X.N.Nodup) (hi : X.N[i]? = some x) (hx : Loc X.env.scope x) (he : PE X e te) (hs : swapsWith e (some (.Name x pos')) pos.line X.env = pure false := by rfl) (hf : X.fn x = true ∨ X.env.scope.names.lookup x = some .local := by first | exact .inl rfl | exact .inr rfl | assumption) :
    PS X (.Assign [.Name x pos'] e pos) (tAsg te (gName i)) := by
  intro pins s σ H D I h
  refine wpAny_Assign_Name (thn (he pins s σ H _ I h) fun v s1 ⟨y, H1, I1, r1, q1⟩ => ?_) hs
  exact store_ok I1 hN hi hx r1 (fun s2 I2 => ⟨_, H1, I2, q1⟩) hf
/-- a, b = x, y with plain local names: stored from the right; the pair itself is not tracked (the opening rows as in PyProof/Rows/TupAssign.lean:23) -/
def tPar (i j : Nat) (ta : TA) : TS := fun D σ H => ta σ H fun vs H1 => ∃ v w, vs = [v, w] ∧ D.nx ((σ.set i (some v)).set j (some w)) H1
theorem ps_par {i j : Nat} {x y : Str} {a b : Expr} {ta : TA} {px py pt : Pos} {kt k2 pt2} (hc : X.calm = true) (hN : X.N.Nodup) (hi : X.N[i]? = some x) (hj : X.N[j]? = some y) (hij : i ≠ j)
    (hx : X.env.scope.names.lookup x = some .local) (hy : X.env.scope.names.lookup y = some .local) (ha : PA X [a, b] ta)
    (hw : swappedStores [.Tuple [.Name x px, .Name y py] kt pt] (.Tuple [a, b] k2 pt2) X.env = pure (some [x, y]))
    (hs : swapsWithSole [.Tuple [.Name x px, .Name y py] kt pt] (.Tuple [a, b] k2 pt2) pos.line X.env = pure false := by rfl) :
    PS X (.Assign [.Tuple [.Name x px, .Name y py] kt pt] (.Tuple [a, b] k2 pt2) pos) (tPar i j ta) := by
  intro pins s σ H D I h
  rw [exec_Assign_arm]
  refine wpAny_bind (wpAny_standAt ?_)
  rw [hs]
  refine wpAny_bind (wpAny_pure ?_)
  rw [if_neg (by decide)]
  refine wpAny_bind (Tuple_ (thn (ha _ pins s σ H _ I h) fun us s1 ⟨vs, H1, I1, r1, q1⟩ => ?_))
  obtain ⟨v, w, e1, q1⟩ := q1
  subst e1
  obtain ⟨u1, u2, rfl, rv, rw'⟩ : ∃ u1 u2, us = [u1, u2] ∧ RelV v u1 ∧ RelV w u2 := by
    cases r1 with
    | cons p q =>
      cases q with
      | cons p' q' =>
        cases q'
        exact ⟨_, _, rfl, p, p'⟩
  refine wpAny_newObj_type ?_ (by show 2 ≤ sizeLine; decide)
  have I2 : Inv X pins σ H1 { s1 with heap := s1.heap.push { cls := .type "tuple", data := .seq [u1, u2].toArray } } := I1.kept (t' := s1.toks) fun b o e => Heap.get?_push_of_some _ e
  rw [hw]
  refine wpAny_bind (wpAny_pure ?_)
  show wpAny (model X.prog X.w) X.A (do rule "assign.swapped-stores"; let items ← unpackItems (.ref s1.heap.objs.size) 2 none; assignInOrder [fun v => bindName X.env y v, fun v => bindName X.env x v] items.reverse; pure Flow.next) _ _ _
  refine wpAny_bind (wpAny_rule (wpAny_bind (unpackItems_tuple (items := #[u1, u2]) (I.ok.hd hc) (IsTup.new s1.heap _) fun h' hx' => ?_)))
  have I3 := I2.kept (h' := h') (t' := s1.toks) fun b o e => hx' b o (Nat.ne_of_lt (Heap.lt_size e)) e
  show wpAny _ _ (assignInOrder [fun v => bindName X.env y v, fun v => bindName X.env x v] [u2, u1] >>= fun _ => pure Flow.next) _ _ _
  refine wpAny_bind (assignInOrder_cons (wpAny_bindName (store_ok I3 hN hj (.inl hy) rw' (fun s2 I4 => ?_) (.inr hy))))
  refine assignInOrder_cons (wpAny_bindName (store_ok I4 hN hi (.inl hx) rv (fun s3 I5 => assignInOrder_nil (wpAny_pure ?_)) (.inr hx)))
  rw [List.set_comm _ _ (Ne.symm hij)] at I5
  exact ⟨_, H1, I5, q1⟩
/-- name op= e -/
def tAug (i : Nat) (te : TE) (ti : TIp) : TS := fun D σ H => ∃ x, σ[i]? = some (some x) ∧ te σ H fun y H1 => ti x y H1 fun z H2 => D.nx (σ.set i (some z)) H2
theorem ps_aug {i : Nat} {x : Str} {e : Expr} {te : TE} {op : Operator} {ti : TIp} {pos' : Pos} (hN : X.N.Nodup) (hi : X.N[i]? = some x) (hx : Loc X.env.scope x) (he : PE X e te) (ho : PIp X op ti) (hf : X.fn x = true ∨ X.env.scope.names.lookup x = some .local := by first | exact .inl rfl | exact .inr rfl | assumption) :
    PS X (.AugAssign (.Name x pos') op e pos) (tAug i te ti) := by
  intro pins s σ H D I h
  obtain ⟨v, e1, h⟩ := h
  obtain ⟨m, hn, hl⟩ := I.loc
  have vis : Vis X.env.scope x := by rcases hx with k | k; exact .inl k; exact .inr (.inl k)
  obtain ⟨u, r, l⟩ := hl i x v hi e1 vis
  refine wpAny_AugAssign_Name ?_
  have go : wpAny (model X.prog X.w) X.A (eval e X.env) (fun w s₂ => wpAny (model X.prog X.w) X.A (inplaceOp op u w) (fun r s₃ => wpAny (model X.prog X.w) X.A (storeName X.env x r) (fun _ => SP X pins D .next) X.xe s₃) X.xe s₂) X.xe s := by
    refine thn (he pins s σ H _ I h) fun w s1 ⟨y, H1, I1, r1, q1⟩ => ?_
    refine thn (ho pins s1 σ H1 v y u w _ I1 r r1 q1) fun z s2 ⟨zv, H2, I2, r2, q2⟩ => ?_
    exact store_ok I2 hN hi hx r2 (fun s3 I3 => ⟨_, H2, I3, q2⟩) hf
  rcases l with ⟨hk, hm⟩ | ⟨hk, c, hc, hcell⟩
  · exact wpAny_loadName_local I.ok.kind hk hn hm go
  · rcases hk with hk | hk
    · exact wpAny_loadName_cell I.ok.kind hk hc hcell go
    · rcases hx with k | k
      · have : X.env.scope.names.lookup x = some .free := hk
        rw [k] at this; cases this
      · have : X.env.scope.names.lookup x = some .free := hk
        rw [k] at this; cases this
/-- o[i] op= e -/
def tAugS (to ti te : TE) (tget : V → V → Hp → VK → Prop) (tip : TIp) (tset : TSet) : TS := fun D σ H => to σ H fun o H1 => ti σ H1 fun i H2 => tget o i H2 fun x H3 => te σ H3 fun y H4 => tip x y H4 fun z H5 => tset o i z H5 fun H6 => D.nx σ H6
/-- o[i], by values -/
def PGet (X : Cx) (t : V → V → Hp → VK → Prop) : Prop :=
  ∀ (pins : List (Addr × Obj)) (s : Shared) (σ : St) (H : Hp) (o i : V) (ov iv : Value) (Q : VK), Inv X pins σ H s → RelV o ov → RelV i iv → t o i H Q →
    wpAny (model X.prog X.w) X.A (getItem ov iv) (EP X pins σ Q) X.xe s
theorem ps_augS {o i e : Expr} {to ti te : TE} {tget : V → V → Hp → VK → Prop} {tip : TIp} {tset : TSet} {op : Operator} {tpos : Pos} (ho : PE X o to) (hi : PE X i ti) (hg : PGet X tget) (he : PE X e te) (hp : PIp X op tip) (hs : PSet X tset)
    (ha : ∀ ov iv new, augStore i ov iv new = (do holding [new, ov, iv] (setItem ov iv new); release [new, ov, iv] []; pure .next) := by intros; rfl) : PS X (.AugAssign (.Subscript o i tpos) op e pos) (tAugS to ti te tget tip tset) := by
  intro pins s σ H D I h
  refine wpAny_AugAssign_SubscriptAny (thn (ho pins s σ H _ I h) fun ov s1 ⟨x1, H1, I1, r1, q1⟩ => ?_) ha
  refine thn (hi pins s1 σ H1 _ I1 q1) fun iv s2 ⟨x2, H2, I2, r2, q2⟩ => ?_
  refine thn (hg pins s2 σ H2 x1 x2 ov iv _ I2 r1 r2 q2) fun old s3 ⟨x3, H3, I3, r3, q3⟩ => ?_
  refine thn (he pins s3 σ H3 _ I3 q3) fun v s4 ⟨x4, H4, I4, r4, q4⟩ => ?_
  refine thn (hp pins s4 σ H4 x3 x4 old v _ I4 r3 r4 q4) fun new s5 ⟨x5, H5, I5, r5, q5⟩ => ?_
  exact thn (hs pins s5 σ H5 x1 x2 x5 ov iv new _ I5 r1 r2 r5 q5) fun _ s6 ⟨H6, I6, q6⟩ => ⟨σ, H6, I6, q6⟩
/-- ints -/
def ipI (f : Int → Int → Int) : TIp := fun x y H Q => ∃ i j, x = .int i ∧ y = .int j ∧ Q (.int (f i j)) H
theorem ip_add : PIp X .Add (ipI fun i j => i + j) := by
  intro pins s σ H x y v u Q I r1 r2 h
  obtain ⟨i, j, e1, e2, q⟩ := h
  subst e1; subst e2
  obtain ⟨t, rfl⟩ := r1
  obtain ⟨t', rfl⟩ := r2
  exact iadd_int ⟨.int _, H, I.tok _, ⟨_, rfl⟩, q⟩
theorem ip_sub : PIp X .Sub (ipI fun i j => i - j) := by
  intro pins s σ H x y v u Q I r1 r2 h
  obtain ⟨i, j, e1, e2, q⟩ := h
  subst e1; subst e2
  obtain ⟨t, rfl⟩ := r1
  obtain ⟨t', rfl⟩ := r2
  exact isub_int ⟨.int _, H, I.tok _, ⟨_, rfl⟩, q⟩
end

/-! ### while -/
section
variable {X : Cx} {pos : Pos}
/-- the invariant W with its measure -/
def tWhile (c : TT) (tb : TS) : TS := fun D σ H => ∃ W : Nat → St → Hp → Prop, (∃ m, W m σ H) ∧ ∀ m σ H, W m σ H →
  c σ H fun b H1 => if b = true then ∃ N : St → Hp → Prop, (∀ σ' H', N σ' H' → ∃ m', m' < m ∧ W m' σ' H') ∧ tb { D with nx := N, ct := N, bk := D.nx } σ H1 else D.nx σ H1
theorem ps_while {c : Expr} {body : List Stmt} {tc : TT} {tb : TS} (hp : PassesOwn (model X.prog X.w) X.A X.env X.xe) (hc : PT X c tc) (hb : PSs X body tb) : PS X (.While c body [] pos) (tWhile tc tb) := by
  intro pins s σ H D I h
  obtain ⟨W, ⟨m0, w0⟩, turn⟩ := h
  refine wpAny_While (codeAny_whileLoop (fun n s' => ∃ σ' H', Inv X pins σ' H' s' ∧ W n σ' H') ?_ m0 ⟨σ, H, I, w0⟩)
  rintro n s1 ⟨σ1, H1, I1, w1⟩
  refine wpAny_passesOwn hp (thn (hc pins s1 σ1 H1 _ I1 (turn n σ1 H1 w1)) fun b s2 ⟨H2, I2, q2⟩ => ?_)
  cases b with
  | true =>
    obtain ⟨N, hN, q2⟩ := q2
    rw [if_pos rfl]
    refine wpAny_passesOwn hp (thn (hb pins s2 σ1 H2 _ I2 q2) fun f s3 q3 => ?_)
    cases f with
    | next =>
      obtain ⟨σ3, H3, I3, n3⟩ := q3
      obtain ⟨m', hm, w3⟩ := hN σ3 H3 n3
      exact ⟨m', hm, σ3, H3, I3, w3⟩
    | cont =>
      obtain ⟨σ3, H3, I3, n3⟩ := q3
      obtain ⟨m', hm, w3⟩ := hN σ3 H3 n3
      exact ⟨m', hm, σ3, H3, I3, w3⟩
    | brk => exact q3
    | ret v => exact q3
  | false =>
    rw [if_neg Bool.false_ne_true]
    exact wpAny_execs_nil ⟨σ1, H2, I2, q2⟩
end

/-! ### what a loop or a comprehension walks -/
/-- at turn i: it yields x (the heap may grow), or it stops -/
structure It where
  go : Nat → Hp → Prop
  yld : Nat → Hp → V → Hp → Prop
  stop : Nat → Hp → Prop
/-- the iterator's own objects may turn: they are not the frame's, not pinned, younger than the entry (or a comprehension's own) -/
def FpOk (X : Cx) (pins : List (Addr × Obj)) (H : Hp) (b : Addr) : Prop :=
  H b = none ∧ b ≠ X.env.locals ∧ b ∉ X.fs ∧ (b ∈ X.ex ∨ X.s₀.heap.objs.size ≤ b) ∧ (∀ x c, X.env.cells.lookup x = some c → c ≠ b) ∧ ∀ p ∈ X.pn ++ pins, p.1 ≠ b
theorem Inv.fpOk {X : Cx} {pins : List (Addr × Obj)} {σ : St} {H H' : Hp} {s : Shared} {b : Addr} (I : Inv X pins σ H s) (hb : s.heap.objs.size ≤ b) (hn : H' b = none) : FpOk X pins H' b := by
  refine ⟨hn, Nat.ne_of_gt (Nat.lt_of_lt_of_le I.lt hb), I.nofs hb, .inr (Nat.le_trans I.sz hb), fun x c e z => ?_, fun p hp z => ?_⟩
  · obtain ⟨v, q⟩ := I.cell x c e
    exact absurd (Nat.lt_of_lt_of_le q.lt (by rw [z]; exact hb)) (Nat.lt_irrefl _)
  · exact absurd (Nat.lt_of_lt_of_le (Heap.lt_size (I.pin p hp).1) (by rw [z]; exact hb)) (Nat.lt_irrefl _)
structure Turn (P : Program) (w : World) (K : PySem.W.Frag) (tg : Expr) (J : It) (fp : List Addr) (it : Addr) (tn : Nat → Heap → Prop) : Prop where
  mem : it ∈ fp
  obj : ∀ i h, tn i h → ∀ b ∈ fp, ∃ o, h.get? b = some o ∧ ∀ v, o.data ≠ .cell v
  keep : ∀ i h h', tn i h → (∀ b ∈ fp, ∀ o, h.get? b = some o → h'.get? b = some o) → tn i h'
  item : ∀ (X : Cx), X.prog = P → X.w = w → X.K = K → X.calm = true → ∀ (i : Nat) (pins : List (Addr × Obj)) (s : Shared) (σ : St) (H : Hp) (E : Value → Shared → Prop), Inv X pins σ H s → (∀ b ∈ fp, FpOk X pins H b) → tn i s.heap → J.go i H →
    wpAny (model P w) X.A (pyNext (.ref it)) (fun r s1 => ∃ u, r = some u ∧
      wpAny (model P w) X.A (letOwnedTupleGo tg (.ref it) u) (fun _ s2 => ∃ x H', Inv X pins σ H' s2 ∧ RelV x u ∧ J.yld i H x H' ∧ tn (i + 1) s2.heap ∧ ∀ b ∈ fp, H' b = none) E s1) E s
  done : ∀ (X : Cx), X.prog = P → X.w = w → X.K = K → X.calm = true → ∀ (i : Nat) (pins : List (Addr × Obj)) (s : Shared) (σ : St) (H : Hp) (E : Value → Shared → Prop), Inv X pins σ H s → (∀ b ∈ fp, FpOk X pins H b) → tn i s.heap → J.stop i H →
    wpAny (model P w) X.A (pyNext (.ref it)) (fun r s1 => r = none ∧ Inv X pins σ H s1) E s
  self : ∀ (A : Around) (i : Nat) (s : Shared) (Q : Value → Shared → Prop) (E : Value → Shared → Prop), tn i s.heap → Q (.ref it) s → wpAny (model P w) A (pyIter (.ref it)) Q E s
abbrev TI := St → Hp → (It → Hp → Prop) → Prop
/-- an iterator has come -/
def PIE (X : Cx) (pins : List (Addr × Obj)) (σ : St) (tg : Expr) (R : It → Hp → Prop) (itv : Value) (s2 : Shared) : Prop :=
  ∃ (it : Addr) (fp : List Addr) (tn : Nat → Heap → Prop) (J : It) (H' : Hp), itv = .ref it ∧ Inv X pins σ H' s2 ∧ Turn X.prog X.w X.K tg J fp it tn ∧ tn 0 s2.heap ∧ (∀ b ∈ fp, FpOk X pins H' b) ∧ R J H'
def PI (X : Cx) (tg iter : Expr) (wi : TI) : Prop :=
  ∀ (pins : List (Addr × Obj)) (s : Shared) (σ : St) (H : Hp) (R : It → Hp → Prop), Inv X pins σ H s → wi σ H R →
    wpAny (model X.prog X.w) X.A (eval iter X.env) (fun v s1 => wpAny (model X.prog X.w) X.A (pyIter v) (PIE X pins σ tg R) X.xe s1) X.xe s

/-- the step ahead of the store is nothing for an iterator that keeps no tuple -/
theorem go_of {M : Model} {A : Around} {E : Value → Shared → Prop} {s : Shared} {tg : Expr} {it : Addr} {u : Value} {o : Obj} {n : String} {vs : Array Value} {Q : Unit → Shared → Prop} (ho : s.heap.get? it = some o) (hc : o.cls = .type n) (hd : o.data = .fields vs)
    (hn : ["enumerate", "zip", "dict_itemiterator", "dict_reverseitemiterator", "odict_iterator", "itertools.zip_longest", "itertools.pairwise"].contains n = false) (hQ : Q () s) : wpAny M A (letOwnedTupleGo tg (.ref it) u) Q E s := by
  unfold letOwnedTupleGo
  cases tg <;> first
    | exact wpAny_pure hQ
    | (cases u <;> first
        | exact wpAny_pure hQ
        | (refine wpAny_bind (wpAny_load ho ?_)
           rw [hc, hd]
           show wpAny M A (if (["enumerate", "zip", "dict_itemiterator", "dict_reverseitemiterator", "odict_iterator", "itertools.zip_longest", "itertools.pairwise"].contains n && vs[0]? == some (rawInt _)) = true then _ else _) Q E s
           rw [if_neg (by intro h; rw [hn, Bool.false_and] at h; cases h)]
           exact wpAny_pure hQ))

/-- the list at a, as it stands at each turn (a loop may append to it) -/
def Itl (K : PySem.W.Frag) (a : Addr) : It :=
  ⟨fun i H => ∃ xs x, SqL K H a xs ∧ xs[i]? = some x, fun i H x H' => H' = H ∧ ∀ xs, SqL K H a xs → xs[i]? = some x, fun i H => ∃ xs, SqL K H a xs ∧ xs.length ≤ i⟩
def Itt (K : PySem.W.Frag) (a : Addr) : It :=
  ⟨fun i H => ∃ xs x, SqT K H a xs ∧ xs[i]? = some x, fun i H x H' => H' = H ∧ ∀ xs, SqT K H a xs → xs[i]? = some x, fun i H => ∃ xs, SqT K H a xs ∧ xs.length ≤ i⟩
/-- lo, lo + 1, .. (n of them) -/
def Itr (lo : Int) (n : Nat) : It := ⟨fun i _ => i < n, fun i H x H' => H' = H ∧ x = .int (lo + i), fun i _ => n ≤ i⟩
theorem turn_list {P : Program} {w : World} {K : PySem.W.Frag} {tg : Expr} (a it : Addr) : Turn P w K tg (Itl K a) [it] it (fun i h => h.IsListIter it a i) where
  mem := by simp
  obj := fun i h st b hb => by
    have e : b = it := by simpa using hb
    subst e
    obtain ⟨o, e, c, d⟩ := st
    exact ⟨o, e, fun v z => by rw [d] at z; cases z⟩
  keep := fun i h h' st k => st.at fun o e => k it (by simp) o e
  item := by
    intro X hP hw hK hc i pins s σ H E I hf st hg
    subst hP hw hK
    obtain ⟨xs, x, hq, hx⟩ := hg
    obtain ⟨its, rv, p, hz⟩ := I.list hq
    obtain ⟨u, hu, ru⟩ := rv.get hx
    obtain ⟨f0, f1, f2, f3, f4, f5⟩ := hf it (by simp)
    refine wpAny_pyNext_list_item st p.isList (x := u) (by simpa using hu) fun h' st' sb => ?_
    have I1 : Inv X pins σ H { s with heap := h' } := I.turned (t' := s.toks) (fun b o hb e => (sb.2 b hb).trans e) f0 f1 f3 f4 f5
    obtain ⟨o, e, c, d⟩ := id st'
    exact ⟨u, rfl, go_of (s := { s with heap := h' }) e c d (by decide) ⟨x, H, I1, ru, ⟨rfl, fun ys hy => by rw [I.list_inj hy hq]; exact hx⟩, st', fun b hb => (hf b hb).1⟩⟩
  done := by
    intro X hP hw hK hc i pins s σ H E I hf st hg
    subst hP hw hK
    obtain ⟨xs, hq, hx⟩ := hg
    obtain ⟨its, rv, p, hz⟩ := I.list hq
    obtain ⟨f0, f1, f2, f3, f4, f5⟩ := hf it (by simp)
    have hl := rv.length
    exact wpAny_pyNext_list_end (I.ok.hd hc) st p.isList (by simp; omega) fun h' eb => ⟨rfl, I.turned (t' := s.toks) (fun b o hb e => eb b o hb e) f0 f1 f3 f4 f5⟩
  self := fun _ _ _ _ _ st h => wpAny_pyIter_listiter st h
theorem turn_tuple {P : Program} {w : World} {K : PySem.W.Frag} {tg : Expr} (a it : Addr) : Turn P w K tg (Itt K a) [it] it (fun i h => h.IsTupleIter it a i) where
  mem := by simp
  obj := fun i h st b hb => by
    have e : b = it := by simpa using hb
    subst e
    obtain ⟨o, e, c, d⟩ := st
    exact ⟨o, e, fun v z => by rw [d] at z; cases z⟩
  keep := fun i h h' st k => st.at fun o e => k it (by simp) o e
  item := by
    intro X hP hw hK hc i pins s σ H E I hf st hg
    subst hP hw hK
    obtain ⟨xs, x, hq, hx⟩ := hg
    obtain ⟨its, rv, p, hz⟩ := I.tuple hq
    obtain ⟨u, hu, ru⟩ := rv.get hx
    obtain ⟨f0, f1, f2, f3, f4, f5⟩ := hf it (by simp)
    refine wpAny_pyNext_tuple_item st (show s.heap.IsTuple a its.toArray from p) (x := u) (by simpa using hu) fun h' st' sb => ?_
    have I1 : Inv X pins σ H { s with heap := h' } := I.turned (t' := s.toks) (fun b o hb e => (sb.2 b hb).trans e) f0 f1 f3 f4 f5
    obtain ⟨o, e, c, d⟩ := id st'
    exact ⟨u, rfl, go_of (s := { s with heap := h' }) e c d (by decide) ⟨x, H, I1, ru, ⟨rfl, fun ys hy => by rw [I.tuple_inj hy hq]; exact hx⟩, st', fun b hb => (hf b hb).1⟩⟩
  done := by
    intro X hP hw hK hc i pins s σ H E I hf st hg
    subst hP hw hK
    obtain ⟨xs, hq, hx⟩ := hg
    obtain ⟨its, rv, p, hz⟩ := I.tuple hq
    obtain ⟨f0, f1, f2, f3, f4, f5⟩ := hf it (by simp)
    have hl := rv.length
    exact wpAny_pyNext_tuple_end (I.ok.hd hc) st (show s.heap.IsTuple a its.toArray from p) (by simp; omega) fun h' eb => ⟨rfl, I.turned (t' := s.toks) (fun b o hb e => eb b o hb e) f0 f1 f3 f4 f5⟩
  self := fun _ _ _ _ _ st h => wpAny_pyIter_tupleiter st h
theorem turn_range {P : Program} {w : World} {K : PySem.W.Frag} {tg : Expr} (it : Addr) (lo : Int) (n : Nat) : Turn P w K tg (Itr lo n) [it] it (fun i h => IsRangeIter h it (lo + (i : Nat) * 1) ((n : Int) - (i : Nat)) 1) where
  mem := by simp
  obj := fun i h st b hb => by
    have e : b = it := by simpa using hb
    subst e
    exact ⟨_, st, fun v z => by
      have z' : Data.fields _ = Data.cell v := z
      cases z'⟩
  keep := fun i h h' st k => k it (by simp) _ st
  item := by
    intro X hP hw hK hc i pins s σ H E I hf st hg
    subst hP hw hK
    obtain ⟨f0, f1, f2, f3, f4, f5⟩ := hf it (by simp)
    have W := Walks.range (prog := X.prog) (w := X.w) (I.ok.hd hc) it lo 1 n
    refine W.item i s _ _ hg st fun v h' tk hv st' kk => ?_
    obtain ⟨t, rfl⟩ := hv
    have I1 : Inv X pins σ H { s with heap := h', toks := tk } := I.turned (fun b o hb e => kk b o (by simpa using hb) e) f0 f1 f3 f4 f5
    refine ⟨_, rfl, go_of (s := { s with heap := h', toks := tk }) (n := "range_iterator") st' rfl rfl (by decide) ⟨.int (lo + i), H, I1, ⟨t, ?_⟩, ⟨rfl, rfl⟩, st', fun b hb => (hf b hb).1⟩⟩
    rw [Int.mul_one]
  done := by
    intro X hP hw hK hc i pins s σ H E I hf st hg
    subst hP hw hK
    obtain ⟨f0, f1, f2, f3, f4, f5⟩ := hf it (by simp)
    exact wpAny_pyNext_range_end (I.ok.hd hc) st (by have : n ≤ i := hg; omega) fun h' eb => ⟨rfl, I.turned (t' := s.toks) (fun b o hb e => eb b o hb e) f0 f1 f3 f4 f5⟩
  self := fun _ _ _ _ _ st h => wpAny_pyIter_rangeiter st h
end L2

namespace L2
open PySem PySem.Spec PyProof.Rows
section
variable {X : Cx} {tg : Expr}
def iList (K : PySem.W.Frag) (tl : TE) : TI := fun σ H R => tl σ H fun x H1 => ∃ a, x = .ref a ∧ (∃ xs, SqL K H1 a xs) ∧ R (Itl K a) H1
def iTup (K : PySem.W.Frag) (tl : TE) : TI := fun σ H R => tl σ H fun x H1 => ∃ a, x = .ref a ∧ (∃ xs, SqT K H1 a xs) ∧ R (Itt K a) H1
theorem pi_list {l : Expr} {tl : TE} (hl : PE X l tl) : PI X tg l (iList X.K tl) := by
  intro pins s σ H R I h
  refine thn (hl pins s σ H _ I h) fun v s1 ⟨x, H1, I1, r1, q1⟩ => ?_
  obtain ⟨a, e, ⟨xs, hq⟩, q⟩ := q1
  subst e
  cases r1
  obtain ⟨its, rv, p, hz⟩ := I1.list hq
  refine wpAny_pyIter_list p.isList ?_
  refine ⟨s1.heap.objs.size, [s1.heap.objs.size], _, _, H1, rfl, I1.kept (t' := s1.toks) fun b o e => Heap.get?_push_of_some _ e, turn_list a _, ⟨_, Heap.get?_push_size _ rfl, rfl, rfl⟩, fun b hb => ?_, q⟩
  have e : b = s1.heap.objs.size := by simpa using hb
  subst e
  exact I1.fpOk (Nat.le_refl _) (I1.hok.fresh (Nat.le_refl _))
theorem pi_tup {l : Expr} {tl : TE} (hl : PE X l tl) : PI X tg l (iTup X.K tl) := by
  intro pins s σ H R I h
  refine thn (hl pins s σ H _ I h) fun v s1 ⟨x, H1, I1, r1, q1⟩ => ?_
  obtain ⟨a, e, ⟨xs, hq⟩, q⟩ := q1
  subst e
  cases r1
  obtain ⟨its, rv, p, hz⟩ := I1.tuple hq
  refine wpAny_pyIter_tuple (show s1.heap.IsTuple a its.toArray from p) ?_
  refine ⟨s1.heap.objs.size, [s1.heap.objs.size], _, _, H1, rfl, I1.kept (t' := s1.toks) fun b o e => Heap.get?_push_of_some _ e, turn_tuple a _, ⟨_, Heap.get?_push_size _ rfl, rfl, rfl⟩, fun b hb => ?_, q⟩
  have e : b = s1.heap.objs.size := by simpa using hb
  subst e
  exact I1.fpOk (Nat.le_refl _) (I1.hok.fresh (Nat.le_refl _))
/-- a range object just made, walked -/
theorem range_it {pins : List (Addr × Obj)} {σ : St} {H : Hp} {s : Shared} {R : It → Hp → Prop} {E : Value → Shared → Prop} {lo hi : Int} {t u v : Tok} {tk : Nat} (I : Inv X pins σ H s) (h1 : -(2 ^ 62) ≤ lo) (h2 : lo < 2 ^ 62) (h3 : -(2 ^ 62) ≤ hi) (h4 : hi < 2 ^ 62)
    (q : R (Itr lo (hi - lo).toNat) H) : wpAny (model X.prog X.w) X.A (pyIter (.ref s.heap.objs.size)) (PIE X pins σ tg R) E { s with heap := s.heap.push { cls := .type "range", data := .fields #[.int lo t, .int hi u, .int 1 v] }, toks := tk } := by
  refine wpAny_pyIter_range (IsRange.new ..) (small_one h1 h2 h3 h4) ?_
  have I1 : Inv X pins σ H { s with heap := s.heap.push { cls := .type "range", data := .fields #[.int lo t, .int hi u, .int 1 v] }, toks := tk } := I.kept fun b o e => Heap.get?_push_of_some _ e
  refine ⟨(s.heap.push { cls := .type "range", data := .fields #[.int lo t, .int hi u, .int 1 v] }).objs.size, [(s.heap.push { cls := .type "range", data := .fields #[.int lo t, .int hi u, .int 1 v] }).objs.size], _, _, H, rfl,
    I1.kept (t' := tk) fun b o e => Heap.get?_push_of_some _ e, turn_range _ lo (hi - lo).toNat, ?_, fun b hb => ?_, q⟩
  · have e1 : lo + ((0 : Nat) : Int) * 1 = lo := by simp
    have e2 : (((hi - lo).toNat : Nat) : Int) - ((0 : Nat) : Int) = Builtin.Range.rangeSize lo hi 1 := by rw [rangeSize_one]; split <;> omega
    show IsRangeIter _ _ (lo + ((0 : Nat) : Int) * 1) ((((hi - lo).toNat : Nat) : Int) - ((0 : Nat) : Int)) 1
    rw [e1, e2]
    exact Heap.get?_push_size _ rfl
  · have e : b = (s.heap.push { cls := .type "range", data := .fields #[.int lo t, .int hi u, .int 1 v] }).objs.size := by simpa using hb
    subst e
    exact I1.fpOk (Nat.le_refl _) (I1.hok.fresh (Nat.le_refl _))
def iRng1 (ta : TA) : TI := fun σ H R => ta σ H fun vs H1 => ∃ j : Int, vs = [.int j] ∧ -(2 ^ 62) ≤ j ∧ j < 2 ^ 62 ∧ R (Itr 0 j.toNat) H1
def iRng2 (ta : TA) : TI := fun σ H R => ta σ H fun vs H1 => ∃ i j : Int, vs = [.int i, .int j] ∧ (-(2 ^ 62) ≤ i ∧ i < 2 ^ 62 ∧ -(2 ^ 62) ≤ j ∧ j < 2 ^ 62) ∧ R (Itr i (j - i).toNat) H1
theorem pi_range1 {a : Expr} {ta : TA} {p pos : Pos} (hg : Gl X "range") (hm : X.mg "range" = none) (ha : PA X [a] ta) (hs : starEach [a] X.env = [(false, eval a X.env)] := by rfl) : PI X tg (.Call (.Name "range" p) [a] [] pos) (iRng1 ta) := by
  intro pins s σ H R I h
  refine Call_ (ld_blt I hg hm boot_range (PyProof.Rows.callWith_type1 (thn (ha pos pins s σ H _ I h) fun us s1 ⟨vs, H1, I1, r1, q1⟩ => ?_) hs rfl))
  obtain ⟨j, e, q1, q2, q⟩ := q1
  subst e
  cases r1 with
  | cons r rr =>
    cases rr
    obtain ⟨t, rfl⟩ := r
    exact call_range_1 (range_it I1 (by omega) (by omega) q1 q2 (by simpa using q))
theorem pi_range2 {a b : Expr} {ta : TA} {p pos : Pos} (hg : Gl X "range") (hm : X.mg "range" = none) (ha : PA X [a, b] ta) (hs : starEach [a, b] X.env = [(false, eval a X.env), (false, eval b X.env)] := by rfl) (hs2 : starEach [b] X.env = [(false, eval b X.env)] := by rfl) :
    PI X tg (.Call (.Name "range" p) [a, b] [] pos) (iRng2 ta) := by
  intro pins s σ H R I h
  refine Call_ (ld_blt I hg hm boot_range (PyProof.Rows.callWith_type1 (thn (ha pos pins s σ H _ I h) fun us s1 ⟨vs, H1, I1, r1, q1⟩ => ?_) (by rw [hs, hs2]) (by rw [hs2]; rfl)))
  obtain ⟨i, j, e, ⟨q1, q2, q3, q4⟩, q⟩ := q1
  subst e
  cases r1 with
  | cons r rr =>
    cases rr with
    | cons r' rr =>
      cases rr
      obtain ⟨t, rfl⟩ := r
      obtain ⟨t', rfl⟩ := r'
      exact call_range_2 (range_it I1 q1 q2 q3 q4 q)

/-! ### for -/
/-- W: the invariant by the turn and a measure; N: what the body is to reach -/
def tFor (wi : TI) (g : TG) (tb : TS) : TS := fun D σ H => wi σ H fun J H1 => ∃ W : Nat → Nat → St → Hp → Prop, (∃ m, W 0 m σ H1) ∧ ∀ i m σ H, W i m σ H →
  (J.stop i H ∧ D.nx σ H) ∨ (J.go i H ∧ ∃ N : St → Hp → Prop, (∀ σ' H', N σ' H' → ∃ m', m' < m ∧ W (i + 1) m' σ' H') ∧ ∀ x H', J.yld i H x H' → g x σ H' fun σ2 H2 => tb { D with nx := N, ct := N, bk := D.nx } σ2 H2)
/-- the records at fp as they stand -/
def pinsAt (fp : List Addr) (h : Heap) : List (Addr × Obj) := fp.filterMap fun b => (h.get? b).map fun o => (b, o)
theorem mem_pinsAt {fp : List Addr} {h : Heap} {b : Addr} {o : Obj} (hb : b ∈ fp) (e : h.get? b = some o) : (b, o) ∈ pinsAt fp h := List.mem_filterMap.mpr ⟨b, hb, by rw [e]; rfl⟩
theorem of_pinsAt {fp : List Addr} {h : Heap} {p : Addr × Obj} (hp : p ∈ pinsAt fp h) : p.1 ∈ fp ∧ h.get? p.1 = some p.2 := by
  obtain ⟨b, hb, e⟩ := List.mem_filterMap.mp hp
  cases q : h.get? b with
  | none => rw [q] at e; cases e
  | some o =>
    rw [q] at e
    have e' : (b, o) = p := Option.some.inj e
    subst e'
    exact ⟨hb, q⟩
theorem Inv.pinned {pins : List (Addr × Obj)} {σ : St} {H : Hp} {s : Shared} {fp : List Addr} (I : Inv X pins σ H s) (hf : ∀ b ∈ fp, FpOk X pins H b) (ho : ∀ b ∈ fp, ∃ o, s.heap.get? b = some o ∧ ∀ v, o.data ≠ .cell v) : Inv X (pins ++ pinsAt fp s.heap) σ H s :=
  I.pins_of fun p hp => (List.mem_append.mp hp).elim (fun z => I.pin p (List.mem_append_right _ z)) fun z => by
    obtain ⟨hb, e⟩ := of_pinsAt z
    obtain ⟨f0, f1, f2, _⟩ := hf p.1 hb
    obtain ⟨o, e', d⟩ := ho p.1 hb
    rw [e] at e'; cases e'
    exact ⟨e, f0, f1, f2, d⟩
theorem Inv.unpinned {pins pl : List (Addr × Obj)} {σ : St} {H : Hp} {s : Shared} (I : Inv X (pins ++ pl) σ H s) : Inv X pins σ H s := I.pins_of fun p hp => I.pin p (List.mem_append_right _ (List.mem_append_left _ hp))
theorem ps_for {iter : Expr} {body : List Stmt} {wi : TI} {g : TG} {tb : TS} {pos : Pos} (hp : PassesOwn (model X.prog X.w) X.A X.env X.xe) (hc : X.calm = true) (hi : PI X tg iter wi) (hg : PG X tg g) (hb : PSs X body tb)
    (hs : ∀ x, foldedSetIterable iter X.env x = pure x := by intro _; rfl) : PS X (.For tg iter body [] pos) (tFor wi g tb) := by
  intro pins s σ H D I h
  refine wpAny_For (thn (hi pins s σ H _ I h) fun v s1 h1 => thn h1 fun itv s2 h2 => ?_) hs
  obtain ⟨it, fp, tn, J, H2, e, I2, T, st2, f2, W, ⟨m0, w0⟩, turn⟩ := h2
  subst e
  -- what stays true of the iterator's objects through the loop
  have stat : ∀ {H' : Hp}, (∀ b ∈ fp, H' b = none) → ∀ b ∈ fp, FpOk X pins H' b := fun hn b hb => ⟨hn b hb, (f2 b hb).2⟩
  refine codeAny_forLoop_any (fun n s' => ∃ i σ' H', Inv X pins σ' H' s' ∧ tn i s'.heap ∧ (∀ b ∈ fp, H' b = none) ∧ W i n σ' H') ?_ m0 ⟨0, σ, H2, I2, st2, fun b hb => (f2 b hb).1, w0⟩
  rintro n s3 ⟨i, σ3, H3, I3, st3, fr3, w3⟩
  rcases turn i n σ3 H3 w3 with ⟨stop, qn⟩ | ⟨go, N, hN, step⟩
  · refine wpAny_passesOwn hp (thn (T.done X rfl rfl rfl hc i pins s3 σ3 H3 X.xe I3 (stat fr3) st3 stop) fun r s4 ⟨hr, I4⟩ => ?_)
    subst hr
    exact wpAny_execs_nil ⟨σ3, H3, I4, qn⟩
  · refine wpAny_passesOwn hp (thn (T.item X rfl rfl rfl hc i pins s3 σ3 H3 X.xe I3 (stat fr3) st3 go) fun r s4 ⟨u, hr, h4⟩ => ?_)
    subst hr
    refine wpAny_passesOwn hp (thn h4 fun _ s5 ⟨x, H5, I5, r5, y5, st5, fr5⟩ => ?_)
    have I5' := I5.pinned (stat fr5) (T.obj _ _ st5)
    refine wpAny_passesOwn hp (thn (hg _ s5 σ3 H5 x u _ I5' r5 (step x H5 y5)) fun _ s6 ⟨σ6, H6, I6, q6⟩ => ?_)
    refine wpAny_passesOwn hp (thn (hb _ s6 σ6 H6 _ I6 q6) fun f s7 q7 => ?_)
    have again : ∀ {σ7 : St} {H7 : Hp}, Inv X (pins ++ pinsAt fp s5.heap) σ7 H7 s7 → N σ7 H7 → ∃ m, m < n ∧ ∃ i σ' H', Inv X pins σ' H' s7 ∧ tn i s7.heap ∧ (∀ b ∈ fp, H' b = none) ∧ W i m σ' H' := fun {σ7 H7} I7 n7 => by
      obtain ⟨m', hm, w7⟩ := hN σ7 H7 n7
      refine ⟨m', hm, i + 1, σ7, H7, I7.unpinned, T.keep _ _ _ st5 fun b hb o e => (I7.pin (b, o) (List.mem_append_right _ (List.mem_append_right _ (mem_pinsAt hb e)))).1, fun b hb => ?_, w7⟩
      obtain ⟨o, e, d⟩ := T.obj _ _ st5 b hb
      exact (I7.pin (b, o) (List.mem_append_right _ (List.mem_append_right _ (mem_pinsAt hb e)))).2.1
    cases f with
    | next => obtain ⟨σ7, H7, I7, n7⟩ := q7; exact again I7 n7
    | cont => obtain ⟨σ7, H7, I7, n7⟩ := q7; exact again I7 n7
    | brk => obtain ⟨σ7, H7, I7, q7⟩ := q7; exact ⟨σ7, H7, I7.unpinned, q7⟩
    | ret v => obtain ⟨x7, σ7, H7, I7, r7, q7⟩ := q7; exact ⟨x7, σ7, H7, I7.unpinned, r7, q7⟩
end

/-! ### the forms one uses -/
/-- over a list that the body leaves as it is -/
theorem for_list {K : PySem.W.Frag} {a : Addr} {xs : List V} {g : TG} {tb : TS} {D : Ends} {σ : St} {H : Hp} (Pv : Nat → St → Hp → Prop) (h0 : Pv 0 σ H) (hl : ∀ i σ H, i ≤ xs.length → Pv i σ H → SqL K H a xs)
    (hs : ∀ i x σ H, xs[i]? = some x → Pv i σ H → g x σ H fun σ2 H2 => tb { D with nx := Pv (i + 1), ct := Pv (i + 1), bk := D.nx } σ2 H2) (hd : ∀ σ H, Pv xs.length σ H → D.nx σ H) :
    ∃ W : Nat → Nat → St → Hp → Prop, (∃ m, W 0 m σ H) ∧ ∀ i m σ H, W i m σ H →
      ((Itl K a).stop i H ∧ D.nx σ H) ∨ ((Itl K a).go i H ∧ ∃ N : St → Hp → Prop, (∀ σ' H', N σ' H' → ∃ m', m' < m ∧ W (i + 1) m' σ' H') ∧ ∀ x H', (Itl K a).yld i H x H' → g x σ H' fun σ2 H2 => tb { D with nx := N, ct := N, bk := D.nx } σ2 H2) := by
  refine ⟨fun i m σ H => m = xs.length - i ∧ i ≤ xs.length ∧ Pv i σ H, ⟨xs.length, by simp, Nat.zero_le _, h0⟩, ?_⟩
  rintro i m σ H ⟨rfl, hi, p⟩
  have q := hl i σ H hi p
  by_cases hlt : i < xs.length
  · refine .inr ⟨⟨xs, xs[i], q, by simp [hlt]⟩, Pv (i + 1), fun σ' H' p' => ⟨xs.length - (i + 1), by omega, rfl, hlt, p'⟩, fun x H' y => ?_⟩
    obtain ⟨e, y⟩ := y
    subst e
    exact hs i x σ _ (y xs q) p
  · have e : i = xs.length := by omega
    subst e
    exact .inl ⟨⟨xs, q, Nat.le_refl _⟩, hd σ H p⟩
theorem for_tup {K : PySem.W.Frag} {a : Addr} {xs : List V} {g : TG} {tb : TS} {D : Ends} {σ : St} {H : Hp} (Pv : Nat → St → Hp → Prop) (h0 : Pv 0 σ H) (hl : ∀ i σ H, i ≤ xs.length → Pv i σ H → SqT K H a xs)
    (hs : ∀ i x σ H, xs[i]? = some x → Pv i σ H → g x σ H fun σ2 H2 => tb { D with nx := Pv (i + 1), ct := Pv (i + 1), bk := D.nx } σ2 H2) (hd : ∀ σ H, Pv xs.length σ H → D.nx σ H) :
    ∃ W : Nat → Nat → St → Hp → Prop, (∃ m, W 0 m σ H) ∧ ∀ i m σ H, W i m σ H →
      ((Itt K a).stop i H ∧ D.nx σ H) ∨ ((Itt K a).go i H ∧ ∃ N : St → Hp → Prop, (∀ σ' H', N σ' H' → ∃ m', m' < m ∧ W (i + 1) m' σ' H') ∧ ∀ x H', (Itt K a).yld i H x H' → g x σ H' fun σ2 H2 => tb { D with nx := N, ct := N, bk := D.nx } σ2 H2) := by
  refine ⟨fun i m σ H => m = xs.length - i ∧ i ≤ xs.length ∧ Pv i σ H, ⟨xs.length, by simp, Nat.zero_le _, h0⟩, ?_⟩
  rintro i m σ H ⟨rfl, hi, p⟩
  have q := hl i σ H hi p
  by_cases hlt : i < xs.length
  · refine .inr ⟨⟨xs, xs[i], q, by simp [hlt]⟩, Pv (i + 1), fun σ' H' p' => ⟨xs.length - (i + 1), by omega, rfl, hlt, p'⟩, fun x H' y => ?_⟩
    obtain ⟨e, y⟩ := y
    subst e
    exact hs i x σ _ (y xs q) p
  · have e : i = xs.length := by omega
    subst e
    exact .inl ⟨⟨xs, q, Nat.le_refl _⟩, hd σ H p⟩
theorem for_range {lo : Int} {n : Nat} {g : TG} {tb : TS} {D : Ends} {σ : St} {H : Hp} (Pv : Nat → St → Hp → Prop) (h0 : Pv 0 σ H)
    (hs : ∀ i σ H, i < n → Pv i σ H → g (.int (lo + i)) σ H fun σ2 H2 => tb { D with nx := Pv (i + 1), ct := Pv (i + 1), bk := D.nx } σ2 H2) (hd : ∀ σ H, Pv n σ H → D.nx σ H) :
    ∃ W : Nat → Nat → St → Hp → Prop, (∃ m, W 0 m σ H) ∧ ∀ i m σ H, W i m σ H →
      ((Itr lo n).stop i H ∧ D.nx σ H) ∨ ((Itr lo n).go i H ∧ ∃ N : St → Hp → Prop, (∀ σ' H', N σ' H' → ∃ m', m' < m ∧ W (i + 1) m' σ' H') ∧ ∀ x H', (Itr lo n).yld i H x H' → g x σ H' fun σ2 H2 => tb { D with nx := N, ct := N, bk := D.nx } σ2 H2) := by
  refine ⟨fun i m σ H => m = n - i ∧ i ≤ n ∧ Pv i σ H, ⟨n, by simp, Nat.zero_le _, h0⟩, ?_⟩
  rintro i m σ H ⟨rfl, hi, p⟩
  by_cases hlt : i < n
  · refine .inr ⟨hlt, Pv (i + 1), fun σ' H' p' => ⟨n - (i + 1), by omega, rfl, hlt, p'⟩, fun x H' y => ?_⟩
    obtain ⟨e, y⟩ := y
    subst e y
    exact hs i σ _ hlt p
  · have e : i = n := by omega
    subst e
    exact .inl ⟨Nat.le_refl _, hd σ H p⟩
/-- while, by a word and a measure of the state -/
theorem while_by {c : TT} {tb : TS} {D : Ends} {σ : St} {H : Hp} (Pv : St → Hp → Prop) (μ : St → Hp → Nat) (h0 : Pv σ H)
    (hs : ∀ σ H, Pv σ H → c σ H fun b H1 => if b = true then tb { D with nx := fun σ' H' => Pv σ' H' ∧ μ σ' H' < μ σ H, ct := fun σ' H' => Pv σ' H' ∧ μ σ' H' < μ σ H, bk := D.nx } σ H1 else D.nx σ H1)
    (mono : ∀ σ H Q Q', (∀ b H1, Q b H1 → Q' b H1) → c σ H Q → c σ H Q') : tWhile c tb D σ H := by
  refine ⟨fun m σ H => m = μ σ H ∧ Pv σ H, ⟨_, rfl, h0⟩, ?_⟩
  rintro m σ H ⟨rfl, p⟩
  refine mono σ H _ _ (fun b H1 q => ?_) (hs σ H p)
  cases b with
  | true => exact ⟨_, fun σ' H' ⟨p', l⟩ => ⟨_, l, rfl, p'⟩, q⟩
  | false => exact q
end L2

namespace L2
open PySem PySem.Spec PyProof.Rows

abbrev R2 := V → V → Hp → VK → Prop
/-- a two-place operation on values: f is binaryOp op, inplaceOp op or compareOp op -/
def OpR (X : Cx) (f : Value → Value → Sem Value) (r : R2) : Prop :=
  ∀ (pins : List (Addr × Obj)) (s : Shared) (σ : St) (H : Hp) (x y : V) (v u : Value) (Q : VK), Inv X pins σ H s → RelV x v → RelV y u → r x y H Q →
    wpAny (model X.prog X.w) X.A (f v u) (EP X pins σ Q) X.xe s
/-- a one-place operation -/
def UnR (X : Cx) (f : Value → Sem Value) (r : V → Hp → VK → Prop) : Prop :=
  ∀ (pins : List (Addr × Obj)) (s : Shared) (σ : St) (H : Hp) (x : V) (v : Value) (Q : VK), Inv X pins σ H s → RelV x v → r x H Q →
    wpAny (model X.prog X.w) X.A (f v) (EP X pins σ Q) X.xe s
/-- a call of a value that is known (a builtin, a type) with values -/
def CallR (X : Cx) (f : Value) (r : List V → Hp → VK → Prop) : Prop :=
  ∀ (pins : List (Addr × Obj)) (s : Shared) (σ : St) (H : Hp) (xs : List V) (us : List Value) (Q : VK), Inv X pins σ H s → Vals xs us → r xs H Q →
    wpAny (model X.prog X.w) X.A (call f us) (EP X pins σ Q) X.xe s
/-- a value's truth -/
def TruR (X : Cx) (r : V → Hp → (Bool → Hp → Prop) → Prop) : Prop :=
  ∀ (pins : List (Addr × Obj)) (s : Shared) (σ : St) (H : Hp) (x : V) (v : Value) (Q : Bool → Hp → Prop), Inv X pins σ H s → RelV x v → r x H Q →
    wpAny (model X.prog X.w) X.A (truthy v) (TP X pins σ Q) X.xe s

def tOp (r : R2) (ta tb : TE) : TE := fun σ H Q => ta σ H fun x H1 => tb σ H1 fun y H2 => r x y H2 Q
def tUn (r : V → Hp → VK → Prop) (ta : TE) : TE := fun σ H Q => ta σ H fun x H1 => r x H1 Q
/-- ints in, under C, and a value out -/
def rI (C : Int → Int → Prop) (g : Int → Int → V) : R2 := fun x y H Q => ∃ i j, x = .int i ∧ y = .int j ∧ C i j ∧ Q (g i j) H
def rI0 (g : Int → Int → V) : R2 := fun x y H Q => ∃ i j, x = .int i ∧ y = .int j ∧ Q (g i j) H
def rU (g : Int → V) : V → Hp → VK → Prop := fun x H Q => ∃ i, x = .int i ∧ Q (g i) H

section
variable {X : Cx} {a b c : Expr} {ta tb tc : TE} {pos : Pos}

theorem binT (ha : PE X a ta) (hb : PE X b tb) {pins : List (Addr × Obj)} {s : Shared} {σ : St} {H : Hp} {R : V → V → Hp → Prop} (I : Inv X pins σ H s)
    (h : ta σ H fun x H1 => tb σ H1 fun y H2 => R x y H2) {Q : Value → Shared → Prop} {f : Value → Value → Sem Value}
    (hf : ∀ v u s2 x y H2, Inv X pins σ H2 s2 → RelV x v → RelV y u → R x y H2 → wpAny (model X.prog X.w) X.A (f v u) Q X.xe s2) :
    wpAny (model X.prog X.w) X.A (eval a X.env) (fun v s₁ => wpAny (model X.prog X.w) X.A (eval b X.env) (fun u s₂ => wpAny (model X.prog X.w) X.A (f v u) Q X.xe s₂) X.xe s₁) X.xe s := by
  refine thn (ha pins s σ H _ I h) fun v s1 ⟨x, H1, I1, r1, q1⟩ => ?_
  refine thn (hb pins s1 σ H1 _ I1 q1) fun u s2 ⟨y, H2, I2, r2, q2⟩ => ?_
  exact hf v u s2 x y H2 I2 r1 r2 q2

theorem pe_op {op : Operator} {r : R2} (ho : OpR X (binaryOp op) r) (ha : PE X a ta) (hb : PE X b tb) : PE X (.BinOp a op b pos) (tOp r ta tb) := by
  intro pins s σ H Q I h
  exact wpAny_BinOp (binT ha hb I h fun v u s2 x y H2 I2 rx ry q => ho pins s2 σ H2 x y v u Q I2 rx ry q)
theorem pe_un {op : UnaryOp} {r : V → Hp → VK → Prop} (ho : UnR X (unaryOp op) r) (ha : PE X a ta) : PE X (.UnaryOp op a pos) (tUn r ta) := by
  intro pins s σ H Q I h
  exact UnaryOp_ (thn (ha pins s σ H _ I h) fun v s1 ⟨x, H1, I1, r1, q1⟩ => ho pins s1 σ H1 x v Q I1 r1 q1)
/-- a op= e at a name: the name's slot i -/
theorem augR {op : Operator} {r : R2} (ho : OpR X (inplaceOp op) r) {pins : List (Addr × Obj)} {s : Shared} {σ : St} {H : Hp} {x y : V} {v u : Value} {Q : VK} (I : Inv X pins σ H s)
    (rx : RelV x v) (ry : RelV y u) (q : r x y H Q) : wpAny (model X.prog X.w) X.A (inplaceOp op v u) (EP X pins σ Q) X.xe s := ho pins s σ H x y v u Q I rx ry q

/-! ### ints -/
theorem opI {f : Value → Value → Sem Value} {C : Int → Int → Prop} {g : Int → Int → Int}
    (rule : ∀ (i j : Int) (t u : Tok) (s : Shared) (Q : Value → Shared → Prop) (E : Value → Shared → Prop), C i j → Q (.int (g i j) s.toks) { s with toks := s.toks + 1 } → wpAny (model X.prog X.w) X.A (f (.int i t) (.int j u)) Q E s) :
    OpR X f (rI C fun i j => .int (g i j)) := by
  intro pins s σ H x y v u Q I rx ry h
  obtain ⟨i, j, rfl, rfl, hc, q⟩ := h
  obtain ⟨t, rfl⟩ := rx
  obtain ⟨t', rfl⟩ := ry
  exact rule i j t t' s _ _ hc ⟨.int (g i j), H, I.tok _, ⟨_, rfl⟩, q⟩
theorem opI0 {f : Value → Value → Sem Value} {g : Int → Int → Int}
    (rule : ∀ (i j : Int) (t u : Tok) (s : Shared) (Q : Value → Shared → Prop) (E : Value → Shared → Prop), Q (.int (g i j) s.toks) { s with toks := s.toks + 1 } → wpAny (model X.prog X.w) X.A (f (.int i t) (.int j u)) Q E s) :
    OpR X f (rI0 fun i j => .int (g i j)) := by
  intro pins s σ H x y v u Q I rx ry h
  obtain ⟨i, j, rfl, rfl, q⟩ := h
  obtain ⟨t, rfl⟩ := rx
  obtain ⟨t', rfl⟩ := ry
  exact rule i j t t' s _ _ ⟨.int (g i j), H, I.tok _, ⟨_, rfl⟩, q⟩
theorem opB0 {f : Value → Value → Sem Value} {g : Int → Int → Bool}
    (rule : ∀ (i j : Int) (t u : Tok) (s : Shared) (Q : Value → Shared → Prop) (E : Value → Shared → Prop), Q (.bool (g i j)) s → wpAny (model X.prog X.w) X.A (f (.int i t) (.int j u)) Q E s) :
    OpR X f (rI0 fun i j => .bl (g i j)) := by
  intro pins s σ H x y v u Q I rx ry h
  obtain ⟨i, j, rfl, rfl, q⟩ := h
  obtain ⟨t, rfl⟩ := rx
  obtain ⟨t', rfl⟩ := ry
  exact rule i j t t' s _ _ ⟨.bl (g i j), H, I, rfl, q⟩

def CDiv (i j : Int) : Prop := 0 < j ∧ j < 1073741824
def CDivN (i j : Int) : Prop := j ≠ 0 ∧ j.natAbs < 1073741824
def CPow (i j : Int) : Prop := 0 ≤ j ∧ j ≤ 1000000 ∧ i.natAbs < 2 ^ 64
def CMul (i j : Int) : Prop := (-(2 ^ 64) < i ∧ i < 2 ^ 64) ∨ (-(2 ^ 64) < j ∧ j < 2 ^ 64)
theorem CMul.ok {i j : Int} (h : CMul i j) : IntMulOk i j := by
  rcases h with ⟨h1, h2⟩ | ⟨h1, h2⟩
  · exact .of_left (intBits_le_64 h1 h2)
  · exact .of_right (intBits_le_64 h1 h2)
theorem two_pow_nn (k : Nat) : (0 : Int) ≤ 2 ^ k := by
  rw [two_pow_cast]
  exact Int.natCast_nonneg _

theorem op_add : OpR X (binaryOp .Add) (rI0 fun i j => .int (i + j)) := opI0 fun _ _ _ _ _ _ _ q => add_int q
theorem op_sub : OpR X (binaryOp .Sub) (rI0 fun i j => .int (i - j)) := opI0 fun _ _ _ _ _ _ _ q => sub_int q
theorem op_mul : OpR X (binaryOp .Mult) (rI CMul fun i j => .int (i * j)) := opI fun _ _ _ _ _ _ _ hc q => mul_int q hc.ok
/-- // by a positive divisor -/
theorem op_fdiv : OpR X (binaryOp .FloorDiv) (rI CDiv fun i j => .int (i / j)) := opI fun i j _ _ _ _ _ hc q => by
  have h1 : (0 : Int) < j := hc.1
  have h2 : j < 1073741824 := hc.2
  exact floordiv_int (by omega) (by rw [Int.fdiv_eq_ediv_of_nonneg i (by omega)]; exact q) (.inl (PyProof.noPylong_small (by omega)))
theorem op_fdivN : OpR X (binaryOp .FloorDiv) (rI CDivN fun i j => .int (i.fdiv j)) := opI fun _ _ _ _ _ _ _ hc q => floordiv_int hc.1 q (.inl (PyProof.noPylong_small hc.2))
/-- % by a positive divisor of any size -/
theorem op_mod : OpR X (binaryOp .Mod) (rI (fun _ j => 0 < j) fun i j => .int (i % j)) := opI fun i j _ _ _ _ _ hc q => by
  have h1 : (0 : Int) < j := hc
  exact mod_int' (by omega) (by rw [Int.fmod_eq_emod_of_nonneg i (by omega)]; exact q)
theorem op_modN : OpR X (binaryOp .Mod) (rI (fun _ j => j ≠ 0) fun i j => .int (i.fmod j)) := opI fun _ _ _ _ _ _ _ hc q => mod_int' hc q
theorem op_pow : OpR X (binaryOp .Pow) (rI CPow fun i j => .int (i ^ j.toNat)) := opI fun _ _ _ _ _ _ _ hc q => pow_int_small hc.1 hc.2.1 hc.2.2 q
theorem op_shl : OpR X (binaryOp .LShift) (rI CPow fun i j => .int (i * 2 ^ j.toNat)) := opI fun _ _ _ _ _ _ _ hc q => lshift_int_small hc.1 hc.2.1 hc.2.2 q
theorem op_shr : OpR X (binaryOp .RShift) (rI (fun _ j => 0 ≤ j) fun i j => .int (i / 2 ^ j.toNat)) := opI fun i j _ _ _ _ _ hc q =>
  rshift_int hc (by rw [Int.fdiv_eq_ediv_of_nonneg i (two_pow_nn _)]; exact q)
theorem op_and : OpR X (binaryOp .BitAnd) (rI0 fun i j => .int (Builtin.bitAnd i j)) := opI0 fun _ _ _ _ _ _ _ q => and_int q
theorem op_or : OpR X (binaryOp .BitOr) (rI0 fun i j => .int (Builtin.bitOr i j)) := opI0 fun _ _ _ _ _ _ _ q => or_int q
theorem op_xor : OpR X (binaryOp .BitXor) (rI0 fun i j => .int (Builtin.bitXor i j)) := opI0 fun _ _ _ _ _ _ _ q => xor_int q

theorem iop_add : OpR X (inplaceOp .Add) (rI0 fun i j => .int (i + j)) := opI0 fun _ _ _ _ _ _ _ q => iadd_int q
theorem iop_sub : OpR X (inplaceOp .Sub) (rI0 fun i j => .int (i - j)) := opI0 fun _ _ _ _ _ _ _ q => isub_int q
theorem iop_mul : OpR X (inplaceOp .Mult) (rI CMul fun i j => .int (i * j)) := opI fun _ _ _ _ _ _ _ hc q => imul_int q hc.ok
theorem iop_fdiv : OpR X (inplaceOp .FloorDiv) (rI CDiv fun i j => .int (i / j)) := opI fun i j _ _ _ _ _ hc q => by
  have h1 : (0 : Int) < j := hc.1
  have h2 : j < 1073741824 := hc.2
  exact ifloordiv_int (by omega) (by rw [Int.fdiv_eq_ediv_of_nonneg i (by omega)]; exact q) (.inl (PyProof.noPylong_small (by omega)))
theorem iop_mod : OpR X (inplaceOp .Mod) (rI (fun _ j => 0 < j) fun i j => .int (i % j)) := opI fun i j _ _ _ _ _ hc q => by
  have h1 : (0 : Int) < j := hc
  exact imod_int (by omega) (by rw [Int.fmod_eq_emod_of_nonneg i (by omega)]; exact q)
theorem iop_shl : OpR X (inplaceOp .LShift) (rI CPow fun i j => .int (i * 2 ^ j.toNat)) := opI fun _ _ _ _ _ _ _ hc q => ilshift_int_small hc.1 hc.2.1 hc.2.2 q
theorem iop_shr : OpR X (inplaceOp .RShift) (rI (fun _ j => 0 ≤ j) fun i j => .int (i / 2 ^ j.toNat)) := opI fun i j _ _ _ _ _ hc q =>
  irshift_int hc (by rw [Int.fdiv_eq_ediv_of_nonneg i (two_pow_nn _)]; exact q)
theorem iop_and : OpR X (inplaceOp .BitAnd) (rI0 fun i j => .int (Builtin.bitAnd i j)) := opI0 fun _ _ _ _ _ _ _ q => iand_int q
theorem iop_or : OpR X (inplaceOp .BitOr) (rI0 fun i j => .int (Builtin.bitOr i j)) := opI0 fun _ _ _ _ _ _ _ q => ior_int q
theorem iop_xor : OpR X (inplaceOp .BitXor) (rI0 fun i j => .int (Builtin.bitXor i j)) := opI0 fun _ _ _ _ _ _ _ q => ixor_int q

theorem unI {f : Value → Sem Value} {g : Int → Int}
    (rule : ∀ (i : Int) (t : Tok) (s : Shared) (Q : Value → Shared → Prop) (E : Value → Shared → Prop), Q (.int (g i) s.toks) { s with toks := s.toks + 1 } → wpAny (model X.prog X.w) X.A (f (.int i t)) Q E s) :
    UnR X f (rU fun i => .int (g i)) := by
  intro pins s σ H x v Q I rx h
  obtain ⟨i, rfl, q⟩ := h
  obtain ⟨t, rfl⟩ := rx
  exact rule i t s _ _ ⟨.int (g i), H, I.tok _, ⟨_, rfl⟩, q⟩
theorem un_neg : UnR X (unaryOp .USub) (rU fun i => .int (-i)) := unI fun _ _ _ _ _ q => neg_int q
theorem un_inv : UnR X (unaryOp .Invert) (rU fun i => .int (Builtin.bitNot i)) := unI fun _ _ _ _ _ q => invert_int q

/-! ### bools among ints: n += (a < b) -/
theorem op_add_ib : OpR X (binaryOp .Add) (fun x y H Q => ∃ i k, x = .int i ∧ y = .bl k ∧ Q (.int (i + b2i k)) H) := by
  intro pins s σ H x y v u Q I rx ry h
  obtain ⟨i, k, rfl, rfl, q⟩ := h
  obtain ⟨t, rfl⟩ := rx
  cases ry
  exact add_int_bool ⟨.int (i + b2i k), H, I.tok _, ⟨_, rfl⟩, q⟩
end

/-! ### comparisons -/
/-- the scalars that == tells apart as data does -/
def scal : V → V → Bool
  | .non, .non => true | .non, .int _ => true | .int _, .non => true | .non, .bl _ => true | .bl _, .non => true | .non, .str _ => true | .str _, .non => true
  | .int _, .int _ => true | .bl _, .bl _ => true | .str _, .str _ => true | .byt _, .byt _ => true
  | .int _, .str _ => true | .str _, .int _ => true | .bl _, .str _ => true | .str _, .bl _ => true
  | _, _ => false
def rEq : R2 := fun x y H Q => scal x y = true ∧ Q (.bl (decide (x = y))) H
def rNe : R2 := fun x y H Q => scal x y = true ∧ Q (.bl (!decide (x = y))) H

theorem dec_int {i j : Int} : decide (V.int i = V.int j) = (i == j) := by
  rw [Bool.eq_iff_iff]
  simp
theorem dec_bl {i j : Bool} : decide (V.bl i = V.bl j) = (i == j) := by
  rw [Bool.eq_iff_iff]
  simp
theorem dec_str {i j : Str} : decide (V.str i = V.str j) = (i == j) := by
  rw [Bool.eq_iff_iff]
  simp
theorem dec_byt {i j : Array UInt8} : decide (V.byt i = V.byt j) = (i.toList == j.toList) := by
  rw [Bool.eq_iff_iff]
  cases i
  cases j
  simp

section
variable {X : Cx} {a b c : Expr} {ta tb tc : TE} {pos : Pos}
theorem fin_bl {pins : List (Addr × Obj)} {σ : St} {H : Hp} {s : Shared} {Q : VK} {k k' : Bool} (I : Inv X pins σ H s) (q : Q (.bl k) H) (e : k = k') : EP X pins σ Q (.bool k') s := by
  subst e
  exact ⟨.bl k, H, I, rfl, q⟩
theorem op_eq : OpR X (compareOp .Eq) rEq := by
  intro pins s σ H x y v u Q I rx ry h
  obtain ⟨hs, q⟩ := h
  cases x with
  | non =>
    cases rx
    cases y with
    | non => cases ry; exact PySem.EqNone.eq_none_none (fin_bl I q (by simp))
    | bl j => cases ry; exact PySem.EqNone.eq_none_bool (fin_bl I q (by simp))
    | int j => obtain ⟨t', rfl⟩ := ry; exact PySem.EqNone.eq_none_int (fin_bl I q (by simp))
    | str j => obtain ⟨t', rfl⟩ := ry; exact PySem.EqNone.eq_none_str (fin_bl I q (by simp))
    | _ => exact absurd (show false = true from hs) Bool.false_ne_true
  | bl i =>
    cases rx
    cases y with
    | non => cases ry; exact PySem.EqNone.eq_bool_none (fin_bl I q (by simp))
    | bl j => cases ry; exact eq_bool (fin_bl I q dec_bl)
    | str j => obtain ⟨t', rfl⟩ := ry; exact PySem.EqMixed.eq_bool_str (fin_bl I q (by simp))
    | _ => exact absurd (show false = true from hs) Bool.false_ne_true
  | int i =>
    obtain ⟨t, rfl⟩ := rx
    cases y with
    | non => cases ry; exact PySem.EqNone.eq_int_none (fin_bl I q (by simp))
    | int j => obtain ⟨t', rfl⟩ := ry; exact eq_int (fin_bl I q dec_int)
    | str j => obtain ⟨t', rfl⟩ := ry; exact PySem.EqMixed.eq_int_str (fin_bl I q (by simp))
    | _ => exact absurd (show false = true from hs) Bool.false_ne_true
  | str i =>
    obtain ⟨t, rfl⟩ := rx
    cases y with
    | non => cases ry; exact PySem.EqNone.eq_str_none (fin_bl I q (by simp))
    | bl j => cases ry; exact PySem.EqMixed.eq_str_bool (fin_bl I q (by simp))
    | int j => obtain ⟨t', rfl⟩ := ry; exact PySem.EqMixed.eq_str_int (fin_bl I q (by simp))
    | str j => obtain ⟨t', rfl⟩ := ry; exact eq_str (fin_bl I q dec_str)
    | _ => exact absurd (show false = true from hs) Bool.false_ne_true
  | byt i =>
    obtain ⟨t, rfl⟩ := rx
    cases y with
    | byt j => obtain ⟨t', rfl⟩ := ry; exact PySem.W.eq_bytes (fin_bl I q dec_byt)
    | _ => exact absurd (show false = true from hs) Bool.false_ne_true
  | _ => cases y <;> exact absurd (show false = true from hs) Bool.false_ne_true
theorem op_ne : OpR X (compareOp .NotEq) rNe := by
  intro pins s σ H x y v u Q I rx ry h
  obtain ⟨hs, q⟩ := h
  cases x with
  | non =>
    cases rx
    cases y with
    | non => cases ry; exact PySem.EqNone.ne_none_none (fin_bl I q (by simp))
    | bl j => cases ry; exact PySem.EqNone.ne_none_bool (fin_bl I q (by simp))
    | int j => obtain ⟨t', rfl⟩ := ry; exact PySem.EqNone.ne_none_int (fin_bl I q (by simp))
    | str j => obtain ⟨t', rfl⟩ := ry; exact PySem.EqNone.ne_none_str (fin_bl I q (by simp))
    | _ => exact absurd (show false = true from hs) Bool.false_ne_true
  | bl i =>
    cases rx
    cases y with
    | non => cases ry; exact PySem.EqNone.ne_bool_none (fin_bl I q (by simp))
    | bl j => cases ry; exact ne_bool (fin_bl I q (congrArg not dec_bl))
    | str j => obtain ⟨t', rfl⟩ := ry; exact PySem.EqMixed.ne_bool_str (fin_bl I q (by simp))
    | _ => exact absurd (show false = true from hs) Bool.false_ne_true
  | int i =>
    obtain ⟨t, rfl⟩ := rx
    cases y with
    | non => cases ry; exact PySem.EqNone.ne_int_none (fin_bl I q (by simp))
    | int j => obtain ⟨t', rfl⟩ := ry; exact ne_int (fin_bl I q (congrArg not dec_int))
    | str j => obtain ⟨t', rfl⟩ := ry; exact PySem.EqMixed.ne_int_str (fin_bl I q (by simp))
    | _ => exact absurd (show false = true from hs) Bool.false_ne_true
  | str i =>
    obtain ⟨t, rfl⟩ := rx
    cases y with
    | non => cases ry; exact PySem.EqNone.ne_str_none (fin_bl I q (by simp))
    | bl j => cases ry; exact PySem.EqMixed.ne_str_bool (fin_bl I q (by simp))
    | int j => obtain ⟨t', rfl⟩ := ry; exact PySem.EqMixed.ne_str_int (fin_bl I q (by simp))
    | str j => obtain ⟨t', rfl⟩ := ry; exact ne_str (fin_bl I q (congrArg not dec_str))
    | _ => exact absurd (show false = true from hs) Bool.false_ne_true
  | byt i =>
    obtain ⟨t, rfl⟩ := rx
    cases y with
    | byt j => obtain ⟨t', rfl⟩ := ry; exact PySem.W.ne_bytes (fin_bl I q (congrArg not dec_byt))
    | _ => exact absurd (show false = true from hs) Bool.false_ne_true
  | _ => cases y <;> exact absurd (show false = true from hs) Bool.false_ne_true

theorem op_lt : OpR X (compareOp .Lt) (rI0 fun i j => .bl (decide (i < j))) := opB0 fun _ _ _ _ _ _ _ q => lt_int q
theorem op_le : OpR X (compareOp .LtE) (rI0 fun i j => .bl (decide (i ≤ j))) := opB0 fun _ _ _ _ _ _ _ q => le_int q
theorem op_gt : OpR X (compareOp .Gt) (rI0 fun i j => .bl (decide (j < i))) := opB0 fun _ _ _ _ _ _ _ q => gt_int q
theorem op_ge : OpR X (compareOp .GtE) (rI0 fun i j => .bl (decide (j ≤ i))) := opB0 fun _ _ _ _ _ _ _ q => ge_int q
theorem op_lt_str : OpR X (compareOp .Lt) (fun x y H Q => ∃ i j, x = .str i ∧ y = .str j ∧ Q (.bl (decide (i.cps.toList < j.cps.toList))) H) := by
  intro pins s σ H x y v u Q I rx ry h
  obtain ⟨i, j, rfl, rfl, q⟩ := h
  obtain ⟨t, rfl⟩ := rx
  obtain ⟨t', rfl⟩ := ry
  exact lt_str (fin_bl I q rfl)
/-- the one string within the other -/
theorem op_in_str : OpR X (compareOp .In) (fun x y H Q => ∃ i j, x = .str i ∧ y = .str j ∧ Q (.bl (!(Builtin.Str.occurrences j i 0 j.length 1).isEmpty)) H) := by
  intro pins s σ H x y v u Q I rx ry h
  obtain ⟨i, j, rfl, rfl, q⟩ := h
  obtain ⟨t, rfl⟩ := rx
  obtain ⟨t', rfl⟩ := ry
  exact in_str (fin_bl I q rfl)

/-- is None, is not None: the right side a value none -/
theorem op_isN : OpR X (compareOp .Is) (fun x y H Q => y = .non ∧ Q (.bl (decide (x = .non))) H) := by
  intro pins s σ H x y v u Q I rx ry h
  obtain ⟨rfl, q⟩ := h
  cases ry
  refine is_none_gen (fin_bl I q ?_)
  cases x <;> first
    | (cases rx; rfl)
    | (obtain ⟨t, rfl⟩ := rx; rfl)
theorem op_notN : OpR X (compareOp .IsNot) (fun x y H Q => y = .non ∧ Q (.bl (!decide (x = .non))) H) := by
  intro pins s σ H x y v u Q I rx ry h
  obtain ⟨rfl, q⟩ := h
  cases ry
  refine isnot_none_gen (fin_bl I q ?_)
  cases x <;> first
    | (cases rx; rfl)
    | (obtain ⟨t, rfl⟩ := rx; rfl)

theorem op_notin_str : OpR X (compareOp .NotIn) (fun x y H Q => ∃ i j, x = .str i ∧ y = .str j ∧ Q (.bl (!(!(Builtin.Str.occurrences j i 0 j.length 1).isEmpty))) H) := by
  intro pins s σ H x y v u Q I rx ry h
  obtain ⟨i, j, rfl, rfl, q⟩ := h
  obtain ⟨t, rfl⟩ := rx
  obtain ⟨t', rfl⟩ := ry
  exact notIn_str (fin_bl I q rfl)
/-- is, is not of two objects that are tracked lists or instances -/
def isObj : HO → Bool
  | .lst _ => true
  | .ins _ _ _ => true
  | _ => false
theorem obj_there {pins : List (Addr × Obj)} {s : Shared} {σ : St} {H : Hp} {a : Addr} {o : HO} (I : Inv X pins σ H s) (h : H a = some o) (p : isObj o = true) : ∃ ob, s.heap.get? a = some ob ∧ ob.cls ≠ .type "tuple" := by
  cases o with
  | lst xs =>
    obtain ⟨_, its, n, _, e⟩ : xs.length ≤ sizeLine ∧ ∃ (its : List Value) (n : Nat), Vals xs its ∧ s.heap.get? a = some { cls := .type "list", data := .seq its.toArray n } := I.hok a _ h
    exact ⟨_, e, (by show Value.type "list" ≠ .type "tuple"; decide +kernel)⟩
  | ins C dx fs =>
    have x := I.hok a _ h
    obtain ⟨_, _, _, e, _⟩ := x
    exact ⟨_, e, (by show Value.ref C ≠ .type "tuple"; exact fun z => by cases z)⟩
  | _ => exact absurd (show false = true from p) Bool.false_ne_true
theorem op_is_ref : OpR X (compareOp .Is) (fun x y H Q => ∃ a b oa ob, x = .ref a ∧ y = .ref b ∧ H a = some oa ∧ isObj oa = true ∧ H b = some ob ∧ isObj ob = true ∧ Q (.bl (decide (a = b))) H) := by
  intro pins s σ H x y v u Q I rx ry h
  obtain ⟨a, b, oa, ob, rfl, rfl, ha, pa, hb, pb, q⟩ := h
  cases rx
  cases ry
  obtain ⟨o1, e1, n1⟩ := obj_there I ha pa
  obtain ⟨o2, e2, _⟩ := obj_there I hb pb
  by_cases z : a = b
  · subst z
    exact wpAny_is_ref_self (fin_bl I q (by simp))
  · exact wpAny_is_ref_other z e1 e2 n1 (fin_bl I q (by simp [z]))
theorem op_isnot_ref : OpR X (compareOp .IsNot) (fun x y H Q => ∃ a b oa ob, x = .ref a ∧ y = .ref b ∧ H a = some oa ∧ isObj oa = true ∧ H b = some ob ∧ isObj ob = true ∧ Q (.bl (!decide (a = b))) H) := by
  intro pins s σ H x y v u Q I rx ry h
  obtain ⟨a, b, oa, ob, rfl, rfl, ha, pa, hb, pb, q⟩ := h
  cases rx
  cases ry
  obtain ⟨o1, e1, n1⟩ := obj_there I ha pa
  obtain ⟨o2, e2, _⟩ := obj_there I hb pb
  by_cases z : a = b
  · subst z
    exact wpAny_isNot_ref_self (fin_bl I q (by simp))
  · exact wpAny_isNot_ref_other z e1 e2 n1 (fin_bl I q (by simp [z]))

/-- two rules for one operation: by cases -/
theorem OpR.or {f : Value → Value → Sem Value} {r r' : R2} (h : OpR X f r) (h' : OpR X f r') : OpR X f (fun x y H Q => r x y H Q ∨ r' x y H Q) := by
  intro pins s σ H x y v u Q I rx ry q
  rcases q with q | q
  · exact h pins s σ H x y v u Q I rx ry q
  · exact h' pins s σ H x y v u Q I rx ry q

theorem nomark (b : Expr) {op : CmpOp} (h : op ≠ .In := by decide) (h2 : op ≠ .NotIn := by decide) : behindInMarks op b = false := by
  have e1 : (op == CmpOp.In) = false := by cases op <;> first | rfl | exact absurd rfl h
  have e2 : (op == CmpOp.NotIn) = false := by cases op <;> first | rfl | exact absurd rfl h2
  cases b <;> simp [behindInMarks, e1, e2]
/-- a comparison as a value; hm: nomark b, or (for in, not in) by with_unfolding_all rfl -/
theorem pe_cmpR {op : CmpOp} {r : R2} (ho : OpR X (compareOp op) r) (ha : PE X a ta) (hb : PE X b tb) (hm : behindInMarks op b = false) : PE X (.Compare a [op] [b] pos) (tOp r ta tb) := by
  intro pins s σ H Q I h
  exact wpAny_Compare1 (binT ha hb I h fun v u s2 x y H2 I2 rx ry q => ho pins s2 σ H2 x y v u Q I2 rx ry q) hm
/-- a reading of a value as a test -/
def tTest (t : TE) : TT := fun σ H Q => t σ H fun x H' => ∃ k, x = .bl k ∧ Q k H'
theorem pt_cmpR {op : CmpOp} {r : R2} (ho : OpR X (compareOp op) r) (ha : PE X a ta) (hb : PE X b tb) (hm : behindInMarks op b = false) : PT X (.Compare a [op] [b] pos) (tTest (tOp r ta tb)) := by
  intro pins s σ H Q I h
  refine wpAny_isTrue_Compare1 (thn (ha pins s σ H _ I h) fun v s1 ⟨x, H1, I1, r1, q1⟩ => thn (hb pins s1 σ H1 _ I1 q1) fun u s2 ⟨y, H2, I2, r2, q2⟩ =>
    thn (ho pins s2 σ H2 x y v u _ I2 r1 r2 q2) fun c s3 ⟨z, H3, I3, r3, k, e, q3⟩ => ?_) hm
  subst e
  cases r3
  exact wpAny_truthy_bool ⟨H3, I3, q3⟩
/-- a op1 b op2 c -/
def tChain (r r' : R2) (ta tb tc : TE) : TE := fun σ H Q => ta σ H fun x H1 => tb σ H1 fun y H2 => r x y H2 fun z H3 => ∃ k, z = .bl k ∧
  (if k = true then tc σ H3 fun w' H4 => r' y w' H4 Q else Q (.bl false) H3)
theorem pe_chain {op op' : CmpOp} {r r' : R2} (ho : OpR X (compareOp op) r) (ho' : OpR X (compareOp op') r') (ha : PE X a ta) (hb : PE X b tb) (hc : PE X c tc)
    (hm : lastMarks [op, op'] [b, c] = false := by with_unfolding_all rfl) : PE X (.Compare a [op, op'] [b, c] pos) (tChain r r' ta tb tc) := by
  intro pins s σ H Q I h
  refine Compare_chain (thn (ha pins s σ H _ I h) fun v s1 ⟨x, H1, I1, r1, q1⟩ => chain_link (thn (hb pins s1 σ H1 _ I1 q1) fun u s2 ⟨y, H2, I2, r2, q2⟩ =>
    thn (ho pins s2 σ H2 x y v u _ I2 r1 r2 q2) fun d s3 ⟨z, H3, I3, r3, k, e, q3⟩ => ?_)) hm
  subst e
  cases r3
  refine wpAny_truthy_bool ?_
  cases k with
  | false => exact ite_ff ⟨.bl false, H3, I3, rfl, q3⟩
  | true => exact ite_tt (chain_last (thn (hc pins s3 σ H3 _ I3 q3) fun w' s4 ⟨z', H4, I4, r4, q4⟩ => ho' pins s4 σ H4 y z' u w' Q I4 r2 r4 q4))
theorem pt_chain {op op' : CmpOp} {r r' : R2} (ho : OpR X (compareOp op) r) (ho' : OpR X (compareOp op') r') (ha : PE X a ta) (hb : PE X b tb) (hc : PE X c tc)
    (hm : lastMarks [op, op'] [b, c] = false := by with_unfolding_all rfl) : PT X (.Compare a [op, op'] [b, c] pos) (tTest (tChain r r' ta tb tc)) := by
  intro pins s σ H Q I h
  refine isTrue_chain (thn (ha pins s σ H _ I h) fun v s1 ⟨x, H1, I1, r1, q1⟩ => test_link (thn (hb pins s1 σ H1 _ I1 q1) fun u s2 ⟨y, H2, I2, r2, q2⟩ =>
    thn (ho pins s2 σ H2 x y v u _ I2 r1 r2 q2) fun d s3 ⟨z, H3, I3, r3, k, e, q3⟩ => ?_)) hm
  subst e
  cases r3
  refine wpAny_truthy_bool ?_
  cases k with
  | false =>
    obtain ⟨k', e', q'⟩ := q3
    cases e'
    exact ite_ff ⟨H3, I3, q'⟩
  | true =>
    refine ite_tt (test_last (thn (hc pins s3 σ H3 _ I3 q3) fun w' s4 ⟨z', H4, I4, r4, q4⟩ => thn (ho' pins s4 σ H4 y z' u w' _ I4 r2 r4 q4) fun d' s5 ⟨z2, H5, I5, r5, k2, e2, q5⟩ => ?_))
    subst e2
    cases r5
    exact wpAny_truthy_bool ⟨H5, I5, q5⟩

/-! ### truth -/
/-- a value's truth by the abstract heap -/
def TruV (K : PySem.W.Frag) (x : V) (H : Hp) (k : Bool) : Prop :=
  match x with
  | .non => k = false
  | .bl b => k = b
  | .int i => k = (i != 0)
  | .str y => y.length ≤ sizeLine ∧ k = ((y.length : Int) != 0)
  | .byt y => y.size ≤ sizeLine ∧ k = ((y.size : Int) != 0)
  | .ref p => (∃ xs, SqL K H p xs ∧ k = !xs.isEmpty) ∨ (∃ xs, SqT K H p xs ∧ k = !xs.isEmpty) ∨ ∃ kvs, H p = some (.dK kvs) ∧ k = !kvs.isEmpty
  | _ => False
theorem isEmpty_kv {κ : Type} {kvs : List (κ × V)} {vs : List (κ × Value)} (r : KV kvs vs) : (!vs.isEmpty) = !kvs.isEmpty := by
  cases r <;> rfl
theorem isEmpty_of {xs : List V} {its : List Value} (r : Vals xs its) : (!its.toArray.isEmpty) = !xs.isEmpty := by
  cases r <;> simp
theorem line63 : (sizeLine : Nat) < 2 ^ 63 := by rw [sizeLine_eq]; decide
theorem tru_ok : TruR X (fun x H Q => ∃ k, TruV X.K x H k ∧ Q k H) := by
  intro pins s σ H x v Q I rx h
  obtain ⟨k, e, q⟩ := h
  have hl := line63
  have hs : sizeLine = 16777216 := sizeLine_eq
  cases x with
  | non =>
    cases rx
    have e' : k = false := e
    subst e'
    exact truthy_none ⟨H, I, q⟩
  | bl b =>
    cases rx
    have e' : k = b := e
    subst e'
    exact wpAny_truthy_bool ⟨H, I, q⟩
  | int i =>
    obtain ⟨t, rfl⟩ := rx
    have e' : k = (i != 0) := e
    subst e'
    exact PySem.P.truthy_int ⟨H, I, q⟩
  | str y =>
    obtain ⟨t, rfl⟩ := rx
    obtain ⟨hy, e'⟩ : y.length ≤ sizeLine ∧ k = ((y.length : Int) != 0) := e
    subst e'
    exact PySem.P.truthy_str (by omega) ⟨H, I.tok _, q⟩
  | byt y =>
    obtain ⟨t, rfl⟩ := rx
    obtain ⟨hy, e'⟩ : y.size ≤ sizeLine ∧ k = ((y.size : Int) != 0) := e
    subst e'
    exact PySem.W.truthy_bytes (by omega) ⟨H, I.tok _, q⟩
  | ref p =>
    cases rx
    have e' : (∃ xs, SqL X.K H p xs ∧ k = !xs.isEmpty) ∨ (∃ xs, SqT X.K H p xs ∧ k = !xs.isEmpty) ∨ ∃ kvs, H p = some (.dK kvs) ∧ k = !kvs.isEmpty := e
    rcases e' with ⟨xs, hx, e'⟩ | ⟨xs, hx, e'⟩ | ⟨kvs, hx, e'⟩
    · subst e'
      obtain ⟨its, r, pl, hz⟩ := I.list hx
      have hlen := r.length
      exact wpAny_truthy_list pl.isList (by simp only [List.size_toArray]; omega) ⟨H, I.tok _, by rw [isEmpty_of r]; exact q⟩
    · subst e'
      obtain ⟨its, r, pl, hz⟩ := I.tuple hx
      have hlen := r.length
      exact truthy_tuple pl (by simp only [List.size_toArray]; omega) ⟨H, I.tok _, by rw [isEmpty_of r]; exact q⟩
    · subst e'
      obtain ⟨hz, hS, vs, r, m⟩ : kvs.length ≤ sizeLine ∧ (p == sysModules) = false ∧ ∃ vs, KV kvs vs ∧ s.heap.DictOf (mixKind X.prog X.w) p vs := I.hok p _ hx
      have hlen : kvs.length = vs.length := Paired.length r
      exact wpAny_truthy_dict hS m (by omega) ⟨H, I.tok _, by rw [isEmpty_kv r]; exact q⟩
  | _ => exact (show False from e).elim
/-- any expression whose test is its value's truth (a name, a call, a subscript, a field ..: he by fun _ => rfl) -/
theorem pt_truth (ha : PE X a ta) (he : ∀ whole, isTrue a X.env whole = (do let v ← whole; standAt a.pos; holding [v] (truthy v))) :
    PT X a (fun σ H Q => ta σ H fun x H' => ∃ k, TruV X.K x H' k ∧ Q k H') := by
  intro pins s σ H Q I h
  exact isTrue_plain (thn (ha pins s σ H _ I h) fun v s1 ⟨x, H1, I1, r1, q1⟩ => tru_ok pins s1 σ H1 x v Q I1 r1 q1) (he _)

/-! ### strs and bytes -/
theorem pe_byt {x : List UInt8} {k : Nat} : PE X (.Constant (.bytes x) k pos) (fun _ H Q => Q (.byt x.toArray) H) := fun _ _ _ H _ I h => PySem.W.Constant_bytes ⟨.byt x.toArray, H, I.tok _, ⟨_, rfl⟩, h⟩
theorem op_add_str : OpR X (binaryOp .Add) (fun x y H Q => ∃ i j, x = .str i ∧ y = .str j ∧ i.length + j.length ≤ sizeLine ∧ Q (.str (i ++ j)) H) := by
  intro pins s σ H x y v u Q I rx ry h
  obtain ⟨i, j, rfl, rfl, hz, q⟩ := h
  obtain ⟨t, rfl⟩ := rx
  obtain ⟨t', rfl⟩ := ry
  exact add_str (fun t' tk => ⟨.str (i ++ j), H, I.tok _, ⟨_, rfl⟩, q⟩) hz
theorem iop_add_str : OpR X (inplaceOp .Add) (fun x y H Q => ∃ i j, x = .str i ∧ y = .str j ∧ i.length + j.length ≤ sizeLine ∧ Q (.str (i ++ j)) H) := by
  intro pins s σ H x y v u Q I rx ry h
  obtain ⟨i, j, rfl, rfl, hz, q⟩ := h
  obtain ⟨t, rfl⟩ := rx
  obtain ⟨t', rfl⟩ := ry
  exact iadd_str (fun t' tk => ⟨.str (i ++ j), H, I.tok _, ⟨_, rfl⟩, q⟩) hz
theorem op_add_byt : OpR X (binaryOp .Add) (fun x y H Q => ∃ i j, x = .byt i ∧ y = .byt j ∧ i.size + j.size ≤ 16777216 ∧ Q (.byt (i ++ j)) H) := by
  intro pins s σ H x y v u Q I rx ry h
  obtain ⟨i, j, rfl, rfl, hz, q⟩ := h
  obtain ⟨t, rfl⟩ := rx
  obtain ⟨t', rfl⟩ := ry
  exact PySem.W.KBy.add_bytes hz (fun t' tk => ⟨.byt (i ++ j), H, I.tok _, ⟨_, rfl⟩, q⟩)

def PlainIxT (b : Expr) : Prop := ∀ o i, subscripted b false o i = operate [o, i] (getItem o i)
/-- s[i], 0 ≤ i < len -/
theorem pe_item_str (ha : PE X a ta) (hb : PE X b tb) (hs : PlainIxT b) :
    PE X (.Subscript a b pos) (tOp (fun x y H Q => ∃ z i c, x = .str z ∧ y = .int i ∧ 0 ≤ i ∧ i < 2 ^ 63 ∧ i < z.length ∧ z.cps[i.toNat]? = some c ∧ Q (.str ⟨#[c]⟩) H) ta tb) := by
  intro pins s σ H Q I h
  refine Subscript_ (binT ha hb I h fun v u s2 x y H2 I2 rx ry q => ?_)
  obtain ⟨z, i, c, rfl, rfl, h0, h63, h1, hc, q⟩ := q
  obtain ⟨t, rfl⟩ := rx
  obtain ⟨t', rfl⟩ := ry
  have e : seqIndex? i z.length = some i.toNat := PySem.StrLaws.seqIndex_nonneg h0 h1
  exact tail_any (typeIs_str s2 z t) slot_str_getitem.lookup (getItem_str (c := c) (by
    have e1 : decide (i < -(2 ^ 63 : Int)) = false := decide_eq_false (by omega)
    have e2 : decide (i ≥ 2 ^ 63) = false := decide_eq_false (by omega)
    rw [e1, e2] <;> rfl) (by rw [e]; exact hc) ⟨.str ⟨#[c]⟩, H2, I2.tok _, ⟨_, rfl⟩, q⟩) (hs _ _)
/-- b[i], 0 ≤ i < len -/
theorem pe_item_byt (ha : PE X a ta) (hb : PE X b tb) (hs : PlainIxT b) :
    PE X (.Subscript a b pos) (tOp (fun x y H Q => ∃ (z : List UInt8) (i : Int), x = .byt z.toArray ∧ y = .int i ∧ z.length ≤ sizeLine ∧ 0 ≤ i ∧ i < z.length ∧ Q (.int ((z.getD i.toNat 0).toNat : Nat)) H) ta tb) := by
  intro pins s σ H Q I h
  refine Subscript_ (binT ha hb I h fun v u s2 x y H2 I2 rx ry q => ?_)
  obtain ⟨z, i, rfl, rfl, hz, h0, h1, q⟩ := q
  obtain ⟨t, rfl⟩ := rx
  obtain ⟨t', rfl⟩ := ry
  have hl : sizeLine = 16777216 := sizeLine_eq
  exact tail_any (PySem.W.typeIs_bytes s2 z.toArray t) PySem.W.FB.slot_bytes_getitem.lookup (PySem.W.getItem_bytes (by omega) h0 h1 ⟨.int ((z.getD i.toNat 0).toNat : Nat), H2, I2.tok _, ⟨_, rfl⟩, q⟩) (hs _ _)

/-! ### scalar builtins, by CallR -/
theorem vals1 {x : V} {us : List Value} (r : Vals [x] us) : ∃ u, us = [u] ∧ RelV x u := by
  cases r with
  | cons r1 r2 => cases r2; exact ⟨_, rfl, r1⟩
theorem vals2 {x y : V} {us : List Value} (r : Vals [x, y] us) : ∃ u w', us = [u, w'] ∧ RelV x u ∧ RelV y w' := by
  cases r with
  | cons r1 r2 =>
    cases r2 with
    | cons r3 r4 => cases r4; exact ⟨_, _, rfl, r1, r3⟩
theorem call_abs : CallR X (.builtin "abs") (fun xs H Q => ∃ i, xs = [.int i] ∧ Q (.int (if i < 0 then -i else i)) H) := by
  intro pins s σ H xs us Q I r h
  obtain ⟨i, rfl, q⟩ := h
  obtain ⟨u, rfl, t, rfl⟩ := vals1 r
  exact call_abs_int fun u tk => ⟨.int (if i < 0 then -i else i), H, I.tok _, ⟨_, rfl⟩, q⟩
theorem call_max2 (hc : X.calm = true) : CallR X (.builtin "max") (fun xs H Q => ∃ i j, xs = [.int i, .int j] ∧ Q (.int (if j > i then j else i)) H) := by
  intro pins s σ H xs us Q I r h
  obtain ⟨i, j, rfl, q⟩ := h
  obtain ⟨u, w', rfl, ⟨t, rfl⟩, ⟨t', rfl⟩⟩ := vals2 r
  refine max_two_ints (I.ok.hd hc) fun h' tk k => ⟨_, H, I.kept k, ?_, q⟩
  by_cases hj : j > i
  · rw [if_pos hj, if_pos hj]; exact ⟨_, rfl⟩
  · rw [if_neg hj, if_neg hj]; exact ⟨_, rfl⟩
theorem call_min2 (hc : X.calm = true) : CallR X (.builtin "min") (fun xs H Q => ∃ i j, xs = [.int i, .int j] ∧ Q (.int (if j < i then j else i)) H) := by
  intro pins s σ H xs us Q I r h
  obtain ⟨i, j, rfl, q⟩ := h
  obtain ⟨u, w', rfl, ⟨t, rfl⟩, ⟨t', rfl⟩⟩ := vals2 r
  refine min_two_ints (I.ok.hd hc) fun h' tk k => ⟨_, H, I.kept k, ?_, q⟩
  by_cases hj : j < i
  · rw [if_pos hj, if_pos hj]; exact ⟨_, rfl⟩
  · rw [if_neg hj, if_neg hj]; exact ⟨_, rfl⟩
theorem call_int1 : CallR X (.type "int") (fun xs H Q => (∃ i, xs = [.int i] ∧ Q (.int i) H) ∨ ∃ k, xs = [.bl k] ∧ Q (.int (if k then 1 else 0)) H) := by
  intro pins s σ H xs us Q I r h
  rcases h with ⟨i, rfl, q⟩ | ⟨k, rfl, q⟩
  · obtain ⟨u, rfl, t, rfl⟩ := vals1 r
    exact call_int_int ⟨.int i, H, I, ⟨_, rfl⟩, q⟩
  · obtain ⟨u, rfl, r1⟩ := vals1 r
    cases r1
    exact call_int_bool ⟨.int (if k then 1 else 0), H, I.tok _, ⟨_, rfl⟩, q⟩
theorem call_bool1 : CallR X (.type "bool") (fun xs H Q => (∃ i, xs = [.int i] ∧ Q (.bl (i != 0)) H) ∨ ∃ k, xs = [.bl k] ∧ Q (.bl k) H) := by
  intro pins s σ H xs us Q I r h
  rcases h with ⟨i, rfl, q⟩ | ⟨k, rfl, q⟩
  · obtain ⟨u, rfl, t, rfl⟩ := vals1 r
    exact call_bool_int ⟨.bl (i != 0), H, I, rfl, q⟩
  · obtain ⟨u, rfl, r1⟩ := vals1 r
    cases r1
    exact call_bool_bool ⟨.bl k, H, I, rfl, q⟩
theorem call_str_int : CallR X (.type "str") (fun xs H Q => ∃ i, xs = [.int i] ∧ i.natAbs.log2 < 1920 ∧ Q (.str (toString i)) H) := by
  intro pins s σ H xs us Q I r h
  obtain ⟨i, rfl, hz, q⟩ := h
  obtain ⟨u, rfl, t, rfl⟩ := vals1 r
  exact PySem.P.str_of_int hz ⟨.str _, H, I.tok _, ⟨_, rfl⟩, q⟩
theorem call_ord : CallR X (.builtin "ord") (fun xs H Q => ∃ x, xs = [.str x] ∧ x.length = 1 ∧ Q (.int (x.cps.getD 0 0 : Nat)) H) := by
  intro pins s σ H xs us Q I r h
  obtain ⟨x, rfl, hz, q⟩ := h
  obtain ⟨u, rfl, t, rfl⟩ := vals1 r
  exact ord_of_one hz ⟨.int _, H, I.tok _, ⟨_, rfl⟩, q⟩
theorem call_chr : CallR X (.builtin "chr") (fun xs H Q => ∃ i, xs = [.int i] ∧ 0 ≤ i ∧ i ≤ 1114111 ∧ Q (.str ⟨#[i.toNat]⟩) H) := by
  intro pins s σ H xs us Q I r h
  obtain ⟨i, rfl, h0, h1, q⟩ := h
  obtain ⟨u, rfl, t, rfl⟩ := vals1 r
  exact chr_of_range h0 h1 ⟨.str _, H, I.tok _, ⟨_, rfl⟩, q⟩
/-- len of a str, a bytes, a list, a tuple -/
def LenV (K : PySem.W.Frag) (x : V) (H : Hp) (n : Nat) : Prop :=
  match x with
  | .str y => y.length ≤ sizeLine ∧ n = y.length
  | .byt y => y.size ≤ sizeLine ∧ n = y.size
  | .ref p => (∃ xs, SqL K H p xs ∧ n = xs.length) ∨ ∃ xs, SqT K H p xs ∧ n = xs.length
  | _ => False
theorem call_len : CallR X (.builtin "len") (fun xs H Q => ∃ x n, xs = [x] ∧ LenV X.K x H n ∧ Q (.int n) H) := by
  intro pins s σ H xs us Q I r h
  obtain ⟨x, n, rfl, e, q⟩ := h
  obtain ⟨u, rfl, rx⟩ := vals1 r
  have hl := line63
  have hs : sizeLine = 16777216 := sizeLine_eq
  cases x with
  | str y =>
    obtain ⟨t, rfl⟩ := rx
    obtain ⟨hy, e'⟩ : y.length ≤ sizeLine ∧ n = y.length := e
    subst e'
    exact len_str (by omega) ⟨.int _, H, I.tok _, ⟨_, rfl⟩, q⟩
  | byt y =>
    obtain ⟨t, rfl⟩ := rx
    obtain ⟨hy, e'⟩ : y.size ≤ sizeLine ∧ n = y.size := e
    subst e'
    exact PySem.W.len_bytes (by omega) ⟨.int _, H, I.tok _, ⟨_, rfl⟩, q⟩
  | ref p =>
    cases rx
    have e' : (∃ xs, SqL X.K H p xs ∧ n = xs.length) ∨ ∃ xs, SqT X.K H p xs ∧ n = xs.length := e
    rcases e' with ⟨xs, hx, e'⟩ | ⟨xs, hx, e'⟩
    · subst e'
      obtain ⟨its, r', pl, hz⟩ := I.list hx
      have hlen := r'.length
      exact Calls.call_len_list pl.isList (by simp only [List.size_toArray]; omega) ⟨.int xs.length, H, I.tok _, ⟨_, by simp only [List.size_toArray]; rw [hlen]⟩, q⟩
    · subst e'
      obtain ⟨its, r', pl, hz⟩ := I.tuple hx
      have hlen := r'.length
      exact len_tuple pl (by simp only [List.size_toArray]; omega) ⟨.int xs.length, H, I.tok _, ⟨_, by simp only [List.size_toArray]; rw [hlen]⟩, q⟩
  | _ => exact (show False from e).elim
/-- divmod: a new tuple -/
theorem call_divmod : CallR X (.builtin "divmod") (fun xs H Q => ∃ i j, xs = [.int i, .int j] ∧ CDiv i j ∧ ∀ p, H p = none → Q (.ref p) (upd H p (.tup [.int (i / j), .int (i % j)]))) := by
  intro pins s σ H xs us Q I r h
  obtain ⟨i, j, rfl, ⟨h1, h2⟩, q⟩ := h
  obtain ⟨u, w', rfl, ⟨t, rfl⟩, ⟨t', rfl⟩⟩ := vals2 r
  refine divmod_int (by omega) ?_ (.inl (PyProof.noPylong_small (by omega)))
  rw [Int.fdiv_eq_ediv_of_nonneg i (by omega), Int.fmod_eq_emod_of_nonneg i (by omega)]
  have hn : H s.heap.objs.size = none := I.hok.fresh (Nat.le_refl _)
  refine ⟨.ref s.heap.objs.size, _, ?_, rfl, q _ hn⟩
  refine I.laid (fun b o e => Heap.get?_push_of_some _ e) (Nat.le_refl _) ⟨by simp only [List.length_cons, List.length_nil]; rw [sizeLine_eq]; decide, [.int (i / j) s.toks, .int (i % j) (s.toks + 1)], .cons ⟨_, rfl⟩ (.cons ⟨_, rfl⟩ .nil), ?_⟩
  exact ⟨_, Heap.get?_push_size s.heap rfl, rfl, 0, rfl⟩
end
end L2

namespace L2
open PySem PySem.Spec PyProof.Rows

/-! ### an instance, its attributes a map -/
structure ObjM (h : Heap) (x dx C : Addr) (mA : Str → Option Value) : Prop where
  obj : h.get? x = some (PySem.W.instObj C dx)
  ns : h.Ns1 dx mA
  ne : dx ≠ x

theorem lookIn_ns {h : Heap} {dx : Addr} {mA : Str → Option Value} (n : h.Ns1 dx mA) : ∃ od, h.get? dx = some od ∧ ∀ name, PySem.W.lookIn name od = some (mA name) := by
  obtain ⟨o, es, ep, ho, hd, hk, _, hm⟩ := n
  refine ⟨o, ho, fun name => ?_⟩
  have e := hm name
  unfold nsFind findBy at e
  rw [← Array.find?_toList] at e
  unfold PySem.W.lookIn
  rw [hd]
  dsimp only
  split
  · rename_i y q
    rw [q] at e
    exact congrArg some e
  · rename_i q
    rw [q] at e
    have a : es.toList.any (·.refKey) = false := by
      rw [List.any_eq_false]
      intro y hy
      obtain ⟨z, t, hkey⟩ := hk y (Array.mem_toList_iff.mp hy)
      simp [DictEntry.refKey, hkey]
    have a' : ¬ es.toList.any (·.refKey) = true := by rw [a]; exact Bool.false_ne_true
    rw [if_neg a']
    exact congrArg some e

theorem ObjM.look {h : Heap} {x dx C : Addr} {mA : Str → Option Value} (I : ObjM h x dx C mA) : ∃ od, PySem.W.InstAt h x (PySem.W.instObj C dx) C (some od) ∧ ∀ name, PySem.W.lookIn name od = some (mA name) :=
  let ⟨od, ho, hl⟩ := lookIn_ns I.ns
  ⟨od, ⟨I.obj, rfl, rfl, ho⟩, hl⟩

section
variable {prog : Program} {w : World} {A : Around} {E : Value → Shared → Prop} {s : Shared} {K : PySem.W.Frag} {x dx C f : Addr} {mA : Str → Option Value} {name : Str} {v : Value}

theorem get_map {expr : Bool} {Q : Value → Shared → Prop} (X : K.In s.heap) (I : ObjM s.heap x dx C mA) (hg : PySem.W.plainGet K C name = true) (hh : PySem.W.hasDictIn K C = true)
    (ha : PySem.W.findIn K (.ref C) name = some none) (hv : mA name = some v) (hv' : PySem.W.handedIn v = true) (h : Q v { s with toks := s.toks + 1 }) :
    wpAny (model prog w) A (getAttr (.ref x) name expr) Q E s := by
  obtain ⟨od, J, hl⟩ := I.look
  exact PySem.W.get_value X J (PySem.W.plainGet_of hg).1 (PySem.W.findObj_own hh ha rfl (by rw [hl, hv])) hv' h

theorem get_const {expr : Bool} {a : Value} {Q : Value → Shared → Prop} (X : K.In s.heap) (I : ObjM s.heap x dx C mA) (hg : PySem.W.plainGet K C name = true) (hh : PySem.W.hasDictIn K C = true)
    (ha : PySem.W.findIn K (.ref C) name = some (some a)) (hn : PySem.W.specialIn K a "__get__" = some none) (hc : PySem.W.copiedNames.contains name = false) (hv : mA name = none) (hv' : PySem.W.handedIn a = true)
    (h : Q a { s with toks := s.toks + 1 }) : wpAny (model prog w) A (getAttr (.ref x) name expr) Q E s := by
  obtain ⟨od, J, hl⟩ := I.look
  exact PySem.W.get_value X J (PySem.W.plainGet_of hg).1 (PySem.W.findObj_cls hh ha hn hv' hc (by rw [hl, hv])) hv' h

theorem get_meth {pl : Sem Bool} {Q : Value × List Value → Shared → Prop} (X : K.In s.heap) (I : ObjM s.heap x dx C mA) (hg : PySem.W.plainGet K C name = true)
    (hf : PySem.W.findIn K (.ref C) name = some (some (.ref f))) (ht : PySem.W.isFn K (.ref f) = true) (hv : mA name = none) (h : Q (.ref f, [.ref x]) s) :
    wpAny (model prog w) A (getMethod (.ref x) name pl) Q E s := by
  obtain ⟨od, J, hl⟩ := I.look
  exact PySem.W.method_fn X J (PySem.W.plainGet_of hg).1 (PySem.W.plainGet_of hg).2 hf (beq_iff_eq.mp ht) (by show (PySem.W.lookIn name od).map (·.isSome) = some false; rw [hl, hv]; rfl) h

theorem set_map {ns : List Str} {Q : Unit → Shared → Prop} (X : K.In s.heap) (I : ObjM s.heap x dx C mA)
    (hs : PySem.W.findIn K (.ref C) "__setattr__" = some (some (.builtin "object.__setattr__"))) (hp : PySem.W.plainOver K C = true) (ht : PySem.W.takerIn K C name = some none) (hh : PySem.W.hasDictIn K C = true)
    (hw : PySem.Within mA ns) (hsz : ns.length ≤ sizeLine)
    (h : ∀ h', ObjM h' x dx C (fun y => if y = name then some v else mA y) → Heap.SameBut dx s.heap h' → Q () { s with heap := h', toks := s.toks + 2 }) :
    wpAny (model prog w) A (setAttr (.ref x) name v) Q E s := by
  obtain ⟨od, J, hl⟩ := I.look
  refine PySem.W.set_plain X J hs (PySem.W.osa_open (s := { s with toks := s.toks + 1 }) (r := none) X J hp ht fun b => ?_)
  obtain ⟨cd, hc, hd'⟩ := PySem.W.any_some hh
  have hx : s.heap.get? x = some ⟨.ref C, some dx, .plain, #[]⟩ := I.obj
  refine wpAny_bind (wpAny_pure (wpAny_bind (wpAny_bind (wpAny_loadPart hx (wpAny_bind (PySem.W.Looks.here (s := { s with toks := s.toks + 1 }) (PySem.W.looks_clsIn X hc) ?_))))))
  rw [hd']
  refine wpAny_pure (a := some dx) (wpAny_bind (wpAny_pure (wpAny_bind ?_)))
  refine wpAny_nsSet1 (s := { s with toks := s.toks + 1 }) I.ns fun h' hn2 hs2 => ?_
  obtain ⟨oD, esD, epD, hoD, hdD, hcD⟩ := hn2.count (PySem.Within.cons name v hw)
  refine wpAny_bind (wpAny_lookBehind hoD (by rw [hdD]; exact pastItsLine_dict (Nat.le_trans hcD (by rw [List.length_cons]; omega))) ?_)
  exact wpAny_pure (h _ ⟨(hs2.2 _ (Ne.symm I.ne)).trans I.obj, hn2, I.ne⟩ hs2)

/-- C(..): the dict at the heap's end, the instance behind it; then its __init__ -/
theorem make_map {R : Result → Shared → Prop} {vs : List Value} {kw : List (Str × Value)} (X : K.In s.heap) (hm : PySem.W.makesIn K C = true)
    (hi : PySem.W.findIn K (.ref C) "__init__" = some (some (.ref f))) (hf : PySem.W.typeIn K (.ref f) = some (.type "function"))
    (h : codeAny (model prog w) (A.under (.builtin "type.__call__" ⟨.ref C :: vs, kw⟩)) (.call (.ref f) ⟨.ref (s.heap.objs.size + 1) :: vs, kw⟩) (PySem.W.InitBack (s.heap.objs.size + 1) R)
      { s with heap := (s.heap.push PySem.W.emptyDict).push (PySem.W.instObj C s.heap.objs.size) }) :
    codeAny (model prog w) A (.call (.ref C) ⟨vs, kw⟩) R s := by
  obtain ⟨hh, g, d, t, os⟩ := s
  exact PySem.W.make_core (PySem.W.makes_of X hm) (PySem.W.looks_findIn X hi) (fun self => PySem.W.bind_fn X self hf) (.inl rfl) h
/-- C() where there is no __init__ but object's -/
theorem make_map0 {R : Result → Shared → Prop} (X : K.In s.heap) (hm : PySem.W.makesIn K C = true)
    (hi : PySem.W.findIn K (.ref C) "__init__" = some (some (.builtin "object.__init__")))
    (hb : ∀ self, PySem.W.Looks (model prog w) s.heap (bindSpecial (.builtin "object.__init__") self) (.builtin "object.__init__", [self]))
    (h : codeAny (model prog w) (A.under (.builtin "type.__call__" ⟨[.ref C], []⟩)) (.call (.builtin "object.__init__") ⟨[.ref (s.heap.objs.size + 1)], []⟩) (PySem.W.InitBack (s.heap.objs.size + 1) R)
      { s with heap := (s.heap.push PySem.W.emptyDict).push (PySem.W.instObj C s.heap.objs.size) }) :
    codeAny (model prog w) A (.call (.ref C) ⟨[], []⟩) R s := by
  obtain ⟨hh, g, d, t, os⟩ := s
  exact PySem.W.make_core (PySem.W.makes_of X hm) (PySem.W.looks_findIn X hi) hb (.inr ⟨rfl, rfl⟩) h
end

/-! ### the attributes as a list of pairs -/
def putF (f : Str) (v : V) : List (Str × V) → List (Str × V)
  | [] => [(f, v)]
  | (g, x) :: r => if g = f then (g, v) :: r else (g, x) :: putF f v r
theorem lookup_putF (f g : Str) (v : V) : ∀ fs : List (Str × V), (putF f v fs).lookup g = if g = f then some v else fs.lookup g
  | [] => by
    show List.lookup g [(f, v)] = _
    by_cases h : g = f
    · have hb : (g == f) = true := beq_iff_eq.mpr h
      simp only [List.lookup, hb, if_pos h]
    · have hb : (g == f) = false := beq_eq_false_iff_ne.mpr h
      simp only [List.lookup, hb, if_neg h]
  | (k, x) :: r => by
    have ih := lookup_putF f g v r
    rw [show putF f v ((k, x) :: r) = (if k = f then (k, v) :: r else (k, x) :: putF f v r) from rfl]
    by_cases hk : k = f
    · rw [if_pos hk]
      by_cases h : g = k
      · have hb : (g == k) = true := beq_iff_eq.mpr h
        simp only [List.lookup, hb, if_pos (h.trans hk)]
      · have hb : (g == k) = false := beq_eq_false_iff_ne.mpr h
        simp only [List.lookup, hb, if_neg (fun e : g = f => h (e.trans hk.symm))]
    · rw [if_neg hk]
      by_cases h : g = k
      · have hb : (g == k) = true := beq_iff_eq.mpr h
        simp only [List.lookup, hb, if_neg (fun e : g = f => hk (h.symm.trans e))]
      · have hb : (g == k) = false := beq_eq_false_iff_ne.mpr h
        simp only [List.lookup, hb]
        exact ih
theorem keys_putF (f : Str) (v : V) : ∀ fs : List (Str × V), f ∈ (putF f v fs).map (·.1) ∧ ∀ g, g ∈ fs.map (·.1) → g ∈ (putF f v fs).map (·.1)
  | [] => ⟨by simp [putF], fun g h => by simp at h⟩
  | (k, x) :: r => by
    obtain ⟨i1, i2⟩ := keys_putF f v r
    rw [show putF f v ((k, x) :: r) = (if k = f then (k, v) :: r else (k, x) :: putF f v r) from rfl]
    by_cases hk : k = f
    · rw [if_pos hk]
      subst hk
      exact ⟨by simp, fun g h => by simpa using h⟩
    · rw [if_neg hk]
      refine ⟨?_, fun g h => ?_⟩
      · rw [List.map_cons]
        exact List.mem_cons_of_mem _ i1
      · rw [List.map_cons] at h ⊢
        rcases List.mem_cons.mp h with e | e
        · exact List.mem_cons.mpr (.inl e)
        · exact List.mem_cons_of_mem _ (i2 g e)
theorem length_putF (f : Str) (v : V) : ∀ fs : List (Str × V), (putF f v fs).length ≤ fs.length + 1
  | [] => by simp [putF]
  | (k, x) :: r => by
    have ih := length_putF f v r
    rw [show putF f v ((k, x) :: r) = (if k = f then (k, v) :: r else (k, x) :: putF f v r) from rfl]
    by_cases hk : k = f
    · rw [if_pos hk, List.length_cons, List.length_cons]; omega
    · rw [if_neg hk, List.length_cons, List.length_cons]; omega

theorem RelO.some_of {v : V} {o : Option Value} (r : RelO (some v) o) : ∃ u, o = some u ∧ RelV v u := by
  cases o with
  | none => exact (show False from r).elim
  | some u => exact ⟨u, rfl, r⟩
theorem RelO.none_of {o : Option Value} (r : RelO none o) : o = none := by
  cases o with
  | none => rfl
  | some u => exact (show False from r).elim
theorem handed_of {v : V} {u : Value} (r : RelV v u) : PySem.W.handedIn u = true := by
  cases v with
  | non => cases (show u = Value.none from r); rfl
  | bl b => cases (show u = Value.bool b from r); rfl
  | int i => obtain ⟨t, e⟩ := (show ∃ t, u = Value.int i t from r); cases e; rfl
  | str x => obtain ⟨t, e⟩ := (show ∃ t, u = Value.str x t from r); cases e; rfl
  | byt b => obtain ⟨t, e⟩ := (show ∃ t, u = Value.bytes b t from r); cases e; rfl
  | flt b => obtain ⟨t, e⟩ := (show ∃ t, u = Value.float b t from r); cases e; rfl
  | ref a => cases (show u = Value.ref a from r); rfl
  | ty n => cases (show u = Value.type n from r); rfl

section
variable {P : Program} {w : World} {H H' : Hp} {h h' : Heap} {a C dx : Addr} {fs fs' : List (Str × V)}
theorem ins_get (hok : HOk P w H h) (e : H a = some (.ins C dx fs)) : ∃ mA, ObjM h a dx C mA ∧ (∀ f, RelO (fs.lookup f) (mA f)) ∧ PySem.Within mA (fs.map (·.1)) ∧ fs.length ≤ 1000 ∧ H dx = some (.own a) := by
  obtain ⟨d, z, ne, ob, mA, n, r, q⟩ := (show ObjOk P w H h a (.ins C dx fs) from hok a _ e)
  exact ⟨mA, ⟨ob, n, ne⟩, r, q, z, d⟩
end

/-! ### what of the text a class must have -/
structure Cls (K : PySem.W.Frag) (C : Addr) : Prop where
  pg : PySem.W.plainGet K C Str.empty = true
  hd : PySem.W.hasDictIn K C = true
  po : PySem.W.plainOver K C = true
  sa : PySem.W.findIn K (.ref C) "__setattr__" = some (some (.builtin "object.__setattr__"))
theorem Cls.get {K : PySem.W.Frag} {C : Addr} (c : Cls K C) (f : Str) : PySem.W.plainGet K C f = true := c.pg
/-- no class of it has the name -/
def NoAttr (K : PySem.W.Frag) (C : Addr) (f : Str) : Prop := PySem.W.findIn K (.ref C) f = some none
theorem NoAttr.taker {K : PySem.W.Frag} {C : Addr} {f : Str} (n : NoAttr K C f) : PySem.W.takerIn K C f = some none := by
  unfold PySem.W.takerIn
  rw [show PySem.W.findIn K (.ref C) f = some none from n]
  rfl
/-- a constant of the class -/
structure Con (K : PySem.W.Frag) (C : Addr) (f : Str) (v : V) (u : Value) : Prop where
  at_ : PySem.W.findIn K (.ref C) f = some (some u)
  rel : RelV v u
  get : PySem.W.specialIn K u "__get__" = some none
  cp : PySem.W.copiedNames.contains f = false
/-- a method: a plain def of the class or of one above it -/
structure Meth (K : PySem.W.Frag) (C : Addr) (m : Str) (f : Addr) : Prop where
  at_ : PySem.W.findIn K (.ref C) m = some (some (.ref f))
  fn : PySem.W.isFn K (.ref f) = true
  kp : PySem.W.keepIn K (.ref f) = true

section
variable {X : Cx} {pins : List (Addr × Obj)} {σ : St} {H : Hp} {s : Shared} {a C dx : Addr} {fs : List (Str × V)} {f : Str} {v : V} {A : Around} {E : Value → Shared → Prop}

theorem getattr_ok {b : Bool} {Q : Value → Shared → Prop} (I : Inv X pins σ H s) (e : H a = some (.ins C dx fs)) (c : Cls X.K C) (n : NoAttr X.K C f) (l : fs.lookup f = some v)
    (h : ∀ u s', Inv X pins σ H s' → RelV v u → Q u s') : wpAny (model X.prog X.w) A (getAttr (.ref a) f b) Q E s := by
  obtain ⟨mA, O, r, _, _, _⟩ := ins_get I.hok e
  obtain ⟨u, hu, ru⟩ := RelO.some_of (v := v) (o := mA f) (by rw [← l]; exact r f)
  exact get_map I.kIn O (c.get f) c.hd n hu (handed_of ru) (h u _ (I.tok _) ru)

theorem getcon_ok {b : Bool} {u : Value} {Q : Value → Shared → Prop} (I : Inv X pins σ H s) (e : H a = some (.ins C dx fs)) (c : Cls X.K C) (k : Con X.K C f v u) (l : fs.lookup f = none)
    (h : ∀ s', Inv X pins σ H s' → Q u s') : wpAny (model X.prog X.w) A (getAttr (.ref a) f b) Q E s := by
  obtain ⟨mA, O, r, _, _, _⟩ := ins_get I.hok e
  have hn : mA f = none := RelO.none_of (by rw [← l]; exact r f)
  exact get_const I.kIn O (c.get f) c.hd k.at_ k.get k.cp hn (handed_of k.rel) (h _ (I.tok _))

theorem getmeth_ok {m : Str} {g : Addr} {pl : Sem Bool} {Q : Value × List Value → Shared → Prop} (I : Inv X pins σ H s) (e : H a = some (.ins C dx fs)) (c : Cls X.K C) (k : Meth X.K C m g) (l : fs.lookup m = none)
    (h : Q (.ref g, [.ref a]) s) : wpAny (model X.prog X.w) A (getMethod (.ref a) m pl) Q E s := by
  obtain ⟨mA, O, r, _, _, _⟩ := ins_get I.hok e
  have hn : mA m = none := RelO.none_of (by rw [← l]; exact r m)
  exact get_meth I.kIn O (c.get m) k.at_ k.fn hn h

theorem setattr_ok {y : V} {u : Value} {Q : Unit → Shared → Prop} (I : Inv X pins σ H s) (e : H a = some (.ins C dx fs)) (c : Cls X.K C) (n : NoAttr X.K C f) (hl : fs.length < 1000) (ry : RelV y u)
    (h : ∀ s', Inv X pins σ (upd H a (.ins C dx (putF f y fs))) s' → Q () s') : wpAny (model X.prog X.w) A (setAttr (.ref a) f u) Q E s := by
  obtain ⟨mA, O, r, wi, _, ho⟩ := ins_get I.hok e
  have hz : (fs.map (·.1)).length ≤ sizeLine := by rw [List.length_map, sizeLine_eq]; omega
  refine set_map I.kIn O c.sa c.po n.taker c.hd wi hz fun h' O' sb => h _ ?_
  have hd : ∃ o, h'.get? dx = some o := let ⟨o, _, _, e', _⟩ := O'.ns; ⟨o, e'⟩
  refine I.write (x := a) (e := dx) (by rw [e]; exact True.intro) (.inr ho) (fun b q hb z => (sb.2 b hb).trans z) hd ?_
  refine ⟨by rw [upd_ne O.ne]; exact ho, ?_, O.ne, O'.obj, _, O'.ns, fun g => ?_, fun g hg => ?_⟩
  · have := length_putF f y fs; omega
  · show RelO ((putF f y fs).lookup g) (if g = f then some u else mA g)
    rw [lookup_putF]
    by_cases q : g = f
    · rw [if_pos q, if_pos q]; exact ry
    · rw [if_neg q, if_neg q]; exact r g
  · by_cases q : g = f
    · rw [q]; exact (keys_putF f y fs).1
    · refine (keys_putF f y fs).2 g (wi g fun z => hg ?_)
      show (if g = f then some u else mA g) = none
      rw [if_neg q]; exact z

/-- a new instance, tracked, without attributes -/
theorem Inv.made (I : Inv X pins σ H s) : Inv X pins σ (upd (upd H s.heap.objs.size (.own (s.heap.objs.size + 1))) (s.heap.objs.size + 1) (.ins C s.heap.objs.size []))
    { s with heap := (s.heap.push PySem.W.emptyDict).push (PySem.W.instObj C s.heap.objs.size) } := by
  have e1 : (s.heap.push PySem.W.emptyDict).get? s.heap.objs.size = some PySem.W.emptyDict := Heap.get?_push_size s.heap rfl
  have e2 : ((s.heap.push PySem.W.emptyDict).push (PySem.W.instObj C s.heap.objs.size)).get? (s.heap.objs.size + 1) = some (PySem.W.instObj C s.heap.objs.size) := by
    have := Heap.get?_push_size (s.heap.push PySem.W.emptyDict) (o := PySem.W.instObj C s.heap.objs.size) rfl
    rwa [Heap.size_push] at this
  have e3 : (s.heap.push PySem.W.emptyDict).Ns s.heap.objs.size (fun _ => none) := ⟨PySem.W.emptyDict, #[], _, e1, rfl, (fun e he => absurd he (by simp)), fun _ => rfl⟩
  have I1 := I.laid (a := s.heap.objs.size) (o := .own (s.heap.objs.size + 1)) (h' := s.heap.push PySem.W.emptyDict) (t' := s.toks) (fun b u q => Heap.get?_push_of_some _ q) (Nat.le_refl _) ⟨_, e1⟩
  refine I1.laid (a := s.heap.objs.size + 1) (o := .ins C s.heap.objs.size []) (t' := s.toks) (fun b u q => Heap.get?_push_of_some _ q) (Nat.le_of_eq (Heap.size_push _ _)) ?_
  have ne : s.heap.objs.size ≠ s.heap.objs.size + 1 := Nat.ne_of_lt (Nat.lt_succ_self _)
  refine ⟨by rw [upd_ne ne, upd_same], Nat.zero_le _, ne, e2, fun _ => none, (Heap.Ns1.of_empty e3).at fun o q => Heap.get?_push_of_some _ q, fun _ => True.intro, fun y hy => absurd rfl hy⟩

/-- e.f where nothing but the object is asked: through attributeBase (super) and the last hold -/
theorem attr_of {prog : Program} {w : World} {env : Env} {e : Expr} {f : Str} {pos : Pos} {s : Shared} {Q : Value → Shared → Prop} (hb : attributeBase e f env (eval e env) = eval e env)
    (h : wpAny (model prog w) A (eval e env) (fun o s₁ => wpAny (model prog w) A (getAttr o f true) Q E s₁) E s) : wpAny (model prog w) A (eval (.Attribute e f pos) env) Q E s :=
  Attribute_any_ h (by rw [arm_eval_Attribute, hb])
end

/-! ### readings and rules -/
/-- e.f, an attribute of the instance -/
def tFld (K : PySem.W.Frag) (ta : TE) (f : Str) : TE := fun σ H Q => ta σ H fun x H1 => ∃ a C dx fs v, x = .ref a ∧ H1 a = some (.ins C dx fs) ∧ Cls K C ∧ NoAttr K C f ∧ fs.lookup f = some v ∧ Q v H1
/-- e.f, a constant of the class -/
def tCon (K : PySem.W.Frag) (ta : TE) (f : Str) : TE := fun σ H Q => ta σ H fun x H1 => ∃ a C dx fs v u, x = .ref a ∧ H1 a = some (.ins C dx fs) ∧ Cls K C ∧ Con K C f v u ∧ fs.lookup f = none ∧ Q v H1
/-- e.f = value -/
def sFld (K : PySem.W.Frag) (ta tv : TE) (f : Str) : TS := fun D σ H => tv σ H fun y H1 => ta σ H1 fun x H2 => ∃ a C dx fs, x = .ref a ∧ H2 a = some (.ins C dx fs) ∧ Cls K C ∧ NoAttr K C f ∧ fs.length < 1000 ∧
  D.nx σ (upd H2 a (.ins C dx (putF f y fs)))
/-- an augmented operator on two values -/
def InOp (X : Cx) (op : Operator) (rd : V → V → Hp → VK → Prop) : Prop :=
  ∀ (pins : List (Addr × Obj)) (s : Shared) (σ : St) (H : Hp) (x y : V) (u v : Value) (Q : VK), Inv X pins σ H s → RelV x u → RelV y v → rd x y H Q → wpAny (model X.prog X.w) X.A (inplaceOp op u v) (EP X pins σ Q) X.xe s
/-- e.f op= value -/
def sFldAug (K : PySem.W.Frag) (ta tv : TE) (rd : V → V → Hp → VK → Prop) (f : Str) : TS := fun D σ H => ta σ H fun x H1 => ∃ a C dx fs v, x = .ref a ∧ H1 a = some (.ins C dx fs) ∧ Cls K C ∧ NoAttr K C f ∧ fs.lookup f = some v ∧
  tv σ H1 fun y H2 => rd v y H2 fun z H3 => ∃ dx' fs', H3 a = some (.ins C dx' fs') ∧ fs'.length < 1000 ∧ D.nx σ (upd H3 a (.ins C dx' (putF f z fs')))

section
variable {X : Cx} {o e value : Expr} {f : Str} {pos pos' tpos : Pos} {ta tv : TE}
theorem pe_fld (he : PE X e ta) (hb : attributeBase e f X.env (eval e X.env) = eval e X.env) : PE X (.Attribute e f pos) (tFld X.K ta f) := by
  intro pins s σ H Q I h
  refine attr_of hb (thn (he pins s σ H _ I h) fun u s1 ⟨x, H1, I1, rx, a, C, dx, fs, v, ex, ea, c, n, l, q⟩ => ?_)
  subst ex
  obtain rfl : u = Value.ref a := rx
  exact getattr_ok I1 ea c n l fun u' s2 I2 ru => ⟨v, H1, I2, ru, q⟩
theorem pe_con (he : PE X e ta) (hb : attributeBase e f X.env (eval e X.env) = eval e X.env) : PE X (.Attribute e f pos) (tCon X.K ta f) := by
  intro pins s σ H Q I h
  refine attr_of hb (thn (he pins s σ H _ I h) fun u s1 ⟨x, H1, I1, rx, a, C, dx, fs, v, u0, ex, ea, c, k, l, q⟩ => ?_)
  subst ex
  obtain rfl : u = Value.ref a := rx
  exact getcon_ok I1 ea c k l fun s2 I2 => ⟨v, H1, I2, k.rel, q⟩
theorem ps_fld (ha : PE X o ta) (hv : PE X value tv) (hs : swapsWith value (some (.Attribute o f pos')) pos.line X.env = pure false) : PS X (.Assign [.Attribute o f pos'] value pos) (sFld X.K ta tv f) := by
  intro pins s σ H D I h
  refine plainObj_wpAny_Assign_Attribute (thn (hv pins s σ H _ I h) fun u s1 ⟨y, H1, I1, ry, q⟩ => thn (ha pins s1 σ H1 _ I1 q) fun ov s2 ⟨x, H2, I2, rx, a, C, dx, fs, ex, ea, c, n, l, q2⟩ => ?_) hs
  subst ex
  obtain rfl : ov = Value.ref a := rx
  exact setattr_ok I2 ea c n l ry fun s3 I3 => ⟨σ, _, I3, q2⟩
theorem ps_fldaug {op : Operator} {rd : V → V → Hp → VK → Prop} (ha : PE X o ta) (hv : PE X value tv) (hop : InOp X op rd) : PS X (.AugAssign (.Attribute o f tpos) op value pos) (sFldAug X.K ta tv rd f) := by
  intro pins s σ H D I h
  refine wpAny_AugAssign_AttributeAny (thn (ha pins s σ H _ I h) fun ov s1 ⟨x, H1, I1, rx, a, C, dx, fs, v, ex, ea, c, n, l, q⟩ => ?_)
  subst ex
  obtain rfl : ov = Value.ref a := rx
  refine getattr_ok I1 ea c n l fun u s2 I2 ru => thn (hv pins s2 σ H1 _ I2 q) fun w3 s3 ⟨y, H2, I3, ry, q3⟩ => thn (hop pins s3 σ H2 v y u w3 _ I3 ru ry q3) fun w4 s4 ⟨z, H3, I4, rz, dx', fs', ea', l', q4⟩ => ?_
  exact setattr_ok I4 ea' c n l' rz fun s5 I5 => ⟨σ, _, I5, q4⟩
def rAdd : V → V → Hp → VK → Prop := fun x y H Q => ∃ i j, x = .int i ∧ y = .int j ∧ Q (.int (i + j)) H
def rSub : V → V → Hp → VK → Prop := fun x y H Q => ∃ i j, x = .int i ∧ y = .int j ∧ Q (.int (i - j)) H
theorem in_add : InOp X .Add rAdd := by
  rintro pins s σ H x y u v Q I rx ry ⟨i, j, rfl, rfl, q⟩
  obtain ⟨t, rfl⟩ := (show ∃ t, u = Value.int i t from rx)
  obtain ⟨t', rfl⟩ := (show ∃ t', v = Value.int j t' from ry)
  exact PyProof.Rows.iadd_int ⟨.int (i + j), H, I.tok _, ⟨_, rfl⟩, q⟩
theorem in_sub : InOp X .Sub rSub := by
  rintro pins s σ H x y u v Q I rx ry ⟨i, j, rfl, rfl, q⟩
  obtain ⟨t, rfl⟩ := (show ∃ t, u = Value.int i t from rx)
  obtain ⟨t', rfl⟩ := (show ∃ t', v = Value.int j t' from ry)
  exact PyProof.Rows.isub_int ⟨.int (i - j), H, I.tok _, ⟨_, rfl⟩, q⟩

/-- what is between an instance and its method: the tree of a method call -/
theorem methcall_of {pl : Sem Bool} {m : Str} {apos : Pos} {args : List Expr} {pins : List (Addr × Obj)} {s : Shared} {σ : St} {H : Hp} {Q : Value → Shared → Prop} {te : TE} (he : PE X e te) (I : Inv X pins σ H s)
    (h : te σ H fun x H1 => ∃ a C dx fs g, x = .ref a ∧ H1 a = some (.ins C dx fs) ∧ Cls X.K C ∧ Meth X.K C m g ∧ fs.lookup m = none ∧
      ∀ s1, Inv X pins σ H1 s1 → wpAny (model X.prog X.w) X.A (callWith pos (.ref g) [.ref a] (backTo pos (starEach args X.env)) (backToKw pos (keywordEach [] X.env))) Q X.xe s1)
    (ht : eval (.Call (.Attribute e m apos) args [] pos) X.env = (do
      let ov ← eval e X.env
      standAt apos.atName
      let (f, first) ← holding [ov] (getMethod ov m pl)
      callWith pos f first (backTo pos (starEach args X.env)) (backToKw pos (keywordEach [] X.env)))) :
    wpAny (model X.prog X.w) X.A (eval (.Call (.Attribute e m apos) args [] pos) X.env) Q X.xe s := by
  refine PySem.W.methodCall_KW (pl := pl) (thn (he pins s σ H _ I h) fun u s1 ⟨x, H1, I1, rx, a, C, dx, fs, g, ex, ea, c, k, l, q⟩ => ?_) ht
  subst ex
  obtain rfl : u = Value.ref a := rx
  exact getmeth_ok I1 ea c k l (q s1 I1)
end

/-! ### isinstance -/
section
variable {X : Cx} {pins : List (Addr × Obj)} {σ : St} {H : Hp} {s : Shared} {A : Around} {E : Value → Shared → Prop} {Q : Value → Shared → Prop} {c : Value} {b : Bool}
/-- the type of a value, as the fragment's deciders take it; for an instance its class -/
inductive TyOf (K : PySem.W.Frag) (H : Hp) : V → Value → Prop where
  | non : TyOf K H .non (.type "NoneType")
  | bl (x : Bool) : TyOf K H (.bl x) (.type "bool")
  | int (i : Int) : TyOf K H (.int i) (.type "int")
  | str (x : Str) : TyOf K H (.str x) (.type "str")
  | flt (x : UInt64) : TyOf K H (.flt x) (.type "float")
  | lst {a : Addr} {xs : List V} (e : H a = some (.lst xs)) : TyOf K H (.ref a) (.type "list")
  | frz {a : Addr} {o : Obj} {xs : List V} (e : H a = some (.frz o (.lst xs))) : TyOf K H (.ref a) (.type "list")
  | tup {a : Addr} {xs : List V} (e : H a = some (.tup xs)) : TyOf K H (.ref a) (.type "tuple")
  | dK {a : Addr} {kvs : List (Key × V)} (e : H a = some (.dK kvs)) : TyOf K H (.ref a) (.type "dict")
  | dT {a : Addr} {kvs : List (List Key × V)} (e : H a = some (.dT kvs)) : TyOf K H (.ref a) (.type "dict")
  | ins {a C dx : Addr} {fs : List (Str × V)} (e : H a = some (.ins C dx fs)) (cl : Cls K C) (ha : PySem.W.findIn K (.ref C) "__class__" = some (some (.builtin "object.__class__")))
      (hn : PySem.W.specialIn K (.builtin "object.__class__") "__get__" = some (some (.builtin "getset_descriptor.__get__"))) (htk : PySem.W.takesIn K (.builtin "object.__class__") = some true)
      (hm : PySem.W.mroIn K C (.type "object") = some true) : TyOf K H (.ref a) (.ref C)
/-- isinstance(x, c) for one class c, a built-in or an own one: kitOne's answer -/
theorem isinst_ok {x : V} {u t : Value} (I : Inv X pins σ H s) (rx : RelV x u) (ty : TyOf X.K H x t) (e : PySem.W.kitOne X.K t c = some b) (h : ∀ tk, Q (.bool b) { s with toks := tk }) :
    wpAny (model X.prog X.w) A (call (.builtin "isinstance") [u, c]) Q E s := by
  cases ty with
  | non => cases (show u = Value.none from rx); exact PySem.W.kia_one PySem.W.kitx_none I.kIn True.intro e (fun z => nomatch z) h
  | bl y => cases (show u = Value.bool y from rx); exact PySem.W.kia_one PySem.W.kitx_bool I.kIn True.intro e (fun z => nomatch z) h
  | int i => obtain ⟨t, q⟩ := (show ∃ t, u = Value.int i t from rx); cases q; exact PySem.W.kia_one PySem.W.kitx_int I.kIn True.intro e (fun z => nomatch z) h
  | str y => obtain ⟨t, q⟩ := (show ∃ t, u = Value.str y t from rx); cases q; exact PySem.W.kia_one PySem.W.kitx_str I.kIn True.intro e (fun z => nomatch z) h
  | flt y => obtain ⟨t, q⟩ := (show ∃ t, u = Value.float y t from rx); cases q; exact PySem.W.kia_one PySem.W.kitx_float I.kIn True.intro e (fun z => nomatch z) h
  | @lst a xs ea =>
    cases (show u = Value.ref a from rx)
    obtain ⟨_, _, n, _, h1⟩ := (show ObjOk X.prog X.w H s.heap a (.lst xs) from I.hok a _ ea)
    exact PySem.W.kia_one PySem.W.kitx_list I.kIn ⟨_, h1, rfl⟩ e (fun z => nomatch z) h
  | @frz a ob xs ea =>
    cases (show u = Value.ref a from rx)
    obtain ⟨_, _, _, n, _, h1⟩ := (show ObjOk X.prog X.w H s.heap a (.frz ob (.lst xs)) from I.hok a _ ea)
    exact PySem.W.kia_one PySem.W.kitx_list I.kIn ⟨_, h1, rfl⟩ e (fun z => nomatch z) h
  | @tup a xs ea =>
    cases (show u = Value.ref a from rx)
    obtain ⟨_, _, _, p⟩ := (show ObjOk X.prog X.w H s.heap a (.tup xs) from I.hok a _ ea)
    obtain ⟨o, h1, h2, _⟩ := p
    exact PySem.W.kia_one PySem.W.kitx_tuple I.kIn ⟨o, h1, h2⟩ e (fun z => nomatch z) h
  | @dK a kvs ea =>
    cases (show u = Value.ref a from rx)
    obtain ⟨_, _, vs, _, p⟩ := (show ObjOk X.prog X.w H s.heap a (.dK kvs) from I.hok a _ ea)
    obtain ⟨o, es, ep, h1, h2, _⟩ := p
    exact PySem.W.kia_one PySem.W.kitx_dict I.kIn ⟨o, h1, h2.1⟩ e (fun z => nomatch z) h
  | @dT a kvs ea =>
    cases (show u = Value.ref a from rx)
    obtain ⟨_, _, xs, _, o, es, ep, h1, h2, _⟩ := (show ObjOk X.prog X.w H s.heap a (.dT kvs) from I.hok a _ ea)
    exact PySem.W.kia_one PySem.W.kitx_dict I.kIn ⟨o, h1, h2.1⟩ e (fun z => nomatch z) h
  | @ins a C dx fs ea cl ha hn htk hm =>
    cases (show u = Value.ref a from rx)
    obtain ⟨mA, O, _⟩ := ins_get I.hok ea
    obtain ⟨od, J, _⟩ := O.look
    exact PySem.W.kia_one (PySem.W.kitx_own (cl.get _) cl.hd ha hn htk hm) I.kIn J e (fun z => nomatch z) h
end
end L2

namespace L2
open PySem PySem.Spec PyProof.Rows

/-! ### room -/
structure Room (k : Nat) (A : Around) : Prop where
  hd : A.handled = none
  dp : A.depth + 3 * k + 5 < recursionLimit
  un : A.units + 16 * k + 200 < cLine
theorem Room.mono {j k : Nat} {A : Around} (r : Room k A) (h : j ≤ k) : Room j A := ⟨r.hd, by have := r.dp; omega, by have := r.un; omega⟩
theorem Room.deeper {k : Nat} {A : Around} (r : Room (k + 1) A) (env : Env) : Room k (A.deeper env) :=
  ⟨r.hd, by have := r.dp; show A.depth + 1 + 3 * k + 5 < _; omega, by have := r.un; show A.units + 3 + 16 * k + 200 < _; omega⟩
theorem Room.in1 {k : Nat} {A : Around} (r : Room (k + 1) A) : Room k A.in1 :=
  ⟨r.hd, by have := r.dp; show A.depth + 3 * k + 5 < _; omega, by have := r.un; show A.units + 1 + 16 * k + 200 < _; omega⟩
theorem make_depth {A : Around} {C : Addr} {us : List Value} {kw : List (Str × Value)} : (A.under (.builtin "type.__call__" ⟨.ref C :: us, kw⟩)).depth = A.depth + 1 := by
  first | rfl | simp [Around.under, Code.weight, Code.isCreation, Code.isGuard, Code.isCaller, Code.frames, Code.isFrame, guardIds]
theorem make_units {A : Around} {C : Addr} {us : List Value} {kw : List (Str × Value)} : (A.under (.builtin "type.__call__" ⟨.ref C :: us, kw⟩)).units = A.units + 1 := by
  first | rfl | simp [Around.under, Code.cUnits, Code.frames, Code.isFrame]
theorem Room.make {k : Nat} {A : Around} (r : Room (k + 1) A) (C : Addr) (us : List Value) (kw : List (Str × Value)) : Room k (A.under (.builtin "type.__call__" ⟨.ref C :: us, kw⟩)) :=
  ⟨r.hd, by have := r.dp; rw [make_depth]; omega, by have := r.un; rw [make_units]; omega⟩
theorem Room.depth {k : Nat} {A : Around} (r : Room k A) : A.depth < recursionLimit := by have := r.dp; omega
theorem Room.units {k : Nat} {A : Around} (r : Room k A) : A.units + 64 < cLine := by have := r.un; omega
theorem Room.units0 {k : Nat} {A : Around} (r : Room k A) : A.units < cLine := by have := r.un; omega

/-! ### argument lists and displays -/
def tNil : TA := fun _ H Q => Q [] H
def tCons (ta : TE) (tr : TA) : TA := fun σ H Q => ta σ H fun x H1 => tr σ H1 fun xs H2 => Q (x :: xs) H2
section
variable {X : Cx} {e : Expr} {es : List Expr} {te : TE} {t : TA} {pos : Pos}
theorem pa_nil : PA X [] tNil := fun _ _ _ _ H Q I h => Calls.spliced_nil ⟨[], H, I, .nil, h⟩
theorem pa_cons (ha : PE X e te) (hr : PA X es t) (hs : starEach (e :: es) X.env = (false, eval e X.env) :: starEach es X.env := by rfl) : PA X (e :: es) (tCons te t) := by
  intro pos pins s σ H Q I h
  rw [hs]
  show wpAny _ _ (spliced ((false, eval e X.env) :: backTo pos (starEach es X.env))) _ _ s
  refine Calls.spliced_cons (thn (ha pins s σ H _ I h) fun u s1 ⟨x, H1, I1, r1, q1⟩ => ?_)
  exact thn (hr pos pins s1 σ H1 _ I1 q1) fun us s2 ⟨xs, H2, I2, r2, q2⟩ => ⟨x :: xs, H2, I2, .cons r1 r2, q2⟩

/-- a tuple, a list of written items -/
def tTup (t : TA) : TE := fun σ H Q => t σ H fun xs H1 => xs.length ≤ sizeLine ∧ ∀ p, H1 p = none → Q (.ref p) (upd H1 p (.tup xs))
def tLst (t : TA) : TE := fun σ H Q => t σ H fun xs H1 => xs.length ≤ sizeLine ∧ ∀ p, H1 p = none → Q (.ref p) (upd H1 p (.lst xs))
theorem pe_tup {x1} (h : PA X es t) : PE X (.Tuple es x1 pos) (tTup t) := by
  intro pins s σ H Q I hq
  refine wpAny_Tuple_spliced (thn (h pos pins s σ H _ I hq) fun us s1 ⟨xs, H1, I1, r, z, q⟩ => ⟨by rw [← r.length]; exact z, ?_⟩)
  have hf : H1 s1.heap.objs.size = none := I1.hok.fresh (Nat.le_refl _)
  refine ⟨.ref s1.heap.objs.size, upd H1 s1.heap.objs.size (.tup xs), I1.laid (t' := s1.toks) (fun b u e => Heap.get?_push_of_some _ e) (Nat.le_refl _) ?_, rfl, q _ hf⟩
  exact ⟨z, us, r, ⟨_, Heap.get?_push_size _ rfl, rfl, _, rfl⟩⟩
theorem pe_lst (h : PA X es t) : PE X (.List es pos) (tLst t) := by
  intro pins s σ H Q I hq
  refine wpAny_List_spliced (thn (h pos pins s σ H _ I hq) fun us s1 ⟨xs, H1, I1, r, z, q⟩ => ⟨by rw [← r.length]; exact z, ?_⟩)
  have hf : H1 s1.heap.objs.size = none := I1.hok.fresh (Nat.le_refl _)
  refine ⟨.ref s1.heap.objs.size, upd H1 s1.heap.objs.size (.lst xs), I1.laid (t' := s1.toks) (fun b u e => Heap.get?_push_of_some _ e) (Nat.le_refl _) ?_, rfl, q _ hf⟩
  exact ⟨z, us, 0, r, Heap.get?_push_size _ rfl⟩
end

/-! ### what a def promises -/
/-- a def's promise: the bound arguments in the parameters' order, the heap, the wanted end, the wanted exception -/
abbrev Sp := List V → Hp → VK → XK → Prop
/-- how an exception lies behind a call (file 08 gives it): the callers' frames, abstract heap and state ahead of the call, the wish, the exception, the state -/
abbrev CXT := List Env → Hp → Shared → XK → Value → Shared → Prop

/-- the state at a call -/
structure Env0 (P : Program) (w : World) (K : PySem.W.Frag) (mg : Str → Option Value) (base : Heap) (A : Around) (outer : List Env) (s : Shared) (H : Hp) : Prop where
  frames : A.frames = some outer
  mod : Mod K mg base
  bs : ∀ b o, base.get? b = some o → s.heap.get? b = some o ∧ H b = none
  bsz : base.objs.size ≤ s.heap.objs.size
  funs : s.heap.FunFrames base outer
  frf : ∀ b ∈ frs outer, H b = none
  hok : HOk P w H s.heap
  bare : AllBare s.gens
/-- a call's end -/
def CE (outer : List Env) (P : Program) (w : World) (H : Hp) (s : Shared) (Q : VK) (u : Value) (s' : Shared) : Prop :=
  ∃ v H', s'.os = s.os ∧ AllBare s'.gens ∧ Un (frs outer) [] H H' s.heap s'.heap ∧ HOk P w H' s'.heap ∧ RelV v u ∧ Q v H'
def CR (CX : CXT) (outer : List Env) (P : Program) (w : World) (H : Hp) (s : Shared) (Q : VK) (E : XK) (r : Result) (s' : Shared) : Prop :=
  match r with
  | .ok (.ret u) => CE outer P w H s Q u s'
  | .ok _ => False
  | .error e => CX outer H s E e s'
structure FnOk (P : Program) (w : World) (K : PySem.W.Frag) (mg : Str → Option Value) (base : Heap) (CX : CXT) (k : Nat) (f : Addr) (fd : FuncData) (ps : List Str) (sp : Sp) : Prop where
  len : ∀ vs H Q E, sp vs H Q E → vs.length = ps.length
  run : ∀ (A : Around) (outer : List Env) (s : Shared) (H : Hp) (args : Args) (us : List Value) (vs : List V) (Q : VK) (E : XK), Room k A → Env0 P w K mg base A outer s H → BindsTo s fd args (ps.zip us) → Vals vs us → sp vs H Q E →
    codeAny (model P w) A (.call (.ref f) args) (CR CX outer P w H s Q E) s
theorem FnOk.mono {P : Program} {w : World} {K : PySem.W.Frag} {mg : Str → Option Value} {base : Heap} {CX : CXT} {j k : Nat} {f : Addr} {fd : FuncData} {ps : List Str} {sp : Sp} (F : FnOk P w K mg base CX j f fd ps sp) (h : j ≤ k) :
    FnOk P w K mg base CX k f fd ps sp := ⟨F.len, fun A outer s H args us vs Q E hr => F.run A outer s H args us vs Q E (hr.mono h)⟩
/-- a weaker promise -/
theorem FnOk.imp {P : Program} {w : World} {K : PySem.W.Frag} {mg : Str → Option Value} {base : Heap} {CX : CXT} {k : Nat} {f : Addr} {fd : FuncData} {ps : List Str} {sp sp' : Sp} (F : FnOk P w K mg base CX k f fd ps sp)
    (h : ∀ vs H Q E, sp' vs H Q E → sp vs H Q E) : FnOk P w K mg base CX k f fd ps sp' :=
  ⟨fun vs H Q E q => F.len vs H Q E (h _ _ _ _ q), fun A outer s H args us vs Q E hr he hb hv hs => F.run A outer s H args us vs Q E hr he hb hv (h _ _ _ _ hs)⟩

theorem Env0.make {P : Program} {w : World} {K : PySem.W.Frag} {mg : Str → Option Value} {base : Heap} {A : Around} {outer : List Env} {s : Shared} {H : Hp} (e : Env0 P w K mg base A outer s H) (C : Addr) (us : List Value) (kw : List (Str × Value)) :
    Env0 P w K mg base (A.under (.builtin "type.__call__" ⟨.ref C :: us, kw⟩)) outer s H := ⟨by first | exact e.frames | (simpa [Around.under, Code.envs, Code.isFrame, pushEnvs] using e.frames), e.mod, e.bs, e.bsz, e.funs, e.frf, e.hok, e.bare⟩
theorem Env0.in1 {P : Program} {w : World} {K : PySem.W.Frag} {mg : Str → Option Value} {base : Heap} {A : Around} {outer : List Env} {s : Shared} {H : Hp} (e : Env0 P w K mg base A outer s H) :
    Env0 P w K mg base A.in1 outer s H := ⟨e.frames, e.mod, e.bs, e.bsz, e.funs, e.frf, e.hok, e.bare⟩

section
variable {X : Cx} {pins : List (Addr × Obj)} {σ : St} {H : Hp} {s s' : Shared}
/-- from a body: what a callee wants -/
theorem Inv.env0 (I : Inv X pins σ H s) : Env0 X.prog X.w X.K X.mg X.base X.A X.stack s H :=
  ⟨I.ok.frames, I.ok.mod, I.bs, Nat.le_trans I.ok.bsz I.sz, I.stack, I.stkFree, I.hok, I.bare⟩
/-- behind a call -/
theorem Inv.after {Q : VK} {u : Value} (I : Inv X pins σ H s) (h : CE X.stack X.prog X.w H s Q u s') : EP X pins σ Q u s' := by
  obtain ⟨v, H', os, bare, un, hok, r, q⟩ := h
  obtain ⟨hh, g, d, t, os'⟩ := s'
  obtain rfl : os' = s.os := os
  exact ⟨v, H', I.call (h' := hh) (g' := g) (d' := d) (t' := t) (ch := []) un hok bare (fun b z => absurd z (by simp)), r, q⟩
end

/-! ### calls -/
/-- f(..): the written arguments, then the defaults dvs; E: what is wanted of an exception -/
def tCall (sp : Sp) (dvs : List V) (E : XK) (t : TA) : TE := fun σ H Q => t σ H fun vs H1 => sp (vs ++ dvs) H1 Q E
/-- o.m(..) of an instance of the class at C -/
def tMeth (C : Addr) (m : Str) (sp : Sp) (dvs : List V) (E : XK) (ta : TE) (t : TA) : TE := fun σ H Q => ta σ H fun x H1 => ∃ a dx fs, x = .ref a ∧ H1 a = some (.ins C dx fs) ∧ fs.lookup m = none ∧
  t σ H1 fun vs H2 => sp (x :: (vs ++ dvs)) H2 Q E
/-- C(..): a new instance and its dict, then __init__ -/
def tMake (C : Addr) (sp : Sp) (dvs : List V) (E : XK) (t : TA) : TE := fun σ H Q => t σ H fun vs H1 => ∀ x dx, H1 x = none → H1 dx = none → dx ≠ x →
  sp (.ref x :: (vs ++ dvs)) (upd (upd H1 dx (.own x)) x (.ins C dx [])) (fun v H2 => v = .non ∧ Q (.ref x) H2) E

/-- how the parameters are bound: us the positional arguments, kw the keywords' values by name, ds the defaults that fill up -/
def Binds (K : PySem.W.Frag) (fd : FuncData) (ps : List Str) (ds : List Value) : Prop :=
  ∀ (s : Shared) (us : List Value), K.In s.heap → (us ++ ds).length = ps.length → BindsTo s fd ⟨us, []⟩ (ps.zip (us ++ ds))
/-- every parameter is given -/
theorem Binds.all {K : PySem.W.Frag} {fd : FuncData} {ps : List Str} (h : ∀ us : List Value, us.length = ps.length → bindArgs fd ⟨us, []⟩ = pure (ps.zip us)) : Binds K fd ps [] := fun s us _ hl => by
  rw [List.append_nil] at hl ⊢
  exact .of_eq (h us hl)

/-- an exception of a callee reaches what this body wants of exceptions -/
def Passes (CX : CXT) (X : Cx) (E : XK) : Prop := ∀ (pins : List (Addr × Obj)) (σ : St) (H : Hp) (s : Shared) (e : Value) (s' : Shared), Inv X pins σ H s → CX X.stack H s E e s' → X.xe e s'

section
variable {X : Cx} {CX : CXT} {k : Nat} {f C : Addr} {fd : FuncData} {ps : List Str} {sp : Sp} {dvs : List V} {ds : List Value} {E : XK} {x m : Str} {p pos apos : Pos} {e o : Expr} {es : List Expr} {ta : TE} {t : TA}

/-- the callee runs -/
theorem run_fn {pins : List (Addr × Obj)} {σ : St} {H : Hp} {s : Shared} {Q : VK} {us : List Value} {vs : List V} (F : FnOk X.prog X.w X.K X.mg X.base CX k f fd ps sp) (hr : Room k X.A) (hb : Binds X.K fd ps ds) (hd : Vals dvs ds) (hx : Passes CX X E)
    (I : Inv X pins σ H s) (r : Vals vs us) (h : sp (vs ++ dvs) H Q E) : wpAny (model X.prog X.w) X.A (call (.ref f) us) (EP X pins σ Q) X.xe s := by
  have r2 : Vals (vs ++ dvs) (us ++ ds) := r.append hd
  have hl : (us ++ ds).length = ps.length := by rw [← r2.length]; exact F.len _ _ _ _ h
  refine wpAny_call (codeAny_mono (F.run X.A X.stack s H ⟨us, []⟩ (us ++ ds) (vs ++ dvs) Q E hr I.env0 (hb s us I.kIn hl) r2 h) fun r s' hq => ?_)
  cases r with
  | error e => exact hx pins σ H s e s' I hq
  | ok fl =>
    cases fl with
    | ret u => exact I.after hq
    | next => exact False.elim hq
    | brk => exact False.elim hq
    | cont => exact False.elim hq

theorem pe_call (F : FnOk X.prog X.w X.K X.mg X.base CX k f fd ps sp) (hr : Room k X.A) (hg : Gl X x) (hm : X.mg x = some (.ref f)) (hk : PySem.W.keepIn X.K (.ref f) = true) (hb : Binds X.K fd ps ds) (hd : Vals dvs ds) (hx : Passes CX X E)
    (ha : PA X (e :: es) t) (hdb : (x == ("__debug__" : Str)) = false := by decide) (he : starEach (e :: es) X.env = (false, eval e X.env) :: starEach es X.env := by rfl) (hpl : (backTo pos (starEach es X.env)).any (·.1) = false := by rfl) :
    PE X (.Call (.Name x p) (e :: es) [] pos) (tCall sp dvs E t) := by
  intro pins s σ H Q I h
  refine wpAny_Call_Name_kw (ld_glob I hg hm ?_ hdb)
  refine PySem.W.callWith_K (h₀ := X.base) I.ok.mod.kin hk (thn (ha pos pins s σ H _ I h) fun us s1 ⟨vs, H1, I1, r, q⟩ => ⟨I1.kIn, ?_⟩) he hpl
  exact run_fn F hr hb hd hx I1 r q
theorem pe_call0 (F : FnOk X.prog X.w X.K X.mg X.base CX k f fd ps sp) (hr : Room k X.A) (hg : Gl X x) (hm : X.mg x = some (.ref f)) (hk : PySem.W.keepIn X.K (.ref f) = true) (hb : Binds X.K fd ps ds) (hd : Vals dvs ds) (hx : Passes CX X E)
    (hdb : (x == ("__debug__" : Str)) = false := by decide) : PE X (.Call (.Name x p) [] [] pos) (tCall sp dvs E tNil) := by
  intro pins s σ H Q I h
  refine wpAny_Call_Name_kw (ld_glob I hg hm ?_ hdb)
  exact PySem.W.callWith_K0 I.kIn hk (run_fn (us := []) F hr hb hd hx I .nil h)

/-- o.m(e, ..) -/
theorem pe_meth {pl : Sem Bool} (he : PE X o ta) (c : Cls X.K C) (hm : Meth X.K C m f) (F : FnOk X.prog X.w X.K X.mg X.base CX k f fd ps sp) (hr : Room k X.A) (hb : Binds X.K fd ps ds) (hd : Vals dvs ds) (hx : Passes CX X E) (ha : PA X (e :: es) t)
    (hst : starEach (e :: es) X.env = (false, eval e X.env) :: starEach es X.env := by rfl) (hpl : (backTo pos (starEach es X.env)).any (·.1) = false := by rfl)
    (ht : eval (.Call (.Attribute o m apos) (e :: es) [] pos) X.env = (do
      let ov ← eval o X.env
      standAt apos.atName
      let (f, first) ← holding [ov] (getMethod ov m pl)
      callWith pos f first (backTo pos (starEach (e :: es) X.env)) (backToKw pos (keywordEach [] X.env))) := by rfl) :
    PE X (.Call (.Attribute o m apos) (e :: es) [] pos) (tMeth C m sp dvs E ta t) := by
  intro pins s σ H Q I h
  refine PySem.W.methodCall_KW (pl := pl) (thn (he pins s σ H _ I h) fun u s1 ⟨x, H1, I1, rx, a, dx, fs, ex, ea, l, q⟩ => ?_) ht
  subst ex
  obtain rfl : u = Value.ref a := rx
  refine getmeth_ok I1 ea c hm l ?_
  refine PySem.W.callWith_K (first := [.ref a]) (h₀ := X.base) I.ok.mod.kin hm.kp (thn (ha pos pins s1 σ H1 _ I1 q) fun us s2 ⟨vs, H2, I2, r, q2⟩ => ⟨I2.kIn, ?_⟩) hst hpl
  exact run_fn (us := .ref a :: us) (vs := .ref a :: vs) F hr hb hd hx I2 (.cons rfl r) q2
/-- o.m() -/
theorem pe_meth0 {pl : Sem Bool} (he : PE X o ta) (c : Cls X.K C) (hm : Meth X.K C m f) (F : FnOk X.prog X.w X.K X.mg X.base CX k f fd ps sp) (hr : Room k X.A) (hb : Binds X.K fd ps ds) (hd : Vals dvs ds) (hx : Passes CX X E)
    (ht : eval (.Call (.Attribute o m apos) [] [] pos) X.env = (do
      let ov ← eval o X.env
      standAt apos.atName
      let (f, first) ← holding [ov] (getMethod ov m pl)
      callWith pos f first (backTo pos (starEach [] X.env)) (backToKw pos (keywordEach [] X.env))) := by rfl) :
    PE X (.Call (.Attribute o m apos) [] [] pos) (tMeth C m sp dvs E ta tNil) := by
  intro pins s σ H Q I h
  refine PySem.W.methodCall_KW (pl := pl) (thn (he pins s σ H _ I h) fun u s1 ⟨x, H1, I1, rx, a, dx, fs, ex, ea, l, q⟩ => ?_) ht
  subst ex
  obtain rfl : u = Value.ref a := rx
  refine getmeth_ok I1 ea c hm l ?_
  exact PySem.W.callWith_K0 (first := [.ref a]) I1.kIn hm.kp (run_fn (us := [.ref a]) (vs := [.ref a]) F hr hb hd hx I1 (.cons rfl .nil) q)

/-- what a class must have to be made -/
structure Mk (K : PySem.W.Frag) (C f : Addr) : Prop where
  makes : PySem.W.makesIn K C = true
  init : PySem.W.findIn K (.ref C) "__init__" = some (some (.ref f))
  fn : PySem.W.isFn K (.ref f) = true
  kp : PySem.W.keepIn K (.ref C) = true

theorem run_make {pins : List (Addr × Obj)} {σ : St} {H : Hp} {s : Shared} {Q : VK} {us : List Value} {vs : List V} (M : Mk X.K C f) (F : FnOk X.prog X.w X.K X.mg X.base CX k f fd ps sp) (hr : Room (k + 1) X.A) (hb : Binds X.K fd ps ds) (hd : Vals dvs ds)
    (hx : Passes CX X E) (I : Inv X pins σ H s) (r : Vals vs us)
    (h : ∀ x dx, H x = none → H dx = none → dx ≠ x → sp (.ref x :: (vs ++ dvs)) (upd (upd H dx (.own x)) x (.ins C dx [])) (fun v H2 => v = .non ∧ Q (.ref x) H2) E) :
    wpAny (model X.prog X.w) X.A (call (.ref C) us) (EP X pins σ Q) X.xe s := by
  have hq := h (s.heap.objs.size + 1) s.heap.objs.size (I.hok.fresh (Nat.le_succ _)) (I.hok.fresh (Nat.le_refl _)) (Nat.ne_of_lt (Nat.lt_succ_self _))
  have I2 := Inv.made (C := C) I
  have r2 : Vals (V.ref (s.heap.objs.size + 1) :: (vs ++ dvs)) (Value.ref (s.heap.objs.size + 1) :: (us ++ ds)) := .cons rfl (r.append hd)
  have hl : (Value.ref (s.heap.objs.size + 1) :: us ++ ds).length = ps.length := by
    have e := r2.length
    rw [F.len _ _ _ _ hq] at e
    exact e.symm
  refine wpAny_call (make_map (f := f) I.kIn M.makes M.init (beq_iff_eq.mp M.fn) (codeAny_mono (F.run _ X.stack _ _ ⟨Value.ref (s.heap.objs.size + 1) :: us, []⟩ (Value.ref (s.heap.objs.size + 1) :: (us ++ ds)) _ _ E (hr.make C us [])
    (I2.env0.make C us []) (hb _ (Value.ref (s.heap.objs.size + 1) :: us) I2.kIn hl) r2 hq) fun r s' hq' => ?_))
  cases r with
  | error e => exact hx pins σ _ _ e s' I2 hq'
  | ok fl =>
    cases fl with
    | ret u =>
      obtain ⟨v, H', I3, rv, ev, q3⟩ := I2.after hq'
      subst ev
      exact ⟨rv, ⟨V.ref (s.heap.objs.size + 1), H', I3, rfl, q3⟩⟩
    | next => exact False.elim hq'
    | brk => exact False.elim hq'
    | cont => exact False.elim hq'
theorem pe_make (M : Mk X.K C f) (F : FnOk X.prog X.w X.K X.mg X.base CX k f fd ps sp) (hr : Room (k + 1) X.A) (hg : Gl X x) (hm : X.mg x = some (.ref C)) (hb : Binds X.K fd ps ds) (hd : Vals dvs ds) (hx : Passes CX X E)
    (ha : PA X (e :: es) t) (hdb : (x == ("__debug__" : Str)) = false := by decide) (he : starEach (e :: es) X.env = (false, eval e X.env) :: starEach es X.env := by rfl) (hpl : (backTo pos (starEach es X.env)).any (·.1) = false := by rfl) :
    PE X (.Call (.Name x p) (e :: es) [] pos) (tMake C sp dvs E t) := by
  intro pins s σ H Q I h
  refine wpAny_Call_Name_kw (ld_glob I hg hm ?_ hdb)
  refine PySem.W.callWith_K (h₀ := X.base) I.ok.mod.kin M.kp (thn (ha pos pins s σ H _ I h) fun us s1 ⟨vs, H1, I1, r, q⟩ => ⟨I1.kIn, ?_⟩) he hpl
  exact run_make M F hr hb hd hx I1 r q
theorem pe_make0 (M : Mk X.K C f) (F : FnOk X.prog X.w X.K X.mg X.base CX k f fd ps sp) (hr : Room (k + 1) X.A) (hg : Gl X x) (hm : X.mg x = some (.ref C)) (hb : Binds X.K fd ps ds) (hd : Vals dvs ds) (hx : Passes CX X E)
    (hdb : (x == ("__debug__" : Str)) = false := by decide) : PE X (.Call (.Name x p) [] [] pos) (tMake C sp dvs E tNil) := by
  intro pins s σ H Q I h
  refine wpAny_Call_Name_kw (ld_glob I hg hm ?_ hdb)
  exact PySem.W.callWith_K0 I.kIn M.kp (run_make (us := []) M F hr hb hd hx I .nil h)
end

/-! ### keywords -/
/-- the values of the keywords, from the left -/
def PK (X : Cx) (kws : List Keyword) (t : TA) : Prop :=
  ∀ (pos : Pos) (pins : List (Addr × Obj)) (s : Shared) (σ : St) (H : Hp) (Q : List V → Hp → Prop), Inv X pins σ H s → t σ H Q → wpAny (model X.prog X.w) X.A (evalAll ((backToKw pos (keywordEach kws X.env)).map (·.2))) (AP X pins σ Q) X.xe s
section
variable {X : Cx} {CX : CXT} {k : Nat} {f C : Addr} {fd : FuncData} {ps ks : List Str} {sp : Sp} {E : XK} {x m : Str} {p pos apos kpos : Pos} {e o : Expr} {es : List Expr} {kws : List Keyword} {te ta : TE} {t tk : TA} {nm : Option Str}
theorem pk_nil : PK X [] tNil := fun _ _ _ _ H Q I h => wpAny_evalAll_nil ⟨[], H, I, .nil, h⟩
theorem pk_cons (ha : PE X e te) (hr : PK X kws t) : PK X (⟨nm, e, kpos⟩ :: kws) (tCons te t) := by
  intro pos pins s σ H Q I h
  show wpAny _ _ (evalAll ((do let v ← eval e X.env; standAt pos; pure v) :: (backToKw pos (keywordEach kws X.env)).map (·.2))) _ _ s
  refine wpAny_evalAll_cons (wpAny_bind (thn (ha pins s σ H _ I h) fun u s1 ⟨x, H1, I1, r1, q1⟩ => wpAny_bind (wpAny_standAt (wpAny_pure ?_))))
  exact thn (hr pos pins s1 σ H1 _ I1 q1) fun us s2 ⟨xs, H2, I2, r2, q2⟩ => ⟨x :: xs, H2, I2, .cons r1 r2, q2⟩

/-- how a call with keywords binds: g puts the positional values us and the keywords' values ws (names ks) in the parameters' order, defaults among them -/
structure KBinds (K : PySem.W.Frag) (fd : FuncData) (ps ks : List Str) (g : List Value → List Value → List Value) (gV : List V → List V → List V) : Prop where
  to : ∀ (s : Shared) (us ws : List Value), K.In s.heap → (g us ws).length = ps.length → BindsTo s fd ⟨us, ks.zip ws⟩ (ps.zip (g us ws))
  rel : ∀ {vs : List V} {us : List Value} {zs : List V} {ws : List Value}, Vals vs us → Vals zs ws → Vals (gV vs zs) (g us ws)
def tCallK (sp : Sp) (gV : List V → List V → List V) (E : XK) (t tk : TA) : TE := fun σ H Q => t σ H fun vs H1 => tk σ H1 fun zs H2 => sp (gV vs zs) H2 Q E
variable {g : List Value → List Value → List Value} {gV : List V → List V → List V}
theorem run_fnk {pins : List (Addr × Obj)} {σ : St} {H : Hp} {s : Shared} {Q : VK} {us ws : List Value} {vs zs : List V} (F : FnOk X.prog X.w X.K X.mg X.base CX k f fd ps sp) (hr : Room k X.A) (hb : KBinds X.K fd ps ks g gV) (hx : Passes CX X E)
    (I : Inv X pins σ H s) (r : Vals vs us) (rz : Vals zs ws) (h : sp (gV vs zs) H Q E) : wpAny (model X.prog X.w) X.A (call (.ref f) us (ks.zip ws)) (EP X pins σ Q) X.xe s := by
  have r2 := hb.rel r rz
  have hl : (g us ws).length = ps.length := by rw [← r2.length]; exact F.len _ _ _ _ h
  refine wpAny_call (codeAny_mono (F.run X.A X.stack s H ⟨us, ks.zip ws⟩ (g us ws) (gV vs zs) Q E hr I.env0 (hb.to s us ws I.kIn hl) r2 h) fun r s' hq => ?_)
  cases r with
  | error e => exact hx pins σ H s e s' I hq
  | ok fl =>
    cases fl with
    | ret u => exact I.after hq
    | next => exact False.elim hq
    | brk => exact False.elim hq
    | cont => exact False.elim hq
/-- f(e, .., k = v, ..) -/
theorem pe_callK (F : FnOk X.prog X.w X.K X.mg X.base CX k f fd ps sp) (hr : Room k X.A) (hg : Gl X x) (hm : X.mg x = some (.ref f)) (hk : PySem.W.keepIn X.K (.ref f) = true) (hb : KBinds X.K fd ps ks g gV) (hx : Passes CX X E)
    (ha : PA X (e :: es) t) (hkw : PK X kws tk) (hall : (backToKw pos (keywordEach kws X.env)).all (·.1.isSome) = true := by rfl) (hks : (backToKw pos (keywordEach kws X.env)).filterMap (·.1) = ks := by rfl)
    (hdb : (x == ("__debug__" : Str)) = false := by decide) (he : starEach (e :: es) X.env = (false, eval e X.env) :: starEach es X.env := by rfl)
    (hpl : ((backTo pos (starEach (e :: es) X.env)).any (·.1) || (backToKw pos (keywordEach kws X.env)).any (·.1.isNone)) = false := by rfl) :
    PE X (.Call (.Name x p) (e :: es) kws pos) (tCallK sp gV E t tk) := by
  intro pins s σ H Q I h
  refine wpAny_Call_Name_kw (ld_glob I hg hm ?_ hdb)
  refine PySem.W.callWith_KW (h₀ := X.base) I.ok.mod.kin hk hall (thn (ha pos pins s σ H _ I h) fun us s1 ⟨vs, H1, I1, r, q⟩ => ?_) hpl he
  refine thn (hkw pos pins s1 σ H1 _ I1 q) fun ws s2 ⟨zs, H2, I2, rz, q2⟩ => ⟨I2.kIn, ?_⟩
  rw [hks]
  exact run_fnk F hr hb hx I2 r rz q2
end

/-! ### a def's body keeps its promise -/
/-- names: the parameters first -/
structure FnScope (N P : List Str) (sc : Scope) : Prop where
  kind : sc.kind = .function
  co : sc.isCoroutine = false
  gen : sc.isGenerator = false
  nd : N.Nodup
  pre : N.take P.length = P
  par : ∀ x ∈ P, sc.names.lookup x = some .local ∨ sc.names.lookup x = some .cell
  nofree : ∀ y ∈ sc.names, y.2 ≠ .free

theorem bindL_out {kindOf : Str → Option NameKind} {x : Str} : ∀ {binds : List (Str × Value)} {m : Str → Option Value}, (∀ v, (x, v) ∉ binds) → bindL kindOf binds m x = m x
  | [], _, _ => rfl
  | (n, v) :: r, m, h => by
    unfold bindL
    rw [bindL_out fun w hw => h w (List.mem_cons_of_mem _ hw)]
    split
    · have : x ≠ n := by rintro rfl; exact h v List.mem_cons_self
      simp [this]
    · rfl
theorem bindC_out {kindOf : Str → Option NameKind} {x : Str} : ∀ {binds : List (Str × Value)} {m : Str → Option Value}, (∀ v, (x, v) ∉ binds) → bindC kindOf binds m x = m x
  | [], _, _ => rfl
  | (n, v) :: r, m, h => by
    unfold bindC
    rw [bindC_out fun w hw => h w (List.mem_cons_of_mem _ hw)]
    split
    · rfl
    · have : x ≠ n := by rintro rfl; exact h v List.mem_cons_self
      simp [this]
theorem bindL_get {kindOf : Str → Option NameKind} {x : Str} {v : Value} : ∀ {P : List Str} {vs : List Value} {i : Nat} {m : Str → Option Value}, P.Nodup → P[i]? = some x → vs[i]? = some v → kindOf x = some .local →
    bindL kindOf (P.zip vs) m x = some v
  | [], _, _, _, _, h, _, _ => by simp at h
  | _ :: _, [], _, _, _, _, h, _ => by simp at h
  | p :: P, w :: vs, 0, m, nd, h1, h2, hk => by
    simp at h1 h2; subst h1; subst h2
    show bindL kindOf ((p, w) :: P.zip vs) m p = _
    unfold bindL
    rw [bindL_out fun v hv => (List.nodup_cons.mp nd).1 (List.of_mem_zip hv).1, if_pos hk]
    simp
  | p :: P, w :: vs, i + 1, m, nd, h1, h2, hk => by
    show bindL kindOf ((p, w) :: P.zip vs) m x = _
    unfold bindL
    exact bindL_get (i := i) (List.nodup_cons.mp nd).2 (by simpa using h1) (by simpa using h2) hk
theorem bindC_get {kindOf : Str → Option NameKind} {x : Str} {v : Value} : ∀ {P : List Str} {vs : List Value} {i : Nat} {m : Str → Option Value}, P.Nodup → P[i]? = some x → vs[i]? = some v → kindOf x ≠ some .local →
    bindC kindOf (P.zip vs) m x = some v
  | [], _, _, _, _, h, _, _ => by simp at h
  | _ :: _, [], _, _, _, _, h, _ => by simp at h
  | p :: P, w :: vs, 0, m, nd, h1, h2, hk => by
    simp at h1 h2; subst h1; subst h2
    show bindC kindOf ((p, w) :: P.zip vs) m p = _
    unfold bindC
    rw [bindC_out fun v hv => (List.nodup_cons.mp nd).1 (List.of_mem_zip hv).1, if_neg hk]
    simp
  | p :: P, w :: vs, i + 1, m, nd, h1, h2, hk => by
    show bindC kindOf ((p, w) :: P.zip vs) m x = _
    unfold bindC
    exact bindC_get (i := i) (List.nodup_cons.mp nd).2 (by simpa using h1) (by simpa using h2) hk

/-- the names' values at the entry -/
def start (N : List Str) (vs : List V) : St := vs.map some ++ List.replicate (N.length - vs.length) none

/-- the context of a def's body, at its entry; an exception leaves the frame, then lies as CX says -/
def cxOf (CX : CXT) (P : Program) (w : World) (K : PySem.W.Frag) (mg : Str → Option Value) (base : Heap) (N : List Str) (qual : Str) (scope : Scope) (f : Addr) (cd : Value) (A : Around) (outer : List Env) (s : Shared) (H : Hp) (E : XK) : Cx where
  prog := P
  w := w
  K := K
  mg := mg
  base := base
  A := A.deeper (envOfC qual scope s.heap.objs.size f cd)
  N := N
  s₀ := s
  H₀ := H
  env := envOfC qual scope s.heap.objs.size f cd
  outer := outer
  stack := envOfC qual scope s.heap.objs.size f cd :: outer
  ex := []
  calm := true
  fn := fun _ => true
  pn := []
  xe := fun e s' => wpAny (model P w) (A.deeper (envOfC qual scope s.heap.objs.size f cd)) (leaving (envOfC qual scope s.heap.objs.size f cd) e) (fun _ s'' => CX outer H s E e s'') (fun e' s'' => CX outer H s E e' s'') s'

theorem cell_has {sc : Scope} {n : Nat} {x : Str} (h : sc.names.lookup x = some .cell) : ∃ c, (cellsFrom n sc.names []).lookup x = some c := by
  have q := PySem.W.cellsFrom_some sc.names n [] (.inl h)
  exact Option.isSome_iff_exists.mp q

theorem inv_start {CX : CXT} {P : Program} {w : World} {K : PySem.W.Frag} {mg : Str → Option Value} {base : Heap} {N ps : List Str} {qual : Str} {scope : Scope} {f : Addr} {cd : Value} {A : Around} {outer : List Env} {s s1 : Shared} {H : Hp} {E : XK} {us : List Value} {vs : List V}
    (S : FnScope N ps scope) (hd : A.handled = none) (e0 : Env0 P w K mg base A outer s H) (hl : vs.length = ps.length) (r : Vals vs us)
    (x : InCallC s s.heap.objs.size (bindL (envOfC qual scope s.heap.objs.size f cd).kindOf (ps.zip us) fun _ => none) (cellsFrom (s.heap.objs.size + 1) scope.names []) (bindC (envOfC qual scope s.heap.objs.size f cd).kindOf (ps.zip us) fun _ => none) s1) :
    Inv (cxOf CX P w K mg base N qual scope f cd A outer s H E) [] (start N vs) H s1 := by
  have hpl : ps.length ≤ N.length := by have := congrArg List.length S.pre; rw [List.length_take] at this; omega
  obtain ⟨h1, tk, rfl, hk⟩ := x.done
  have noA : ∀ b : Addr, b ∉ (cxOf CX P w K mg base N qual scope f cd A outer s H E).ex := fun b z => absurd (show b ∈ ([] : List Addr) from z) (by simp)
  refine ⟨⟨e0.mod, S.kind, rfl, rfl, Nat.le_refl _, fun y z c h1 h2 => ?_, fun y hy => ?_, fun y c _ h => ?_, fun _ => hd, Around.frames_deeper e0.frames, .inr ⟨rfl, rfl⟩, fun b z => absurd z (noA b), e0.bs, e0.bsz, fun b _ _ => noA b, fun b z => absurd z (noA b), e0.funs, e0.frf⟩,
    rfl, e0.bare, Un.kept hk, ⟨_, x.toInCall.ns, fun i y v h1 h2 h3 => ?_⟩, fun y c h => ⟨_, x.cell y c h⟩, e0.hok.fresh (Nat.le_refl _), fun y c h => ?_, fun p hp => absurd (show p ∈ ([] : List (Addr × Obj)) from hp) (by simp), e0.hok.kept hk, ?_⟩
  · exact name_of_addr x.apart (PySem.mem_of_lookup h1) (PySem.mem_of_lookup h2)
  · have hy : scope.names.lookup y = some .cell ∨ scope.names.lookup y = some .free := hy
    rcases hy with hy | hy
    · exact cell_has hy
    · exact absurd rfl (S.nofree _ (PySem.mem_of_lookup hy))
  · exact Nat.le_of_lt (x.above y c (PySem.mem_of_lookup h))
  · have hi : i < vs.length := by
      unfold start at h2
      by_cases hi : i < vs.length
      · exact hi
      · rw [List.getElem?_append_right (by simpa using hi)] at h2
        rw [List.getElem?_replicate] at h2
        split at h2 <;> cases h2
    have ha : vs[i]? = some v := by
      unfold start at h2
      rw [List.getElem?_append_left (by simpa using hi), List.getElem?_map] at h2
      cases e : vs[i]? with
      | none => rw [e] at h2; cases h2
      | some a => rw [e] at h2; cases h2; rfl
    obtain ⟨u, hu, rv⟩ := r.get ha
    have hp : ps[i]? = some y := by
      rw [← S.pre, List.getElem?_take_of_lt (by omega)]; exact h1
    have ndP : ps.Nodup := by rw [← S.pre]; exact S.nd.sublist (List.take_sublist _ _)
    refine ⟨u, rv, ?_⟩
    rcases S.par y (List.mem_of_getElem? hp) with k | k
    · exact .inl ⟨k, bindL_get ndP hp hu k⟩
    · obtain ⟨c, e⟩ := cell_has (n := s.heap.objs.size + 1) k
      refine .inr ⟨.inl k, c, e, ?_⟩
      have q := x.cell y c e
      rw [bindC_get ndP hp hu (by show scope.names.lookup y ≠ _; rw [k]; decide)] at q
      exact q
  · exact e0.hok.fresh (Nat.le_of_lt (x.above y c (PySem.mem_of_lookup h)))
  · unfold start
    show _ = N.length
    rw [List.length_append, List.length_map, List.length_replicate]
    omega

/-- THE RULE: a def (or a method) of the text, by its body. The body's reading t is chosen for each entry; it is run at the parameters' values -/
theorem fn_of {CX : CXT} {P : Program} {w : World} {K : PySem.W.Frag} {mg : Str → Option Value} {base : Heap} {k : Nat} {f : Addr} {name qual : Str} {params : Arguments} {body : List Stmt} {scope : Scope} {dV kV doc pm cdv ct oc : Value} {an od : Option Addr}
    {osl : Array (Option Value)} {N ps : List Str} {sp : Sp} (lk : K.lookup f = some ⟨oc, od, .func (PySem.W.fnOf name qual params body scope dV kV doc pm an cdv ct), osl⟩) (hcd : PySem.W.codeIn K cdv qual = true) (S : FnScope N ps scope)
    (len : ∀ vs H Q E, sp vs H Q E → vs.length = ps.length)
    (hbody : ∀ (A : Around) (outer : List Env) (s : Shared) (H : Hp) (vs : List V) (Q : VK) (E : XK), Room k (A.deeper (envOfC qual scope s.heap.objs.size f cdv)) → sp vs H Q E →
      ∃ t, PSs (cxOf CX P w K mg base N qual scope f cdv A outer s H E) body t ∧ t { nx := fun _ H' => Q .non H', rt := Q } (start N vs) H) :
    FnOk P w K mg base CX (k + 1) f (PySem.W.fnOf name qual params body scope dV kV doc pm an cdv ct) ps sp := by
  refine ⟨len, fun A outer s H args us vs Q E hr e0 hb r hsp => ?_⟩
  have hl := len _ _ _ _ hsp
  have KX : K.In s.heap := e0.mod.kin.keeps fun b o e => (e0.bs b o e).1
  have lim : s.heap.NoLimit := e0.mod.nolimit.keeps fun b o e => (e0.bs b o e).1
  have hkind : ∀ y ∈ ps.zip us, scope.names.lookup y.1 = some .local ∨ (scope.names.lookup y.1 = some .cell ∧ ((cellsFrom (s.heap.objs.size + 1) scope.names []).lookup y.1).isSome = true) := fun ⟨n, v⟩ hy => by
    rcases S.par n (List.of_mem_zip hy).1 with q | q
    · exact .inl q
    · exact .inr ⟨q, PySem.W.cellsFrom_some _ _ _ (.inl q)⟩
  refine codeAny_call_function hr.depth (KX _ _ lk) rfl S.co S.gen rfl (PySem.W.codeRec_of KX hcd) (hb _ _ _ _ ?_)
  refine wpAny_newFunctionEnv_cells S.kind hkind fun env he s1 x => ?_
  subst he
  refine ⟨lim.keeps x.toInCall.keep, codeAny_func ?_⟩
  obtain ⟨t, ht, hq⟩ := hbody A outer s H vs Q E (hr.deeper _) hsp
  have I : Inv (cxOf CX P w K mg base N qual scope f cdv A outer s H E) [] (start N vs) H s1 := inv_start S hr.hd e0 hl r x
  refine wpAny_mono (ht [] s1 (start N vs) H _ I hq) (fun fl s' hs => ?_) fun e s' hs => hs
  have fin : ∀ {σ' : St} {H' : Hp} {v : V} {u : Value}, Inv (cxOf CX P w K mg base N qual scope f cdv A outer s H E) [] σ' H' s' → RelV v u → Q v H' → CE outer P w H s Q u s' :=
    fun {σ' H' v u} J rv q => ⟨v, H', J.os, J.bare, J.base, J.hok, rv, q⟩
  cases fl with
  | ret u =>
    obtain ⟨v, σ', H', J, rv, q⟩ := hs
    exact fin J rv q
  | next =>
    obtain ⟨σ', H', J, q⟩ := hs
    exact fin (v := V.non) (u := Value.none) J rfl q
  | brk =>
    obtain ⟨_, _, _, q⟩ := hs
    exact False.elim q
  | cont =>
    obtain ⟨_, _, _, q⟩ := hs
    exact False.elim q
end L2

namespace L2
open PySem PySem.Spec PyProof.Rows
section
variable {X : Cx} {x : Str} {p pos : Pos} {e : Expr} {es : List Expr} {t : TA} {id T : String} {r : List V → Hp → VK → Prop}

def tCB (r : List V → Hp → VK → Prop) (t : TA) : TE := fun σ H Q => t σ H fun vs H1 => r vs H1 Q
/-- f(e, ..), f a built-in function -/
theorem pe_callB (hc : CallR X (.builtin id) r) (hg : Gl X x) (hm : X.mg x = none) (hv : bootBuiltins x = some (.builtin id)) (ha : PA X (e :: es) t) (hn : x ≠ "__name__" := by decide) (hdb : (x == ("__debug__" : Str)) = false := by decide)
    (he : starEach (e :: es) X.env = (false, eval e X.env) :: starEach es X.env := by rfl) (hpl : (backTo pos (starEach es X.env)).any (·.1) = false := by rfl) : PE X (.Call (.Name x p) (e :: es) [] pos) (tCB r t) := by
  intro pins s σ H Q I h
  refine wpAny_Call_Name_kw (ld_blt I hg hm hv ?_ hn hdb)
  exact PyProof.Rows.callWith_builtin1 (thn (ha pos pins s σ H _ I h) fun us s1 ⟨vs, H1, I1, r1, q1⟩ => hc pins s1 σ H1 vs us Q I1 r1 q1) he hpl
/-- T(e, ..), T a built-in type -/
theorem pe_callTy (hc : CallR X (.type T) r) (hg : Gl X x) (hm : X.mg x = none) (hv : bootBuiltins x = some (.type T)) (ha : PA X (e :: es) t) (hn : x ≠ "__name__" := by decide) (hdb : (x == ("__debug__" : Str)) = false := by decide)
    (he : starEach (e :: es) X.env = (false, eval e X.env) :: starEach es X.env := by rfl) (hpl : (backTo pos (starEach es X.env)).any (·.1) = false := by rfl) : PE X (.Call (.Name x p) (e :: es) [] pos) (tCB r t) := by
  intro pins s σ H Q I h
  refine wpAny_Call_Name_kw (ld_blt I hg hm hv ?_ hn hdb)
  exact PyProof.Rows.callWith_type1 (thn (ha pos pins s σ H _ I h) fun us s1 ⟨vs, H1, I1, r1, q1⟩ => hc pins s1 σ H1 vs us Q I1 r1 q1) he hpl
/-- T() -/
theorem pe_callTy0 (hc : CallR X (.type T) r) (hg : Gl X x) (hm : X.mg x = none) (hv : bootBuiltins x = some (.type T)) (hn : x ≠ "__name__" := by decide) (hdb : (x == ("__debug__" : Str)) = false := by decide) :
    PE X (.Call (.Name x p) [] [] pos) (tCB r tNil) := by
  intro pins s σ H Q I h
  refine wpAny_Call_Name_kw (ld_blt I hg hm hv ?_ hn hdb)
  exact PyProof.Rows.callWith_type0 (hc pins s σ H [] [] Q I .nil h)
end
end L2

namespace HT
open PySem PyProof.Rows

/-- t < u of tuples of ints -/
def lexLt : List Int → List Int → Bool
  | [], [] => false
  | [], _ :: _ => true
  | _ :: _, [] => false
  | x :: xs, y :: ys => if x = y then lexLt xs ys else decide (x < y)
theorem lexLt_cons (x y : Int) (xs ys : List Int) : lexLt (x :: xs) (y :: ys) = if x = y then lexLt xs ys else decide (x < y) := rfl
theorem lexLt_nil_nil : lexLt [] [] = false := rfl
theorem lexLt_nil_cons (y : Int) (ys : List Int) : lexLt [] (y :: ys) = true := rfl
theorem lexLt_cons_nil (x : Int) (xs : List Int) : lexLt (x :: xs) [] = false := rfl

theorem eqAt_int (A : Around) (s : Shared) (a : Int) (t : Tok) (c : Int) (u : Tok) : ∃ e, SeqAt.EqAt A s (.int a t) (.int c u) e ∧ (e = true ↔ a = c) :=
  ⟨(a == c), SeqAt.EqAt.int_int a t c u, by simp⟩
theorem rcLt_int (A : Around) (s : Shared) (a : Int) (t : Tok) (c : Int) (u : Tok) (prog : Program) (w : World) (E : Value → Shared → Prop) (Q : Value → Shared → Prop) (h : Q (.bool (decide (a < c))) s) :
    wpAny (model prog w) A (richCompare .Lt (.int a t) (.int c u)) Q E s :=
  (PyProof.Rows.lt_int h : wpAny (model prog w) A (compareOp .Lt (.int a t) (.int c u)) Q E s)

section
open PySem.SeqAt
open PySem.AutoSeq1 (wpAny_loadPart')
open PySem.MeetsSeq PySem.MeetsSeq2 PySem.MeetsSeq3

theorem tuple_lt_ints (l b : Addr) (items items2 : Array Value) (n n2 : Nat) (dd dd2 : Option Addr) (sl sl2 : Array (Option Value)) (ns ms : List Int) (hi : IntsAre items.toList ns) (hj : IntsAre items2.toList ms) :
    Meets (Builtin.«tuple.__lt__» ⟨[.ref l, .ref b], []⟩)
      (fun _ R s => s.heap.get? l = some { cls := .type "tuple", dict := dd, data := .seq items n, slots := sl } ∧ s.heap.get? b = some { cls := .type "tuple", dict := dd2, data := .seq items2 n2, slots := sl2 } ∧
        R (.ok (.ret (.bool (lexLt ns ms)))) s) :=
  .of_wp fun prog w A R s h => by
    obtain ⟨hp, g, d, tk, os⟩ := s; obtain ⟨hl, hb, h⟩ := h
    have f2 := AutoSeq1.sub_tuple_tuple
    have z1 : items.size = ns.length := by rw [← hi.length]; simp
    have z2 : items2.size = ms.length := by rw [← hj.length]; simp
    wp_walk using wpAny_loadPart' hl, wpAny_loadPart' hb, wpAny_forIn_list _ (fun rest b s' => b.1 = none ∧ s' = ⟨hp, g, d, tk, os⟩ ∧ ∃ (vs ws : List Value) (ns' ms' : List Int), rest = vs.zip ws ∧
      IntsAre vs ns' ∧ IntsAre ws ms' ∧ ns'.length + items2.size = ms'.length + items.size ∧ R (.ok (.ret (.bool (lexLt ns' ms')))) ⟨hp, g, d, tk, os⟩) _
    case turn =>
      rintro ⟨y, x⟩ rest b s' ⟨hb', rfl, vs, ws, ns', ms', hz, hvi, hwi, hlen, hR⟩
      cases hvi with
      | nil => rw [List.zip_nil_left] at hz; cases hz
      | cons a t hvi' =>
        cases hwi with
        | nil => rw [List.zip_nil_right] at hz; cases hz
        | cons c u hwi' =>
          rw [List.zip_cons_cons] at hz
          injection hz with hyx hrest
          injection hyx with hy hx
          subst hy hx
          rw [lexLt_cons] at hR
          simp only [List.length_cons] at hlen
          obtain ⟨e, he, hiff⟩ := eqAt_int A.in1 ⟨hp, g, d, tk, os⟩ a t c u
          refine wpAny_bind (he prog w _ _ ?_)
          cases e with
          | true =>
            rw [if_pos (hiff.mp rfl)] at hR
            wp_walk
            exact ⟨rfl, rfl, _, _, _, _, hrest, hvi', hwi', by omega, hR⟩
          | false =>
            rw [if_neg (fun q => absurd (hiff.mpr q) Bool.false_ne_true)] at hR
            have hri := rcLt_int A.in1 ⟨hp, g, d, tk, os⟩ a t c u prog w
            wp_walk using hri
            exact ⟨_, rfl, by simpa using hR⟩
    case fin =>
      rintro ⟨b1, b2⟩ s' ⟨hb', rfl, vs, ws, ns', ms', hz, hvi, hwi, hlen, hR⟩
      simp only at hb'
      subst hb'
      have hv : lexLt ns' ms' = decide (items.size < items2.size) := by
        cases hvi with
        | nil =>
          cases hwi with
          | nil =>
            simp only [List.length_nil] at hlen
            rw [lexLt_nil_nil]
            exact (decide_eq_false (by omega)).symm
          | cons c u hw =>
            simp only [List.length_nil, List.length_cons] at hlen
            rw [lexLt_nil_cons]
            exact (decide_eq_true (by omega)).symm
        | cons a t hv =>
          cases hwi with
          | nil =>
            simp only [List.length_nil, List.length_cons] at hlen
            rw [lexLt_cons_nil]
            exact (decide_eq_false (by omega)).symm
          | cons c u hw =>
            rw [List.zip_cons_cons] at hz
            cases hz
      rw [hv] at hR
      wp_walk
      exact ⟨_, rfl, by simpa [Builtin.Tuple.tupleCompareSizes] using hR⟩
    case h =>
      exact ⟨rfl, rfl, items.toList, items2.toList, ns, ms, rfl, hi, hj, by omega, h⟩
end

section
variable {prog : Program} {w : World} {A : Around} {E : Value → Shared → Prop} {s : Shared}

theorem lt_tupInts {l b : Addr} {items items2 : Array Value} {ns ms : List Int} {Q : Value → Shared → Prop} (hl : IsTup s.heap l items) (hb : IsTup s.heap b items2) (hi : IntsAre items.toList ns) (hj : IntsAre items2.toList ms)
    (hu : A.units < cLine) (h : Q (.bool (lexLt ns ms)) s) : wpAny (model prog w) A (compareOp .Lt (.ref l) (.ref b)) Q E s := by
  obtain ⟨⟨cls, dd, data, sl⟩, ho, hc, n, hd⟩ := id hl
  obtain ⟨⟨cls2, dd2, data2, sl2⟩, ho2, hc2, n2, hd2⟩ := id hb
  simp only at hc hd hc2 hd2
  subst hc hd hc2 hd2
  exact richCompare_meets_room (op := .Lt) ⟨_, ho, rfl⟩ ⟨_, ho2, rfl⟩ PySem.F.slot_tuple_lt PySem.F.entry_tuple_lt (PySem.F.args_tuple_lt_2 _ _) (tuple_lt_ints l b items items2 n n2 dd dd2 sl sl2 ns ms hi hj)
    ⟨ho, ho2, show Value.bool (lexLt ns ms) ≠ Value.notImplemented ∧ Q (.bool (lexLt ns ms)) s from ⟨(fun x => nomatch x), h⟩⟩ hu

/-- t + u, t not empty -/
theorem cat_tup {t b : Addr} {vs ws : List Value} {Q : Value → Shared → Prop} (ht : IsTup s.heap t vs.toArray) (hb : IsTup s.heap b ws.toArray) (hv : vs ≠ [])
    (h1 : ws = [] → Q (.ref t) s) (h2 : ws ≠ [] → Q (.ref s.heap.objs.size) { s with heap := s.heap.push { cls := .type "tuple", data := .seq (vs ++ ws).toArray } })
    (hsz : vs.length + ws.length ≤ sizeLine) : wpAny (model prog w) A (binaryOp .Add (.ref t) (.ref b)) Q E s := by
  obtain ⟨⟨cls, dd, data, sl⟩, ho, hc, n, hd⟩ := id ht
  obtain ⟨⟨cls2, dd2, data2, sl2⟩, ho2, hc2, n2, hd2⟩ := id hb
  simp only at hc hd hc2 hd2
  subst hc hd hc2 hd2
  have e : vs.toArray ++ ws.toArray = (vs ++ ws).toArray := by simp
  by_cases hw : ws = []
  · exact concat_meets ⟨_, ho, rfl⟩ ⟨_, ho2, rfl⟩ noFill_tuple_add seq_tuple_add PySem.F.slot_tuple_add PySem.F.entry_tuple_add (PySem.F.args_tuple_add_2 _ _)
      (tuple_addW1 t b vs.toArray ws.toArray n n2 dd dd2 sl sl2 (by simpa using hv) (by simp [hw])) ⟨ho, ho2, h1 hw⟩
  · refine concat_meets ⟨_, ho, rfl⟩ ⟨_, ho2, rfl⟩ noFill_tuple_add seq_tuple_add PySem.F.slot_tuple_add PySem.F.entry_tuple_add (PySem.F.args_tuple_add_2 _ _)
      (tuple_addW2 t b vs.toArray ws.toArray n n2 dd dd2 sl sl2 (by simpa using hv) (by simpa using hw) (by rw [List.size_toArray, List.size_toArray]; exact hsz)) ⟨ho, ho2, ?_⟩
    rw [e]
    exact h2 hw

/-! ### t[a:b], not the whole -/
/-- a slice's bound as a place among n (d where it is left out) -/
def sIx (n d : Nat) : Option Int → Nat
  | none => d
  | some v => if v < 0 then (v + (n : Int)).toNat else min v.toNat n
theorem sIx_none (n d : Nat) : sIx n d none = d := rfl
theorem sIx_nat (n d k : Nat) : sIx n d (some (k : Int)) = min k n := by
  show (if (k : Int) < 0 then ((k : Int) + (n : Int)).toNat else min (k : Int).toNat n) = min k n
  rw [if_neg (by omega), Int.toNat_natCast]
theorem sIx_le (n d : Nat) (hd : d ≤ n) (o : Option Int) : sIx n d o ≤ n := by
  cases o with
  | none => exact hd
  | some v =>
    show (if v < 0 then (v + (n : Int)).toNat else min v.toNat n) ≤ n
    by_cases hv : v < 0
    · rw [if_pos hv]; omega
    · rw [if_neg hv]; exact Nat.min_le_right _ _
theorem clip_eq (v : Int) (n d : Nat) : (if v < 0 then max (v + (n : Int)) 0 else min v (n : Int)) = ((sIx n d (some v) : Nat) : Int) := by
  show (if v < 0 then max (v + (n : Int)) 0 else min v (n : Int)) = (((if v < 0 then (v + (n : Int)).toNat else min v.toNat n) : Nat) : Int)
  by_cases hv : v < 0
  · simp only [if_pos hv]; omega
  · simp only [if_neg hv]; omega
theorem adjust_gen (lo hi : Option Int) (n : Nat) : Builtin.Slice.sliceAdjust lo hi 1 (n : Int) = (((sIx n 0 lo : Nat) : Int), ((sIx n n hi : Nat) : Int)) := by
  have h1 : ¬ ((1 : Int) < 0) := by omega
  unfold Builtin.Slice.sliceAdjust
  simp only [h1, if_false]
  refine Prod.ext ?_ ?_
  · cases lo with
    | none => rfl
    | some v => exact clip_eq v n 0
  · cases hi with
    | none => rfl
    | some v => exact clip_eq v n n
theorem places_gen (i j : Nat) : Builtin.Slice.slicePlaces (i : Int) (j : Int) 1 = j - i := by
  unfold Builtin.Slice.slicePlaces
  have h1 : (1 : Int) > 0 := by omega
  simp only [h1, if_true, Int.ediv_one]
  split <;> omega
theorem slicePart_ {v : Value} {o : Option Int} {Q : Option Int → Shared → Prop} (p : IsPart v o) (h : Q o s) : wpAny (model prog w) A (Builtin.Slice.slicePartIndex v) Q E s := by
  cases p with
  | none => exact slicePart_none h
  | int i t => exact slicePart_int h
theorem sliceApplied_gen {sl : Addr} {vl vu : Value} {lo hi : Option Int} {n : Nat} {Q : Int × Int × Nat → Shared → Prop} (hs : s.heap.IsSliceOf sl vl vu .none) (pl : IsPart vl lo) (pu : IsPart vu hi)
    (h : Q (((sIx n 0 lo : Nat) : Int), 1, sIx n n hi - sIx n 0 lo) s) : wpAny (model prog w) A (Builtin.Slice.sliceApplied (.ref sl) (pure (n : Int))) Q E s := by
  obtain ⟨os, hos, hcs, hds⟩ := id hs
  unfold Builtin.Slice.sliceApplied Builtin.Slice.sliceFields
  refine wpAny_bind (wpAny_bind (wpAny_field hos hds (x := vl) rfl (wpAny_bind (wpAny_field hos hds (x := vu) rfl (wpAny_bind (wpAny_field hos hds (x := .none) rfl (wpAny_pure ?_)))))))
  refine wpAny_bind (slicePart_none ?_)
  show wpAny _ _ (if ((1 : Int) == 0) = true then _ else _) _ _ s
  rw [if_neg (by decide)]
  refine wpAny_bind (slicePart_ pl (wpAny_bind (slicePart_ pu (wpAny_bind (wpAny_pure ?_)))))
  show wpAny _ _ (match Builtin.Slice.sliceAdjust lo hi 1 (n : Int) with | (lo, hi) => pure (lo, (1 : Int), Builtin.Slice.slicePlaces lo hi 1)) _ _ s
  rw [adjust_gen lo hi n]
  show wpAny _ _ (pure (((sIx n 0 lo : Nat) : Int), (1 : Int), Builtin.Slice.slicePlaces ((sIx n 0 lo : Nat) : Int) ((sIx n n hi : Nat) : Int) 1)) _ _ s
  rw [places_gen]
  exact wpAny_pure h
theorem pick_gen (xs : Array Value) (i k : Nat) : ((List.range k).filterMap fun (m : Nat) => xs[((i : Int) + (m : Int) * 1).toNat]?).toArray = ((xs.toList.drop i).take k).toArray := by
  have e : (fun (m : Nat) => xs[((i : Int) + (m : Int) * 1).toNat]?) = fun m => xs[i + m]? := by
    funext m
    have : ((i : Int) + (m : Int) * 1).toNat = i + m := by omega
    rw [this]
  rw [e]
  have := pick_run xs i k
  rw [List.filterMap_map] at this
  have e2 : ((fun x => xs[x]?) ∘ fun x => i + x) = fun m => xs[i + m]? := rfl
  rw [e2] at this
  rw [this]

theorem getItem_tuple_cut {t sl : Addr} {items : Array Value} {vl vu : Value} {lo hi : Option Int} {Q : Value → Shared → Prop} (ht : IsTup s.heap t items) (hs : s.heap.IsSliceOf sl vl vu .none) (pl : IsPart vl lo) (pu : IsPart vu hi)
    (hw : ¬ (sIx items.size 0 lo = 0 ∧ sIx items.size items.size hi = items.size))
    (h : Q (.ref s.heap.objs.size) { s with heap := s.heap.push { cls := .type "tuple", data := .seq ((items.toList.drop (sIx items.size 0 lo)).take (sIx items.size items.size hi - sIx items.size 0 lo)).toArray } })
    (hsz : items.size ≤ sizeLine) : wpAny (model prog w) A (getItem (.ref t) (.ref sl)) Q E s := by
  have htake : sizeOk (.seq ((items.toList.drop (sIx items.size 0 lo)).take (sIx items.size items.size hi - sIx items.size 0 lo)).toArray) := by
    show ((items.toList.drop (sIx items.size 0 lo)).take (sIx items.size items.size hi - sIx items.size 0 lo)).toArray.size ≤ sizeLine
    rw [List.size_toArray, List.length_take, List.length_drop, Array.length_toList]
    omega
  have hj : sIx items.size items.size hi ≤ items.size := sIx_le _ _ (Nat.le_refl _) hi
  obtain ⟨os, hos, hcs, hds⟩ := id hs
  have hTs : s.TypeIs (.ref sl) "slice" := ⟨os, hos, hcs⟩
  unfold getItem
  try with_reducible refine wpAny_holding ?_
  first | refine wpAny_bind (wpAny_pure ?_) | skip
  refine wpAny_bind (wpAny_sequenceKey ht.typeIs (by decide) ?_)
  refine wpAny_bind (wpAny_callSpecial?_slot (name := Str.ofString "__getitem__") ht.typeIs PyProof.Rows.slot_tuple_getitem
    (wpAny_call_entry PyProof.Rows.slot_tuple_getitem ht.typeIs entry_tuple_getitem ?_ (args_tuple_getitem _ _)))
  show wpAny _ _ (Builtin.Tuple.tupleItemsOf (.ref t) >>= _) _ _ s
  refine wpAny_bind (tupleItemsOf_ ht ?_)
  refine wpAny_bind (wpAny_typeOf hTs ?_)
  rw [if_pos (by decide)]
  refine wpAny_bind (sliceApplied_gen hs pl pu ?_)
  have hno : ¬ ((((sIx items.size 0 lo : Nat) : Int) == 0 && (1 : Int) == 1 && (sIx items.size items.size hi - sIx items.size 0 lo) == items.size) = true) := by
    intro q
    rw [Bool.and_eq_true, Bool.and_eq_true] at q
    have q1 : ((sIx items.size 0 lo : Nat) : Int) = 0 := eq_of_beq q.1.1
    have q2 : sIx items.size items.size hi - sIx items.size 0 lo = items.size := eq_of_beq q.2
    exact hw ⟨by omega, by omega⟩
  show wpAny _ _ (if (((sIx items.size 0 lo : Nat) : Int) == 0 && (1 : Int) == 1 && (sIx items.size items.size hi - sIx items.size 0 lo) == items.size) = true then _ else _) _ _ s
  rw [if_neg hno, pick_gen]
  first
    | exact wpAny_bind (m := Builtin.Tuple.tupleExact _) (wpAny_newObj_type (wpAny_pure ⟨_, rfl, wpAny_pure h⟩) htake)
    | exact wpAny_bind (m := Builtin.Tuple.tupleExact _) (wpAny_newObj_type (wpAny_bind (wpAny_pure (wpAny_pure ⟨_, rfl, wpAny_pure h⟩))) htake)
    | exact wpAny_bind (wpAny_bind (m := Builtin.Tuple.tupleExact _) (wpAny_newObj_type (wpAny_pure (wpAny_pure ⟨_, rfl, wpAny_pure h⟩)) htake))
    | exact wpAny_bind (wpAny_bind (m := Builtin.Tuple.tupleExact _) (wpAny_newObj_type (wpAny_pure ⟨_, rfl, wpAny_pure h⟩) htake))
end
end HT

namespace L2
open PySem PySem.Spec PyProof.Rows

/-! ### the parts of a slice -/
abbrev TO := St → Hp → (Option Int → Hp → Prop) → Prop
/-- a slice's part (left out, or an int) -/
def PO (X : Cx) (e : Option Expr) (t : TO) : Prop :=
  ∀ (pins : List (Addr × Obj)) (s : Shared) (σ : St) (H : Hp) (Q : Option Int → Hp → Prop), Inv X pins σ H s → t σ H Q →
    wpAny (model X.prog X.w) X.A (evalPart e X.env) (fun u s' => ∃ o H', Inv X pins σ H' s' ∧ IsPart u o ∧ Q o H') X.xe s
def tNoPart : TO := fun _ H Q => Q none H
def tPart (t : TE) : TO := fun σ H Q => t σ H fun x H1 => ∃ i, x = .int i ∧ Q (some i) H1

theorem intsAre_of {ns : List Int} : ∀ {us : List Value}, Vals (ns.map V.int) us → IntsAre us ns := by
  induction ns with
  | nil => intro us r; rw [List.map_nil] at r; cases r; exact .nil
  | cons n ns ih =>
    intro us r
    rw [List.map_cons] at r
    cases r with
    | cons r1 r2 =>
      obtain ⟨t, e⟩ := r1
      subst e
      exact .cons n t (ih r2)

section
variable {X : Cx} {e : Expr} {te : TE} {lo hi : Option Expr} {tl th : TO} {pos p2 : Pos}

theorem po_none : PO X none tNoPart := by
  intro pins s σ H Q I h
  rw [evalPart_none]
  exact wpAny_pure ⟨none, H, I, .none, h⟩
theorem po_some (h : PE X e te) : PO X (some e) (tPart te) := by
  intro pins s σ H Q I hw
  rw [evalPart_some]
  refine thn (h pins s σ H _ I hw) fun u s1 ⟨x, H1, I1, r1, q1⟩ => ?_
  obtain ⟨i, rfl, q⟩ := q1
  obtain ⟨t, rfl⟩ := r1
  exact ⟨some i, H1, I1, .int i t, q⟩

/-- what a slice of a value is, by values: the slice object stands at sl -/
def SlR (X : Cx) (r : V → Option Int → Option Int → Hp → VK → Prop) : Prop :=
  ∀ (pins : List (Addr × Obj)) (s : Shared) (σ : St) (H : Hp) (x : V) (v vl vu : Value) (lo hi : Option Int) (sl : Addr) (Q : VK), Inv X pins σ H s → RelV x v → s.heap.IsSliceOf sl vl vu .none → IsPart vl lo → IsPart vu hi → r x lo hi H Q →
    ∃ T id, typeLookup (.type T) "__getitem__" = pure (some (.builtin id)) ∧ s.TypeIs v T ∧ wpAny (model X.prog X.w) X.A (getItem v (.ref sl)) (EP X pins σ Q) X.xe s
theorem SlR.or {r r' : V → Option Int → Option Int → Hp → VK → Prop} (h : SlR X r) (h' : SlR X r') : SlR X (fun x lo hi H Q => r x lo hi H Q ∨ r' x lo hi H Q) := by
  intro pins s σ H x v vl vu lo hi sl Q I rx hs pl pu q
  rcases q with q | q
  · exact h pins s σ H x v vl vu lo hi sl Q I rx hs pl pu q
  · exact h' pins s σ H x v vl vu lo hi sl Q I rx hs pl pu q
def tSl (r : V → Option Int → Option Int → Hp → VK → Prop) (te : TE) (tl th : TO) : TE := fun σ H Q => te σ H fun x H1 => tl σ H1 fun l H2 => th σ H2 fun u H3 => r x l u H3 Q
/-- a[lo:hi], any a -/
theorem pe_slice {r : V → Option Int → Option Int → Hp → VK → Prop} (hr : SlR X r) (he : PE X e te) (hl : PO X lo tl) (hu : PO X hi th) : PE X (.Subscript e (.Slice lo hi none p2) pos) (tSl r te tl th) := by
  intro pins s σ H Q I h
  refine Subscript_ (thn (he pins s σ H _ I h) fun v s1 ⟨x, H1, I1, r1, q1⟩ => ?_)
  refine wpAny_Slice (thn (hl pins s1 σ H1 _ I1 q1) fun vl s2 ⟨l, H2, I2, pl, q2⟩ => thn (hu pins s2 σ H2 _ I2 q2) fun vu s3 ⟨u, H3, I3, pu, q3⟩ => ?_)
  rw [evalPart_none]
  refine wpAny_pure ?_
  have I4 : Inv X pins σ H3 { s3 with heap := s3.heap.push { cls := .type "slice", data := .fields #[vl, vu, .none] } } := I3.kept (t' := s3.toks) fun b ob q => Heap.get?_push_of_some _ q
  obtain ⟨T, id, hT, ht, hg⟩ := hr pins { s3 with heap := s3.heap.push { cls := .type "slice", data := .fields #[vl, vu, .none] } } σ H3 x v vl vu l u s3.heap.objs.size Q I4 r1 (Heap.IsSliceOf.new ..) pl pu q3
  show wpAny (model X.prog X.w) X.A (subscriptTail e (.Slice lo hi none p2) v (.ref s3.heap.objs.size)) (EP X pins σ Q) X.xe { s3 with heap := s3.heap.push { cls := .type "slice", data := .fields #[vl, vu, .none] } }
  exact tail_any (ops := [.ref s3.heap.objs.size, v]) ht hT hg (by with_unfolding_all rfl)

/-- the items of xs[lo:hi] -/
def cutV (xs : List V) (lo hi : Option Int) : List V := (xs.drop (HT.sIx xs.length 0 lo)).take (HT.sIx xs.length xs.length hi - HT.sIx xs.length 0 lo)
theorem cutV_length (xs : List V) (lo hi : Option Int) : (cutV xs lo hi).length ≤ xs.length := by
  unfold cutV
  rw [List.length_take, List.length_drop]
  omega
/-- t[lo:hi], not the whole of it (the whole would be t itself) -/
def rSlT (K : PySem.W.Frag) : V → Option Int → Option Int → Hp → VK → Prop := fun x lo hi H Q => ∃ a xs, x = .ref a ∧ SqT K H a xs ∧
  ¬ (HT.sIx xs.length 0 lo = 0 ∧ HT.sIx xs.length xs.length hi = xs.length) ∧ ∀ p, H p = none → Q (.ref p) (upd H p (.tup (cutV xs lo hi)))
theorem sl_tup : SlR X (rSlT X.K) := by
  intro pins s σ H x v vl vu lo hi sl Q I rx hs pl pu h
  obtain ⟨a, xs, rfl, hx, hw, q⟩ := h
  cases rx
  obtain ⟨its, r, ht, hz⟩ := I.tuple hx
  have hlen : its.toArray.size = xs.length := by rw [List.size_toArray]; exact r.length.symm
  refine ⟨"tuple", _, PyProof.Rows.slot_tuple_getitem.lookup, ht.typeIs, ?_⟩
  refine HT.getItem_tuple_cut ht hs pl pu (by rw [hlen]; exact hw) ?_ (by rw [hlen]; exact hz)
  rw [hlen]
  refine ⟨.ref s.heap.objs.size, _, I.laid (t' := s.toks) (o := .tup (cutV xs lo hi)) (fun b ob q => Heap.get?_push_of_some _ q) (Nat.le_refl _) ?_, rfl, q _ (I.hok.fresh (Nat.le_refl _))⟩
  exact ⟨Nat.le_trans (cutV_length xs lo hi) hz, _, (r.drop (HT.sIx xs.length 0 lo)).take (HT.sIx xs.length xs.length hi - HT.sIx xs.length 0 lo), IsTup.new _ _⟩

/-! ### t < u, t + u -/
def rLtT (K : PySem.W.Frag) : R2 := fun x y H Q => ∃ a b ns ms, x = .ref a ∧ y = .ref b ∧ SqT K H a (ns.map V.int) ∧ SqT K H b (ms.map V.int) ∧ Q (.bl (HT.lexLt ns ms)) H
theorem op_ltT (hu : X.A.units < cLine) : OpR X (compareOp .Lt) (rLtT X.K) := by
  intro pins s σ H x y v u Q I rx ry h
  obtain ⟨a, b, ns, ms, rfl, rfl, ha, hb, q⟩ := h
  cases rx
  cases ry
  obtain ⟨its, r1, p1, _⟩ := I.tuple ha
  obtain ⟨its2, r2, p2, _⟩ := I.tuple hb
  have i1 : IntsAre its.toArray.toList ns := intsAre_of r1
  have i2 : IntsAre its2.toArray.toList ms := intsAre_of r2
  exact HT.lt_tupInts p1 p2 i1 i2 hu ⟨.bl (HT.lexLt ns ms), H, I, rfl, q⟩
/-- t + u, t not empty: u empty gives t itself -/
def rCatT (K : PySem.W.Frag) : R2 := fun x y H Q => ∃ a b xs ys, x = .ref a ∧ y = .ref b ∧ SqT K H a xs ∧ SqT K H b ys ∧ xs ≠ [] ∧ xs.length + ys.length ≤ sizeLine ∧
  (ys = [] → Q (.ref a) H) ∧ (ys ≠ [] → ∀ p, H p = none → Q (.ref p) (upd H p (.tup (xs ++ ys))))
theorem Vals.nil_iff {xs : List V} {us : List Value} (r : Vals xs us) : us = [] ↔ xs = [] := by
  cases r with
  | nil => simp
  | cons _ _ => simp
theorem op_catT : OpR X (binaryOp .Add) (rCatT X.K) := by
  intro pins s σ H x y v u Q I rx ry h
  obtain ⟨a, b, xs, ys, rfl, rfl, ha, hb, hx, hz, q1, q2⟩ := h
  cases rx
  cases ry
  obtain ⟨its, r1, p1, _⟩ := I.tuple ha
  obtain ⟨its2, r2, p2, _⟩ := I.tuple hb
  refine HT.cat_tup p1 p2 (fun z => hx (r1.nil_iff.mp z)) (fun z => ⟨.ref a, H, I, rfl, q1 (r2.nil_iff.mp z)⟩) (fun z => ?_) (by rw [← r1.length, ← r2.length]; exact hz)
  refine ⟨.ref s.heap.objs.size, _, I.laid (t' := s.toks) (o := .tup (xs ++ ys)) (fun b ob q => Heap.get?_push_of_some _ q) (Nat.le_refl _) ?_, rfl, q2 (fun w => z (r2.nil_iff.mpr w)) _ (I.hok.fresh (Nat.le_refl _))⟩
  exact ⟨by rw [List.length_append]; exact hz, _, r1.append r2, IsTup.new _ _⟩
/-- tuple(t) -/
theorem call_tupleT : CallR X (.type "tuple") (fun xs H Q => ∃ a ys, xs = [.ref a] ∧ SqT X.K H a ys ∧ Q (.ref a) H) := by
  intro pins s σ H xs us Q I r h
  obtain ⟨a, ys, rfl, ha, q⟩ := h
  obtain ⟨u, rfl, ru⟩ := vals1 r
  cases ru
  obtain ⟨its, _, p1, _⟩ := I.tuple ha
  exact call_tuple_same (items := its.toArray) p1 ⟨.ref a, H, I, rfl, q⟩
end
end L2

namespace L2
open PySem PySem.Spec PyProof.Rows

/-! ### places -/
/-- the place that an index of any sign means -/
def ixN (n : Nat) (i : Int) : Option Nat := if 0 ≤ i then (if i < n then some i.toNat else none) else if -(n : Int) ≤ i then some (i + n).toNat else none
def atI {α : Type} (xs : List α) (i : Int) : Option α := (ixN xs.length i).bind fun j => xs[j]?
theorem ixN_seq {n : Nat} {i : Int} {j : Nat} (h : ixN n i = some j) : seqIndex? i n = some j ∧ j < n ∧ -(n : Int) ≤ i ∧ i < n := by
  unfold ixN at h
  by_cases h0 : 0 ≤ i
  · rw [if_pos h0] at h
    by_cases h1 : i < n
    · rw [if_pos h1] at h
      have e : i.toNat = j := Option.some.inj h
      exact ⟨by rw [seqIndex_of h0 h1, e], by omega, by omega, h1⟩
    · rw [if_neg h1] at h; cases h
  · rw [if_neg h0] at h
    by_cases h1 : -(n : Int) ≤ i
    · rw [if_pos h1] at h
      have e : (i + n).toNat = j := Option.some.inj h
      exact ⟨by rw [seqIndex_neg (by omega) h1, e], by omega, h1, by omega⟩
    · rw [if_neg h1] at h; cases h
theorem atI_get {α : Type} {xs : List α} {i : Int} {v : α} (h : atI xs i = some v) : ∃ j, seqIndex? i xs.length = some j ∧ xs[j]? = some v ∧ j < xs.length ∧ -(xs.length : Int) ≤ i ∧ i < xs.length := by
  unfold atI at h
  cases e : ixN xs.length i with
  | none => rw [e] at h; cases h
  | some j =>
    rw [e] at h
    obtain ⟨h1, h2, h3, h4⟩ := ixN_seq e
    exact ⟨j, h1, h, h2, h3, h4⟩
theorem atI_nat {α : Type} {xs : List α} {j : Nat} {v : α} (h : xs[j]? = some v) : atI xs (j : Int) = some v := by
  have hj : j < xs.length := (List.getElem?_eq_some_iff.mp h).1
  have e : ixN xs.length (j : Int) = some j := by
    unfold ixN
    rw [if_pos (by omega), if_pos (by omega)]; simp
  unfold atI; rw [e]; exact h
theorem atI_last {α : Type} (xs : List α) (v : α) : atI (xs ++ [v]) (-1) = some v := by
  have hl : (xs ++ [v]).length = xs.length + 1 := by simp
  have e : ixN (xs ++ [v]).length (-1) = some xs.length := by
    unfold ixN
    rw [hl, if_neg (by decide), if_pos (by omega)]
    congr 1
    omega
  unfold atI
  rw [e]
  show (xs ++ [v])[xs.length]? = some v
  simp

/-! ### what may be subscripted -/
/-- what stands as an index of a plain subscript -/
def PlainIx (b : Expr) : Prop := ∀ o i, subscripted b false o i = operate [o, i] (getItem o i)
/-- a subscript by values -/
def IxR (X : Cx) (r : R2) : Prop :=
  ∀ (value slice : Expr) (pins : List (Addr × Obj)) (s : Shared) (σ : St) (H : Hp) (x y : V) (v u : Value) (Q : VK), Inv X pins σ H s → RelV x v → RelV y u → r x y H Q →
    subscripted slice false v u = operate [v, u] (getItem v u) → wpAny (model X.prog X.w) X.A (subscriptTail value slice v u) (EP X pins σ Q) X.xe s
/-- a call of a builtin's method by values: the receiver, the arguments -/
def MtR (X : Cx) (id : String) (r : V → List V → Hp → VK → Prop) : Prop :=
  ∀ (pins : List (Addr × Obj)) (s : Shared) (σ : St) (H : Hp) (x : V) (xs : List V) (v : Value) (us : List Value) (Q : VK), Inv X pins σ H s → RelV x v → Vals xs us → r x xs H Q →
    wpAny (model X.prog X.w) X.A (call (.builtin id) (v :: us)) (EP X pins σ Q) X.xe s
section
variable {X : Cx} {a b : Expr} {ta tb : TE} {pos : Pos}
theorem IxR.or {r r' : R2} (h : IxR X r) (h' : IxR X r') : IxR X (fun x y H Q => r x y H Q ∨ r' x y H Q) := by
  intro value slice pins s σ H x y v u Q I rx ry q hs
  rcases q with q | q
  · exact h value slice pins s σ H x y v u Q I rx ry q hs
  · exact h' value slice pins s σ H x y v u Q I rx ry q hs
theorem MtR.or {id : String} {r r' : V → List V → Hp → VK → Prop} (h : MtR X id r) (h' : MtR X id r') : MtR X id (fun x xs H Q => r x xs H Q ∨ r' x xs H Q) := by
  intro pins s σ H x xs v us Q I rx rs q
  rcases q with q | q
  · exact h pins s σ H x xs v us Q I rx rs q
  · exact h' pins s σ H x xs v us Q I rx rs q
/-- a[b] -/
theorem pe_ix {r : R2} (hr : IxR X r) (ha : PE X a ta) (hb : PE X b tb) (hs : PlainIx b) : PE X (.Subscript a b pos) (tOp r ta tb) := by
  intro pins s σ H Q I h
  exact Subscript_ (binT ha hb I h fun v u s2 x y H2 I2 rx ry q => hr a b pins s2 σ H2 x y v u Q I2 rx ry q (hs _ _))

def rIxL (K : PySem.W.Frag) : R2 := fun x y H Q => ∃ p xs i v, x = .ref p ∧ y = .int i ∧ SqL K H p xs ∧ atI xs i = some v ∧ Q v H
def rIxT (K : PySem.W.Frag) : R2 := fun x y H Q => ∃ p xs i v, x = .ref p ∧ y = .int i ∧ SqT K H p xs ∧ atI xs i = some v ∧ Q v H
def rIxS : R2 := fun x y H Q => ∃ z i c, x = .str z ∧ y = .int i ∧ z.length ≤ sizeLine ∧ atI z.cps.toList i = some c ∧ Q (.str ⟨#[c]⟩) H
theorem ix_list : IxR X (rIxL X.K) := by
  intro value slice pins s σ H x y v u Q I rx ry h hs
  obtain ⟨p, xs, i, z, rfl, rfl, hq, he, q⟩ := h
  cases rx
  obtain ⟨t, rfl⟩ := ry
  obtain ⟨its, r, pl, hz⟩ := I.list hq
  obtain ⟨j, h1, h2, h3, h4, h5⟩ := atI_get he
  obtain ⟨w, ew, rw'⟩ := r.get h2
  have hl := r.length
  have hn := line63
  have fin : EP X pins σ Q w s := ⟨z, H, I, rw', q⟩
  by_cases h0 : 0 ≤ i
  · have hj : i.toNat = j := by
      rw [seqIndex_of h0 h5] at h1
      exact Option.some.inj h1
    exact item_listR pl.isList h0 (by omega) (by rw [hj]; simpa using ew) fin hs
  · have hj : (i + (its.toArray.size : Int)).toNat = j := by
      rw [seqIndex_neg (by omega) h4] at h1
      rw [List.size_toArray, ← hl]
      exact Option.some.inj h1
    exact subscriptTail_builtinR (x := w) pl.isList.typeIs slot_list_getitem.lookup
      (wpAny_getItem_list_neg (Q := fun r s' => r = w ∧ EP X pins σ Q r s') pl.isList (by omega) (by rw [List.size_toArray] <;> omega) (by omega) (by rw [hj]; simpa using ew) ⟨rfl, fin⟩) hs
theorem ix_tup : IxR X (rIxT X.K) := by
  intro value slice pins s σ H x y v u Q I rx ry h hs
  obtain ⟨p, xs, i, z, rfl, rfl, hq, he, q⟩ := h
  cases rx
  obtain ⟨t, rfl⟩ := ry
  obtain ⟨its, r, pl, hz⟩ := I.tuple hq
  obtain ⟨j, h1, h2, h3, h4, h5⟩ := atI_get he
  obtain ⟨w, ew, rw'⟩ := r.get h2
  have hl := r.length
  have hn := line63
  have fin : EP X pins σ Q w s := ⟨z, H, I, rw', q⟩
  exact subscriptTail_builtinR (x := w) pl.typeIs slot_tuple_getitem.lookup
    (getItem_tuple (j := j) (Q := fun r s' => r = w ∧ EP X pins σ Q r s') pl (by omega) (by omega) (by rw [List.size_toArray, ← hl]; exact h1) (by simpa using ew) ⟨rfl, fin⟩) hs
theorem ix_str : IxR X rIxS := by
  intro value slice pins s σ H x y v u Q I rx ry h hs
  obtain ⟨z, i, c, rfl, rfl, hz, he, q⟩ := h
  obtain ⟨t, rfl⟩ := rx
  obtain ⟨t', rfl⟩ := ry
  obtain ⟨j, h1, h2, h3, h4, h5⟩ := atI_get he
  have hl : z.cps.toList.length = z.length := by simp [Str.length]
  rw [hl] at h1 h4 h5
  have hn := line63
  exact tail_any (typeIs_str s z t) slot_str_getitem.lookup (getItem_str (c := c) (by
    have e1 : decide (i < -(2 ^ 63 : Int)) = false := decide_eq_false (by omega)
    have e2 : decide (i ≥ 2 ^ 63) = false := decide_eq_false (by omega)
    rw [e1, e2, Bool.or_false]) (by rw [h1]; simpa using h2) ⟨.str ⟨#[c]⟩, H, I.tok _, ⟨_, rfl⟩, q⟩) hs
/-- list, tuple or str -/
def rIx (K : PySem.W.Frag) : R2 := fun x y H Q => rIxL K x y H Q ∨ rIxT K x y H Q ∨ rIxS x y H Q
theorem ix_seq : IxR X (rIx X.K) := ix_list.or (ix_tup.or ix_str)

/-! ### xs[i] = v, any sign -/
/-- the list's object behind a store -/
theorem mapSeq_set (its : List Value) (n j : Nat) (u : Value) : Obj.mapSeq (·.setIfInBounds j u) { cls := .type "list", data := .seq its.toArray n } = { cls := .type "list", data := .seq (its.set j u).toArray n } := by
  simp [Obj.mapSeq]
theorem Inv.lst {pins : List (Addr × Obj)} {σ : St} {H : Hp} {s : Shared} {p : Addr} {xs : List V} (I : Inv X pins σ H s) (h : H p = some (.lst xs)) :
    ∃ (its : List Value) (n : Nat), Vals xs its ∧ s.heap.get? p = some { cls := .type "list", data := .seq its.toArray n } ∧ xs.length ≤ sizeLine := by
  obtain ⟨z, its, n, r, e⟩ := I.hok p _ h
  exact ⟨its, n, r, e, z⟩
/-- the list at p is written by an update of its object -/
theorem Inv.lstUpd {pins : List (Addr × Obj)} {σ : St} {H : Hp} {s : Shared} {p : Addr} {xs ys : List V} {its its' : List Value} {n n' : Nat} {f : Obj → Obj} (I : Inv X pins σ H s) (h : H p = some (.lst xs))
    (ho : s.heap.get? p = some { cls := .type "list", data := .seq its.toArray n }) (hf : f { cls := .type "list", data := .seq its.toArray n } = { cls := .type "list", data := .seq its'.toArray n' }) (r : Vals ys its') (hz : ys.length ≤ sizeLine) (t : Nat) :
    Inv X pins σ (upd H p (.lst ys)) { s with heap := s.heap.update p f, toks := t } := by
  have e : (s.heap.update p f).get? p = some { cls := .type "list", data := .seq its'.toArray n' } := by
    rw [Heap.get?_update_self f ho (by rw [hf] <;> rfl), hf]
  refine I.write (x := p) (e := p) (by rw [h]; trivial) (.inl rfl) (fun b u hb q => (Heap.get?_update_other _ _ (Ne.symm hb)).trans q) ⟨_, e⟩ ?_
  exact ⟨hz, its', n', r, e⟩
def rSetL : V → V → V → Hp → (Hp → Prop) → Prop := fun o i v H Q => ∃ p xs k j, o = .ref p ∧ i = .int k ∧ H p = some (.lst xs) ∧ ixN xs.length k = some j ∧ Q (upd H p (.lst (xs.set j v)))
theorem set_list : PSet X rSetL := by
  intro pins s σ H o i v ov iv u Q I ro ri rv h
  obtain ⟨p, xs, k, j, rfl, rfl, hp, hj, q⟩ := h
  cases ro
  obtain ⟨t, rfl⟩ := ri
  obtain ⟨its, n, r, ho, hz⟩ := I.lst hp
  obtain ⟨h1, h2, h3, h4⟩ := ixN_seq hj
  have hl := r.length
  have hn := line63
  have I' : Inv X pins σ (upd H p (.lst (xs.set j v))) { s with heap := s.heap.update p (Obj.mapSeq (·.setIfInBounds j u)) } :=
    I.lstUpd hp ho (mapSeq_set its n j u) (r.set rv j) (by rw [List.length_set]; exact hz) s.toks
  by_cases h0 : 0 ≤ k
  · have hk : k.toNat = j := by
      rw [seqIndex_of h0 h4] at h1
      exact Option.some.inj h1
    exact PySem.W.ki_setAt ho h0 (by omega) (by rw [List.size_toArray, ← hl]; exact h4) (by rw [hk]; exact ⟨_, I', q⟩)
  · have hk : (k + (its.toArray.size : Int)).toNat = j := by
      rw [seqIndex_neg (by omega) h3] at h1
      rw [List.size_toArray, ← hl]
      exact Option.some.inj h1
    exact PySem.W.ki_setBack ho (by omega) (by rw [List.size_toArray, ← hl]; exact h3) (by omega) (by rw [hk]; exact ⟨_, I', q⟩)

/-! ### slices -/
theorem slice_bounds (lo hi : Option Int) (n : Nat) : (sliceBounds lo hi none n).1 = ((HT.sIx n 0 lo : Nat) : Int) ∧ (sliceBounds lo hi none n).2.1 = ((HT.sIx n n hi : Nat) : Int) ∧ (sliceBounds lo hi none n).2.2 = 1 := by
  refine ⟨?_, ?_, rfl⟩
  · cases lo with
    | none => simp [sliceBounds, HT.sIx]
    | some i =>
      simp only [sliceBounds, HT.sIx, Option.getD_none, show (1 : Int) > 0 by decide, if_true]
      by_cases h : i < 0
      · simp only [h, if_true] <;> omega
      · simp only [h, if_false] <;> omega
  · cases hi with
    | none => simp [sliceBounds, HT.sIx]
    | some i =>
      simp only [sliceBounds, HT.sIx, Option.getD_none, show (1 : Int) > 0 by decide, if_true]
      by_cases h : i < 0
      · simp only [h, if_true] <;> omega
      · simp only [h, if_false] <;> omega
theorem slicePick_cut (its : List Value) (lo hi : Option Int) : slicePick its.toArray lo hi none = ((its.drop (HT.sIx its.length 0 lo)).take (HT.sIx its.length its.length hi - HT.sIx its.length 0 lo)).toArray := by
  obtain ⟨h1, h2, h3⟩ := slice_bounds lo hi its.toArray.size
  unfold slicePick
  rw [h1, h2, h3]
  simp only [sliceRange_one, pick_run, List.size_toArray] <;> rfl
/-- xs[lo:hi] of a list: a new list -/
def rSlL (K : PySem.W.Frag) : V → Option Int → Option Int → Hp → VK → Prop := fun x lo hi H Q => ∃ a xs, x = .ref a ∧ SqL K H a xs ∧ ∀ p, H p = none → Q (.ref p) (upd H p (.lst (cutV xs lo hi)))
theorem sl_list : SlR X (rSlL X.K) := by
  intro pins s σ H x v vl vu lo hi sl Q I rx hs pl pu h
  obtain ⟨a, xs, rfl, hx, q⟩ := h
  cases rx
  obtain ⟨its, r, ht, hz⟩ := I.list hx
  have hlen := r.length
  refine ⟨"list", _, slot_list_getitem.lookup, ht.isList.typeIs, ?_⟩
  refine wpAny_getItem_list_slice ht.isList hs pl pu .none (by simp) ?_ (by rw [List.size_toArray] <;> omega)
  rw [slicePick_cut, ← hlen]
  refine ⟨.ref s.heap.objs.size, _, I.laid (t' := s.toks) (o := .lst (cutV xs lo hi)) (fun b ob q => Heap.get?_push_of_some _ q) (Nat.le_refl _) ?_, rfl, q _ (I.hok.fresh (Nat.le_refl _))⟩
  exact ⟨Nat.le_trans (cutV_length xs lo hi) hz, _, 0, (r.drop (HT.sIx xs.length 0 lo)).take (HT.sIx xs.length xs.length hi - HT.sIx xs.length 0 lo), Heap.get?_push_size _ rfl⟩

/-! ### in, not in: flat items -/
def flatV : V → Bool
  | .non => true
  | .bl _ => true
  | .int _ => true
  | .str _ => true
  | _ => false
/-- == of flat values -/
def eqV : V → V → Bool
  | .non, .non => true
  | .bl a, .bl b => a == b
  | .bl a, .int b => (if a then 1 else 0) == b
  | .int a, .bl b => a == (if b then 1 else 0)
  | .int a, .int b => a == b
  | .str a, .str b => a == b
  | _, _ => false
theorem eqAt_V {A : Around} {s : Shared} {y x : V} {u v : Value} (ry : RelV y u) (rx : RelV x v) (fy : flatV y = true) (fx : flatV x = true) : SeqAt.EqAt A s u v (eqV y x) := by
  cases y with
  | non =>
    cases ry
    cases x with
    | non => cases rx; exact SeqAt.EqAt.same _
    | bl b => cases rx; exact SeqAt.EqAt.none_bool b
    | int b => obtain ⟨t, rfl⟩ := rx; exact SeqAt.EqAt.none_int b t
    | str b => obtain ⟨t, rfl⟩ := rx; exact SeqAt.EqAt.none_str b t
    | _ => exact absurd (show false = true from fx) Bool.false_ne_true
  | bl a =>
    cases ry
    cases x with
    | non => cases rx; exact SeqAt.EqAt.bool_none a
    | bl b => cases rx; exact SeqAt.EqAt.bool_bool a b
    | int b => obtain ⟨t, rfl⟩ := rx; exact SeqAt.EqAt.bool_int a b t
    | str b => obtain ⟨t, rfl⟩ := rx; exact SeqAt.EqAt.bool_str a b t
    | _ => exact absurd (show false = true from fx) Bool.false_ne_true
  | int a =>
    obtain ⟨t', rfl⟩ := ry
    cases x with
    | non => cases rx; exact SeqAt.EqAt.int_none a t'
    | bl b => cases rx; exact SeqAt.EqAt.int_bool a t' b
    | int b => obtain ⟨t, rfl⟩ := rx; exact SeqAt.EqAt.int_int a t' b t
    | str b => obtain ⟨t, rfl⟩ := rx; exact SeqAt.EqAt.int_str a t' b t
    | _ => exact absurd (show false = true from fx) Bool.false_ne_true
  | str a =>
    obtain ⟨t', rfl⟩ := ry
    cases x with
    | non => cases rx; exact SeqAt.EqAt.str_none a t'
    | bl b => cases rx; exact SeqAt.EqAt.str_bool a t' b
    | int b => obtain ⟨t, rfl⟩ := rx; exact SeqAt.EqAt.str_int a t' b t
    | str b => obtain ⟨t, rfl⟩ := rx; exact SeqAt.EqAt.str_str a t' b t
    | _ => exact absurd (show false = true from fx) Bool.false_ne_true
  | _ => exact absurd (show false = true from fy) Bool.false_ne_true
/-- the items' answers, read off the values (a value's own answer does not lean on its token) -/
def eqU (x : V) (u : Value) : Bool := match u with
  | .none => eqV .non x
  | .bool b => eqV (.bl b) x
  | .int i _ => eqV (.int i) x
  | .str z _ => eqV (.str z) x
  | _ => false
theorem eqU_of {x y : V} {u : Value} (r : RelV y u) (f : flatV y = true) : eqU x u = eqV y x := by
  cases y with
  | non => cases r; rfl
  | bl b => cases r; rfl
  | int i => obtain ⟨t, rfl⟩ := r; rfl
  | str z => obtain ⟨t, rfl⟩ := r; rfl
  | _ => exact absurd (show false = true from f) Bool.false_ne_true
theorem any_eqU {x : V} : ∀ {xs : List V} {us : List Value}, Vals xs us → xs.all flatV = true → us.any (eqU x) = xs.any fun y => eqV y x
  | _, _, .nil, _ => rfl
  | y :: xs, u :: us, .cons r t, f => by
    rw [List.all_cons, Bool.and_eq_true] at f
    rw [List.any_cons, List.any_cons, eqU_of r f.1, any_eqU t f.2]
theorem mem_eqAt {A : Around} {s : Shared} {x : V} {v : Value} (rx : RelV x v) (fx : flatV x = true) : ∀ {xs : List V} {us : List Value}, Vals xs us → xs.all flatV = true → ∀ u ∈ us, SeqAt.EqAt A s u v (eqU x u)
  | _, _, .nil, _ => fun u hu => by cases hu
  | y :: xs, u :: us, .cons r t, f => fun u' hu => by
    rw [List.all_cons, Bool.and_eq_true] at f
    rcases List.mem_cons.mp hu with rfl | hu
    · rw [eqU_of r f.1]; exact eqAt_V r rx f.1 fx
    · exact mem_eqAt rx fx t f.2 u' hu
def inV (x : V) (xs : List V) : Bool := xs.any fun y => eqV y x
/-- x in a list or tuple of flat items -/
def rIn (K : PySem.W.Frag) (neg : Bool) : R2 := fun x y H Q => ∃ p xs, y = .ref p ∧ (SqL K H p xs ∨ SqT K H p xs) ∧ flatV x = true ∧ xs.all flatV = true ∧ Q (.bl (if neg then !inV x xs else inV x xs)) H
theorem op_in_seq : OpR X (compareOp .In) (rIn X.K false) := by
  intro pins s σ H x y v u Q I rx ry h
  obtain ⟨p, xs, rfl, hq, fx, fs, q⟩ := h
  cases ry
  rcases hq with hq | hq
  · obtain ⟨its, r, pl, hz⟩ := I.list hq
    refine SeqAt.in_listAt (eqU x) pl.isList (fun w hw => mem_eqAt rx fx r fs w (by simpa using hw)) ⟨.bl _, H, I, rfl, ?_⟩
    rw [show its.toArray.any (eqU x) = its.any (eqU x) by simp, any_eqU r fs]
    exact q
  · obtain ⟨its, r, pl, hz⟩ := I.tuple hq
    refine SeqAt.in_tupleAt (eqU x) pl (fun w hw => mem_eqAt rx fx r fs w (by simpa using hw)) ⟨.bl _, H, I, rfl, ?_⟩
    rw [show its.toArray.any (eqU x) = its.any (eqU x) by simp, any_eqU r fs]
    exact q
theorem op_notIn_seq : OpR X (compareOp .NotIn) (rIn X.K true) := by
  intro pins s σ H x y v u Q I rx ry h
  obtain ⟨p, xs, rfl, hq, fx, fs, q⟩ := h
  cases ry
  rcases hq with hq | hq
  · obtain ⟨its, r, pl, hz⟩ := I.list hq
    refine SeqAt.notIn_listAt (eqU x) pl.isList (fun w hw => mem_eqAt rx fx r fs w (by simpa using hw)) ⟨.bl _, H, I, rfl, ?_⟩
    rw [show its.toArray.any (eqU x) = its.any (eqU x) by simp, any_eqU r fs]
    exact q
  · obtain ⟨its, r, pl, hz⟩ := I.tuple hq
    refine SeqAt.notIn_tupleAt (eqU x) pl (fun w hw => mem_eqAt rx fx r fs w (by simpa using hw)) ⟨.bl _, H, I, rfl, ?_⟩
    rw [show its.toArray.any (eqU x) = its.any (eqU x) by simp, any_eqU r fs]
    exact q
theorem op_notIn_str : OpR X (compareOp .NotIn) (fun x y H Q => ∃ i j, x = .str i ∧ y = .str j ∧ Q (.bl (!(!(Builtin.Str.occurrences j i 0 j.length 1).isEmpty))) H) := by
  intro pins s σ H x y v u Q I rx ry h
  obtain ⟨i, j, rfl, rfl, q⟩ := h
  obtain ⟨t, rfl⟩ := rx
  obtain ⟨t', rfl⟩ := ry
  exact notIn_str ⟨.bl _, H, I, rfl, q⟩

/-! ### len, list(x), tuple(x) of any list or tuple that is read -/
theorem call_len_seq : CallR X (.builtin "len") (fun xs H Q => ∃ p ys, xs = [.ref p] ∧ (SqL X.K H p ys ∨ SqT X.K H p ys) ∧ Q (.int ys.length) H) := by
  intro pins s σ H xs us Q I r h
  obtain ⟨p, ys, rfl, hq, q⟩ := h
  obtain ⟨u, rfl, rx⟩ := vals1 r
  cases rx
  have hn := line63
  rcases hq with hq | hq
  · obtain ⟨its, r', pl, hz⟩ := I.list hq
    have hlen := r'.length
    exact Calls.call_len_list pl.isList (by simp only [List.size_toArray] <;> omega) ⟨.int ys.length, H, I.tok _, ⟨s.toks + 1, by rw [List.size_toArray, hlen]⟩, q⟩
  · obtain ⟨its, r', pl, hz⟩ := I.tuple hq
    have hlen := r'.length
    exact len_tuple pl (by simp only [List.size_toArray] <;> omega) ⟨.int ys.length, H, I.tok _, ⟨s.toks + 1, by rw [List.size_toArray, hlen]⟩, q⟩
theorem call_len_str : CallR X (.builtin "len") (fun xs H Q => ∃ z, xs = [.str z] ∧ z.length ≤ sizeLine ∧ Q (.int z.length) H) := by
  intro pins s σ H xs us Q I r h
  obtain ⟨z, rfl, hz, q⟩ := h
  obtain ⟨u, rfl, t, rfl⟩ := vals1 r
  have hn := line63
  exact len_str (by omega) ⟨.int z.length, H, I.tok _, ⟨_, rfl⟩, q⟩
theorem CallR.or {f : Value} {r r' : List V → Hp → VK → Prop} (h : CallR X f r) (h' : CallR X f r') : CallR X f (fun xs H Q => r xs H Q ∨ r' xs H Q) := by
  intro pins s σ H xs us Q I rs q
  rcases q with q | q
  · exact h pins s σ H xs us Q I rs q
  · exact h' pins s σ H xs us Q I rs q
theorem call_list_of : CallR X (.type "list") (fun xs H Q => ∃ p ys, xs = [.ref p] ∧ (SqL X.K H p ys ∨ SqT X.K H p ys) ∧ ∀ l, H l = none → Q (.ref l) (upd H l (.lst ys))) := by
  intro pins s σ H xs us Q I r h
  obtain ⟨p, ys, rfl, hq, q⟩ := h
  obtain ⟨u, rfl, rx⟩ := vals1 r
  cases rx
  have fin : ∀ (its : List Value), Vals ys its → ys.length ≤ sizeLine → ∀ (h' : Heap) (c' : Nat), (∀ b o', s.heap.get? b = some o' → h'.get? b = some o') →
      h'.get? s.heap.objs.size = some { cls := .type "list", dict := none, data := .seq its.toArray c', slots := #[] } → EP X pins σ Q (.ref s.heap.objs.size) { s with heap := h' } := fun its r' hz h' c' kp e =>
    ⟨.ref s.heap.objs.size, _, I.laid (t' := s.toks) kp (Nat.le_refl _) (show ObjOk X.prog X.w _ h' _ (.lst ys) from ⟨hz, its, c', r', e⟩), rfl, q _ (I.hok.fresh (Nat.le_refl _))⟩
  rcases hq with hq | hq
  · obtain ⟨its, r', pl, hz⟩ := I.list hq
    have hlen := r'.length
    obtain ⟨o, ho, hc, n, hd⟩ := pl.isList
    exact call_list_seq p (.inl rfl) ho hc hd (fun h' c' kp e => fin its r' hz h' c' kp e) (by simp only [List.size_toArray] <;> omega)
  · obtain ⟨its, r', pl, hz⟩ := I.tuple hq
    have hlen := r'.length
    obtain ⟨o, ho, hc, n, hd⟩ := pl
    exact call_list_seq p (.inr rfl) ho hc hd (fun h' c' kp e => fin its r' hz h' c' kp e) (by simp only [List.size_toArray] <;> omega)
theorem call_tuple_of : CallR X (.type "tuple") (fun xs H Q => ∃ p ys, xs = [.ref p] ∧ ((SqL X.K H p ys ∧ ∀ l, H l = none → Q (.ref l) (upd H l (.tup ys))) ∨ (SqT X.K H p ys ∧ Q (.ref p) H))) := by
  intro pins s σ H xs us Q I r h
  obtain ⟨p, ys, rfl, h⟩ := h
  obtain ⟨u, rfl, rx⟩ := vals1 r
  cases rx
  rcases h with ⟨hq, q⟩ | ⟨hq, q⟩
  · obtain ⟨its, r', pl, hz⟩ := I.list hq
    have hlen := r'.length
    refine call_tuple_list pl.isList (fun h' kp => ?_) (by simp only [List.size_toArray] <;> omega)
    have I1 : Inv X pins σ H { s with heap := h' } := I.kept (t' := s.toks) kp
    have I2 : Inv X pins σ (upd H h'.objs.size (.tup ys)) { s with heap := h'.push { cls := .type "tuple", data := .seq its.toArray } } :=
      I1.laid (t' := s.toks) (fun b o e => Heap.get?_push_of_some _ e) (Nat.le_refl _) (show ObjOk X.prog X.w _ _ _ (.tup ys) from ⟨hz, its, r', IsTup.new _ _⟩)
    exact ⟨.ref h'.objs.size, _, I2, rfl, q _ (I1.hok.fresh (Nat.le_refl _))⟩
  · obtain ⟨its, r', pl, hz⟩ := I.tuple hq
    exact call_tuple_same pl ⟨.ref p, H, I, rfl, q⟩

/-! ### the call of a builtin's method: o.m(..) -/
/-- the value is of that builtin type -/
def tyV (K : PySem.W.Frag) (T : String) (x : V) (H : Hp) : Prop := match x with
  | .str _ => T = "str"
  | .int _ => T = "int"
  | .ref p => (T = "list" ∧ ∃ xs, SqL K H p xs) ∨ (T = "tuple" ∧ ∃ o, K.lookup p = some o ∧ o.cls = .type "tuple" ∧ o.dict = none) ∨
      (T = "dict" ∧ ((∃ kvs, H p = some (.dK kvs)) ∨ ∃ kvs, H p = some (.dT kvs))) ∨ (T = "set" ∧ ∃ S n, H p = some (.set S n))
  | _ => False
theorem tyV_is {pins : List (Addr × Obj)} {σ : St} {H : Hp} {s : Shared} {T : String} {x : V} {v : Value} (I : Inv X pins σ H s) (r : RelV x v) (ty : tyV X.K T x H) :
    s.TypeIs v T ∧ ∀ a, v = .ref a → ∃ ob, s.heap.get? a = some ob ∧ ob.dict = none := by
  cases x with
  | str z =>
    obtain ⟨t, rfl⟩ := r
    cases (show T = "str" from ty)
    exact ⟨typeIs_str s z t, fun _ e => nomatch e⟩
  | int i =>
    obtain ⟨t, rfl⟩ := r
    cases (show T = "int" from ty)
    exact ⟨typeIs_int s i t, fun _ e => nomatch e⟩
  | ref p =>
    cases r
    rcases ty with ⟨rfl, xs, hq⟩ | ⟨rfl, o, hk, hc, hd⟩ | ⟨rfl, hk⟩ | ⟨rfl, S, n, hk⟩
    · obtain ⟨its, _, pl, _⟩ := I.list hq
      refine ⟨pl.isList.typeIs, fun a e => ?_⟩
      cases e
      obtain ⟨o, n, e, c, hd, _⟩ := pl
      exact ⟨o, e, hd⟩
    · refine ⟨⟨o, I.kIn p o hk, hc⟩, fun a e => ?_⟩
      cases e
      exact ⟨o, I.kIn _ o hk, hd⟩
    · have z : ∃ o, s.heap.get? p = some o ∧ o.ExactDict := by
        rcases hk with ⟨kvs, hk⟩ | ⟨kvs, hk⟩
        · obtain ⟨_, _, _, _, o, _, _, e, ex, _⟩ := I.hok p _ hk
          exact ⟨o, e, ex⟩
        · obtain ⟨_, _, _, _, o, _, _, e, ex, _⟩ := I.hok p _ hk
          exact ⟨o, e, ex⟩
      obtain ⟨o, e, ex⟩ := z
      refine ⟨⟨o, e, ex.1⟩, fun a e2 => ?_⟩
      cases e2
      exact ⟨o, e, ex.2.1⟩
    · obtain ⟨o, _, _, _, e, ex, _⟩ := I.hok p _ hk
      refine ⟨⟨o, e, ex.1⟩, fun a e2 => ?_⟩
      cases e2
      exact ⟨o, e, ex.2.1⟩
  | _ => exact False.elim ty
def tBM0 (K : PySem.W.Frag) (T : String) (r : V → List V → Hp → VK → Prop) (to : TE) : TE := fun σ H Q => to σ H fun x H1 => tyV K T x H1 ∧ r x [] H1 Q
def tBM (K : PySem.W.Frag) (T : String) (r : V → List V → Hp → VK → Prop) (to : TE) (t : TA) : TE := fun σ H Q => to σ H fun x H1 => tyV K T x H1 ∧ t σ H1 fun xs H2 => r x xs H2 Q
variable {o e : Expr} {es : List Expr} {to : TE} {t : TA} {name : Str} {apos cpos : Pos} {T id : String} {r : V → List V → Hp → VK → Prop}
theorem pe_bm0 (pa : PlainAttrs T) (slot : Slot T name id) (hty : typeOf (.builtin id) = pure (.type "method_descriptor")) (hm : MtR X id r) (ho : PE X o to)
    (hbase : attributeBase o name X.env (eval o X.env) = eval o X.env := by rfl) (hline : (apos.endLine == cpos.line) = true := by rfl) : PE X (.Call (.Attribute o name apos) [] [] cpos) (tBM0 X.K T r to) := by
  intro pins s σ H Q I h
  refine wpAny_Call_method0_late hbase hline (thn (ho pins s σ H _ I h) fun v s1 ⟨x, H1, I1, r1, ty, q1⟩ => ?_)
  obtain ⟨h1, h2⟩ := tyV_is I1 r1 ty
  exact ⟨T, id, pa, slot, hty, h1, h2, Calls.callWith_builtin rfl (PySem.evalArgs_none (hm pins s1 σ H1 x [] v [] Q I1 r1 .nil q1))⟩
theorem pe_bm (pa : PlainAttrs T) (slot : Slot T name id) (hty : typeOf (.builtin id) = pure (.type "method_descriptor")) (hm : MtR X id r) (ho : PE X o to) (ha : PA X (e :: es) t)
    (hbase : attributeBase o name X.env (eval o X.env) = eval o X.env := by rfl)
    (hfew : ((backTo cpos (starEach (e :: es) X.env)).all (fun x => !x.1) && (backToKw cpos (keywordEach [] X.env)).all (fun x => x.1.isSome)
      && decide ((e :: es).length + ([] : List Keyword).length + (if ([] : List Keyword).isEmpty then 0 else 1) < 30)) = true := by rfl)
    (hline : (apos.endLine == cpos.line) = true := by rfl) (hs : starEach (e :: es) X.env = (false, eval e X.env) :: starEach es X.env := by rfl) (hplain : (backTo cpos (starEach es X.env)).any (·.1) = false := by rfl) :
    PE X (.Call (.Attribute o name apos) (e :: es) [] cpos) (tBM X.K T r to t) := by
  intro pins s σ H Q I h
  refine wpAny_Call_method_late hbase hfew hline rfl (thn (ho pins s σ H _ I h) fun v s1 ⟨x, H1, I1, r1, ty, q1⟩ => ?_)
  obtain ⟨h1, h2⟩ := tyV_is I1 r1 ty
  refine ⟨T, id, pa, slot, hty, h1, h2, ?_⟩
  have hA := ha cpos pins s1 σ H1 _ I1 q1
  rw [hs] at hA ⊢
  refine Calls.callWith_builtin (by show (false || (backTo cpos (starEach es X.env)).any (·.1)) = false; rw [hplain] <;> rfl) (Calls.evalArgs_plain ?_)
  exact thn hA fun us s2 ⟨vs, H2, I2, r2, q2⟩ => hm pins s2 σ H2 x vs v us Q I2 r1 r2 q2
/- xs.append(e), list.index on a module's tuple .. are MtR facts of 06m -/
end
end L2

namespace L2
open PySem PySem.Spec PyProof.Rows

def MtM (X : Cx) (id : String) (r : V → List V → Hp → VK → Prop) : Prop :=
  ∀ (pins : List (Addr × Obj)) (s : Shared) (σ : St) (H : Hp) (x : V) (xs : List V) (v : Value) (us : List Value) (Q : VK), Inv X pins σ H s → RelV x v → Vals xs us → r x xs H Q →
    wpAny (model X.prog X.w) X.A (call (.builtin id) (v :: us)) (EP X pins σ Q) X.xe s

/-! ### lists of values -/
theorem Vals.one : ∀ {x : V} {us : List Value}, Vals [x] us → ∃ u, us = [u] ∧ RelV x u
  | _, _, .cons r .nil => ⟨_, rfl, r⟩
theorem Vals.two : ∀ {x y : V} {us : List Value}, Vals [x, y] us → ∃ u v, us = [u, v] ∧ RelV x u ∧ RelV y v
  | _, _, _, .cons r (.cons q .nil) => ⟨_, _, rfl, r, q⟩
theorem Vals.zero : ∀ {us : List Value}, Vals [] us → us = []
  | _, .nil => rfl
theorem Vals.dropLast {xs : List V} {us : List Value} (h : Vals xs us) : Vals xs.dropLast us.dropLast := by
  induction h with
  | nil => exact .nil
  | cons r t ih =>
    cases t with
    | nil => exact .nil
    | cons q t' => exact .cons r ih
theorem Vals.eraseIdx : ∀ {xs : List V} {us : List Value} (i : Nat), Vals xs us → Vals (xs.eraseIdx i) (us.eraseIdx i)
  | _, _, _, .nil => .nil
  | _, _, 0, .cons _ t => t
  | _, _, i + 1, .cons r t => .cons r (Vals.eraseIdx i t)
theorem Vals.reverse {xs : List V} {us : List Value} (h : Vals xs us) : Vals xs.reverse us.reverse := by
  induction h with
  | nil => exact .nil
  | cons r t ih => rw [List.reverse_cons, List.reverse_cons]; exact Vals.append ih (.cons r .nil)
theorem Vals.rep {xs : List V} {us : List Value} (h : Vals xs us) : ∀ k : Nat, Vals (List.replicate k xs).flatten (List.replicate k us).flatten
  | 0 => .nil
  | k + 1 => by
    rw [List.replicate_succ, List.replicate_succ, List.flatten_cons, List.flatten_cons]
    exact Vals.append h (Vals.rep h k)
theorem erase_last {α : Type} (l : List α) : l.eraseIdx (l.length - 1) = l.dropLast := by
  induction l with
  | nil => rfl
  | cons a r ih =>
    cases r with
    | nil => rfl
    | cons b r =>
      have e : (a :: b :: r).length - 1 = ((b :: r).length - 1) + 1 := by
        have h1 : (a :: b :: r).length = r.length + 2 := rfl
        have h2 : (b :: r).length = r.length + 1 := rfl
        omega
      rw [e, List.eraseIdx_cons_succ, ih]
      all_goals rfl
theorem len_erase {α : Type} : ∀ (l : List α) (i : Nat), (l.eraseIdx i).length ≤ l.length
  | [], _ => Nat.le_refl _
  | _ :: _, 0 => Nat.le_succ _
  | _ :: r, i + 1 => Nat.succ_le_succ (len_erase r i)
theorem foldl_rep (its : List Value) : ∀ (k : Nat) (acc : List Value),
    List.foldl (fun x1 x2 => x1 ++ x2) acc.toArray (List.replicate k its.toArray) = (acc ++ (List.replicate k its).flatten).toArray
  | 0, acc => by simp
  | k + 1, acc => by
    have e : acc.toArray ++ its.toArray = (acc ++ its).toArray := by simp
    have e2 : (acc ++ its) ++ (List.replicate k its).flatten = acc ++ (List.replicate (k + 1) its).flatten := by
      rw [List.replicate_succ, List.flatten_cons, List.append_assoc]
    rw [← e2, ← foldl_rep its k (acc ++ its), ← e, List.replicate_succ, List.foldl_cons]

section
variable {X : Cx} {pins : List (Addr × Obj)} {σ : St} {H : Hp} {s : Shared} {l b : Addr} {xs ys zs : List V}

/-! ### the two steps: a tracked list is rewritten, a new list is laid -/
theorem Inv.lset {its its' : List Value} {n : Nat} {f : Array Value → Array Value} {t' : Nat} (I : Inv X pins σ H s) (hH : H l = some (.lst xs))
    (e : s.heap.get? l = some { cls := .type "list", data := .seq its.toArray n }) (hf : f its.toArray = its'.toArray) (hv : Vals ys its') (hz : ys.length ≤ sizeLine) :
    Inv X pins σ (upd H l (.lst ys)) { s with heap := s.heap.update l (Obj.mapSeq f), toks := t' } := by
  have q := PySem.IsL.update e f
  rw [hf] at q
  refine I.write (x := l) (e := l) (by rw [hH]; exact trivial) (.inl rfl) (fun b' u hb hu => (Heap.get?_update_other s.heap (Obj.mapSeq f) (Ne.symm hb)).trans hu) ⟨_, q⟩ ?_
  exact ⟨hz, its', _, hv, q⟩
theorem Inv.lnew {its : List Value} {t' : Nat} (I : Inv X pins σ H s) (hv : Vals ys its) (hz : ys.length ≤ sizeLine) :
    Inv X pins σ (upd H s.heap.objs.size (.lst ys)) { s with heap := s.heap.push { cls := .type "list", data := .seq its.toArray }, toks := t' } :=
  I.laid (fun _ _ q => Heap.get?_push_of_some _ q) (Nat.le_refl _) ⟨hz, its, 0, hv, Heap.get?_push_size _ rfl⟩
theorem Inv.fresh (I : Inv X pins σ H s) : H s.heap.objs.size = none := I.hok.fresh (Nat.le_refl _)
theorem Inv.lstM (I : Inv X pins σ H s) (hH : H l = some (.lst xs)) : xs.length ≤ sizeLine ∧ ∃ (its : List Value) (n : Nat), Vals xs its ∧ xs.length = its.length ∧ s.heap.get? l = some { cls := .type "list", data := .seq its.toArray n } := by
  obtain ⟨z, its, n, r, e⟩ := I.hok l _ hH
  exact ⟨z, its, n, r, r.length, e⟩

theorem notLongL {n : Nat} (h : n ≤ sizeLine) : Builtin.List.listTooLong n = false := by
  unfold Builtin.List.listTooLong
  exact decide_eq_false (by omega)
end

section
variable {X : Cx}

/-! ### methods -/
def rAppend : V → List V → Hp → VK → Prop := fun x vs H Q => ∃ l xs y, x = .ref l ∧ vs = [y] ∧ H l = some (.lst xs) ∧ xs.length < sizeLine ∧ Q .non (upd H l (.lst (xs ++ [y])))
theorem mt_append : MtM X "list.append" rAppend := by
  intro pins s σ H x vs v us Q I rx rv h
  obtain ⟨l, xs, y, rfl, rfl, hH, hz, q⟩ := h
  cases rx
  obtain ⟨u, rfl, ru⟩ := rv.one
  obtain ⟨z, its, n, r, hl, e⟩ := I.lstM hH
  refine call_meets F.slot_list_append ⟨_, e, rfl⟩ F.entry_list_append (F.args_list_append_2 _ _) (PySem.list_append l its.toArray n u (by rw [List.size_toArray]; omega)) ⟨e, ?_⟩
  refine ⟨.non, _, I.lset (its' := its ++ [u]) hH e (by simp) (r.append (.cons ru .nil)) ?_, rfl, q⟩
  rw [List.length_append, List.length_singleton]
  omega

def rExtend : V → List V → Hp → VK → Prop := fun x vs H Q => ∃ l b xs zs, x = .ref l ∧ vs = [.ref b] ∧ H l = some (.lst xs) ∧ H b = some (.lst zs) ∧ xs.length + zs.length ≤ sizeLine ∧ Q .non (upd H l (.lst (xs ++ zs)))
theorem mt_extend : MtM X "list.extend" rExtend := by
  intro pins s σ H x vs v us Q I rx rv h
  obtain ⟨l, b, xs, zs, rfl, rfl, hH, hB, hz, q⟩ := h
  cases rx
  obtain ⟨u, rfl, ru⟩ := rv.one
  cases ru
  obtain ⟨z, its, n, r, hl, e⟩ := I.lstM hH
  obtain ⟨z2, its2, n2, r2, hl2, e2⟩ := I.lstM hB
  have hsz : its.toArray.size + its2.toArray.size ≤ sizeLine := by rw [List.size_toArray, List.size_toArray]; omega
  have hlong : ¬ (!its.toArray.isEmpty && Builtin.List.listTooLong (its.toArray.size + its2.toArray.size)) = true := by
    rw [notLongL hsz, Bool.and_false]
    exact Bool.false_ne_true
  refine call_meets F.slot_list_extend ⟨_, e, rfl⟩ F.entry_list_extend (F.args_list_extend_2 _ _)
    (AutoSeq1.list_extend_list_list_0 l its.toArray n b its2.toArray n2 hlong (by rw [List.size_toArray]; omega) (by omega)) ⟨e, e2, ?_⟩
  refine ⟨.non, _, I.lset (its' := its ++ its2) hH e (by simp) (r.append r2) ?_, rfl, q⟩
  rw [List.length_append]
  omega

def rPop : V → List V → Hp → VK → Prop := fun x vs H Q => ∃ l xs y, x = .ref l ∧ vs = [] ∧ H l = some (.lst xs) ∧ xs[xs.length - 1]? = some y ∧ Q y (upd H l (.lst xs.dropLast))
theorem mt_pop : MtM X "list.pop" rPop := by
  intro pins s σ H x vs v us Q I rx rv h
  obtain ⟨l, xs, y, rfl, rfl, hH, hy, q⟩ := h
  cases rx
  have hus := rv.zero
  subst hus
  obtain ⟨z, its, n, r, hl, e⟩ := I.lstM hH
  obtain ⟨u, hu, ru⟩ := r.get hy
  have hy' : its.toArray[its.toArray.size - 1]? = some u := by
    show its.toArray[its.length - 1]? = some u
    rw [← Array.getElem?_toList, ← hl]
    exact hu
  refine call_meets F.slot_list_pop ⟨_, e, rfl⟩ F.entry_list_pop (F.args_list_pop_1 _) (MeetsSeq.list_pop_last l its.toArray n u hy' (by rw [List.size_toArray]; omega)) ⟨e, ?_⟩
  refine ⟨y, _, I.lset (its' := its.dropLast) hH e ?_ r.dropLast ?_, ru, q⟩
  · show its.toArray.eraseIdxIfInBounds (its.toArray.size - 1) = its.dropLast.toArray
    rw [List.size_toArray, List.eraseIdxIfInBounds_toArray, erase_last]
  · rw [List.length_dropLast]
    omega

def rPopAt : V → List V → Hp → VK → Prop := fun x vs H Q => ∃ l xs i k y, x = .ref l ∧ vs = [.int i] ∧ H l = some (.lst xs) ∧ -(2 ^ 63) ≤ i ∧ i < 2 ^ 63 ∧ seqIndex? i xs.length = some k ∧ xs[k]? = some y ∧ Q y (upd H l (.lst (xs.eraseIdx k)))
theorem mt_popAt : MtM X "list.pop" rPopAt := by
  intro pins s σ H x vs v us Q I rx rv h
  obtain ⟨l, xs, i, k, y, rfl, rfl, hH, h1, h2, hk, hy, q⟩ := h
  cases rx
  obtain ⟨u, rfl, ru⟩ := rv.one
  obtain ⟨t, rfl⟩ := ru
  obtain ⟨z, its, n, r, hl, e⟩ := I.lstM hH
  obtain ⟨w, hw, rw'⟩ := r.get hy
  refine call_meets F.slot_list_pop ⟨_, e, rfl⟩ F.entry_list_pop (F.args_list_pop_2 _ _)
    (MeetsSeq.list_pop_at l its.toArray n i t k w (fitsIndex_both h1 h2) (by rw [List.size_toArray, ← hl]; exact hk) (by rw [← Array.getElem?_toList]; exact hw) (by rw [List.size_toArray]; omega)) ⟨e, ?_⟩
  refine ⟨y, _, I.lset (its' := its.eraseIdx k) hH e ?_ (r.eraseIdx k) ?_, rw', q⟩
  · show its.toArray.eraseIdxIfInBounds k = (its.eraseIdx k).toArray
    rw [List.eraseIdxIfInBounds_toArray]
  · have := len_erase xs k
    omega

def rReverse : V → List V → Hp → VK → Prop := fun x vs H Q => ∃ l xs, x = .ref l ∧ vs = [] ∧ H l = some (.lst xs) ∧ Q .non (upd H l (.lst xs.reverse))
theorem mt_reverse : MtM X "list.reverse" rReverse := by
  intro pins s σ H x vs v us Q I rx rv h
  obtain ⟨l, xs, rfl, rfl, hH, q⟩ := h
  cases rx
  have hus := rv.zero
  subst hus
  obtain ⟨z, its, n, r, hl, e⟩ := I.lstM hH
  refine call_meets F.slot_list_reverse ⟨_, e, rfl⟩ F.entry_list_reverse (F.args_list_reverse_1 _) (AutoSeq1.list_reverse_list_0 l its.toArray n (by rw [List.size_toArray]; omega)) ⟨e, ?_⟩
  refine ⟨.non, _, I.lset (its' := its.reverse) hH e (by simp) r.reverse ?_, rfl, q⟩
  rw [List.length_reverse]
  omega

def rClear : V → List V → Hp → VK → Prop := fun x vs H Q => ∃ l xs, x = .ref l ∧ vs = [] ∧ H l = some (.lst xs) ∧ Q .non (upd H l (.lst []))
theorem mt_clear : MtM X "list.clear" rClear := by
  intro pins s σ H x vs v us Q I rx rv h
  obtain ⟨l, xs, rfl, rfl, hH, q⟩ := h
  cases rx
  have hus := rv.zero
  subst hus
  obtain ⟨z, its, n, r, hl, e⟩ := I.lstM hH
  refine call_meets F.slot_list_clear ⟨_, e, rfl⟩ F.entry_list_clear (F.args_list_clear_1 _) (AutoSeq1.list_clear_list_0 l its.toArray n (by rw [List.size_toArray]; omega)) ⟨e, ?_⟩
  exact ⟨.non, _, I.lset (its' := []) (ys := []) hH e rfl .nil (Nat.zero_le _), rfl, q⟩

/-! ### list + list, list += list, list * int -/
def rCat : R2 := fun x y H Q => ∃ l b xs zs, x = .ref l ∧ y = .ref b ∧ H l = some (.lst xs) ∧ H b = some (.lst zs) ∧ xs.length + zs.length ≤ sizeLine ∧ ∀ p, H p = none → Q (.ref p) (upd H p (.lst (xs ++ zs)))
theorem op_cat : OpR X (binaryOp .Add) rCat := by
  intro pins s σ H x y v u Q I rx ry h
  obtain ⟨l, b, xs, zs, rfl, rfl, hH, hB, hz, q⟩ := h
  cases rx
  cases ry
  obtain ⟨z, its, n, r, hl, e⟩ := I.lstM hH
  obtain ⟨z2, its2, n2, r2, hl2, e2⟩ := I.lstM hB
  refine PySem.P.add_list e e2 ?_ (by rw [List.size_toArray, List.size_toArray]; omega)
  have ea : its.toArray ++ its2.toArray = (its ++ its2).toArray := by simp
  rw [ea]
  exact ⟨.ref _, _, I.lnew (t' := s.toks) (r.append r2) (by rw [List.length_append]; omega), rfl, q _ I.fresh⟩
/-- a list times an int (a negative one is nothing) -/
def rRep : R2 := fun x y H Q => ∃ l k xs, x = .ref l ∧ y = .int k ∧ H l = some (.lst xs) ∧ -(2 ^ 63) ≤ k ∧ k < 2 ^ 63 ∧ xs.length * k.toNat ≤ sizeLine ∧
  ∀ p, H p = none → Q (.ref p) (upd H p (.lst (List.replicate k.toNat xs).flatten))
theorem len_rep {α : Type} (xs : List α) (k : Nat) : (List.replicate k xs).flatten.length = k * xs.length := by
  induction k with
  | zero => simp
  | succ k ih => rw [List.replicate_succ, List.flatten_cons, List.length_append, ih, Nat.succ_mul, Nat.add_comm]
theorem op_rep : OpR X (binaryOp .Mult) rRep := by
  intro pins s σ H x y v u Q I rx ry h
  obtain ⟨l, k, xs, rfl, rfl, hH, h1, h2, hz, q⟩ := h
  cases rx
  obtain ⟨t, rfl⟩ := ry
  obtain ⟨z, its, n, r, hl, e⟩ := I.lstM hH
  have hlen : its.toArray.size * k.toNat ≤ sizeLine := by rw [List.size_toArray, ← hl]; exact hz
  have hcap : ¬ its.toArray.size * k.toNat > (2 ^ 63 - 1) / 8 := by
    have : (sizeLine : Nat) ≤ (2 ^ 63 - 1) / 8 := by decide
    omega
  have hfit : ¬ (!Builtin.List.listFitsIndex k) = true := by
    rw [fitsIndex_both h1 h2]
    exact Bool.false_ne_true
  have hlong : ¬ Builtin.List.listTooLong (its.toArray.size * k.toNat) = true := by
    rw [notLongL hlen]
    exact Bool.false_ne_true
  have hnew : List.foldl (fun x1 x2 => x1 ++ x2) #[] (List.replicate (if its.toArray.isEmpty = true then 0 else k.toNat) its.toArray) = (List.replicate k.toNat its).flatten.toArray := by
    have f0 : ∀ m : Nat, List.foldl (fun x1 x2 => x1 ++ x2) #[] (List.replicate m its.toArray) = (List.replicate m its).flatten.toArray := fun m => by
      have := foldl_rep its m []
      rw [List.nil_append] at this
      exact this
    rw [f0]
    cases its with
    | nil => simp
    | cons a r' => rw [if_neg (by simp)]
  refine wpAny_binaryOp_repeat_ref (T := "list") (U := "int") (by decide) ⟨_, e, rfl⟩ (fun s' => typeIs_int s' k t) noFill_list_mul F.fills_int_mul F.slot_int_rmul repeat_list F.slot_int_index.lookup
    (call_meets F.slot_int_rmul (typeIs_int s k t) F.entry_int_rmul (F.args_int_rmul_2 _ _) (int___rmul___int_list k t l its.toArray n)
      ⟨e, rfl, ⟨_, e, rfl⟩, call_meets F.slot_list_mul ⟨_, e, rfl⟩ F.entry_list_mul (F.args_list_mul_2 _ _) (AutoListH.list___mul___list_int_3 l its.toArray n k t hfit hcap hlong) ⟨e, ?_⟩⟩)
  rw [hnew]
  exact ⟨.ref _, _, I.lnew (t' := s.toks) (r.rep k.toNat) (by rw [len_rep, Nat.mul_comm]; exact hz), rfl, q _ I.fresh⟩

/-! ### del xs[i] -/
theorem del_list {pins : List (Addr × Obj)} {s : Shared} {σ : St} {H : Hp} {l : Addr} {xs : List V} {i : Int} {t : Tok} {k : Nat} {Q : Unit → Shared → Prop} (I : Inv X pins σ H s) (hH : H l = some (.lst xs))
    (h1 : -(2 ^ 63) ≤ i) (h2 : i < 2 ^ 63) (hk : seqIndex? i xs.length = some k) (h : ∀ s', Inv X pins σ (upd H l (.lst (xs.eraseIdx k))) s' → Q () s') :
    wpAny (model X.prog X.w) X.A (delItem (.ref l) (.int i t)) Q X.xe s := by
  obtain ⟨z, its, n, r, hl, e⟩ := I.lstM hH
  refine PySem.P.delItem_list (k := k) e (fitsIndex_both h1 h2) (by rw [List.size_toArray, ← hl]; exact hk) (h _ ?_) (by rw [List.size_toArray]; omega)
  refine I.lset (its' := its.eraseIdx k) (t' := s.toks) hH e ?_ (r.eraseIdx k) ?_
  · show its.toArray.eraseIdxIfInBounds k = (its.eraseIdx k).toArray
    rw [List.eraseIdxIfInBounds_toArray]
  · have := len_erase xs k
    omega
end

/-! ### xs[a:b] = ys -/
section
variable {prog : Program} {w : World} {A : Around} {E : Value → Shared → Prop} {s : Shared}
theorem splice_eq (its its2 : List Value) (a c : Nat) : its.toArray.extract 0 a ++ its2.toArray ++ its.toArray.extract c its.toArray.size = (its.take a ++ its2 ++ its.drop c).toArray := by
  apply Array.toList_inj.mp
  first
    | (simp
       exact List.take_of_length_le (by simp))
    | simp [List.take_of_length_le]
    | simp
theorem bounds_run {a c n : Nat} (hac : a ≤ c) (hc : c ≤ n) : sliceBounds (some (a : Int)) (some (c : Int)) none n = ((a : Int), (c : Int), 1) := by
  simp only [sliceBounds, Option.getD_none]
  have h1 : ¬ ((a : Int) < 0) := by omega
  have h2 : ¬ ((c : Int) < 0) := by omega
  simp only [h1, h2, if_false, show (1 : Int) > 0 by decide, if_true]
  congr 1
  · omega
  · congr 1; omega
set_option maxRecDepth 100000 in
/-- list.__setitem__ with a slice of step one and another list -/
theorem setItem_slice {l b sl : Addr} {items new : Array Value} {n n2 : Nat} {vl vu : Value} {a c : Nat} {Q : Unit → Shared → Prop}
    (e : s.heap.get? l = some { cls := .type "list", data := .seq items n }) (e2 : s.heap.get? b = some { cls := .type "list", data := .seq new n2 }) (hne : l ≠ b)
    (hs : s.heap.IsSliceOf sl vl vu .none) (pl : IsPart vl (some (a : Int))) (pu : IsPart vu (some (c : Int))) (hac : a ≤ c) (hc : c ≤ items.size)
    (hsz : items.size + new.size ≤ sizeLine) (h : Q () { s with heap := s.heap.update l (Obj.mapSeq fun xs => xs.extract 0 a ++ new ++ xs.extract c xs.size) }) :
    wpAny (model prog w) A (setItem (.ref l) (.ref sl) (.ref b)) Q E s := by
  have hl : s.heap.IsList l items := PySem.IsL.isList e
  have hb : s.heap.IsList b new := PySem.IsL.isList e2
  obtain ⟨os, hos, hcs, hds⟩ := id hs
  have hTs : s.TypeIs (.ref sl) "slice" := ⟨os, hos, hcs⟩
  have hstep : ¬ ((rawPart none == rawInt 0) = true) := Bool.false_ne_true
  have hsame : Builtin.List.listSameRef (.ref l) (.ref b) = false := by
    unfold Builtin.List.listSameRef
    exact beq_eq_false_iff_ne.mpr hne
  have hmax : (max (a : Int) (c : Int)).toNat = c := by omega
  have hz' : ((fun xs : Array Value => xs.extract 0 a ++ new ++ xs.extract c xs.size) items).size ≤ sizeLine + 1 := by
    simp only [Array.size_append, Array.size_extract]
    omega
  unfold setItem
  try with_reducible refine wpAny_holding ?_
  first | refine wpAny_bind (wpAny_pure ?_) | skip
  refine wpAny_bind (wpAny_sequenceKey hl.typeIs (by decide) ?_)
  refine wpAny_bind (wpAny_callSpecial?_slot (name := Str.ofString "__setitem__") hl.typeIs slot_list_setitem
    (wpAny_call_entry slot_list_setitem hl.typeIs entry_list_setitem ?_ (args_list_setitem _ _ _)))
  show wpAny _ _ (Builtin.List.listSubscript? (.ref sl) >>= _) _ _ s
  refine wpAny_bind ?_
  unfold Builtin.List.listSubscript?
  refine wpAny_bind (wpAny_specialOf hTs slice_no_index ?_)
  simp only [Option.isNone_none, if_true]
  refine wpAny_pure ?_
  show wpAny _ _ (typeOf (.ref sl) >>= _) _ _ s
  refine wpAny_bind (wpAny_typeOf hTs ?_)
  first
    | rw [if_neg (by decide)]
    | refine PySem.W.KFB.if_not (by decide) ?_
  rw [listSliceParts_eq]
  refine wpAny_bind (wpAny_bind (wpAny_field hos hds (x := .none) rfl (wpAny_bind (wpAny_listPart .none ?_))))
  rw [if_neg hstep]
  refine wpAny_bind (wpAny_field hos hds (x := vl) rfl (wpAny_bind (wpAny_listPart pl ?_)))
  refine wpAny_bind (wpAny_field hos hds (x := vu) rfl (wpAny_bind (wpAny_listPart pu (wpAny_pure ?_))))
  first
    | simp only [hsame, Bool.false_eq_true, if_false]
    | refine PySem.W.KFB.if_not hsame ?_
    | (dsimp only
       rw [if_neg (by rw [hsame]; exact Bool.false_ne_true)])
  refine wpAny_bind (m := Builtin.List.listAllItems (.ref b) "must assign iterable to extended slice") ?_
  unfold Builtin.List.listAllItems
  refine wpAny_bind (wpAny_typeOf hb.typeIs ?_)
  first
    | refine PySem.W.KFB.if_so (by decide) ?_
    | rw [if_pos (by decide)]
    | simp only [beq_self_eq_true, Bool.true_or, if_true]
  unfold Builtin.List.listItems
  refine wpAny_bind (wpAny_seqItems e2 rfl (wpAny_pure ?_))
  refine wpAny_bind (wpAny_bind (wpAny_seqItems e rfl (wpAny_pure ?_)))
  refine wpAny_bind (wpAny_of_eq ((sliceIndices_raw (some (a : Int)) (some (c : Int)) none items.size (by simp)).trans (congrArg (pure : Int × Int × Int → Sem (Int × Int × Int)) (bounds_run hac hc))) ?_)
  show wpAny _ _ (if ((1 : Int) == 1) = true then _ else _) _ _ s
  rw [if_pos (by decide)]
  refine wpAny_bind (wpAny_rule ?_)
  first
    | simp only [notLongL hsz, Bool.false_eq_true, if_false]
    | refine PySem.W.KFB.if_not (notLongL hsz) ?_
  first | refine wpAny_bind (wpAny_pure ?_) | skip
  show wpAny _ _ (updateSeq l (fun xs => xs.extract 0 ((a : Int)).toNat ++ new ++ xs.extract (max (a : Int) (c : Int)).toNat xs.size) >>= _) _ _ s
  rw [hmax, Int.toNat_natCast]
  refine wpAny_bind (wpAny_updateSeq (hz := Nat.le_trans (Nat.le_add_right _ _) hsz) (_hz' := hz') e rfl ?_)
  refine wpAny_bind (wpAny_letGo ?_)
  first
    | exact wpAny_bind (wpAny_pure (wpAny_pure ⟨.none, rfl, wpAny_pure h⟩))
    | exact wpAny_pure ⟨.none, rfl, wpAny_pure h⟩
end

section
variable {X : Cx}
/-- xs[a:c] = ys of another list, at the value level: sl is the slice object that was just made -/
theorem set_slice {pins : List (Addr × Obj)} {s : Shared} {σ : St} {H : Hp} {l b sl : Addr} {xs ys : List V} {a c : Int} {vl vu : Value} {Q : Unit → Shared → Prop} (I : Inv X pins σ H s)
    (hH : H l = some (.lst xs)) (hB : H b = some (.lst ys)) (hne : l ≠ b) (hs : s.heap.IsSliceOf sl vl vu .none) (ra : RelV (.int a) vl) (rc : RelV (.int c) vu) (h0 : 0 ≤ a) (hac : a ≤ c) (hc : c ≤ xs.length)
    (hz : xs.length + ys.length ≤ sizeLine) (h : ∀ s', Inv X pins σ (upd H l (.lst (xs.take a.toNat ++ ys ++ xs.drop c.toNat))) s' → Q () s') :
    wpAny (model X.prog X.w) X.A (setItem (.ref l) (.ref sl) (.ref b)) Q X.xe s := by
  obtain ⟨ta, rfl⟩ := ra
  obtain ⟨tc, rfl⟩ := rc
  obtain ⟨z, its, n, r, hl, e⟩ := I.lstM hH
  obtain ⟨z2, its2, n2, r2, hl2, e2⟩ := I.lstM hB
  obtain ⟨a', rfl⟩ := Int.eq_ofNat_of_zero_le h0
  obtain ⟨c', rfl⟩ := Int.eq_ofNat_of_zero_le (Int.le_trans h0 hac)
  simp only [Int.toNat_natCast] at h
  refine setItem_slice (a := a') (c := c') e e2 hne hs (.int _ _) (.int _ _) (by omega) (by rw [List.size_toArray]; omega) (by rw [List.size_toArray, List.size_toArray]; omega) (h _ ?_)
  refine I.lset (its' := its.take a' ++ its2 ++ its.drop c') (t' := s.toks) hH e ?_ (Vals.append (Vals.append (r.take _) r2) (r.drop _)) ?_
  · exact splice_eq its its2 a' c'
  · rw [List.length_append, List.length_append, List.length_take, List.length_drop]
    omega
end
end L2

namespace L2
open PySem PySem.Spec PyProof.Rows

/-! ### lists of pairs as tables -/
section
variable {κ : Type} [DecidableEq κ]
def valV (kvs : List (κ × V)) (k : κ) : Option V := (kvs.find? fun kv => decide (kv.1 = k)).map (·.2)
/-- in its place, or at the end -/
def putK (kvs : List (κ × V)) (k : κ) (v : V) : List (κ × V) :=
  if (kvs.any fun kv => decide (kv.1 = k)) = true then kvs.map (fun kv => if kv.1 = k then (kv.1, v) else kv) else kvs ++ [(k, v)]
def dropK (kvs : List (κ × V)) (k : κ) : List (κ × V) := kvs.filter fun kv => decide (kv.1 ≠ k)

theorem valV_nil {k : κ} : valV ([] : List (κ × V)) k = none := rfl
theorem valV_pos {p : κ × V} {r : List (κ × V)} {k : κ} (e : p.1 = k) : valV (p :: r) k = some p.2 := by simp [valV, List.find?_cons, e]
theorem valV_neg {p : κ × V} {r : List (κ × V)} {k : κ} (e : ¬ p.1 = k) : valV (p :: r) k = valV r k := by simp [valV, List.find?_cons, e]
theorem valV_any (k : κ) : ∀ kvs : List (κ × V), (kvs.any fun kv => decide (kv.1 = k)) = (valV kvs k).isSome
  | [] => rfl
  | p :: r => by
    rw [List.any_cons]
    by_cases e : p.1 = k
    · simp only [valV_pos e, decide_eq_true e, Bool.true_or, Option.isSome_some]
    · rw [valV_neg e, decide_eq_false e, Bool.false_or]; exact valV_any k r
theorem valV_map (k j : κ) (y : V) : ∀ kvs : List (κ × V), valV (kvs.map fun kv => if kv.1 = k then (kv.1, y) else kv) j = (valV kvs j).map fun x => if j = k then y else x
  | [] => rfl
  | p :: r => by
    have ih := valV_map k j y r
    rw [List.map_cons]
    by_cases h : p.1 = k
    · rw [if_pos h]
      by_cases e : p.1 = j
      · rw [valV_pos (p := (p.1, y)) e, valV_pos e, Option.map_some, if_pos (e.symm.trans h)]
      · rw [valV_neg (p := (p.1, y)) e, valV_neg e, ih]
    · rw [if_neg h]
      by_cases e : p.1 = j
      · rw [valV_pos (p := p) e, valV_pos e, Option.map_some, if_neg (fun z => h (e.trans z))]
      · rw [valV_neg (p := p) e, valV_neg e, ih]
theorem valV_snoc (k j : κ) (y : V) : ∀ kvs : List (κ × V), valV kvs k = none → valV (kvs ++ [(k, y)]) j = if j = k then some y else valV kvs j
  | [], _ => by
    by_cases e : k = j
    · rw [if_pos e.symm]; exact valV_pos (p := (k, y)) e
    · rw [if_neg (fun z => e z.symm)]; exact valV_neg (p := (k, y)) e
  | p :: r, hn => by
    rw [List.cons_append]
    have hk : ¬ p.1 = k := fun z => by rw [valV_pos z] at hn; cases hn
    rw [valV_neg hk] at hn
    have ih := valV_snoc k j y r hn
    by_cases e : p.1 = j
    · rw [valV_pos e, valV_pos e, if_neg (fun z => hk (e.trans z))]
    · rw [valV_neg e, valV_neg e, ih]
theorem valV_put (kvs : List (κ × V)) (k j : κ) (y : V) : valV (putK kvs k y) j = if j = k then some y else valV kvs j := by
  unfold putK
  by_cases a : (kvs.any fun kv => decide (kv.1 = k)) = true
  · rw [if_pos a, valV_map]
    rw [valV_any] at a
    by_cases e : j = k
    · obtain ⟨x, hx⟩ := Option.isSome_iff_exists.mp a
      rw [if_pos e, e, hx, Option.map_some, if_pos rfl]
    · rw [if_neg e]
      cases valV kvs j with
      | none => rfl
      | some x => rw [Option.map_some, if_neg e]
  · rw [if_neg a]
    refine valV_snoc k j y kvs ?_
    rw [valV_any] at a
    cases q : valV kvs k with
    | none => rfl
    | some x => rw [q] at a; exact (a rfl).elim
theorem length_putK (kvs : List (κ × V)) (k : κ) (v : V) : (putK kvs k v).length ≤ kvs.length + 1 := by
  unfold putK
  split
  · rw [List.length_map]; omega
  · rw [List.length_append, List.length_cons, List.length_nil]; omega
theorem putK_new {kvs : List (κ × V)} {k : κ} (v : V) (h : valV kvs k = none) : putK kvs k v = kvs ++ [(k, v)] := by
  unfold putK
  rw [valV_any, h]
  exact if_neg (by decide)

theorem RelO.isSome_eq {o : Option V} {u : Option Value} (r : RelO o u) : o.isSome = u.isSome := by
  cases o with
  | none => cases u with
    | none => rfl
    | some _ => exact (show False from r).elim
  | some _ => cases u with
    | none => exact (show False from r).elim
    | some _ => rfl
theorem RelO.getD {o : Option V} {u : Option Value} {d : V} {d' : Value} (r : RelO o u) (rd : RelV d d') : RelV (o.getD d) (u.getD d') := by
  cases o with
  | none => cases u with
    | none => exact rd
    | some _ => exact (show False from r).elim
  | some _ => cases u with
    | none => exact (show False from r).elim
    | some _ => exact r

/-- raw tables of the same keys -/
theorem KV.val {kvs : List (κ × V)} {vs : List (κ × Value)} (r : KV kvs vs) (k : κ) : RelO (valV kvs k) (valueAt vs k) := by
  unfold KV at r
  induction r with
  | nil => exact True.intro
  | @cons p q ps qs h t ih =>
    obtain ⟨h1, h2⟩ := h
    by_cases e : p.1 = k
    · have e' : q.1 = k := h1.symm.trans e
      have b : valueAt (q :: qs) k = some q.2 := by simp [valueAt, List.find?_cons, e']
      rw [valV_pos e, b]; exact h2
    · have e' : ¬ q.1 = k := fun z => e (h1.trans z)
      have b : valueAt (q :: qs) k = valueAt qs k := by simp [valueAt, List.find?_cons, e']
      rw [valV_neg e, b]; exact ih
theorem KV.any {kvs : List (κ × V)} {vs : List (κ × Value)} (r : KV kvs vs) (k : κ) : (kvs.any fun kv => decide (kv.1 = k)) = vs.any fun kv => decide (kv.1 = k) := by
  unfold KV at r
  induction r with
  | nil => rfl
  | cons h t ih => rw [List.any_cons, List.any_cons, ih, h.1]
theorem KV.repl {kvs : List (κ × V)} {vs : List (κ × Value)} (r : KV kvs vs) (k : κ) {y : V} {u : Value} (ry : RelV y u) :
    KV (kvs.map fun kv => if kv.1 = k then (kv.1, y) else kv) (vs.map fun kv => if kv.1 = k then (kv.1, u) else kv) := by
  unfold KV at r ⊢
  induction r with
  | nil => exact .nil
  | @cons p q ps qs h t ih =>
    rw [List.map_cons, List.map_cons]
    refine .cons ?_ ih
    obtain ⟨h1, h2⟩ := h
    by_cases e : p.1 = k
    · rw [if_pos e, if_pos (h1.symm.trans e)]; exact ⟨h1, ry⟩
    · rw [if_neg e, if_neg (fun z => e (h1.trans z))]; exact ⟨h1, h2⟩
theorem KV.put {kvs : List (κ × V)} {vs : List (κ × Value)} (r : KV kvs vs) (k : κ) {y : V} {u : Value} (ry : RelV y u) : KV (putK kvs k y) (stored vs k u) := by
  unfold putK stored
  rw [r.any k]
  by_cases e : (vs.any fun kv => decide (kv.1 = k)) = true
  · rw [if_pos e, if_pos e]; exact r.repl k ry
  · rw [if_neg e, if_neg e]; exact Paired.snoc r ⟨rfl, ry⟩
theorem KV.drop {kvs : List (κ × V)} {vs : List (κ × Value)} (r : KV kvs vs) (k : κ) : KV (dropK kvs k) (without vs k) := by
  unfold KV at r ⊢
  unfold dropK without
  induction r with
  | nil => exact .nil
  | @cons p q ps qs h t ih =>
    obtain ⟨h1, h2⟩ := h
    rw [List.filter_cons, List.filter_cons]
    by_cases e : p.1 = k
    · have a : ¬ decide (p.1 ≠ k) = true := by simp [e]
      have b : ¬ decide (q.1 ≠ k) = true := by simp [h1.symm.trans e]
      rw [if_neg a, if_neg b]; exact ih
    · have e' : ¬ q.1 = k := fun z => e (h1.trans z)
      have a : decide (p.1 ≠ k) = true := by simp [e]
      have b : decide (q.1 ≠ k) = true := by simp [e']
      rw [if_pos a, if_pos b]; exact .cons ⟨h1, h2⟩ ih
theorem KV.keys {kvs : List (κ × V)} {vs : List (κ × Value)} (r : KV kvs vs) : kvs.map (·.1) = vs.map (·.1) := by
  unfold KV at r
  induction r with
  | nil => rfl
  | cons h t ih => rw [List.map_cons, List.map_cons, ih, h.1]
theorem KV.length {kvs : List (κ × V)} {vs : List (κ × Value)} (r : KV kvs vs) : kvs.length = vs.length := Paired.length r
theorem dropK_le (kvs : List (κ × V)) (k : κ) : (dropK kvs k).length ≤ kvs.length := List.length_filter_le _ _
end


/-! ### a tracked dict, its keys ints and texts or tuples of these -/
theorem kV_is {P : Program} {w : World} {k : Key} {u : Value} (r : RelV (kV k) u) : (mixKind P w).is k u = true := by
  cases k with
  | inl i => obtain ⟨t, e⟩ := (show ∃ t, u = Value.int i t from r); subst e; exact mixKind_int P w i t
  | inr x => obtain ⟨t, e⟩ := (show ∃ t, u = Value.str x t from r); subst e; exact mixKind_str P w x t
theorem kV_inj {a b : Key} (e : kV a = kV b) : a = b := by
  cases a with
  | inl i => cases b with
    | inl j => have e' : V.int i = V.int j := e; injection e' with e'; rw [e']
    | inr y => exact nomatch (show V.int i = V.str y from e)
  | inr x => cases b with
    | inl j => exact nomatch (show V.str x = V.int j from e)
    | inr y => have e' : V.str x = V.str y := e; injection e' with e'; rw [e']
theorem kVs_inj : ∀ {a b : List Key}, a.map kV = b.map kV → a = b
  | [], [], _ => rfl
  | [], _ :: _, e => by simp at e
  | _ :: _, [], e => by simp at e
  | x :: xs, y :: ys, e => by
    rw [List.map_cons, List.map_cons] at e
    injection e with e1 e2
    rw [kV_inj e1, kVs_inj e2]
theorem items_are {P : Program} {w : World} : ∀ {ks : List Key} {us : List Value}, Vals (ks.map kV) us → ItemsAre (mixKind P w) ks us
  | [], _, r => by rw [List.map_nil] at r; cases r; exact .nil
  | k :: ks, _, r => by
    rw [List.map_cons] at r
    cases r with
    | cons h t => exact .cons (kV_is h) (items_are t)

/-- raw entries of a dict with tuple keys -/
abbrev KT (H : Hp) : List (List Key × V) → List (List Key × Addr × Value) → Prop := Paired fun p q => p.1 = q.1 ∧ H q.2.1 = some (.tup (p.1.map kV)) ∧ RelV p.2 q.2.2
theorem KT.val {H : Hp} {kvs : List (List Key × V)} {xs : List (List Key × Addr × Value)} (r : KT H kvs xs) (k : List Key) : RelO (valV kvs k) ((atKey xs k).map (·.2)) := by
  induction r with
  | nil => exact True.intro
  | @cons p q ps qs h t ih =>
    obtain ⟨h1, _, h2⟩ := h
    by_cases e : p.1 = k
    · have e' : q.1 = k := h1.symm.trans e
      have b : atKey (q :: qs) k = some q.2 := by simp [atKey, List.find?_cons, e']
      rw [valV_pos e, b]; exact h2
    · have e' : ¬ q.1 = k := fun z => e (h1.trans z)
      have b : atKey (q :: qs) k = atKey qs k := by simp [atKey, List.find?_cons, e']
      rw [valV_neg e, b]; exact ih
theorem KT.repl {H : Hp} {kvs : List (List Key × V)} {xs : List (List Key × Addr × Value)} (r : KT H kvs xs) (k : List Key) {y : V} {u : Value} (ry : RelV y u) :
    KT H (kvs.map fun kv => if kv.1 = k then (kv.1, y) else kv) (xs.map (putAt k u)) := by
  induction r with
  | nil => exact .nil
  | @cons p q ps qs h t ih =>
    rw [List.map_cons, List.map_cons]
    refine .cons ?_ ih
    obtain ⟨h1, h2, h3⟩ := h
    unfold putAt
    by_cases e : p.1 = k
    · rw [if_pos e, if_pos (h1.symm.trans e)]; exact ⟨h1, h2, ry⟩
    · rw [if_neg e, if_neg (fun z => e (h1.trans z))]; exact ⟨h1, h2, h3⟩
theorem KT.put {H : Hp} {kvs : List (List Key × V)} {xs : List (List Key × Addr × Value)} (r : KT H kvs xs) (k : List Key) {b : Addr} {y : V} {u : Value} (hb : H b = some (.tup (k.map kV))) (ry : RelV y u) :
    KT H (putK kvs k y) (storedH xs k b u) := by
  have e : (kvs.any fun kv => decide (kv.1 = k)) = (atKey xs k).isSome := by
    rw [valV_any, (r.val k).isSome_eq, Option.isSome_map]
  unfold putK storedH
  rw [e]
  by_cases q : (atKey xs k).isSome = true
  · rw [if_pos q, if_pos q]; exact r.repl k ry
  · rw [if_neg q, if_neg q]; exact Paired.snoc r ⟨rfl, hb, ry⟩
theorem KT.keeps {H H' : Hp} {kvs : List (List Key × V)} {xs : List (List Key × Addr × Value)} (r : KT H kvs xs) (ht : ∀ b ys, H b = some (.tup ys) → H' b = some (.tup ys)) : KT H' kvs xs :=
  Paired.mapP r fun _ _ z => ⟨z.1, ht _ _ z.2.1, z.2.2⟩

section
variable {P : Program} {w : World} {H : Hp} {h : Heap} {a : Addr}
theorem rd_of {u : HO} (ok : HOk P w H h) (e : Rd H a u) : ObjOk P w H h a u := e.ok ok
theorem dk_rd {kvs : List (Key × V)} (ok : HOk P w H h) (e : Rd H a (.dK kvs)) : kvs.length ≤ sizeLine ∧ (a == sysModules) = false ∧ ∃ vs, KV kvs vs ∧ h.DictOf (mixKind P w) a vs :=
  show ObjOk P w H h a (.dK kvs) from rd_of ok e
theorem dk_of {kvs : List (Key × V)} (ok : HOk P w H h) (e : H a = some (.dK kvs)) : kvs.length ≤ sizeLine ∧ (a == sysModules) = false ∧ ∃ vs, KV kvs vs ∧ h.DictOf (mixKind P w) a vs := dk_rd ok (.inl e)
/-- a tracked tuple of ints and texts is a key -/
theorem key_of {ks : List Key} (ok : HOk P w H h) (e : H a = some (.tup (ks.map kV))) : (tupleKind (mixKind P w)).is h ks a := by
  obtain ⟨_, its, r, o, h1, h2, n, h3⟩ := (show ObjOk P w H h a (.tup (ks.map kV)) from ok a _ e)
  exact ⟨o, its.toArray, n, h1, h2, h3, by simpa using items_are r⟩
theorem dt_rd {kvs : List (List Key × V)} (ok : HOk P w H h) (e : Rd H a (.dT kvs)) : kvs.length ≤ sizeLine ∧ (a == sysModules) = false ∧
    ∃ xs, KT H kvs xs ∧ h.DictOfH (tupleKind (mixKind P w)) a xs := by
  obtain ⟨z, y, xs, r, o, es, ep, h1, h2, h3, h4, h5⟩ := (show ObjOk P w H h a (.dT kvs) from rd_of ok e)
  refine ⟨z, y, xs, r, o, es, ep, h1, h2, h3, h4, fun x hx => ?_, h5⟩
  have all : ∀ {l : List (List Key × V)} {m : List (List Key × Addr × Value)}, KT H l m → ∀ x ∈ m, (tupleKind (mixKind P w)).is h x.1 x.2.1 := by
    intro l m q
    induction q with
    | nil => intro x hx; exact nomatch hx
    | @cons p q ps qs hq t ih =>
      intro x hx
      rcases List.mem_cons.mp hx with e | hx
      · subst e
        exact key_of ok (by rw [← hq.1]; exact hq.2.1)
      · exact ih x hx
  exact all r x hx
theorem dt_of {kvs : List (List Key × V)} (ok : HOk P w H h) (e : H a = some (.dT kvs)) : kvs.length ≤ sizeLine ∧ (a == sysModules) = false ∧
    ∃ xs, KT H kvs xs ∧ h.DictOfH (tupleKind (mixKind P w)) a xs := dt_rd ok (.inl e)
end

/-- what the dict at a holds at the key y -/
def DGet (H : Hp) (a : Addr) (y : V) (r : Option V) : Prop :=
  (∃ kvs k, Rd H a (.dK kvs) ∧ y = kV k ∧ r = valV kvs k) ∨ ∃ kvs k b, Rd H a (.dT kvs) ∧ y = .ref b ∧ H b = some (.tup (k.map kV)) ∧ r = valV kvs k
/-- the heap behind a[y] = v -/
def DPut (H : Hp) (a : Addr) (y v : V) (H' : Hp) : Prop :=
  (∃ kvs k, H a = some (.dK kvs) ∧ y = kV k ∧ kvs.length < sizeLine ∧ H' = upd H a (.dK (putK kvs k v))) ∨
  ∃ kvs k b, H a = some (.dT kvs) ∧ y = .ref b ∧ H b = some (.tup (k.map kV)) ∧ kvs.length < sizeLine ∧ H' = upd H a (.dT (putK kvs k v))
theorem DGet.k {H : Hp} {a : Addr} {kvs : List (Key × V)} {k : Key} (e : H a = some (.dK kvs)) : DGet H a (kV k) (valV kvs k) := .inl ⟨kvs, k, .inl e, rfl, rfl⟩
theorem DGet.t {H : Hp} {a b : Addr} {kvs : List (List Key × V)} {k : List Key} (e : H a = some (.dT kvs)) (eb : H b = some (.tup (k.map kV))) : DGet H a (.ref b) (valV kvs k) := .inr ⟨kvs, k, b, .inl e, rfl, eb, rfl⟩
theorem DPut.k {H : Hp} {a : Addr} {kvs : List (Key × V)} {k : Key} {v : V} (e : H a = some (.dK kvs)) (hl : kvs.length < sizeLine) : DPut H a (kV k) v (upd H a (.dK (putK kvs k v))) := .inl ⟨kvs, k, e, rfl, hl, rfl⟩
theorem DPut.t {H : Hp} {a b : Addr} {kvs : List (List Key × V)} {k : List Key} {v : V} (e : H a = some (.dT kvs)) (eb : H b = some (.tup (k.map kV))) (hl : kvs.length < sizeLine) :
    DPut H a (.ref b) v (upd H a (.dT (putK kvs k v))) := .inr ⟨kvs, k, b, e, rfl, eb, hl, rfl⟩


section
variable {X : Cx} {pins : List (Addr × Obj)} {σ : St} {H : Hp} {s : Shared} {a : Addr} {y v : V} {u r : Value} {o : Option V} {A : Around} {E : Value → Shared → Prop}

theorem Inv.big (I : Inv X pins σ H s) : sysModules < s.heap.objs.size := by
  have h : mainGlobals < s.heap.objs.size := (I.mod.glob.keeps I.bk).lt
  exact Nat.lt_trans (by decide) h

/-- d[y], there -/
theorem d_getItem {Q : Value → Shared → Prop} (hu : A.units + 1 < cLine) (I : Inv X pins σ H s) (g : DGet H a y (some v)) (ry : RelV y u) (h : ∀ w' s', Inv X pins σ H s' → RelV v w' → Q w' s') :
    wpAny (model X.prog X.w) A (getItem (.ref a) u) Q E s := by
  rcases g with ⟨kvs, k, e, ey, l⟩ | ⟨kvs, k, b, e, ey, eb, l⟩
  · subst ey
    obtain ⟨z, hd, vs, rel, dd⟩ := dk_rd I.hok e
    obtain ⟨w', hw, rw'⟩ := RelO.some_of (v := v) (o := valueAt vs k) (by rw [l]; exact rel.val k)
    exact wpAny_getItem_of (kV_is ry) dd.mapOf hw (h w' _ (I.tok _) rw')
  · subst ey
    cases (show u = Value.ref b from ry)
    obtain ⟨z, hd, xs, rel, dd⟩ := dt_rd I.hok e
    obtain ⟨w', hw, rw'⟩ := RelO.some_of (v := v) (o := (atKey xs k).map (·.2)) (by rw [l]; exact rel.val k)
    obtain ⟨p, hp, hp2⟩ := Option.map_eq_some_iff.mp hw
    refine wpAny_getItem_heap (tupleKind_room_in1 hu) (key_of I.hok eb) dd hp ?_
    rw [hp2]
    exact h w' _ (I.tok _) rw'
/-- y in d -/
theorem d_in {Q : Value → Shared → Prop} (hu : A.units + 1 < cLine) (I : Inv X pins σ H s) (g : DGet H a y o) (ry : RelV y u) (h : ∀ s', Inv X pins σ H s' → Q (.bool o.isSome) s') :
    wpAny (model X.prog X.w) A (compareOp .In u (.ref a)) Q E s := by
  rcases g with ⟨kvs, k, e, ey, l⟩ | ⟨kvs, k, b, e, ey, eb, l⟩
  · subst ey
    obtain ⟨z, hd, vs, rel, dd⟩ := dk_rd I.hok e
    refine wpAny_in_of (kV_is ry) hd dd.mapOf ?_
    rw [← (rel.val k).isSome_eq, ← l]
    exact h _ (I.tok _)
  · subst ey
    cases (show u = Value.ref b from ry)
    obtain ⟨z, hd, xs, rel, dd⟩ := dt_rd I.hok e
    refine wpAny_in_heap (tupleKind_room_in1 hu) (key_of I.hok eb) hd dd ?_
    have q := (rel.val k).isSome_eq
    rw [Option.isSome_map] at q
    rw [← q, ← l]
    exact h _ (I.tok _)
theorem d_notIn {Q : Value → Shared → Prop} (hu : A.units + 1 < cLine) (I : Inv X pins σ H s) (g : DGet H a y o) (ry : RelV y u) (h : ∀ s', Inv X pins σ H s' → Q (.bool (!o.isSome)) s') :
    wpAny (model X.prog X.w) A (compareOp .NotIn u (.ref a)) Q E s := by
  rcases g with ⟨kvs, k, e, ey, l⟩ | ⟨kvs, k, b, e, ey, eb, l⟩
  · subst ey
    obtain ⟨z, hd, vs, rel, dd⟩ := dk_rd I.hok e
    refine wpAny_notIn_of (kV_is ry) hd dd.mapOf ?_
    rw [← (rel.val k).isSome_eq, ← l]
    exact h _ (I.tok _)
  · subst ey
    cases (show u = Value.ref b from ry)
    obtain ⟨z, hd, xs, rel, dd⟩ := dt_rd I.hok e
    refine wpAny_notIn_heap (tupleKind_room_in1 hu) (key_of I.hok eb) hd dd ?_
    have q := (rel.val k).isSome_eq
    rw [Option.isSome_map] at q
    rw [← q, ← l]
    exact h _ (I.tok _)
/-- a dict's object is replaced -/
theorem d_write {h' : Heap} {t' : Nat} {ob : HO} (I : Inv X pins σ H s) (mu : Mut (H a)) (hs : Heap.SameBut a s.heap h') (he : ∃ q, h'.get? a = some q) (new : ObjOk X.prog X.w (upd H a ob) h' a ob) :
    Inv X pins σ (upd H a ob) { s with heap := h', toks := t' } :=
  I.write (x := a) (e := a) mu (.inl rfl) (fun b q hb z => (hs.2 b hb).trans z) he new
theorem dk_new {P : Program} {w : World} {H' : Hp} {h' : Heap} {kvs : List (Key × V)} {vs : List (Key × Value)} (z : kvs.length ≤ sizeLine) (hd : (a == sysModules) = false) (rel : KV kvs vs) (dd : h'.DictOf (mixKind P w) a vs) :
    ObjOk P w H' h' a (.dK kvs) := ⟨z, hd, vs, rel, dd⟩
/-- d[y] = v -/
theorem d_setItem {H' : Hp} {Q : Unit → Shared → Prop} (hu : A.units + 1 < cLine) (I : Inv X pins σ H s) (g : DPut H a y v H') (ry : RelV y u) (rv : RelV v r) (h : ∀ s', Inv X pins σ H' s' → Q () s') :
    wpAny (model X.prog X.w) A (setItem (.ref a) u r) Q E s := by
  rcases g with ⟨kvs, k, e, ey, l, eH⟩ | ⟨kvs, k, b, e, ey, eb, l, eH⟩
  · subst ey eH
    obtain ⟨z, hd, vs, rel, dd⟩ := dk_of I.hok e
    have hz : vs.length ≤ sizeLine := by rw [← rel.length]; exact z
    have hl : (putK kvs k v).length ≤ sizeLine := by have := length_putK kvs k v; omega
    refine wpAny_setItem_pairs (hsz := hz) (kV_is ry) dd fun h' dd' hs => h _ ?_
    have he : ∃ q, h'.get? a = some q := let ⟨q, _, _, hq, _⟩ := dd'; ⟨q, hq⟩
    exact d_write I (by rw [e]; exact True.intro) hs he (dk_new hl hd (rel.put k rv) dd')
  · subst ey eH
    cases (show u = Value.ref b from ry)
    obtain ⟨z, hd, xs, rel, dd⟩ := dt_of I.hok e
    have hz : xs.length ≤ sizeLine := by rw [← Paired.length rel]; exact z
    have hl : (putK kvs k v).length ≤ sizeLine := by have := length_putK kvs k v; omega
    refine wpAny_setItem_heap (hsz := hz) (tupleKind_room_in1 hu) (key_of I.hok eb) dd fun h' dd' hs => h _ ?_
    obtain ⟨q, es, ep, hq, h2, h3, h4, _, h5⟩ := dd'
    refine d_write I (by rw [e]; exact True.intro) hs ⟨q, hq⟩ ⟨hl, hd, _, (rel.put k eb rv).keeps fun c ys ec => ?_, q, es, ep, hq, h2, h3, h4, h5⟩
    rw [upd_ne (ne_of ec e (fun z => nomatch z))]
    exact ec
end

section
variable {X : Cx} {pins : List (Addr × Obj)} {σ : St} {H : Hp} {s : Shared} {a : Addr} {kvs : List (Key × V)} {k : Key} {u : Value} {A : Around} {E : Value → Shared → Prop}
/-- del d[k] -/
theorem d_delItem {Q : Unit → Shared → Prop} (I : Inv X pins σ H s) (e : H a = some (.dK kvs)) (ry : RelV (kV k) u) (l : (valV kvs k).isSome = true) (h : ∀ s', Inv X pins σ (upd H a (.dK (dropK kvs k))) s' → Q () s') :
    wpAny (model X.prog X.w) A (delItem (.ref a) u) Q E s := by
  obtain ⟨z, hd, vs, rel, dd⟩ := dk_of I.hok e
  refine wpAny_delItem_slot dd.typeIs (by decide) PySem.F.slot_dict_delitem
    (call_meetsIn PySem.F.slot_dict_delitem dd.typeIs PySem.F.entry_dict_delitem (PySem.F.args_dict_delitem_2 _ _) (meets_dict_delitem_pairs (mixKind X.prog X.w) a (kV_is ry)) ⟨vs, dd, by rw [← rel.length]; exact z, by rw [← (rel.val k).isSome_eq]; exact l, fun h' dd' hs => h _ ?_⟩)
  have he : ∃ q, h'.get? a = some q := let ⟨q, _, _, hq, _⟩ := dd'; ⟨q, hq⟩
  exact d_write I (by rw [e]; exact True.intro) hs he (dk_new (Nat.le_trans (dropK_le kvs k) z) hd (rel.drop k) dd')
/-- d.pop(k[, x]), there -/
theorem d_pop {v : V} {more : List Value} {Q : Value → Shared → Prop} (I : Inv X pins σ H s) (e : H a = some (.dK kvs)) (ry : RelV (kV k) u) (l : valV kvs k = some v) (hm : more = [] ∨ ∃ x, more = [x])
    (h : ∀ w' s', Inv X pins σ (upd H a (.dK (dropK kvs k))) s' → RelV v w' → Q w' s') : wpAny (model X.prog X.w) A (call (.builtin "dict.pop") (.ref a :: u :: more)) Q E s := by
  obtain ⟨z, hd, vs, rel, dd⟩ := dk_of I.hok e
  obtain ⟨w', hw, rw'⟩ := RelO.some_of (v := v) (o := valueAt vs k) (by rw [← l]; exact rel.val k)
  have hp : (keyPart u).isSome = true := by
    cases k with
    | inl i => obtain ⟨t, q⟩ := (show ∃ t, u = Value.int i t from ry); subst q; rfl
    | inr x => obtain ⟨t, q⟩ := (show ∃ t, u = Value.str x t from ry); subst q; rfl
  have ha : argsOk "dict.pop" ⟨.ref a :: u :: more, []⟩ := by
    rcases hm with q | ⟨x, q⟩
    · subst q; exact PySem.F.args_dict_pop_2 _ _
    · subst q; exact PySem.F.args_dict_pop_3 _ _ _
  refine call_meetsIn PySem.F.slot_dict_pop dd.typeIs PySem.F.entry_dict_pop ha (meets_dict_pop_there (mixKind X.prog X.w) a (kV_is ry) more hm hp)
    ⟨vs, w', dd, by rw [← rel.length]; exact z, hw, fun h' dd' hs => h w' _ ?_ rw'⟩
  have he : ∃ q, h'.get? a = some q := let ⟨q, _, _, hq, _⟩ := dd'; ⟨q, hq⟩
  exact d_write I (by rw [e]; exact True.intro) hs he (dk_new (Nat.le_trans (dropK_le kvs k) z) hd (rel.drop k) dd')
/-- d.pop(k, x), not there -/
theorem d_popD {r : Value} {Q : Value → Shared → Prop} (I : Inv X pins σ H s) (e : H a = some (.dK kvs)) (ry : RelV (kV k) u) (l : valV kvs k = none) (h : ∀ s', Inv X pins σ H s' → Q r s') :
    wpAny (model X.prog X.w) A (call (.builtin "dict.pop") [.ref a, u, r]) Q E s := by
  obtain ⟨z, hd, vs, rel, dd⟩ := dk_of I.hok e
  have hn : valueAt vs k = none := RelO.none_of (by rw [← l]; exact rel.val k)
  have hp : (keyPart u).isSome = true := by
    cases k with
    | inl i => obtain ⟨t, q⟩ := (show ∃ t, u = Value.int i t from ry); subst q; rfl
    | inr x => obtain ⟨t, q⟩ := (show ∃ t, u = Value.str x t from ry); subst q; rfl
  exact call_meetsIn PySem.F.slot_dict_pop dd.typeIs PySem.F.entry_dict_pop (PySem.F.args_dict_pop_3 _ _ _) (meets_dict_pop_default (mixKind X.prog X.w) a (kV_is ry) hd hp r) ⟨vs, dd, hn, h _ (I.tok _)⟩
/-- d.clear() -/
theorem d_clear {Q : Value → Shared → Prop} (I : Inv X pins σ H s) (e : H a = some (.dK kvs)) (h : ∀ s', Inv X pins σ (upd H a (.dK [])) s' → Q .none s') : wpAny (model X.prog X.w) A (call (.builtin "dict.clear") [.ref a]) Q E s := by
  obtain ⟨z, hd, vs, rel, dd⟩ := dk_of I.hok e
  refine call_meetsIn PySem.F.slot_dict_clear dd.typeIs PySem.F.entry_dict_clear (PySem.F.args_dict_clear_1 _) (meets_dict_clear (mixKind X.prog X.w) a) ⟨vs, dd, by rw [← rel.length]; exact z, fun h' dd' hs => h _ ?_⟩
  have he : ∃ q, h'.get? a = some q := let ⟨q, _, _, hq, _⟩ := dd'; ⟨q, hq⟩
  exact d_write (t' := s.toks) I (by rw [e]; exact True.intro) hs he (dk_new (Nat.zero_le _) hd .nil dd')
/-- len(d) -/
theorem d_len {Q : Value → Shared → Prop} (I : Inv X pins σ H s) (e : Rd H a (.dK kvs)) (h : ∀ t s', Inv X pins σ H s' → Q (.int kvs.length t) s') : wpAny (model X.prog X.w) A (call (.builtin "len") [.ref a]) Q E s := by
  obtain ⟨z, hd, vs, rel, dd⟩ := dk_rd I.hok e
  refine call_len_dict hd dd (by rw [← rel.length]; rw [sizeLine_eq] at z; omega) ?_
  rw [← rel.length]
  exact h _ _ (I.tok _)
/-- if d -/
theorem d_truth {Q : Bool → Shared → Prop} (I : Inv X pins σ H s) (e : Rd H a (.dK kvs)) (h : ∀ s', Inv X pins σ H s' → Q (!kvs.isEmpty) s') : wpAny (model X.prog X.w) A (truthy (.ref a)) Q E s := by
  obtain ⟨z, hd, vs, rel, dd⟩ := dk_rd I.hok e
  refine wpAny_truthy_dict hd dd (by rw [← rel.length]; rw [sizeLine_eq] at z; omega) ?_
  have q : kvs.isEmpty = vs.isEmpty := by cases rel <;> rfl
  rw [← q]
  exact h _ (I.tok _)
end


/-! ### readings and rules -/
/-- the element of a subscription, not a slice -/
def NoSl (i : Expr) : Prop := ∀ ov iv, subscripted i false ov iv = operate [ov, iv] (getItem ov iv)
theorem subD_of {prog : Program} {w : World} {A : Around} {E : Value → Shared → Prop} {s : Shared} {env : Env} {value slice : Expr} {pos : Pos} {T id : String} {Q : Value → Shared → Prop}
    (hl : typeLookup (.type T) "__getitem__" = pure (some (.builtin id))) (hs : NoSl slice)
    (h : wpAny (model prog w) A (eval value env) (fun o s₁ => wpAny (model prog w) A (eval slice env) (fun i s₂ => s₂.TypeIs o T ∧ wpAny (model prog w) A (getItem o i) Q E s₂) E s₁) E s) :
    wpAny (model prog w) A (eval (.Subscript value slice pos) env) Q E s := by
  refine Subscript_ (wpAny_mono h (fun o s₁ h₁ => wpAny_mono h₁ (fun i s₂ h₂ => ?_) fun _ _ x => x) fun _ _ x => x)
  obtain ⟨hT, h₂⟩ := h₂
  unfold subscriptTail
  refine wpAny_bind ?_
  rw [getitemInPython_of_ne hT.not_modules]
  refine wpAny_bind (wpAny_specialOf hT hl ?_)
  have fin : wpAny (model prog w) A (subscripted slice false o i) (fun r s₃ => wpAny (model prog w) A (letTemporaryGo value o r >>= fun _ => pure r) Q E s₃) E s₂ := by
    rw [hs o i]
    exact wpAny_operating (wpAny_mono h₂ (fun r s₃ h₃ => wpAny_bind (wpAny_letTemporaryGo (wpAny_pure h₃))) fun _ _ x => x)
  first
    | exact wpAny_pure (wpAny_bind fin)
    | exact wpAny_bind (wpAny_pure (wpAny_bind fin))
    | exact wpAny_bind fin

theorem dict_typeIs {X : Cx} {pins : List (Addr × Obj)} {σ : St} {H : Hp} {s : Shared} {a : Addr} {y : V} {o : Option V} (I : Inv X pins σ H s) (g : DGet H a y o) : s.TypeIs (.ref a) "dict" := by
  rcases g with ⟨kvs, k, e, _, _⟩ | ⟨kvs, k, b, e, _, _, _⟩
  · obtain ⟨_, _, vs, _, dd⟩ := dk_rd I.hok e
    exact dd.typeIs
  · obtain ⟨_, _, xs, _, dd⟩ := dt_rd I.hok e
    exact dd.typeIs
theorem dict_noDict {X : Cx} {pins : List (Addr × Obj)} {σ : St} {H : Hp} {s : Shared} {a : Addr} {y : V} {o : Option V} (I : Inv X pins σ H s) (g : DGet H a y o) :
    ∀ b, Value.ref a = .ref b → ∃ ob, s.heap.get? b = some ob ∧ ob.dict = none := fun b q => by
  cases q
  rcases g with ⟨kvs, k, e, _, _⟩ | ⟨kvs, k, b, e, _, _, _⟩
  · obtain ⟨_, _, vs, _, ob, _, _, h1, h2, _⟩ := dk_rd I.hok e
    exact ⟨ob, h1, h2.2.1⟩
  · obtain ⟨_, _, xs, _, ob, _, _, h1, h2, _⟩ := dt_rd I.hok e
    exact ⟨ob, h1, h2.2.1⟩

/-- d[y] -/
def tDGet (td ty : TE) : TE := fun σ H Q => td σ H fun x H1 => ty σ H1 fun y H2 => ∃ a v, x = .ref a ∧ DGet H2 a y (some v) ∧ Q v H2
/-- y in d, y not in d -/
def tDIn (ty td : TE) : TE := fun σ H Q => ty σ H fun y H1 => td σ H1 fun x H2 => ∃ a o, x = .ref a ∧ DGet H2 a y o ∧ Q (.bl o.isSome) H2
def tDNotIn (ty td : TE) : TE := fun σ H Q => ty σ H fun y H1 => td σ H1 fun x H2 => ∃ a o, x = .ref a ∧ DGet H2 a y o ∧ Q (.bl (!o.isSome)) H2
/-- d[y] = v -/
def sDPut (td ty tv : TE) : TS := fun D σ H => tv σ H fun v H1 => td σ H1 fun x H2 => ty σ H2 fun y H3 => ∃ a H4, x = .ref a ∧ DPut H3 a y v H4 ∧ D.nx σ H4
/-- d[y] op= v -/
def sDAug (td ty tv : TE) (rd : V → V → Hp → VK → Prop) : TS := fun D σ H => td σ H fun x H1 => ty σ H1 fun y H2 => ∃ a v, x = .ref a ∧ DGet H2 a y (some v) ∧
  tv σ H2 fun y2 H3 => rd v y2 H3 fun z H4 => ∃ H5, DPut H4 a y z H5 ∧ D.nx σ H5
/-- del d[y] -/
def sDDel (td ty : TE) : TS := fun D σ H => td σ H fun x H1 => ty σ H1 fun y H2 => ∃ a kvs k, x = .ref a ∧ H2 a = some (.dK kvs) ∧ y = kV k ∧ (valV kvs k).isSome = true ∧ D.nx σ (upd H2 a (.dK (dropK kvs k)))

section
variable {X : Cx} {o i e value : Expr} {pos pos' tpos : Pos} {td ty tv : TE}
theorem pe_dget (hu : X.A.units + 1 < cLine) (ho : PE X o td) (hi : PE X i ty) (hs : NoSl i) : PE X (.Subscript o i pos) (tDGet td ty) := by
  intro pins s σ H Q I h
  refine subD_of PySem.F.slot_dict_getitem.lookup hs (thn (ho pins s σ H _ I h) fun u s1 ⟨x, H1, I1, rx, q1⟩ => thn (hi pins s1 σ H1 _ I1 q1) fun iv s2 ⟨y, H2, I2, ry, a, v, ex, g, q2⟩ => ?_)
  subst ex
  obtain rfl : u = Value.ref a := rx
  exact ⟨dict_typeIs I2 g, d_getItem hu I2 g ry fun w' s3 I3 rw' => ⟨v, H2, I3, rw', q2⟩⟩
theorem pc_din (hu : X.A.units + 1 < cLine) (hi : PE X i ty) (ho : PE X o td) : PC X .In i o (tDIn ty td) := by
  intro pins s σ H Q I h
  refine thn (hi pins s σ H _ I h) fun iv s1 ⟨y, H1, I1, ry, q1⟩ => thn (ho pins s1 σ H1 _ I1 q1) fun u s2 ⟨x, H2, I2, rx, a, ov, ex, g, q2⟩ => ?_
  subst ex
  obtain rfl : u = Value.ref a := rx
  exact d_in hu I2 g ry fun s3 I3 => ⟨.bl ov.isSome, H2, I3, rfl, q2⟩
theorem pc_dnotin (hu : X.A.units + 1 < cLine) (hi : PE X i ty) (ho : PE X o td) : PC X .NotIn i o (tDNotIn ty td) := by
  intro pins s σ H Q I h
  refine thn (hi pins s σ H _ I h) fun iv s1 ⟨y, H1, I1, ry, q1⟩ => thn (ho pins s1 σ H1 _ I1 q1) fun u s2 ⟨x, H2, I2, rx, a, ov, ex, g, q2⟩ => ?_
  subst ex
  obtain rfl : u = Value.ref a := rx
  exact d_notIn hu I2 g ry fun s3 I3 => ⟨.bl (!ov.isSome), H2, I3, rfl, q2⟩
theorem ps_dput (hu : X.A.units + 1 < cLine) (ho : PE X o td) (hi : PE X i ty) (hv : PE X value tv) (hs : swapsWith value (some (.Subscript o i pos')) pos.line X.env = pure false) :
    PS X (.Assign [.Subscript o i pos'] value pos) (sDPut td ty tv) := by
  intro pins s σ H D I h
  refine wpAny_Assign_Subscript (thn (hv pins s σ H _ I h) fun r s1 ⟨v, H1, I1, rv, q1⟩ => thn (ho pins s1 σ H1 _ I1 q1) fun u s2 ⟨x, H2, I2, rx, q2⟩ => thn (hi pins s2 σ H2 _ I2 q2) fun iv s3 ⟨y, H3, I3, ry, a, H4, ex, g, q3⟩ => ?_) hs
  subst ex
  obtain rfl : u = Value.ref a := rx
  exact d_setItem hu I3 g ry rv fun s4 I4 => ⟨σ, H4, I4, q3⟩
theorem ps_daug {op : Operator} {rd : V → V → Hp → VK → Prop} (hu : X.A.units + 1 < cLine) (ho : PE X o td) (hi : PE X i ty) (hv : PE X value tv) (hop : InOp X op rd)
    (ha : ∀ ov iv new, augStore i ov iv new = (do holding [new, ov, iv] (setItem ov iv new); release [new, ov, iv] []; pure .next)) : PS X (.AugAssign (.Subscript o i tpos) op value pos) (sDAug td ty tv rd) := by
  intro pins s σ H D I h
  refine wpAny_AugAssign_SubscriptAny (thn (ho pins s σ H _ I h) fun u s1 ⟨x, H1, I1, rx, q1⟩ => thn (hi pins s1 σ H1 _ I1 q1) fun iv s2 ⟨y, H2, I2, ry, a, v, ex, g, q2⟩ => ?_) ha
  subst ex
  obtain rfl : u = Value.ref a := rx
  refine d_getItem hu I2 g ry fun w' s3 I3 rw' => thn (hv pins s3 σ H2 _ I3 q2) fun w2 s4 ⟨y2, H3, I4, ry2, q3⟩ => thn (hop pins s4 σ H3 v y2 w' w2 _ I4 rw' ry2 q3) fun w3 s5 ⟨z, H4, I5, rz, H5, g5, q4⟩ => ?_
  exact d_setItem hu I5 g5 ry rz fun s6 I6 => ⟨σ, H5, I6, q4⟩
theorem ps_ddel (ho : PE X o td) (hi : PE X i ty) : PS X (.Delete [.Subscript o i tpos] pos) (sDDel td ty) := by
  intro pins s σ H D I h
  refine wpAny_Delete (wpAny_deleteEach_cons (wpAny_delete_Subscript (thn (ho pins s σ H _ I h) fun u s1 ⟨x, H1, I1, rx, q1⟩ => thn (hi pins s1 σ H1 _ I1 q1) fun iv s2 ⟨y, H2, I2, ry, a, kvs, k, ex, e, ey, l, q2⟩ => ?_)))
  subst ex ey
  obtain rfl : u = Value.ref a := rx
  exact d_delItem I2 e ry l fun s3 I3 => wpAny_deleteEach_nil ⟨σ, _, I3, q2⟩
end


/-! ### displays -/
theorem dk_empty {P : Program} {w : World} {H : Hp} (h : Heap) (hb : sysModules < h.objs.size) : ObjOk P w H (h.push { cls := .type "dict", data := .dict #[] }) h.objs.size (.dK []) :=
  ⟨Nat.zero_le _, beq_eq_false_iff_ne.mpr (Ne.symm (Nat.ne_of_lt hb)), [], .nil, Heap.DictOf.new h⟩
theorem dt_empty {P : Program} {w : World} {H : Hp} (h : Heap) (hb : sysModules < h.objs.size) : ObjOk P w H (h.push { cls := .type "dict", data := .dict #[] }) h.objs.size (.dT []) :=
  ⟨Nat.zero_le _, beq_eq_false_iff_ne.mpr (Ne.symm (Nat.ne_of_lt hb)), [], .nil, _, #[], 0, Heap.get?_push_size _ rfl, ⟨rfl, rfl, rfl⟩, rfl, rfl, List.nodup_nil⟩
/-- {}, to be a dict of the kind that is wanted -/
def tDNewK : TE := fun _ H Q => ∀ p, H p = none → Q (.ref p) (upd H p (.dK []))
def tDNewT : TE := fun _ H Q => ∀ p, H p = none → Q (.ref p) (upd H p (.dT []))
section
variable {X : Cx} {pos : Pos}
theorem pe_dnewK : PE X (.Dict [] [] pos) tDNewK := fun pins s σ H Q I h =>
  wpAny_Dict_empty ⟨.ref s.heap.objs.size, _, I.laid (a := s.heap.objs.size) (o := .dK []) (t' := s.toks) (fun _ _ q => Heap.get?_push_of_some _ q) (Nat.le_refl _) (dk_empty s.heap I.big), rfl, h _ (I.hok.fresh (Nat.le_refl _))⟩
theorem pe_dnewT : PE X (.Dict [] [] pos) tDNewT := fun pins s σ H Q I h =>
  wpAny_Dict_empty ⟨.ref s.heap.objs.size, _, I.laid (a := s.heap.objs.size) (o := .dT []) (t' := s.toks) (fun _ _ q => Heap.get?_push_of_some _ q) (Nat.le_refl _) (dt_empty s.heap I.big), rfl, h _ (I.hok.fresh (Nat.le_refl _))⟩
end

/-- the pairs of a display, from the left -/
def tPairs : List (TE × TE) → St → Hp → (List (V × V) → Hp → Prop) → Prop
  | [], _, H, Q => Q [] H
  | (tk, tv) :: r, σ, H, Q => tk σ H fun x H1 => tv σ H1 fun y H2 => tPairs r σ H2 fun ps H3 => Q ((x, y) :: ps) H3
abbrev VV : List (V × V) → List (Value × Value) → Prop := Paired fun p q => RelV p.1 q.1 ∧ RelV p.2 q.2
def PPs (X : Cx) (pos : Pos) (keys : List (Option Expr)) (values : List Expr) (trs : List (TE × TE)) : Prop :=
  ∀ (pins : List (Addr × Obj)) (s : Shared) (σ : St) (H : Hp) (Q : List (V × V) → Hp → Prop), Inv X pins σ H s → tPairs trs σ H Q →
    wpAny (model X.prog X.w) X.A (evalPairs (pairTrees keys values X.env pos)) (fun vs s' => ∃ ps H', Inv X pins σ H' s' ∧ VV ps vs ∧ Q ps H') X.xe s
theorem pps_nil {X : Cx} {pos : Pos} : PPs X pos [] [] [] := fun pins s σ H Q I h => pairTrees_nil_walk ⟨[], H, I, .nil, h⟩
theorem pps_cons {X : Cx} {pos : Pos} {k v : Expr} {ks : List (Option Expr)} {vs : List Expr} {tk tv : TE} {trs : List (TE × TE)} (hk : PE X k tk) (hv : PE X v tv) (hr : PPs X pos ks vs trs) :
    PPs X pos (some k :: ks) (v :: vs) ((tk, tv) :: trs) := fun pins s σ H Q I h =>
  pairTrees_cons_walk (thn (hk pins s σ H _ I h) fun u s1 ⟨x, H1, I1, rx, q1⟩ => thn (hv pins s1 σ H1 _ I1 q1) fun w2 s2 ⟨y, H2, I2, ry, q2⟩ =>
    thn (hr pins s2 σ H2 _ I2 q2) fun ws s3 ⟨ps, H3, I3, rel, q3⟩ => ⟨(x, y) :: ps, H3, I3, .cons ⟨rx, ry⟩ rel, q3⟩)

def mergeK (kvs more : List (Key × V)) : List (Key × V) := more.foldl (fun acc kv => putK acc kv.1 kv.2) kvs
theorem KV.merge : ∀ {more : List (Key × V)} {rs : List (Key × Value)} {kvs : List (Key × V)} {vs : List (Key × Value)}, KV more rs → KV kvs vs → KV (mergeK kvs more) (merged vs rs) := by
  intro more rs kvs vs r
  unfold KV at r
  induction r generalizing kvs vs with
  | nil => intro q; exact q
  | @cons p q ps qs h t ih =>
    intro r0
    have e : KV (putK kvs p.1 p.2) (stored vs q.1 q.2) := by
      have := r0.put p.1 h.2
      rw [← h.1]; exact this
    exact ih e
theorem length_mergeK : ∀ (more kvs : List (Key × V)), (mergeK kvs more).length ≤ kvs.length + more.length
  | [], kvs => by show kvs.length ≤ kvs.length + 0; omega
  | p :: r, kvs => by
    have h1 := length_mergeK r (putK kvs p.1 p.2)
    have h2 := length_putK kvs p.1 p.2
    show (mergeK (putK kvs p.1 p.2) r).length ≤ _
    rw [List.length_cons]; omega
theorem carries_of {P : Program} {w : World} : ∀ {kvs : List (Key × V)} {ws : List (Value × Value)}, VV (kvs.map fun kv => (kV kv.1, kv.2)) ws → ∃ rs, Carries (mixKind P w) ws rs ∧ KV kvs rs
  | [], _, r => by rw [List.map_nil] at r; cases r; exact ⟨[], True.intro, .nil⟩
  | p :: kvs, _, r => by
    rw [List.map_cons] at r
    cases r with
    | @cons a b as bs h t =>
      obtain ⟨rs, c, q⟩ := carries_of (P := P) (w := w) t
      obtain ⟨b1, b2⟩ := b
      exact ⟨(p.1, b2) :: rs, ⟨kV_is h.1, rfl, c⟩, .cons ⟨rfl, h.2⟩ q⟩
/-- {k: v, ..} with keys ints and texts; the new dict stands empty while the pairs are made -/
def tDisp (trs : List (TE × TE)) : TE := fun σ H Q => ∀ p, H p = none → tPairs trs σ (upd H p (.dK [])) fun ps H2 => H2 p = some (.dK []) ∧ ∃ kvs : List (Key × V), ps = kvs.map (fun kv => (kV kv.1, kv.2)) ∧ kvs.length ≤ 15 ∧ Q (.ref p) (upd H2 p (.dK (mergeK [] kvs)))
theorem pe_disp {X : Cx} {pos : Pos} {keys : List (Option Expr)} {values : List Expr} {trs : List (TE × TE)} (h : PPs X pos keys values trs) (hall : keys.all (·.isSome) = true) (hl : keys.length = values.length) (h0 : keys ≠ [])
    (h15 : keys.length ≤ 15) : PE X (.Dict keys values pos) (tDisp trs) := by
  intro pins s σ H Q I q
  have hn := I.hok.fresh (Nat.le_refl s.heap.objs.size)
  have I1 := I.laid (a := s.heap.objs.size) (o := .dK []) (h' := s.heap.push { cls := .type "dict", data := .dict #[] }) (t' := s.toks) (fun _ _ q => Heap.get?_push_of_some _ q) (Nat.le_refl _) (dk_empty s.heap I.big)
  refine wpAny_Dict_walk (knd := mixKind X.prog X.w) hall hl h0 h15 (thn (h pins _ σ _ _ I1 (q _ hn)) fun ws s2 ⟨ps, H2, I2, rel, e, kvs, ep, lk, q2⟩ => ?_)
  subst ep
  obtain ⟨rs, c, rk⟩ := carries_of (P := X.prog) (w := X.w) rel
  obtain ⟨z, hd, vs0, r0, dd⟩ := dk_of I2.hok e
  cases r0
  refine ⟨rs, c, dd, fun h' dd' hs => ⟨.ref s.heap.objs.size, _, ?_, rfl, q2⟩⟩
  have hz : (mergeK [] kvs).length ≤ sizeLine := by
    have h1 := length_mergeK kvs []
    rw [List.length_nil] at h1
    rw [sizeLine_eq]; omega
  have he : ∃ q, h'.get? s.heap.objs.size = some q := let ⟨q, _, _, hq, _⟩ := dd'; ⟨q, hq⟩
  exact d_write I2 (by rw [e]; exact True.intro) hs he (dk_new hz hd (rk.merge .nil) dd')


/-! ### methods -/
/-- a method call o.m(e) of a built-in, with one argument: what must be seen of the text -/
structure M1 (X : Cx) (o : Expr) (m : Str) (apos : Pos) (e : Expr) (cpos : Pos) : Prop where
  base : attributeBase o m X.env (eval o X.env) = eval o X.env
  few : ((backTo cpos (starEach [e] X.env)).all (fun x => !x.1) && (backToKw cpos (keywordEach [] X.env)).all (fun x => x.1.isSome)
    && decide (([e] : List Expr).length + ([] : List Keyword).length + (if ([] : List Keyword).isEmpty then 0 else 1) < 30)) = true
  line : (apos.endLine == cpos.line) = true
  trees : backTo cpos (starEach [e] X.env) = [(false, eval e X.env)]
structure M2 (X : Cx) (o : Expr) (m : Str) (apos : Pos) (e f : Expr) (cpos : Pos) : Prop where
  base : attributeBase o m X.env (eval o X.env) = eval o X.env
  few : ((backTo cpos (starEach [e, f] X.env)).all (fun x => !x.1) && (backToKw cpos (keywordEach [] X.env)).all (fun x => x.1.isSome)
    && decide (([e, f] : List Expr).length + ([] : List Keyword).length + (if ([] : List Keyword).isEmpty then 0 else 1) < 30)) = true
  line : (apos.endLine == cpos.line) = true
  trees : backTo cpos (starEach [e, f] X.env) = [(false, eval e X.env), (false, eval f X.env)]

/-- a is a dict, whatever its keys -/
def IsD (H : Hp) (a : Addr) : Prop := (∃ kvs, Rd H a (.dK kvs)) ∨ ∃ kvs, Rd H a (.dT kvs)
theorem isD_at {X : Cx} {pins : List (Addr × Obj)} {σ : St} {H : Hp} {s : Shared} {a : Addr} (I : Inv X pins σ H s) (d : IsD H a) :
    s.TypeIs (.ref a) "dict" ∧ (∀ b, Value.ref a = .ref b → ∃ ob, s.heap.get? b = some ob ∧ ob.dict = none) ∧ (a == sysModules) = false := by
  rcases d with ⟨kvs, e⟩ | ⟨kvs, e⟩
  · obtain ⟨_, hd, vs, _, dd⟩ := dk_rd I.hok e
    refine ⟨dd.typeIs, fun b q => ?_, hd⟩
    cases q
    obtain ⟨ob, _, _, h1, h2, _⟩ := dd
    exact ⟨ob, h1, h2.2.1⟩
  · obtain ⟨_, hd, xs, _, dd⟩ := dt_rd I.hok e
    refine ⟨dd.typeIs, fun b q => ?_, hd⟩
    cases q
    obtain ⟨ob, _, _, h1, h2, _⟩ := dd
    exact ⟨ob, h1, h2.2.1⟩

section
variable {X : Cx} {pins : List (Addr × Obj)} {σ : St} {H : Hp} {s : Shared} {a : Addr} {y d : V} {u r : Value} {o : Option V} {A : Around} {E : Value → Shared → Prop}
/-- d.get(y) -/
theorem d_get1 {Q : Value → Shared → Prop} (hu : A.units + 1 < cLine) (I : Inv X pins σ H s) (g : DGet H a y o) (ry : RelV y u) (h : ∀ w' s', Inv X pins σ H s' → RelV (o.getD .non) w' → Q w' s') :
    wpAny (model X.prog X.w) A (call (.builtin "dict.get") [.ref a, u]) Q E s := by
  rcases g with ⟨kvs, k, e, ey, l⟩ | ⟨kvs, k, b, e, ey, eb, l⟩
  · subst ey
    obtain ⟨z, hd, vs, rel, dd⟩ := dk_rd I.hok e
    refine call_meetsIn PySem.F.slot_dict_get dd.typeIs PySem.F.entry_dict_get (PySem.F.args_dict_get_2 _ _) (meets_dict_get (mixKind X.prog X.w) a (kV_is ry) hd) ⟨_, dd.mapOf, h _ _ (I.tok _) ?_⟩
    rw [l]
    exact (rel.val k).getD rfl
  · subst ey
    cases (show u = Value.ref b from ry)
    obtain ⟨z, hd, xs, rel, dd⟩ := dt_rd I.hok e
    refine call_meetsIn PySem.F.slot_dict_get dd.typeIs PySem.F.entry_dict_get (PySem.F.args_dict_get_2 _ _) (meetsH_dict_get (tupleKind (mixKind X.prog X.w)) a b hd) ⟨tupleKind_room_in1 hu, k, xs, key_of I.hok eb, dd, h _ _ (I.tok _) ?_⟩
    rw [l]
    exact (rel.val k).getD rfl
/-- d.get(y, x) -/
theorem d_get2 {Q : Value → Shared → Prop} (hu : A.units + 1 < cLine) (I : Inv X pins σ H s) (g : DGet H a y o) (ry : RelV y u) (rd : RelV d r) (h : ∀ w' s', Inv X pins σ H s' → RelV (o.getD d) w' → Q w' s') :
    wpAny (model X.prog X.w) A (call (.builtin "dict.get") [.ref a, u, r]) Q E s := by
  rcases g with ⟨kvs, k, e, ey, l⟩ | ⟨kvs, k, b, e, ey, eb, l⟩
  · subst ey
    obtain ⟨z, hd, vs, rel, dd⟩ := dk_rd I.hok e
    refine call_meetsIn PySem.F.slot_dict_get dd.typeIs PySem.F.entry_dict_get (PySem.F.args_dict_get_3 _ _ _) (meets_dict_get_default (mixKind X.prog X.w) a (kV_is ry) hd r) ⟨_, dd.mapOf, h _ _ (I.tok _) ?_⟩
    rw [l]
    exact (rel.val k).getD rd
  · subst ey
    cases (show u = Value.ref b from ry)
    obtain ⟨z, hd, xs, rel, dd⟩ := dt_rd I.hok e
    refine call_meetsIn PySem.F.slot_dict_get dd.typeIs PySem.F.entry_dict_get (PySem.F.args_dict_get_3 _ _ _) (meetsH_dict_get_default (tupleKind (mixKind X.prog X.w)) a b hd r) ⟨tupleKind_room_in1 hu, k, xs, key_of I.hok eb, dd, h _ _ (I.tok _) ?_⟩
    rw [l]
    exact (rel.val k).getD rd
end

def tDGet1 (td ty : TE) : TE := fun σ H Q => td σ H fun x H1 => ∃ a, x = .ref a ∧ IsD H1 a ∧ ty σ H1 fun y H2 => ∃ o, DGet H2 a y o ∧ Q (o.getD .non) H2
def tDGet2 (td ty tx : TE) : TE := fun σ H Q => td σ H fun x H1 => ∃ a, x = .ref a ∧ IsD H1 a ∧ ty σ H1 fun y H2 => tx σ H2 fun z H3 => ∃ o, DGet H3 a y o ∧ Q (o.getD z) H3
/-- d.pop(k): there; d.pop(k, x): there or not -/
def tDPop1 (td ty : TE) : TE := fun σ H Q => td σ H fun x H1 => ∃ a, x = .ref a ∧ IsD H1 a ∧ ty σ H1 fun y H2 => ∃ kvs k v, H2 a = some (.dK kvs) ∧ y = kV k ∧ valV kvs k = some v ∧ Q v (upd H2 a (.dK (dropK kvs k)))
def tDPop2 (td ty tx : TE) : TE := fun σ H Q => td σ H fun x H1 => ∃ a, x = .ref a ∧ IsD H1 a ∧ ty σ H1 fun y H2 => tx σ H2 fun z H3 => ∃ kvs k, H3 a = some (.dK kvs) ∧ y = kV k ∧
  (∀ v, valV kvs k = some v → Q v (upd H3 a (.dK (dropK kvs k)))) ∧ (valV kvs k = none → Q z H3)
section
variable {X : Cx} {o e f : Expr} {apos cpos : Pos} {td ty tx : TE}
theorem pe_dget1 (hu : X.A.units + 1 < cLine) (ho : PE X o td) (he : PE X e ty) (m : M1 X o "get" apos e cpos) : PE X (.Call (.Attribute o "get" apos) [e] [] cpos) (tDGet1 td ty) := by
  intro pins s σ H Q I h
  refine wpAny_Call_method m.base m.few m.line PySem.F.plainAttrs_dict PySem.F.slot_dict_get PySem.F.type_dict_get (thn (ho pins s σ H _ I h) fun u s1 ⟨x, H1, I1, rx, a, ex, d, q1⟩ => ?_)
  subst ex
  obtain rfl : u = Value.ref a := rx
  obtain ⟨t1, t2, _⟩ := isD_at I1 d
  refine ⟨t1, t2, ?_⟩
  rw [m.trees]
  refine Calls.callWith_builtin rfl (Calls.evalArgs_plain (Calls.spliced_cons (thn (he pins s1 σ H1 _ I1 q1) fun iv s2 ⟨y, H2, I2, ry, ov, g, q2⟩ => Calls.spliced_nil ?_)))
  exact d_get1 hu I2 g ry fun w' s3 I3 rw' => ⟨_, H2, I3, rw', q2⟩
theorem pe_dget2 (hu : X.A.units + 1 < cLine) (ho : PE X o td) (he : PE X e ty) (hf : PE X f tx) (m : M2 X o "get" apos e f cpos) : PE X (.Call (.Attribute o "get" apos) [e, f] [] cpos) (tDGet2 td ty tx) := by
  intro pins s σ H Q I h
  refine wpAny_Call_method m.base m.few m.line PySem.F.plainAttrs_dict PySem.F.slot_dict_get PySem.F.type_dict_get (thn (ho pins s σ H _ I h) fun u s1 ⟨x, H1, I1, rx, a, ex, d, q1⟩ => ?_)
  subst ex
  obtain rfl : u = Value.ref a := rx
  obtain ⟨t1, t2, _⟩ := isD_at I1 d
  refine ⟨t1, t2, ?_⟩
  rw [m.trees]
  refine Calls.callWith_builtin rfl (Calls.evalArgs_plain (Calls.spliced_cons (thn (he pins s1 σ H1 _ I1 q1) fun iv s2 ⟨y, H2, I2, ry, q2⟩ =>
    Calls.spliced_cons (thn (hf pins s2 σ H2 _ I2 q2) fun fv s3 ⟨z, H3, I3, rz, ov, g, q3⟩ => Calls.spliced_nil ?_))))
  exact d_get2 hu I3 g ry rz fun w' s4 I4 rw' => ⟨_, H3, I4, rw', q3⟩
theorem pe_dpop1 (ho : PE X o td) (he : PE X e ty) (m : M1 X o "pop" apos e cpos) : PE X (.Call (.Attribute o "pop" apos) [e] [] cpos) (tDPop1 td ty) := by
  intro pins s σ H Q I h
  refine wpAny_Call_method m.base m.few m.line PySem.F.plainAttrs_dict PySem.F.slot_dict_pop PySem.F.type_dict_pop (thn (ho pins s σ H _ I h) fun u s1 ⟨x, H1, I1, rx, a, ex, d, q1⟩ => ?_)
  subst ex
  obtain rfl : u = Value.ref a := rx
  obtain ⟨t1, t2, _⟩ := isD_at I1 d
  refine ⟨t1, t2, ?_⟩
  rw [m.trees]
  refine Calls.callWith_builtin rfl (Calls.evalArgs_plain (Calls.spliced_cons (thn (he pins s1 σ H1 _ I1 q1) fun iv s2 ⟨y, H2, I2, ry, kvs, k, v, ea, ey, l, q2⟩ => Calls.spliced_nil ?_)))
  subst ey
  exact d_pop I2 ea ry l (.inl rfl) fun w' s3 I3 rw' => ⟨v, _, I3, rw', q2⟩
theorem pe_dpop2 (ho : PE X o td) (he : PE X e ty) (hf : PE X f tx) (m : M2 X o "pop" apos e f cpos) : PE X (.Call (.Attribute o "pop" apos) [e, f] [] cpos) (tDPop2 td ty tx) := by
  intro pins s σ H Q I h
  refine wpAny_Call_method m.base m.few m.line PySem.F.plainAttrs_dict PySem.F.slot_dict_pop PySem.F.type_dict_pop (thn (ho pins s σ H _ I h) fun u s1 ⟨x, H1, I1, rx, a, ex, d, q1⟩ => ?_)
  subst ex
  obtain rfl : u = Value.ref a := rx
  obtain ⟨t1, t2, _⟩ := isD_at I1 d
  refine ⟨t1, t2, ?_⟩
  rw [m.trees]
  refine Calls.callWith_builtin rfl (Calls.evalArgs_plain (Calls.spliced_cons (thn (he pins s1 σ H1 _ I1 q1) fun iv s2 ⟨y, H2, I2, ry, q2⟩ =>
    Calls.spliced_cons (thn (hf pins s2 σ H2 _ I2 q2) fun fv s3 ⟨z, H3, I3, rz, kvs, k, ea, ey, q3, q4⟩ => Calls.spliced_nil ?_))))
  subst ey
  cases l : valV kvs k with
  | some v => exact d_pop I3 ea ry l (.inr ⟨fv, rfl⟩) fun w' s4 I4 rw' => ⟨v, _, I4, rw', q3 v l⟩
  | none => exact d_popD I3 ea ry l fun s4 I4 => ⟨z, H3, I4, rz, q4 l⟩
end

/-! ### dict(d): a copy -/
section
variable {X : Cx} {pins : List (Addr × Obj)} {σ : St} {H : Hp} {s : Shared} {a : Addr} {kvs : List (Key × V)} {A : Around} {E : Value → Shared → Prop}
theorem d_copyOf {Q : Value → Shared → Prop} (I : Inv X pins σ H s) (e : Rd H a (.dK kvs)) (h : ∀ p s', H p = none → Inv X pins σ (upd H p (.dK kvs)) s' → Q (.ref p) s') : wpAny (model X.prog X.w) A (call (.type "dict") [.ref a]) Q E s := by
  obtain ⟨z, hd, vs, rel, dd⟩ := dk_rd I.hok e
  refine kt_call_dict hd dd (by rw [← rel.length]; exact z) fun h' dd' hs => ?_
  refine h _ _ (I.hok.fresh (Nat.le_refl _)) (I.laid (a := s.heap.objs.size) (o := .dK kvs) (t' := s.toks) (fun b q hq => ?_) (Nat.le_refl _) (dk_new z (beq_eq_false_iff_ne.mpr (Ne.symm (Nat.ne_of_lt I.big))) rel dd'))
  exact (hs.2 b (Nat.ne_of_lt (Heap.lt_size hq))).trans (Heap.get?_push_of_some _ hq)
end


section
variable {X : Cx} {pins : List (Addr × Obj)} {σ : St} {H : Hp} {s : Shared} {a : Addr} {y : V} {u : Value} {A : Around} {E : Value → Shared → Prop}
/-- d[y], not there: a KeyError -/
theorem d_missing {Q : Value → Shared → Prop} (hu : A.units + 1 < cLine) (hh : A.handled = none) (I : Inv X pins σ H s) (g : DGet H a y none) (ry : RelV y u)
    (h : ∀ h' e t', Heap.NewExc s.heap h' e "KeyError" → E (.ref e) { s with heap := h', toks := t' }) : wpAny (model X.prog X.w) A (getItem (.ref a) u) Q E s := by
  rcases g with ⟨kvs, k, e, ey, l⟩ | ⟨kvs, k, b, e, ey, eb, l⟩
  · subst ey
    obtain ⟨z, hd, vs, rel, dd⟩ := dk_rd I.hok e
    have hn : valueAt vs k = none := RelO.none_of (by rw [l]; exact rel.val k)
    exact wpAny_getItem_missing_of (kV_is ry) hd hh dd.mapOf hn fun h' ex ne => h h' ex _ ne
  · subst ey
    cases (show u = Value.ref b from ry)
    obtain ⟨z, hd, xs, rel, dd⟩ := dt_rd I.hok e
    have hn : (atKey xs k).map (·.2) = none := RelO.none_of (by rw [l]; exact rel.val k)
    exact wpAny_getItem_missing_heap (tupleKind_room_in1 hu) (key_of I.hok eb) hd hh dd (Option.map_eq_none_iff.mp hn) fun h' ex ne => h h' ex _ ne
end
end L2

namespace Att
open PySem PySem.W PySem.Calls PyProof.Rows

/-! ### the script -/
theorem ints_of_wellAll {P : Params} {h : Heap} : ∀ (ns : List Int) (vs : List Value), WellAll P h vs (ns.map WData.int) → IntsAre vs ns := by
  intro ns
  induction ns with
  | nil =>
    intro vs w
    rw [List.map_nil] at w
    cases w
    exact .nil
  | cons n ns ih =>
    intro vs w
    rw [List.map_cons] at w
    cases w with
    | cons a b =>
      cases a
      exact .cons _ _ (ih _ b)

theorem script_of {l : OpenLaw} {n : Nat} (hn : l.most = some n) {P : Params} {h : Heap} {args : List WData} {vals : List Value}
    (hpre : l.row.toRowW.claim.pre args = true) (hwl : WellAll P h vals args) :
    ∃ a vs ns, vals = [Value.ref a] ∧ args = [WData.list (ns.map WData.int)] ∧ h.get? a = some { cls := .type "list", data := .seq vs.toArray } ∧ IntsAre vs ns ∧ ns.length ≤ n := by
  have hsh : WShape.hasAll [] args [.list .int] = true := (pre_splitW hpre).1
  have hc : l.pre.holds [] { args := args } = true := (pre_splitW hpre).2
  obtain ⟨d, r, rfl, h1, h2⟩ := hasAllW_cons hsh
  obtain rfl := hasAllW_nil h2
  obtain ⟨xs, rfl, h3⟩ := hasW_list h1
  obtain ⟨ns, rfl⟩ := items_int h3
  have hlen : ns.length ≤ n := by
    unfold OpenLaw.pre at hc
    have h4 : (WTm.not (.lt (.lit (.int (n : Int))) (.len (.arg 0)))).holds [] { args := [.list (ns.map .int)] } = true := by
      have h4 := (holds_andW hc).1
      rw [hn] at h4
      exact h4
    have h5 := condW_of h4 (w_not (w_lt w_lit (w_len_list (w_arg rfl))))
    rw [List.length_map] at h5
    refine Nat.le_of_not_lt fun q => ?_
    have q' : (n : Int) < ((ns.length : Nat) : Int) := by omega
    first
      | (rw [decide_eq_true q'] at h5; exact absurd h5 (by decide))
      | (simp at h5; omega)
  cases hwl with
  | cons w1 w2 =>
    cases w2
    cases w1 with
    | list ho hall => exact ⟨_, _, ns, rfl, rfl, ho, ints_of_wellAll ns _ hall, hlen⟩

theorem post_true (l : OpenLaw) (args : List WData) : l.row.toRowW.claim.post args (.bool true) args = true :=
  postW_of (r := l.row.toRowW) (X := (true == true))
    (show WShape.has [] (.bool true) .bool = true by first | rfl | decide | simp [WShape.has, WShape.arms, WShape.armsAll])
    (show (WTm.eq .res (.lit (.bool true))).value [] { args := args, res := some (.bool true), after := args } = some (.bool (true == true)) from w_eq_bool (w_res rfl) w_lit) rfl

/-! ### the attachment: holds_open's last premise (the goal 'hc' behind k_head) from a wpAny of the law's body -/
theorem attach {l : OpenLaw} {n : Nat} {q : Program} {loose : List Str} {XP : (Str → Option Value) → Heap → Prop} {YP : World → Heap → Prop} {d : DefRec} {x : Str}
    (hn : l.most = some n) (hdf : d.params.defaults = [])
    (hbind : ∀ pm cd doc v : Value, bindArgs (docDef d.name d.params d.body d.scope pm cd doc) ⟨[v], []⟩ = pure [(x, v)])
    (hx : d.scope.names.lookup x = some .local ∨ d.scope.names.lookup x = some .cell)
    (hk : d.scope.kind = .function) (hco : d.scope.isCoroutine = false) (hgen : d.scope.isGenerator = false)
    (body : ∀ (w : World) (s₀ s₁ s : Shared) (mg mb : Str → Option Value) (fa : Addr) (o : Obj) (pm cd doc : Value) (a : Addr) (vs : List Value) (ns : List Int),
      Ground q loose [] XP w s₀ mg mb s₁.heap → YP w s₁.heap →
      s₁.heap.get? fa = some o → o.data = .func (docDef d.name d.params d.body d.scope pm cd doc) → s₁.heap.CodeRec cd d.name → mg d.name = some (.ref fa) →
      s₁.heap.get? a = some { cls := .type "list", data := .seq vs.toArray } → IntsAre vs ns → ns.length ≤ n →
      s.gens = #[] → s.os = s₁.os →
      Fr s₁.heap s₁.heap.objs.size s.heap (bindL (envOfC d.name d.scope s₁.heap.objs.size fa cd).kindOf [(x, .ref a)] fun _ => none) →
      Cl s₁.heap.objs.size (cellsFrom (s₁.heap.objs.size + 1) d.scope.names []) s.heap (bindC (envOfC d.name d.scope s₁.heap.objs.size fa cd).kindOf [(x, .ref a)] fun _ => none) →
      wpAny (model l.prog w) (callerA.deeper (envOfC d.name d.scope s₁.heap.objs.size fa cd)) (execs d.body (envOfC d.name d.scope s₁.heap.objs.size fa cd))
        (fun f s' => f = .ret (.bool true) ∧ OldK s₁.heap s'.heap ∧ s'.os = s₁.os ∧ AllBare s'.gens) (fun _ _ => False) s) :
    WalkO q loose XP YP l.row.toRowW d [] (fun f vs => PySem.call f vs) := by
  intro w s₀ s₁ mg mb G Y fa o pm cd doc dV kV ho hd hcd hD hmg hg args vals as hpre hlay hrd hwl hlo
  obtain rfl : dV = .none := Dflts.none hD hdf
  obtain rfl : kV = .none := Dflts.noKw hD
  obtain ⟨a, vs, ns, rfl, rfl, hobj, hints, hlen⟩ := script_of hn hpre hwl
  refine enter_call ?_
  refine call_cells_ret (o := o) (by rw [depth_caller]; decide) ho (fd_plain hd) G.T.nolimit hcd (hbind pm cd doc (.ref a)) (fun y hy => ?_) (fun h₁ tk F X => ?_) hco hgen hk
  · obtain rfl : y = (x, Value.ref a) := List.mem_singleton.mp hy
    rcases hx with e | e
    · exact .inl e
    · exact .inr ⟨e, cellsFrom_some _ _ _ (.inl e)⟩
  · refine wpAny_mono (body w s₀ s₁ { s₁ with heap := h₁, toks := tk } mg mb fa o pm cd doc a vs ns G Y ho (fd_plain hd) hcd hmg hobj hints hlen hg rfl F X) (fun f s' hq => ?_) (fun _ _ hq => hq)
    obtain ⟨rfl, h2, h3, h4⟩ := hq
    exact ⟨.inl ⟨.bool true, .bool true, [], rfl, fun _ => rfl, .bool true, post_true l _, fun _ => ⟨List.Pairwise.nil, fun _ hm => (nomatch hm)⟩⟩, h2, h3, h4⟩

/-- the same from a codeAny of the CALL (for a layer whose function contracts speak of calls) -/
theorem attach_call {l : OpenLaw} {n : Nat} {q : Program} {loose : List Str} {XP : (Str → Option Value) → Heap → Prop} {YP : World → Heap → Prop} {d : DefRec}
    (hn : l.most = some n) (hdf : d.params.defaults = [])
    (call : ∀ (w : World) (s₀ s₁ : Shared) (mg mb : Str → Option Value) (fa : Addr) (o : Obj) (pm cd doc : Value) (a : Addr) (vs : List Value) (ns : List Int),
      Ground q loose [] XP w s₀ mg mb s₁.heap → YP w s₁.heap →
      s₁.heap.get? fa = some o → o.data = .func (docDef d.name d.params d.body d.scope pm cd doc) → s₁.heap.CodeRec cd d.name → mg d.name = some (.ref fa) →
      s₁.heap.get? a = some { cls := .type "list", data := .seq vs.toArray } → IntsAre vs ns → ns.length ≤ n → s₁.gens = #[] →
      codeAny (model l.prog w) callerA (.call (.ref fa) ⟨[.ref a], []⟩) (fun r s' => r = .ok (.ret (.bool true)) ∧ OldK s₁.heap s'.heap ∧ s'.os = s₁.os ∧ AllBare s'.gens) s₁) :
    WalkO q loose XP YP l.row.toRowW d [] (fun f vs => PySem.call f vs) := by
  intro w s₀ s₁ mg mb G Y fa o pm cd doc dV kV ho hd hcd hD hmg hg args vals as hpre hlay hrd hwl hlo
  obtain rfl : dV = .none := Dflts.none hD hdf
  obtain rfl : kV = .none := Dflts.noKw hD
  obtain ⟨a, vs, ns, rfl, rfl, hobj, hints, hlen⟩ := script_of hn hpre hwl
  refine enter_call (codeAny_mono (call w s₀ s₁ mg mb fa o pm cd doc a vs ns G Y ho (fd_plain hd) hcd hmg hobj hints hlen hg) fun r s' hq => ?_)
  obtain ⟨rfl, h2, h3, h4⟩ := hq
  exact ⟨.inl ⟨.bool true, .bool true, [], rfl, fun _ => rfl, .bool true, post_true l _, fun _ => ⟨List.Pairwise.nil, fun _ hm => (nomatch hm)⟩⟩, h2, h3, h4⟩

/-- the same where the top left finished generators (o_head chose holds_openN): nothing may have changed at all and no generator may be left -/
theorem attachN {l : OpenLaw} {n : Nat} {q : Program} {loose : List Str} {XP : (Str → Option Value) → Heap → Prop} {YP : World → Heap → Prop} {d : DefRec} {x : Str}
    (hn : l.most = some n) (hdf : d.params.defaults = [])
    (hbind : ∀ pm cd doc v : Value, bindArgs (docDef d.name d.params d.body d.scope pm cd doc) ⟨[v], []⟩ = pure [(x, v)])
    (hx : d.scope.names.lookup x = some .local ∨ d.scope.names.lookup x = some .cell)
    (hk : d.scope.kind = .function) (hco : d.scope.isCoroutine = false) (hgen : d.scope.isGenerator = false)
    (body : ∀ (w : World) (s₀ s₁ s : Shared) (mg mb : Str → Option Value) (fa : Addr) (o : Obj) (pm cd doc : Value) (a : Addr) (vs : List Value) (ns : List Int),
      Ground q loose [] XP w s₀ mg mb s₁.heap → YP w s₁.heap →
      s₁.heap.get? fa = some o → o.data = .func (docDef d.name d.params d.body d.scope pm cd doc) → s₁.heap.CodeRec cd d.name → mg d.name = some (.ref fa) →
      s₁.heap.get? a = some { cls := .type "list", data := .seq vs.toArray } → IntsAre vs ns → ns.length ≤ n →
      s.gens = #[] → s.os = s₁.os →
      Fr s₁.heap s₁.heap.objs.size s.heap (bindL (envOfC d.name d.scope s₁.heap.objs.size fa cd).kindOf [(x, .ref a)] fun _ => none) →
      Cl s₁.heap.objs.size (cellsFrom (s₁.heap.objs.size + 1) d.scope.names []) s.heap (bindC (envOfC d.name d.scope s₁.heap.objs.size fa cd).kindOf [(x, .ref a)] fun _ => none) →
      wpAny (model l.prog w) (callerA.deeper (envOfC d.name d.scope s₁.heap.objs.size fa cd)) (execs d.body (envOfC d.name d.scope s₁.heap.objs.size fa cd))
        (fun f s' => f = .ret (.bool true) ∧ (∀ b o, s₁.heap.get? b = some o → s'.heap.get? b = some o) ∧ s'.os = s₁.os ∧ s'.gens = #[]) (fun _ _ => False) s) :
    WalkN q loose XP YP l.row.toRowW d [] (fun f vs => PySem.call f vs) := by
  intro w s₀ s₁ mg mb G Y fa o pm cd doc dV kV ho hd hcd hD hmg hg args vals as hpre hlay hrd hwl hlo
  obtain rfl : dV = .none := Dflts.none hD hdf
  obtain rfl : kV = .none := Dflts.noKw hD
  obtain ⟨a, vs, ns, rfl, rfl, hobj, hints, hlen⟩ := script_of hn hpre hwl
  refine enter_callW ?_
  refine call_cells_ret (o := o) (by rw [depth_caller]; decide) ho (fd_plain hd) G.T.nolimit hcd (hbind pm cd doc (.ref a)) (fun y hy => ?_) (fun h₁ tk F X => ?_) hco hgen hk
  · obtain rfl : y = (x, Value.ref a) := List.mem_singleton.mp hy
    rcases hx with e | e
    · exact .inl e
    · exact .inr ⟨e, cellsFrom_some _ _ _ (.inl e)⟩
  · refine wpAny_mono (body w s₀ s₁ { s₁ with heap := h₁, toks := tk } mg mb fa o pm cd doc a vs ns G Y ho (fd_plain hd) hcd hmg hobj hints hlen hg rfl F X) (fun f s' hq => ?_) (fun _ _ hq => hq)
    obtain ⟨rfl, h2, h3, h4⟩ := hq
    exact ⟨.inl ⟨.bool true, .bool true, [], rfl, fun _ => rfl, .bool true, post_true l _, fun _ => ⟨List.Pairwise.nil, fun _ hm => (nomatch hm)⟩⟩, h2, h3, h4⟩

/-! ### rules over ANY heap (no ledger) from facts about the written part K: the library's own take a ledger (News) for what they write -/
section
variable {prog : Program} {w : World} {A : Around} {E : Value → Shared → Prop} {s : Shared} {K : Frag}

/-- a def of the module, or a method (qual 'C.m'), entered: the frame is the next address; cells behind it -/
theorem call_fn {R : Result → Shared → Prop} {name qual : Str} {params : Arguments} {body : List Stmt} {scope : Scope} {dV kV doc pm cdv ct oc : Value} {an od : Option Addr} {osl : Array (Option Value)} {f : Addr} {args : Args} {binds : List (Str × Value)}
    (X : K.In s.heap) (hlim : s.heap.NoLimit) (ho : K.lookup f = some ⟨oc, od, .func (fnOf name qual params body scope dV kV doc pm an cdv ct), osl⟩) (hcd : codeIn K cdv qual = true) (hroom : A.depth < recursionLimit)
    (hbind : BindsTo s (fnOf name qual params body scope dV kV doc pm an cdv ct) args binds)
    (hkind : (binds.all fun y => scope.names.lookup y.1 == some .local || scope.names.lookup y.1 == some .cell) = true)
    (h : ∀ s₁, InCallC s s.heap.objs.size (bindL (envOfC qual scope s.heap.objs.size f cdv).kindOf binds fun _ => none) (cellsFrom (s.heap.objs.size + 1) scope.names [])
        (bindC (envOfC qual scope s.heap.objs.size f cdv).kindOf binds fun _ => none) s₁ →
      wpAny (model prog w) (A.deeper (envOfC qual scope s.heap.objs.size f cdv)) (execs body (envOfC qual scope s.heap.objs.size f cdv))
        (fun fl s' => R (.ok (.ret (match fl with | .ret v => v | _ => .none))) s')
        (fun e s' => wpAny (model prog w) (A.deeper (envOfC qual scope s.heap.objs.size f cdv)) (leaving (envOfC qual scope s.heap.objs.size f cdv) e) (fun _ s'' => R (.error e) s'') (fun e' s'' => R (.error e') s'') s') s₁)
    (hco : scope.isCoroutine = false) (hgen : scope.isGenerator = false) (hk : scope.kind = .function) : codeAny (model prog w) A (.call (.ref f) args) R s := by
  refine codeAny_call_function hroom (X _ _ ho) rfl hco hgen rfl (codeRec_of X hcd) (hbind _ _ _ _ ?_)
  refine wpAny_newFunctionEnv_cells hk (kindsX hkind _) fun env he s₁ x => ?_
  subst he
  exact ⟨hlim.keeps x.toInCall.keep, codeAny_func (h s₁ x)⟩

/-- C(..): dict at size, instance at size + 1, then __init__ -/
theorem make_obj {R : Result → Shared → Prop} {C fI : Addr} {rest : List Value} {kw : List (Str × Value)}
    (X : K.In s.heap) (hm : makesIn K C = true) (hi : findIn K (.ref C) "__init__" = some (some (.ref fI))) (hf : isFn K (.ref fI) = true)
    (h : codeAny (model prog w) (A.under (.builtin "type.__call__" ⟨.ref C :: rest, kw⟩)) (.call (.ref fI) ⟨.ref (s.heap.objs.size + 1) :: rest, kw⟩) (InitBack (s.heap.objs.size + 1) R)
      { s with heap := (s.heap.push emptyDict).push (instObj C s.heap.objs.size) }) : codeAny (model prog w) A (.call (.ref C) ⟨rest, kw⟩) R s := by
  obtain ⟨hh, g, d, t, os⟩ := s
  exact make_core (makes_of X hm) (looks_findIn X hi) (fun self => bind_fn X self (beq_iff_eq.mp hf)) (.inl rfl) h

/-- x.name where the instance's dict holds the name and the class does not -/
theorem get_field {x C : Addr} {ox : Obj} {es : List DictEntry} {n : Nat} {name : Str} {expr : Bool} {v : Value} {Q : Value → Shared → Prop}
    (X : K.In s.heap) (I : PySem.W.InstAt s.heap x ox C (some (dictOf es n))) (hg : plainGet K C name = true) (hh : hasDictIn K C = true) (ha : findIn K (.ref C) name = some none)
    (hl : getL name es = some (some v)) (hv : handedIn v = true) (h : Q v { s with toks := s.toks + 1 }) : wpAny (model prog w) A (getAttr (.ref x) name expr) Q E s :=
  get_value X I (plainGet_of hg).1 (findObj_own hh ha rfl hl) hv h

/-- x.m(..): the method found in the class -/
theorem get_method {x C f : Addr} {ox : Obj} {es : List DictEntry} {n : Nat} {name : Str} {pl : Sem Bool} {Q : Value × List Value → Shared → Prop}
    (X : K.In s.heap) (I : PySem.W.InstAt s.heap x ox C (some (dictOf es n))) (hg : plainGet K C name = true) (hf : findIn K (.ref C) name = some (some (.ref f))) (ht : isFn K (.ref f) = true)
    (hl : getL name es = some none) (h : Q (.ref f, [.ref x]) s) : wpAny (model prog w) A (getMethod (.ref x) name pl) Q E s :=
  method_fn X I (plainGet_of hg).1 (plainGet_of hg).2 hf (beq_iff_eq.mp ht) (by show (lookIn name (dictOf es n)).map _ = _; rw [lookIn_dict, hl]; rfl) h

/-! the whole heap as the ledger: makes every rule that writes through a ledger a rule over any heap -/
def noObjs (h : Heap) : Heap := { h with objs := #[] }
theorem noObjs_get (h : Heap) (b : Addr) : (noObjs h).get? b = none := by
  cases e : (noObjs h).get? b with
  | none => rfl
  | some o => exact absurd (Heap.lt_size e) (Nat.not_lt_zero _)
def ledger (h : Heap) (L d : Addr) : List (Addr × Obj) := (List.range h.objs.size).filterMap fun a => if a = L ∨ a = d then none else (h.get? a).map fun o => (a, o)
theorem mem_ledger {h : Heap} {L d a : Addr} {o : Obj} : (a, o) ∈ ledger h L d ↔ a ≠ L ∧ a ≠ d ∧ h.get? a = some o := by
  unfold ledger
  rw [List.mem_filterMap]
  constructor
  · rintro ⟨b, _, e⟩
    split at e
    · cases e
    · rename_i hb
      obtain ⟨o', ho, e'⟩ := Option.map_eq_some_iff.mp e
      cases e'
      exact ⟨fun q => hb (.inl q), fun q => hb (.inr q), ho⟩
  · rintro ⟨n1, n2, ho⟩
    refine ⟨a, List.mem_range.mpr (Heap.lt_size ho), ?_⟩
    rw [if_neg (show ¬ (a = L ∨ a = d) from fun q => q.elim n1 n2), ho] <;> rfl
theorem news_ledger {h : Heap} {L d : Addr} {od : Obj} (hne : d ≠ L) (ho : h.get? d = some od) : News (noObjs h) L h ([] ++ (d, od) :: ledger h L d) := by
  rintro ⟨a, o⟩ hp
  rcases List.mem_cons.mp hp with e | hp
  · cases e
    exact ⟨ho, hne, noObjs_get _ _⟩
  · obtain ⟨n1, n2, e⟩ := mem_ledger.mp hp
    exact ⟨e, n1, noObjs_get _ _⟩
theorem fr_all {h : Heap} {L : Addr} {m : Str → Option Value} (n : h.Ns L m) : Fr (noObjs h) L h m :=
  ⟨n, fun b o e => (by rw [noObjs_get] at e; cases e), Nat.zero_le _⟩
/-- Upd of the head entry (for append_K, setItem_K ..) -/
theorem upd_ledger {h : Heap} {L d : Addr} {o o' : Obj} : Upd d o o' ((d, o) :: ledger h L d) ((d, o') :: ledger h L d) :=
  .head fun ⟨_, _⟩ hp => (mem_ledger.mp hp).2.1

/-- x.name = v over any heap: L is any namespace of the heap (the frame's, say): its map stays, its object is not told; all else but the dict stays -/
theorem set_field {x C dx L : Addr} {ox : Obj} {m : Str → Option Value} {es es' : List DictEntry} {n n' : Nat} {name : Str} {v : Value} {Q : Unit → Shared → Prop}
    (X : K.In s.heap) (I : PySem.W.InstAt s.heap x ox C (some (dictOf es n))) (hd : ox.dict = some dx) (hL : s.heap.Ns L m) (hne : dx ≠ L)
    (hs : findIn K (.ref C) "__setattr__" = some (some (.builtin "object.__setattr__"))) (hp : plainOver K C = true) (ht : takerIn K C name = some none) (hh : hasDictIn K C = true) (hl : (getL name es).isSome = true)
    (e : (putL name (PyData.keyHash w.params name) (.str name (s.toks + 1)) v es, putN name es n) = (es', n')) (hz : es'.length ≤ 1000)
    (h : ∀ h' : Heap, h'.Ns L m → h'.get? dx = some (dictOf es' n') → (∀ b o, b ≠ dx → b ≠ L → s.heap.get? b = some o → h'.get? b = some o) → Q () { s with heap := h', toks := s.toks + 2 }) :
    wpAny (model prog w) A (setAttr (.ref x) name v) Q E s := by
  obtain ⟨e1, e2⟩ := Prod.mk.inj e
  have hdx : s.heap.get? dx = some (dictOf es n) := by
    have := I.dict
    rw [hd] at this
    exact this
  refine set_plain X I hs (osa_dict (s := { s with toks := s.toks + 1 }) (h₀ := noObjs s.heap) (L := L) (m := m) (od := dictOf es n) (od' := dictOf es' n') (es := es') (n := n') (pre := []) (post := ledger s.heap L dx)
    (fr_all hL) (news_ledger hne hdx) X I hd hp ht hh hl (fun _ q => nomatch q) (fun ⟨_, _⟩ q => (mem_ledger.mp q).2.1) (by rw [putName_dict, e1, e2]) rfl hz fun h' F' N' => ?_)
  exact h h' F'.ns (N'.get (List.Mem.head _)) fun b o n1 n2 ho => N'.get (List.Mem.tail _ (mem_ledger.mpr ⟨n2, n1, ho⟩))
end
end Att

namespace L2
open PySem PySem.Spec PyProof.Rows

theorem vals_ints : ∀ {vs : List Value} {ns : List Int}, IntsAre vs ns → Vals (ns.map V.int) vs
  | _, _, .nil => .nil
  | _, _, .cons n t h => .cons ⟨t, rfl⟩ (vals_ints h)

/-- nothing is tracked but the script, known to the object (or it is an object of the module) -/
def Only (H : Hp) : Prop := ∀ b, H b = none ∨ ∃ o xs, H b = some (.frz o (.lst xs))

/-- THE HEAD: the law's promise, at the heap behind the top. F, the promise of the law's def, may use that base is part of the heap (so K.In base, base.Ns mainGlobals mg stand in Mod) -/
theorem law_call {P : Program} {w : World} {K : PySem.W.Frag} {mg mb : Str → Option Value} {CX : CXT} {k : Nat} {fa a : Addr} {fd : FuncData} {x : Str} {sp : Sp} {s₁ : Shared} {vs : List Value} {ns : List Int}
    (KX : K.In s₁.heap) (hns : s₁.heap.Ns mainGlobals mg) (hb : s₁.heap.Ns builtinsNs mb) (hbb : ∀ x : Str, x ≠ "__name__" → mb x = bootBuiltins x) (hlim : s₁.heap.NoLimit) (hg : s₁.gens = #[])
    (ha : s₁.heap.get? a = some { cls := .type "list", data := .seq vs.toArray }) (hi : IntsAre vs ns) (hl : ns.length ≤ sizeLine) (hr : Room k callerA)
    (F : ∀ base : Heap, K.In base → base.Ns mainGlobals mg → FnOk P w K mg base CX k fa fd [x] sp) (hbind : ∀ (s : Shared) (u : Value), BindsTo s fd ⟨[u], []⟩ [(x, u)])
    (hsp : ∀ H : Hp, Only H → SqL K H a (ns.map V.int) → sp [.ref a] H (fun v _ => v = .bl true) fun _ _ _ => False)
    (hCX : ∀ H e s', CX [] H s₁ (fun _ _ _ => False) e s' → False) :
    codeAny (model P w) callerA (.call (.ref fa) ⟨[.ref a], []⟩) (fun r s' => r = .ok (.ret (.bool true)) ∧ OldK s₁.heap s'.heap ∧ s'.os = s₁.os ∧ AllBare s'.gens) s₁ := by
  have rv := vals_ints hi
  have lenV := hi.length
  -- from an abstract heap in which nothing but the script may be tracked
  have core : ∀ H : Hp, Only H → SqL K H a (ns.map V.int) → HOk P w H s₁.heap → (∀ b, H b ≠ none → b = a) → (H a ≠ none → K.lookup a = none) →
      codeAny (model P w) callerA (.call (.ref fa) ⟨[.ref a], []⟩) (fun r s' => r = .ok (.ret (.bool true)) ∧ OldK s₁.heap s'.heap ∧ s'.os = s₁.os ∧ AllBare s'.gens) s₁ := by
    intro H hO hS hok hA hK
    have base_of : ∀ {b : Addr} {o : Obj}, s₁.heap.get? b = some o → H b = none → (hidT s₁.heap H).get? b = some o := fun e n => hidT_get e n
    have noA : ∀ {b : Addr} {o : Obj} {es : Array DictEntry} {ep : Nat}, s₁.heap.get? b = some o → o.data = .dict es ep → H b = none := fun {b o es ep} e d => by
      cases q : H b with
      | none => rfl
      | some u =>
        have e' : b = a := hA b (by rw [q]; simp)
        subst e'
        rw [ha] at e; cases e
        have d' : Data.seq vs.toArray _ = Data.dict es ep := d
        cases d'
    have nsK : ∀ {b : Addr} {m : Str → Option Value}, s₁.heap.Ns b m → (hidT s₁.heap H).Ns b m := fun {b m} ⟨o, es, ep, e, d, r⟩ => ⟨o, es, ep, base_of e (noA e d), d, r⟩
    have hKb : K.In (hidT s₁.heap H) := fun b o e => base_of (KX b o e) (by
      cases q : H b with
      | none => rfl
      | some u =>
        have e' : b = a := hA b (by rw [q]; simp)
        subst e'
        rw [hK (by rw [q]; simp)] at e; cases e)
    have hM : Mod K mg (hidT s₁.heap H) := ⟨hKb, nsK hns, ⟨mb, nsK hb, hbb⟩, let ⟨mc, h1, h2⟩ := hlim; ⟨mc, nsK h1, h2⟩⟩
    have e0 : Env0 P w K mg (hidT s₁.heap H) callerA [] s₁ H := ⟨rfl, hM, fun b o e => of_hidT e, Nat.le_of_eq (hidT_size _ _), trivial, fun b hb => absurd (show b ∈ ([] : List Addr) from hb) (by simp), hok, .of_eq hg⟩
    refine codeAny_mono ((F _ hKb (nsK hns)).run callerA [] s₁ H ⟨[.ref a], []⟩ [.ref a] [.ref a] _ _ hr e0 (hbind s₁ (.ref a)) (.cons rfl .nil) (hsp H hO hS)) fun r s' h => ?_
    cases r with
    | error e => exact (hCX H e s' h).elim
    | ok fl =>
      cases fl with
      | next => exact False.elim h
      | brk => exact False.elim h
      | cont => exact False.elim h
      | ret u =>
        obtain ⟨v, H', os, bare, un, hok', r', q⟩ := h
        have q' : v = .bl true := q
        subst q'
        obtain rfl : u = Value.bool true := r'
        refine ⟨rfl, OldK.of_keep fun b o e => ?_, os, bare⟩
        cases q : H b with
        | none => exact un.keep b o e q (by intro z; exact absurd (show b ∈ ([] : List Addr) from z) (by simp)) (by simp)
        | some u =>
          rcases hO b with z | ⟨ob, xs, z⟩
          · rw [q] at z; cases z
          · have z2 := un.frzs b ob _ z
            obtain ⟨e1, _⟩ := hok b _ z
            obtain ⟨e2, _⟩ := hok' b _ z2
            rw [e] at e1; cases e1
            exact e2
  cases hk : K.lookup a with
  | some o =>
    -- the script is one of the module's own objects
    have e := KX a o hk
    rw [ha] at e
    cases e
    refine core (fun _ => none) (fun _ => .inl rfl) (.inr ⟨_, vs.toArray, _, hk, rfl, rfl, rfl, by rw [List.size_toArray, lenV]; exact hl, by simpa using rv⟩) (fun b u z => by have z' : (none : Option HO) = some u := z; cases z') (fun b z => absurd rfl z) fun z => absurd rfl z
  | none =>
    refine core (fun b => if b = a then some (.frz { cls := .type "list", data := .seq vs.toArray } (.lst (ns.map V.int))) else none) (fun b => ?_) (.inl (.inr ⟨{ cls := .type "list", data := .seq vs.toArray }, if_pos rfl⟩)) (fun b u z => ?_) (fun b z => ?_) fun _ => hk
    · by_cases hb : b = a
      · exact .inr ⟨_, _, if_pos hb⟩
      · exact .inl (if_neg hb)
    · by_cases hb : b = a
      · have z' := (if_pos hb).symm.trans z
        cases z'
        subst hb
        exact ⟨ha, by rw [List.length_map]; exact hl, vs, _, rv, ha⟩
      · have z' := (if_neg hb).symm.trans z
        cases z'
    · by_cases hb : b = a
      · exact hb
      · exact absurd (if_neg hb) z
end L2

namespace L2
open PySem PySem.Spec PyProof.Rows

abbrev KOf {K : PySem.W.Frag} {h : Heap} (_ : K.In h) : PySem.W.Frag := K

/-- the goal that k_head leaves (case hc), from the law's promise. F gives the function object fd (K's own) once, then the promise over every base -/
theorem walk_of {l : PySem.W.OpenLaw} {n k : Nat} {q : Program} {loose : List Str} {XP : (Str → Option Value) → Heap → Prop} {YP : World → Heap → Prop} {d : DefRec} {K : Params → PySem.W.Frag} {CX : World → CXT} {sp : World → Sp} {x : Str}
    (hn : l.most = some n) (hn2 : n ≤ sizeLine) (hdf : d.params.defaults = []) (hr : Room k callerA)
    (hY : ∀ (w : World) (h : Heap), YP w h → (K w.params).In h)
    (F : ∀ (w : World) (mg : Str → Option Value) (fa : Addr) (h : Heap), (K w.params).In h → h.Ns mainGlobals mg → mg d.name = some (.ref fa) →
      ∃ fd : FuncData, (∀ (s : Shared) (u : Value), BindsTo s fd ⟨[u], []⟩ [(x, u)]) ∧
        ∀ base : Heap, (K w.params).In base → base.Ns mainGlobals mg → FnOk l.prog w (K w.params) mg base (CX w) k fa fd [x] (sp w))
    (hsp : ∀ (w : World) (H : Hp) (a : Addr) (ns : List Int), ns.length ≤ n → Only H → SqL (K w.params) H a (ns.map V.int) → sp w [.ref a] H (fun v _ => v = .bl true) fun _ _ _ => False)
    (hCX : ∀ (w : World) (H : Hp) (s : Shared) (e : Value) (s' : Shared), CX w [] H s (fun _ _ _ => False) e s' → False) :
    PySem.W.WalkO q loose XP YP l.row.toRowW d [] (fun f vs => PySem.call f vs) := by
  refine Att.attach_call hn hdf fun w s₀ s₁ mg mb fa o pm cd doc a vs ns G Y ho hd hcd hmg hobj hints hlen hg => ?_
  have KX := hY w _ Y
  obtain ⟨fd, hb, hF⟩ := F w mg fa _ KX G.T.g hmg
  exact law_call KX G.T.g G.T.b G.T.builtins G.T.nolimit hg hobj hints (Nat.le_trans hlen hn2) hr hF hb (fun H hO hS => hsp w H a ns hlen hO hS) fun H e s' => hCX w H s₁ e s'
/-- the same where the promise hangs on the written part alone: (sp := My.sp_law), no hole under a binder -/
theorem walk_ofK {l : PySem.W.OpenLaw} {n k : Nat} {q : Program} {loose : List Str} {XP : (Str → Option Value) → Heap → Prop} {YP : World → Heap → Prop} {d : DefRec} {K : Params → PySem.W.Frag} {CX : CXT} {sp : PySem.W.Frag → Sp} {x : Str}
    (hn : l.most = some n) (hn2 : n ≤ sizeLine) (hdf : d.params.defaults = []) (hr : Room k callerA)
    (hY : ∀ (w : World) (h : Heap), YP w h → (K w.params).In h)
    (F : ∀ (w : World) (mg : Str → Option Value) (fa : Addr) (h : Heap), (K w.params).In h → h.Ns mainGlobals mg → mg d.name = some (.ref fa) →
      ∃ fd : FuncData, (∀ (s : Shared) (u : Value), BindsTo s fd ⟨[u], []⟩ [(x, u)]) ∧
        ∀ base : Heap, (K w.params).In base → base.Ns mainGlobals mg → FnOk l.prog w (K w.params) mg base CX k fa fd [x] (sp (K w.params)))
    (hsp : ∀ (K : PySem.W.Frag) (H : Hp) (a : Addr) (ns : List Int), ns.length ≤ n → Only H → SqL K H a (ns.map V.int) → sp K [.ref a] H (fun v _ => v = .bl true) fun _ _ _ => False)
    (hCX : ∀ (H : Hp) (s : Shared) (e : Value) (s' : Shared), CX [] H s (fun _ _ _ => False) e s' → False) :
    PySem.W.WalkO q loose XP YP l.row.toRowW d [] (fun f vs => PySem.call f vs) :=
  walk_of (K := K) (CX := fun _ => CX) (sp := fun w => sp (K w.params)) hn hn2 hdf hr hY F (fun w H a ns h1 h2 h3 => hsp (K w.params) H a ns h1 h2 h3) fun _ H s e s' => hCX H s e s'
end L2

/- THE LAST THEOREM (shape; LID, My.* are yours):
   My.Adr: a structure of the addresses that your layer names (classes, functions); My.Txt K t: a structure (Prop) of the equations over K;
   My.txt_mk : {K} {implicit addresses ..} (e1 : nsIn K mainGlobals "law" = some (some (.ref f))) (e2 : K.lookup f = some ⟨oc, od, .func (fnOf "law" "law" params body scope dV kV doc pm an cdv ct), sl⟩) (e3 : codeIn K cdv "law" = true) .. : ∃ t, My.Txt K t

set_option maxRecDepth 100000 in
set_option maxHeartbeats 0 in
theorem PySem.Challenge.cw_LID_holds : PySem.Challenge.rw_LID.Holds := by
  w_on; o_law; k_head; (case hw => w_witness2)
  k_fill
  refine L2.walk_of (l := PySem.Challenge.rw_LID) (n := 63) (k := 40) (x := "script") (CX := fun w => ..) (sp := fun _ => My.sp_law) rfl (by decide) rfl ⟨rfl, by decide, by decide⟩ (fun w h Y => PySem.W.kIn_of Y) ?F ?S ?C
  case F =>
    intro w mg fa h KX G hmg
    have T : ∃ t, My.Txt (L2.KOf KX) t := by
      dsimp only [L2.KOf]                          -- K must stand as «<heap const> w.params» for k_is
      refine' My.txt_mk ?e1 ?e2 ?e3 ..
      (case e1 => PySem.W.k_is)                    -- in the order: a name -> its address -> its object -> its parts
      (case e2 => PySem.W.k_is)
      ..
    obtain ⟨t, T⟩ := T
    have e0 := hmg.symm.trans (PySem.W.mg_of KX G T.law)
    cases e0                                       -- fa is the law's own address
    exact ⟨_, fun s u => .of_eq rfl, fun base kb nb => My.law_fn T kb nb⟩     -- if «.of_eq rfl» comes too early: refine' ⟨_, ?b, fun base kb nb => My.law_fn T kb nb⟩; exact fun s u => .of_eq rfl
  case S => exact fun w H a ns hl hO hS => ..
  case C => exact ..
(the tactic k_is has no namespace: write k_is) -/

/-! SHORT WORDS over the layer: a def of the text, its body, what a loop and a test want. -/
namespace L2
open PySem PySem.Spec PyProof.Rows

/-! ### the text by places -/
/-- the j-th statement of a class's body -/
def inClass (s : Stmt) (j : Nat) : Stmt := match s with
  | .ClassDef _ _ _ body _ _ _ _ _ _ _ => body.getD j (.Pass ⟨0, 0, 0, 0⟩)
  | _ => .Pass ⟨0, 0, 0, 0⟩
def defArgs (s : Stmt) : Arguments := match s with
  | .FunctionDef _ a _ _ _ _ _ _ _ _ => a
  | _ => { posonlyargs := [], args := [], vararg := none, kwonlyargs := [], kw_defaults := [], kwarg := none, defaults := [] }
def defBody (s : Stmt) : List Stmt := match s with
  | .FunctionDef _ _ b _ _ _ _ _ _ _ => b
  | _ => []
def defScope (s : Stmt) : Scope := match s with
  | .FunctionDef _ _ _ _ _ _ sc _ _ _ => sc
  | _ => { kind := .function, names := [], isGenerator := false, isCoroutine := false }

/-! ### no exception leaves a def -/
abbrev CX0 : CXT := fun _ _ _ _ _ _ => False
abbrev E0 : XK := fun _ _ _ => False
theorem pass0 {X : Cx} : Passes CX0 X E0 := fun _ _ _ _ _ _ _ h => h.elim

/-! ### a def (or method) of the text as it stands behind the top -/
structure Fun (K : PySem.W.Frag) (x qual : Str) (st : Stmt) (f : Addr) (fd : FuncData) : Prop where
  ex : ∃ (oc : Value) (od : Option Addr) (kV doc pm : Value) (an : Option Addr) (cdv ct : Value) (osl : Array (Option Value)),
    fd = PySem.W.fnOf x qual (defArgs st) (defBody st) (defScope st) .none kV doc pm an cdv ct ∧ K.lookup f = some ⟨oc, od, .func fd, osl⟩ ∧ PySem.W.codeIn K cdv qual = true
  kp : PySem.W.keepIn K (.ref f) = true
section
variable {P : Program} {w : World} {K : PySem.W.Frag} {mg : Str → Option Value} {base : Heap}
/-- THE RULE for a def: its body as a term of rules, and the reading of that term -/
theorem Fun.ok {x qual : Str} {st : Stmt} {f : Addr} {fd : FuncData} {N ps : List Str} {k : Nat} {sp : Sp} (F : Fun K x qual st f fd) (S : FnScope N ps (defScope st)) (len : ∀ vs H Q E, sp vs H Q E → vs.length = ps.length)
    (hbody : ∀ (cdv : Value) (A : Around) (outer : List Env) (s : Shared) (H : Hp) (vs : List V) (Q : VK) (E : XK), Room k (A.deeper (envOfC qual (defScope st) s.heap.objs.size f cdv)) → sp vs H Q E →
      ∃ t, PSs (cxOf CX0 P w K mg base N qual (defScope st) f cdv A outer s H E).nox (defBody st) t ∧ t { nx := fun _ H' => Q .non H', rt := Q } (start N vs) H) : FnOk P w K mg base CX0 (k + 1) f fd ps sp := by
  obtain ⟨oc, od, kV, doc, pm, an, cdv, ct, osl, rfl, lk, hcd⟩ := F.ex
  refine fn_of lk hcd S len fun A outer s H vs Q E hr hsp => ?_
  obtain ⟨t, h, q⟩ := hbody cdv A outer s H vs Q E hr hsp
  exact ⟨t, h.nox, q⟩
/-- how its arguments bind (no defaults): h is «fun _ _ _ _ _ _ us hl => match us, hl with | [_, _], _ => rfl», one _ a parameter -/
theorem Fun.binds {x qual : Str} {st : Stmt} {f : Addr} {fd : FuncData} {ps : List Str} (F : Fun K x qual st f fd)
    (h : ∀ (kV doc pm : Value) (an : Option Addr) (cdv ct : Value) (us : List Value), us.length = ps.length → bindArgs (PySem.W.fnOf x qual (defArgs st) (defBody st) (defScope st) .none kV doc pm an cdv ct) ⟨us, []⟩ = pure (ps.zip us)) : Binds K fd ps [] := by
  obtain ⟨oc, od, kV, doc, pm, an, cdv, ct, osl, rfl, lk, hcd⟩ := F.ex
  exact .all (h kV doc pm an cdv ct)
theorem fun_mk {x qual : Str} {st : Stmt} {f : Addr} {oc : Value} {od an : Option Addr} {osl : Array (Option Value)} {kV doc pm cdv ct : Value} (l : K.lookup f = some ⟨oc, od, .func (PySem.W.fnOf x qual (defArgs st) (defBody st) (defScope st) .none kV doc pm an cdv ct), osl⟩)
    (c : PySem.W.codeIn K cdv qual = true) (k : PySem.W.keepIn K (.ref f) = true) : Fun K x qual st f (PySem.W.fnOf x qual (defArgs st) (defBody st) (defScope st) .none kV doc pm an cdv ct) := ⟨⟨oc, od, kV, doc, pm, an, cdv, ct, osl, rfl, l, c⟩, k⟩
end
theorem hu_of {A : Around} {k : Nat} (hr : Room k A) : A.units + 1 < cLine := Nat.lt_of_le_of_lt (Nat.add_le_add_left (by decide : 1 ≤ 64) _) hr.units
theorem small1000 {n : Nat} (h : n ≤ 1000) : n < sizeLine := Nat.lt_of_le_of_lt h (by decide)

/-! ### expressions in short: the name that stands in the i-th slot -/
section
variable {X : Cx}
theorem pv (i : Nat) {x : Str} {pos : Pos} (hN : X.N[i]? = some x := by rfl) (hv : Vis X.env.scope x := by first | exact Or.inl rfl | exact Or.inr (Or.inl rfl) | exact Or.inr (Or.inr rfl)) (hd : (x == ("__debug__" : Str)) = false := by decide)
    (hcd : (x == ("__classdict__" : Str)) = false := by decide) : PE X (.Name x pos) (tVar i) := pe_var hN hv hd hcd
end

/-! ### tests -/
theorem iteF {A B : Prop} (h : B) : if false = true then A else B := by
  rw [if_neg Bool.false_ne_true]
  exact h
theorem iteT {A B : Prop} (h : A) : if true = true then A else B := by
  rw [if_pos rfl]
  exact h
theorem ite2 {c A B : Prop} [Decidable c] (h1 : c → A) (h2 : ¬ c → B) : if c then A else B := by
  by_cases h : c
  · rw [if_pos h]
    exact h1 h
  · rw [if_neg h]
    exact h2 h
theorem iteNS {c A B : Prop} [Decidable c] (hc : c) (h : B) : if (!decide c) = true then A else B := by
  rw [decide_eq_true hc]
  exact iteF h

/-! ### heaps -/
/-- all that was tracked is as it was -/
def Same (H H' : Hp) : Prop := ∀ b o, H b = some o → H' b = some o
theorem Same.refl (H : Hp) : Same H H := fun _ _ h => h
theorem Same.trans {H H1 H2 : Hp} (a : Same H H1) (b : Same H1 H2) : Same H H2 := fun c o h => b c o (a c o h)
theorem Same.free {H H' : Hp} (e : Same H H') {l : Addr} (h : H' l = Option.none) : H l = Option.none := by
  cases q : H l with
  | none => rfl
  | some o =>
    rw [e l o q] at h
    cases h
theorem Same.seq {K : PySem.W.Frag} {H H' : Hp} {a : Addr} {xs : List V} (e : Same H H') (h : SqL K H a xs) : SqL K H' a xs := by
  rcases h with (h | ⟨o, h⟩) | h
  · exact .inl (.inl (e _ _ h))
  · exact .inl (.inr ⟨o, e _ _ h⟩)
  · exact .inr h

/-- len of a dict -/
theorem call_lenD : CallR X (.builtin "len") (fun xs H Q => ∃ a kvs, xs = [V.ref a] ∧ H a = some (.dK kvs) ∧ Q (.int kvs.length) H) := by
  intro pins s σ H xs us Q I r h
  obtain ⟨a, kvs, rfl, ha, q⟩ := h
  obtain ⟨u, rfl, ru⟩ := vals1 r
  cases ru
  exact d_len I (.inl ha) fun t s' I' => ⟨.int kvs.length, H, I', ⟨t, rfl⟩, q⟩
/-! ### a dict's pairs: keys that differ -/
section
variable {κ : Type} [DecidableEq κ]
theorem valV_not {kvs : List (κ × V)} {k : κ} (h : valV kvs k = none) : ¬ k ∈ kvs.map (·.1) := by
  intro m
  obtain ⟨p, hp, e⟩ := List.mem_map.mp m
  have q : (kvs.any fun kv => decide (kv.1 = k)) = true := List.any_eq_true.mpr ⟨p, hp, decide_eq_true e⟩
  rw [valV_any, h] at q
  exact absurd q (by simp)
theorem valV_in {kvs : List (κ × V)} {k : κ} {v : V} (h : valV kvs k = some v) : k ∈ kvs.map (·.1) := by
  have q : (kvs.any fun kv => decide (kv.1 = k)) = true := by
    rw [valV_any, h]
    all_goals rfl
  obtain ⟨p, hp, e⟩ := List.any_eq_true.mp q
  exact List.mem_map.mpr ⟨p, hp, of_decide_eq_true e⟩
theorem nd_snoc : ∀ {l : List κ} {k : κ}, l.Nodup → ¬ k ∈ l → (l ++ [k]).Nodup
  | [], k, _, _ => by simp
  | a :: r, k, h, hk => by
    obtain ⟨h1, h2⟩ := List.nodup_cons.mp h
    show (a :: (r ++ [k])).Nodup
    refine List.nodup_cons.mpr ⟨fun m => ?_, nd_snoc h2 fun m => hk (List.mem_cons.mpr (Or.inr m))⟩
    rcases List.mem_append.mp m with q | q
    · exact h1 q
    · exact hk (List.mem_cons.mpr (Or.inl (List.mem_singleton.mp q).symm))
theorem nd_putK {kvs : List (κ × V)} {k : κ} (v : V) (hn : (kvs.map (·.1)).Nodup) (h : valV kvs k = none) : ((putK kvs k v).map (·.1)).Nodup := by
  rw [putK_new v h, List.map_append]
  exact nd_snoc hn (valV_not h)
theorem dropK_pos {p : κ × V} {r : List (κ × V)} {k : κ} (e : p.1 = k) : dropK (p :: r) k = dropK r k := by
  unfold dropK
  rw [List.filter_cons, if_neg (by simp [e])]
theorem dropK_neg {p : κ × V} {r : List (κ × V)} {k : κ} (e : ¬ p.1 = k) : dropK (p :: r) k = p :: dropK r k := by
  unfold dropK
  rw [List.filter_cons, if_pos (by simp [e])]
theorem dropK_no : ∀ {kvs : List (κ × V)} {k : κ}, ¬ k ∈ kvs.map (·.1) → dropK kvs k = kvs
  | [], _, _ => rfl
  | p :: r, k, h => by
    have h' : ¬ k ∈ r.map (·.1) := fun m => by
      obtain ⟨q, hq, e⟩ := List.mem_map.mp m
      exact h (List.mem_map.mpr ⟨q, List.mem_cons.mpr (Or.inr hq), e⟩)
    rw [dropK_neg fun e => h (List.mem_map.mpr ⟨p, List.mem_cons.mpr (Or.inl rfl), e⟩), dropK_no h']
theorem dropK_mem {kvs : List (κ × V)} {k : κ} {p : κ × V} (h : p ∈ dropK kvs k) : p ∈ kvs := (List.mem_filter.mp h).1
theorem nd_dropK : ∀ {kvs : List (κ × V)} {k : κ}, (kvs.map (·.1)).Nodup → ((dropK kvs k).map (·.1)).Nodup
  | [], _, _ => List.nodup_nil
  | p :: r, k, h => by
    have h : (p.1 :: r.map (·.1)).Nodup := h
    obtain ⟨h1, h2⟩ := List.nodup_cons.mp h
    by_cases e : p.1 = k
    · rw [dropK_pos e]
      exact nd_dropK h2
    · rw [dropK_neg e]
      show (p.1 :: (dropK r k).map (·.1)).Nodup
      refine List.nodup_cons.mpr ⟨fun m => h1 ?_, nd_dropK h2⟩
      obtain ⟨q, hq, eq⟩ := List.mem_map.mp m
      exact List.mem_map.mpr ⟨q, dropK_mem hq, eq⟩
theorem dropK_len : ∀ {kvs : List (κ × V)} {k : κ}, (kvs.map (·.1)).Nodup → k ∈ kvs.map (·.1) → (dropK kvs k).length + 1 = kvs.length
  | [], _, _, m => by simp at m
  | p :: r, k, h, m => by
    have h : (p.1 :: r.map (·.1)).Nodup := h
    have m : k = p.1 ∨ k ∈ r.map (·.1) := List.mem_cons.mp m
    obtain ⟨h1, h2⟩ := List.nodup_cons.mp h
    by_cases e : p.1 = k
    · subst e
      rw [dropK_pos rfl, dropK_no h1]
      all_goals rfl
    · have m' : k ∈ r.map (·.1) := m.resolve_left fun z => e z.symm
      have q := dropK_len h2 m'
      rw [dropK_neg e, List.length_cons, List.length_cons]
      omega
end
end L2
set_option maxHeartbeats 4000000
set_option maxHeartbeats 4000000
/-! rules of my own over the layer: data of any depth and their ==, isinstance, insert, a callee in one piece -/
namespace L2
open PySem PySem.Spec PyProof.Rows

/-! ### what a value is, as data -/
mutual
def RD (H : Hp) : PyData → V → Prop
  | .none, v => v = .non
  | .bool b, v => v = .bl b
  | .int i, v => v = .int i
  | .str x, v => v = .str x
  | .list ds, v => ∃ a xs, v = .ref a ∧ H a = some (.lst xs) ∧ RDs H ds xs
  | .tuple ds, v => ∃ a xs, v = .ref a ∧ H a = some (.tup xs) ∧ RDs H ds xs
  | .dict _, _ => False
def RDs (H : Hp) : List PyData → List V → Prop
  | [], xs => xs = []
  | d :: ds, xs => ∃ y ys, xs = y :: ys ∧ RD H d y ∧ RDs H ds ys
end
theorem RD_list {H : Hp} {ds : List PyData} {a : Addr} {xs : List V} (h : H a = some (.lst xs)) (r : RDs H ds xs) : RD H (.list ds) (.ref a) := by
  unfold RD
  exact ⟨a, xs, rfl, h, r⟩
theorem RD_tup {H : Hp} {ds : List PyData} {a : Addr} {xs : List V} (h : H a = some (.tup xs)) (r : RDs H ds xs) : RD H (.tuple ds) (.ref a) := by
  unfold RD
  exact ⟨a, xs, rfl, h, r⟩
theorem RD_list_inv {H : Hp} {ds : List PyData} {v : V} (h : RD H (.list ds) v) : ∃ a xs, v = .ref a ∧ H a = some (.lst xs) ∧ RDs H ds xs := by
  unfold RD at h
  exact h
theorem RD_tup_inv {H : Hp} {ds : List PyData} {v : V} (h : RD H (.tuple ds) v) : ∃ a xs, v = .ref a ∧ H a = some (.tup xs) ∧ RDs H ds xs := by
  unfold RD at h
  exact h
theorem RD_none {H : Hp} : RD H .none .non := by unfold RD; rfl
theorem RD_bool {H : Hp} (b : Bool) : RD H (.bool b) (.bl b) := by unfold RD; rfl
theorem RD_int {H : Hp} (i : Int) : RD H (.int i) (.int i) := by unfold RD; rfl
theorem RD_str {H : Hp} (x : Str) : RD H (.str x) (.str x) := by unfold RD; rfl
theorem RDs_nil {H : Hp} : RDs H [] [] := by unfold RDs; rfl
theorem RDs_cons {H : Hp} {d : PyData} {ds : List PyData} {y : V} {ys : List V} (h : RD H d y) (t : RDs H ds ys) : RDs H (d :: ds) (y :: ys) := by
  unfold RDs
  exact ⟨y, ys, rfl, h, t⟩
theorem RDs_nil_inv {H : Hp} {xs : List V} (h : RDs H [] xs) : xs = [] := by
  unfold RDs at h
  exact h
theorem RDs_cons_inv {H : Hp} {d : PyData} {ds : List PyData} {xs : List V} (h : RDs H (d :: ds) xs) : ∃ y ys, xs = y :: ys ∧ RD H d y ∧ RDs H ds ys := by
  unfold RDs at h
  exact h
theorem RDs_ints {H : Hp} : ∀ ns : List Int, RDs H (ns.map PyData.int) (ns.map V.int)
  | [] => RDs_nil
  | n :: r => RDs_cons (RD_int n) (RDs_ints r)
theorem RDs_len {H : Hp} : ∀ {ds : List PyData} {xs : List V}, RDs H ds xs → xs.length = ds.length
  | [], _, h => by
    rw [RDs_nil_inv h]
    rfl
  | d :: ds, _, h => by
    obtain ⟨y, ys, rfl, _, t⟩ := RDs_cons_inv h
    rw [List.length_cons, List.length_cons, RDs_len t]
theorem RDs_get {H : Hp} : ∀ {ds : List PyData} {xs : List V} {j : Nat} {v : V}, RDs H ds xs → xs[j]? = some v → RD H (ds.getD j .none) v
  | [], _, _, _, h, e => by rw [RDs_nil_inv h] at e; cases e
  | d :: ds, _, j, v, h, e => by
    obtain ⟨y, ys, rfl, h1, t⟩ := RDs_cons_inv h
    cases j with
    | zero =>
      have e' : y = v := by simpa using e
      subst e'
      exact h1
    | succ j => exact RDs_get (ds := ds) t (by simpa using e)
theorem RDs_set {H : Hp} {d : PyData} {v : V} (h : RD H d v) : ∀ {ds : List PyData} {xs : List V} (j : Nat), RDs H ds xs → RDs H (ds.set j d) (xs.set j v)
  | [], _, _, t => by
    rw [RDs_nil_inv t]
    exact RDs_nil
  | _ :: ds, _, j, t => by
    obtain ⟨y, ys, rfl, h1, t⟩ := RDs_cons_inv t
    cases j with
    | zero => exact RDs_cons h t
    | succ j => exact RDs_cons h1 (RDs_set h j t)
mutual
theorem RD_mono {H H' : Hp} (k : Same H H') : ∀ (d : PyData) (v : V), RD H d v → RD H' d v
  | .none, v, h => by unfold RD at h ⊢; exact h
  | .bool b, v, h => by unfold RD at h ⊢; exact h
  | .int i, v, h => by unfold RD at h ⊢; exact h
  | .str x, v, h => by unfold RD at h ⊢; exact h
  | .list ds, v, h => by
    obtain ⟨a, xs, e, h1, h2⟩ := RD_list_inv h
    subst e
    exact RD_list (k _ _ h1) (RDs_mono k ds xs h2)
  | .tuple ds, v, h => by
    obtain ⟨a, xs, e, h1, h2⟩ := RD_tup_inv h
    subst e
    exact RD_tup (k _ _ h1) (RDs_mono k ds xs h2)
  | .dict _, v, h => by
    unfold RD at h
    exact h.elim
theorem RDs_mono {H H' : Hp} (k : Same H H') : ∀ (ds : List PyData) (xs : List V), RDs H ds xs → RDs H' ds xs
  | [], xs, h => by
    rw [RDs_nil_inv h]
    exact RDs_nil
  | d :: ds, xs, h => by
    obtain ⟨y, ys, e, h1, h2⟩ := RDs_cons_inv h
    subst e
    exact RDs_cons (RD_mono k d y h1) (RDs_mono k ds ys h2)
end
section
variable {X : Cx} {pins : List (Addr × Obj)} {σ : St} {H : Hp} {s : Shared}
mutual
theorem RD_reads (I : Inv X pins σ H s) : ∀ (d : PyData) (x : V) (v : Value), RD H d x → RelV x v → ∃ as, Reads s.heap v d as
  | .none, x, v, h, r => by
    unfold RD at h
    subst h
    cases r
    exact ⟨[], .none⟩
  | .bool b, x, v, h, r => by
    unfold RD at h
    subst h
    cases r
    exact ⟨[], .bool b⟩
  | .int i, x, v, h, r => by
    unfold RD at h
    subst h
    obtain ⟨t, rfl⟩ := r
    exact ⟨[], .int i t⟩
  | .str y, x, v, h, r => by
    unfold RD at h
    subst h
    obtain ⟨t, rfl⟩ := r
    exact ⟨[], .str y t⟩
  | .list ds, x, v, h, r => by
    obtain ⟨a, xs, e, h1, h2⟩ := RD_list_inv h
    subst e
    cases r
    obtain ⟨its, rv, ⟨o, n, e1, e2, _, e4⟩, _⟩ := I.list (SqL.of h1)
    obtain ⟨as, q⟩ := RDs_reads I ds xs its h2 rv
    exact ⟨a :: as, .list e1 e2 e4 (by simpa using q)⟩
  | .tuple ds, x, v, h, r => by
    obtain ⟨a, xs, e, h1, h2⟩ := RD_tup_inv h
    subst e
    cases r
    obtain ⟨its, rv, ⟨o, e1, e2, n, e4⟩, _⟩ := I.tuple (SqT.of h1)
    obtain ⟨as, q⟩ := RDs_reads I ds xs its h2 rv
    exact ⟨as, .tuple e1 e2 e4 (by simpa using q)⟩
  | .dict _, x, v, h, _ => by
    unfold RD at h
    exact h.elim
theorem RDs_reads (I : Inv X pins σ H s) : ∀ (ds : List PyData) (xs : List V) (vs : List Value), RDs H ds xs → Vals xs vs → ∃ as, ReadsAll s.heap vs ds as
  | [], xs, vs, h, r => by
    rw [RDs_nil_inv h] at r
    cases r
    exact ⟨[], .nil⟩
  | d :: ds, xs, vs, h, r => by
    obtain ⟨y, ys, e, h1, h2⟩ := RDs_cons_inv h
    subst e
    cases r with
    | cons r1 r2 =>
      obtain ⟨as, q1⟩ := RD_reads I d y _ h1 r1
      obtain ⟨bs, q2⟩ := RDs_reads I ds ys _ h2 r2
      exact ⟨as ++ bs, .cons q1 q2⟩
end
end

/-! ### ==, != over data -/
section
variable {X : Cx}
def rEqD : R2 := fun x y H Q => ∃ da db, RD H da x ∧ RD H db y ∧ SeqAt.shaped da = true ∧ SeqAt.shaped db = true ∧ Q (.bl (PyData.eqv da db)) H
def rNeD : R2 := fun x y H Q => ∃ da db, RD H da x ∧ RD H db y ∧ SeqAt.shaped da = true ∧ SeqAt.shaped db = true ∧ Q (.bl (!PyData.eqv da db)) H
theorem op_eqD (hu : X.A.units + 64 < cLine) : OpR X (compareOp .Eq) rEqD := by
  intro pins s σ H x y v u Q I rx ry h
  obtain ⟨da, db, ra, rb, sa, sb, q⟩ := h
  obtain ⟨as, qa⟩ := RD_reads I da x v ra rx
  obtain ⟨bs, qb⟩ := RD_reads I db y u rb ry
  exact eq_dataH qa qb sa sb hu ⟨.bl _, H, I, rfl, q⟩
theorem op_neD (hu : X.A.units + 64 < cLine) : OpR X (compareOp .NotEq) rNeD := by
  intro pins s σ H x y v u Q I rx ry h
  obtain ⟨da, db, ra, rb, sa, sb, q⟩ := h
  obtain ⟨as, qa⟩ := RD_reads I da x v ra rx
  obtain ⟨bs, qb⟩ := RD_reads I db y u rb ry
  exact ne_dataH qa qb sa sb hu ⟨.bl _, H, I, rfl, q⟩
theorem op_eqA (hu : X.A.units + 64 < cLine) : OpR X (compareOp .Eq) (fun x y H Q => rEq x y H Q ∨ rEqD x y H Q) := OpR.or op_eq (op_eqD hu)
theorem op_neA (hu : X.A.units + 64 < cLine) : OpR X (compareOp .NotEq) (fun x y H Q => rNe x y H Q ∨ rNeD x y H Q) := OpR.or op_ne (op_neD hu)

/-! ### isinstance(x, T), T a built-in type -/
theorem call_isinst : CallR X (.builtin "isinstance") (fun xs H Q => ∃ x t c b, xs = [x, .ty c] ∧ TyOf X.K H x t ∧ PySem.W.kitOne X.K t (.type c) = some b ∧ Q (.bl b) H) := by
  intro pins s σ H xs us Q I r h
  obtain ⟨x, t, c, b, rfl, ty, e, q⟩ := h
  obtain ⟨u, w', rfl, rx, ry⟩ := vals2 r
  obtain rfl : w' = Value.type c := ry
  exact isinst_ok I rx ty e fun tk => ⟨.bl b, H, I.tok _, rfl, q⟩
def kitB (T c : String) : Option Bool := if (Value.type T == Value.type c) = true then some true else if PySem.W.kitMeta c = true then (fastBuiltinMro T).map (·.contains (Value.type c)) else none
theorem kit_one {K : PySem.W.Frag} {T c : String} {b : Bool} (h : kitB T c = some b) : PySem.W.kitOne K (.type T) (.type c) = some b := h
def tyName : PyData → String
  | .none => "NoneType"
  | .bool _ => "bool"
  | .int _ => "int"
  | .str _ => "str"
  | .list _ => "list"
  | .tuple _ => "tuple"
  | .dict _ => "dict"
theorem RD_ty {K : PySem.W.Frag} {H : Hp} : ∀ (d : PyData) (v : V), RD H d v → TyOf K H v (.type (tyName d))
  | .none, v, h => by
    unfold RD at h
    subst h
    exact .non
  | .bool b, v, h => by
    unfold RD at h
    subst h
    exact .bl b
  | .int i, v, h => by
    unfold RD at h
    subst h
    exact .int i
  | .str x, v, h => by
    unfold RD at h
    subst h
    exact .str x
  | .list ds, v, h => by
    obtain ⟨a, xs, e, h1, _⟩ := RD_list_inv h
    subst e
    exact .lst h1
  | .tuple ds, v, h => by
    obtain ⟨a, xs, e, h1, _⟩ := RD_tup_inv h
    subst e
    exact .tup h1
  | .dict _, v, h => by
    unfold RD at h
    exact h.elim
def isTupD : PyData → Bool
  | .tuple _ => true
  | _ => false
def isIntD : PyData → Bool
  | .int _ => true
  | .bool _ => true
  | _ => false
def isBoolD : PyData → Bool
  | .bool _ => true
  | _ => false
def isDictD : PyData → Bool
  | .dict _ => true
  | _ => false
theorem kb_tuple : kitB "NoneType" "tuple" = some false ∧ kitB "bool" "tuple" = some false ∧ kitB "int" "tuple" = some false ∧ kitB "str" "tuple" = some false ∧ kitB "list" "tuple" = some false ∧ kitB "tuple" "tuple" = some true := by
  refine ⟨?_, ?_, ?_, ?_, ?_, ?_⟩ <;> decide +kernel
theorem kb_int : kitB "NoneType" "int" = some false ∧ kitB "bool" "int" = some true ∧ kitB "int" "int" = some true ∧ kitB "str" "int" = some false ∧ kitB "list" "int" = some false ∧ kitB "tuple" "int" = some false := by
  refine ⟨?_, ?_, ?_, ?_, ?_, ?_⟩ <;> decide +kernel
theorem kb_bool : kitB "NoneType" "bool" = some false ∧ kitB "bool" "bool" = some true ∧ kitB "int" "bool" = some false ∧ kitB "str" "bool" = some false ∧ kitB "list" "bool" = some false ∧ kitB "tuple" "bool" = some false := by
  refine ⟨?_, ?_, ?_, ?_, ?_, ?_⟩ <;> decide +kernel
theorem kit_tuple {K : PySem.W.Frag} (d : PyData) (h : isDictD d = false) : PySem.W.kitOne K (.type (tyName d)) (.type "tuple") = some (isTupD d) := by
  obtain ⟨h1, h2, h3, h4, h5, h6⟩ := kb_tuple
  cases d with
  | none => exact kit_one h1
  | bool _ => exact kit_one h2
  | int _ => exact kit_one h3
  | str _ => exact kit_one h4
  | list _ => exact kit_one h5
  | tuple _ => exact kit_one h6
  | dict _ => cases h
theorem kit_int {K : PySem.W.Frag} (d : PyData) (h : isDictD d = false) : PySem.W.kitOne K (.type (tyName d)) (.type "int") = some (isIntD d) := by
  obtain ⟨h1, h2, h3, h4, h5, h6⟩ := kb_int
  cases d with
  | none => exact kit_one h1
  | bool _ => exact kit_one h2
  | int _ => exact kit_one h3
  | str _ => exact kit_one h4
  | list _ => exact kit_one h5
  | tuple _ => exact kit_one h6
  | dict _ => cases h
theorem kit_bool {K : PySem.W.Frag} (d : PyData) (h : isDictD d = false) : PySem.W.kitOne K (.type (tyName d)) (.type "bool") = some (isBoolD d) := by
  obtain ⟨h1, h2, h3, h4, h5, h6⟩ := kb_bool
  cases d with
  | none => exact kit_one h1
  | bool _ => exact kit_one h2
  | int _ => exact kit_one h3
  | str _ => exact kit_one h4
  | list _ => exact kit_one h5
  | tuple _ => exact kit_one h6
  | dict _ => cases h
theorem RD_nodict {H : Hp} {d : PyData} {v : V} (h : RD H d v) : isDictD d = false := by
  cases d with
  | dict _ =>
    unfold RD at h
    exact h.elim
  | _ => rfl

/-! ### xs.insert(i, y), 0 ≤ i ≤ len -/
def rInsert : V → List V → Hp → VK → Prop := fun x vs H Q => ∃ l xs i y, x = .ref l ∧ vs = [.int i, y] ∧ H l = some (.lst xs) ∧ 0 ≤ i ∧ i ≤ xs.length ∧ xs.length < sizeLine ∧ Q .non (upd H l (.lst (xs.take i.toNat ++ y :: xs.drop i.toNat)))
theorem mt_insert : MtR X "list.insert" rInsert := by
  intro pins s σ H x vs v us Q I rx rv h
  obtain ⟨l, xs, i, y, rfl, rfl, hH, h0, h1, hz, q⟩ := h
  cases rx
  obtain ⟨u1, u2, rfl, ⟨t, rfl⟩, ry⟩ := vals2 rv
  obtain ⟨z, its, n, r, hl, e⟩ := I.lstM hH
  have hs : (sizeLine : Nat) = 16777216 := sizeLine_eq
  have hfit : ¬ (!Builtin.List.listFitsIndex i) = true := by
    rw [fitsIndex_both (by omega) (by omega)]
    exact Bool.false_ne_true
  refine call_meets F.slot_list_insert ⟨_, e, rfl⟩ F.entry_list_insert (F.args_list_insert_3 _ _ _) (AutoListH.list_insert_list_int_val_1 l its.toArray n i t u2 hfit (by rw [List.size_toArray]; omega)) ⟨e, ?_⟩
  refine ⟨.non, _, I.lset (its' := its.take i.toNat ++ u2 :: its.drop i.toNat) hH e ?_ ((r.take _).append (.cons ry (r.drop _))) ?_, rfl, q⟩
  · have h2 : ¬ i < 0 := by omega
    have h3 : min i.toNat its.toArray.size = i.toNat := by rw [List.size_toArray]; omega
    show (its.toArray.extract 0 (if i < 0 then (i + ((its.toArray.size : Nat) : Int)).toNat else min i.toNat its.toArray.size)).push u2 ++ its.toArray.extract (if i < 0 then (i + ((its.toArray.size : Nat) : Int)).toNat else min i.toNat its.toArray.size) = _
    rw [if_neg h2, h3]
    apply Array.toList_inj.mp
    simp
    exact List.take_of_length_le (by simp)
  · rw [List.length_append, List.length_cons, List.length_take, List.length_drop]
    omega
end

/-! ### a callee in one piece -/
structure Fn (P : Program) (w : World) (K : PySem.W.Frag) (mg : Str → Option Value) (base : Heap) (k : Nat) (x : Str) (f : Addr) (fd : FuncData) (ps : List Str) (sp : Sp) : Prop where
  ok : FnOk P w K mg base CX0 k f fd ps sp
  b : Binds K fd ps []
  kp : PySem.W.keepIn K (.ref f) = true
  at_ : mg x = some (.ref f)
section
variable {X : Cx} {j k : Nat} {f : Addr} {fd : FuncData} {ps : List Str} {sp : Sp} {x : Str} {p pos : Pos} {e : Expr} {es : List Expr} {t : TA}
theorem pcall (G : Fn X.prog X.w X.K X.mg X.base j x f fd ps sp) (hr : Room k X.A) (hjk : j ≤ k) (hg : Gl X x) (ha : PA X (e :: es) t) (hdb : (x == ("__debug__" : Str)) = false := by decide)
    (he : starEach (e :: es) X.env = (false, eval e X.env) :: starEach es X.env := by rfl) (hpl : (backTo pos (starEach es X.env)).any (·.1) = false := by rfl) : PE X (.Call (.Name x p) (e :: es) [] pos) (tCall sp [] E0 t) :=
  pe_call G.ok (hr.mono hjk) hg G.at_ G.kp G.b .nil pass0 ha hdb he hpl
end

/-! ### small words -/
theorem same_new {H : Hp} {p : Addr} (h : H p = none) (o : HO) : Same H (upd H p o) := fun b u q => by rw [upd_ne (ne_of_none q h)]; exact q
theorem Same.upd_new {H0 H : Hp} {p : Addr} (k : Same H0 H) (h : H0 p = none) (o : HO) : Same H0 (upd H p o) := fun b u q => by rw [upd_ne (ne_of_none q h)]; exact k b u q
theorem atI_ok {α : Type} {xs : List α} {i : Int} (h0 : 0 ≤ i) (h1 : i < xs.length) : ∃ v, xs[i.toNat]? = some v ∧ atI xs i = some v := by
  have hk : i.toNat < xs.length := by omega
  have ek : i = ((i.toNat : Nat) : Int) := by omega
  have q : atI xs ((i.toNat : Nat) : Int) = some xs[i.toNat] := atI_nat (List.getElem?_eq_getElem hk)
  rw [← ek] at q
  exact ⟨_, List.getElem?_eq_getElem hk, q⟩
theorem atI_ints {ns : List Int} {i : Int} (h0 : 0 ≤ i) (h1 : i < ns.length) : ∃ v, ns[i.toNat]? = some v ∧ atI (ns.map V.int) i = some (.int v) := by
  obtain ⟨v, h2, h3⟩ := atI_ok (xs := ns.map V.int) h0 (by rw [List.length_map]; exact h1)
  rw [List.getElem?_map] at h2
  cases e : ns[i.toNat]? with
  | none => rw [e] at h2; cases h2
  | some z =>
    rw [e] at h2
    have h2' : V.int z = v := by simpa using h2
    subst h2'
    exact ⟨z, rfl, h3⟩
end L2

/-! list comprehensions over the layer -/
namespace L2
open PySem PySem.Spec PyProof.Rows

def AllIn (f : Str → Option Addr) : List (Str × Addr) → Prop
  | [] => True
  | p :: r => f p.1 = some p.2 ∧ AllIn f r
theorem AllIn.look {f : Str → Option Addr} : ∀ {cl : List (Str × Addr)}, AllIn f cl → ∀ {y : Str} {c : Addr}, cl.lookup y = some c → f y = some c
  | [], _, y, c, e => by cases e
  | (n, a) :: r, h, y, c, e => by
    rw [List.lookup_cons] at e
    cases q : (y == n) with
    | true =>
      rw [q] at e
      have e1 : y = n := eq_of_beq q
      have e2 : a = c := Option.some.inj e
      rw [e1, ← e2]
      exact h.1
    | false =>
      rw [q] at e
      exact AllIn.look h.2 e

/-- the block's context -/
def cxComp (X : Cx) (scope : Scope) (cl : List (Str × Addr)) (NY : List Str) (C : Addr) (fp : List Addr) (s₀ : Shared) (H₀ : Hp) : Cx where
  prog := X.prog
  w := X.w
  K := X.K
  mg := X.mg
  base := X.base
  A := X.A
  N := NY
  s₀ := s₀
  H₀ := H₀
  env := compEnvC scope cl C X.env
  outer := X.stack
  stack := X.stack
  ex := fp
  fn := fun _ => false
  calm := X.calm
  pn := []
  xe := fun _ _ => False

structure CompSc (X : Cx) (scope : Scope) (cl : List (Str × Addr)) (NY : List Str) (idx : List (Option Nat)) : Prop where
  clos : closureFor scope X.env = pure cl
  all : AllIn (fun y => X.env.cells.lookup y) cl
  c2 : ((relabel scope X.env).names.all fun q => !(decide (q.2 = .cell) || decide (q.2 = .free)) || (cl.lookup q.1).isSome) = true
  ix : ((NY.zip idx).all fun p => match p.2 with
    | none => true
    | some i => decide (X.N[i]? = some p.1) && (decide (X.env.kindOf p.1 = some .cell) || decide (X.env.kindOf p.1 = some .free)) && (decide ((relabel scope X.env).names.lookup p.1 = some .cell) || decide ((relabel scope X.env).names.lookup p.1 = some .free))) = true
  len : idx.length = NY.length
  cell : ∀ y ∈ scope.names, y.2 ≠ .cell
  kind : scope.kind = .function
  names : ∀ y ∈ scope.names, y.2 = .local → scope.names.lookup y.1 = some .local

def sig0 (idx : List (Option Nat)) (σ : St) : St := idx.map fun o => match o with
  | none => none
  | some i => (σ[i]?).getD none

section
variable {X : Cx} {scope : Scope} {cl : List (Str × Addr)} {NY : List Str} {idx : List (Option Nat)}
theorem CompSc.look (S : CompSc X scope cl NY idx) {y : Str} (h : (relabel scope X.env).names.lookup y = some .cell ∨ (relabel scope X.env).names.lookup y = some .free) : ∃ c, cl.lookup y = some c := by
  have hm : ∃ k, (y, k) ∈ (relabel scope X.env).names ∧ (k = .cell ∨ k = .free) := by
    rcases h with h | h
    · exact ⟨_, PySem.mem_of_lookup h, .inl rfl⟩
    · exact ⟨_, PySem.mem_of_lookup h, .inr rfl⟩
  obtain ⟨k, hk, hkk⟩ := hm
  have q := List.all_eq_true.mp S.c2 _ hk
  have e : (decide (k = NameKind.cell) || decide (k = NameKind.free)) = true := by
    rcases hkk with rfl | rfl
    · rfl
    · rfl
  have q' : (!(decide (k = NameKind.cell) || decide (k = NameKind.free)) || (cl.lookup y).isSome) = true := q
  rw [e] at q'
  exact Option.isSome_iff_exists.mp q'

/-- the block's state at its start -/
theorem comp_inv {pins : List (Addr × Obj)} {σ : St} {H : Hp} {s : Shared} {fp : List Addr} {h₁ : Heap} {m : Str → Option Value} {tk : Nat} (S : CompSc X scope cl NY idx) (I : Inv X pins σ H s)
    (f2 : ∀ b ∈ fp, FpOk X pins H b) (hfl : ∀ b ∈ fp, b < s.heap.objs.size) (hns : h₁.Ns s.heap.objs.size m) (old : ∀ b o, s.heap.get? b = some o → h₁.get? b = some o) :
    Inv (cxComp X scope cl NY s.heap.objs.size fp s H) [] (sig0 idx σ) H { s with heap := h₁, toks := tk } := by
  have hC : H s.heap.objs.size = none := I.hok.fresh (Nat.le_refl _)
  have hcl : ∀ {x : Str} {c : Addr}, cl.lookup x = some c → X.env.cells.lookup x = some c := fun e => S.all.look e
  have cellLt : ∀ {x : Str} {c : Addr}, X.env.cells.lookup x = some c → c < s.heap.objs.size := fun {x c} e => by
    obtain ⟨v, z⟩ := I.cell x c e
    exact z.lt
  refine ⟨⟨I.ok.mod, ?_, I.ok.glob, I.ok.blt, Nat.le_refl _, fun x y c h1 h2 => I.ok.inj x y c (hcl h1) (hcl h2), fun x hx => S.look hx, fun x c hf => absurd (show false = true from hf) Bool.false_ne_true, I.ok.hd, I.ok.frames, .inl rfl, fun b hb => ⟨Nat.ne_of_lt (hfl b hb), fun x c e => (f2 b hb).2.2.2.2.1 x c (hcl e)⟩,
    I.bs, Nat.le_trans I.ok.bsz I.sz, fun b o e hb => ?_, fun b hb hz => ?_, I.stack, I.stkFree⟩, rfl, I.bare, Un.kept old, ⟨m, hns, fun j y v h1 h2 h3 => ?_⟩, fun x c e => ?_, hC, fun x c e => I.freeC x c (hcl e), fun p hp => absurd (show p ∈ ([] : List (Addr × Obj)) from hp) (by simp), I.hok.kept old, ?_⟩
  · exact S.kind
  · rcases (f2 b hb).2.2.2.1 with z | z
    · exact I.ok.noex b o e z
    · exact absurd (Nat.lt_of_lt_of_le (Heap.lt_size e) (Nat.le_trans I.ok.bsz z)) (Nat.lt_irrefl _)
  · rcases List.mem_cons.mp (I.stkSub b hz) with e | e
    · exact (f2 b hb).2.1 e
    · exact (f2 b hb).2.2.1 e
  · -- a captured name
    have h2' : (sig0 idx σ)[j]? = some (some v) := h2
    unfold sig0 at h2'
    rw [List.getElem?_map] at h2'
    cases ej : idx[j]? with
    | none => rw [ej] at h2'; cases h2'
    | some o =>
      rw [ej] at h2'
      cases o with
      | none => cases h2'
      | some i =>
        have e3 : (σ[i]?).getD none = some v := by simpa using h2'
        have e4 : σ[i]? = some (some v) := by
          cases q : σ[i]? with
          | none => rw [q] at e3; cases e3
          | some z =>
            rw [q] at e3
            exact congrArg some e3
        have hz : (NY.zip idx)[j]? = some (y, some i) := by
          rw [List.getElem?_zip_eq_some]
          exact ⟨h1, ej⟩
        have q := List.all_eq_true.mp S.ix _ (List.mem_of_getElem? hz)
        have q' : (decide (X.N[i]? = some y) && (decide (X.env.kindOf y = some .cell) || decide (X.env.kindOf y = some .free)) && (decide ((relabel scope X.env).names.lookup y = some .cell) || decide ((relabel scope X.env).names.lookup y = some .free))) = true := q
        rw [Bool.and_eq_true, Bool.and_eq_true, Bool.or_eq_true, Bool.or_eq_true] at q'
        obtain ⟨⟨q1, q2⟩, q3⟩ := q'
        have q1' := of_decide_eq_true q1
        have q2' : X.env.kindOf y = some .cell ∨ X.env.kindOf y = some .free := q2.elim (fun z => .inl (of_decide_eq_true z)) fun z => .inr (of_decide_eq_true z)
        have q3' : (relabel scope X.env).names.lookup y = some .cell ∨ (relabel scope X.env).names.lookup y = some .free := q3.elim (fun z => .inl (of_decide_eq_true z)) fun z => .inr (of_decide_eq_true z)
        obtain ⟨mX, _, hl⟩ := I.loc
        obtain ⟨u, ru, lk⟩ := hl i y v q1' e4 (.inr q2')
        refine ⟨u, ru, .inr ⟨q3', ?_⟩⟩
        obtain ⟨c, hc⟩ := S.look q3'
        rcases lk with ⟨hk, _⟩ | ⟨_, c', hc', hcell⟩
        · rcases q2' with z | z
          · rw [hk] at z; cases z
          · rw [hk] at z; cases z
        · have e5 := hcl hc
          rw [hc'] at e5
          cases e5
          obtain ⟨oc, ho, hd⟩ := hcell
          exact ⟨_, hc, oc, old _ _ ho, hd⟩
  · obtain ⟨v, oc, ho, hd⟩ := I.cell x c (hcl e)
    exact ⟨v, oc, old _ _ ho, hd⟩
  · unfold sig0
    rw [List.length_map]
    exact S.len
end

/-- the tests of a clause: none, or one -/
def PIf (Y : Cx) (ifs : List Expr) (t : TT) : Prop :=
  ∀ (pins : List (Addr × Obj)) (s : Shared) (σ : St) (H : Hp) (Q : Bool → Hp → Prop), Inv Y pins σ H s → t σ H Q →
    wpAny (model Y.prog Y.w) Y.A (forIn ifs true fun c r => if r = true then do let ok ← isTrue c Y.env (eval c Y.env); pure (ForInStep.yield ok) else pure (ForInStep.yield r)) (TP Y pins σ Q) Y.xe s
def tT0 : TT := fun _ H Q => Q true H
theorem tT0_true {σ : St} {H : Hp} {A B : Hp → Prop} (h : A H) : tT0 σ H (fun b H4 => if b = true then A H4 else B H4) := by
  show (if true = true then A H else B H)
  exact iteT h
theorem gName_t0 {i : Nat} {x : V} {σ : St} {H : Hp} {A B : St → Hp → Prop} (h : A (σ.set i (some x)) H) : gName i x σ H (fun σ3 H3 => tT0 σ3 H3 fun b H4 => if b = true then A σ3 H4 else B σ3 H4) := by
  show (if true = true then A (σ.set i (some x)) H else B (σ.set i (some x)) H)
  exact iteT h
theorem pif_nil {Y : Cx} : PIf Y [] tT0 := fun pins s σ H Q I h => wpAny_tests_nil ⟨H, I, h⟩
theorem pif_one {Y : Cx} {c : Expr} {t : TT} (h : PT Y c t) : PIf Y [c] t := fun pins s σ H Q I hw => wpAny_tests_one (h pins s σ H Q I hw)

/-- what a comprehension wants: J its source's turns, D the new list; W by turn, measure, the block's names, the items so far, the heap -/
def CompW (J : It) (D : Addr) (g : TG) (tt : TT) (te : TE) (σ0 : St) (H1 : Hp) (Q : VK) : Prop :=
  ∃ W : Nat → Nat → St → List V → Hp → Prop, (∃ m, W 0 m σ0 [] (upd H1 D (.lst []))) ∧ ∀ i m σ ys H, W i m σ ys H → H D = some (.lst ys) ∧
    ((J.stop i H ∧ Q (.ref D) H) ∨ (J.go i H ∧ ∃ N : St → List V → Hp → Prop, (∀ σ' ys' H', N σ' ys' H' → ∃ m', m' < m ∧ W (i + 1) m' σ' ys' H') ∧
      ∀ x H2, J.yld i H x H2 → g x σ H2 fun σ3 H3 => tt σ3 H3 fun b H4 => if b = true then te σ3 H4 fun y H5 => H5 D = some (.lst ys) ∧ ys.length < sizeLine ∧ N σ3 (ys ++ [y]) (upd H5 D (.lst (ys ++ [y]))) else N σ3 ys H4))
def tComp (idx : List (Option Nat)) (wi : TI) (g : TG) (tt : TT) (te : TE) : TE := fun σ H Q => wi σ H fun J H1 => ∀ D, H1 D = none → CompW J D g tt te (sig0 idx σ) H1 Q

section
variable {prog : Program} {w : World} {A : Around} {R : Result → Shared → Prop} {s : Shared}
theorem codeAny_compLoop_any {elt target iter : Expr} {ifs : List Expr} {scope : Scope} {pos : Pos} {it acc : Value} {env : Env} (I : Nat → Shared → Prop)
    (turn : ∀ n s, I n s → wpAny (model prog w) A (pyNext it) (fun r s₁ => match r with
      | none => R (.ok .next) s₁
      | some v => wpAny (model prog w) A (letOwnedTupleGo target it v) (fun _ s₀ => wpAny (model prog w) A (assign target env v) (fun _ s₂ =>
          wpAny (model prog w) A (forIn ifs true fun c r => if r = true then do let ok ← isTrue c env (eval c env); pure (ForInStep.yield ok) else pure (ForInStep.yield r)) (fun ok s₃ =>
            if ok = true then wpAny (model prog w) A (eval elt env) (fun x s₄ =>
              wpAny (model prog w) A (call (.builtin "list.append") [acc, x]) (fun _ s₅ => ∃ m, m < n ∧ I m s₅) (fun _ _ => False) s₄) (fun _ _ => False) s₃
            else ∃ m, m < n ∧ I m s₃) (fun _ _ => False) s₂) (fun _ _ => False) s₀) (fun _ _ => False) s₁) (fun _ _ => False) s)
    (n : Nat) (h : I n s) :
    codeAny (model prog w) A (.compLoop (.ListComp elt [⟨target, iter, ifs, 0⟩] scope pos) 0 it acc env) R s := by
  refine codeAny_loop rfl I (fun n s hI => ?_) n h
  show wpAny _ A ((compTurn (.ListComp elt [⟨target, iter, ifs, 0⟩] scope pos) 0 it acc env).onRaise (fun x => do noteFrame x env; theTreesLotGoes x)) _ _ s
  refine wpAny_noted ?_
  rw [compTurn_list]
  have no : ∀ {α : Type} {t : Sem α} {Q : α → Shared → Prop} {E : Value → Shared → Prop} {s : Shared}, wpAny (model prog w) A t Q (fun _ _ => False) s → wpAny (model prog w) A t Q E s := fun hq => wpAny_mono hq (fun _ _ z => z) fun _ _ z => z.elim
  refine wpAny_bind (wpAny_standAt (wpAny_bind (wpAny_mono (turn n s hI) (fun r s₁ h₁ => ?_) fun _ _ h' => h'.elim)))
  cases r with
  | none => exact wpAny_pure h₁
  | some v =>
    refine wpAny_bind (wpAny_mono h₁ (fun _ s₀ h₀ => ?_) fun _ _ h' => h'.elim)
    refine wpAny_bind (wpAny_mono h₀ (fun _ s₂ h₂ => wpAny_bind (wpAny_mono h₂ (fun ok s₃ h₃ => ?_) fun _ _ h' => h'.elim)) fun _ _ h' => h'.elim)
    cases ok with
    | false => exact wpAny_pure ⟨rfl, h₃⟩
    | true =>
      exact wpAny_bind (wpAny_bind (wpAny_mono h₃ (fun x s₄ h₄ => wpAny_bind (wpAny_mono h₄ (fun _ s₅ h₅ => wpAny_pure (wpAny_pure ⟨rfl, h₅⟩)) fun _ _ h' => h'.elim)) fun _ _ h' => h'.elim))
end

theorem Un.thenBut {fs ex : List Addr} {H H' : Hp} {h h1 h2 : Heap} {C : Addr} (u : Un fs ex H H' h h1) (hs : Heap.SameBut C h1 h2) (hC : h.get? C = none) : Un fs ex H H' h h2 where
  keep := fun b o e n hb hx => by
    have hne : b ≠ C := fun z => by rw [z, hC] at e; cases e
    exact (hs.2 b hne).trans (u.keep b o e n hb hx)
  slot := fun b o e n hb hx => by
    have hne : b ≠ C := fun z => by rw [z, hC] at e; cases e
    obtain ⟨sl, q⟩ := u.slot b o e n hb hx
    exact ⟨sl, (hs.2 b hne).trans q⟩
  free := u.free
  there := fun b o e hx => by
    have hne : b ≠ C := fun z => by rw [z, hC] at e; cases e
    obtain ⟨o', q⟩ := u.there b o e hx
    exact ⟨o', (hs.2 b hne).trans q⟩
  tups := u.tups
  frzs := u.frzs
  tbls := u.tbls

section
variable {X : Cx} {scope : Scope} {cl : List (Str × Addr)} {NY : List Str} {idx : List (Option Nat)} {elt iter target : Expr} {ifs : List Expr} {pos : Pos} {wi : TI} {g : TG} {tt : TT} {te : TE}

/-- what is known where the block has ended: C its names' dict, not yet let go -/
structure CompEnd (X : Cx) (pins : List (Addr × Obj)) (σ : St) (H : Hp) (C : Addr) (s : Shared) : Prop where
  inv : Inv X pins σ H s
  ns : ∃ m, s.heap.Ns C m
  free : H C = none
  loc : C ≠ X.env.locals
  young : X.s₀.heap.objs.size ≤ C
  cells : ∀ x c, X.env.cells.lookup x = some c → c ≠ C
  pin : ∀ p ∈ X.pn ++ pins, p.1 ≠ C
theorem CompEnd.gone {pins : List (Addr × Obj)} {σ : St} {H : Hp} {C : Addr} {s : Shared} {h' : Heap} (e : CompEnd X pins σ H C s) (hs : Heap.SameBut C s.heap h') : Inv X pins σ H { s with heap := h' } :=
  e.inv.turned (t' := s.toks) (fun b o hb q => (hs.2 b hb).trans q) e.free e.loc (.inr e.young) e.cells e.pin

theorem comp_run {pins : List (Addr × Obj)} {σ : St} {H : Hp} {s : Shared} {Q : VK} {RR : Value → Addr → Result → Shared → Prop} (hcalm : X.calm = true) (S : CompSc X scope cl NY idx) (hi : PI X target iter wi)
    (hg : ∀ C fp s₀ H₀, PG (cxComp X scope cl NY C fp s₀ H₀) target g) (ht : ∀ C fp s₀ H₀, PIf (cxComp X scope cl NY C fp s₀ H₀) ifs tt) (he : ∀ C fp s₀ H₀, PE (cxComp X scope cl NY C fp s₀ H₀) elt te)
    (I : Inv X pins σ H s) (h : tComp idx wi g tt te σ H Q)
    (hRR : ∀ D C H' s', CompEnd X pins σ H' C s' → Q (.ref D) H' → RR (.ref D) C (.ok .next) s') :
    wpAny (model X.prog X.w) X.A (eval iter X.env) (fun x s₁ => wpAny (model X.prog X.w) X.A (pyIter x) (fun it s₂ => wpAny (model X.prog X.w) X.A (newList []) (fun acc s₃ =>
      wpAny (model X.prog X.w) X.A (newFunctionEnv scope X.env.globals cl [] X.env.qual none .none (some X.env)) (fun cenv s₄ =>
        codeAny (model X.prog X.w) X.A (.compStart (.ListComp elt [⟨target, iter, ifs, 0⟩] scope pos) 0 it acc { cenv with scope := relabel scope X.env }) (RR acc cenv.locals) s₄) X.xe s₃) X.xe s₂) X.xe s₁) X.xe s := by
  refine thn (hi pins s σ H _ I h) fun v s1 h1 => thn h1 fun itv s2 h2 => ?_
  obtain ⟨it, fp, tn, J, H2, e, I2, T, st2, f2, r2⟩ := h2
  subst e
  have hD : H2 s2.heap.objs.size = none := I2.hok.fresh (Nat.le_refl _)
  have r3 := r2 s2.heap.objs.size hD
  have I3 : Inv X pins σ (upd H2 s2.heap.objs.size (.lst [])) { s2 with heap := s2.heap.push { cls := .type "list", data := .seq ([] : List Value).toArray } } :=
    I2.laid (t' := s2.toks) (fun b u q => Heap.get?_push_of_some _ q) (Nat.le_refl _) ⟨Nat.zero_le _, [], 0, .nil, Heap.get?_push_size _ rfl⟩
  refine wpAny_newObj_type (wpAny_newFunctionEnv S.cell (by intro y hy; simp at hy) (fun h₁ hns hsb => ?_) S.kind)
  dsimp only at hns hsb ⊢
  -- the iterator's objects lie below
  have hfl0 : ∀ b ∈ fp, b < s2.heap.objs.size := fun b hb => by
    obtain ⟨o, q, _⟩ := T.obj 0 _ st2 b hb
    exact Heap.lt_size q
  have neD : ∀ b ∈ fp, b ≠ s2.heap.objs.size := fun b hb => Nat.ne_of_lt (hfl0 b hb)
  have f3 : ∀ b ∈ fp, FpOk X pins (upd H2 s2.heap.objs.size (.lst [])) b := fun b hb => ⟨by rw [upd_ne (neD b hb)]; exact (f2 b hb).1, (f2 b hb).2⟩
  generalize hs3 : ({ s2 with heap := s2.heap.push { cls := .type "list", data := .seq ([] : List Value).toArray } } : Shared) = s3 at I3
  have es3 : s3.heap = s2.heap.push { cls := .type "list", data := .seq ([] : List Value).toArray } := by rw [← hs3]
  have hfl : ∀ b ∈ fp, b < s3.heap.objs.size := fun b hb => by
    rw [es3, Heap.size_push]
    exact Nat.lt_succ_of_lt (hfl0 b hb)
  have hns' : h₁.Ns s3.heap.objs.size (fun x => ([] : List (Str × Value)).reverse.lookup x) := by rw [es3]; exact hns
  have old : ∀ b o, s3.heap.get? b = some o → h₁.get? b = some o := fun b o q => by
    rw [es3] at q
    refine hsb.extBut b o ?_ (Heap.get?_push_of_some _ q)
    exact Nat.ne_of_lt (Heap.lt_size q)
  have st3 : tn 0 h₁ := T.keep _ _ _ st2 fun b hb o q => old b o (by rw [es3]; exact Heap.get?_push_of_some _ q)
  have IY0 := comp_inv (tk := s2.toks + ([] : List (Str × Value)).length) S I3 f3 hfl hns' old
  have e4 : ({ s3 with heap := h₁, toks := s2.toks + ([] : List (Str × Value)).length } : Shared) = { s2 with heap := h₁, toks := s2.toks + ([] : List (Str × Value)).length } := by rw [← hs3]
  rw [e4] at IY0
  have eC : s3.heap.objs.size = (s2.heap.push { cls := .type "list", data := .seq ([] : List Value).toArray }).objs.size := by rw [es3]
  have hC3 : s3.heap.get? s3.heap.objs.size = none := Heap.get?_none_of_le (Nat.le_refl _)
  obtain ⟨W, ⟨m0, w0⟩, turn⟩ := r3
  -- the loop
  have loop : ∀ s4 : Shared, s4 = { s2 with heap := h₁, toks := s2.toks + ([] : List (Str × Value)).length } →
      codeAny (model X.prog X.w) X.A (.compLoop (.ListComp elt [⟨target, iter, ifs, 0⟩] scope pos) 0 (.ref it) (.ref s2.heap.objs.size) (compEnvC scope cl s3.heap.objs.size X.env)) (RR (.ref s2.heap.objs.size) s3.heap.objs.size) s4 := by
    rintro s4 rfl
    have stat : ∀ {H' : Hp}, (∀ b ∈ fp, H' b = none) → ∀ b ∈ fp, FpOk (cxComp X scope cl NY s3.heap.objs.size fp s3 (upd H2 s2.heap.objs.size (.lst []))) [] H' b := fun {H'} hn b hb =>
      ⟨hn b hb, Nat.ne_of_lt (hfl b hb), (fun z => (IY0.ok.exfs b hb) z), .inl hb, fun x c e => (IY0.ok.exf b hb).2 x c e, fun p hp => absurd (show p ∈ ([] : List (Addr × Obj)) from hp) (by simp)⟩
    refine codeAny_compLoop_any (fun n s' => ∃ i σ' ys H', Inv (cxComp X scope cl NY s3.heap.objs.size fp s3 (upd H2 s2.heap.objs.size (.lst []))) [] σ' H' s' ∧ tn i s'.heap ∧ (∀ b ∈ fp, H' b = none) ∧ W i n σ' ys H') ?_ m0
      ⟨0, _, [], _, IY0, st3, fun b hb => (f3 b hb).1, w0⟩
    rintro n s5 ⟨i, σ5, ys, H5, I5, st5, fr5, w5⟩
    obtain ⟨hacc, alt⟩ := turn i n σ5 ys H5 w5
    rcases alt with ⟨stop, qn⟩ | ⟨go, N, hN, step⟩
    · refine thn (T.done (cxComp X scope cl NY s3.heap.objs.size fp s3 (upd H2 s2.heap.objs.size (.lst []))) rfl rfl rfl hcalm i [] s5 σ5 H5 (fun _ _ => False) I5 (stat fr5) st5 stop) fun r s6 ⟨hr, I6⟩ => ?_
      subst hr
      have I7 : Inv X pins σ H5 s6 := I3.call' (s' := s6) (ch := fp) I6.os I6.base I6.hok I6.bare fun b hb => ⟨(f3 b hb).2.2.2.1, (f3 b hb).2.1, (f3 b hb).2.2.2.2.1, (f3 b hb).2.2.2.2.2⟩
      refine hRR _ _ H5 s6 ⟨I7, ?_, I6.free, Nat.ne_of_gt I3.lt, I3.sz, fun x c e => ?_, fun p hp z => ?_⟩ qn
      · obtain ⟨m, hn, _⟩ := I6.loc
        exact ⟨m, hn⟩
      · obtain ⟨v, q⟩ := I3.cell x c e
        exact Nat.ne_of_lt q.lt
      · have q := (I3.pin p hp).1
        rw [z, hC3] at q
        cases q
    · refine thn (T.item (cxComp X scope cl NY s3.heap.objs.size fp s3 (upd H2 s2.heap.objs.size (.lst []))) rfl rfl rfl hcalm i [] s5 σ5 H5 (fun _ _ => False) I5 (stat fr5) st5 go) fun r s6 ⟨u, hr, h6⟩ => ?_
      subst hr
      refine thn h6 fun _ s7 ⟨x, H7, I7, r7, y7, st7, fr7⟩ => ?_
      have I7' := I7.pinned (stat fr7) (T.obj _ _ st7)
      have back : ∀ {σ8 : St} {ys8 : List V} {H8 : Hp} {s8 : Shared}, Inv (cxComp X scope cl NY s3.heap.objs.size fp s3 (upd H2 s2.heap.objs.size (.lst []))) ([] ++ pinsAt fp s7.heap) σ8 H8 s8 → N σ8 ys8 H8 →
          ∃ m, m < n ∧ ∃ i σ' ys H', Inv (cxComp X scope cl NY s3.heap.objs.size fp s3 (upd H2 s2.heap.objs.size (.lst []))) [] σ' H' s8 ∧ tn i s8.heap ∧ (∀ b ∈ fp, H' b = none) ∧ W i m σ' ys H' := fun {σ8 ys8 H8 s8} I8 n8 => by
        obtain ⟨m', hm, w8⟩ := hN σ8 ys8 H8 n8
        refine ⟨m', hm, i + 1, σ8, ys8, H8, I8.unpinned, T.keep _ _ _ st7 fun b hb o e => (I8.pin (b, o) (List.mem_append_right _ (List.mem_append_right _ (mem_pinsAt hb e)))).1, fun b hb => ?_, w8⟩
        obtain ⟨o, e, d⟩ := T.obj _ _ st7 b hb
        exact (I8.pin (b, o) (List.mem_append_right _ (List.mem_append_right _ (mem_pinsAt hb e)))).2.1
      refine thn (hg _ _ _ _ _ s7 σ5 H7 x u _ I7' r7 (step x H7 y7)) fun _ s8 ⟨σ8, H8, I8, q8⟩ => ?_
      refine thn (ht _ _ _ _ _ s8 σ8 H8 _ I8 q8) fun ok s9 ⟨H9, I9, q9⟩ => ?_
      cases ok with
      | false => exact iteF (back I9 q9)
      | true =>
        refine iteT ?_
        refine thn (he _ _ _ _ _ s9 σ8 H9 _ I9 q9) fun y s10 ⟨yv, H10, I10, r10, hD10, hz10, n10⟩ => ?_
        refine thn (mt_append _ s10 σ8 H10 (.ref s2.heap.objs.size) [yv] (.ref s2.heap.objs.size) [y] (fun v H' => v = .non ∧ H' = upd H10 s2.heap.objs.size (.lst (ys ++ [yv]))) I10 rfl (.cons r10 .nil) ⟨_, ys, yv, rfl, rfl, hD10, hz10, rfl, rfl⟩) fun _ s11 ⟨_, H11, I11, _, _, e11⟩ => ?_
        subst e11
        exact back I11 n10
  have e5 : (compEnvC scope cl s3.heap.objs.size X.env) = { newEnv scope (s2.heap.push { cls := .type "list", data := .seq ([] : List Value).toArray }).objs.size X.env.globals cl X.env.qual none .none (some X.env) X.env.builtins with scope := relabel scope X.env } := by
    rw [es3]
    rfl
  have L1 := loop _ rfl
  rw [eC] at L1
  exact codeAny_compStart_list L1 (T.self _ 0 _ _ _ st3 L1)

/-- [elt for target in iter if ..] -/
theorem pe_comp (hcalm : X.calm = true) (S : CompSc X scope cl NY idx) (hi : PI X target iter wi) (hg : ∀ C fp s₀ H₀, PG (cxComp X scope cl NY C fp s₀ H₀) target g) (ht : ∀ C fp s₀ H₀, PIf (cxComp X scope cl NY C fp s₀ H₀) ifs tt)
    (he : ∀ C fp s₀ H₀, PE (cxComp X scope cl NY C fp s₀ H₀) elt te) (hs : ∀ x, foldedSetIterable iter X.env x = pure x := by intro _; rfl) : PE X (.ListComp elt [⟨target, iter, ifs, 0⟩] scope pos) (tComp idx wi g tt te) := by
  intro pins s σ H Q I h
  rw [eval_ListComp]
  refine wpAny_comprehension_free (use := none) rfl hs S.clos S.kind S.names ?_
  refine comp_run (RR := fun acc C => compPost (model X.prog X.w) X.A X.xe none (EP X pins σ Q) acc C) hcalm S hi hg ht he I h ?_
  intro D C H' s' e q
  obtain ⟨m, hn⟩ := e.ns
  exact ⟨m, hn, fun h' hs' => ⟨.ref D, H', e.gone hs', rfl, q⟩⟩

/-- name = [elt for ..], where the stores are exchanged -/
def tSetComp (i : Nat) (te : TE) : TS := fun D σ H => te σ H fun v H1 => D.nx (σ.set i (some v)) H1
theorem ps_setcomp {i : Nat} {x : Str} {pos' spos : Pos} (hN : X.N.Nodup) (hx : X.N[i]? = some x) (hl : X.env.scope.names.lookup x = some .local) (hcalm : X.calm = true) (S : CompSc X scope cl NY idx) (hi : PI X target iter wi)
    (hg : ∀ C fp s₀ H₀, PG (cxComp X scope cl NY C fp s₀ H₀) target g) (ht : ∀ C fp s₀ H₀, PIf (cxComp X scope cl NY C fp s₀ H₀) ifs tt) (he : ∀ C fp s₀ H₀, PE (cxComp X scope cl NY C fp s₀ H₀) elt te)
    (hsw : swapsWith (.ListComp elt [⟨target, iter, ifs, 0⟩] scope pos) (some (.Name x pos')) spos.line X.env = pure true) (hs : ∀ x, foldedSetIterable iter X.env x = pure x := by intro _; rfl) :
    PS X (.Assign [.Name x pos'] (.ListComp elt [⟨target, iter, ifs, 0⟩] scope pos) spos) (tSetComp i (tComp idx wi g tt te)) := by
  intro pins s σ H D I h
  rw [exec_Assign_Name_used _ _ _ _ hsw]
  refine wpAny_bind (wpAny_standAt (wpAny_bind ?_))
  show wpAny _ X.A (do let _ ← comprehension (.ListComp elt [⟨target, iter, ifs, 0⟩] scope pos) scope X.env _ (newList []) false (eval iter X.env) (some (assign (.Name x pos') X.env))) _ _ s
  refine wpAny_bind (wpAny_mono (wpAny_comprehension_free (use := some (assign (.Name x pos') X.env)) (Q := fun _ s' => ∃ σ' H', Inv X pins σ' H' s' ∧ D.nx σ' H') rfl hs S.clos S.kind S.names ?_) (fun _ s' hq => wpAny_pure (wpAny_pure hq)) fun _ _ e => e)
  refine comp_run (RR := fun acc C => compPost (model X.prog X.w) X.A X.xe (some (assign (.Name x pos') X.env)) (fun _ s' => ∃ σ' H', Inv X pins σ' H' s' ∧ D.nx σ' H') acc C) hcalm S hi hg ht he I h ?_
  intro D' C H' s' e q
  refine wpAny_assign_Name (store_ok2 e.inv hN hx (.inl hl) (v := .ref D') (u := .ref D') rfl (fun s'' I'' sb => ?_) (.inr hl))
  obtain ⟨a, hsb, ha⟩ := sb
  have neC : C ≠ a := by
    rcases ha with rfl | ha
    · exact e.loc
    · exact fun z => e.cells _ _ ha z.symm
  obtain ⟨m, hn⟩ := e.ns
  have e2 : CompEnd X pins (σ.set i (some (.ref D'))) H' C s'' := ⟨I'', ⟨m, hn.sameBut hsb neC⟩, e.free, e.loc, e.young, e.cells, e.pin⟩
  exact ⟨m, hn.sameBut hsb neC, fun h' hs' => ⟨_, H', e2.gone hs', q⟩⟩
end

/-! ### the forms one uses -/
section
variable {K : PySem.W.Frag} {a D : Addr} {xs : List V} {g : TG} {tt : TT} {te : TE} {σ0 : St} {H1 : Hp} {Q : VK}
/-- over a list that stays; Pv: the items taken, the block's names, the new items, the heap (where D holds the new items) -/
theorem comp_list (Pv : Nat → St → List V → Hp → Prop) (h0 : Pv 0 σ0 [] (upd H1 D (.lst []))) (hd : ∀ i σ ys H, i ≤ xs.length → Pv i σ ys H → H D = some (.lst ys) ∧ SqL K H a xs)
    (hs : ∀ i x σ ys H, xs[i]? = some x → Pv i σ ys H → g x σ H fun σ3 H3 => tt σ3 H3 fun b H4 => if b = true then te σ3 H4 fun y H5 => H5 D = some (.lst ys) ∧ ys.length < sizeLine ∧ Pv (i + 1) σ3 (ys ++ [y]) (upd H5 D (.lst (ys ++ [y]))) else Pv (i + 1) σ3 ys H4)
    (hq : ∀ σ ys H, Pv xs.length σ ys H → Q (.ref D) H) : CompW (Itl K a) D g tt te σ0 H1 Q := by
  refine ⟨fun i m σ ys H => m = xs.length - i ∧ i ≤ xs.length ∧ Pv i σ ys H, ⟨xs.length, by simp, Nat.zero_le _, h0⟩, ?_⟩
  rintro i m σ ys H ⟨rfl, hi, p⟩
  obtain ⟨hD, q⟩ := hd i σ ys H hi p
  refine ⟨hD, ?_⟩
  by_cases hlt : i < xs.length
  · refine .inr ⟨⟨xs, xs[i], q, by simp [hlt]⟩, Pv (i + 1), fun σ' ys' H' p' => ⟨xs.length - (i + 1), by omega, rfl, hlt, p'⟩, fun x H' y => ?_⟩
    obtain ⟨e, y⟩ := y
    subst e
    exact hs i x σ ys _ (y xs q) p
  · have e : i = xs.length := by omega
    subst e
    exact .inl ⟨⟨xs, q, Nat.le_refl _⟩, hq σ ys H p⟩
theorem comp_tup (Pv : Nat → St → List V → Hp → Prop) (h0 : Pv 0 σ0 [] (upd H1 D (.lst []))) (hd : ∀ i σ ys H, i ≤ xs.length → Pv i σ ys H → H D = some (.lst ys) ∧ SqT K H a xs)
    (hs : ∀ i x σ ys H, xs[i]? = some x → Pv i σ ys H → g x σ H fun σ3 H3 => tt σ3 H3 fun b H4 => if b = true then te σ3 H4 fun y H5 => H5 D = some (.lst ys) ∧ ys.length < sizeLine ∧ Pv (i + 1) σ3 (ys ++ [y]) (upd H5 D (.lst (ys ++ [y]))) else Pv (i + 1) σ3 ys H4)
    (hq : ∀ σ ys H, Pv xs.length σ ys H → Q (.ref D) H) : CompW (Itt K a) D g tt te σ0 H1 Q := by
  refine ⟨fun i m σ ys H => m = xs.length - i ∧ i ≤ xs.length ∧ Pv i σ ys H, ⟨xs.length, by simp, Nat.zero_le _, h0⟩, ?_⟩
  rintro i m σ ys H ⟨rfl, hi, p⟩
  obtain ⟨hD, q⟩ := hd i σ ys H hi p
  refine ⟨hD, ?_⟩
  by_cases hlt : i < xs.length
  · refine .inr ⟨⟨xs, xs[i], q, by simp [hlt]⟩, Pv (i + 1), fun σ' ys' H' p' => ⟨xs.length - (i + 1), by omega, rfl, hlt, p'⟩, fun x H' y => ?_⟩
    obtain ⟨e, y⟩ := y
    subst e
    exact hs i x σ ys _ (y xs q) p
  · have e : i = xs.length := by omega
    subst e
    exact .inl ⟨⟨xs, q, Nat.le_refl _⟩, hq σ ys H p⟩
theorem comp_range {lo : Int} {n : Nat} (Pv : Nat → St → List V → Hp → Prop) (h0 : Pv 0 σ0 [] (upd H1 D (.lst []))) (hd : ∀ i σ ys H, i ≤ n → Pv i σ ys H → H D = some (.lst ys))
    (hs : ∀ i σ ys H, i < n → Pv i σ ys H → g (.int (lo + i)) σ H fun σ3 H3 => tt σ3 H3 fun b H4 => if b = true then te σ3 H4 fun y H5 => H5 D = some (.lst ys) ∧ ys.length < sizeLine ∧ Pv (i + 1) σ3 (ys ++ [y]) (upd H5 D (.lst (ys ++ [y]))) else Pv (i + 1) σ3 ys H4)
    (hq : ∀ σ ys H, Pv n σ ys H → Q (.ref D) H) : CompW (Itr lo n) D g tt te σ0 H1 Q := by
  refine ⟨fun i m σ ys H => m = n - i ∧ i ≤ n ∧ Pv i σ ys H, ⟨n, by simp, Nat.zero_le _, h0⟩, ?_⟩
  rintro i m σ ys H ⟨rfl, hi, p⟩
  refine ⟨hd i σ ys H hi p, ?_⟩
  by_cases hlt : i < n
  · refine .inr ⟨hlt, Pv (i + 1), fun σ' ys' H' p' => ⟨n - (i + 1), by omega, rfl, hlt, p'⟩, fun x H' y => ?_⟩
    obtain ⟨e, y⟩ := y
    subst e y
    exact hs i σ ys _ hlt p
  · have e : i = n := by omega
    subst e
    exact .inl ⟨Nat.le_refl _, hq σ ys H p⟩
end
end L2

/-! more rules: a list unpacked, sum, join, sorted, any, all, a slice with a step, enumerate -/
namespace L2
open PySem PySem.Spec PyProof.Rows
section
variable {X : Cx} {pos : Pos}
def gLst (K : PySem.W.Frag) (n : Nat) (t : TGs) : TG := fun v σ H Q => ∃ a xs, v = .ref a ∧ SqL K H a xs ∧ xs.length = n ∧ t xs σ H Q
/-- (a, b, ..) = a list of that length -/
theorem pg_lst {es : List Expr} {k : Nat} {t : TGs} {n : Nat} (hc : X.calm = true) (h : PGs X es t)
    (hn : (assignEach es X.env).length = n := by rfl) (hst : (assignEach es X.env).findIdx? (·.1) = none := by rfl) : PG X (.Tuple es k pos) (gLst X.K n t) := by
  intro pins s σ H v u Q I r hw
  obtain ⟨a, xs, e1, hq, hl, hw⟩ := hw
  subst e1
  cases r
  obtain ⟨its, rv, pl, hz⟩ := I.list hq
  rw [assign_Tuple]
  refine wpAny_bind (wpAny_standAt ?_)
  unfold unpack
  have hsz : (assignEach es X.env).length = its.toArray.size := by
    rw [hn, List.size_toArray, ← rv.length]
    exact hl.symm
  rw [hsz, hst]
  refine wpAny_bind (wpAny_holding (PySem.W.kun_itemsOf (I.ok.hd hc) pl.isList fun h' hx => ?_))
  have I1 : Inv X pins σ H { s with heap := h' } := I.kept (t' := s.toks) fun b o e => hx b o (Nat.ne_of_lt (Heap.lt_size e)) e
  exact h pins _ σ H xs _ Q I1 (by simpa using rv) hw
theorem call_sum (hc : X.calm = true) : CallR X (.builtin "sum") (fun xs H Q => ∃ (p : Addr) (ns : List Int), xs = [.ref p] ∧ SqL X.K H p (ns.map V.int) ∧ Q (.int ns.sum) H) := by
  intro pins s σ H xs us Q I r h
  obtain ⟨p, ns, rfl, hq, q⟩ := h
  obtain ⟨u, rfl, ru⟩ := vals1 r
  cases ru
  obtain ⟨its, rv, pl, hz⟩ := I.list hq
  have hi : IntsAre its ns := intsAre_of rv
  obtain ⟨zs, ez⟩ := hi.allInts.items
  have hl := pl.isList
  rw [ez] at hl
  refine sum_intListG (I.ok.hd hc) hl fun h' tk t' hk => ?_
  have e1 : numsOf its = zs.toList.map (·.1) := by
    rw [← nums_intItems, ← ez]
  have e2 : preSum (numAt zs) zs.size = ns.sum := by
    rw [preSum_eq, List.take_of_length_le (by simp), ← e1, hi.numsOf]
  rw [e2]
  exact ⟨.int ns.sum, H, I.kept hk, ⟨_, rfl⟩, q⟩
theorem strsAre_of {ss : List Str} : ∀ {us : List Value}, Vals (ss.map V.str) us → StrsAre us ss := by
  induction ss with
  | nil => intro us r; rw [List.map_nil] at r; cases r; exact .nil
  | cons n ns ih =>
    intro us r
    rw [List.map_cons] at r
    cases r with
    | cons r1 r2 =>
      obtain ⟨t, e⟩ := r1
      subst e
      exact .cons n t (ih r2)
theorem mt_join : MtR X "str.join" (fun x vs H Q => ∃ (sep : Str) (p : Addr) (ys : List Str), x = .str sep ∧ vs = [.ref p] ∧ SqL X.K H p (ys.map V.str) ∧ (ys.map (·.length)).sum + ys.length * sep.length ≤ 16777216 ∧ Q (.str (Txt.join sep ys)) H) := by
  intro pins s σ H x vs v us Q I rx rv h
  obtain ⟨sep, p, ys, rfl, rfl, hq, hz, q⟩ := h
  obtain ⟨t, rfl⟩ := rx
  obtain ⟨u, rfl, ru⟩ := vals1 rv
  cases ru
  obtain ⟨its, r, pl, _⟩ := I.list hq
  exact join_list pl.isList (by simpa using strsAre_of r) hz fun t' k => ⟨.str _, H, I.tok _, ⟨_, rfl⟩, q⟩

/-! ### any, all of a list of truths and Nones -/
def isBN : V → Bool
  | .bl _ => true
  | .non => true
  | _ => false
def truV : V → Bool
  | .bl b => b
  | _ => false
theorem truthBN {prog : Program} {w : World} {A : Around} {ys : List V} {its : List Value} (r : Vals ys its) (hb : ys.all isBN = true) : TruthOf prog w A (fun i v => its.toArray[i]? = some v) (fun i => (ys[i]?).elim false truV) := by
  intro i v s Q E hv hq
  have hv' : its[i]? = some v := by simpa using hv
  cases e : ys[i]? with
  | none =>
    rw [r.none_of e] at hv'
    cases hv'
  | some y =>
    obtain ⟨u, hu, ru⟩ := r.get e
    rw [hu] at hv'
    cases hv'
    have hq' : Q ((ys[i]?).elim false truV) s := hq
    rw [e] at hq'
    have hy := List.all_eq_true.mp hb y (List.mem_of_getElem? e)
    cases y with
    | bl b =>
      cases ru
      exact wpAny_truthy_bool hq'
    | non =>
      cases ru
      exact truthy_none hq'
    | _ => cases hy
theorem any_range (ys : List V) : (List.range ys.length).any (fun i => (ys[i]?).elim false truV) = ys.any truV := by
  rw [Bool.eq_iff_iff]
  simp only [List.any_eq_true, List.mem_range]
  constructor
  · rintro ⟨i, hi, h⟩
    refine ⟨ys[i], List.getElem_mem hi, ?_⟩
    simpa [hi] using h
  · rintro ⟨y, hy, h⟩
    obtain ⟨i, hi, rfl⟩ := List.getElem_of_mem hy
    exact ⟨i, hi, by simpa [hi] using h⟩
theorem all_range (ys : List V) : (List.range ys.length).all (fun i => (ys[i]?).elim false truV) = ys.all truV := by
  rw [Bool.eq_iff_iff]
  simp only [List.all_eq_true, List.mem_range]
  constructor
  · intro h y hy
    obtain ⟨i, hi, rfl⟩ := List.getElem_of_mem hy
    simpa [hi] using h i hi
  · intro h i hi
    simpa [hi] using h ys[i] (List.getElem_mem hi)
theorem call_any (hc : X.calm = true) : CallR X (.builtin "any") (fun xs H Q => ∃ (p : Addr) (ys : List V), xs = [.ref p] ∧ SqL X.K H p ys ∧ ys.all isBN = true ∧ Q (.bl (ys.any truV)) H) := by
  intro pins s σ H xs us Q I r h
  obtain ⟨p, ys, rfl, hq, hb, q⟩ := h
  obtain ⟨u, rfl, ru⟩ := vals1 r
  cases ru
  obtain ⟨its, rv, pl, hz⟩ := I.list hq
  have hl := pl.isList
  obtain ⟨o, ho, _⟩ := id hl
  have hlt : p < s.heap.objs.size := Heap.lt_size ho
  refine call_any_walk (wpAny_pyIter_list hl ?_)
  refine ⟨s.heap.objs.size, _, _, _, _, _, _, rfl, Walks.list (A := X.A.in1) (I.ok.hd hc) s.heap.objs.size p (Nat.ne_of_lt hlt) its.toArray, ⟨⟨_, Heap.get?_push_size _ rfl, rfl, rfl⟩, hl.push _⟩, truthBN rv hb, fun h' tk hk => ?_⟩
  have e : (List.range its.toArray.size).any (fun i => (ys[i]?).elim false truV) = ys.any truV := by
    rw [List.size_toArray, ← rv.length]
    exact any_range ys
  rw [e]
  refine ⟨.bl _, H, I.kept fun b o e => hk b o ?_ (Heap.get?_push_of_some _ e), rfl, q⟩
  intro hm
  exact absurd (List.mem_singleton.mp hm) (Nat.ne_of_lt (Heap.lt_size e))
theorem call_all (hc : X.calm = true) : CallR X (.builtin "all") (fun xs H Q => ∃ (p : Addr) (ys : List V), xs = [.ref p] ∧ SqL X.K H p ys ∧ ys.all isBN = true ∧ Q (.bl (ys.all truV)) H) := by
  intro pins s σ H xs us Q I r h
  obtain ⟨p, ys, rfl, hq, hb, q⟩ := h
  obtain ⟨u, rfl, ru⟩ := vals1 r
  cases ru
  obtain ⟨its, rv, pl, hz⟩ := I.list hq
  have hl := pl.isList
  obtain ⟨o, ho, _⟩ := id hl
  have hlt : p < s.heap.objs.size := Heap.lt_size ho
  refine call_all_walk (wpAny_pyIter_list hl ?_)
  refine ⟨s.heap.objs.size, _, _, _, _, _, _, rfl, Walks.list (A := X.A.in1) (I.ok.hd hc) s.heap.objs.size p (Nat.ne_of_lt hlt) its.toArray, ⟨⟨_, Heap.get?_push_size _ rfl, rfl, rfl⟩, hl.push _⟩, truthBN rv hb, fun h' tk hk => ?_⟩
  have e : (List.range its.toArray.size).all (fun i => (ys[i]?).elim false truV) = ys.all truV := by
    rw [List.size_toArray, ← rv.length]
    exact all_range ys
  rw [e]
  refine ⟨.bl _, H, I.kept fun b o e => hk b o ?_ (Heap.get?_push_of_some _ e), rfl, q⟩
  intro hm
  exact absurd (List.mem_singleton.mp hm) (Nat.ne_of_lt (Heap.lt_size e))

/-! ### a list of ints cut with a step: some of its ints -/
theorem pick_ints {its : List Value} {ns : List Int} (hi : IntsAre its ns) : ∀ (js : List Nat), ∃ ms : List Int, Vals (ms.map V.int) (js.filterMap (its.toArray[·]?)) ∧ ms.length ≤ js.length
  | [] => ⟨[], .nil, Nat.le_refl _⟩
  | j :: r => by
    obtain ⟨ms, h1, h2⟩ := pick_ints hi r
    rw [List.filterMap_cons]
    cases e : its.toArray[j]? with
    | none => exact ⟨ms, h1, by rw [List.length_cons]; omega⟩
    | some v =>
      have ev : its[j]? = some v := by simpa using e
      obtain ⟨a, t, rfl⟩ := hi.allInts v (by simpa using List.mem_of_getElem? ev)
      exact ⟨a :: ms, .cons ⟨t, rfl⟩ h1, by rw [List.length_cons, List.length_cons]; omega⟩
def rSl3 (K : PySem.W.Frag) : V → Option Int → Option Int → Option Int → Hp → VK → Prop := fun x lo hi st H Q => ∃ (a : Addr) (ns : List Int) (c : Int), x = .ref a ∧ SqL K H a (ns.map V.int) ∧ st = some c ∧ 0 < c ∧ ns.length ≤ 1000 ∧ ∀ (p : Addr) (ms : List Int), H p = none → ms.length ≤ 1000 → Q (.ref p) (upd H p (.lst (List.map V.int ms)))
theorem range_len {lo hi c : Int} {n : Nat} (h0 : 0 < c) (h1 : 0 ≤ lo) (h2 : hi ≤ n) : (sliceRange lo hi c).length ≤ n := by
  unfold sliceRange
  rw [List.length_map, List.length_range, if_pos h0]
  by_cases h : lo < hi
  · rw [if_pos h]
    have h3 : (hi - lo) * 1 ≤ (hi - lo) * c := Int.mul_le_mul_of_nonneg_left (by omega) (by omega)
    have h4 : (hi - lo + c - 1) / c < hi - lo + 1 := by
      refine Int.ediv_lt_of_lt_mul h0 ?_
      rw [Int.add_mul]
      omega
    omega
  · rw [if_neg h]
    exact Nat.zero_le _
theorem pe_slice3 {e : Expr} {te : TE} {lo hi : Option Expr} {est : Expr} {tl th ts : TO} {p2 : Pos} (he : PE X e te) (hl : PO X lo tl) (hu : PO X hi th) (hst : PO X (some est) ts) :
    PE X (.Subscript e (.Slice lo hi (some est) p2) pos) (fun σ H Q => te σ H fun x H1 => tl σ H1 fun l H2 => th σ H2 fun u H3 => ts σ H3 fun c H4 => rSl3 X.K x l u c H4 Q) := by
  intro pins s σ H Q I h
  refine Subscript_ (thn (he pins s σ H _ I h) fun v s1 ⟨x, H1, I1, r1, q1⟩ => ?_)
  refine wpAny_Slice (thn (hl pins s1 σ H1 _ I1 q1) fun vl s2 ⟨l, H2, I2, pl, q2⟩ => thn (hu pins s2 σ H2 _ I2 q2) fun vu s3 ⟨u, H3, I3, pu, q3⟩ => thn (hst pins s3 σ H3 _ I3 q3) fun vs s4 ⟨c, H4, I4, ps, q4⟩ => ?_)
  obtain ⟨a, ns, c', rfl, hS, rfl, hc, hlen, q⟩ := q4
  cases r1
  have I5 : Inv X pins σ H4 { s4 with heap := s4.heap.push { cls := .type "slice", data := .fields #[vl, vu, vs] } } := I4.kept (t' := s4.toks) fun b ob q => Heap.get?_push_of_some _ q
  obtain ⟨its, r, ht, hz⟩ := I5.list hS
  have hlen2 := r.length
  rw [List.length_map] at hlen2
  obtain ⟨ms, hv, hm⟩ := pick_ints (intsAre_of r) (sliceRange (sliceBounds l u (some c') its.toArray.size).1 (sliceBounds l u (some c') its.toArray.size).2.1 (sliceBounds l u (some c') its.toArray.size).2.2)
  have hms : ms.length ≤ 1000 := by
    refine Nat.le_trans hm (Nat.le_trans (range_len (n := its.toArray.size) hc ?_ ?_) (by rw [List.size_toArray]; omega))
    · cases l with
      | none => simp [sliceBounds, hc]
      | some i =>
        simp only [sliceBounds, Option.getD_some, if_pos hc]
        split <;> omega
    · cases u with
      | none => simp [sliceBounds, hc]
      | some i =>
        simp only [sliceBounds, Option.getD_some, if_pos hc]
        split <;> omega
  show wpAny (model X.prog X.w) X.A (subscriptTail e (.Slice lo hi (some est) p2) (.ref a) (.ref s4.heap.objs.size)) (EP X pins σ Q) X.xe { s4 with heap := s4.heap.push { cls := .type "slice", data := .fields #[vl, vu, vs] } }
  refine tail_any (ops := [.ref a, .ref s4.heap.objs.size]) ht.isList.typeIs slot_list_getitem.lookup ?_ (by with_unfolding_all rfl)
  refine wpAny_getItem_list_slice ht.isList (Heap.IsSliceOf.new ..) pl pu ps (by intro z; have : c' = 0 := Option.some.inj z; omega) ?_ (by rw [List.size_toArray, sizeLine_eq]; omega)
  refine ⟨.ref _, _, I5.laid (t' := s4.toks) (o := .lst (ms.map V.int)) (fun b ob q => Heap.get?_push_of_some _ q) (Nat.le_refl _) ?_, rfl, q _ ms (I5.hok.fresh (Nat.le_refl _)) hms⟩
  refine ⟨by rw [List.length_map]; exact Nat.le_of_lt (small1000 hms), _, 0, hv, ?_⟩
  exact Heap.get?_push_size _ rfl
end

theorem intsAre_by : ∀ (l : List Value) (ks : List Int), l.length = ks.length → (∀ (i : Nat) (v : Value), l[i]? = some v → ∃ (k : Int) (t : Tok), ks[i]? = some k ∧ v = .int k t) → IntsAre l ks
  | [], [], _, _ => .nil
  | [], _ :: _, h, _ => by cases h
  | _ :: _, [], h, _ => by cases h
  | v :: l, k :: ks, h, f => by
    obtain ⟨k', t, e1, e2⟩ := f 0 v rfl
    have e1' : k = k' := Option.some.inj e1
    subst e1' e2
    exact .cons k t (intsAre_by l ks (by simpa using h) fun i u hu => f (i + 1) u (by simpa using hu))
theorem pair_get {κ : Type} : ∀ {kvs : List (κ × V)} {vs : List (κ × Value)} {i : Nat} {q : κ × Value}, KV kvs vs → vs[i]? = some q → ∃ p, kvs[i]? = some p ∧ p.1 = q.1 ∧ RelV p.2 q.2
  | _, _, _, _, .nil, e => by cases e
  | _, _, 0, _, .cons r _, e => by
    have e' := Option.some.inj e
    subst e'
    exact ⟨_, rfl, r.1, r.2⟩
  | _, _, i + 1, q, .cons _ t, e => by
    obtain ⟨p, h1, h2⟩ := pair_get (i := i) (q := q) t (by simpa using e)
    exact ⟨p, by simpa using h1, h2⟩
/-! ### sorted(d), d a dict whose keys are ints -/
section
variable {X : Cx}
theorem call_sorted (hc : X.calm = true) : CallR X (.builtin "sorted") (fun xs H Q => ∃ (p : Addr) (kvs : List (Key × V)) (ks : List Int), xs = [.ref p] ∧ H p = some (.dK kvs) ∧ kvs.map (·.1) = ks.map Sum.inl ∧ ks.length < 64 ∧
    ∀ (l : Addr) (ns' : List Int), H l = none → List.Perm ns' ks → List.Pairwise (· ≤ ·) ns' → Q (.ref l) (upd H l (.lst (List.map V.int ns')))) := by
  intro pins s σ H xs us Q I r h
  obtain ⟨p, kvs, ks, rfl, hp, hk, h64, q⟩ := h
  obtain ⟨u, rfl, ru⟩ := vals1 r
  cases ru
  obtain ⟨z, hd, vs, rel, dd⟩ : kvs.length ≤ sizeLine ∧ (p == sysModules) = false ∧ ∃ vs, KV kvs vs ∧ s.heap.DictOf (mixKind X.prog X.w) p vs := I.hok p _ hp
  obtain ⟨ep, hat⟩ := dd.dictAt
  have hlen : kvs.length = vs.length := Paired.length rel
  have hkl : ks.length = kvs.length := by
    have e := congrArg List.length hk
    rw [List.length_map, List.length_map] at e
    exact e.symm
  refine Calls.call_function_entry kind_sorted plain_sorted entry_sorted (args_sorted1 _) ?_
  unfold Builtin.«sorted»
  refine wpAny_bind (m := checkCount "sorted" 1 1 _) (wpAny_pure ?_)
  refine wpAny_bind (PySem.W.kdu_collect (A := X.A.in1) (PySem.W.kdl_dict (knd := mixKind X.prog X.w) (kvs := vs) (ep := ep) hd) (I.ok.hd hc) hat (by omega) fun h' tk acc hkp hacc => ?_)
  have hl : acc.toList.length = vs.length := by rw [Array.length_toList]; exact hacc.1
  have hints : IntsAre acc.toList ks := by
    refine intsAre_by _ _ (by rw [hl]; omega) fun i v hv => ?_
    obtain ⟨k, x, hx, hkv⟩ := hacc.2 i v (by rw [← Array.getElem?_toList]; exact hv)
    obtain ⟨q1, hq1, hq2, _⟩ := pair_get rel hx
    have e1 : (kvs.map (·.1))[i]? = some k := by rw [List.getElem?_map, hq1]; exact congrArg some hq2
    rw [hk, List.getElem?_map] at e1
    cases e2 : ks[i]? with
    | none => rw [e2] at e1; cases e1
    | some n =>
      rw [e2] at e1
      have e3 : (Sum.inl n : Key) = k := Option.some.inj e1
      subst e3
      obtain ⟨t, et⟩ := Value.isInt_shape (k := n) (v := v) hkv
      exact ⟨n, t, rfl, et⟩
  refine wpAny_bind (wpAny_newList ?_ (by rw [hl]; omega))
  have I1 : Inv X pins σ H { s with heap := h', toks := tk } := I.kept hkp
  have hoL : (h'.push (seqObj "list" acc.toList.toArray 0)).get? h'.objs.size = some (seqObj "list" acc.toList.toArray 0) := Heap.get?_push_size _ rfl
  refine wpAny_bind (wpAny_holding (wpAny_call_entry slot_list_sort ⟨_, hoL, rfl⟩ entry_list_sort (list_sort_tree hoL hints (by omega) fun out ns' a1 a2 a3 => ⟨_, rfl, ?_⟩) (args_list_sort _)))
  refine wpAny_pure ⟨_, rfl, ?_⟩
  have hn := I1.hok.fresh (a := h'.objs.size) (Nat.le_refl _)
  obtain ⟨e, he⟩ := sortedHeap_at (out := out) hoL
  have I2 : Inv X pins σ (upd H h'.objs.size (.lst (ns'.map V.int))) { s with heap := sortedHeap (h'.push (seqObj "list" acc.toList.toArray 0)) h'.objs.size acc.toList out, toks := tk } := by
    refine I1.laid (t' := tk) (fun b o eb => ?_) (Nat.le_refl _) ?_
    · have hb : b < h'.objs.size := Heap.lt_size eb
      rw [sortedHeap_old (Nat.ne_of_lt hb) (by rw [size_push']; exact Nat.lt_succ_of_lt hb)]
      exact Heap.get?_push_of_some _ eb
    · refine ⟨?_, out.toList, e, ?_, ?_⟩
      · rw [List.length_map, a2.length_eq]
        exact Nat.le_of_lt (small1000 (by omega))
      · exact vals_ints a1
      · simpa using he
  exact ⟨.ref h'.objs.size, _, I2, rfl, q _ ns' hn a2 a3⟩
end
end L2
namespace L2
open PySem PySem.Spec PyProof.Rows
/-! ### for i, x in enumerate(a list) -/
def Ite (K : PySem.W.Frag) (a : Addr) : It :=
  ⟨fun i H => ∃ xs x, SqL K H a xs ∧ xs[i]? = some x, fun i H x H' => ∃ t v, H t = none ∧ x = .ref t ∧ H' = upd H t (.tup [.int i, v]) ∧ ∀ xs, SqL K H a xs → xs[i]? = some v, fun i H => ∃ xs, SqL K H a xs ∧ xs.length ≤ i⟩
theorem turn_enum {P : Program} {w : World} {K : PySem.W.Frag} {es : List Expr} {k1 : Nat} {pos : Pos} (a e it : Addr) (hne : e ≠ it) : Turn P w K (.Tuple es k1 pos) (Ite K a) [e, it] e (fun i h => (∃ old, IsEnum h e it i old) ∧ h.IsListIter it a i) where
  mem := by simp
  obj := fun i h st b hb => by
    obtain ⟨⟨old, h1⟩, o, h2, _, h4⟩ := st
    rcases List.mem_cons.mp hb with rfl | hb
    · exact ⟨_, h1, fun v z => by
        have z' : Data.fields _ = Data.cell v := z
        cases z'⟩
    · have e : b = it := List.mem_singleton.mp hb
      subst e
      exact ⟨o, h2, fun v z => by rw [h4] at z; cases z⟩
  keep := fun i h h' st k => by
    obtain ⟨⟨old, h1⟩, h2⟩ := st
    exact ⟨⟨old, k e (by simp) _ h1⟩, h2.at fun o e => k it (by simp) o e⟩
  item := by
    intro X hP hw hK hc i pins s σ H E I hf st hg
    subst hP hw hK
    obtain ⟨xs, x, hq, hx⟩ := hg
    obtain ⟨its, rv, p, hz⟩ := I.list hq
    obtain ⟨u, hu, ru⟩ := rv.get hx
    obtain ⟨⟨old, h1⟩, h2⟩ := st
    obtain ⟨f0, f1, f2, f3, f4, f5⟩ := hf e (by simp)
    obtain ⟨g0, g1, g2, g3, g4, g5⟩ := hf it (by simp)
    refine wpAny_pyNext_enum_item h1 h2 p.isList (x := u) (by simpa using hu) hne fun h' ho hit' ht hsz hk => ?_
    refine ⟨_, rfl, wpAny_letOwnedTupleGo_enum ho fun h'' he'' hs'' => ?_⟩
    have hel : e < s.heap.objs.size := Heap.lt_size h1
    have hil : it < s.heap.objs.size := by
      obtain ⟨o, q, _⟩ := h2
      exact Heap.lt_size q
    have kk : ∀ b o, b ≠ e → b ≠ it → s.heap.get? b = some o → h''.get? b = some o := fun b o h3 h4 q => hs''.extBut b o h3 (hk b o h3 h4 q)
    -- first the two records turn, then the tuple is laid
    have I1 : Inv X pins σ (upd H s.heap.objs.size (.tup [.int i, x])) { s with heap := h'', toks := s.toks + 1 } := by
      have hn : H s.heap.objs.size = none := I.hok.fresh (Nat.le_refl _)
      have ht'' : h''.get? s.heap.objs.size = some { cls := .type "tuple", data := .seq #[.int i s.toks, u] } := hs''.extBut _ _ (Nat.ne_of_gt hel) ht
      have nt : ∀ b o, H b = some o → b ≠ e ∧ b ≠ it := fun b o q => ⟨fun z => (by rw [z, f0] at q; cases q), fun z => (by rw [z, g0] at q; cases q)⟩
      refine I.step (g' := s.gens) (d' := s.drawn) (t' := s.toks + 1) (ch := [e, it]) (fun b hb => ?_) (fun b o _ _ hc q _ => ?_) (fun b o _ _ hc q _ => ⟨o.slots, ?_⟩) (fun b o _ q n => ?_) (fun b o hc q => ⟨o, ?_⟩) (fun b ys q => ?_) (fun b ob ys q => ?_) (fun b ps q => ⟨#[], ?_⟩) (fun m hm => ?_) (fun b ob q => ?_) I.bare
      · rcases List.mem_cons.mp hb with rfl | hb
        · exact ⟨f3, f1, f4, f5⟩
        · have z : b = it := List.mem_singleton.mp hb
          subst z
          exact ⟨g3, g1, g4, g5⟩
      · exact kk b o (fun z => hc (by simp [z])) (fun z => hc (by simp [z])) q
      · exact kk b o (fun z => hc (by simp [z])) (fun z => hc (by simp [z])) q
      · rw [upd_ne (Nat.ne_of_lt (Heap.lt_size q))]
        exact n
      · exact kk b o (fun z => hc (by simp [z])) (fun z => hc (by simp [z])) q
      · rw [upd_ne (ne_of_none q hn)]
        exact q
      · rw [upd_ne (ne_of_none q hn)]
        exact q
      · rw [upd_ne (ne_of_none q hn), q]
        simp
      · obtain ⟨o, es, ep, ho, r⟩ := hm
        exact ⟨o, es, ep, kk _ o (Ne.symm f1) (Ne.symm g1) ho, r⟩
      · by_cases hb : b = s.heap.objs.size
        · subst hb
          rw [upd_same] at q
          cases q
          exact ⟨by show 2 ≤ sizeLine; decide, [.int i s.toks, u], .cons ⟨_, rfl⟩ (.cons ru .nil), ⟨_, ht'', rfl, _, rfl⟩⟩
        · rw [upd_ne hb] at q
          refine (I.hok b ob q).stay (fun c v hc z => ?_) (fun c z => by rw [upd_ne (ne_of_none z hn)]; exact z) fun c ys z => by rw [upd_ne (ne_of_none z hn)]; exact z
          rcases hc with hc | hc
          · subst hc
            exact kk _ v (nt _ _ q).1 (nt _ _ q).2 z
          · exact kk _ v (nt _ _ hc).1 (nt _ _ hc).2 z
    refine ⟨.ref s.heap.objs.size, _, I1, rfl, ⟨s.heap.objs.size, x, I.hok.fresh (Nat.le_refl _), rfl, rfl, fun ys hy => by rw [I.list_inj hy hq]; exact hx⟩, ⟨⟨u, by simpa using he''⟩, hit'.at fun o q => hs''.extBut it o (Ne.symm hne) q⟩, fun b hb => ?_⟩
    have hlt : b < s.heap.objs.size := by
      rcases List.mem_cons.mp hb with rfl | hb
      · exact hel
      · rw [List.mem_singleton.mp hb]
        exact hil
    rw [upd_ne (Nat.ne_of_lt hlt)]
    exact (hf b hb).1
  done := by
    intro X hP hw hK hc i pins s σ H E I hf st hg
    subst hP hw hK
    obtain ⟨xs, hq, hx⟩ := hg
    obtain ⟨its, rv, p, hz⟩ := I.list hq
    obtain ⟨⟨old, h1⟩, h2⟩ := st
    obtain ⟨g0, g1, g2, g3, g4, g5⟩ := hf it (by simp)
    have hl := rv.length
    exact wpAny_pyNext_enum_end (I.ok.hd hc) h1 h2 p.isList (by simp; omega) fun h' eb => ⟨rfl, I.turned (t' := s.toks) (fun b o hb e => eb b o hb e) g0 g1 g3 g4 g5⟩
  self := fun _ _ _ _ _ st h => by
    obtain ⟨⟨old, h1⟩, _⟩ := st
    exact wpAny_pyIter_enum h1 h
def oneV (f : V → Hp → Prop) : List V → Hp → Prop
  | [x], H => f x H
  | _, _ => False
theorem oneV_inv {f : V → Hp → Prop} : ∀ {vs : List V} {H : Hp}, oneV f vs H → ∃ x, vs = [x] ∧ f x H
  | [x], _, h => ⟨x, rfl, h⟩
section
variable {X : Cx}
def iEnum (K : PySem.W.Frag) (tl : TE) : TI := fun σ H R => tl σ H fun x H1 => ∃ a, x = .ref a ∧ (∃ xs, SqL K H1 a xs) ∧ R (Ite K a) H1
theorem pi_enum {es : List Expr} {k1 : Nat} {tpos : Pos} {l : Expr} {tl : TE} {p pos : Pos} (hg : Gl X "enumerate") (hm : X.mg "enumerate" = none) (hl : PE X l tl) (hs : starEach [l] X.env = [(false, eval l X.env)] := by rfl) :
    PI X (.Tuple es k1 tpos) (.Call (.Name "enumerate" p) [l] [] pos) (iEnum X.K tl) := by
  intro pins s σ H R I h
  have ha := pa_cons hl (pa_nil (X := X)) (by rw [hs]; rfl)
  refine Call_ (ld_blt I hg hm boot_enumerate (PyProof.Rows.callWith_type1 (thn (ha pos pins s σ H (oneV fun x H1 => ∃ a, x = .ref a ∧ (∃ xs, SqL X.K H1 a xs) ∧ R (Ite X.K a) H1) I h) fun us s1 ⟨vs, H1, I1, r1, q1⟩ => ?_) hs rfl))
  · obtain ⟨x, e, a, ex, ⟨xs, hq⟩, q⟩ := oneV_inv q1
    subst e ex
    obtain ⟨u, rfl, ru⟩ := vals1 r1
    cases ru
    obtain ⟨its, rv, pl, hz⟩ := I1.list hq
    refine call_enumerate_list pl.isList fun h' he hit hsz hk => ?_
    refine wpAny_pyIter_enum he ?_
    have I2 : Inv X pins σ H1 { s1 with heap := h' } := I1.kept (t' := s1.toks) hk
    refine ⟨s1.heap.objs.size + 1, [s1.heap.objs.size + 1, s1.heap.objs.size], _, _, H1, rfl, I2, turn_enum a _ _ (Nat.succ_ne_self _), ⟨⟨_, he⟩, hit⟩, fun b hb => ?_, q⟩
    rcases List.mem_cons.mp hb with rfl | hb
    · exact I1.fpOk (Nat.le_succ _) (I1.hok.fresh (Nat.le_succ _))
    · rw [List.mem_singleton.mp hb]
      exact I1.fpOk (Nat.le_refl _) (I1.hok.fresh (Nat.le_refl _))
end
theorem for_enum {K : PySem.W.Frag} {a : Addr} {xs : List V} {g : TG} {tb : TS} {D : Ends} {σ : St} {H : Hp} (Pv : Nat → St → Hp → Prop) (h0 : Pv 0 σ H) (hl : ∀ i σ H, i ≤ xs.length → Pv i σ H → SqL K H a xs)
    (hs : ∀ i x σ H t, xs[i]? = some x → Pv i σ H → H t = none → g (.ref t) σ (upd H t (.tup [.int i, x])) fun σ2 H2 => tb { D with nx := Pv (i + 1), ct := Pv (i + 1), bk := D.nx } σ2 H2) (hd : ∀ σ H, Pv xs.length σ H → D.nx σ H) :
    ∃ W : Nat → Nat → St → Hp → Prop, (∃ m, W 0 m σ H) ∧ ∀ i m σ H, W i m σ H →
      ((Ite K a).stop i H ∧ D.nx σ H) ∨ ((Ite K a).go i H ∧ ∃ N : St → Hp → Prop, (∀ σ' H', N σ' H' → ∃ m', m' < m ∧ W (i + 1) m' σ' H') ∧ ∀ x H', (Ite K a).yld i H x H' → g x σ H' fun σ2 H2 => tb { D with nx := N, ct := N, bk := D.nx } σ2 H2) := by
  refine ⟨fun i m σ H => m = xs.length - i ∧ i ≤ xs.length ∧ Pv i σ H, ⟨xs.length, by simp, Nat.zero_le _, h0⟩, ?_⟩
  rintro i m σ H ⟨rfl, hi, p⟩
  have q := hl i σ H hi p
  by_cases hlt : i < xs.length
  · refine .inr ⟨⟨xs, xs[i], q, by simp [hlt]⟩, Pv (i + 1), fun σ' H' p' => ⟨xs.length - (i + 1), by omega, rfl, hlt, p'⟩, fun x H' y => ?_⟩
    obtain ⟨t, v, ht, rfl, rfl, y⟩ := y
    exact hs i v σ H t (y xs q) p ht
  · have e : i = xs.length := by omega
    subst e
    exact .inl ⟨⟨xs, q, Nat.le_refl _⟩, hd σ H p⟩
end L2
namespace L2
section
open PySem
variable {X : Cx} {K : PySem.W.Frag}
theorem ix_seqK (e : X.K = K) : IxR X (rIx K) := by subst e; exact ix_seq
theorem op_in_seqK (e : X.K = K) : OpR X (compareOp .In) (rIn K false) := by subst e; exact op_in_seq
theorem op_notIn_seqK (e : X.K = K) : OpR X (compareOp .NotIn) (rIn K true) := by subst e; exact op_notIn_seq
theorem call_lenK (e : X.K = K) : CallR X (.builtin "len") (fun xs H Q => ∃ x n, xs = [x] ∧ LenV K x H n ∧ Q (.int n) H) := by subst e; exact call_len
end
end L2

/-! what the sentences are, as data -/
namespace OD
open PySem L2
def absI (i : Int) : Int := if i < 0 then -i else i
theorem absI_pos {i : Int} (h : 0 ≤ i) : absI i = i := by unfold absI; rw [if_neg (by omega)]
/-- ascending without the signs, behind b -/
def Asc : Int → List Int → Prop
  | _, [] => True
  | b, l :: r => b < absI l ∧ Asc (absI l) r
def ClOk (n : Int) (ls : List Int) : Prop := Asc 0 ls ∧ ∀ l ∈ ls, absI l ≤ n
theorem clOk_nil (n : Int) : ClOk n [] := ⟨trivial, fun _ h => nomatch h⟩
def clD (c : List Int) : PyData := .tuple (c.map .int)
def sentD (t : Str) (cs : List (List Int)) : PyData := .tuple [.str t, .list (cs.map clD)]
def WS (t : Str) : Prop := ∀ ch ∈ t.cps.toList, ch = 119 ∨ ch = 115
structure SOk (most : Int) (t : Str) (cs : List (List Int)) : Prop where
  len : (t.length : Int) ≤ most
  ws : WS t
  many : cs.length ≤ 16
  cl : ∀ c ∈ cs, ClOk t.length c

/-! ### a dict of ints -/
def dP (ps : List (Int × Int)) : List (Key × V) := ps.map fun q => (Sum.inl q.1, V.int q.2)
def putP (ps : List (Int × Int)) (k s : Int) : List (Int × Int) := if (ps.any fun q => decide (q.1 = k)) = true then ps.map (fun q => if q.1 = k then (q.1, s) else q) else ps ++ [(k, s)]
theorem any_dP (ps : List (Int × Int)) (k : Int) : ((dP ps).any fun kv => decide (kv.1 = (Sum.inl k : Key))) = ps.any fun q => decide (q.1 = k) := by
  unfold dP
  rw [List.any_map]
  congr 1
  funext q
  show decide ((Sum.inl q.1 : Key) = Sum.inl k) = decide (q.1 = k)
  by_cases e : q.1 = k
  · rw [decide_eq_true e, decide_eq_true (by rw [e])]
  · rw [decide_eq_false e, decide_eq_false fun z => e (Sum.inl.inj z)]
theorem put_dP (ps : List (Int × Int)) (k s : Int) : putK (dP ps) (Sum.inl k) (V.int s) = dP (putP ps k s) := by
  unfold putK putP
  rw [any_dP]
  by_cases h : (ps.any fun q => decide (q.1 = k)) = true
  · rw [if_pos h, if_pos h]
    unfold dP
    rw [List.map_map, List.map_map]
    congr 1
    funext q
    show (if (Sum.inl q.1 : Key) = Sum.inl k then ((Sum.inl q.1 : Key), V.int s) else (Sum.inl q.1, V.int q.2)) = (Sum.inl (if q.1 = k then (q.1, s) else q).1, V.int (if q.1 = k then (q.1, s) else q).2)
    by_cases e : q.1 = k
    · rw [if_pos (by rw [e]), if_pos e]
    · rw [if_neg (fun z => e (Sum.inl.inj z)), if_neg e]
  · rw [if_neg h, if_neg h]
    unfold dP
    rw [List.map_append]
    rfl
theorem keys_dP (ps : List (Int × Int)) : (dP ps).map (·.1) = (ps.map (·.1)).map Sum.inl := by
  unfold dP
  rw [List.map_map, List.map_map]
  rfl
def lookP (ps : List (Int × Int)) (k : Int) : Option Int := (ps.find? fun q => decide (q.1 = k)).map (·.2)
theorem val_dP (ps : List (Int × Int)) (k : Int) : valV (dP ps) (Sum.inl k : Key) = (lookP ps k).map V.int := by
  induction ps with
  | nil => rfl
  | cons q r ih =>
    show valV (((Sum.inl q.1 : Key), V.int q.2) :: dP r) (Sum.inl k) = _
    by_cases e : q.1 = k
    · rw [valV_pos (by rw [e])]
      simp [lookP, List.find?_cons, e]
    · rw [valV_neg (fun z => e (Sum.inl.inj z)), ih]
      simp [lookP, List.find?_cons, e]
structure DOk (n : Int) (ps : List (Int × Int)) : Prop where
  nd : (ps.map (·.1)).Nodup
  rng : ∀ q ∈ ps, 1 ≤ q.1 ∧ q.1 ≤ n
  sg : ∀ q ∈ ps, q.2 = 1 ∨ q.2 = -1
theorem DOk.nil (n : Int) : DOk n [] := ⟨List.nodup_nil, (fun _ h => nomatch h), (fun _ h => nomatch h)⟩
theorem DOk.put {n k s : Int} {ps : List (Int × Int)} (h : DOk n ps) (h1 : 1 ≤ k ∧ k ≤ n) (hs : s = 1 ∨ s = -1) : DOk n (putP ps k s) ∧ (putP ps k s).length ≤ ps.length + 1 := by
  unfold putP
  by_cases a : (ps.any fun q => decide (q.1 = k)) = true
  · rw [if_pos a]
    have e : (ps.map fun q => if q.1 = k then (q.1, s) else q).map (·.1) = ps.map (·.1) := by
      rw [List.map_map]
      congr 1
      funext q
      show (if q.1 = k then (q.1, s) else q).1 = q.1
      split <;> rfl
    refine ⟨⟨by rw [e]; exact h.nd, fun q hq => ?_, fun q hq => ?_⟩, by rw [List.length_map]; omega⟩
    · obtain ⟨q', hq', rfl⟩ := List.mem_map.mp hq
      split
      · exact h.rng q' hq'
      · exact h.rng q' hq'
    · obtain ⟨q', hq', rfl⟩ := List.mem_map.mp hq
      split
      · exact hs
      · exact h.sg q' hq'
  · rw [if_neg a]
    refine ⟨⟨?_, fun q hq => ?_, fun q hq => ?_⟩, by rw [List.length_append]; exact Nat.le_refl _⟩
    · rw [List.map_append]
      refine nd_snoc h.nd fun m => a ?_
      obtain ⟨q, hq, e⟩ := List.mem_map.mp m
      exact List.any_eq_true.mpr ⟨q, hq, decide_eq_true e⟩
    · rcases List.mem_append.mp hq with z | z
      · exact h.rng q z
      · rw [List.mem_singleton.mp z]
        exact h1
    · rcases List.mem_append.mp hq with z | z
      · exact h.sg q z
      · rw [List.mem_singleton.mp z]
        exact hs
def sgP (ps : List (Int × Int)) (k : Int) : Int := (lookP ps k).getD 1
theorem DOk.look {n k : Int} {ps : List (Int × Int)} (h : DOk n ps) (hk : k ∈ ps.map (·.1)) : lookP ps k = some (sgP ps k) ∧ (sgP ps k = 1 ∨ sgP ps k = -1) := by
  obtain ⟨q, hq, e⟩ := List.mem_map.mp hk
  unfold sgP lookP
  cases f : ps.find? fun q => decide (q.1 = k) with
  | none =>
    have := List.find?_eq_none.mp f q hq
    exact absurd (decide_eq_true e) this
  | some z => exact ⟨rfl, h.sg z (List.mem_of_find?_eq_some f)⟩
theorem absI_mul {k s : Int} (hk : 1 ≤ k) (hs : s = 1 ∨ s = -1) : absI (k * s) = k := by
  unfold absI
  rcases hs with rfl | rfl
  · rw [Int.mul_one, if_neg (by omega)]
  · rw [if_pos (by omega)]
    omega
theorem asc_of {f : Int → Int} : ∀ (ks : List Int) (b : Int), 0 ≤ b → (∀ k ∈ ks, b < k) → ks.Pairwise (· < ·) → (∀ k ∈ ks, f k = 1 ∨ f k = -1) → Asc b (ks.map fun k => k * f k)
  | [], _, _, _, _, _ => trivial
  | k :: r, b, h0, hb, hp, hf => by
    have hk := hb k List.mem_cons_self
    have e := absI_mul (s := f k) (show 1 ≤ k by omega) (hf k List.mem_cons_self)
    obtain ⟨p1, p2⟩ := List.pairwise_cons.mp hp
    show b < absI (k * f k) ∧ Asc (absI (k * f k)) (r.map fun k => k * f k)
    rw [e]
    exact ⟨hk, asc_of r k (by omega) p1 p2 fun z hz => hf z (List.mem_cons_of_mem _ hz)⟩
theorem lt_of_le_nodup : ∀ {ks : List Int}, ks.Pairwise (· ≤ ·) → ks.Nodup → ks.Pairwise (· < ·)
  | [], _, _ => List.Pairwise.nil
  | k :: r, hp, hn => by
    obtain ⟨p1, p2⟩ := List.pairwise_cons.mp hp
    obtain ⟨n1, n2⟩ := List.nodup_cons.mp hn
    refine List.pairwise_cons.mpr ⟨fun z hz => ?_, lt_of_le_nodup p2 n2⟩
    have := p1 z hz
    have : k ≠ z := fun e => n1 (e ▸ hz)
    omega
theorem DOk.clause {n : Int} {ps : List (Int × Int)} {ks : List Int} (h : DOk n ps) (hp : ks.Perm (ps.map (·.1))) (hs : ks.Pairwise (· ≤ ·)) : ClOk n (ks.map fun k => k * sgP ps k) := by
  have hm : ∀ k ∈ ks, k ∈ ps.map (·.1) := fun k hk => hp.mem_iff.mp hk
  have hr : ∀ k ∈ ks, 1 ≤ k ∧ k ≤ n := fun k hk => by
    obtain ⟨q, hq, e⟩ := List.mem_map.mp (hm k hk)
    rw [← e]
    exact h.rng q hq
  refine ⟨asc_of ks 0 (Int.le_refl 0) (fun k hk => by have := (hr k hk).1; omega) (lt_of_le_nodup hs (hp.nodup_iff.mpr h.nd)) fun k hk => (h.look (hm k hk)).2, fun l hl => ?_⟩
  obtain ⟨k, hk, rfl⟩ := List.mem_map.mp hl
  rw [absI_mul (hr k hk).1 (h.look (hm k hk)).2]
  exact (hr k hk).2

/-! ### the lists of values -/
theorem RDs_snoc {H : Hp} {d : PyData} {v : V} (h : RD H d v) : ∀ {ds : List PyData} {xs : List V}, RDs H ds xs → RDs H (ds ++ [d]) (xs ++ [v])
  | [], _, t => by
    rw [RDs_nil_inv t]
    exact RDs_cons h RDs_nil
  | _ :: ds, _, t => by
    obtain ⟨y, ys, rfl, h1, t⟩ := RDs_cons_inv t
    exact RDs_cons h1 (RDs_snoc h t)
theorem ints_get {ns : List Int} {i : Nat} {x : V} (h : (ns.map V.int)[i]? = some x) : ∃ z, x = .int z ∧ ns[i]? = some z := by
  rw [List.getElem?_map] at h
  cases e : ns[i]? with
  | none => rw [e] at h; cases h
  | some z =>
    rw [e] at h
    exact ⟨z, (Option.some.inj h).symm, rfl⟩
theorem cut_ints (ns : List Int) (lo hi : Option Int) : ∃ ms : List Int, cutV (ns.map V.int) lo hi = ms.map V.int ∧ ms.length ≤ ns.length := by
  unfold cutV
  rw [List.length_map]
  refine ⟨(ns.drop (HT.sIx ns.length 0 lo)).take (HT.sIx ns.length ns.length hi - HT.sIx ns.length 0 lo), ?_, ?_⟩
  · rw [← List.map_drop, ← List.map_take]
  · rw [List.length_take, List.length_drop]
    omega
end OD

/-! clauses on the heap; the turns as a text; the steps of the drawing loop -/
namespace OD
open PySem L2
/-! ### the turns -/
theorem cps_app (a b : Str) : (a ++ b).cps.toList = a.cps.toList ++ b.cps.toList := by
  show (a.cps ++ b.cps).toList = _
  simp
theorem join_cps {e : Str} (he : e.cps.toList = []) : ∀ ss : List Str, (Str.join e ss).cps.toList = (ss.map fun s => s.cps.toList).flatten
  | [] => rfl
  | [x] => by
    show x.cps.toList = _
    simp
  | x :: y :: r => by
    show ((x ++ e) ++ Str.join e (y :: r)).cps.toList = _
    rw [cps_app, cps_app, he, join_cps he (y :: r)]
    simp
def isSign (s : Str) : Prop := s = ⟨#[119]⟩ ∨ s = ⟨#[115]⟩
theorem signs_flat : ∀ {ss : List Str}, (∀ s ∈ ss, isSign s) → (ss.map fun s => s.cps.toList).flatten.length = ss.length ∧ ∀ ch ∈ (ss.map fun s => s.cps.toList).flatten, ch = 119 ∨ ch = 115
  | [], _ => ⟨rfl, fun _ h => nomatch h⟩
  | s :: r, h => by
    obtain ⟨h1, h2⟩ := signs_flat (ss := r) fun z hz => h z (List.mem_cons_of_mem _ hz)
    rw [List.map_cons, List.flatten_cons]
    rcases h s List.mem_cons_self with rfl | rfl
    · refine ⟨by rw [List.length_append, h1]; show 1 + r.length = r.length + 1; omega, fun ch hc => ?_⟩
      rcases List.mem_append.mp hc with z | z
      · exact .inl (by simpa using z)
      · exact h2 ch z
    · refine ⟨by rw [List.length_append, h1]; show 1 + r.length = r.length + 1; omega, fun ch hc => ?_⟩
      rcases List.mem_append.mp hc with z | z
      · exact .inr (by simpa using z)
      · exact h2 ch z
theorem nosep : (Str.ofString "").cps.toList = [] := by decide +kernel
theorem turns_ok {ss : List Str} (h : ∀ s ∈ ss, isSign s) : (Txt.join "" ss).length = ss.length ∧ WS (Txt.join "" ss) := by
  have e : Txt.join (Str.ofString "") ss = Str.join (Str.ofString "") ss := eq_of_beq (PyProof.Rows.join_plain_closes _ ss)
  obtain ⟨h1, h2⟩ := signs_flat h
  have e2 := join_cps nosep ss
  refine ⟨?_, ?_⟩
  · rw [e]
    show (Str.join (Str.ofString "") ss).cps.size = _
    rw [← Array.length_toList, e2]
    exact h1
  · intro ch hc
    rw [e, e2] at hc
    exact h2 ch hc
theorem sum_signs : ∀ {ss : List Str}, (∀ s ∈ ss, isSign s) → (ss.map fun s => s.length).sum = ss.length
  | [], _ => rfl
  | s :: r, h => by
    rw [List.map_cons, List.sum_cons, sum_signs fun z hz => h z (List.mem_cons_of_mem _ hz), List.length_cons]
    rcases h s List.mem_cons_self with rfl | rfl
    · show 1 + _ = _; omega
    · show 1 + _ = _; omega
theorem ws_at {j : Int} (h0 : 0 ≤ j) (h1 : j < 2) : ∃ c, atI (Str.ofString "ws").cps.toList j = some c ∧ isSign ⟨#[c]⟩ := by
  rcases (by omega : j = 0 ∨ j = 1) with rfl | rfl
  · exact ⟨119, by decide +kernel, .inl rfl⟩
  · exact ⟨115, by decide +kernel, .inr rfl⟩

/-! ### clauses -/
def CL (H : Hp) (c : List Int) (v : V) : Prop := ∃ t, v = .ref t ∧ H t = some (.tup (c.map V.int))
def CLs (H : Hp) : List (List Int) → List V → Prop := Paired (CL H)
theorem CL.mono {H H' : Hp} {c : List Int} {v : V} (h : CL H c v) (k : Same H H') : CL H' c v := let ⟨t, e, z⟩ := h; ⟨t, e, k _ _ z⟩
theorem CL.upd {H : Hp} {c : List Int} {v : V} {q : Addr} {xs : List V} {o : HO} (h : CL H c v) (hq : H q = some (.lst xs)) : CL (upd H q o) c v := by
  obtain ⟨t, e, z⟩ := h
  exact ⟨t, e, by rw [upd_ne (ne_of z hq (by intro w; cases w))]; exact z⟩
theorem CLs.mono {H H' : Hp} (k : Same H H') : ∀ {cs : List (List Int)} {xs : List V}, CLs H cs xs → CLs H' cs xs
  | _, _, .nil => .nil
  | _, _, .cons h t => .cons (h.mono k) (CLs.mono k t)
theorem CLs.upd {H : Hp} {q : Addr} {ys : List V} {o : HO} (hq : H q = some (.lst ys)) : ∀ {cs : List (List Int)} {xs : List V}, CLs H cs xs → CLs (upd H q o) cs xs
  | _, _, .nil => .nil
  | _, _, .cons h t => .cons (h.upd hq) (CLs.upd hq t)
theorem CLs.snoc {H : Hp} {c : List Int} {v : V} (h : CL H c v) {cs : List (List Int)} {xs : List V} (t : CLs H cs xs) : CLs H (cs ++ [c]) (xs ++ [v]) := Paired.snoc t h
theorem CLs.length {H : Hp} {cs : List (List Int)} {xs : List V} (h : CLs H cs xs) : cs.length = xs.length := Paired.length h
theorem CLs.get {H : Hp} : ∀ {cs : List (List Int)} {xs : List V} {j : Nat} {v : V}, CLs H cs xs → xs[j]? = some v → ∃ c, cs[j]? = some c ∧ CL H c v
  | _, _, _, _, .nil, e => by cases e
  | _, _, 0, _, .cons h _, e => ⟨_, rfl, by have e' := Option.some.inj e; subst e'; exact h⟩
  | _, _, j + 1, v, .cons _ t, e => by
    obtain ⟨c, h1, h2⟩ := CLs.get (j := j) (v := v) t (by simpa using e)
    exact ⟨c, by simpa using h1, h2⟩
theorem CL.rd {H : Hp} {c : List Int} {v : V} (h : CL H c v) : RD H (clD c) v := by
  obtain ⟨t, rfl, z⟩ := h
  exact RD_tup z (RDs_ints c)
theorem CLs.rds {H : Hp} : ∀ {cs : List (List Int)} {xs : List V}, CLs H cs xs → RDs H (cs.map clD) xs
  | _, _, .nil => RDs_nil
  | _, _, .cons h t => RDs_cons h.rd (CLs.rds t)
theorem CL.of {H : Hp} {c : List Int} {v : V} (h : RD H (clD c) v) : CL H c v := by
  obtain ⟨a, xs, rfl, h1, h2⟩ := RD_tup_inv h
  refine ⟨a, rfl, ?_⟩
  rw [h1]
  have : ∀ (ns : List Int) (xs : List V), RDs H (ns.map PyData.int) xs → xs = ns.map V.int := by
    intro ns
    induction ns with
    | nil => intro xs r; exact RDs_nil_inv r
    | cons n r ih =>
      intro xs z
      obtain ⟨y, ys, rfl, e, t⟩ := RDs_cons_inv z
      have e' : y = .int n := by
        unfold RD at e
        exact e
      rw [e', ih ys t]
      rfl
  rw [this c xs h2]
theorem CLs.of {H : Hp} : ∀ {cs : List (List Int)} {xs : List V}, RDs H (cs.map clD) xs → CLs H cs xs
  | [], xs, h => by
    rw [RDs_nil_inv h]
    exact .nil
  | c :: cs, xs, h => by
    obtain ⟨y, ys, rfl, h1, h2⟩ := RDs_cons_inv h
    exact .cons (CL.of h1) (CLs.of h2)
theorem sent_rd {H : Hp} {p q : Addr} {t : Str} {cs : List (List Int)} {xs : List V} (hp : H p = some (.tup [.str t, .ref q])) (hq : H q = some (.lst xs)) (h : CLs H cs xs) : RD H (sentD t cs) (.ref p) :=
  RD_tup hp (RDs_cons (RD_str t) (RDs_cons (RD_list hq h.rds) RDs_nil))
theorem sent_inv {H : Hp} {v : V} {t : Str} {cs : List (List Int)} (h : RD H (sentD t cs) v) : ∃ p q xs, v = .ref p ∧ H p = some (.tup [.str t, .ref q]) ∧ H q = some (.lst xs) ∧ CLs H cs xs := by
  obtain ⟨p, ys, rfl, h1, h2⟩ := RD_tup_inv h
  obtain ⟨y, zs, rfl, h3, h4⟩ := RDs_cons_inv h2
  obtain ⟨z, ws, rfl, h5, h6⟩ := RDs_cons_inv h4
  have h7 := RDs_nil_inv h6
  subst h7
  obtain ⟨q, xs, rfl, h8, h9⟩ := RD_list_inv h5
  have e : y = .str t := by
    unfold RD at h3
    exact h3
  subst e
  exact ⟨p, q, xs, rfl, h1, h8, CLs.of h9⟩
/-! shapes -/
theorem canLay_cls : ∀ cs : List (List Int), PyData.canLayAll0 (cs.map clD) = true
  | [] => rfl
  | c :: r => by
    show (PyData.canLayAll0 (c.map PyData.int) && PyData.canLayAll0 (r.map clD)) = true
    rw [PySem.W.ke_canLayAll0, canLay_cls r]
    rfl
theorem depth_cls : ∀ cs : List (List Int), PyData.depthAll (cs.map clD) ≤ 1
  | [] => Nat.zero_le _
  | c :: r => by
    have h := depth_cls r
    show max (PyData.depthAll (c.map PyData.int) + 1) (PyData.depthAll (r.map clD)) ≤ 1
    rw [PySem.W.ke_depthAll]
    omega
theorem shaped_of {d : PyData} (h1 : d.canLay0 = true) (h2 : d.depth ≤ 64) : SeqAt.shaped d = true := by
  unfold SeqAt.shaped
  rw [h1, decide_eq_true h2]
  rfl
theorem shaped_cls (cs : List (List Int)) : SeqAt.shaped (.list (cs.map clD)) = true := by
  refine shaped_of (canLay_cls cs) ?_
  have := depth_cls cs
  show PyData.depthAll (cs.map clD) + 1 ≤ 64
  omega
theorem shaped_cl (c : List Int) : SeqAt.shaped (clD c) = true := shaped_of (PySem.W.ke_canLayAll0 c) (by show PyData.depthAll (c.map PyData.int) + 1 ≤ 64; rw [PySem.W.ke_depthAll]; omega)
theorem shaped_nilL : SeqAt.shaped (.list []) = true := by decide +kernel
theorem shaped_nilT : SeqAt.shaped (.tuple []) = true := by decide +kernel
theorem eqv_cls_nil (cs : List (List Int)) : PyData.eqv (.list (cs.map clD)) (.list []) = decide (cs = []) := by
  cases cs with
  | nil => simp [PyData.eqv, PyData.eqvAll]
  | cons n r => simp [PyData.eqv, PyData.eqvAll]
theorem eqv_cl_nil (c : List Int) : PyData.eqv (clD c) (.tuple []) = decide (c = []) := by
  cases c with
  | nil => simp [clD, PyData.eqv, PyData.eqvAll]
  | cons n r => simp [clD, PyData.eqv, PyData.eqvAll]
mutual
theorem eqv_self : ∀ d : PyData, d.canLay0 = true → PyData.eqv d d = true
  | .none, _ => rfl
  | .bool b, _ => by simp [PyData.eqv]
  | .int i, _ => by simp [PyData.eqv]
  | .str x, _ => by simp [PyData.eqv]
  | .list ds, h => by
    show PyData.eqvAll ds ds = true
    exact eqvAll_self ds h
  | .tuple ds, h => by
    show PyData.eqvAll ds ds = true
    exact eqvAll_self ds h
  | .dict _, h => by cases h
theorem eqvAll_self : ∀ ds : List PyData, PyData.canLayAll0 ds = true → PyData.eqvAll ds ds = true
  | [], _ => rfl
  | d :: r, h => by
    have h' : d.canLay0 = true ∧ PyData.canLayAll0 r = true := by simpa [PyData.canLayAll0] using h
    show (PyData.eqv d d && PyData.eqvAll r r) = true
    rw [eqv_self d h'.1, eqvAll_self r h'.2]
    rfl
end
theorem ws_ok {t : Str} (h : WS t) : PyData.strOk t = true := by
  unfold PyData.strOk
  rw [← Array.all_toList]
  refine List.all_eq_true.mpr fun ch hc => decide_eq_true ?_
  rcases h ch hc with rfl | rfl
  · decide
  · decide
theorem shaped_sent {t : Str} (h : WS t) (cs : List (List Int)) : SeqAt.shaped (sentD t cs) = true := by
  refine shaped_of ?_ ?_
  · show (PyData.strOk t && (PyData.canLayAll0 (cs.map clD) && true)) = true
    rw [ws_ok h, canLay_cls]
    rfl
  · have := depth_cls cs
    show max 0 (max (PyData.depthAll (cs.map clD) + 1) 0) + 1 ≤ 64
    omega

/-! ### the statements of the drawing loop, each with all its ways -/
abbrev oMod : R2 := rI (fun _ j => 0 < j) fun i j => V.int (i % j)
abbrev oDiv : R2 := rI CDiv fun i j => V.int (i / j)
abbrev oGt : R2 := rI0 fun i j => V.bl (decide (j < i))
abbrev oEqA : R2 := fun x y H Q => rEq x y H Q ∨ rEqD x y H Q
abbrev oNeA : R2 := fun x y H Q => rNe x y H Q ∨ rNeD x y H Q
theorem many_step {D : Ends} {σ : St} {H : Hp} {bits mm : Int} (h3 : σ[3]? = some (some (.int bits))) (h4 : σ[4]? = some (some (.int mm))) (m0 : 0 ≤ mm) (m1 : mm ≤ 16) (h : ∀ z : Int, 0 ≤ z → z ≤ 16 → D.nx (σ.set 4 (some (.int z))) H) (he : σ.set 4 (some (.int mm)) = σ) :
    tIfS (tTest (tOp oGt (tOp oMod (tVar 3) (tC (.int 3))) (tC (.int 0)))) (tAsg (tOp oDiv (tVar 4) (tC (.int 3))) (gName 4)) tNext D σ H := by
  refine ⟨_, h3, _, _, rfl, rfl, (by show (0 : Int) < 3; decide), _, _, rfl, rfl, _, rfl, ite2 (fun _ => ?_) (fun _ => ?_)⟩
  · exact ⟨_, h4, _, _, rfl, rfl, ⟨by decide, by decide⟩, h _ (by omega) (by omega)⟩
  · have z := h mm m0 m1
    rw [he] at z
    exact z
theorem empty_step {D : Ends} {σ : St} {H : Hp} {m : Int} {pc : Addr} {lc : List Int} {n : Int} (h9 : σ[9]? = some (some (.int m))) (hpc : H pc = some (.tup (lc.map V.int))) (hlc : ClOk n lc) (he : σ.set 10 (some (.ref pc)) = σ)
    (h : ∀ (pc' : Addr) (lc' : List Int) (H' : Hp), Same H H' → H' pc' = some (.tup (lc'.map V.int)) → ClOk n lc' → D.nx (σ.set 10 (some (.ref pc'))) H') :
    tIfS (tTest (tOp oEqA (tOp oMod (tVar 9) (tC (.int 40))) (tC (.int 7)))) (tAsg (tTup tNil) (gName 10)) tNext D σ H := by
  refine ⟨_, h9, _, _, rfl, rfl, (by show (0 : Int) < 40; decide), .inl ⟨rfl, _, rfl, ite2 (fun _ => ?_) (fun _ => ?_)⟩⟩
  · exact ⟨Nat.zero_le _, fun p hp => h p [] _ (same_new hp _) upd_same (clOk_nil n)⟩
  · have z := h pc lc H (Same.refl H) hpc hlc
    rw [he] at z
    exact z
theorem elder_step {K : PySem.W.Frag} {D : Ends} {σ : St} {H : Hp} {m : Int} {pc q : Addr} {lc : List Int} {n : Int} {xs : List V} {cs : List (List Int)} (h6 : σ[6]? = some (some (.ref q))) (h9 : σ[9]? = some (some (.int m))) (m0 : 0 ≤ m) (hpc : H pc = some (.tup (lc.map V.int))) (hlc : ClOk n lc) (he : σ.set 10 (some (.ref pc)) = σ)
    (hq : H q = some (.lst xs)) (hcs : CLs H cs xs) (hall : ∀ c ∈ cs, ClOk n c)
    (h : ∀ (pc' : Addr) (lc' : List Int) (H' : Hp), Same H H' → H' pc' = some (.tup (lc'.map V.int)) → ClOk n lc' → D.nx (σ.set 10 (some (.ref pc'))) H') :
    tIfS (tAnd (tTest (tOp oEqA (tOp oMod (tOp oDiv (tVar 9) (tC (.int 40))) (tC (.int 9))) (tC (.int 3)))) (tTest (tOp oNeA (tVar 6) (tLst tNil))))
      (tAsg (tOp (rIx K) (tVar 6) (tOp oMod (tOp oDiv (tVar 9) (tC (.int 400))) (tCB (fun xs H Q => ∃ x n, xs = [x] ∧ LenV K x H n ∧ Q (.int n) H) (tCons (tVar 6) tNil)))) (gName 10)) tNext D σ H := by
  have stay : ∀ H', Same H H' → D.nx σ H' := fun H' k => by
    have z := h pc lc H' k (k _ _ hpc) hlc
    rw [he] at z
    exact z
  refine ⟨_, h9, _, _, rfl, rfl, ⟨by decide, by decide⟩, _, _, rfl, rfl, (by show (0 : Int) < 9; decide), .inl ⟨rfl, _, rfl, ite2 (fun _ => ?_) (fun _ => ?_)⟩⟩
  · refine ⟨_, h6, Nat.zero_le _, fun e he' => .inr ⟨.list (cs.map clD), .list [], RD_list (by rw [upd_ne (ne_of_none hq he')]; exact hq) (hcs.mono (same_new he' _)).rds, RD_list upd_same RDs_nil, shaped_cls cs, shaped_nilL, _, rfl, ?_⟩⟩
    rw [eqv_cls_nil]
    have k1 : Same H (upd H e (.lst [])) := same_new he' _
    refine ite2 (fun g => ?_) (fun g => ?_)
    · have hne : cs ≠ [] := fun z => by
        rw [decide_eq_true z] at g
        cases g
      have hl : 0 < xs.length := by
        rw [← hcs.length]
        cases cs with
        | nil => exact absurd rfl hne
        | cons _ _ => exact Nat.succ_pos _
      have j0 := Int.emod_nonneg (m / 400) (show (xs.length : Int) ≠ 0 by omega)
      have j1 := Int.emod_lt_of_pos (m / 400) (show (0 : Int) < xs.length by omega)
      obtain ⟨v, hv, hva⟩ := atI_ok (xs := xs) j0 j1
      obtain ⟨c, hc, t, rfl, ht⟩ := hcs.get hv
      refine ⟨_, h6, _, h9, _, _, rfl, rfl, ⟨by decide, by decide⟩, _, h6, .ref q, _, rfl, .inl ⟨_, SqL.of (k1 _ _ hq), rfl⟩, _, _, rfl, rfl, (by show (0 : Int) < (xs.length : Int); omega), .inl ⟨q, xs, _, .ref t, rfl, rfl, SqL.of (k1 _ _ hq), hva, ?_⟩⟩
      exact h t c _ k1 (k1 _ _ ht) (hall c (List.mem_of_getElem? hc))
    · exact stay _ k1
  · exact stay H (Same.refl H)
theorem append_step {K : PySem.W.Frag} {D : Ends} {σ : St} {H : Hp} {m : Int} {pc q : Addr} {lc : List Int} {n : Int} {xs : List V} {cs : List (List Int)} (h6 : σ[6]? = some (some (.ref q))) (h9 : σ[9]? = some (some (.int m))) (h10 : σ[10]? = some (some (.ref pc))) (hpc : H pc = some (.tup (lc.map V.int))) (hlc : ClOk n lc)
    (hq : H q = some (.lst xs)) (hcs : CLs H cs xs) (hall : ∀ c ∈ cs, ClOk n c) (hlen : cs.length < 900)
    (h : ∀ (xs' : List V) (cs' : List (List Int)) (H' : Hp), (∀ b o, H b = some o → b ≠ q → H' b = some o) → H' q = some (.lst xs') → CLs H' cs' xs' → (∀ c ∈ cs', ClOk n c) → cs'.length ≤ cs.length + 1 → D.nx σ H') :
    tIfS (tOr (tTest (tOp oNeA (tVar 10) (tTup tNil))) (tTest (tOp oEqA (tOp oMod (tVar 9) (tC (.int 40))) (tC (.int 7))))) (tDrop (tBM K "list" rAppend (tVar 6) (tCons (tVar 10) tNil))) tNext D σ H := by
  refine ⟨_, h10, Nat.zero_le _, fun e he => .inr ⟨clD lc, .tuple [], RD_tup (by rw [upd_ne (ne_of_none hpc he)]; exact hpc) (RDs_ints lc), RD_tup upd_same RDs_nil, shaped_cl lc, shaped_nilT, _, rfl, ?_⟩⟩
  have k1 : Same H (upd H e (.tup [])) := same_new he _
  generalize upd H e (.tup []) = H1 at k1
  have hq1 := k1 _ _ hq
  have app : tDrop (tBM K "list" rAppend (tVar 6) (tCons (tVar 10) tNil)) D σ H1 := by
    refine ⟨_, h6, .inl ⟨rfl, _, SqL.of hq1⟩, _, h10, q, xs, _, rfl, rfl, hq1, (by rw [← hcs.length]; exact small1000 (by omega)), ?_⟩
    have c1 := (hcs.mono k1).upd (o := .lst (xs ++ [.ref pc])) hq1
    have c2 : CL (upd H1 q (.lst (xs ++ [.ref pc]))) lc (.ref pc) := CL.upd ⟨pc, rfl, k1 _ _ hpc⟩ hq1
    refine h _ (cs ++ [lc]) _ (fun b o hb hbq => by rw [upd_ne hbq]; exact k1 b o hb) upd_same (CLs.snoc c2 c1) (fun c hc => ?_) (by rw [List.length_append]; exact Nat.le_refl _)
    rcases List.mem_append.mp hc with z | z
    · exact hall c z
    · rw [List.mem_singleton.mp z]
      exact hlc
  refine ite2 (fun _ => iteT app) (fun _ => ?_)
  refine ⟨_, h9, _, _, rfl, rfl, (by show (0 : Int) < 40; decide), .inl ⟨rfl, _, rfl, ite2 (fun _ => app) (fun _ => ?_)⟩⟩
  exact h xs cs H1 (fun b o hb _ => k1 b o hb) hq1 (hcs.mono k1) hall (by omega)
end OD

/-! what is left of a sentence; comprehensions that keep what they read -/
namespace OD
open PySem L2
theorem asc_len {n : Int} : ∀ {c : List Int} {b : Int}, Asc b c → (∀ l ∈ c, absI l ≤ n) → b ≤ n → (c.length : Int) ≤ n - b
  | [], b, _, _, h => by
    show ((0 : Nat) : Int) ≤ n - b
    omega
  | l :: r, b, h, ha, hb => by
    have h1 := ha l List.mem_cons_self
    have h2 := asc_len (n := n) h.2 (fun z hz => ha z (List.mem_cons_of_mem _ hz)) h1
    have h3 := h.1
    rw [List.length_cons]
    omega
theorem asc_pos : ∀ {c : List Int} {b : Int}, 0 ≤ b → Asc b c → ∀ l ∈ c, 1 ≤ absI l
  | [], _, _, _, _, h => nomatch h
  | x :: r, b, hb, h, l, hl => by
    have h1 := h.1
    rcases List.mem_cons.mp hl with rfl | hl
    · omega
    · exact asc_pos (b := absI x) (by omega) h.2 l hl
theorem ClOk.pos {n : Int} {c : List Int} (h : ClOk n c) : ∀ l ∈ c, 1 ≤ absI l := asc_pos (Int.le_refl 0) h.1
theorem ClOk.len {n : Int} {c : List Int} (h : ClOk n c) (h0 : 0 ≤ n) : (c.length : Int) ≤ n := by
  have := asc_len h.1 h.2 h0
  omega
def lit (i : Nat) (b : Bool) : Int := if b = true then (i : Int) + 1 else -((i : Int) + 1)
def behindF (l : Int) (c : List Int) : Option (List Int) := if c.contains l = true then none else some (c.filter fun o => !decide (o = -l))
def behind (l : Int) (cs : List (List Int)) : List (List Int) := cs.filterMap (behindF l)
def hit (bs : List Bool) (l : Int) : Bool := match bs[(absI l - 1).toNat]? with
  | some b => b == decide (0 < l)
  | none => false
def dueF (bs : List Bool) (c : List Int) : Option (List Int) := if c.any (hit bs) = true then none else some (c.filter fun l => decide ((bs.length : Int) < absI l))
def due (bs : List Bool) (cs : List (List Int)) : List (List Int) := cs.filterMap (dueF bs)
theorem absI_lit (i : Nat) (b : Bool) : absI (lit i b) = (i : Int) + 1 := by
  unfold absI lit
  cases b with
  | true => rw [if_pos rfl, if_neg (by omega)]
  | false => rw [if_neg Bool.false_ne_true, if_pos (by omega)]; omega
theorem hit_snoc {bs : List Bool} {b : Bool} {l : Int} (h : 1 ≤ absI l) : hit (bs ++ [b]) l = (hit bs l || decide (l = lit bs.length b)) := by
  unfold hit
  rcases Nat.lt_trichotomy (absI l - 1).toNat bs.length with h1 | h1 | h1
  · rw [List.getElem?_append_left h1]
    have : l ≠ lit bs.length b := fun e => by
      have := absI_lit bs.length b
      rw [← e] at this
      omega
    rw [decide_eq_false this, Bool.or_false]
  · rw [h1, List.getElem?_append_right (Nat.le_refl _), Nat.sub_self, List.getElem?_eq_none (Nat.le_refl _)]
    have e : absI l = (bs.length : Int) + 1 := by omega
    show (b == decide (0 < l)) = (false || decide (l = lit bs.length b))
    rw [Bool.false_or, Bool.eq_iff_iff, decide_eq_true_iff]
    unfold absI at e
    unfold lit
    cases b with
    | true =>
      rw [if_pos rfl]
      by_cases hl : l < 0
      · rw [if_pos hl] at e
        rw [decide_eq_false (by omega)]
        constructor
        · intro z; cases z
        · intro z; omega
      · rw [if_neg hl] at e
        rw [decide_eq_true (by omega)]
        exact ⟨fun _ => e, fun _ => rfl⟩
    | false =>
      rw [if_neg Bool.false_ne_true]
      by_cases hl : l < 0
      · rw [if_pos hl] at e
        rw [decide_eq_false (by omega)]
        exact ⟨fun _ => by omega, fun _ => rfl⟩
      · rw [if_neg hl] at e
        rw [decide_eq_true (by omega)]
        constructor
        · intro z; cases z
        · intro z; omega
  · rw [List.getElem?_eq_none (by rw [List.length_append, List.length_singleton]; omega), List.getElem?_eq_none (by omega)]
    have : l ≠ lit bs.length b := fun e => by
      have := absI_lit bs.length b
      rw [← e] at this
      omega
    rw [decide_eq_false this]
    rfl
theorem any_or' {α : Type} (f g : α → Bool) : ∀ xs : List α, xs.any (fun x => f x || g x) = (xs.any f || xs.any g)
  | [] => rfl
  | x :: r => by
    rw [List.any_cons, List.any_cons, List.any_cons, any_or' f g r]
    cases f x <;> cases g x <;> cases r.any f <;> cases r.any g <;> rfl
theorem any_congr' {α : Type} {f g : α → Bool} : ∀ {xs : List α}, (∀ x ∈ xs, f x = g x) → xs.any f = xs.any g
  | [], _ => rfl
  | x :: r, h => by
    rw [List.any_cons, List.any_cons, h x List.mem_cons_self, any_congr' fun z hz => h z (List.mem_cons_of_mem _ hz)]
theorem contains_any (c : List Int) (l : Int) : c.any (fun x => decide (x = l)) = c.contains l := by
  rw [Bool.eq_iff_iff, List.any_eq_true, List.contains_iff_mem]
  constructor
  · rintro ⟨x, hx, e⟩
    exact of_decide_eq_true e ▸ hx
  · intro h
    exact ⟨l, h, decide_eq_true rfl⟩
theorem dueF_snoc {bs : List Bool} {b : Bool} {c : List Int} (h : ∀ l ∈ c, 1 ≤ absI l) : dueF (bs ++ [b]) c = (dueF bs c).bind (behindF (lit bs.length b)) := by
  have e1 : c.any (hit (bs ++ [b])) = (c.any (hit bs) || c.contains (lit bs.length b)) := by
    rw [any_congr' (g := fun l => hit bs l || decide (l = lit bs.length b)) fun l hl => hit_snoc (h l hl), any_or', contains_any]
  have e2 : (c.filter fun l => decide ((bs.length : Int) < absI l)).contains (lit bs.length b) = c.contains (lit bs.length b) := by
    rw [Bool.eq_iff_iff, List.contains_iff_mem, List.contains_iff_mem, List.mem_filter]
    refine ⟨fun z => z.1, fun z => ⟨z, decide_eq_true ?_⟩⟩
    rw [absI_lit]
    omega
  unfold dueF
  rw [e1]
  cases g : c.any (hit bs) with
  | true => rfl
  | false =>
    rw [Bool.false_or, if_neg Bool.false_ne_true]
    show _ = behindF _ _
    unfold behindF
    rw [e2]
    by_cases q : c.contains (lit bs.length b) = true
    · rw [if_pos q, if_pos q]
    · rw [if_neg q, if_neg q, List.filter_filter]
      refine congrArg some (List.filter_congr fun l hl => ?_)
      have n1 : l ≠ lit bs.length b := fun e => q (List.contains_iff_mem.mpr (e ▸ hl))
      have hp := h l hl
      rw [List.length_append, List.length_singleton, Bool.eq_iff_iff, Bool.and_eq_true, decide_eq_true_iff, decide_eq_true_iff, Bool.not_eq_true', decide_eq_false_iff_not]
      have hlit : lit bs.length b = (bs.length : Int) + 1 ∨ lit bs.length b = -((bs.length : Int) + 1) := by
        unfold lit
        split
        · exact .inl rfl
        · exact .inr rfl
      have ha := absI_lit bs.length b
      constructor
      · intro z
        refine ⟨fun e => ?_, by omega⟩
        have : absI l = (bs.length : Int) + 1 := by
          rw [e]
          unfold absI
          rcases hlit with w | w
          · rw [w, if_pos (by omega)]; omega
          · rw [w, if_neg (by omega)]; omega
        omega
      · rintro ⟨z1, z2⟩
        unfold absI at z2 ⊢
        split at z2
        · omega
        · omega
theorem dueF_nil {c : List Int} (h : ∀ l ∈ c, 1 ≤ absI l) : dueF [] c = some c := by
  unfold dueF
  have e : c.any (hit []) = false := List.any_eq_false.mpr fun x _ => by simp [hit]
  rw [e, if_neg Bool.false_ne_true]
  refine congrArg some (List.filter_eq_self.mpr fun l hl => decide_eq_true ?_)
  have := h l hl
  show ((0 : Nat) : Int) < _
  omega
theorem fm_congr {α β : Type} {f g : α → Option β} : ∀ {xs : List α}, (∀ x ∈ xs, f x = g x) → xs.filterMap f = xs.filterMap g
  | [], _ => rfl
  | x :: r, h => by
    rw [List.filterMap_cons, List.filterMap_cons, h x List.mem_cons_self, fm_congr fun z hz => h z (List.mem_cons_of_mem _ hz)]
theorem due_snoc {bs : List Bool} {b : Bool} {cs : List (List Int)} (h : ∀ c ∈ cs, ∀ l ∈ c, 1 ≤ absI l) : due (bs ++ [b]) cs = behind (lit bs.length b) (due bs cs) := by
  unfold due behind
  rw [List.filterMap_filterMap]
  exact fm_congr fun c hc => dueF_snoc (h c hc)
theorem due_nil {cs : List (List Int)} (h : ∀ c ∈ cs, ∀ l ∈ c, 1 ≤ absI l) : due [] cs = cs := by
  unfold due
  rw [fm_congr (g := some) fun c hc => dueF_nil (h c hc)]
  exact List.filterMap_some
theorem due_len (bs : List Bool) (cs : List (List Int)) : (due bs cs).length ≤ cs.length := List.length_filterMap_le _ _
theorem due_cl {bs : List Bool} {cs : List (List Int)} {c : List Int} (h : c ∈ due bs cs) : ∃ d ∈ cs, c = d.filter fun l => decide ((bs.length : Int) < absI l) := by
  unfold due at h
  obtain ⟨d, hd, e⟩ := List.mem_filterMap.mp h
  refine ⟨d, hd, ?_⟩
  unfold dueF at e
  split at e
  · cases e
  · exact (Option.some.inj e).symm
theorem any_done (bs : List Bool) (c : List Int) (h : ∀ l ∈ c, 1 ≤ absI l) : (c.filter fun l => decide (absI l ≤ (bs.length : Int))).any (hit bs) = c.any (hit bs) := by
  rw [List.any_filter]
  refine any_congr' fun l hl => ?_
  by_cases g : absI l ≤ (bs.length : Int)
  · rw [decide_eq_true g]
    rfl
  · rw [decide_eq_false g]
    unfold hit
    have := h l hl
    rw [List.getElem?_eq_none (by omega)]
    rfl
/-! flat values -/
theorem flat_ints (c : List Int) : (c.map V.int).all flatV = true := by
  rw [List.all_map]
  exact List.all_eq_true.mpr fun _ _ => rfl
theorem flat_bls (c : List Bool) : (c.map V.bl).all flatV = true := by
  rw [List.all_map]
  exact List.all_eq_true.mpr fun _ _ => rfl
theorem inV_ints (c : List Int) (l : Int) : inV (.int l) (c.map V.int) = c.contains l := by
  unfold inV
  rw [List.any_map, ← contains_any]
  refine any_congr' fun x _ => ?_
  show (x == l) = decide (x = l)
  rw [Bool.eq_iff_iff, decide_eq_true_iff]
  exact beq_iff_eq
theorem inV_bls (c : List Bool) : inV (.bl true) (c.map V.bl) = c.any id := by
  unfold inV
  rw [List.any_map]
  refine any_congr' fun x _ => ?_
  show (x == true) = x
  cases x <;> rfl
/-! comprehensions over a tuple, a list: tests and items that keep the heap -/
section
variable {K : PySem.W.Frag} {a D : Addr} {xs : List V} {tt : TT} {te : TE} {σ0 : St} {H1 : Hp} {Q : VK}
theorem comp_tupP (rest : St) (p : V → Bool) (f : V → V) (e0 : σ0 = none :: rest) (ha : H1 a = some (.tup xs)) (hD : H1 D = none) (hlen : xs.length ≤ 900)
    (ht : ∀ x ∈ xs, ∀ (H' : Hp) (R : Bool → Hp → Prop), Same H1 H' → R (p x) H' → tt (some x :: rest) H' R)
    (he : ∀ x ∈ xs, p x = true → ∀ (H' : Hp) (R : VK), Same H1 H' → R (f x) H' → te (some x :: rest) H' R)
    (hq : Q (.ref D) (upd H1 D (.lst ((xs.filter p).map f)))) : CompW (Itt K a) D (gName 0) tt te σ0 H1 Q := by
  have na : a ≠ D := ne_of_none ha hD
  refine comp_tup (K := K) (a := a) (xs := xs) (fun i σ ys H2 => (∃ v0, σ = v0 :: rest) ∧ ys = ((xs.take i).filter p).map f ∧ H2 = upd H1 D (.lst ys)) ⟨⟨none, e0⟩, rfl, rfl⟩ ?_ ?_ ?_
  · rintro i σ ys H2 _ ⟨_, _, rfl⟩
    exact ⟨upd_same, SqT.of (by rw [upd_ne na]; exact ha)⟩
  · rintro i x σ ys H2 hx ⟨⟨v0, rfl⟩, hys, rfl⟩
    have hm := List.mem_of_getElem? hx
    have e : xs.take (i + 1) = xs.take i ++ [x] := by rw [List.take_add_one, hx]; rfl
    refine ht x hm _ _ (same_new hD _) ?_
    cases hp : p x with
    | true =>
      refine iteT (he x hm hp _ _ (same_new hD _) ⟨upd_same, ?_, ⟨_, rfl⟩, ?_, upd_upd⟩)
      · have : ys.length ≤ xs.length := by
          rw [hys, List.length_map]
          exact Nat.le_trans (List.length_filter_le _ _) (by rw [List.length_take]; omega)
        exact small1000 (by omega)
      · rw [e, List.filter_append, List.map_append, ← hys]
        simp [hp]
    | false =>
      refine iteF ⟨⟨_, rfl⟩, ?_, rfl⟩
      rw [e, List.filter_append, List.map_append, ← hys]
      simp [hp]
  · rintro σ ys H2 ⟨_, hys, rfl⟩
    rw [List.take_of_length_le (Nat.le_refl _)] at hys
    rw [hys]
    exact hq
theorem comp_listP (rest : St) (p : V → Bool) (f : V → V) (e0 : σ0 = none :: rest) (ha : H1 a = some (.lst xs)) (hD : H1 D = none) (hlen : xs.length ≤ 900)
    (ht : ∀ x ∈ xs, ∀ (H' : Hp) (R : Bool → Hp → Prop), Same H1 H' → R (p x) H' → tt (some x :: rest) H' R)
    (he : ∀ x ∈ xs, p x = true → ∀ (H' : Hp) (R : VK), Same H1 H' → R (f x) H' → te (some x :: rest) H' R)
    (hq : Q (.ref D) (upd H1 D (.lst ((xs.filter p).map f)))) : CompW (Itl K a) D (gName 0) tt te σ0 H1 Q := by
  have na : a ≠ D := ne_of_none ha hD
  refine comp_list (K := K) (a := a) (xs := xs) (fun i σ ys H2 => (∃ v0, σ = v0 :: rest) ∧ ys = ((xs.take i).filter p).map f ∧ H2 = upd H1 D (.lst ys)) ⟨⟨none, e0⟩, rfl, rfl⟩ ?_ ?_ ?_
  · rintro i σ ys H2 _ ⟨_, _, rfl⟩
    exact ⟨upd_same, SqL.of (by rw [upd_ne na]; exact ha)⟩
  · rintro i x σ ys H2 hx ⟨⟨v0, rfl⟩, hys, rfl⟩
    have hm := List.mem_of_getElem? hx
    have e : xs.take (i + 1) = xs.take i ++ [x] := by rw [List.take_add_one, hx]; rfl
    refine ht x hm _ _ (same_new hD _) ?_
    cases hp : p x with
    | true =>
      refine iteT (he x hm hp _ _ (same_new hD _) ⟨upd_same, ?_, ⟨_, rfl⟩, ?_, upd_upd⟩)
      · have : ys.length ≤ xs.length := by
          rw [hys, List.length_map]
          exact Nat.le_trans (List.length_filter_le _ _) (by rw [List.length_take]; omega)
        exact small1000 (by omega)
      · rw [e, List.filter_append, List.map_append, ← hys]
        simp [hp]
    | false =>
      refine iteF ⟨⟨_, rfl⟩, ?_, rfl⟩
      rw [e, List.filter_append, List.map_append, ← hys]
      simp [hp]
  · rintro σ ys H2 ⟨_, hys, rfl⟩
    rw [List.take_of_length_le (Nat.le_refl _)] at hys
    rw [hys]
    exact hq
/-- over range(n) -/
theorem comp_rangeP {n : Nat} (rest : St) (f : Nat → V) (e0 : σ0 = none :: rest) (hD : H1 D = none) (hlen : n ≤ 900)
    (ht : ∀ (x : V) (H' : Hp) (R : Bool → Hp → Prop), R true H' → tt (some x :: rest) H' R)
    (he : ∀ i : Nat, i < n → ∀ (H' : Hp) (R : VK), Same H1 H' → R (f i) H' → te (some (.int (0 + (i : Int))) :: rest) H' R)
    (hq : Q (.ref D) (upd H1 D (.lst ((List.range n).map f)))) : CompW (Itr 0 n) D (gName 0) tt te σ0 H1 Q := by
  refine comp_range (lo := 0) (n := n) (fun i σ ys H2 => (∃ v0, σ = v0 :: rest) ∧ ys = (List.range i).map f ∧ H2 = upd H1 D (.lst ys)) ⟨⟨none, e0⟩, rfl, rfl⟩ ?_ ?_ ?_
  · rintro i σ ys H2 _ ⟨_, _, rfl⟩
    exact upd_same
  · rintro i σ ys H2 hi ⟨⟨v0, rfl⟩, hys, rfl⟩
    refine ht _ _ _ (iteT (he i hi _ _ (same_new hD _) ⟨upd_same, ?_, ⟨_, rfl⟩, ?_, upd_upd⟩))
    · rw [hys, List.length_map, List.length_range]
      exact small1000 (by omega)
    · rw [List.range_succ, List.map_append, ← hys]
      rfl
  · rintro σ ys H2 ⟨_, hys, rfl⟩
    rw [hys]
    exact hq
end
theorem filter_ints (c : List Int) (p : Int → Bool) (q : V → Bool) (h : ∀ i, q (.int i) = p i) : ((c.map V.int).filter q).map (fun x => x) = (c.filter p).map V.int := by
  rw [List.map_id']
  rw [List.filter_map]
  refine congrArg _ (List.filter_congr fun x _ => h x)
theorem int_mem {c : List Int} {x : V} (h : x ∈ c.map V.int) : ∃ z ∈ c, x = .int z := by
  obtain ⟨z, hz, e⟩ := List.mem_map.mp h
  exact ⟨z, hz, e.symm⟩
end OD

/-! the same thing twice; types -/
namespace OD
open PySem L2
theorem lay_of {d : PyData} (h : SeqAt.shaped d = true) : d.canLay0 = true := by
  unfold SeqAt.shaped at h
  rw [Bool.and_eq_true] at h
  exact h.1
theorem oEq_self {d : PyData} {x y : V} {H : Hp} {Q : VK} (hx : RD H d x) (hy : RD H d y) (hs : SeqAt.shaped d = true) (q : Q (.bl true) H) : oEqA x y H Q :=
  .inr ⟨d, d, hx, hy, hs, hs, by rw [eqv_self d (lay_of hs)]; exact q⟩
theorem oNe_self {d : PyData} {x y : V} {H : Hp} {Q : VK} (hx : RD H d x) (hy : RD H d y) (hs : SeqAt.shaped d = true) (q : Q (.bl false) H) : oNeA x y H Q :=
  .inr ⟨d, d, hx, hy, hs, hs, by rw [eqv_self d (lay_of hs)]; exact q⟩
theorem neF {x y : V} {A B : Prop} (h : x = y) (b : B) : if (!decide (x = y)) = true then A else B := by
  rw [decide_eq_true h]
  exact iteF b
theorem ltF {i j : Int} {A B : Prop} (h : ¬ i < j) (b : B) : if decide (i < j) = true then A else B := by
  rw [decide_eq_false h]
  exact iteF b
theorem RDs_bls {H : Hp} : ∀ bs : List Bool, RDs H (bs.map PyData.bool) (bs.map V.bl)
  | [] => RDs_nil
  | b :: r => RDs_cons (RD_bool b) (RDs_bls r)
theorem canLay_bls : ∀ bs : List Bool, PyData.canLayAll0 (bs.map PyData.bool) = true
  | [] => rfl
  | b :: r => by
    show (true && PyData.canLayAll0 (r.map PyData.bool)) = true
    rw [canLay_bls r]
    rfl
theorem depth_bls : ∀ bs : List Bool, PyData.depthAll (bs.map PyData.bool) = 0
  | [] => rfl
  | b :: r => by
    show max 0 (PyData.depthAll (r.map PyData.bool)) = 0
    rw [depth_bls r]
    rfl
theorem shaped_bls (bs : List Bool) : SeqAt.shaped (.list (bs.map PyData.bool)) = true := by
  refine shaped_of (canLay_bls bs) ?_
  show PyData.depthAll (bs.map PyData.bool) + 1 ≤ 64
  rw [depth_bls]
  omega
theorem kTT : kitB "tuple" "tuple" = some true := by decide +kernel
theorem kLL : kitB "list" "list" = some true := by decide +kernel
theorem kSS : kitB "str" "str" = some true := by decide +kernel
theorem kII : kitB "int" "int" = some true := by decide +kernel
theorem kIB : kitB "int" "bool" = some false := by decide +kernel
theorem bls_get {bs : List Bool} {i : Nat} {x : V} (h : (bs.map V.bl)[i]? = some x) : ∃ b, x = .bl b ∧ bs[i]? = some b := by
  rw [List.getElem?_map] at h
  cases e : bs[i]? with
  | none => rw [e] at h; cases h
  | some z =>
    rw [e] at h
    exact ⟨z, (Option.some.inj h).symm, rfl⟩
def isI (p : Int → Bool) : V → Bool
  | .int z => p z
  | _ => false
def onI (f : Int → V) : V → V
  | .int z => f z
  | x => x
theorem filter_none {xs : List V} {f : V → V} : (xs.filter fun _ => false).map f = [] := by
  rw [List.filter_eq_nil_iff.mpr fun _ _ => Bool.false_ne_true]
  rfl
theorem filter_all {xs : List V} {f : V → V} : (xs.filter fun _ => true).map f = xs.map f := by
  rw [List.filter_eq_self.mpr fun _ _ => rfl]
end OD

/-! in, over data; names of the module that hold texts -/
namespace L2
open PySem PySem.Spec PyProof.Rows
section
variable {X : Cx}
def rInD : R2 := fun x y H Q => ∃ (dx : PyData) (ds : List PyData), RD H dx x ∧ RD H (.list ds) y ∧ dx.canLay0 = true ∧ PyData.canLayAll0 ds = true ∧ dx.depth ≤ 60 ∧ Q (.bl (ds.any fun d => PyData.eqv d dx)) H
theorem op_inD (hu : X.A.units + 64 < cLine) : OpR X (compareOp .In) rInD := by
  intro pins s σ H x y v u Q I rx ry h
  obtain ⟨dx, ds, ra, rb, sa, sb, dd, q⟩ := h
  obtain ⟨as, qa⟩ := RD_reads I dx x v ra rx
  obtain ⟨bs, qb⟩ := RD_reads I (.list ds) y u rb ry
  refine SeqAt.in_list_reads qb qa sb sa ?_ ⟨.bl _, H, I, rfl, q⟩
  have : min (PyData.depthAll ds) dx.depth ≤ dx.depth := Nat.min_le_right _ _
  omega
def GlobV (mg : Str → Option Value) (x : Str) (v : V) : Prop := ∃ u, mg x = some u ∧ RelV v u
theorem pe_globV {x : Str} {v : V} {pos : Pos} (hg : Gl X x) (hm : GlobV X.mg x v) (hd : (x == ("__debug__" : Str)) = false := by decide) : PE X (.Name x pos) (tC v) := by
  obtain ⟨u, h1, h2⟩ := hm
  exact pe_glob hg h1 h2 hd
end
end L2

/-! who wins: the walk over what is left -/
namespace OD
open PySem L2
def isW (t : Str) (i : Nat) : Bool := decide (t.cps.toList[i]? = some 119)
def handS (b : Bool) : Str := if b = true then Str.ofString "wisher" else Str.ofString "spoiler"
theorem hands_ne : Str.ofString "wisher" ≠ Str.ofString "spoiler" := by decide +kernel
theorem handS_inj {a b : Bool} (h : handS a = handS b) : a = b := by
  cases a <;> cases b
  · rfl
  · exact absurd h.symm hands_ne
  · exact absurd h hands_ne
  · rfl
theorem dec_hand (a b : Bool) : decide (V.str (handS a) = V.str (handS b)) = decide (a = b) := by
  refine decide_eq_decide.mpr ⟨fun h => handS_inj (V.str.inj h), fun h => by rw [h]⟩
def winB (t : Str) : Nat → Nat → List (List Int) → Bool
  | 0, _, cs => if cs.contains [] = true then false else cs.isEmpty
  | f + 1, i, cs => if cs.contains [] = true then false else if cs.isEmpty = true then true else
      if isW t i = true then winB t f (i + 1) (behind (lit i false) cs) || winB t f (i + 1) (behind (lit i true) cs) else winB t f (i + 1) (behind (lit i false) cs) && winB t f (i + 1) (behind (lit i true) cs)
theorem winB_bad {t : Str} {f i : Nat} {cs : List (List Int)} (h : cs.contains [] = true) : winB t f i cs = false := by
  cases f <;> unfold winB <;> rw [if_pos h]
theorem winB_nil {t : Str} {f i : Nat} : winB t f i [] = true := by
  cases f <;> rfl
theorem winB_step {t : Str} {f i : Nat} {cs : List (List Int)} (h : cs.contains [] = false) (h2 : cs.isEmpty = false) :
    winB t (f + 1) i cs = if isW t i = true then winB t f (i + 1) (behind (lit i false) cs) || winB t f (i + 1) (behind (lit i true) cs) else winB t f (i + 1) (behind (lit i false) cs) && winB t f (i + 1) (behind (lit i true) cs) := by
  conv => lhs; unfold winB
  rw [h, h2, if_neg Bool.false_ne_true, if_neg Bool.false_ne_true]
theorem win_hit {t : Str} {f i : Nat} {cs : List (List Int)} (h : cs.contains [] = false) (h2 : cs.isEmpty = false) (b : Bool) (e : winB t f (i + 1) (behind (lit i b) cs) = isW t i) : winB t (f + 1) i cs = isW t i := by
  rw [winB_step h h2]
  cases g : isW t i with
  | true =>
    rw [g] at e
    rw [if_pos rfl]
    cases b
    · rw [e]; rfl
    · rw [e, Bool.or_true]
  | false =>
    rw [g] at e
    rw [if_neg Bool.false_ne_true]
    cases b
    · rw [e]; rfl
    · rw [e, Bool.and_false]
theorem win_miss {t : Str} {f i : Nat} {cs : List (List Int)} (h : cs.contains [] = false) (h2 : cs.isEmpty = false) (e1 : winB t f (i + 1) (behind (lit i false) cs) ≠ isW t i) (e2 : winB t f (i + 1) (behind (lit i true) cs) ≠ isW t i) : winB t (f + 1) i cs = !isW t i := by
  rw [winB_step h h2]
  generalize winB t f (i + 1) (behind (lit i false) cs) = a at e1
  generalize winB t f (i + 1) (behind (lit i true) cs) = b at e2
  generalize isW t i = c at e1 e2
  cases a <;> cases b <;> cases c <;> first | rfl | exact absurd rfl e1 | exact absurd rfl e2
/-- the literals stand behind i, and not behind n -/
def Rng (i n : Nat) (cs : List (List Int)) : Prop := ∀ c ∈ cs, ∀ l ∈ c, (i : Int) < absI l ∧ absI l ≤ (n : Int)
def Small (cs : List (List Int)) : Prop := cs.length ≤ 900 ∧ ∀ c ∈ cs, c.length ≤ 900
theorem behind_mem {l : Int} {cs : List (List Int)} {c : List Int} (h : c ∈ behind l cs) : ∃ d ∈ cs, d.contains l = false ∧ c = d.filter fun o => !decide (o = -l) := by
  unfold behind at h
  obtain ⟨d, hd, e⟩ := List.mem_filterMap.mp h
  unfold behindF at e
  cases g : d.contains l with
  | true => rw [g, if_pos rfl] at e; cases e
  | false =>
    rw [g, if_neg Bool.false_ne_true] at e
    exact ⟨d, hd, g, (Option.some.inj e).symm⟩
theorem Small.behind {cs : List (List Int)} (h : Small cs) (l : Int) : Small (behind l cs) := by
  refine ⟨Nat.le_trans (List.length_filterMap_le _ _) h.1, fun c hc => ?_⟩
  obtain ⟨d, hd, _, rfl⟩ := behind_mem hc
  exact Nat.le_trans (List.length_filter_le _ _) (h.2 d hd)
theorem absI_cases (l : Int) : (0 ≤ l ∧ absI l = l) ∨ (l < 0 ∧ absI l = -l) := by
  unfold absI
  by_cases h : l < 0
  · exact .inr ⟨h, if_pos h⟩
  · exact .inl ⟨by omega, if_neg h⟩
theorem lit_cases (i : Nat) (b : Bool) : lit i b = (i : Int) + 1 ∨ lit i b = -((i : Int) + 1) := by
  unfold lit
  split
  · exact .inl rfl
  · exact .inr rfl
theorem Rng.behind {i n : Nat} {cs : List (List Int)} (h : Rng i n cs) (b : Bool) : Rng (i + 1) n (behind (lit i b) cs) := by
  intro c hc l hl
  obtain ⟨d, hd, g, rfl⟩ := behind_mem hc
  obtain ⟨hl1, hl2⟩ := List.mem_filter.mp hl
  have h1 := h d hd l hl1
  have n1 : l ≠ lit i b := fun e => by
    have : d.contains (lit i b) = true := List.contains_iff_mem.mpr (e ▸ hl1)
    rw [g] at this
    cases this
  have n2 : l ≠ -lit i b := by
    rw [Bool.not_eq_true', decide_eq_false_iff_not] at hl2
    exact hl2
  have := absI_cases l
  have := lit_cases i b
  omega
theorem Rng.fuel {i n : Nat} {cs : List (List Int)} (h : Rng i n cs) (h1 : cs.contains [] = false) (h2 : cs.isEmpty = false) : i < n := by
  cases cs with
  | nil => cases h2
  | cons c r =>
    cases c with
    | nil =>
      have : (([] : List Int) :: r).contains [] = true := List.contains_iff_mem.mpr List.mem_cons_self
      rw [h1] at this
      cases this
    | cons l c =>
      have := h (l :: c) List.mem_cons_self l List.mem_cons_self
      omega
theorem any_nil (cs : List (List Int)) : ((cs.map clD).any fun d => PyData.eqv d (.tuple [])) = cs.contains [] := by
  rw [List.any_map]
  have e : (fun c => PyData.eqv (clD c) (.tuple [])) = fun c : List Int => decide (c = []) := by
    funext c
    exact eqv_cl_nil c
  have e' : ((fun d => PyData.eqv d (.tuple [])) ∘ clD) = fun c : List Int => decide (c = []) := e
  rw [e', Bool.eq_iff_iff, List.any_eq_true, List.contains_iff_mem]
  constructor
  · rintro ⟨x, hx, z⟩
    exact of_decide_eq_true z ▸ hx
  · intro z
    exact ⟨[], z, decide_eq_true rfl⟩
theorem str_w {ch : Nat} : decide (V.str ⟨#[ch]⟩ = V.str (Str.ofString "w")) = decide (ch = 119) := by
  have e : Str.ofString "w" = ⟨#[119]⟩ := by decide +kernel
  rw [e]
  refine decide_eq_decide.mpr ⟨fun h => ?_, fun h => by rw [h]⟩
  have := V.str.inj h
  injection this with h1
  have h2 := congrArg Array.toList h1
  simpa using h2
theorem isW_at {t : Str} {i : Nat} {ch : Nat} (h : t.cps.toList[i]? = some ch) : isW t i = decide (ch = 119) := by
  unfold isW
  rw [h]
  exact decide_eq_decide.mpr ⟨fun z => Option.some.inj z, fun z => congrArg _ z⟩
end OD

/-! slices of a str; a tuple, empty or not, + a tuple that is not empty -/
namespace L2
open PySem PySem.Spec PyProof.Rows
section
variable {X : Cx}
def rSlS : V → Option Int → Option Int → Hp → VK → Prop := fun x lo hi H Q => ∃ t, x = .str t ∧ t.length ≤ sizeLine ∧ Q (.str (Txt.slice t lo hi)) H
theorem sl_str : SlR X rSlS := by
  intro pins s σ H x v vl vu lo hi sl Q I rx hs pl pu h
  obtain ⟨t, rfl, hz, q⟩ := h
  obtain ⟨k, rfl⟩ := rx
  refine ⟨"str", _, F.slot_str_getitem.lookup, typeIs_str _ _ _, ?_⟩
  have key : ∀ (t' : Tok) (n : Nat), EP X pins σ Q (.str (Txt.slice t lo hi) t') { s with toks := n } := fun t' n => ⟨.str _, H, I.tok _, ⟨_, rfl⟩, q⟩
  have hz2 := Nat.le_trans (Txt.slice_le t lo hi) hz
  cases pl with
  | none =>
    cases pu with
    | none => exact wpAny_getItem_str_slice (l := none) (u := none) (st := none) hs rfl (post_val_or_str ⟨hz2, key⟩)
    | int j uj => exact wpAny_getItem_str_slice (l := none) (u := some (j, uj)) (st := none) hs rfl (post_val_or_str ⟨hz2, key⟩)
  | int i ui =>
    cases pu with
    | none => exact wpAny_getItem_str_slice (l := some (i, ui)) (u := none) (st := none) hs rfl (post_val_or_str ⟨hz2, key⟩)
    | int j uj => exact wpAny_getItem_str_slice (l := some (i, ui)) (u := some (j, uj)) (st := none) hs rfl (post_val_or_str ⟨hz2, key⟩)
def rCatA (K : PySem.W.Frag) : R2 := fun x y H Q => ∃ a b xs ys, x = .ref a ∧ y = .ref b ∧ SqT K H a xs ∧ SqT K H b ys ∧ ys ≠ [] ∧ xs.length + ys.length ≤ sizeLine ∧
  (xs = [] → Q (.ref b) H) ∧ (xs ≠ [] → ∀ p, H p = none → Q (.ref p) (upd H p (.tup (xs ++ ys))))
theorem op_catA : OpR X (binaryOp .Add) (rCatA X.K) := by
  intro pins s σ H x y v u Q I rx ry h
  obtain ⟨a, b, xs, ys, rfl, rfl, ha, hb, hy, hz, q1, q2⟩ := h
  by_cases hx : xs = []
  · cases rx
    cases ry
    obtain ⟨its, r1, p1, _⟩ := I.tuple ha
    obtain ⟨its2, r2, p2, _⟩ := I.tuple hb
    have hw := r1.nil_iff.mpr hx
    obtain ⟨⟨cls, dd, data, sl⟩, ho, hc, n, hd⟩ := id p1
    obtain ⟨⟨cls2, dd2, data2, sl2⟩, ho2, hc2, n2, hd2⟩ := id p2
    simp only at hc hd hc2 hd2
    subst hc hd hc2 hd2
    exact concat_meets ⟨_, ho, rfl⟩ ⟨_, ho2, rfl⟩ noFill_tuple_add seq_tuple_add PySem.F.slot_tuple_add PySem.F.entry_tuple_add (PySem.F.args_tuple_add_2 _ _)
      (tuple_addW0 a b its.toArray its2.toArray n n2 dd dd2 sl sl2 (by simp [hw])) ⟨ho, ho2, .ref b, H, I, rfl, q1 hx⟩
  · exact op_catT pins s σ H _ _ v u Q I rx ry ⟨a, b, xs, ys, rfl, rfl, ha, hb, hx, hz, fun z => absurd z hy, fun _ => q2 hx⟩
end
theorem slice_to {x : Str} {j : Int} (h0 : 0 ≤ j) (h2 : j ≤ x.length) : Txt.slice x none (some j) = ⟨(x.cps.toList.take j.toNat).toArray⟩ := by
  have z := slice_closes_toL (x := x) h0 h2
  rw [eq_of_beq z]
  simp
theorem slice_from {x : Str} {i : Int} (h0 : 0 ≤ i) (h2 : i ≤ x.length) : Txt.slice x (some i) none = ⟨(x.cps.toList.drop i.toNat).toArray⟩ := by
  have z := slice_closes_fromL (x := x) h0 h2 rfl
  rw [eq_of_beq z]
  congr 2
  refine List.take_of_length_le ?_
  rw [List.length_drop, Array.length_toList]
  have : x.cps.size = x.length := rfl
  omega
end L2

namespace OD
open PySem L2
theorem paired_take {α β : Type} {F : α → β → Prop} : ∀ {xs : List α} {us : List β} (n : Nat), Paired F xs us → Paired F (xs.take n) (us.take n)
  | _, _, 0, _ => .nil
  | _, _, _ + 1, .nil => .nil
  | _, _, n + 1, .cons h t => .cons h (paired_take n t)
theorem paired_drop {α β : Type} {F : α → β → Prop} : ∀ {xs : List α} {us : List β} (n : Nat), Paired F xs us → Paired F (xs.drop n) (us.drop n)
  | _, _, 0, h => h
  | _, _, _ + 1, .nil => .nil
  | _, _, n + 1, .cons _ t => paired_drop n t
theorem paired_app {α β : Type} {F : α → β → Prop} : ∀ {xs ys : List α} {us ws : List β}, Paired F xs us → Paired F ys ws → Paired F (xs ++ ys) (us ++ ws)
  | _, _, _, _, .nil, h => h
  | _, _, _, _, .cons h t, g => .cons h (paired_app t g)
theorem cut_to (xs : List V) (k : Nat) : cutV xs none (some (k : Int)) = xs.take k := by
  unfold cutV
  rw [HT.sIx_nat]
  show (xs.drop 0).take (min k xs.length - 0) = _
  rw [List.drop_zero, Nat.sub_zero]
  by_cases h : k ≤ xs.length
  · rw [Nat.min_eq_left h]
  · rw [Nat.min_eq_right (by omega), List.take_of_length_le (Nat.le_refl _), List.take_of_length_le (by omega)]
theorem cut_from (xs : List V) (k : Nat) : cutV xs (some (k : Int)) none = xs.drop k := by
  unfold cutV
  rw [HT.sIx_nat]
  show (xs.drop (min k xs.length)).take (xs.length - min k xs.length) = _
  by_cases h : k ≤ xs.length
  · rw [Nat.min_eq_left h, List.take_of_length_le (by rw [List.length_drop]; omega)]
  · rw [Nat.min_eq_right (by omega), List.drop_of_length_le (Nat.le_refl _), List.drop_of_length_le (by omega), List.take_nil]
theorem paired_get {α β : Type} {F : α → β → Prop} : ∀ {xs : List α} {us : List β} {i : Nat} {u : β}, Paired F xs us → us[i]? = some u → ∃ x, xs[i]? = some x ∧ F x u
  | _, _, 0, _, .cons h _, e => ⟨_, rfl, by cases e; exact h⟩
  | _, _, i + 1, _, .cons _ r, e => paired_get (i := i) r e
theorem dec_w (b : Bool) : decide (V.str (handS b) = V.str (Str.ofString "wisher")) = b := by
  have z := dec_hand b true
  have z2 : handS true = Str.ofString "wisher" := rfl
  rw [z2] at z
  rw [z]
  cases b <;> rfl
theorem and_w {σ : St} {H : Hp} {R : Bool → Hp → Prop} {b b1 : Bool} {i : Nat} (h : σ[i]? = some (some (.str (handS b)))) (hb : b1 = true → b = true) (r : R false H) :
    if decide (V.str (handS b1) = V.str (Str.ofString "wisher")) = true then tTest (tOp oNeA (tVar i) (tC (.str (Str.ofString "wisher")))) σ H R else R false H := by
  rw [dec_w]
  cases b1 with
  | false => exact iteF r
  | true =>
    have e := hb rfl
    subst e
    refine iteT ⟨_, h, .inl ⟨rfl, _, rfl, ?_⟩⟩
    rw [dec_w]
    exact r
theorem mod_to {H : Hp} {Q : VK} {i j k : Int} (h0 : 0 < j) (e : i % j = k) (q : Q (.int k) H) : rI (fun _ j => 0 < j) (fun i j => .int (i % j)) (.int i) (.int j) H Q := by
  refine ⟨i, j, rfl, rfl, h0, ?_⟩
  show Q (.int (i % j)) H
  rw [e]
  exact q
end OD

/-! over a str; strip(str); str * int; list(str) -/
namespace L2
open PySem PySem.Spec PyProof.Rows
theorem paired_of {α β : Type} {F : α → β → Prop} : ∀ {as : List α} {bs : List β}, as.length = bs.length → (∀ (i : Nat) a b, as[i]? = some a → bs[i]? = some b → F a b) → Paired F as bs
  | [], [], _, _ => .nil
  | [], _ :: _, h, _ => nomatch h
  | _ :: _, [], h, _ => nomatch h
  | a :: as, b :: bs, h, f => .cons (f 0 a b rfl rfl) (paired_of (Nat.succ.inj h) fun i x y hx hy => f (i + 1) x y hx hy)
def ItS (x : Str) : It := ⟨fun i _ => i < x.cps.size, fun i H v H' => H' = H ∧ ∃ c, x.cps[i]? = some c ∧ v = .str ⟨#[c]⟩, fun i _ => x.cps.size ≤ i⟩
theorem turn_str {P : Program} {w : World} {K : PySem.W.Frag} {tg : Expr} {ty : String} {x : Str} {t : Tok} (it : Addr) (hty : ty = "str_ascii_iterator" ∨ ty = "str_iterator") : Turn P w K tg (ItS x) [it] it (fun i h => h.IsStrIter it ty x t i) where
  mem := by simp
  obj := fun i h st b hb => by
    have e : b = it := by simpa using hb
    subst e
    obtain ⟨o, e, c, d⟩ := st
    exact ⟨o, e, fun v z => by rw [d] at z; cases z⟩
  keep := fun i h h' st k => by
    obtain ⟨o, e, c⟩ := st
    exact ⟨o, k it (by simp) o e, c⟩
  item := by
    intro X hP hw hK hc i pins s σ H E I hf st hg
    subst hP hw hK
    obtain ⟨f0, f1, f2, f3, f4, f5⟩ := hf it (by simp)
    have hx : x.cps[i]? = some (x.cps[i]'hg) := Array.getElem?_eq_getElem hg
    have fin : ∀ h', h'.IsStrIter it ty x t (i + 1) → Heap.SameBut it s.heap h' → ∃ u, some (Value.str ⟨#[x.cps[i]'hg]⟩ s.toks) = some u ∧
        wpAny (model X.prog X.w) X.A (letOwnedTupleGo tg (.ref it) u) (fun _ s2 => ∃ x_1 H', Inv X pins σ H' s2 ∧ RelV x_1 u ∧ (ItS x).yld i H x_1 H' ∧ s2.heap.IsStrIter it ty x t (i + 1) ∧ ∀ b ∈ [it], H' b = none) E { s with heap := h', toks := s.toks + 1 } := fun h' st' sb => by
      have I1 : Inv X pins σ H { s with heap := h', toks := s.toks + 1 } := I.turned (fun b o hb e => (sb.2 b hb).trans e) f0 f1 f3 f4 f5
      obtain ⟨o, e, c, d⟩ := id st'
      refine ⟨_, rfl, go_of (s := { s with heap := h', toks := s.toks + 1 }) e c d (by rcases hty with rfl | rfl <;> decide) ⟨.str ⟨#[x.cps[i]'hg]⟩, H, I1, ⟨_, rfl⟩, ⟨rfl, _, hx, rfl⟩, st', fun b hb => (hf b hb).1⟩⟩
    rcases hty with rfl | rfl
    · exact wpAny_pyNext_ascii_item st hx fin
    · exact wpAny_pyNext_wide_item st hx fin
  done := by
    intro X hP hw hK hc i pins s σ H E I hf st hg
    subst hP hw hK
    obtain ⟨f0, f1, f2, f3, f4, f5⟩ := hf it (by simp)
    have hx : x.cps[i]? = none := Array.getElem?_eq_none hg
    rcases hty with rfl | rfl
    · exact wpAny_pyNext_ascii_end (I.ok.hd hc) st hx fun h' eb => ⟨rfl, I.turned (t' := s.toks) (fun b o hb e => eb b o hb e) f0 f1 f3 f4 f5⟩
    · exact wpAny_pyNext_wide_end (I.ok.hd hc) st hx fun h' eb => ⟨rfl, I.turned (t' := s.toks) (fun b o hb e => eb b o hb e) f0 f1 f3 f4 f5⟩
  self := fun A i s Q E st h => by
    rcases hty with rfl | rfl
    · exact wpAny_pyIter_striter_ascii st h
    · exact wpAny_pyIter_striter_wide st h
section
variable {X : Cx} {tg : Expr}
def iStr (tl : TE) : TI := fun σ H R => tl σ H fun v H1 => ∃ x, v = .str x ∧ R (ItS x) H1
theorem pi_str {l : Expr} {tl : TE} (hl : PE X l tl) : PI X tg l (iStr tl) := by
  intro pins s σ H R I h
  refine thn (hl pins s σ H _ I h) fun v s1 ⟨x, H1, I1, r1, q1⟩ => ?_
  obtain ⟨x, rfl, q⟩ := q1
  obtain ⟨t, rfl⟩ := r1
  refine wpAny_pyIter_strU ?_
  refine ⟨s1.heap.objs.size, [s1.heap.objs.size], _, _, H1, rfl, I1.kept (t' := s1.toks) fun b o e => Heap.get?_push_of_some _ e, turn_str (ty := strIterType x) (x := x) (t := t) _ ?_, ⟨_, Heap.get?_push_size _ rfl, rfl, rfl⟩, fun b hb => ?_, q⟩
  · unfold strIterType
    split
    · exact .inl rfl
    · exact .inr rfl
  have e : b = s1.heap.objs.size := by simpa using hb
  subst e
  exact I1.fpOk (Nat.le_refl _) (I1.hok.fresh (Nat.le_refl _))
theorem mt_strip : MtR X "str.strip" (fun x vs H Q => ∃ a b : Str, x = .str a ∧ vs = [.str b] ∧ a.length ≤ sizeLine ∧ Q (.str (Txt.stripChars a b)) H) := by
  intro pins s σ H x vs v us Q I rx rv h
  obtain ⟨a, b, rfl, rfl, hz, q⟩ := h
  obtain ⟨t, rfl⟩ := rx
  obtain ⟨u, rfl, ru⟩ := vals1 rv
  obtain ⟨t2, rfl⟩ := ru
  exact call_gives F.slot_str_strip (typeIs_str s a t) F.entry_str_strip (F.args_str_strip_2 _ _) (gives_str_strip_chars a b t t2) (post_val_or_made (fun _ => fits_stripped _ _ _ hz) fun t' k => ⟨.str _, H, I.tok _, ⟨_, rfl⟩, q⟩)
def repS (x : Str) (n : Int) : Str := ⟨(List.replicate n.toNat x.cps).foldl (· ++ ·) #[]⟩
theorem op_repS : OpR X (binaryOp .Mult) (fun x y H Q => ∃ (a : Str) (n : Int), x = .str a ∧ y = .int n ∧ 1 < n ∧ n < 1000 ∧ 0 < a.length ∧ ¬ ((a.length : Int) > (2 ^ 63 - 1) / n) ∧ Builtin.Str.tooLong (a.length * n.toNat) = false ∧ (repS a n).length ≤ sizeLine ∧ Q (.str (repS a n)) H) := by
  intro pins s σ H x y v u Q I rx ry h
  obtain ⟨a, n, rfl, rfl, h1, h2, h3, h4, hl, hz, q⟩ := h
  obtain ⟨t, rfl⟩ := rx
  obtain ⟨t2, rfl⟩ := ry
  refine P.mul_str ?_ (fun _ _ => ?_) (fun _ _ => hl) ?_
  · rw [decide_eq_false (by omega), decide_eq_false (by omega)]
    rfl
  · exact h4
  · rw [if_neg (by omega), if_neg (by
      have e1 : (n == 1) = false := by rw [beq_eq_false_iff_ne]; omega
      have e2 : (a.length == 0) = false := by rw [beq_eq_false_iff_ne]; omega
      rw [e1, e2]; decide)]
    exact ⟨hz, .str _, H, I.tok _, ⟨_, rfl⟩, q⟩
theorem call_listS : CallR X (.type "list") (fun xs H Q => X.calm = true ∧ ∃ a : Str, xs = [.str a] ∧ a.length ≤ 900 ∧ ∀ l, H l = none → Q (.ref l) (upd H l (.lst (a.cps.toList.map fun c => .str ⟨#[c]⟩)))) := by
  intro pins s σ H xs us Q I r h
  obtain ⟨hc, a, rfl, hz, q⟩ := h
  obtain ⟨u, rfl, ru⟩ := vals1 r
  obtain ⟨t, rfl⟩ := ru
  have hz' : a.cps.size ≤ sizeLine := Nat.le_trans hz (by decide)
  refine call_list_str (I.ok.hd hc) a t (fun h' tk acc' c' kp e hi => ?_) hz'
  refine ⟨.ref s.heap.objs.size, _, I.laid (t' := tk) (o := .lst (a.cps.toList.map fun c => .str ⟨#[c]⟩)) kp (Nat.le_refl _) ⟨?_, acc'.toList, c', ?_, ?_⟩, rfl, q _ (I.hok.fresh (Nat.le_refl _))⟩
  · rw [List.length_map, Array.length_toList]
    exact hz'
  · refine paired_of ?_ fun i v u hv hu => ?_
    · rw [List.length_map, Array.length_toList, Array.length_toList]
      exact hi.1.symm
    · rw [Array.getElem?_toList] at hu
      obtain ⟨c, t', hc', rfl⟩ := hi.2 i u hu
      rw [List.getElem?_map, Array.getElem?_toList, hc'] at hv
      cases hv
      exact ⟨_, rfl⟩
  · rw [Array.toArray_toList]
    exact e
end
end L2

/-! what is a set, what is a sentence: of any data -/
namespace OD
open PySem L2
def isStrD : PyData → Bool
  | .str _ => true
  | _ => false
def isLstD : PyData → Bool
  | .list _ => true
  | _ => false
theorem kb_str : kitB "NoneType" "str" = some false ∧ kitB "bool" "str" = some false ∧ kitB "int" "str" = some false ∧ kitB "str" "str" = some true ∧ kitB "list" "str" = some false ∧ kitB "tuple" "str" = some false := by
  refine ⟨?_, ?_, ?_, ?_, ?_, ?_⟩ <;> decide +kernel
theorem kb_list : kitB "NoneType" "list" = some false ∧ kitB "bool" "list" = some false ∧ kitB "int" "list" = some false ∧ kitB "str" "list" = some false ∧ kitB "list" "list" = some true ∧ kitB "tuple" "list" = some false := by
  refine ⟨?_, ?_, ?_, ?_, ?_, ?_⟩ <;> decide +kernel
theorem kit_str {K : PySem.W.Frag} (d : PyData) (h : isDictD d = false) : PySem.W.kitOne K (.type (tyName d)) (.type "str") = some (isStrD d) := by
  obtain ⟨h1, h2, h3, h4, h5, h6⟩ := kb_str
  cases d with
  | none => exact kit_one h1
  | bool _ => exact kit_one h2
  | int _ => exact kit_one h3
  | str _ => exact kit_one h4
  | list _ => exact kit_one h5
  | tuple _ => exact kit_one h6
  | dict _ => cases h
theorem kit_list {K : PySem.W.Frag} (d : PyData) (h : isDictD d = false) : PySem.W.kitOne K (.type (tyName d)) (.type "list") = some (isLstD d) := by
  obtain ⟨h1, h2, h3, h4, h5, h6⟩ := kb_list
  cases d with
  | none => exact kit_one h1
  | bool _ => exact kit_one h2
  | int _ => exact kit_one h3
  | str _ => exact kit_one h4
  | list _ => exact kit_one h5
  | tuple _ => exact kit_one h6
  | dict _ => cases h
def setB (most : Int) : Int → List PyData → Bool
  | _, [] => true
  | b, .int i :: r => if b < absI i ∧ absI i ≤ most then setB most (absI i) r else false
  | _, _ :: _ => false
def setD (most : Int) : PyData → Bool
  | .tuple ds => setB most 0 ds
  | _ => false
theorem drop_getD {α : Type} {l : List α} {i : Nat} (d : α) (h : i < l.length) : l.drop i = l.getD i d :: l.drop (i + 1) := by
  rw [List.drop_eq_getElem_cons h]
  congr 1
  simp [List.getD, h]
theorem not_int {d : PyData} (h : ∀ z, d ≠ .int z) : (isIntD d && !isBoolD d) = false := by
  cases d with
  | int z => exact absurd rfl (h z)
  | _ => rfl
theorem setB_bad {most b : Int} {d : PyData} {r : List PyData} (h : ∀ z, d ≠ .int z) : setB most b (d :: r) = false := by
  cases d with
  | int z => exact absurd rfl (h z)
  | _ => rfl
theorem setB_int {most b z : Int} {r : List PyData} : setB most b (.int z :: r) = if b < absI z ∧ absI z ≤ most then setB most (absI z) r else false := rfl
theorem int_or (d : PyData) : (∃ z, d = .int z) ∨ ∀ z, d ≠ .int z := by
  cases d with
  | int z => exact .inl ⟨z, rfl⟩
  | _ => exact .inr (fun z h => by cases h)
theorem RD_int_inv {H : Hp} {z : Int} {v : V} (h : RD H (.int z) v) : v = .int z := by
  unfold RD at h
  exact h
theorem RD_str_inv {H : Hp} {z : Str} {v : V} (h : RD H (.str z) v) : v = .str z := by
  unfold RD at h
  exact h
def isWS (c : Nat) : Bool := c == 119 || c == 115
def allW (t : Str) : Bool := t.cps.toList.all isWS
def turnsD : PyData → Bool
  | .str t => allW t
  | _ => false
def sentB : PyData → Bool
  | .tuple [d0, .list es] => match d0 with
    | .str t => allW t && es.all (setD t.length)
    | _ => false
  | _ => false
/-- str.strip leaves nothing just where all goes -/
theorem takeWhile_all {α : Type} {p : α → Bool} : ∀ {l : List α}, l.all p = true → l.takeWhile p = l
  | [], _ => rfl
  | a :: l, h => by
    rw [List.all_cons, Bool.and_eq_true] at h
    rw [List.takeWhile_cons, if_pos h.1, takeWhile_all h.2]
theorem takeWhile_len {α : Type} {p : α → Bool} : ∀ {l : List α}, l.all p = false → (l.takeWhile p).length < l.length
  | [], h => nomatch h
  | a :: l, h => by
    rw [List.takeWhile_cons]
    cases ha : p a with
    | false =>
      rw [if_neg Bool.false_ne_true]
      exact Nat.succ_pos _
    | true =>
      rw [List.all_cons, ha, Bool.true_and] at h
      rw [if_pos rfl]
      exact Nat.succ_lt_succ (takeWhile_len h)
theorem drop_takeWhile_all {α : Type} {p : α → Bool} : ∀ {l : List α}, l.all p = false → (l.drop (l.takeWhile p).length).all p = false
  | [], h => nomatch h
  | a :: l, h => by
    rw [List.takeWhile_cons]
    cases ha : p a with
    | false =>
      rw [if_neg Bool.false_ne_true]
      exact h
    | true =>
      rw [List.all_cons, ha, Bool.true_and] at h
      rw [if_pos rfl]
      exact drop_takeWhile_all h
theorem strip_none (x y : Str) : decide (V.str (Txt.stripChars x y) = V.str (Str.ofString "")) = x.cps.toList.all y.cps.contains := by
  have hx : x.cps.toList.length = x.length := Array.length_toList
  have he : ∀ z : Str, V.str z = V.str (Str.ofString "") ↔ z.length = 0 := fun z => by
    constructor
    · intro e
      rw [V.str.inj e]
      decide +kernel
    · intro e
      have e1 : z.cps = #[] := Array.eq_empty_of_size_eq_zero e
      have e2 : (Str.ofString "").cps = #[] := by decide +kernel
      have e3 : z = Str.ofString "" := by
        cases z with
        | mk c =>
          have e4 : Str.ofString "" = ⟨(Str.ofString "").cps⟩ := rfl
          rw [e4, e2]
          exact congrArg Str.mk e1
      rw [e3]
  show decide (V.str (Txt.stripBy y.cps.contains true true x) = _) = _
  unfold Txt.stripBy
  rw [Bool.eq_iff_iff, decide_eq_true_iff, he]
  cases g : x.cps.toList.all y.cps.contains with
  | true =>
    have lo : stripLo y.cps.contains true x = x.length := by
      show (x.cps.toList.takeWhile y.cps.contains).length = _
      rw [takeWhile_all g, hx]
    have hi : stripHi y.cps.contains true x (stripLo y.cps.contains true x) ≤ x.length := Nat.sub_le _ _
    refine ⟨fun _ => rfl, fun _ => ?_⟩
    split
    · rename_i hs
      unfold stripSame at hs
      rw [lo, Bool.and_eq_true] at hs
      exact eq_of_beq hs.1
    · unfold stripped Builtin.Str.strSub
      show (x.cps.extract _ _).size = 0
      rw [Array.size_extract, lo]
      have : x.cps.size = x.length := rfl
      rw [lo] at hi
      omega
  | false =>
    have lo : stripLo y.cps.contains true x < x.length := by
      rw [← hx]
      exact takeWhile_len g
    have hi : stripLo y.cps.contains true x < stripHi y.cps.contains true x (stripLo y.cps.contains true x) := by
      show _ < x.length - ((x.cps.toList.drop (stripLo y.cps.contains true x)).reverse.takeWhile y.cps.contains).length
      have z := drop_takeWhile_all g
      have z2 : ((x.cps.toList.drop (stripLo y.cps.contains true x)).reverse).all y.cps.contains = false := by
        rw [List.all_reverse]
        exact z
      have z3 := takeWhile_len z2
      rw [List.length_reverse, List.length_drop, hx] at z3
      omega
    have hi2 : stripHi y.cps.contains true x (stripLo y.cps.contains true x) ≤ x.length := Nat.sub_le _ _
    refine ⟨fun h => ?_, fun h => nomatch h⟩
    exfalso
    revert h
    split
    · intro h
      omega
    · intro h
      have h' : (x.cps.extract (stripLo y.cps.contains true x) (stripHi y.cps.contains true x (stripLo y.cps.contains true x))).size = 0 := h
      rw [Array.size_extract] at h'
      have : x.cps.size = x.length := rfl
      omega
theorem all_ws (x : Str) : x.cps.toList.all (Str.ofString "ws").cps.contains = allW x := by
  unfold allW
  congr 1
  funext c
  have e : (Str.ofString "ws").cps = #[119, 115] := by decide +kernel
  rw [e]
  unfold isWS
  rw [Bool.eq_iff_iff]
  simp
theorem inV_ws (c : Nat) : inV (.str ⟨#[c]⟩) [.str (Str.ofString "w"), .str (Str.ofString "s")] = isWS c := by
  have e1 : Str.ofString "w" = ⟨#[119]⟩ := by decide +kernel
  have e2 : Str.ofString "s" = ⟨#[115]⟩ := by decide +kernel
  have key : ∀ a b : Nat, ((⟨#[a]⟩ : Str) == ⟨#[b]⟩) = (b == a) := fun a b => by
    rw [Bool.eq_iff_iff, beq_iff_eq, beq_iff_eq]
    constructor
    · intro z
      have z2 : #[a] = #[b] := congrArg Str.cps z
      have z3 : [a] = [b] := congrArg Array.toList z2
      exact (List.cons.inj z3).1.symm
    · intro z
      rw [z]
  unfold inV isWS
  rw [e1, e2]
  show ((⟨#[119]⟩ : Str) == ⟨#[c]⟩ || ((⟨#[115]⟩ : Str) == ⟨#[c]⟩ || false)) = _
  rw [key, key, Bool.or_false]
theorem all_bl {α : Type} (l : List α) (f : α → Bool) : (l.map fun x => V.bl (f x)).all isBN = true ∧ (l.map fun x => V.bl (f x)).all truV = l.all f := by
  constructor
  · rw [List.all_map]
    exact List.all_eq_true.mpr fun _ _ => rfl
  · rw [List.all_map]
    rfl
section
variable {D : Addr} {tt : TT} {te : TE} {σ0 : St} {H1 : Hp} {Q : VK}
theorem comp_strP {x : Str} (rest : St) (f : Nat → V) (e0 : σ0 = none :: rest) (hD : H1 D = none) (hlen : x.length ≤ 900)
    (ht : ∀ (v : V) (H' : Hp) (R : Bool → Hp → Prop), R true H' → tt (some v :: rest) H' R)
    (he : ∀ (c : Nat) (H' : Hp) (R : VK), Same H1 H' → (∀ H'', Same H' H'' → R (f c) H'') → te (some (.str ⟨#[c]⟩) :: rest) H' R)
    (hq : ∀ H2, Same H1 H2 → H2 D = some (.lst (x.cps.toList.map f)) → Q (.ref D) H2) : CompW (ItS x) D (gName 0) tt te σ0 H1 Q := by
  have hx : x.cps.toList.length = x.length := Array.length_toList
  refine ⟨fun i m σ ys H => m = x.length - i ∧ i ≤ x.length ∧ (∃ v0, σ = v0 :: rest) ∧ ys = (x.cps.toList.take i).map f ∧ H D = some (.lst ys) ∧ Same H1 H, ⟨_, rfl, Nat.zero_le _, ⟨none, e0⟩, rfl, upd_same, same_new hD _⟩, ?_⟩
  rintro i m σ ys H ⟨rfl, hi, ⟨v0, rfl⟩, hys, hd, k⟩
  refine ⟨hd, ?_⟩
  by_cases hlt : i < x.length
  · refine .inr ⟨hlt, fun σ ys H => (∃ v0, σ = v0 :: rest) ∧ ys = (x.cps.toList.take (i + 1)).map f ∧ H D = some (.lst ys) ∧ Same H1 H, fun σ' ys' H' p' => ⟨_, by omega, rfl, hlt, p'⟩, fun v H' y => ?_⟩
    obtain ⟨rfl, c, hc, rfl⟩ := y
    refine ht _ _ _ (iteT (he c _ _ k fun H4 k4 => ⟨k4 _ _ hd, ?_, ⟨_, rfl⟩, ?_, upd_same, (k.trans k4).upd_new hD _⟩))
    · rw [hys, List.length_map, List.length_take]
      exact small1000 (by omega)
    · rw [List.take_add_one, Array.getElem?_toList, hc, List.map_append, ← hys]
      rfl
  · have e : i = x.length := by omega
    refine .inl ⟨?_, hq _ k ?_⟩
    · show x.cps.size ≤ i
      exact Nat.le_of_eq e.symm
    · rw [hd, hys, List.take_of_length_le (by omega)]
end
end OD

/-! what is bent: as data -/
namespace OD
open PySem L2
theorem eqF {a b : Int} {A B : Prop} (h : a ≠ b) (k : B) : if decide (V.int a = V.int b) = true then A else B := by
  rw [decide_eq_false (fun e => h (by injection e))]
  exact iteF k
theorem eqT {a b : Int} {A B : Prop} (h : a = b) (k : A) : if decide (V.int a = V.int b) = true then A else B := by
  rw [decide_eq_true (by rw [h])]
  exact iteT k
theorem eqv_ints_nil (ns : List Int) : PyData.eqv (.list (ns.map .int)) (.list []) = decide (ns = []) := by
  cases ns with
  | nil => simp [PyData.eqv, PyData.eqvAll]
  | cons n r => simp [PyData.eqv, PyData.eqvAll]
theorem shaped_ints (ns : List Int) : SeqAt.shaped (.list (ns.map .int)) = true := PySem.W.ke_shaped_ints ns
theorem log_small {x : Int} (h : x.natAbs < 2 ^ 200) : x.natAbs.log2 < 1920 := by
  by_cases z : x.natAbs = 0
  · rw [z]
    decide
  · have := (Nat.log2_lt z).mpr h
    omega
theorem ixN_ok {n : Nat} {i : Int} (h0 : 0 ≤ i) (h1 : i < n) : ixN n i = some i.toNat := by
  unfold ixN
  rw [if_pos h0, if_pos h1]
theorem getD_of {ns : List Int} {j : Nat} {x : Int} (h : ns[j]? = some x) : ns.getD j 0 = x := by
  simp [List.getD, h]
def Nice (n : Nat) (d : PyData) : Prop := d.canLay0 = true ∧ d.depth ≤ n
theorem Nice.mono {m n : Nat} {d : PyData} (h : Nice m d) (k : m ≤ n) : Nice n d := ⟨h.1, Nat.le_trans h.2 k⟩
theorem lay_all : ∀ {ds : List PyData} {n : Nat}, (∀ d ∈ ds, Nice n d) → PyData.canLayAll0 ds = true ∧ PyData.depthAll ds ≤ n
  | [], _, _ => ⟨rfl, Nat.zero_le _⟩
  | d :: ds, n, h => by
    have h1 := h d List.mem_cons_self
    have h2 := lay_all (ds := ds) fun x hx => h x (List.mem_cons_of_mem _ hx)
    refine ⟨?_, ?_⟩
    · show (d.canLay0 && PyData.canLayAll0 ds) = true
      rw [h1.1, h2.1]
      rfl
    · show max d.depth (PyData.depthAll ds) ≤ n
      exact Nat.max_le.mpr ⟨h1.2, h2.2⟩
theorem nice_list {n : Nat} {ds : List PyData} (h : ∀ d ∈ ds, Nice n d) : Nice (n + 1) (.list ds) := ⟨(lay_all h).1, Nat.succ_le_succ (lay_all h).2⟩
theorem nice_tup {n : Nat} {ds : List PyData} (h : ∀ d ∈ ds, Nice n d) : Nice (n + 1) (.tuple ds) := ⟨(lay_all h).1, Nat.succ_le_succ (lay_all h).2⟩
theorem nice_none (n : Nat) : Nice n .none := ⟨rfl, Nat.zero_le _⟩
theorem nice_bool (n : Nat) (b : Bool) : Nice n (.bool b) := ⟨rfl, Nat.zero_le _⟩
theorem nice_int (n : Nat) (i : Int) : Nice n (.int i) := ⟨rfl, Nat.zero_le _⟩
theorem nice_str (n : Nat) {x : Str} (h : PyData.strOk x = true) : Nice n (.str x) := ⟨h, Nat.zero_le _⟩
theorem nice_ints (n : Nat) (ns : List Int) : ∀ d ∈ ns.map PyData.int, Nice n d := fun d hd => by
  obtain ⟨i, _, rfl⟩ := List.mem_map.mp hd
  exact nice_int n i
theorem nice_menu {n j : Nat} {ds : List PyData} (h : ∀ d ∈ ds, Nice n d) : Nice n (ds.getD j .none) := by
  rw [List.getD_eq_getElem?_getD]
  cases e : ds[j]? with
  | none => exact nice_none n
  | some d => exact h d (List.mem_of_getElem? e)
theorem nice_cons {n : Nat} {d : PyData} {ds : List PyData} (h : Nice n d) (t : ∀ x ∈ ds, Nice n x) : ∀ x ∈ d :: ds, Nice n x := fun x hx => by
  rcases List.mem_cons.mp hx with rfl | hx
  · exact h
  · exact t x hx
theorem nice_nil {n : Nat} : ∀ x ∈ ([] : List PyData), Nice n x := fun _ h => nomatch h
theorem nice_set {n j : Nat} {d : PyData} {ds : List PyData} (h : Nice n d) (t : ∀ x ∈ ds, Nice n x) : ∀ x ∈ ds.set j d, Nice n x := fun x hx => by
  rcases List.mem_or_eq_of_mem_set hx with hx | rfl
  · exact t x hx
  · exact h
theorem Nice.shaped {d : PyData} (h : Nice 8 d) : SeqAt.shaped d = true := shaped_of h.1 (Nat.le_trans h.2 (by decide))
theorem okStr (s : String) : PyData.strOk (Str.ofString s) = true := by
  rw [Str.ofString_eq_toList]
  unfold PyData.strOk
  simp only [List.all_toArray, List.all_map, List.all_eq_true]
  intro c _
  have hc := c.valid
  simp only [Function.comp, decide_eq_true_eq]
  rcases hc with h | ⟨_, h⟩
  · exact Nat.lt_trans h (by decide)
  · exact h
theorem ok_mem {x : Str} : PyData.strOk x = true ↔ ∀ c ∈ x.cps.toList, c < 0x110000 := by
  unfold PyData.strOk
  rw [← Array.all_toList, List.all_eq_true]
  exact ⟨fun h c hc => of_decide_eq_true (h c hc), fun h c hc => decide_eq_true (h c hc)⟩
theorem ok_app {a b : Str} (h1 : PyData.strOk a = true) (h2 : PyData.strOk b = true) : PyData.strOk (a ++ b) = true := by
  rw [ok_mem] at h1 h2 ⊢
  intro c hc
  have e : (a ++ b).cps = a.cps ++ b.cps := rfl
  rw [e, Array.toList_append] at hc
  rcases List.mem_append.mp hc with hc | hc
  · exact h1 c hc
  · exact h2 c hc
theorem ok_slice {x : Str} {l u : Option Int} (h : PyData.strOk x = true) : PyData.strOk (Txt.slice x l u) = true := by
  unfold Txt.slice
  split
  · exact h
  · rw [ok_mem] at h ⊢
    intro c hc
    have hc' : c ∈ (Builtin.Str.strSliceIndices l u 1 x.length).filterMap (x.cps[·]?) := by simpa using hc
    obtain ⟨i, _, hi⟩ := List.mem_filterMap.mp hc'
    refine h c (List.mem_of_getElem? (i := i) ?_)
    rw [Array.getElem?_toList]
    exact hi
/-- a clause, bent -/
def atOf (n : Nat) (m : Int) : Nat := (m % (if (1 : Int) > (n : Int) then 1 else (n : Int))).toNat
def odd0 (cnt : Int) (j : Nat) : PyData := [PyData.tuple [.int 0], .tuple [.int (cnt + 1)], .list [], .none, .tuple [.bool true]].getD j .none
def odd4 (x : Int) (j : Nat) : PyData := [PyData.int 0, .bool true, .str (toString x), .none, .tuple [.int x]].getD j .none
def odd6 (c : List Int) (j : Nat) : PyData := [PyData.list (c.map .int), .none, .str (Str.ofString ""), .int (c.getD 0 0)].getD j .none
def bentI (c : List Int) (m cnt : Int) : List Int :=
  if m / 8 % 8 = 0 then c.set (c.length - 1) (c.getD (c.length - 1) 0 + (if c.getD (c.length - 1) 0 < 0 then -1 else 1) * (cnt + m / 64 % 3))
  else if m / 8 % 8 = 1 then (c.set 0 (c.getD (atOf c.length m) 0)).set (atOf c.length m) (c.getD 0 0)
  else if m / 8 % 8 = 2 then c.take (atOf c.length m) ++ c.getD (atOf c.length m) 0 :: c.drop (atOf c.length m)
  else if m / 8 % 8 = 3 then c.take (atOf c.length m) ++ (0 - c.getD (atOf c.length m) 0) :: c.drop (atOf c.length m)
  else if m / 8 % 8 = 5 then 0 :: c
  else c
def bentC (c : List Int) (m cnt : Int) : PyData :=
  if c = [] then odd0 cnt (m / 8 % 5).toNat
  else if m / 8 % 8 = 4 then .tuple ((c.map PyData.int).set (atOf c.length m) (odd4 (c.getD (atOf c.length m) 0) (m / 64 % 5).toNat))
  else if m / 8 % 8 = 6 then odd6 c (m / 64 % 4).toNat
  else .tuple ((bentI c m cnt).map .int)
theorem bentC_nice (c : List Int) (m cnt : Int) : Nice 2 (bentC c m cnt) := by
  unfold bentC
  split
  · exact nice_menu (nice_cons (nice_tup (nice_cons (nice_int 1 _) nice_nil)) (nice_cons (nice_tup (nice_cons (nice_int 1 _) nice_nil)) (nice_cons (nice_list nice_nil) (nice_cons (nice_none _) (nice_cons (nice_tup (nice_cons (nice_bool 1 _) nice_nil)) nice_nil)))))
  split
  · exact nice_tup (nice_set (nice_menu (nice_cons (nice_int 1 _) (nice_cons (nice_bool _ _) (nice_cons (nice_str _ (okStr _)) (nice_cons (nice_none _) (nice_cons (nice_tup (nice_cons (nice_int 0 _) nice_nil)) nice_nil)))))) (nice_ints 1 c))
  split
  · exact nice_menu (nice_cons (nice_list (nice_ints 1 c)) (nice_cons (nice_none _) (nice_cons (nice_str _ (okStr _)) (nice_cons (nice_int _ _) nice_nil))))
  · exact nice_tup (nice_ints 1 _)
/-- a sentence, bent -/
def menu3 (t : Str) (cs : List (List Int)) (j : Nat) : PyData := [PyData.tuple [.str t, .list (cs.map clD), .list []], .tuple [.str t], .tuple [], .tuple [.str t, .tuple (cs.map clD)], .none, .str t].getD j .none
def menu4 (t : Str) (j : Nat) : PyData := [PyData.str (t ++ Str.ofString "x"), .str (t ++ Str.ofString "W"), .str (Str.ofString " " ++ t), .none, .int 3, .list (t.cps.toList.map fun c => .str ⟨#[c]⟩)].getD j .none
def bentD (t : Str) (cs : List (List Int)) (m : Int) : PyData :=
  if m % 12 < 2 then .tuple [.str t, .list (cs.map clD)]
  else if m % 12 = 2 then .list [.str t, .list (cs.map clD)]
  else if m % 12 = 3 then menu3 t cs (m / 12 % 6).toNat
  else if m % 12 = 4 then .tuple [menu4 t (m / 12 % 6).toNat, .list (cs.map clD)]
  else if m % 12 = 5 then .tuple [.str (Txt.slice t none (some (-1))), .list (cs.map clD)]
  else if cs = [] then .tuple [.str t, .list [.tuple [.int (t.length + 1 - m / 12 % 2)]]]
  else .tuple [.str t, .list ((cs.map clD).set (m / 12 % cs.length).toNat (bentC (cs.getD (m / 12 % cs.length).toNat []) (m / 100) t.length))]
theorem nice_cls (cs : List (List Int)) : ∀ d ∈ cs.map clD, Nice 2 d := fun d hd => by
  obtain ⟨c, _, rfl⟩ := List.mem_map.mp hd
  exact nice_tup (nice_ints 1 c)
theorem bentD_nice {t : Str} (ht : PyData.strOk t = true) (cs : List (List Int)) (m : Int) : Nice 8 (bentD t cs m) := by
  have nL : Nice 7 (.list (cs.map clD)) := (nice_list (nice_cls cs)).mono (by decide)
  have nL6 : Nice 6 (.list (cs.map clD)) := (nice_list (nice_cls cs)).mono (by decide)
  have nT : ∀ n, Nice n (.str t) := fun n => nice_str n ht
  unfold bentD
  split
  · exact nice_tup (nice_cons (nT _) (nice_cons nL nice_nil))
  split
  · exact nice_list (nice_cons (nT _) (nice_cons nL nice_nil))
  split
  · exact nice_menu (nice_cons (nice_tup (nice_cons (nT _) (nice_cons nL (nice_cons (nice_list nice_nil) nice_nil)))) (nice_cons (nice_tup (nice_cons (nT _) nice_nil)) (nice_cons (nice_tup nice_nil) (nice_cons (nice_tup (nice_cons (nT _) (nice_cons ((nice_tup (nice_cls cs)).mono (by decide)) nice_nil))) (nice_cons (nice_none _) (nice_cons (nT _) nice_nil))))))
  split
  · refine nice_tup (nice_cons (nice_menu (nice_cons (nice_str _ (ok_app ht (okStr _))) (nice_cons (nice_str _ (ok_app ht (okStr _))) (nice_cons (nice_str _ (ok_app (okStr _) ht)) (nice_cons (nice_none _) (nice_cons (nice_int _ _) (nice_cons (nice_list (n := 6) fun d hd => ?_) nice_nil))))))) (nice_cons nL nice_nil))
    obtain ⟨c, hc, rfl⟩ := List.mem_map.mp hd
    refine nice_str _ (ok_mem.mpr fun x hx => ?_)
    have e : x = c := by simpa using hx
    rw [e]
    exact ok_mem.mp ht c hc
  split
  · exact nice_tup (nice_cons (nice_str _ (ok_slice ht)) (nice_cons nL nice_nil))
  split
  · exact nice_tup (nice_cons (nT _) (nice_cons (nice_list (nice_cons (nice_tup (nice_cons (nice_int 5 _) nice_nil)) nice_nil)) nice_nil))
  · exact nice_tup (nice_cons (nT _) (nice_cons ((nice_list (nice_set (bentC_nice _ _ _) (nice_cls cs))).mono (by decide)) nice_nil))
end OD

/-! open addressing: what a set's table does, apart from the values in it -/
namespace TB
open PySem PySem.SetTable
/-! ### the place in a rising array -/
def Up (xs : Array Nat) : Prop := ∀ i k, i < k → k < xs.size → xs.getD i 0 < xs.getD k 0
theorem getD_in {xs : Array Nat} {i : Nat} (h : i < xs.size) (a b : Nat) : xs.getD i a = xs.getD i b := by
  simp [Array.getD, h]
theorem go_spec {xs : Array Nat} {j : Nat} (up : Up xs) : ∀ (fuel lo hi : Nat), hi - lo ≤ fuel → lo ≤ hi → hi ≤ xs.size → (∀ i, i < lo → xs.getD i 0 < j) → (∀ i, hi ≤ i → i < xs.size → j ≤ xs.getD i 0) →
    below.go xs j fuel lo hi ≤ xs.size ∧ (∀ i, i < below.go xs j fuel lo hi → xs.getD i 0 < j) ∧ (∀ i, below.go xs j fuel lo hi ≤ i → i < xs.size → j ≤ xs.getD i 0)
  | 0, lo, hi, hf, hl, hs, h1, h2 => by
    have e : lo = hi := by omega
    subst e
    exact ⟨hs, h1, h2⟩
  | fuel + 1, lo, hi, hf, hl, hs, h1, h2 => by
    unfold below.go
    by_cases h : lo < hi
    · rw [if_pos h]
      have hm : (lo + hi) / 2 < xs.size := by omega
      show (if xs.getD ((lo + hi) / 2) j < j then below.go xs j fuel ((lo + hi) / 2 + 1) hi else below.go xs j fuel lo ((lo + hi) / 2)) ≤ xs.size ∧ _
      by_cases c : xs.getD ((lo + hi) / 2) j < j
      · simp only [if_pos c]
        refine go_spec up fuel _ _ (by omega) (by omega) hs (fun i hi' => ?_) h2
        rw [getD_in hm j 0] at c
        rcases Nat.lt_or_ge i ((lo + hi) / 2) with g | g
        · exact Nat.lt_trans (up i _ g hm) c
        · have e : i = (lo + hi) / 2 := by omega
          rw [e]; exact c
      · simp only [if_neg c]
        refine go_spec up fuel _ _ (by omega) (by omega) (by omega) h1 (fun i hi' hi2 => ?_)
        rw [getD_in hm j 0] at c
        rcases Nat.lt_or_ge ((lo + hi) / 2) i with g | g
        · exact Nat.le_trans (by omega) (Nat.le_of_lt (up _ i g hi2))
        · have e : i = (lo + hi) / 2 := by omega
          rw [e]; omega
    · rw [if_neg h]
      have e : lo = hi := by omega
      subst e
      exact ⟨hs, h1, h2⟩
theorem below_spec {xs : Array Nat} (up : Up xs) (j : Nat) : below xs j ≤ xs.size ∧ (∀ i, i < below xs j → xs.getD i 0 < j) ∧ (∀ i, below xs j ≤ i → i < xs.size → j ≤ xs.getD i 0) :=
  go_spec up xs.size 0 xs.size (by omega) (by omega) (by omega) (fun i h => by omega) (fun i h h2 => by omega)
theorem below_at {xs : Array Nat} (up : Up xs) {i j : Nat} (h : xs[i]? = some j) : below xs j = i := by
  obtain ⟨b1, b2, b3⟩ := below_spec up j
  obtain ⟨hi, e⟩ := Array.getElem?_eq_some_iff.mp h
  have e' : xs.getD i 0 = j := by simp [Array.getD, hi, e]
  rcases Nat.lt_trichotomy (below xs j) i with g | g | g
  · have := b3 (below xs j) (Nat.le_refl _) (by omega)
    have := up _ _ g hi
    omega
  · exact g
  · have := b2 i g
    omega
theorem below_next {xs : Array Nat} (up : Up xs) {i j : Nat} (h : xs[i]? = some j) : below xs (j + 1) = i + 1 := by
  obtain ⟨b1, b2, b3⟩ := below_spec up (j + 1)
  obtain ⟨hi, e⟩ := Array.getElem?_eq_some_iff.mp h
  have e' : xs.getD i 0 = j := by simp [Array.getD, hi, e]
  rcases Nat.lt_trichotomy (below xs (j + 1)) (i + 1) with g | g | g
  · have := b3 i (by omega) hi
    omega
  · exact g
  · have := b2 (i + 1) g
    have := up i (i + 1) (by omega) (by omega)
    omega
theorem below_zero {xs : Array Nat} (up : Up xs) : below xs 0 = 0 := by
  obtain ⟨b1, b2, b3⟩ := below_spec up 0
  rcases Nat.eq_zero_or_pos (below xs 0) with g | g
  · exact g
  · have := b2 0 g
    omega
/-! ### tables without dummies -/
structure Tab (t : SetTable) : Prop where
  mask : t.mask = 7 ∨ t.mask = 31
  dum : t.dummies = #[]
  up : Up t.place
  le : ∀ j ∈ t.place, j ≤ t.mask
  room : t.place.size ≤ t.mask
def occ (t : SetTable) (j : Nat) : Bool := t.place.contains j
theorem occ_iff {t : SetTable} {j : Nat} : occ t j = true ↔ ∃ i : Nat, t.place[i]? = some j := by
  unfold occ
  rw [Array.contains_iff_mem, Array.mem_iff_getElem?]
theorem has_nil (j : Nat) : has #[] j = false := by
  unfold has; simp
theorem slot_live {t : SetTable} (T : Tab t) {i j : Nat} (h : t.place[i]? = some j) : t.slot j = .live i := by
  unfold slot
  simp only [below_at T.up h, h]
  simp
theorem slot_inv {t : SetTable} (T : Tab t) (j : Nat) : (∃ i : Nat, t.place[i]? = some j ∧ t.slot j = .live i) ∨ (occ t j = false ∧ t.slot j = .empty) := by
  by_cases h : occ t j = true
  · obtain ⟨i, hi⟩ := occ_iff.mp h
    exact .inl ⟨i, hi, slot_live T hi⟩
  · refine .inr ⟨by simpa using h, ?_⟩
    unfold slot
    have hn : ¬ (t.place[below t.place j]? == some j) = true := fun z => h (occ_iff.mpr ⟨_, by simpa using z⟩)
    simp only [hn, T.dum, has_nil, if_false, Bool.false_eq_true]
theorem free_list : ∀ (n : Nat) (l : List Nat), (∀ e, e < n → e ∈ l) → n ≤ l.length
  | 0, _, _ => Nat.zero_le _
  | n + 1, l, h => by
    have hm := h n (by omega)
    have := free_list n (l.erase n) fun e he => (List.mem_erase_of_ne (by omega)).mpr (h e (by omega))
    rw [List.length_erase_of_mem hm] at this
    have : 0 < l.length := List.length_pos_of_mem hm
    omega
theorem free_some {t : SetTable} (T : Tab t) : ∃ e, e ≤ t.mask ∧ occ t e = false := by
  by_cases h : ∃ e, e ≤ t.mask ∧ occ t e = false
  · exact h
  · exfalso
    have := free_list (t.mask + 1) t.place.toList fun e he => by
      cases c : occ t e with
      | true =>
        unfold occ at c
        rw [Array.contains_iff_mem] at c
        exact Array.mem_toList_iff.mpr c
      | false => exact absurd ⟨e, by omega, c⟩ h
    have := T.room
    simp at *
    omega
/-! ### the way of a hash through the table -/
def adv (m : Nat) (p : Probe) : Probe :=
  if p.more > 0 then { p with j := p.j + 1, more := p.more - 1 } else
  { p with j := (leap m p.i p.perturb).1, more := runEnd m (leap m p.i p.perturb).1 - (leap m p.i p.perturb).1, i := (leap m p.i p.perturb).1, perturb := (leap m p.i p.perturb).2 }
theorem adv_eq (t : SetTable) (p : Probe) : t.advance p = adv t.mask p := rfl
def advN (m : Nat) : Nat → Probe → Probe
  | 0, p => p
  | k + 1, p => advN m k (adv m p)
theorem advN_add (m : Nat) : ∀ (a b : Nat) (p : Probe), advN m (a + b) p = advN m b (advN m a p)
  | 0, b, p => by rw [Nat.zero_add]; rfl
  | a + 1, b, p => by
    rw [Nat.add_right_comm]
    exact advN_add m a b (adv m p)
theorem advN_succ (m k : Nat) (p : Probe) : advN m (k + 1) p = adv m (advN m k p) := advN_add m k 1 p
def start (m : Nat) (h : Int) : Probe := { j := bits h % (m + 1), more := runEnd m (bits h % (m + 1)) - bits h % (m + 1), i := bits h % (m + 1), perturb := bits h, dummy := none }
theorem start_eq (t : SetTable) (h : Int) : t.probeStart h = start t.mask h := rfl
structure POk (m : Nat) (p : Probe) : Prop where
  i : p.i ≤ m
  per : p.perturb < 2 ^ 64
  j : p.j + p.more = runEnd m p.i
  ij : p.i ≤ p.j
  dum : p.dummy = none
theorem runEnd_le {m i : Nat} (h : i ≤ m) : runEnd m i ≤ m ∧ i ≤ runEnd m i ∧ runEnd m i ≤ i + 9 := by
  unfold runEnd; split <;> omega
theorem bits_lt (h : Int) : bits h < 2 ^ 64 := by
  unfold bits
  have := Int.emod_lt_of_pos h (show (0 : Int) < 2 ^ 64 by decide)
  have := Int.emod_nonneg h (show (2 ^ 64 : Int) ≠ 0 by decide)
  omega
theorem start_ok (m : Nat) (h : Int) : POk m (start m h) := by
  have hi : bits h % (m + 1) ≤ m := Nat.le_of_lt_succ (Nat.mod_lt _ (Nat.succ_pos _))
  have := runEnd_le hi
  exact ⟨hi, bits_lt h, by show bits h % (m + 1) + (runEnd m (bits h % (m + 1)) - bits h % (m + 1)) = _; simp only [start]; omega, Nat.le_refl _, rfl⟩
theorem leap_le (m i p : Nat) : (leap m i p).1 ≤ m := Nat.le_of_lt_succ (Nat.mod_lt _ (Nat.succ_pos _))
theorem adv_ok {m : Nat} {p : Probe} (h : POk m p) : POk m (adv m p) := by
  obtain ⟨h1, h2, h3, h4, h5⟩ := h
  unfold adv
  by_cases c : p.more > 0
  · rw [if_pos c]
    exact ⟨h1, h2, by simp only; omega, by simp only; omega, h5⟩
  · rw [if_neg c]
    have hi := leap_le m p.i p.perturb
    have := runEnd_le hi
    refine ⟨hi, ?_, by simp only; omega, Nat.le_refl _, h5⟩
    exact Nat.lt_of_le_of_lt (Nat.div_le_self _ _) h2
theorem advN_ok {m : Nat} : ∀ (k : Nat) {p : Probe}, POk m p → POk m (advN m k p)
  | 0, _, h => h
  | k + 1, _, h => advN_ok k (adv_ok h)
theorem j_le {m : Nat} {p : Probe} (h : POk m p) : p.j ≤ m := by
  have := (runEnd_le h.i).1
  have := h.j
  omega
/-- to the beginning of the next run -/
theorem to_leap {m : Nat} : ∀ (n : Nat) {p : Probe}, POk m p → p.more = n → ∃ k, k = n + 1 ∧ (advN m k p).i = (leap m p.i p.perturb).1 ∧ (advN m k p).perturb = (leap m p.i p.perturb).2 ∧ (advN m k p).j = (leap m p.i p.perturb).1 ∧ ∀ l, l ≤ n → (advN m l p).j = p.j + l
  | 0, p, h, hn => by
    refine ⟨1, rfl, ?_⟩
    have e : adv m p = { p with j := (leap m p.i p.perturb).1, more := runEnd m (leap m p.i p.perturb).1 - (leap m p.i p.perturb).1, i := (leap m p.i p.perturb).1, perturb := (leap m p.i p.perturb).2 } := by
      unfold adv
      rw [if_neg (by omega)]
    show (adv m p).i = _ ∧ (adv m p).perturb = _ ∧ (adv m p).j = _ ∧ _
    rw [e]
    refine ⟨rfl, rfl, rfl, fun l hl => ?_⟩
    have : l = 0 := by omega
    subst this
    rfl
  | n + 1, p, h, hn => by
    have e : adv m p = { p with j := p.j + 1, more := p.more - 1 } := by
      unfold adv
      rw [if_pos (by omega)]
    obtain ⟨k, hk, a1, a2, a3, a4⟩ := to_leap n (p := adv m p) (adv_ok h) (by rw [e]; simp only; omega)
    refine ⟨k + 1, by omega, ?_, ?_, ?_, fun l hl => ?_⟩
    · show (advN m k (adv m p)).i = _
      rw [a1, e]
    · show (advN m k (adv m p)).perturb = _
      rw [a2, e]
    · show (advN m k (adv m p)).j = _
      rw [a3, e]
    · cases l with
      | zero => rfl
      | succ l =>
        show (advN m l (adv m p)).j = _
        rw [a4 l (by omega), e]
        simp only
        omega
def leapN (m : Nat) : Nat → Nat × Nat → Nat × Nat
  | 0, q => q
  | k + 1, q => leapN m k (leap m q.1 q.2)
theorem more_le {m : Nat} {p : Probe} (h : POk m p) : p.more ≤ 9 := by
  have := runEnd_le h.i
  have := h.j
  have := h.ij
  omega
theorem to_leapN {m : Nat} : ∀ (n : Nat) {p : Probe}, POk m p → ∃ k, k ≤ 10 * (n + 1) ∧ (advN m k p).j = (leapN m (n + 1) (p.i, p.perturb)).1 ∧ (advN m k p).i = (leapN m (n + 1) (p.i, p.perturb)).1 ∧ (advN m k p).perturb = (leapN m (n + 1) (p.i, p.perturb)).2
  | 0, p, h => by
    obtain ⟨k, hk, a1, a2, a3, _⟩ := to_leap p.more h rfl
    have := more_le h
    exact ⟨k, by omega, a3, a1, a2⟩
  | n + 1, p, h => by
    obtain ⟨k, hk, a1, a2, a3, _⟩ := to_leap p.more h rfl
    have := more_le h
    obtain ⟨k2, hk2, b1, b2, b3⟩ := to_leapN n (p := advN m k p) (advN_ok k h)
    rw [a1, a2] at b1 b2 b3
    refine ⟨k + k2, by omega, ?_, ?_, ?_⟩
    · rw [advN_add]; exact b1
    · rw [advN_add]; exact b2
    · rw [advN_add]; exact b3
theorem leapN_add (m : Nat) : ∀ (a b : Nat) (q : Nat × Nat), leapN m (a + b) q = leapN m b (leapN m a q)
  | 0, b, q => by rw [Nat.zero_add]; rfl
  | a + 1, b, q => by
    rw [Nat.add_right_comm]
    exact leapN_add m a b _
theorem leapN_per (m : Nat) : ∀ (a : Nat) (q : Nat × Nat), (leapN m a q).2 = q.2 / 32 ^ a
  | 0, q => by simp [leapN]
  | a + 1, q => by
    show (leapN m a (leap m q.1 q.2)).2 = _
    rw [leapN_per m a]
    show q.2 / 32 / 32 ^ a = _
    rw [Nat.div_div_eq_div_mul, Nat.pow_succ, Nat.mul_comm]
theorem leapN_le (m : Nat) : ∀ (a : Nat) (q : Nat × Nat), q.1 ≤ m → (leapN m a q).1 ≤ m
  | 0, _, h => h
  | a + 1, q, h => leapN_le m a _ (leap_le m _ _)
def cyc (m : Nat) : Nat → Nat → Nat
  | 0, i => i
  | k + 1, i => cyc m k ((i * 5 + 1) % (m + 1))
theorem leapN_zero (m : Nat) : ∀ (a i : Nat), (leapN m a (i, 0)).1 = cyc m a i
  | 0, _ => rfl
  | a + 1, i => by
    show (leapN m a (leap m i 0)).1 = cyc m a ((i * 5 + 1) % (m + 1))
    rw [← leapN_zero m a]
    rfl
theorem cyc7 : ∀ i, i < 8 → ∀ e, e < 8 → ∃ k, k < 8 ∧ cyc 7 k i = e := by decide +kernel
theorem cyc31 : ∀ i, i < 32 → ∀ e, e < 32 → ∃ k, k < 32 ∧ cyc 31 k i = e := by decide +kernel
theorem meets_all {m : Nat} (hm : m = 7 ∨ m = 31) {p : Probe} (h : POk m p) {e : Nat} (he : e ≤ m) : (∃ n, 13 ≤ n + 1 ∧ n + 1 ≤ m + 13 ∧ (leapN m (n + 1) (p.i, p.perturb)).1 = e) := by
  have e0 : leapN m 13 (p.i, p.perturb) = ((leapN m 13 (p.i, p.perturb)).1, 0) := by
    refine Prod.ext rfl ?_
    rw [leapN_per]
    show p.perturb / 32 ^ 13 = 0
    have := h.per
    exact Nat.div_eq_of_lt (Nat.lt_of_lt_of_le this (by decide))
  have hl := leapN_le m 13 (p.i, p.perturb) h.i
  have key : ∃ k, k < m + 1 ∧ cyc m k (leapN m 13 (p.i, p.perturb)).1 = e := by
    rcases hm with rfl | rfl
    · exact cyc7 _ (by omega) _ (by omega)
    · exact cyc31 _ (by omega) _ (by omega)
  obtain ⟨k, hk, ek⟩ := key
  refine ⟨12 + k, by omega, by omega, ?_⟩
  rw [show 12 + k + 1 = 13 + k by omega, leapN_add, e0, leapN_zero]
  exact ek
theorem meets_steps {m : Nat} (hm : m = 7 ∨ m = 31) {p : Probe} (h : POk m p) {e : Nat} (he : e ≤ m) : ∃ k, k < 10 * turns m ∧ (advN m k p).j = e := by
  obtain ⟨n, h1, h2, h3⟩ := meets_all hm h he
  obtain ⟨k, hk, a1, _⟩ := to_leapN n h
  refine ⟨k, ?_, by rw [a1, h3]⟩
  unfold turns
  omega
/-! ### what a probe meets -/
theorem go_none {t : SetTable} (T : Tab t) (hashAt : Nat → Int) (h : Int) : ∀ (k fuel : Nat) (p : Probe), k < fuel → occ t (advN t.mask k p).j = false → ∃ r, probe.go t hashAt h fuel p = some r
  | 0, 0, _, hk, _ => absurd hk (by omega)
  | _ + 1, 0, _, hk, _ => absurd hk (by omega)
  | 0, fuel + 1, p, _, ho => by
    rcases slot_inv T p.j with ⟨i, hi, _⟩ | ⟨_, hs⟩
    · have : occ t p.j = true := occ_iff.mpr ⟨i, hi⟩
      rw [show (advN t.mask 0 p).j = p.j from rfl, this] at ho
      cases ho
    · exact ⟨.empty p.j p.dummy, by unfold probe.go; rw [hs]⟩
  | k + 1, fuel + 1, p, hk, ho => by
    rcases slot_inv T p.j with ⟨i, hi, hs⟩ | ⟨_, hs⟩
    · by_cases c : (hashAt i == h) = true
      · exact ⟨.candidate p.j i (t.advance p), by unfold probe.go; rw [hs]; simp only [c, if_true]⟩
      · obtain ⟨r, hr⟩ := go_none T hashAt h k fuel (adv t.mask p) (by omega) ho
        refine ⟨r, ?_⟩
        unfold probe.go
        rw [hs]
        simp only [c, if_false, Bool.false_eq_true]
        exact hr
    · exact ⟨.empty p.j p.dummy, by unfold probe.go; rw [hs]⟩
theorem go_says {t : SetTable} (T : Tab t) (hashAt : Nat → Int) (h : Int) : ∀ (fuel : Nat) (p : Probe) (r : Met), p.dummy = none → probe.go t hashAt h fuel p = some r →
    ∃ k, (∀ l, l < k → ∃ i, t.place[i]? = some (advN t.mask l p).j ∧ hashAt i ≠ h) ∧
      ((r = .empty (advN t.mask k p).j none ∧ occ t (advN t.mask k p).j = false) ∨ ∃ i, t.place[i]? = some (advN t.mask k p).j ∧ hashAt i = h ∧ r = .candidate (advN t.mask k p).j i (advN t.mask (k + 1) p))
  | 0, p, r, _, e => by cases e
  | fuel + 1, p, r, hd, e => by
    unfold probe.go at e
    rcases slot_inv T p.j with ⟨i, hi, hs⟩ | ⟨ho, hs⟩
    · rw [hs] at e
      by_cases c : (hashAt i == h) = true
      · simp only [c, if_true] at e
        have e' := Option.some.inj e
        exact ⟨0, fun l hl => absurd hl (by omega), .inr ⟨i, hi, by simpa using c, e'.symm⟩⟩
      · simp only [c, if_false, Bool.false_eq_true] at e
        have hd' : (adv t.mask p).dummy = none := by
          unfold adv
          split <;> exact hd
        obtain ⟨k, h1, h2⟩ := go_says T hashAt h fuel (adv t.mask p) r hd' e
        refine ⟨k + 1, fun l hl => ?_, h2⟩
        cases l with
        | zero => exact ⟨i, hi, by simpa using c⟩
        | succ l => exact h1 l (by omega)
    · rw [hs] at e
      have e' := Option.some.inj e
      exact ⟨0, fun l hl => absurd hl (by omega), .inl ⟨by rw [← e', hd]; rfl, ho⟩⟩
theorem probe_says {t : SetTable} (T : Tab t) (hashAt : Nat → Int) (h : Int) {p : Probe} (hp : POk t.mask p) :
    ∃ r k, t.probe hashAt h p = some r ∧ (∀ l, l < k → ∃ i, t.place[i]? = some (advN t.mask l p).j ∧ hashAt i ≠ h) ∧
      ((r = .empty (advN t.mask k p).j none ∧ occ t (advN t.mask k p).j = false) ∨ ∃ i, t.place[i]? = some (advN t.mask k p).j ∧ hashAt i = h ∧ r = .candidate (advN t.mask k p).j i (advN t.mask (k + 1) p)) := by
  obtain ⟨e, he, ho⟩ := free_some T
  obtain ⟨k, hk, ek⟩ := meets_steps T.mask hp he
  obtain ⟨r, hr⟩ := go_none T hashAt h k _ p hk (by rw [ek]; exact ho)
  obtain ⟨k2, h1, h2⟩ := go_says T hashAt h _ p r hp.dum hr
  exact ⟨r, k2, hr, h1, h2⟩
end TB

namespace TB
open PySem PySem.SetTable
def Path (oc : Nat → Bool) (m : Nat) (h : Int) (j : Nat) : Prop := ∃ k, (advN m k (start m h)).j = j ∧ ∀ l, l < k → oc (advN m l (start m h)).j = true
theorem Path.mono {oc oc' : Nat → Bool} {m : Nat} {h : Int} {j : Nat} (hp : Path oc m h j) (f : ∀ e, oc e = true → oc' e = true) : Path oc' m h j := by
  obtain ⟨k, h1, h2⟩ := hp
  exact ⟨k, h1, fun l hl => f _ (h2 l hl)⟩
theorem freeSlot_says {t : SetTable} (T : Tab t) (h : Int) : ∃ j, t.freeSlot h = some (j, false) ∧ occ t j = false ∧ j ≤ t.mask ∧ Path (occ t) t.mask h j := by
  obtain ⟨r, k, hr, h1, h2⟩ := probe_says T (fun _ => h + 1) h (start_ok t.mask h)
  have hne : h + 1 ≠ h := by omega
  rcases h2 with ⟨rfl, ho⟩ | ⟨i, _, e, _⟩
  · refine ⟨(advN t.mask k (start t.mask h)).j, ?_, ho, j_le (advN_ok k (start_ok _ h)), k, rfl, fun l hl => ?_⟩
    · unfold freeSlot
      rw [start_eq, hr]
      rfl
    · obtain ⟨i, hi, _⟩ := h1 l hl
      exact occ_iff.mpr ⟨i, hi⟩
  · exact absurd e hne
/-! ### putting one more in -/
theorem ins_get {α : Type} (xs : Array α) {p : Nat} (hp : p ≤ xs.size) (x : α) (i : Nat) : (insertAt xs p x)[i]? = if i < p then xs[i]? else if i = p then some x else xs[i - 1]? := by
  rw [← Array.getElem?_toList, SetTable.toList_insertAt]
  have hl : (xs.toList.take p).length = p := by rw [List.length_take, Array.length_toList]; omega
  by_cases h : i < p
  · rw [if_pos h]
    simp [h, List.getElem?_append, hl, List.getElem?_take]
    try omega
  · rw [if_neg h]
    by_cases e : i = p
    · subst e
      rw [if_pos rfl]
      simp [List.getElem?_append, hl]
      try omega
    · rw [if_neg e]
      have e1 : i - p = (i - 1 - p) + 1 := by omega
      simp [List.getElem?_append, hl, h, e1]
      try (congr 1; omega)
theorem ins_size {α : Type} (xs : Array α) {p : Nat} (hp : p ≤ xs.size) (x : α) : (insertAt xs p x).size = xs.size + 1 := by
  have := (SetTable.insertAt_perm xs p x).length_eq
  simpa using this
theorem up_iff {xs : Array Nat} : Up xs ↔ ∀ i k a b : Nat, i < k → xs[i]? = some a → xs[k]? = some b → a < b := by
  constructor
  · intro u i k a b hik ha hb
    obtain ⟨hi, ea⟩ := Array.getElem?_eq_some_iff.mp ha
    obtain ⟨hk, eb⟩ := Array.getElem?_eq_some_iff.mp hb
    have := u i k hik hk
    simp [Array.getD, hi, hk, ea, eb] at this
    exact this
  · intro f i k hik hk
    have hi : i < xs.size := by omega
    have := f i k xs[i] xs[k] hik (Array.getElem?_eq_getElem hi) (Array.getElem?_eq_getElem hk)
    simp [Array.getD, hi, hk]
    exact this
theorem getD_some {xs : Array Nat} {i a : Nat} (h : xs[i]? = some a) : xs.getD i 0 = a ∧ i < xs.size := by
  obtain ⟨hi, ea⟩ := Array.getElem?_eq_some_iff.mp h
  exact ⟨by simp [Array.getD, hi, ea], hi⟩
theorem up_ins {t : SetTable} (T : Tab t) {j : Nat} (ho : occ t j = false) : Up (insertAt t.place (below t.place j) j) := by
  obtain ⟨b1, b2, b3⟩ := below_spec T.up j
  have hlt : ∀ i a : Nat, t.place[i]? = some a → (i < below t.place j → a < j) ∧ (below t.place j ≤ i → j < a) := fun i a ha => by
    obtain ⟨e, hi⟩ := getD_some ha
    refine ⟨fun c => by have := b2 i c; omega, fun c => ?_⟩
    have := b3 i c hi
    have hne : a ≠ j := fun z => by
      have := occ_iff.mpr ⟨i, z ▸ ha⟩
      rw [ho] at this
      cases this
    omega
  have u := up_iff.mp T.up
  refine up_iff.mpr fun i k a b hik ha hb => ?_
  rw [ins_get _ b1] at ha hb
  by_cases c1 : i < below t.place j
  · rw [if_pos c1] at ha
    by_cases c2 : k < below t.place j
    · rw [if_pos c2] at hb
      exact u i k a b hik ha hb
    · rw [if_neg c2] at hb
      by_cases c3 : k = below t.place j
      · rw [if_pos c3] at hb
        have := Option.some.inj hb
        have := (hlt i a ha).1 c1
        omega
      · rw [if_neg c3] at hb
        exact u i (k - 1) a b (by omega) ha hb
  · rw [if_neg c1] at ha
    have c2 : ¬ k < below t.place j := by omega
    rw [if_neg c2] at hb
    have c3 : ¬ k = below t.place j := by omega
    rw [if_neg c3] at hb
    by_cases c4 : i = below t.place j
    · rw [if_pos c4] at ha
      have := Option.some.inj ha
      have := (hlt (k - 1) b hb).2 (by omega)
      omega
    · rw [if_neg c4] at ha
      exact u (i - 1) (k - 1) a b (by omega) ha hb
theorem put_tab {t : SetTable} (T : Tab t) {j : Nat} (ho : occ t j = false) (hj : j ≤ t.mask) (hr : t.place.size + 1 ≤ t.mask) :
    t.put j = ({ t with place := insertAt t.place (below t.place j) j }, below t.place j) ∧ Tab { t with place := insertAt t.place (below t.place j) j } ∧ (∀ e, occ { t with place := insertAt t.place (below t.place j) j } e = true ↔ occ t e = true ∨ e = j) := by
  obtain ⟨b1, b2, b3⟩ := below_spec T.up j
  have hmem : ∀ e, e ∈ insertAt t.place (below t.place j) j ↔ e ∈ t.place ∨ e = j := fun e => by
    rw [← Array.mem_toList_iff, (SetTable.insertAt_perm t.place _ j).mem_iff]
    simp
  refine ⟨?_, ⟨T.mask, T.dum, up_ins T ho, fun e he => ?_, ?_⟩, fun e => ?_⟩
  · unfold put
    simp only [T.dum, has_nil, if_false, Bool.false_eq_true]
  · rcases (hmem e).mp he with w | rfl
    · exact T.le e w
    · exact hj
  · show (insertAt t.place (below t.place j) j).size ≤ t.mask
    rw [ins_size _ b1]
    exact hr
  · unfold occ
    rw [Array.contains_iff_mem, Array.contains_iff_mem]
    exact hmem e
/-! ### laying all anew in a greater table -/
theorem perm_nodup : ∀ (l1 l2 : List Nat), l1.Nodup → l2.Nodup → (∀ x, x ∈ l1 ↔ x ∈ l2) → l1.Perm l2
  | [], l2, _, _, h => by
    cases l2 with
    | nil => exact .nil
    | cons a l => exact absurd ((h a).mpr List.mem_cons_self) (by simp)
  | a :: l1, l2, h1, h2, h => by
    have ha : a ∈ l2 := (h a).mp List.mem_cons_self
    refine List.Perm.trans (.cons a ?_) (List.perm_cons_erase ha).symm
    obtain ⟨n1, n2⟩ := List.nodup_cons.mp h1
    refine perm_nodup l1 (l2.erase a) n2 (h2.erase a) fun x => ?_
    rw [h2.mem_erase_iff]
    constructor
    · intro hx
      exact ⟨fun z => n1 (z ▸ hx), (h x).mp (List.mem_cons_of_mem _ hx)⟩
    · rintro ⟨z, hx⟩
      rcases List.mem_cons.mp ((h x).mpr hx) with e | e
      · exact absurd e z
      · exact e
structure Own (m : Nat) (owner : Array (Option Nat)) (js : List Nat) (hs : List Int) : Prop where
  size : owner.size = m + 1
  len : js.length = hs.length
  le : ∀ j ∈ js, j ≤ m
  at_ : ∀ j q : Nat, owner[j]? = some (some q) ↔ js[q]? = some j
  path : ∀ (q : Nat) (h : Int) (j : Nat), hs[q]? = some h → js[q]? = some j → Path (fun e => js.contains e) m h j
theorem Own.none_iff {m : Nat} {owner : Array (Option Nat)} {js : List Nat} {hs : List Int} (O : Own m owner js hs) {e : Nat} (he : e ≤ m) : (owner.getD e (some 0)).isNone = true ↔ js.contains e = false := by
  have hlt : e < owner.size := by rw [O.size]; omega
  have e1 : owner.getD e (some 0) = owner[e] := by simp [Array.getD, hlt]
  have e2 : owner[e]? = some owner[e] := Array.getElem?_eq_getElem hlt
  rw [e1]
  cases c : owner[e] with
  | none =>
    rw [c] at e2
    simp only [Option.isNone_none, true_iff]
    cases d : js.contains e with
    | false => rfl
    | true =>
      obtain ⟨q, hq⟩ := List.mem_iff_getElem?.mp (List.contains_iff_mem.mp d)
      have := (O.at_ e q).mpr hq
      rw [e2] at this
      cases this
  | some q =>
    rw [c] at e2
    have := (O.at_ e q).mp e2
    have h9 : js.contains e = true := List.contains_iff_mem.mpr (List.mem_of_getElem? this)
    rw [h9]
    simp
structure Run (m : Nat) (p : Probe) : Prop where
  ok : POk m p
  ij : p.j = p.i
theorem run_next {m : Nat} {p : Probe} (R : Run m p) : ∃ k, k = runEnd m p.i + 1 - p.i ∧ Run m (advN m k p) ∧ (advN m k p).i = (leap m p.i p.perturb).1 ∧ (advN m k p).perturb = (leap m p.i p.perturb).2 ∧ ∀ l, l < k → (advN m l p).j = p.i + l := by
  obtain ⟨k, hk, a1, a2, a3, a4⟩ := to_leap p.more R.ok rfl
  have h3 := R.ok.j
  have h4 := R.ij
  have := runEnd_le R.ok.i
  refine ⟨k, by omega, ⟨advN_ok k R.ok, by rw [a3, a1]⟩, a1, a2, fun l hl => ?_⟩
  rw [a4 l (by omega), h4]
theorem free_says {m : Nat} {owner : Array (Option Nat)} {js : List Nat} {hs : List Int} (O : Own m owner js hs) : ∀ (f : Nat) (p : Probe) (j : Nat), Run m p → layClean.free m owner f p.i p.perturb = some j →
    ∃ k, (advN m k p).j = j ∧ js.contains j = false ∧ j ≤ m ∧ ∀ l, l < k → js.contains (advN m l p).j = true
  | 0, p, j, _, e => by cases e
  | f + 1, p, j, R, e => by
    unfold layClean.free at e
    have hr := runEnd_le R.ok.i
    obtain ⟨k0, hk0, R2, a1, a2, a3⟩ := run_next R
    cases c : (List.range (runEnd m p.i + 1 - p.i)).find? (fun k => (owner.getD (p.i + k) (some 0)).isNone) with
    | some k =>
      rw [c] at e
      have e' : p.i + k = j := Option.some.inj e
      obtain ⟨c1, c2, c3⟩ := List.find?_range_eq_some.mp c
      have c2' : k < runEnd m p.i + 1 - p.i := List.mem_range.mp c2
      refine ⟨k, by rw [a3 k (by omega), e'], ?_, by omega, fun l hl => ?_⟩
      · rw [← e']
        exact (O.none_iff (by omega)).mp c1
      · rw [a3 l (by omega)]
        have h8 := c3 l hl
        cases d : js.contains (p.i + l) with
        | true => rfl
        | false =>
          have h9 := (O.none_iff (e := p.i + l) (by omega)).mpr d
          rw [h9] at h8
          exact absurd h8 (by decide)
    | none =>
      rw [c] at e
      have e' : layClean.free m owner f (leap m p.i p.perturb).1 (leap m p.i p.perturb).2 = some j := e
      rw [← a1, ← a2] at e'
      obtain ⟨k, h1, h2, h3, h4⟩ := free_says O f (advN m k0 p) j R2 e'
      refine ⟨k0 + k, by rw [advN_add]; exact h1, h2, h3, fun l hl => ?_⟩
      rcases Nat.lt_or_ge l k0 with g | g
      · rw [a3 l g]
        have := List.find?_eq_none.mp c l (List.mem_range.mpr (by omega))
        cases d : js.contains (p.i + l) with
        | true => rfl
        | false => exact absurd ((O.none_iff (e := p.i + l) (by omega)).mpr d) this
      · have := h4 (l - k0) (by omega)
        rw [← advN_add, show k0 + (l - k0) = l by omega] at this
        exact this
theorem free_is {m : Nat} {owner : Array (Option Nat)} {js : List Nat} {hs : List Int} (O : Own m owner js hs) {e : Nat} (hm : e ≤ m) (he : js.contains e = false) : ∀ (n f i per : Nat), i ≤ m → n < f → (leapN m n (i, per)).1 = e → ∃ j, layClean.free m owner f i per = some j
  | n, 0, _, _, _, hn, _ => absurd hn (by omega)
  | n, f + 1, i, per, hi, hn, hl => by
    unfold layClean.free
    have hr := runEnd_le hi
    cases c : (List.range (runEnd m i + 1 - i)).find? (fun k => (owner.getD (i + k) (some 0)).isNone) with
    | some k => exact ⟨i + k, rfl⟩
    | none =>
      cases n with
      | zero =>
        have e0 : i = e := hl
        have := List.find?_eq_none.mp c 0 (List.mem_range.mpr (by omega))
        rw [Nat.add_zero, e0] at this
        exact absurd ((O.none_iff hm).mpr he) this
      | succ n => exact free_is O hm he n f _ _ (leap_le m i per) (by omega) hl
def layStep (m : Nat) (acc : Option (Array (Option Nat) × Nat)) (h : Int) : Option (Array (Option Nat) × Nat) := do
  let (owner, k) ← acc
  let j ← layClean.free m owner (turns m) (bits h % (m + 1)) (bits h)
  pure (owner.setIfInBounds j (some k), k + 1)
theorem start_run (m : Nat) (h : Int) : Run m (start m h) := ⟨start_ok m h, rfl⟩
theorem own_step {m : Nat} (hm : m = 7 ∨ m = 31) {owner : Array (Option Nat)} {js : List Nat} {hs : List Int} (O : Own m owner js hs) (h : Int) (hr : js.length ≤ m) :
    ∃ owner' js', layStep m (some (owner, hs.length)) h = some (owner', (hs ++ [h]).length) ∧ Own m owner' js' (hs ++ [h]) := by
  obtain ⟨e, he, ho⟩ : ∃ e, e ≤ m ∧ js.contains e = false := by
    by_cases c : ∃ e, e ≤ m ∧ js.contains e = false
    · exact c
    · exfalso
      have := free_list (m + 1) js fun e he => by
        cases d : js.contains e with
        | true => exact List.contains_iff_mem.mp d
        | false => exact absurd ⟨e, by omega, d⟩ c
      omega
  obtain ⟨n, n1, n2, n3⟩ := meets_all hm (start_ok m h) he
  obtain ⟨j, hj⟩ := free_is O he ho (n + 1) (turns m) (bits h % (m + 1)) (bits h) (start_ok m h).i (by unfold turns; omega) n3
  obtain ⟨k, h1, h2, h3, h4⟩ := free_says O (turns m) (start m h) j (start_run m h) hj
  have hjl : j < owner.size := by rw [O.size]; omega
  have hnj : ∀ q : Nat, ¬ owner[j]? = some (some q) := fun q z => by
    have := List.contains_iff_mem.mpr (List.mem_of_getElem? ((O.at_ j q).mp z))
    rw [h2] at this
    cases this
  refine ⟨owner.setIfInBounds j (some hs.length), js ++ [j], ?_, ⟨?_, ?_, ?_, ?_, ?_⟩⟩
  · unfold layStep
    show (do
      let j ← layClean.free m owner (turns m) (bits h % (m + 1)) (bits h)
      pure (owner.setIfInBounds j (some hs.length), hs.length + 1)) = _
    rw [hj, List.length_append]
    rfl
  · rw [Array.size_setIfInBounds]
    exact O.size
  · rw [List.length_append, List.length_append, O.len]
    rfl
  · intro a ha
    rcases List.mem_append.mp ha with w | w
    · exact O.le a w
    · rw [List.mem_singleton.mp w]
      exact h3
  · intro a q
    rw [Array.getElem?_setIfInBounds]
    by_cases c : j = a
    · subst c
      rw [if_pos rfl, if_pos hjl]
      constructor
      · intro z
        have : hs.length = q := by simpa using z
        subst this
        rw [← O.len, List.getElem?_append_right (Nat.le_refl _), Nat.sub_self]
        rfl
      · intro z
        rcases Nat.lt_trichotomy q js.length with g | g | g
        · rw [List.getElem?_append_left g] at z
          exact absurd ((O.at_ j q).mpr z) (hnj q)
        · rw [g, O.len]
        · rw [List.getElem?_eq_none (by rw [List.length_append, List.length_singleton]; omega)] at z
          cases z
    · rw [if_neg c, O.at_]
      constructor
      · intro z
        have : q < js.length := (List.getElem?_eq_some_iff.mp z).1
        rw [List.getElem?_append_left this]
        exact z
      · intro z
        rcases Nat.lt_trichotomy q js.length with g | g | g
        · rw [List.getElem?_append_left g] at z
          exact z
        · rw [g, List.getElem?_append_right (Nat.le_refl _), Nat.sub_self] at z
          have : j = a := by simpa using z
          exact absurd this c
        · rw [List.getElem?_eq_none (by rw [List.length_append, List.length_singleton]; omega)] at z
          cases z
  · have up : ∀ e, js.contains e = true → (js ++ [j]).contains e = true := fun e he => by
      rw [List.contains_iff_mem] at he ⊢
      exact List.mem_append_left _ he
    intro q h' a hh ha
    rcases Nat.lt_trichotomy q js.length with g | g | g
    · rw [List.getElem?_append_left g] at ha
      rw [List.getElem?_append_left (by rw [← O.len]; exact g)] at hh
      exact (O.path q h' a hh ha).mono up
    · rw [g, List.getElem?_append_right (Nat.le_refl _), Nat.sub_self] at ha
      rw [g, O.len, List.getElem?_append_right (Nat.le_refl _), Nat.sub_self] at hh
      have e1 : j = a := by simpa using ha
      have e2 : h = h' := by simpa using hh
      subst e1 e2
      exact ⟨k, h1, fun l hl => up _ (h4 l hl)⟩
    · rw [List.getElem?_eq_none (by rw [List.length_append, List.length_singleton]; omega)] at ha
      cases ha
theorem own_fold {m : Nat} (hm : m = 7 ∨ m = 31) : ∀ (hs2 hs : List Int) (owner : Array (Option Nat)) (js : List Nat), Own m owner js hs → hs.length + hs2.length ≤ m + 1 →
    ∃ owner' js', hs2.foldl (layStep m) (some (owner, hs.length)) = some (owner', (hs ++ hs2).length) ∧ Own m owner' js' (hs ++ hs2)
  | [], hs, owner, js, O, _ => ⟨owner, js, by rw [List.append_nil]; rfl, by rw [List.append_nil]; exact O⟩
  | h :: r, hs, owner, js, O, hl => by
    obtain ⟨o1, j1, e1, O1⟩ := own_step hm O h (by rw [O.len]; simp at hl; omega)
    obtain ⟨o2, j2, e2, O2⟩ := own_fold hm r (hs ++ [h]) o1 j1 O1 (by simp at hl ⊢; omega)
    refine ⟨o2, j2, ?_, ?_⟩
    · rw [List.foldl_cons, e1, e2]
      simp
    · rw [show hs ++ h :: r = hs ++ [h] ++ r by simp]
      exact O2
theorem own_nil (m : Nat) : Own m (Array.replicate (m + 1) none) [] [] where
  size := by simp
  len := rfl
  le := fun _ h => nomatch h
  at_ := fun j q => by
    simp [Array.getElem?_replicate]
  path := fun q h j hh => by simp at hh
theorem clean_says {m : Nat} (hm : m = 7 ∨ m = 31) (hashes : Array Int) (hl : hashes.size ≤ m + 1) : ∃ owner js, layClean m hashes = some owner ∧ Own m owner js hashes.toList := by
  obtain ⟨o, j, e, O⟩ := own_fold hm hashes.toList [] _ [] (own_nil m) (by simpa using hl)
  refine ⟨o, j, ?_, by simpa using O⟩
  unfold layClean
  rw [← Array.foldl_toList]
  show Option.map _ (hashes.toList.foldl (layStep m) (some (Array.replicate (m + 1) none, ([] : List Int).length))) = _
  rw [e]
  rfl
end TB

namespace TB
open PySem PySem.SetTable
theorem laid_says {m : Nat} (hm : m = 7 ∨ m = 31) (finger moves : Nat) (led plain : Bool) (hashes : Array Int) (hl : hashes.size ≤ m) :
    ∃ t' order, laid m finger moves led plain hashes = some (t', order) ∧ t'.mask = m ∧ t'.led = led ∧ t'.plain = plain ∧ Tab t' ∧ t'.place.size = hashes.size ∧ order.toList.Perm (List.range hashes.size) ∧
      ∀ (i q j : Nat) (h : Int), order[i]? = some q → t'.place[i]? = some j → hashes[q]? = some h → Path (occ t') m h j := by
  obtain ⟨owner, js, e, O⟩ := clean_says hm hashes (by omega)
  have hjl : js.length = hashes.size := by rw [O.len]; simp
  let f : Nat → Option (Nat × Nat) := fun j => (owner.getD j none).map (j, ·)
  let L : List (Nat × Nat) := (List.range (m + 1)).filterMap f
  have hf : ∀ j b, f j = some b ↔ j = b.1 ∧ owner[j]? = some (some b.2) := fun j b => by
    show (owner.getD j none).map (j, ·) = some b ↔ _
    have e1 : owner.getD j none = (owner[j]?).getD none := by simp [Array.getD_eq_getD_getElem?]
    rw [e1]
    cases c : owner[j]? with
    | none => simp
    | some o =>
      cases o with
      | none => simp
      | some q =>
        simp
        constructor
        · rintro rfl
          exact ⟨rfl, rfl⟩
        · rintro ⟨a, b'⟩
          exact Prod.ext a b'
  have mem : ∀ b : Nat × Nat, b ∈ L ↔ js[b.2]? = some b.1 := fun b => by
    show b ∈ (List.range (m + 1)).filterMap f ↔ _
    rw [List.mem_filterMap]
    constructor
    · rintro ⟨j, _, hj⟩
      obtain ⟨rfl, h2⟩ := (hf j b).mp hj
      exact (O.at_ _ _).mp h2
    · intro h
      have hj := O.le b.1 (List.mem_of_getElem? h)
      exact ⟨b.1, List.mem_range.mpr (by omega), (hf b.1 b).mpr ⟨rfl, (O.at_ _ _).mpr h⟩⟩
  have pw : L.Pairwise (fun a b => a.1 < b.1) := by
    refine List.pairwise_filterMap.mpr (List.Pairwise.imp (fun {a b} hab x hx y hy => ?_) List.pairwise_lt_range)
    have e1 := ((hf a x).mp hx).1
    have e2 := ((hf b y).mp hy).1
    omega
  have nd : (L.map (·.2)).Nodup := by
    refine List.pairwise_map.mpr (List.Pairwise.imp_of_mem (fun {a b} ha hb hab => ?_) pw)
    intro z
    have h1 := (mem a).mp ha
    have h2 := (mem b).mp hb
    rw [z, h2] at h1
    have := Option.some.inj h1
    omega
  have pm : (L.map (·.2)).Perm (List.range hashes.size) := by
    refine perm_nodup _ _ nd List.nodup_range fun x => ?_
    rw [List.mem_map, List.mem_range]
    constructor
    · rintro ⟨b, hb, rfl⟩
      have := (List.getElem?_eq_some_iff.mp ((mem b).mp hb)).1
      omega
    · intro hx
      exact ⟨(js[x], x), (mem _).mpr (List.getElem?_eq_getElem (by omega)), rfl⟩
  have len : L.length = hashes.size := by
    have := pm.length_eq
    simpa using this
  have hoc : ∀ e, js.contains e = true → (L.map (·.1)).toArray.contains e = true := fun e he => by
    rw [List.contains_iff_mem] at he
    obtain ⟨q, hq⟩ := List.mem_iff_getElem?.mp he
    rw [Array.contains_iff_mem, List.mem_toArray, List.mem_map]
    exact ⟨(e, q), (mem _).mpr hq, rfl⟩
  refine ⟨{ mask := m, place := (L.map (·.1)).toArray, dummies := #[], finger, led, moves, plain }, (L.map (·.2)).toArray, ?_, rfl, rfl, rfl, ⟨hm, rfl, up_iff.mpr fun i k a b hik ha hb => ?_, fun j hj => ?_, ?_⟩, ?_, pm, fun i q j h hq hj hh => ?_⟩
  · unfold laid
    rw [e]
    rfl
  · simp only [List.getElem?_toArray, List.getElem?_map] at ha hb
    obtain ⟨x, hx, rfl⟩ := Option.map_eq_some_iff.mp ha
    obtain ⟨y, hy, rfl⟩ := Option.map_eq_some_iff.mp hb
    obtain ⟨h1, rfl⟩ := List.getElem?_eq_some_iff.mp hx
    obtain ⟨h2, rfl⟩ := List.getElem?_eq_some_iff.mp hy
    exact List.pairwise_iff_getElem.mp pw i k h1 h2 hik
  · simp only [List.mem_toArray, List.mem_map] at hj
    obtain ⟨b, hb, rfl⟩ := hj
    exact O.le _ (List.mem_of_getElem? ((mem b).mp hb))
  · simp only [List.size_toArray, List.length_map]
    omega
  · simp only [List.size_toArray, List.length_map]
    exact len
  · simp only [List.getElem?_toArray, List.getElem?_map] at hq hj
    obtain ⟨x, hx, rfl⟩ := Option.map_eq_some_iff.mp hq
    obtain ⟨y, hy, rfl⟩ := Option.map_eq_some_iff.mp hj
    rw [hx] at hy
    obtain rfl := Option.some.inj hy
    exact (O.path x.2 h x.1 (by rw [Array.getElem?_toList]; exact hh) ((mem x).mp (List.mem_of_getElem? hx))).mono hoc
/-! ### a table with the hashes of its entries -/
structure PT (t : SetTable) (hs : List Int) : Prop where
  tab : Tab t
  plain : t.plain = true
  len : t.place.size = hs.length
  reach : ∀ (i : Nat) (h : Int) (j : Nat), hs[i]? = some h → t.place[i]? = some j → Path (occ t) t.mask h j
structure TT (t : SetTable) (hs : List Int) : Prop extends PT t hs where
  small : t.mask = 7 → hs.length ≤ 4
  most : hs.length ≤ 18
theorem pt_fits {t : SetTable} {hs : List Int} (T : PT t hs) : t.fits hs.length = true := by
  unfold SetTable.fits
  have := T.tab.room
  have e : t.fill ≤ t.mask := by
    unfold fill
    rw [T.tab.dum]
    simpa using this
  simp [T.len, e]
theorem tt_fresh (led : Bool) : TT (.fresh 0 0 led) [] where
  tab := ⟨.inl rfl, rfl, fun i k hik hk => by simp [SetTable.fresh] at hk, fun j hj => by simp [SetTable.fresh] at hj, by simp [SetTable.fresh]⟩
  plain := rfl
  len := rfl
  reach := fun i h j hh => by simp at hh
  small := fun _ => by simp
  most := by simp
abbrev hsOf (es : Array (Int × Value)) : List Int := es.toList.map (·.1)
theorem hsOf_ins (es : Array (Int × Value)) {p : Nat} (hp : p ≤ es.size) (x : Int × Value) (i : Nat) : (hsOf (insertAt es p x))[i]? = if i < p then (hsOf es)[i]? else if i = p then some x.1 else (hsOf es)[i - 1]? := by
  unfold hsOf
  rw [List.getElem?_map, Array.getElem?_toList, ins_get es hp]
  by_cases c : i < p
  · simp [c]
  · by_cases d : i = p
    · simp [d]
    · simp [c, d]
theorem put_reach {t : SetTable} {es : Array (Int × Value)} (T : TT t (hsOf es)) (hn : es.size ≤ 17) {h : Int} {x : Value} {j : Nat} (ho : occ t j = false) (hj : j ≤ t.mask) (hp : Path (occ t) t.mask h j) :
    t.put j = ({ t with place := insertAt t.place (below t.place j) j }, below t.place j) ∧ PT { t with place := insertAt t.place (below t.place j) j } (hsOf (insertAt es (below t.place j) (h, x))) ∧ (insertAt es (below t.place j) (h, x)).size = es.size + 1 ∧ below t.place j ≤ es.size := by
  have hes : t.place.size = es.size := by rw [T.len]; simp
  obtain ⟨b1, b2, b3⟩ := below_spec T.tab.up j
  have hb : below t.place j ≤ es.size := by omega
  have hr : t.place.size + 1 ≤ t.mask := by
    rcases T.tab.mask with e | e
    · have := T.small e
      simp at this
      omega
    · omega
  obtain ⟨p1, p2, p3⟩ := put_tab T.tab ho hj hr
  have up : ∀ e, occ t e = true → occ { t with place := insertAt t.place (below t.place j) j } e = true := fun e he => (p3 e).mpr (.inl he)
  refine ⟨p1, ⟨p2, T.plain, ?_, fun i h' a hh ha => ?_⟩, ins_size _ hb _, hb⟩
  · show (insertAt t.place (below t.place j) j).size = _
    rw [ins_size _ b1, hes]
    simp [ins_size _ hb]
  · rw [hsOf_ins _ hb] at hh
    have ha' : (insertAt t.place (below t.place j) j)[i]? = some a := ha
    rw [ins_get _ b1] at ha'
    by_cases c : i < below t.place j
    · rw [if_pos c] at hh ha'
      exact (T.reach i h' a hh ha').mono up
    · rw [if_neg c] at hh ha'
      by_cases d : i = below t.place j
      · rw [if_pos d] at hh ha'
        cases hh
        cases ha'
        exact hp.mono up
      · rw [if_neg d] at hh ha'
        exact (T.reach (i - 1) h' a hh ha').mono up
theorem fm_len {α : Type} (es : Array α) : ∀ (l : List Nat), (∀ q ∈ l, q < es.size) → ∀ i : Nat, (l.filterMap fun q => es[q]?)[i]? = (l[i]?).bind fun q => es[q]?
  | [], _, i => by simp
  | q :: l, h, i => by
    have hq := h q List.mem_cons_self
    rw [List.filterMap_cons, Array.getElem?_eq_getElem hq]
    cases i with
    | zero => simp [hq]
    | succ i => simpa using fm_len es l (fun a ha => h a (List.mem_cons_of_mem _ ha)) i
theorem relay_says {t : SetTable} {es : Array (Int × Value)} (T : PT t (hsOf es)) (hn : es.size = 5) :
    ∃ t' order, t.relaid (es.map (·.1)) (grown es.size) = some (t', order) ∧ t'.led = t.led ∧ order.toList.Perm (List.range es.size) ∧ (order.filterMap (es[·]?)).toList.Perm es.toList ∧ (order.filterMap (es[·]?)).size = es.size ∧ TT t' (hsOf (order.filterMap (es[·]?))) := by
  have e31 : sizeAbove (grown es.size) - 1 = 31 := by rw [hn]; decide
  obtain ⟨t', order, e, a1, a2, a3, a4, a5, a6, a7⟩ := laid_says (m := 31) (.inr rfl) t.finger (t.movedTo 31) t.led t.plain (es.map (·.1)) (by simp; omega)
  rw [Array.size_map] at a5 a6
  have hin : ∀ q ∈ order.toList, q < es.size := fun q hq => List.mem_range.mp (a6.mem_iff.mp hq)
  have hget : ∀ i : Nat, (order.filterMap (es[·]?))[i]? = (order[i]?).bind fun q => es[q]? := fun i => by
    rw [← Array.getElem?_toList, Array.toList_filterMap, fm_len es _ hin, Array.getElem?_toList]
  have hperm : (order.filterMap (es[·]?)).toList.Perm es.toList := by
    rw [Array.toList_filterMap]
    refine (a6.filterMap _).trans ?_
    rw [filterMap_getElem?_range]
  have hsz : (order.filterMap (es[·]?)).size = es.size := by
    have := hperm.length_eq
    rwa [Array.length_toList, Array.length_toList] at this
  have hsl : (hsOf (order.filterMap (es[·]?))).length = es.size := by
    unfold hsOf
    rw [List.length_map, Array.length_toList, hsz]
  refine ⟨t', order, ?_, a2, a6, hperm, hsz, ⟨⟨a4, a3.trans T.plain, ?_, fun i h j hh hj => ?_⟩, fun z => ?_, ?_⟩⟩
  · unfold relaid
    rw [e31]
    exact e
  · rw [a5, hsl]
  · unfold hsOf at hh
    rw [List.getElem?_map, Array.getElem?_toList, hget] at hh
    cases c : order[i]? with
    | none => rw [c] at hh; cases hh
    | some q =>
      rw [c] at hh
      obtain ⟨v, hv, rfl⟩ := Option.map_eq_some_iff.mp hh
      rw [a1]
      refine a7 i q j v.1 c hj ?_
      rw [Array.getElem?_map]
      have : es[q]? = some v := hv
      rw [this]
      rfl
  · rw [a1] at z
    cases z
  · rw [hsl]
    omega
theorem not_full {t : SetTable} {hs : List Int} (T : PT t hs) (h : t.tooFull = false) (hl : hs.length ≤ 18) : TT t hs := by
  refine ⟨T, fun e => ?_, hl⟩
  unfold tooFull fill at h
  rw [T.tab.dum, T.len, e] at h
  simp at h
  omega
theorem is_full {t : SetTable} {hs : List Int} (T : PT t hs) (h : t.tooFull = true) (hl : hs.length ≤ 18) (h7 : t.mask = 7 → hs.length ≤ 5) : hs.length = 5 := by
  unfold tooFull fill at h
  rw [T.tab.dum, T.len] at h
  simp at h
  rcases T.tab.mask with e | e
  · rw [e] at h
    have := h7 e
    omega
  · rw [e] at h
    omega
end TB

/-! sets in the heap: their walk -/
namespace SW
open PySem PySem.SetTable TB
def byText (w : World) : Bool := w.params.followText "set-order"
def SetAt (w : World) (h : Heap) (S : Addr) (es : Array (Int × Value)) (ep : Nat) : Prop :=
  ∃ o t, h.get? S = some o ∧ o.ExactSet ∧ o.data = .set es ep t ∧ TT t (hsOf es) ∧ t.led = !byText w
theorem SetAt.typeIs {w : World} {s : Shared} {S : Addr} {es : Array (Int × Value)} {ep : Nat} (h : SetAt w s.heap S es ep) : s.TypeIs (.ref S) "set" := let ⟨o, _, ho, hc, _⟩ := h; ⟨o, ho, hc.1⟩
theorem SetAt.keep {w : World} {h h' : Heap} {S : Addr} {es : Array (Int × Value)} {ep : Nat} (x : SetAt w h S es ep) (k : ∀ o, h.get? S = some o → h'.get? S = some o) : SetAt w h' S es ep :=
  let ⟨o, t, ho, r⟩ := x; ⟨o, t, k o ho, r⟩
theorem SetAt.lt {w : World} {h : Heap} {S : Addr} {es : Array (Int × Value)} {ep : Nat} (x : SetAt w h S es ep) : S < h.objs.size := let ⟨_, _, ho, _⟩ := x; Heap.lt_size ho
theorem hs_len (es : Array (Int × Value)) : (hsOf es).length = es.size := by simp
theorem fits_of {t : SetTable} {es : Array (Int × Value)} (T : PT t (hsOf es)) : t.fits es.size = true := by
  have := pt_fits T
  rwa [hs_len] at this
/-! ### the order of a walk -/
theorem erase_perm {α : Type} : ∀ (l : List α) (i : Nat) (h : i < l.length), (l[i] :: l.eraseIdx i).Perm l
  | [], _, h => absurd h (by simp)
  | a :: l, 0, _ => by simp
  | a :: l, i + 1, h => by
    have z := erase_perm l i (by simpa using h)
    simp only [List.getElem_cons_succ, List.eraseIdx_cons_succ]
    exact (List.Perm.swap a _ _).trans (z.cons a)
theorem pick_perm {α : Type} (next : Nat → Nat) : ∀ (n k : Nat) (left : List α) (out : Array α), left.length = n → (pickOrder.go next n k left out).toList.Perm (out.toList ++ left)
  | 0, k, left, out, h => by
    have : left = [] := List.length_eq_zero_iff.mp h
    subst this
    unfold pickOrder.go
    simp
  | n + 1, k, left, out, h => by
    have hlt : next k % left.length < left.length := Nat.mod_lt _ (by omega)
    unfold pickOrder.go
    rw [List.getElem?_eq_getElem hlt]
    refine (pick_perm next n (k + 1) _ _ (by rw [List.length_eraseIdx_of_lt hlt]; omega)).trans ?_
    rw [Array.toList_push, List.append_assoc]
    refine List.Perm.append_left _ ?_
    exact erase_perm left _ hlt
def orderOf (w : World) (S : Addr) (es : Array (Int × Value)) (ep : Nat) : Array (Int × Value) := if byText w = true then pickOrder (w.params.setOrder S ep) es else es
theorem order_perm (w : World) (S : Addr) (es : Array (Int × Value)) (ep : Nat) : (orderOf w S es ep).toList.Perm es.toList := by
  unfold orderOf
  split
  · have := pick_perm (w.params.setOrder S ep) es.toList.length 0 es.toList #[] rfl
    simpa [pickOrder] using this
  · exact .refl _
theorem order_size (w : World) (S : Addr) (es : Array (Int × Value)) (ep : Nat) : (orderOf w S es ep).size = es.size := by
  have := (order_perm w S es ep).length_eq
  simpa using this
section
variable {prog : Program} {w : World} {A : Around} {E : Value → Shared → Prop} {s : Shared}
theorem sets_text {Q : Bool → Shared → Prop} (h : Q (byText w) s) : wpAny (model prog w) A setsByText Q E s := by
  unfold setsByText
  exact wpAny_bind (wpAny_askSetting (wpAny_pure h))
/-- where the walk stands behind i items -/
def At (w : World) (t : SetTable) (slot i : Nat) : Prop := byText w = true ∨ below t.place slot = i
theorem next_item {S : Addr} {es : Array (Int × Value)} {ep slot i : Nat} {o : Obj} {t : SetTable} {x : Int × Value} {Q : Option (Value × Nat) → Shared → Prop}
    (ho : s.heap.get? S = some o) (hd : o.data = .set es ep t) (T : TT t (hsOf es)) (hl : t.led = !byText w) (ha : At w t slot i) (hx : (orderOf w S es ep)[i]? = some x)
    (hQ : ∀ slot', At w t slot' (i + 1) → Q (some (x.2, slot')) s) : wpAny (model prog w) A (setNext S slot i ep) Q E s := by
  have hf := fits_of T.toPT
  unfold setNext
  refine wpAny_bind (wpAny_setState_of ho hd hf ?_)
  refine wpAny_bind (sets_text ?_)
  by_cases b : byText w = true
  · unfold orderOf at hx
    rw [if_pos b] at hx
    rw [b]
    try dsimp only
    rw [if_pos rfl, if_neg (by simp)]
    refine wpAny_bind ?_
    unfold setWalk
    refine wpAny_bind (wpAny_setState_of ho hd hf ?_)
    refine wpAny_bind (sets_text ?_)
    rw [b]
    try dsimp only
    rw [if_pos rfl]
    refine wpAny_bind (wpAny_askSetting (wpAny_pure (wpAny_pure ?_)))
    show Q (((pickOrder (w.params.setOrder S ep) es)[i]?).map _) s
    rw [hx]
    exact hQ slot (.inl b)
  · have b' : byText w = false := by simpa using b
    unfold orderOf at hx
    rw [if_neg b] at hx
    rw [b']
    try dsimp only
    rw [if_neg (by simp)]
    have e : below t.place slot = i := by
      rcases ha with z | z
      · exact absurd z b
      · exact z
    have hi : i < es.size := (Array.getElem?_eq_some_iff.mp hx).1
    have hp : i < t.place.size := by rw [T.len, hs_len]; exact hi
    have hj : t.place[i]? = some t.place[i] := Array.getElem?_eq_getElem hp
    show wpAny _ _ (if (!t.plain && decide (es.size > 1)) = true then _ else _) _ _ _
    rw [T.plain]
    rw [if_neg (by simp)]
    show wpAny _ _ ((if (!t.led && !es.isEmpty) = true then _ else _) >>= _) _ _ _
    rw [hl, b']
    rw [if_neg (by simp)]
    refine wpAny_bind (wpAny_pure (wpAny_pure ?_))
    rw [e, hx, hj]
    exact hQ _ (.inr (below_next T.tab.up hj))
theorem next_end {S : Addr} {es : Array (Int × Value)} {ep slot : Nat} {o : Obj} {t : SetTable} {Q : Option (Value × Nat) → Shared → Prop}
    (ho : s.heap.get? S = some o) (hd : o.data = .set es ep t) (T : TT t (hsOf es)) (hl : t.led = !byText w) (ha : At w t slot es.size)
    (hQ : Q none s) : wpAny (model prog w) A (setNext S slot es.size ep) Q E s := by
  have hf := fits_of T.toPT
  unfold setNext
  refine wpAny_bind (wpAny_setState_of ho hd hf ?_)
  refine wpAny_bind (sets_text ?_)
  by_cases b : byText w = true
  · rw [b]
    try dsimp only
    rw [if_pos rfl, if_neg (by simp)]
    refine wpAny_bind ?_
    unfold setWalk
    refine wpAny_bind (wpAny_setState_of ho hd hf ?_)
    refine wpAny_bind (sets_text ?_)
    rw [b]
    try dsimp only
    rw [if_pos rfl]
    refine wpAny_bind (wpAny_askSetting (wpAny_pure (wpAny_pure ?_)))
    have e : (pickOrder (w.params.setOrder S ep) es)[es.size]? = none := by
      have z := order_size w S es ep
      unfold orderOf at z
      rw [if_pos b] at z
      exact Array.getElem?_eq_none (by omega)
    show Q (((pickOrder (w.params.setOrder S ep) es)[es.size]?).map _) s
    rw [e]
    exact hQ
  · have b' : byText w = false := by simpa using b
    rw [b']
    try dsimp only
    rw [if_neg (by simp)]
    have e : below t.place slot = es.size := by
      rcases ha with z | z
      · exact absurd z b
      · exact z
    show wpAny _ _ (if (!t.plain && decide (es.size > 1)) = true then _ else _) _ _ _
    rw [T.plain]
    rw [if_neg (by simp)]
    show wpAny _ _ ((if (!t.led && !es.isEmpty) = true then _ else _) >>= _) _ _ _
    rw [hl, b']
    rw [if_neg (by simp)]
    refine wpAny_bind (wpAny_pure (wpAny_pure ?_))
    rw [e, Array.getElem?_eq_none (Nat.le_refl _)]
    exact hQ
end
end SW

namespace SW
open PySem PySem.SetTable TB
theorem sn_next : Slot "set_iterator" "__next__" "set_iterator.__next__" := .of (owner := "set_iterator") (n := "__next__") (by rw [typeLookup_type, builtinLookup_eq_fast]; kernel_rfl) (by decide +kernel) (by decide +kernel) (by decide +kernel) (by first | exact .inl (by decide +kernel) | exact .inr (by decide +kernel)) (by rw [isSubtype_type]; kernel_rfl)
theorem sn_iter : Slot "set_iterator" "__iter__" "set_iterator.__iter__" := .of (owner := "set_iterator") (n := "__iter__") (by rw [typeLookup_type, builtinLookup_eq_fast]; kernel_rfl) (by decide +kernel) (by decide +kernel) (by decide +kernel) (by first | exact .inl (by decide +kernel) | exact .inr (by decide +kernel)) (by rw [isSubtype_type]; kernel_rfl)
theorem en_next : entryFor table "set_iterator.__next__" = some Builtin.«set_iterator.__next__» := entryFor_of_tree (by kernel_rfl)
theorem en_iter : entryFor table "set_iterator.__iter__" = some Builtin.«dict_keyiterator.__iter__» := entryFor_alias (id' := "dict_keyiterator.__iter__") (by kernel_rfl) rfl (by decide +kernel) (by kernel_rfl)
theorem en_set_iter : entryFor table "set.__iter__" = some Builtin.«frozenset.__iter__» := entryFor_alias (id' := "frozenset.__iter__") (by kernel_rfl) rfl (by decide +kernel) (by kernel_rfl)
theorem ow_it : Manifest.owners.lookup (String.ofList ['r', 'o', 't', 'a', 'r', 'e', 't', 'i', '_', 't', 'e', 's'].reverse) = some Manifest.sig_set_iterator := by kernel_rfl
theorem ar_next (a : Value) : argsOk "set_iterator.__next__" ⟨[a], []⟩ := by
  unfold argsOk; rw [signature?_of (id := "set_iterator.__next__") (n := ['_', '_', 't', 'x', 'e', 'n', '_', '_']) (o := ['r', 'o', 't', 'a', 'r', 'e', 't', 'i', '_', 't', 'e', 's']) (by kernel_rfl) ow_it]; kernel_rfl
theorem ar_iter (a : Value) : argsOk "set_iterator.__iter__" ⟨[a], []⟩ := by
  unfold argsOk; rw [signature?_of (id := "set_iterator.__iter__") (n := ['_', '_', 'r', 'e', 't', 'i', '_', '_']) (o := ['r', 'o', 't', 'a', 'r', 'e', 't', 'i', '_', 't', 'e', 's']) (by kernel_rfl) ow_it]; kernel_rfl
/-- the iterator I over the set S: slot, items given, size, epoch -/
def IsIt (h : Heap) (I S : Addr) (slot i n ep : Nat) : Prop := ∃ o, h.get? I = some o ∧ o.cls = .type "set_iterator" ∧ o.data = .fields #[.int slot 0, .int i 0, .ref S, .int n 0, .int ep 0]
theorem IsIt.typeIs {s : Shared} {I S : Addr} {slot i n ep : Nat} (h : IsIt s.heap I S slot i n ep) : s.TypeIs (.ref I) "set_iterator" := let ⟨o, ho, hc, _⟩ := h; ⟨o, ho, hc⟩
theorem IsIt.keep {h h' : Heap} {I S : Addr} {slot i n ep : Nat} (x : IsIt h I S slot i n ep) (k : ∀ o, h.get? I = some o → h'.get? I = some o) : IsIt h' I S slot i n ep := let ⟨o, ho, r⟩ := x; ⟨o, k o ho, r⟩
section
variable {prog : Program} {w : World} {A : Around} {E : Value → Shared → Prop} {s : Shared}
theorem it_item {I S : Addr} {es : Array (Int × Value)} {ep slot i : Nat} {o : Obj} {t : SetTable} {x : Int × Value} {Q : Option Value → Shared → Prop} (hne : S ≠ I)
    (hit : IsIt s.heap I S slot i es.size ep) (ho : s.heap.get? S = some o) (hd : o.data = .set es ep t) (T : TT t (hsOf es)) (hl : t.led = !byText w) (ha : At w t slot i) (hx : (orderOf w S es ep)[i]? = some x)
    (hQ : ∀ slot' h', At w t slot' (i + 1) → IsIt h' I S slot' (i + 1) es.size ep → Heap.SameBut I s.heap h' → Q (some x.2) { s with heap := h' }) :
    wpAny (model prog w) A (pyNext (.ref I)) Q E s := by
  obtain ⟨oi, hoi, hci, hdi⟩ := id hit
  have hf := fits_of T.toPT
  unfold pyNext
  refine wpAny_bind (wpAny_attempt (wpAny_callSpecial?_slot (name := Str.ofString "__next__") hit.typeIs sn_next (wpAny_call_entry sn_next hit.typeIs en_next ?_ (ar_next _))))
  unfold Builtin.«set_iterator.__next__»
  refine wpAny_bind (wpAny_pure ?_)
  refine wpAny_bind (wpAny_fieldsOf hoi hdi ?_)
  show wpAny _ _ (setEntries S >>= _) _ _ s
  refine wpAny_bind (wpAny_setEntries_of ho hd hf ?_)
  rw [if_neg (by simp)]
  show wpAny _ _ (setNext S slot i ep >>= _) _ _ s
  refine wpAny_bind (next_item ho hd T hl ha hx fun slot' ha' => ?_)
  show wpAny _ _ (setField (.ref I) 0 (rawInt (slot' : Int)) >>= _) _ _ s
  refine wpAny_bind (wpAny_setField hoi hdi (by simp) ?_)
  have h1 : (s.heap.update I (Obj.mapFields (·.setIfInBounds 0 (rawInt (slot' : Int))))).get? I = some (Obj.mapFields (·.setIfInBounds 0 (rawInt (slot' : Int))) oi) := Heap.get?_update_self _ hoi (Obj.isFreed_of_fields (Obj.data_mapFields hdi _))
  have d1 := Obj.data_mapFields hdi (·.setIfInBounds 0 (rawInt (slot' : Int)))
  show wpAny _ _ (setField (.ref I) 1 (rawInt ((i : Int) + 1)) >>= _) _ _ _
  refine wpAny_bind (wpAny_setField h1 d1 (by simp) ?_)
  have hit' : IsIt ((s.heap.update I (Obj.mapFields (·.setIfInBounds 0 (rawInt (slot' : Int))))).update I (Obj.mapFields (·.setIfInBounds 1 (rawInt ((i : Int) + 1))))) I S slot' (i + 1) es.size ep := by
    refine ⟨_, Heap.get?_update_self _ h1 (Obj.isFreed_of_fields (Obj.data_mapFields d1 _)), ?_, ?_⟩
    · rw [Obj.cls_mapFields, Obj.cls_mapFields]
      exact hci
    · rw [Obj.data_mapFields d1]
      simp [rawInt]
  exact wpAny_pure ⟨_, rfl, wpAny_pure (hQ slot' _ ha' hit' ((Heap.SameBut.update ..).trans (Heap.SameBut.update ..)))⟩
theorem it_end {I S : Addr} {es : Array (Int × Value)} {ep slot : Nat} {o : Obj} {t : SetTable} {Q : Option Value → Shared → Prop} (hh : A.handled = none)
    (hit : IsIt s.heap I S slot es.size es.size ep) (ho : s.heap.get? S = some o) (hd : o.data = .set es ep t) (T : TT t (hsOf es)) (hl : t.led = !byText w) (ha : At w t slot es.size)
    (hQ : ∀ h', Heap.ExtBut I s.heap h' → Q none { s with heap := h' }) : wpAny (model prog w) A (pyNext (.ref I)) Q E s := by
  obtain ⟨oi, hoi, hci, hdi⟩ := id hit
  have hf := fits_of T.toPT
  unfold pyNext
  refine wpAny_bind (wpAny_attempt (wpAny_callSpecial?_slot (name := Str.ofString "__next__") hit.typeIs sn_next (wpAny_call_entry sn_next hit.typeIs en_next ?_ (ar_next _))))
  unfold Builtin.«set_iterator.__next__»
  refine wpAny_bind (wpAny_pure ?_)
  refine wpAny_bind (wpAny_fieldsOf hoi hdi ?_)
  show wpAny _ _ (setEntries S >>= _) _ _ s
  refine wpAny_bind (wpAny_setEntries_of ho hd hf ?_)
  rw [if_neg (by simp)]
  show wpAny _ _ (setNext S slot es.size ep >>= _) _ _ s
  refine wpAny_bind (next_end ho hd T hl ha ?_)
  show wpAny _ _ (setField (.ref I) 2 .none >>= _) _ _ s
  refine wpAny_bind (wpAny_setField hoi hdi (by simp) ?_)
  show wpAny _ _ (newExc (.type "StopIteration") [] >>= _) _ _ _
  refine wpAny_bind ?_
  simp only [newExc, newTuple]
  refine wpAny_bind (wpAny_newObj_type ?_ (by size_fits)); refine wpAny_bind (m := firstArgMember _ _) (wpAny_of_eq (a := Value.none) (by first | rfl | (simp only [firstArgMember]; rfl)) ?_)
  refine wpAny_newObj_type ?_ (by size_fits); simp only [raiseNew]
  refine wpAny_bind (wpAny_handled ?_)
  rw [show A.in1.handled = none from hh]
  refine wpAny_bind (wpAny_pure (wpAny_throw ?_)); refine wpAny_bind (wpAny_isInstance (T := "StopIteration") (b := true) ⟨_, Heap.get?_push_size _ rfl, rfl⟩ isSubtype_stop ?_)
  exact wpAny_pure (hQ _ (((Heap.SameBut.update ..).extBut.push _).push _))
theorem it_self {I S : Addr} {slot i n ep : Nat} {Q : Value → Shared → Prop} (hit : IsIt s.heap I S slot i n ep) (h : Q (.ref I) s) : wpAny (model prog w) A (pyIter (.ref I)) Q E s := by
  refine wpAny_pyIter_slot hit.typeIs sn_iter (wpAny_call_entry sn_iter hit.typeIs en_iter ?_ (ar_iter _))
  show wpAny _ _ (ret (.ref I)) _ _ s
  exact wpAny_pure ⟨_, rfl, "set_iterator", _, hit.typeIs, sn_next.lookup, h⟩
theorem walks_set (hh : A.handled = none) (I S : Addr) (hne : S ≠ I) (es : Array (Int × Value)) (ep : Nat) :
    Walks prog w A I [I, S] [I] es.size (fun i v => ∃ x, (orderOf w S es ep)[i]? = some x ∧ v = x.2)
      (fun i h => ∃ slot o t, IsIt h I S slot i es.size ep ∧ h.get? S = some o ∧ o.ExactSet ∧ o.data = .set es ep t ∧ TT t (hsOf es) ∧ t.led = !byText w ∧ At w t slot i) where
  sub := fun b hb => by simp at hb; simp [hb]
  frame := fun _ _ _ st hk => by
    obtain ⟨slot, o, t, h1, h2, h3⟩ := st
    exact ⟨slot, o, t, h1.keep fun o e => hk I (by simp) o e, hk S (by simp) o h2, h3⟩
  item := fun i s Q E hi st hQ => by
    obtain ⟨slot, o, t, h1, h2, h3, h4, h5, h6, h7⟩ := st
    obtain ⟨x, hx⟩ : ∃ x, (orderOf w S es ep)[i]? = some x := ⟨_, Array.getElem?_eq_getElem (by rw [order_size]; exact hi)⟩
    refine it_item hne h1 h2 h4 h5 h6 h7 hx fun slot' h' ha' hit' hs' => ?_
    exact hQ x.2 h' s.toks ⟨x, hx, rfl⟩ ⟨slot', o, t, hit', hs'.extBut S o hne h2, h3, h4, h5, h6, ha'⟩ fun b o' hb e => hs'.extBut b o' (fun z => hb (by simp [z])) e
  done := fun s Q E st hQ => by
    obtain ⟨slot, o, t, h1, h2, h3, h4, h5, h6, h7⟩ := st
    exact it_end hh h1 h2 h4 h5 h6 h7 fun h' he' => hQ h' s.toks fun b o' hb e => he' b o' (fun z => hb (by simp [z])) e
  self := fun _ _ _ _ st hQ => by
    obtain ⟨slot, o, t, h1, _⟩ := st
    exact it_self h1 hQ
theorem iter_set {S : Addr} {es : Array (Int × Value)} {ep : Nat} {Q : Value → Shared → Prop} (hS : SetAt w s.heap S es ep)
    (hQ : Q (.ref s.heap.objs.size) { s with heap := s.heap.push { cls := .type "set_iterator", data := .fields #[.int 0 0, .int 0 0, .ref S, .int es.size 0, .int ep 0] } }) :
    wpAny (model prog w) A (pyIter (.ref S)) Q E s := by
  have hT := hS.typeIs
  obtain ⟨o, t, ho, hc, hd, T, hl⟩ := hS
  have hf := fits_of T.toPT
  refine wpAny_pyIter_slot hT F.slot_set_iter (wpAny_call_entry F.slot_set_iter hT en_set_iter ?_ (F.args_set_iter_1 _))
  unfold Builtin.«frozenset.__iter__»
  refine wpAny_bind (m := Builtin.Frozenset.slot0 "__iter__" _) (wpAny_pure ?_)
  refine wpAny_bind ?_
  unfold Builtin.Frozenset.sizeOf
  refine wpAny_bind (wpAny_setEntries_of ho hd hf (wpAny_pure ?_))
  refine wpAny_bind ?_
  unfold setDrawn
  refine wpAny_bind (wpAny_setState_of ho hd hf ?_)
  refine wpAny_bind (sets_text (wpAny_pure ?_))
  have e0 : (!byText w && (!t.plain && decide (es.size > 1))) = false := by rw [T.plain]; simp
  show wpAny _ _ (if (!byText w && (!t.plain && decide (es.size > 1))) = true then _ else _) _ _ _
  rw [e0, if_neg (by simp)]
  refine wpAny_bind (wpAny_pure ?_)
  refine wpAny_bind (wpAny_setEpoch_of ho hd hf ?_)
  refine wpAny_bind (wpAny_newObj_type (wpAny_pure ⟨_, rfl, "set_iterator", _, ⟨_, Heap.get?_push_size _ rfl, rfl⟩, sn_next.lookup, ?_⟩))
  simpa [rawInt] using hQ
theorem at_zero {t : SetTable} (T : Tab t) : At w t 0 0 := .inr (below_zero T.up)
end
end SW

namespace SW
open PySem PySem.SetTable TB
inductive Two {α β : Type} (R : α → β → Prop) : List α → List β → Prop
  | nil : Two R [] []
  | cons {a : α} {b : β} {as : List α} {bs : List β} : R a b → Two R as bs → Two R (a :: as) (b :: bs)
namespace Two
variable {α β : Type} {R : α → β → Prop}
theorem len {as : List α} {bs : List β} (h : Two R as bs) : as.length = bs.length := by
  induction h with
  | nil => rfl
  | cons _ _ ih => simp [ih]
theorem app {as as' : List α} {bs bs' : List β} (h : Two R as bs) (h' : Two R as' bs') : Two R (as ++ as') (bs ++ bs') := by
  induction h with
  | nil => exact h'
  | cons x _ ih => exact .cons x ih
theorem imp {R' : α → β → Prop} {as : List α} {bs : List β} (h : Two R as bs) (f : ∀ a b, R a b → R' a b) : Two R' as bs := by
  induction h with
  | nil => exact .nil
  | cons x _ ih => exact .cons (f _ _ x) ih
theorem perm {bs bs' : List β} (p : bs.Perm bs') : ∀ {as : List α}, Two R as bs → ∃ as', as.Perm as' ∧ Two R as' bs' := by
  induction p with
  | nil => intro as h; exact ⟨as, .refl _, h⟩
  | cons x _ ih =>
    intro as h
    cases h with
    | cons r t =>
      obtain ⟨as', h1, h2⟩ := ih t
      exact ⟨_, h1.cons _, .cons r h2⟩
  | swap x y l =>
    intro as h
    cases h with
    | cons r t =>
      cases t with
      | cons r' t' => exact ⟨_, .swap _ _ _, .cons r' (.cons r t')⟩
  | trans _ _ ih1 ih2 =>
    intro as h
    obtain ⟨a1, h1, h2⟩ := ih1 h
    obtain ⟨a2, h3, h4⟩ := ih2 h2
    exact ⟨a2, h1.trans h3, h4⟩
theorem at_ {as : List α} {bs : List β} (h : Two R as bs) : ∀ {i : Nat} {b : β}, bs[i]? = some b → ∃ a, as[i]? = some a ∧ R a b := by
  induction h with
  | nil => intro i b e; simp at e
  | cons x _ ih =>
    intro i b e
    cases i with
    | zero => simp at e; subst e; exact ⟨_, rfl, x⟩
    | succ i => simpa using ih (by simpa using e)
theorem mem {as : List α} {bs : List β} (h : Two R as bs) {b : β} (hb : b ∈ bs) : ∃ a, a ∈ as ∧ R a b := by
  obtain ⟨i, hi⟩ := List.mem_iff_getElem?.mp hb
  obtain ⟨a, h1, h2⟩ := h.at_ hi
  exact ⟨a, List.mem_of_getElem? h1, h2⟩
theorem flip {as : List α} {bs : List β} (h : Two R as bs) : Two (fun b a => R a b) bs as := by
  induction h with
  | nil => exact .nil
  | cons x _ ih => exact .cons x ih
end Two
theorem sz_line {n : Nat} (h : n ≤ 1000) : n ≤ sizeLine := by rw [sizeLine_eq]; omega
section
variable {prog : Program} {w : World} {A : Around} {E : Value → Shared → Prop} {s : Shared}
/-- what is behind an add: the set with one entry more (or relaid) -/
def After (w : World) (h : Heap) (S : Addr) (es : Array (Int × Value)) (x : Int × Value) (h' : Heap) : Prop :=
  Heap.SameBut S h h' ∧ ∃ es' ep', SetAt w h' S es' ep' ∧ es'.toList.Perm (es.toList ++ [x])
theorem stored {h : Heap} {S : Addr} {o : Obj} {es es' : Array (Int × Value)} {ep : Nat} {t t' : SetTable} (ho : h.get? S = some o) (hd : o.data = .set es ep t) :
    (h.update S (Obj.putSet es' t')).get? S = some { o with data := .set es' (ep + 1) t' } := by
  have z := Heap.get?_update_self (Obj.putSet es' t') ho (by rw [putSet_of es' t' hd]; rfl)
  rwa [putSet_of es' t' hd] at z
theorem ins_list (es : Array (Int × Value)) (p : Nat) (x : Int × Value) : (insertAt es p x).toList.Perm (es.toList ++ [x]) := by
  have := SetTable.insertAt_perm es p x
  rwa [Array.toList_push] at this
/-- the relay of five entries, by scan -/
theorem relayAll_five {t : SetTable} {es : Array (Int × Value)} (T : PT t (hsOf es)) (hn : es.size = 5) : ∃ es2 t2, relayAll t es (grown es.size) = (es2, t2, false) ∧ t2.led = t.led ∧ es2.toList.Perm es.toList ∧ TT t2 (hsOf es2) := by
  obtain ⟨t2, order, e, a1, a2, a3, a4, a5⟩ := relay_says T hn
  refine ⟨order.filterMap (es[·]?), t2, ?_, a1, a3, a5⟩
  unfold relayAll
  rw [e]
  have c1 : coversAll order es.size = true := by
    unfold coversAll
    exact List.isPerm_iff.mpr a2
  have c2 := fits_of a5.toPT
  simp only [c1, c2, Bool.and_self, if_true]
theorem scan_add {S : Addr} {es : Array (Int × Value)} {ep : Nat} {us : List Int} {n : Int} {x : Value} {Q : Bool → Shared → Prop} (hk : (intKind prog w).is n x = true) (hS : SetAt w s.heap S es ep)
    (hu : Two (fun k (e : Int × Value) => (intKind prog w).is k e.2 = true ∧ e.1 = (intKind prog w).hash k) us es.toList) (hn : es.size ≤ 17)
    (hold : n ∈ us → Q false s) (hnew : n ∉ us → ∀ h', After w s.heap S es ((intKind prog w).hash n, x) h' → Q true { s with heap := h' }) :
    wpAny (model prog w) A (setAddHashed S x ((intKind prog w).hash n)) Q E s := by
  obtain ⟨o, t, ho, hex, hd, T, hl⟩ := hS
  have hf := fits_of T.toPT
  have sc : ∀ (k : Int) (v : Value), (intKind prog w).is k v = true → v.scannable = true ∧ plainKind v = true := fun k v h => by
    obtain ⟨t', rfl⟩ := Value.isInt_shape h
    exact ⟨rfl, rfl⟩
  have hel : ElemsOf (intKind prog w) es.toList := fun e he => by
    obtain ⟨k, _, h1, h2⟩ := hu.mem he
    exact ⟨⟨k, h1, h2⟩, (sc k e.2 h1).1⟩
  obtain ⟨hsc, hpl⟩ := sc n x hk
  unfold setAddHashed setAddHashedIn
  refine wpAny_holding (wpAny_bind (wpAny_setState_of ho hd hf ?_))
  dsimp only
  rw [byScan_of hsc (by unfold scanBound; omega) hel]
  simp only [↓reduceIte]
  unfold setAddByScan
  refine wpAny_bind (wpAny_bind (wpAny_rule (wpAny_bind (wpAny_setScan_of hk ho hd hf hel ?_))))
  cases hr : List.findIdx? (fun e => (intKind prog w).is n e.2) es.toList with
  | some j =>
    dsimp only
    refine wpAny_pure (wpAny_pure (hold ?_))
    obtain ⟨hj, hpj, _⟩ := List.findIdx?_eq_some_iff_getElem.mp hr
    obtain ⟨k, hkm, h1, _⟩ := hu.mem (List.getElem_mem hj)
    have : n = k := (intKind prog w).inj _ _ _ hpj h1
    rw [this]
    exact hkm
  | none =>
    dsimp only
    have hno : n ∉ us := fun hm => by
      obtain ⟨e, he, h1, _⟩ := hu.flip.mem hm
      have := List.findIdx?_eq_none_iff.mp hr e he
      rw [h1] at this
      cases this
    obtain ⟨es1, t1, eL, p2, hpm, hl1, hm1, p3⟩ : ∃ es1 t1, layNew t es ((intKind prog w).hash n) x = (es1, t1, false, false) ∧ PT t1 (hsOf es1) ∧ es1.toList.Perm (es.toList ++ [((intKind prog w).hash n, x)]) ∧ t1.led = (!byText w) ∧ t1.mask = t.mask ∧ es1.size = es.size + 1 := by
      obtain ⟨j, f1, f2, f3, f4⟩ := freeSlot_says T.tab ((intKind prog w).hash n)
      obtain ⟨p1, p2, p3, p4⟩ := put_reach (x := x) T hn f2 f3 f4
      refine ⟨_, _, ?_, p2, ins_list _ _ _, hl, rfl, p3⟩
      unfold layNew
      rw [f1]
      simp only [p1]
      have z := fits_of p2
      unfold SetTable.orStandIn
      simp [z]
    rw [eL]
    dsimp only
    refine wpAny_bind (wpAny_pure ?_)
    rw [p2.plain]
    simp only [↓reduceIte]
    rw [hashByValue_scannable 8 hsc, hpl]
    refine wpAny_bind (wpAny_pure ?_)
    simp only [↓reduceIte, Bool.not_false, Bool.true_and]
    refine wpAny_bind (wpAny_storeSet_of ho hd ?_ (sz_line (by omega)))
    have g1 := stored (es' := es1) (t' := t1) ho hd
    have same1 := Heap.SameBut.update s.heap S (Obj.putSet es1 t1)
    cases hfull : t1.tooFull with
    | false =>
      simp only [Bool.false_eq_true, ↓reduceIte]
      refine wpAny_pure (wpAny_pure (hnew hno _ ⟨same1, es1, ep + 1, ⟨_, t1, g1, hex, rfl, not_full p2 hfull (by rw [hs_len]; omega), hl1⟩, hpm⟩))
    | true =>
      simp only [↓reduceIte]
      have h5 : es1.size = 5 := by
        have := is_full p2 hfull (by rw [hs_len]; omega) (fun z => by
          have := T.small (by rw [← hm1]; exact z)
          rw [hs_len] at this ⊢
          omega)
        rwa [hs_len] at this
      obtain ⟨es2, t2, r1, r2, r3, r4⟩ := relayAll_five p2 h5
      rw [r1]
      dsimp only
      have l2 : es2.size = 5 := by
        have := r3.length_eq
        simp at this
        omega
      refine wpAny_bind (wpAny_pure (wpAny_bind (wpAny_storeSet_of g1 rfl ?_ (sz_line (by omega)))))
      have g2 := stored (es' := es2) (t' := t2) g1 rfl
      refine wpAny_pure (wpAny_pure (hnew hno _ ⟨same1.trans (Heap.SameBut.update ..), es2, ep + 1 + 1, ⟨_, t2, g2, hex, rfl, r4, by rw [r2]; exact hl1⟩, r3.trans hpm⟩))
end
end SW

namespace SW
open PySem PySem.SetTable TB
section
variable {prog : Program} {w : World} {A : Around} {E : Value → Shared → Prop} {s : Shared}
abbrev TK (prog : Program) (w : World) (h : Heap) (ks : List Int) (a : Addr) : Prop := IsTupleKey (intKind prog w) h ks a
theorem ints_byValue {ks : List Int} {vs : List Value} (h : ItemsAre (intKind prog w) ks vs) : ∀ v ∈ vs, ∃ n t, v = Value.int n t := by
  induction h with
  | nil => intro v hv; simp at hv
  | cons h1 _ ih =>
    intro v hv
    rcases List.mem_cons.mp hv with rfl | hv
    · obtain ⟨t, rfl⟩ := Value.isInt_shape h1
      exact ⟨_, t, rfl⟩
    · exact ih v hv
theorem not_class {ks : List Int} {a : Addr} {Q : Bool → Shared → Prop} (hk : TK prog w s.heap ks a) (h : Q false s) : wpAny (model prog w) A (ofAClassStatement 8 (.ref a)) Q E s := by
  have hT := hk.typeIs
  obtain ⟨o, items, n, ho, _, hd, hi⟩ := hk
  unfold ofAClassStatement
  refine wpAny_bind (wpAny_typeOf hT ?_)
  simp only [beq_self_eq_true, ↓reduceIte]
  refine wpAny_bind (wpAny_pure ?_)
  simp only [Bool.not_true, Bool.false_eq_true, ↓reduceIte]
  refine wpAny_bind (wpAny_seqItems ho hd ?_)
  refine wpAny_bind ?_
  show wpAny _ _ (forIn items _ _) _ _ s
  rw [← Array.forIn_toList]
  refine wpAny_forIn_list _ (fun rest r s' => r.1 = none ∧ s' = s ∧ ∀ v ∈ rest, ∃ n t, v = Value.int n t) _ ?_ ?_ _ _ ⟨rfl, rfl, ints_byValue hi⟩
  · rintro v rest r s' ⟨hr, rfl, hall⟩
    obtain ⟨m, t, rfl⟩ := hall v List.mem_cons_self
    refine wpAny_bind (m := ofAClassStatement 7 (.int m t)) (wpAny_pure ?_)
    exact wpAny_pure ⟨rfl, rfl, fun u hu' => hall u (List.mem_cons_of_mem _ hu')⟩
  · rintro ⟨r1, r2⟩ s' ⟨hr, rfl, _⟩
    simp only at hr
    subst hr
    exact wpAny_pure h
theorem by_value {ks : List Int} {a : Addr} {Q : Bool → Shared → Prop} (hk : TK prog w s.heap ks a) (h : Q true s) : wpAny (model prog w) A (hashByValue 8 (.ref a)) Q E s := by
  have hT := hk.typeIs
  obtain ⟨o, items, n, ho, _, hd, hi⟩ := hk
  unfold hashByValue
  refine wpAny_bind (wpAny_specialOf hT F.slot_tuple_hash.lookup ?_)
  show wpAny _ _ (seqItems? (.ref a) >>= _) _ _ s
  refine wpAny_bind (wpAny_seqItems ho hd ?_)
  refine wpAny_bind ?_
  show wpAny _ _ (forIn items _ _) _ _ s
  rw [← Array.forIn_toList]
  refine wpAny_forIn_list _ (fun rest r s' => r.1 = none ∧ s' = s ∧ ∀ v ∈ rest, ∃ n t, v = Value.int n t) _ ?_ ?_ _ _ ⟨rfl, rfl, ints_byValue hi⟩
  · rintro v rest r s' ⟨hr, rfl, hall⟩
    obtain ⟨m, t, rfl⟩ := hall v List.mem_cons_self
    refine wpAny_bind (m := hashByValue 7 (.int m t)) (wpAny_pure ?_)
    exact wpAny_pure ⟨rfl, rfl, fun u hu' => hall u (List.mem_cons_of_mem _ hu')⟩
  · rintro ⟨r1, r2⟩ s' ⟨hr, rfl, _⟩
    simp only at hr
    subst hr
    exact wpAny_pure h
theorem not_seen {ks : List Int} {a : Addr} {st : List Value} {Q : Bool → Shared → Prop} (hk : TK prog w s.heap ks a) (hs : ∀ y ∈ st, ∃ b k, y = Value.ref b ∧ TK prog w s.heap k b) (h : Q false s) :
    wpAny (model prog w) A (searchCouldBeSeen (.ref a) st) Q E s := by
  unfold searchCouldBeSeen
  refine wpAny_bind ?_
  refine wpAny_forIn_list _ (fun rest r s' => r.1 = none ∧ s' = s ∧ ∀ y ∈ rest, ∃ b k, y = Value.ref b ∧ TK prog w s.heap k b) _ ?_ ?_ _ _ ⟨rfl, rfl, hs⟩
  · rintro v rest r s' ⟨hr, rfl, hall⟩
    obtain ⟨b, k, rfl, hb⟩ := hall v List.mem_cons_self
    dsimp only
    by_cases e : (a == b) = true
    · simp only [e, Bool.true_or, ↓reduceIte]
      exact wpAny_pure ⟨rfl, rfl, fun u hu' => hall u (List.mem_cons_of_mem _ hu')⟩
    · have e' : (a == b) = false := by simpa using e
      simp only [e', carriedByValue, Bool.and_self, Bool.or_self, Bool.false_eq_true, ↓reduceIte]
      refine wpAny_bind (wpAny_eqIsQuiet_tuple hk ?_)
      simp only [Bool.not_true, Bool.false_eq_true, ↓reduceIte]
      refine wpAny_bind (wpAny_eqIsQuiet_tuple hb ?_)
      simp only [Bool.not_true, Bool.false_eq_true, ↓reduceIte]
      refine wpAny_bind (not_class hk ?_)
      simp only [Bool.false_eq_true, ↓reduceIte]
      refine wpAny_bind (not_class hb ?_)
      simp only [Bool.false_eq_true, ↓reduceIte]
      exact wpAny_pure ⟨rfl, rfl, fun u hu' => hall u (List.mem_cons_of_mem _ hu')⟩
  · rintro ⟨r1, r2⟩ s' ⟨hr, rfl, _⟩
    simp only at hr
    subst hr
    exact wpAny_pure h
abbrev hT (prog : Program) (w : World) (k : List Int) : Int := tupleKeyHash (intKind prog w) k
def RT (prog : Program) (w : World) (h : Heap) (k : List Int) (e : Int × Value) : Prop := e.1 = hT prog w k ∧ ∃ a, e.2 = .ref a ∧ TK prog w h k a
theorem search_says {S a : Addr} {es : Array (Int × Value)} {ep : Nat} {t : SetTable} {o : Obj} {us : List (List Int)} {k : List Int} {Q : SetFound → Shared → Prop} (hu : A.units < cLine)
    (ho : s.heap.get? S = some o) (hd : o.data = .set es ep t) (T : TT t (hsOf es)) (hes : Two (RT prog w s.heap) us es.toList) (hk : TK prog w s.heap k a)
    (hthere : k ∈ us → Q (.there none) s) (hfree : k ∉ us → ∀ j, occ t j = false → j ≤ t.mask → Path (occ t) t.mask (hT prog w k) j → Q (.free j false) s)
    (K : Nat) (hK : occ t (advN t.mask K (start t.mask (hT prog w k))).j = false) :
    ∀ (n fuel k0 : Nat) (stand : Option Probe), K - k0 = n → n < fuel → stand.getD (start t.mask (hT prog w k)) = advN t.mask k0 (start t.mask (hT prog w k)) →
      (∀ l, l < k0 → ∃ i : Nat, t.place[i]? = some (advN t.mask l (start t.mask (hT prog w k))).j ∧ us[i]? ≠ some k) →
      wpAny (model prog w) A (setSearchFrom S (.ref a) (hT prog w k) true fuel stand) Q E s
  | n, 0, k0, stand, hn, hf, _, _ => absurd hf (by omega)
  | n, fuel + 1, k0, stand, hn, hf, hst, hall => by
    have hfit := fits_of T.toPT
    have hk0 : k0 ≤ K := by
      rcases Nat.lt_or_ge K k0 with g | g
      · obtain ⟨i, hi, _⟩ := hall K g
        rw [occ_iff.mpr ⟨i, hi⟩] at hK
        cases hK
      · exact g
    have hsz : t.place.size = es.size := by rw [T.len, hs_len]
    have nin : ∀ (i : Nat) (e : Int × Value), es[i]? = some e → ∃ k', us[i]? = some k' ∧ RT prog w s.heap k' e := fun i e he => hes.at_ (by rw [Array.getElem?_toList]; exact he)
    obtain ⟨r, m, h1, h2, h3⟩ := probe_says T.tab (fun i => (es[i]?.map (·.1)).getD 0) (hT prog w k) (advN_ok k0 (start_ok t.mask (hT prog w k)))
    have hall2 : ∀ l, l < k0 + m → ∃ i : Nat, t.place[i]? = some (advN t.mask l (start t.mask (hT prog w k))).j ∧ us[i]? ≠ some k := fun l hl => by
      rcases Nat.lt_or_ge l k0 with g | g
      · exact hall l g
      · obtain ⟨i, hi, hne⟩ := h2 (l - k0) (by omega)
        rw [← advN_add, show k0 + (l - k0) = l by omega] at hi
        refine ⟨i, hi, fun z => hne ?_⟩
        have hil : i < es.size := by rw [← hsz]; exact (Array.getElem?_eq_some_iff.mp hi).1
        obtain ⟨k', e1, e2⟩ := nin i es[i] (Array.getElem?_eq_getElem hil)
        rw [z] at e1
        have : k = k' := Option.some.inj e1
        subst this
        rw [Array.getElem?_eq_getElem hil]
        exact e2.1
    have gw : t.gaveWay = false := by
      unfold SetTable.gaveWay
      rcases T.tab.mask with e | e <;> rw [e] <;> rfl
    unfold setSearchFrom
    refine wpAny_bind (wpAny_setState_of ho hd hfit ?_)
    dsimp only
    rw [gw]
    simp only [Bool.false_eq_true, ↓reduceIte]
    have hpr : t.probe (fun i => (es[i]?.map (·.1)).getD 0) (hT prog w k) (stand.getD (t.probeStart (hT prog w k))) = some r := by
      rw [start_eq, hst]
      exact h1
    erw [hpr]
    dsimp only
    rcases h3 with ⟨rfl, hfr⟩ | ⟨i, hi, hh, rfl⟩
    · dsimp only
      rw [← advN_add] at hfr
      have hno : k ∉ us := fun hm => by
        obtain ⟨i, hi⟩ := List.mem_iff_getElem?.mp hm
        have hil : i < es.size := by
          have := (List.getElem?_eq_some_iff.mp hi).1
          have := hes.len
          simp at this
          omega
        obtain ⟨k', e1, e2⟩ := nin i es[i] (Array.getElem?_eq_getElem hil)
        rw [hi] at e1
        have : k = k' := Option.some.inj e1
        subst this
        have hp : t.place[i]? = some t.place[i] := Array.getElem?_eq_getElem (by omega)
        have hhs : (hsOf es)[i]? = some (hT prog w k) := by
          unfold hsOf
          rw [List.getElem?_map, Array.getElem?_toList, Array.getElem?_eq_getElem hil]
          simp [e2.1]
        obtain ⟨q, hq1, hq2⟩ := T.reach i (hT prog w k) _ hhs hp
        rcases Nat.lt_or_ge q (k0 + m) with g | g
        · obtain ⟨i2, hi2, hne⟩ := hall2 q g
          rw [hq1] at hi2
          have := (below_at T.tab.up hi2).symm.trans (below_at T.tab.up hp)
          rw [this] at hne
          exact hne hi
        · rcases Nat.eq_or_lt_of_le g with g | g
          · rw [← g] at hq1
            rw [hq1, occ_iff.mpr ⟨i, hp⟩] at hfr
            cases hfr
          · have := hq2 (k0 + m) g
            rw [hfr] at this
            cases this
      have z := hfree hno _ hfr (j_le (advN_ok _ (start_ok _ _))) ⟨k0 + m, rfl, fun l hl => by
        obtain ⟨i, hi, _⟩ := hall2 l hl
        exact occ_iff.mpr ⟨i, hi⟩⟩
      rw [advN_add] at z
      exact wpAny_pure z
    · dsimp only
      have hil : i < es.size := by rw [← hsz]; exact (Array.getElem?_eq_some_iff.mp hi).1
      have hei : es[i]? = some es[i] := Array.getElem?_eq_getElem hil
      obtain ⟨k', e1, e2, b, e3, e4⟩ := nin i es[i] hei
      have hK2 : k0 + m < K := by
        rcases Nat.lt_trichotomy (k0 + m) K with g | g | g
        · exact g
        · rw [← advN_add, g] at hi
          rw [occ_iff.mpr ⟨i, hi⟩] at hK
          cases hK
        · obtain ⟨i2, hi2, _⟩ := hall2 K g
          rw [occ_iff.mpr ⟨i2, hi2⟩] at hK
          cases hK
      cases hld : t.led
      case' false =>
        simp only [Bool.not_false, ↓reduceIte]
        refine wpAny_bind (not_seen hk (fun y hy => ?_) ?_)
        · simp only [List.mem_map, Array.mem_toList_iff, Array.mem_filter] at hy
          obtain ⟨e, ⟨he, _⟩, rfl⟩ := hy
          obtain ⟨k2, _, _, b2, q1, q2⟩ := hes.mem (Array.mem_toList_iff.mpr he)
          exact ⟨b2, k2, q1, q2⟩
      all_goals
        simp only [Bool.not_true, Bool.false_eq_true, ↓reduceIte]
        rw [hei]
        dsimp only
        refine wpAny_bind (wpAny_holding ?_)
        rw [e3]
        refine wpAny_eqBool_tuple hu e4 hk ?_
        refine wpAny_bind (wpAny_setState_of ho hd hfit ?_)
        dsimp only
        by_cases hkk : k' = k
        · subst hkk
          rw [decide_eq_true rfl]
          simp only [Bool.and_self, ↓reduceIte]
          exact wpAny_pure (hthere (List.mem_of_getElem? e1))
        · rw [decide_eq_false hkk]
          simp only [Bool.and_false, Bool.false_eq_true, ↓reduceIte]
          have hsm : t.sameMemory t.moves t.mask = some true := by
            unfold SetTable.sameMemory
            simp
          rw [hsm]
          dsimp only
          rw [slot_live T.tab hi]
          simp only [↓reduceIte]
          rw [hei]
          dsimp only
          rw [e3]
          refine wpAny_bind ?_
          unfold isSame
          simp only [beq_self_eq_true, ↓reduceIte]
          refine wpAny_pure (wpAny_bind (wpAny_pure ?_))
          try dsimp only
          try simp only [Bool.false_eq_true, ↓reduceIte]
          rw [← advN_add]
          refine search_says hu ho hd T hes hk hthere hfree K hK (K - (k0 + (m + 1))) fuel (k0 + (m + 1)) _ rfl (by omega) rfl fun l hl => ?_
          rcases Nat.lt_or_ge l (k0 + m) with g | g
          · exact hall2 l g
          · have : l = k0 + m := by omega
            subst this
            rw [advN_add]
            exact ⟨i, hi, fun z => by
              rw [e1] at z
              exact hkk (Option.some.inj z).symm.symm⟩
end
end SW

namespace SW
open PySem PySem.SetTable TB
section
variable {prog : Program} {w : World} {A : Around} {E : Value → Shared → Prop} {s : Shared}
theorem relay_five {S : Addr} {es : Array (Int × Value)} {ep : Nat} {t : SetTable} {o : Obj} {Q : Unit → Shared → Prop} (ho : s.heap.get? S = some o) (hex : o.ExactSet) (hd : o.data = .set es ep t) (T : PT t (hsOf es)) (hn : es.size = 5) (hl : t.led = !byText w)
    (h : ∀ h' es', Heap.SameBut S s.heap h' → SetAt w h' S es' (ep + 1) → es'.toList.Perm es.toList → Q () { s with heap := h' }) : wpAny (model prog w) A (setRelay S (grown es.size)) Q E s := by
  have hf := fits_of T
  obtain ⟨t2, order, e, a1, a2, a3, a4, a5⟩ := relay_says T hn
  unfold setRelay
  refine wpAny_bind (wpAny_setState_of ho hd hf ?_)
  dsimp only
  rw [if_neg (by rw [hn]; decide +kernel)]
  refine wpAny_bind ?_
  rw [e]
  show wpAny _ _ (if ((order.filterMap (es[·]?)).size != es.size) = true then _ else _) _ _ _
  rw [a4, if_neg (by simp)]
  refine wpAny_pure ?_
  show wpAny _ _ (storeSet S (order.filterMap (es[·]?)) t2) _ _ _
  refine wpAny_storeSet_of ho hd ?_ (sz_line (by omega))
  exact h _ _ (Heap.SameBut.update ..) ⟨_, t2, stored ho hd, hex, rfl, a5, by rw [a1]; exact hl⟩ a3
theorem tup_add {S a : Addr} {es : Array (Int × Value)} {ep : Nat} {us : List (List Int)} {k : List Int} {Q : Bool → Shared → Prop} (hu : A.units < cLine) (hS : SetAt w s.heap S es ep)
    (hes : Two (RT prog w s.heap) us es.toList) (hn : es.size ≤ 17) (hk : TK prog w s.heap k a) (hold : k ∈ us → Q false s) (hnew : k ∉ us → ∀ h', After w s.heap S es (hT prog w k, .ref a) h' → Q true { s with heap := h' }) :
    wpAny (model prog w) A (setAddHashed S (.ref a) (hT prog w k)) Q E s := by
  obtain ⟨o, t, ho, hex, hd, T, hl⟩ := hS
  have hf := fits_of T.toPT
  obtain ⟨e, he, hfr⟩ := free_some T.tab
  obtain ⟨K, hK, eK⟩ := meets_steps T.tab.mask (start_ok t.mask (hT prog w k)) he
  have hK5 : K < 100000 := by
    unfold turns at hK
    rcases T.tab.mask with z | z <;> rw [z] at hK <;> omega
  unfold setAddHashed setAddHashedIn
  refine wpAny_holding (wpAny_bind (wpAny_setState_of ho hd hf ?_))
  dsimp only
  have hbs : byScan (.ref a) es = false := by simp [byScan, Value.scannable]
  rw [hbs]
  simp only [Bool.false_eq_true, ↓reduceIte]
  unfold setSearch
  refine wpAny_bind (search_says hu ho hd T hes hk (fun hin => ?_) (fun hno j f2 f3 f4 => ?_) K (by rw [eK]; exact hfr) K 100000 0 none (by omega) hK5 rfl (fun l hl => absurd hl (by omega)))
  · dsimp only
    exact wpAny_pure (hold hin)
  · dsimp only
    obtain ⟨es1, t1, e1, e2, p2, hpm, hl1, hm1, p3⟩ : ∃ es1 t1, (t.put j).1 = t1 ∧ insertAt es (t.put j).2 (hT prog w k, .ref a) = es1 ∧ PT t1 (hsOf es1) ∧ es1.toList.Perm (es.toList ++ [(hT prog w k, .ref a)]) ∧ t1.led = (!byText w) ∧ t1.mask = t.mask ∧ es1.size = es.size + 1 := by
      obtain ⟨p1, p2, p3, p4⟩ := put_reach (x := .ref a) T hn f2 f3 f4
      rw [p1]
      exact ⟨_, _, rfl, rfl, p2, ins_list _ _ _, hl, rfl, p3⟩
    refine wpAny_bind (wpAny_setState_of ho hd hf ?_)
    dsimp only
    rw [e1, e2, p2.plain]
    simp only [↓reduceIte]
    refine wpAny_bind (by_value hk ?_)
    simp only [↓reduceIte, Bool.not_false, Bool.true_and]
    refine wpAny_bind (wpAny_storeSet_of ho hd ?_ (sz_line (by omega)))
    have g1 := stored (es' := es1) (t' := t1) ho hd
    have same1 := Heap.SameBut.update s.heap S (Obj.putSet es1 t1)
    cases hfull : t1.tooFull with
    | false =>
      simp only [Bool.false_eq_true, ↓reduceIte]
      exact wpAny_pure (hnew hno _ ⟨same1, es1, ep + 1, ⟨_, t1, g1, hex, rfl, not_full p2 hfull (by rw [hs_len]; omega), hl1⟩, hpm⟩)
    | true =>
      simp only [↓reduceIte]
      have h5 : es1.size = 5 := by
        have := is_full p2 hfull (by rw [hs_len]; omega) (fun z => by
          have := T.small (by rw [← hm1]; exact z)
          rw [hs_len] at this ⊢
          omega)
        rwa [hs_len] at this
      rw [show es.size + 1 = es1.size by omega]
      refine wpAny_bind (relay_five g1 hex rfl p2 h5 hl1 fun h' es' q1 q2 q3 => wpAny_pure ?_)
      exact hnew hno _ ⟨same1.trans q1, es', _, q2, q3.trans hpm⟩
/-! ### set(a list): the loop -/
structure Kind (prog : Program) (w : World) (κ : Type) where
  is : Heap → κ → Value → Prop
  hash : κ → Int
  room : Around → Prop
  keep : ∀ {h h' : Heap} {k : κ} {v : Value}, is h k v → (∀ b o, h.get? b = some o → o.cls ≠ .type "set" → o.cls ≠ .type "list_iterator" → h'.get? b = some o) → is h' k v
  pyHash : ∀ {A : Around} {E : Value → Shared → Prop} {s : Shared} {k : κ} {v : Value} {Q : Int → Shared → Prop}, room A → is s.heap k v → (∀ tk, Q (hash k) { s with toks := tk }) → wpAny (model prog w) A (PySem.pyHash v) Q E s
  add : ∀ {A : Around} {E : Value → Shared → Prop} {s : Shared} {S : Addr} {es : Array (Int × Value)} {ep : Nat} {us : List κ} {k : κ} {v : Value} {Q : Bool → Shared → Prop}, room A → SetAt w s.heap S es ep →
    Two (fun k (e : Int × Value) => e.1 = hash k ∧ is s.heap k e.2) us es.toList → es.size ≤ 17 → is s.heap k v → (k ∈ us → Q false s) → (k ∉ us → ∀ h', After w s.heap S es (hash k, v) h' → Q true { s with heap := h' }) →
    wpAny (model prog w) A (setAddHashed S v (hash k)) Q E s
def intK (prog : Program) (w : World) : Kind prog w Int where
  is := fun _ k v => (intKind prog w).is k v = true
  hash := (intKind prog w).hash
  room := fun _ => True
  keep := fun h _ => h
  pyHash := fun _ h q => (intKind prog w).pyHash h (q _)
  add := fun _ hS hu hn hk ho hw => scan_add hk hS (hu.imp fun _ _ z => ⟨z.2, z.1⟩) hn ho hw
def tupK (prog : Program) (w : World) : Kind prog w (List Int) where
  is := fun h k v => ∃ a, v = .ref a ∧ TK prog w h k a
  hash := hT prog w
  room := fun A => A.units < cLine
  keep := fun ⟨a, e, o, items, n, ho, hc, r⟩ f => ⟨a, e, o, items, n, f a o ho (by rw [hc]; decide) (by rw [hc]; decide), hc, r⟩
  pyHash := fun hu ⟨a, e, h⟩ q => by subst e; exact wpAny_pyHash_tuple hu h (q _)
  add := fun {A E s S es ep us k v Q} hu hS hes hn hk ho hw => by
    obtain ⟨a, rfl, hk⟩ := hk
    exact tup_add hu hS hes hn hk ho hw
variable {κ : Type}
/-- the set S holds the keys us, each once -/
def Holds (C : Kind prog w κ) (h : Heap) (S : Addr) (us : List κ) : Prop := ∃ es ep, SetAt w h S es ep ∧ Two (fun k (e : Int × Value) => e.1 = C.hash k ∧ C.is h k e.2) us es.toList ∧ us.Nodup
end
end SW

namespace SW
open PySem PySem.SetTable TB
section
variable {prog : Program} {w : World} {A : Around} {E : Value → Shared → Prop} {κ : Type}
theorem after_holds {C : Kind prog w κ} {h h' : Heap} {S : Addr} {es : Array (Int × Value)} {us : List κ} {k : κ} {v : Value} {o : Obj} (hS : h.get? S = some o) (hc : o.cls = .type "set") (hes : Two (fun k (e : Int × Value) => e.1 = C.hash k ∧ C.is h k e.2) us es.toList) (nd : us.Nodup) (hk : C.is h k v) (hno : k ∉ us) (ha : After w h S es (C.hash k, v) h') :
    ∃ us', Holds C h' S us' ∧ (∀ z, z ∈ us' ↔ z ∈ us ∨ z = k) ∧ us'.length = us.length + 1 := by
  obtain ⟨sb, es', ep', hat, pm⟩ := ha
  have kp : ∀ {k : κ} {v : Value}, C.is h k v → C.is h' k v := fun z => C.keep z fun b o' e1 e2 _ => (sb.2 b fun e => e2 (by rw [e, hS] at e1; rw [← Option.some.inj e1]; exact hc)).trans e1
  have z : Two (fun k (e : Int × Value) => e.1 = C.hash k ∧ C.is h' k e.2) (us ++ [k]) (es.toList ++ [(C.hash k, v)]) := (hes.imp fun _ _ q => ⟨q.1, kp q.2⟩).app (.cons ⟨rfl, kp hk⟩ .nil)
  obtain ⟨us', p1, p2⟩ := Two.perm pm.symm z
  refine ⟨us', ⟨es', ep', hat, p2, p1.nodup_iff.mp ?_⟩, fun x => ?_, ?_⟩
  · rw [List.nodup_append]
    exact ⟨nd, by simp, fun a ha b hb => by
      rw [List.mem_singleton.mp hb]
      exact fun e => hno (e ▸ ha)⟩
  · rw [← p1.mem_iff, List.mem_append, List.mem_singleton]
  · rw [← p1.length_eq, List.length_append]
    rfl
theorem upd_loop (C : Kind prog w κ) (hrm : C.room A.in1) (hh : A.in1.handled = none) {h0 : Heap} {I S l : Addr} {items : Array Value} {ks : List κ} (hlI : l ≠ I) (hSI : S ≠ I) (hSl : S ≠ l) (hn : items.size ≤ 18) (hks : ks.length = items.size)
    (hS0 : ∀ o, h0.get? S = some o → o.cls = .type "set") (hI0 : ∀ o, h0.get? I = some o → o.cls = .type "list_iterator") (hval : ∀ (i : Nat) (v : Value), items[i]? = some v → ∃ k, ks[i]? = some k ∧ C.is h0 k v) {R : Result → Shared → Prop} :
    ∀ (m i : Nat) (s : Shared) (us : List κ), items.size - i = m → i ≤ items.size → s.heap.IsListIter I l i → s.heap.IsList l items → Holds C s.heap S us → (∀ z, z ∈ us ↔ z ∈ ks.take i) → us.length ≤ i →
      (∀ b o, b ≠ S → b ≠ I → h0.get? b = some o → s.heap.get? b = some o) →
      (∀ h' tk us', Holds C h' S us' → (∀ z, z ∈ us' ↔ z ∈ ks) → (∀ b o, b ≠ S → b ≠ I → h0.get? b = some o → h'.get? b = some o) → R (.ok (.ret .none)) { s with heap := h', toks := tk }) →
      codeAny (model prog w) A (.builtin "set.update.loop" ⟨[.ref S, .ref I], []⟩) R s := by
  have W := Walks.list (prog := prog) (w := w) (A := A.in1) hh I l hlI items
  intro m
  induction m with
  | zero =>
    intro i s us hm hi st1 st2 hold hmem hlen hfr hR
    have e : i = items.size := by omega
    subst e
    refine codeAny_builtin PyProof.Rows.F.entry_set_update_loop ?_
    rw [Around.under_plainId PyProof.Rows.F.plain_set_update_loop _]
    refine wpAny_bind (m := pyNext (.ref I)) (W.done s _ _ ⟨st1, st2⟩ fun h' tk hk => wpAny_pure ?_)
    have hk' : ∀ b o, b ≠ I → s.heap.get? b = some o → h'.get? b = some o := fun b o hb e => hk b o (by simpa using hb) e
    refine hR h' tk us ?_ (fun z => by rw [hmem, List.take_of_length_le (by omega)]) fun b o h1 h2 e => hk' b o h2 (hfr b o h1 h2 e)
    obtain ⟨es, ep, a1, a2, a3⟩ := hold
    refine ⟨es, ep, a1.keep fun o e => hk' S o hSI e, a2.imp fun _ _ q => ⟨q.1, C.keep q.2 fun b o e1 _ e3 => hk' b o (fun z => ?_) e1⟩, a3⟩
    subst z
    obtain ⟨o', g1, g2, _⟩ := st1
    rw [g1] at e1
    exact e3 (by rw [← Option.some.inj e1]; exact g2)
  | succ m ih =>
    intro i s us hm hi st1 st2 hold hmem hlen hfr hR
    have hlt : i < items.size := by omega
    refine codeAny_builtin PyProof.Rows.F.entry_set_update_loop ?_
    rw [Around.under_plainId PyProof.Rows.F.plain_set_update_loop _]
    refine wpAny_bind (m := pyNext (.ref I)) (W.item i s _ _ hlt ⟨st1, st2⟩ fun v h' tk hv st' hk => ?_)
    have hk' : ∀ b o, b ≠ I → s.heap.get? b = some o → h'.get? b = some o := fun b o hb e => hk b o (by simpa using hb) e
    obtain ⟨k, hki, hkv⟩ := hval i v hv
    have hkv' : C.is h' k v := C.keep hkv fun b o e1 e2 e3 => hk' b o (fun z => e3 (hI0 o (z ▸ e1))) (hfr b o (fun z => e2 (hS0 o (z ▸ e1))) (fun z => e3 (hI0 o (z ▸ e1))) e1)
    obtain ⟨es, ep, a1, a2, a3⟩ := hold
    have a1' : SetAt w h' S es ep := a1.keep fun o e => hk' S o hSI e
    have a2' : Two (fun k (e : Int × Value) => e.1 = C.hash k ∧ C.is h' k e.2) us es.toList := a2.imp fun _ _ q => ⟨q.1, C.keep q.2 fun b o e1 _ e3 => hk' b o (fun z => by
      subst z
      obtain ⟨o', g1, g2, _⟩ := st1
      rw [g1] at e1
      exact e3 (by rw [← Option.some.inj e1]; exact g2)) e1⟩
    have hul : us.length = es.size := by
      have := a2'.len
      simpa using this
    have htk : ∀ z, z ∈ ks.take (i + 1) ↔ z ∈ us ∨ z = k := fun z => by
      rw [List.take_add_one, hki, List.mem_append, hmem]
      simp
    refine wpAny_bind (wpAny_holding ?_)
    unfold setAdd
    refine wpAny_holding (wpAny_bind (C.pyHash hrm hkv' fun tk2 => ?_))
    refine C.add (s := { s with heap := h', toks := tk2 }) hrm a1' a2' (by omega) hkv' (fun hin => ?_) fun hno h2 haf => ?_
    · refine wpAny_pure ⟨plainId_quiet PyProof.Rows.F.plain_set_update_loop _, ih (i + 1) { s with heap := h', toks := tk2 } us (by omega) hlt st'.1 st'.2 ⟨es, ep, a1', a2', a3⟩ (fun z => ?_) (by omega) (fun b o h1 h2 e => hk' b o h2 (hfr b o h1 h2 e)) fun h3 tk3 us3 b1 b2 b3 => hR h3 tk3 us3 b1 b2 b3⟩
      rw [htk]
      exact ⟨.inl, fun q => q.elim id fun e => e ▸ hin⟩
    · obtain ⟨o', t', o1, o2, _⟩ := id a1'
      obtain ⟨us2, c1, c2, c3⟩ := after_holds o1 o2.1 a2' a3 hkv' hno haf
      have sb := haf.1
      refine wpAny_pure ⟨plainId_quiet PyProof.Rows.F.plain_set_update_loop _, ih (i + 1) { s with heap := h2, toks := tk2 } us2 (by omega) hlt ?_ ?_ c1 (fun z => by rw [htk, c2]) (by omega) (fun b o h1 hbI e => (sb.2 b h1).trans (hk' b o hbI (hfr b o h1 hbI e))) fun h3 tk3 us3 b1 b2 b3 => hR h3 tk3 us3 b1 b2 b3⟩
      · exact st'.1.at fun o e => (sb.2 I (fun z => hSI z.symm)).trans e
      · exact st'.2.at fun o e => (sb.2 l (fun z => hSl z.symm)).trans e
end
end SW

namespace SW
open PySem PySem.SetTable TB
section
variable {prog : Program} {w : World} {A : Around} {E : Value → Shared → Prop} {s : Shared} {κ : Type}
theorem new_set (a : Value) {Q₁ : Value → Shared → Prop} (h : Q₁ (.ref s.heap.objs.size) { s with heap := s.heap.push { cls := .type "set", dict := none, data := .set #[] 0 (.fresh 0 0 (!byText w)) } }) :
    codeAny (model prog w) A (.call (.builtin "set.__new__") ⟨[.type "set", a], []⟩) (wants Q₁ E) s := by
  refine codeAny_of_tree (wpAny_bind (m := checkBuiltinCall "set.__new__" ⟨[.type "set", a], []⟩) (wpAny_of_eq (F.newCall_set_1 a) (wpAny_pure ⟨plainId_quiet F.plain_set_new _, codeAny_builtin F.entry_set_new ?_⟩)))
  rw [Around.under_plainId F.plain_set_new _]
  unfold Builtin.«set.__new__»
  refine wpAny_bind ?_
  have hc : wpAny (model prog w) A.in1 (Builtin.Frozenset.newClass "set" ⟨[.type "set", a], []⟩) (fun r s' => r = (.type "set", [a]) ∧ s' = s) E s := by
    unfold Builtin.Frozenset.newClass
    have hsub := sub_set_self
    wp_walk
    exact ⟨rfl, rfl⟩
  refine wpAny_mono hc (fun r s' z => ?_) fun e s' z => z
  obtain ⟨rfl, rfl⟩ := z
  refine wpAny_bind ?_
  unfold newSet
  refine wpAny_bind (sets_text ?_)
  simp only [newObj]
  refine wpAny_bind (wpAny_alloc (wpAny_pure ?_))
  exact wpAny_pure h
/-- set(l) of a list: the keys of its items, each once -/
theorem call_set (C : Kind prog w κ) (hrm : C.room A.in1.in1.in1) (hh : A.handled = none) {l : Addr} {items : Array Value} {ks : List κ} {Q : Value → Shared → Prop} (hl : s.heap.IsList l items) (hn : items.size ≤ 18) (hks : ks.length = items.size)
    (hval : ∀ (i : Nat) (v : Value), items[i]? = some v → ∃ k, ks[i]? = some k ∧ C.is s.heap k v)
    (h : ∀ (h' : Heap) (tk : Nat) (us : List κ), Holds C h' s.heap.objs.size us → (∀ z, z ∈ us ↔ z ∈ ks) → (∀ b o, s.heap.get? b = some o → h'.get? b = some o) → Q (.ref s.heap.objs.size) { s with heap := h', toks := tk }) :
    wpAny (model prog w) A (call (.type "set") [.ref l]) Q E s := by
  obtain ⟨c, tl, hmro⟩ := F.called_set.mro; have hmade := F.called_set.made; have hsub := F.called_set.sub
  refine wpAny_call (codeAny_of_tree ?_); show wpAny _ _ (callAny (.type "set") _) _ _ _
  refine wpAny_pure ⟨Code.quiet_builtin _ (by decide +kernel), codeAny_builtin F.entry_type_call ?_⟩; rw [Around.under_plain (weight_type_call_type "set" [.ref l] []) rfl]
  have h1 := F.called_set.notType; have h2 := F.called_set.canCreate; have hct := F.typeCall_set_1 (.ref l)
  repeat any_goals first | assumption | wp_step
  refine codeAny_mono (new_set (.ref l) (E := E) (Q₁ := fun obj s₁ => obj = .ref s.heap.objs.size ∧ s₁ = { s with heap := s.heap.push ({ cls := .type "set", dict := none, data := .set #[] 0 (.fresh 0 0 (!byText w)) } : Obj) }) ⟨rfl, rfl⟩) fun r s₁ hr => ?_
  cases r with
  | error e => exact hr
  | ok fl =>
    cases fl with
    | ret obj =>
      obtain ⟨rfl, rfl⟩ := hr
      have hS : (s.heap.push ({ cls := .type "set", dict := none, data := .set #[] 0 (.fresh 0 0 (!byText w)) } : Obj)).get? s.heap.objs.size = some ({ cls := .type "set", dict := none, data := .set #[] 0 (.fresh 0 0 (!byText w)) } : Obj) := Heap.get?_push_size _ rfl
      have hT : Shared.TypeIs { s with heap := s.heap.push ({ cls := .type "set", dict := none, data := .set #[] 0 (.fresh 0 0 (!byText w)) } : Obj) } (.ref s.heap.objs.size) "set" := ⟨_, hS, rfl⟩
      have hli := F.called_set.init.lookup; have hbi := F.called_set.init.bind (.ref s.heap.objs.size)
      repeat any_goals first | assumption | wp_step
      refine codeAny_mono (codeAny_call_builtin (R := wants (fun r s₂ => r = .none ∧ ∃ h' tk us, s₂ = { s with heap := h', toks := tk } ∧ Holds C h' s.heap.objs.size us ∧ (∀ z, z ∈ us ↔ z ∈ ks) ∧ (∀ b o, s.heap.get? b = some o → h'.get? b = some o)) E) F.called_set.init.plain F.entry_set_init (check_set_init_1 hT ?_)) fun r₂ s₂ hr₂ => ?_
      · obtain ⟨ol, hol, hcl, nl, hdl⟩ := hl
        obtain ⟨ocls, odict, odata, oslots⟩ := ol
        simp only at hcl hdl
        subst hcl hdl
        have hol' : (s.heap.push ({ cls := .type "set", dict := none, data := .set #[] 0 (.fresh 0 0 (!byText w)) } : Obj)).get? l = some { cls := .type "list", dict := odict, data := .seq items nl, slots := oslots } := Heap.get?_push_of_some _ hol
        have hsls := F.sub_list_set; have hslf := F.sub_list_frozenset; have hne : (Value.type "list" == Value.type "dict") = false := by decide
        have hl1 : (s.heap.push ({ cls := .type "set", dict := none, data := .set #[] 0 (.fresh 0 0 (!byText w)) } : Obj)).IsList l items := ⟨_, hol', rfl, nl, rfl⟩
        have hlS : l < s.heap.objs.size := Heap.lt_size hol
        have hz : (s.heap.push ({ cls := .type "set", dict := none, data := .set #[] 0 (.fresh 0 0 (!byText w)) } : Obj)).objs.size = s.heap.objs.size + 1 := by rw [Heap.size_push]
        unfold Builtin.«set.__init__» noKeywords Builtin.Frozenset.updateFrom
        generalize hPI : pyIter = PI
        wp_walk
        subst hPI
        refine wpAny_pyIter_list hl1 (wpAny_bind (wpAny_runValue ?_))
        have g1 : ((s.heap.push ({ cls := .type "set", dict := none, data := .set #[] 0 (.fresh 0 0 (!byText w)) } : Obj)).push { cls := .type "list_iterator", data := .fields #[.ref l, .int 0 0] }).get? s.heap.objs.size = some ({ cls := .type "set", dict := none, data := .set #[] 0 (.fresh 0 0 (!byText w)) } : Obj) := Heap.get?_push_of_some _ hS
        have g2 : ((s.heap.push ({ cls := .type "set", dict := none, data := .set #[] 0 (.fresh 0 0 (!byText w)) } : Obj)).push { cls := .type "list_iterator", data := .fields #[.ref l, .int 0 0] }).get? (s.heap.push ({ cls := .type "set", dict := none, data := .set #[] 0 (.fresh 0 0 (!byText w)) } : Obj)).objs.size = some { cls := .type "list_iterator", data := .fields #[.ref l, .int 0 0] } := Heap.get?_push_size _ rfl
        refine upd_loop C hrm (by simp [hh]) (h0 := (s.heap.push ({ cls := .type "set", dict := none, data := .set #[] 0 (.fresh 0 0 (!byText w)) } : Obj)).push { cls := .type "list_iterator", data := .fields #[.ref l, .int 0 0] }) (l := l) (items := items) (ks := ks) (by rw [hz]; exact Nat.ne_of_lt (Nat.lt_succ_of_lt hlS)) (by rw [hz]; exact Nat.ne_of_lt (Nat.lt_succ_self _)) (Nat.ne_of_gt hlS) hn hks (fun o e => ?_) (fun o e => ?_) (fun i v hv => ?_) (items.size - 0) 0 _ [] rfl (Nat.zero_le _) ⟨_, g2, rfl, rfl⟩ (hl1.push _) ⟨#[], 0, ⟨({ cls := .type "set", dict := none, data := .set #[] 0 (.fresh 0 0 (!byText w)) } : Obj), _, g1, ⟨rfl, rfl, rfl⟩, rfl, tt_fresh _, rfl⟩, .nil, List.nodup_nil⟩ (fun z => by simp) (Nat.le_refl _) (fun b o _ _ e => e) fun h' tk us b1 b2 b3 => ?_
        · rw [g1] at e
          rw [← Option.some.inj e]
        · rw [g2] at e
          rw [← Option.some.inj e]
        · obtain ⟨k, q1, q2⟩ := hval i v hv
          exact ⟨k, q1, C.keep q2 fun b o e _ _ => Heap.get?_push_of_some _ (Heap.get?_push_of_some _ e)⟩
        · show wpAny _ _ _ _ _ _
          refine wpAny_pure ?_
          show wpAny _ _ (ret Value.none) _ _ _
          refine wpAny_pure ⟨rfl, h', tk, us, rfl, b1, b2, fun b o e => b3 b o ?_ ?_ (Heap.get?_push_of_some _ (Heap.get?_push_of_some _ e))⟩
          · exact Nat.ne_of_lt (Heap.lt_size e)
          · rw [hz]
            exact Nat.ne_of_lt (Nat.lt_succ_of_lt (Heap.lt_size e))
      · cases r₂ with
        | error e => exact hr₂
        | ok fl₂ =>
          cases fl₂ with
          | ret r =>
            obtain ⟨rfl, h', tk, us, rfl, hS', hm', hk'⟩ := hr₂
            repeat any_goals first | assumption | wp_step
            exact h _ _ us hS' hm' hk'
          | _ => exact hr₂.elim
    | _ => exact hr.elim
end
end SW

namespace SW
open PySem PySem.SetTable TB
section
variable {prog : Program} {w : World} {A : Around} {E : Value → Shared → Prop} {s : Shared} {κ : Type}
theorem hint_set {r : Addr} {Q : Bool → Shared → Prop} (hT : s.TypeIs (.ref r) "set") (h : Q false s) : wpAny (model prog w) A (Builtin.List.listLengthHint (.ref r)) Q E s := by
  unfold Builtin.List.listLengthHint; refine wpAny_bind (wpAny_specialOf hT PySem.F.slot_set_len.lookup ?_)
  generalize hid : ("set.__len__" : String) = id0
  wp_delta; rw [show splitId id0 = some ("set", "__len__") from by subst hid; decide +kernel]; subst hid
  refine wpAny_bind (wpAny_isInstance (T := "set") (b := true) hT (by rw [isSubtype_type]; kernel_rfl) ?_)
  refine wpAny_ite_split (fun z => absurd z (by decide)) (fun _ => wpAny_ite_split (fun _ => ?_) (fun z => absurd (by decide +kernel) z))
  exact wpAny_bind (wpAny_typeOf hT (wpAny_pure h))
theorem src_set {S : Addr} {es : Array (Int × Value)} {ep : Nat} : PySem.W.KdlSrc prog w "set" S S es.size (fun i v => ∃ x, (orderOf w S es ep)[i]? = some x ∧ v = x.2) (fun h => SetAt w h S es ep) where
  type := fun _ hm => hm.typeIs
  there := fun _ hm => ⟨hm.lt, hm.lt⟩
  keep := fun _ _ hm hk => hm.keep fun o e => hk S (.inl rfl) o e
  notList := by decide
  notTuple := by decide
  hint := fun _ _ _ _ hm hq => hint_set hm.typeIs hq
  iter := fun A s hh hm => by
    obtain ⟨o, t, ho, hc, hd, T, hl⟩ := id hm
    refine ⟨_, _, fun _ _ hq => iter_set hm hq, walks_set hh s.heap.objs.size S (Nat.ne_of_lt hm.lt) es ep, 0, o, t, ⟨_, Heap.get?_push_size _ rfl, rfl, rfl⟩, Heap.get?_push_of_some _ ho, hc, hd, T, hl, at_zero T.tab⟩
theorem snd_two {C : Kind prog w κ} {h : Heap} {us : List κ} {l : List (Int × Value)} (t : Two (fun k (e : Int × Value) => e.1 = C.hash k ∧ C.is h k e.2) us l) : Two (fun k v => C.is h k v) us (l.map (·.2)) := by
  induction t with
  | nil => exact .nil
  | cons r _ ih => exact .cons r.2 ih
/-- the items of a set in the order of a walk -/
theorem collect_set (C : Kind prog w κ) (hh : A.handled = none) {S : Addr} {us : List κ} {R : List Value → Shared → Prop} (hS : Holds C s.heap S us) (hn : us.length ≤ 18)
    (h : ∀ (h' : Heap) (tk : Nat) (vs : List Value) (us' : List κ), (∀ b o, s.heap.get? b = some o → h'.get? b = some o) → us'.Perm us → Two (fun k v => C.is s.heap k v) us' vs → R vs { s with heap := h', toks := tk }) :
    wpAny (model prog w) A (collect (.ref S)) R E s := by
  obtain ⟨es, ep, a1, a2, a3⟩ := hS
  have hl : es.size = us.length := by
    have := a2.len
    simp at this
    omega
  refine PySem.W.kdu_collect (src_set (prog := prog) (w := w) (S := S) (es := es) (ep := ep)) hh a1 (sz_line (by omega)) fun h' tk acc hk hacc => ?_
  obtain ⟨us', p1, p2⟩ := Two.perm (order_perm w S es ep).symm a2
  refine h h' tk acc.toList us' hk p1.symm ?_
  have e : acc.toList = (orderOf w S es ep).toList.map (·.2) := by
    refine List.ext_getElem? fun i => ?_
    rw [List.getElem?_map, Array.getElem?_toList, Array.getElem?_toList]
    cases c : acc[i]? with
    | none =>
      have : acc.size ≤ i := Array.getElem?_eq_none_iff.mp c
      rw [Array.getElem?_eq_none (by rw [order_size, ← hacc.1]; exact this)]
      rfl
    | some v =>
      obtain ⟨x, hx, rfl⟩ := hacc.2 i v c
      rw [hx]
      rfl
  rw [e]
  exact snd_two p2
end
end SW

/-! sorted(set(a list of ints)) -/
namespace SW
open PySem TB
theorem Holds.le {prog : Program} {w : World} {κ : Type} {C : Kind prog w κ} {h : Heap} {S : Addr} {us : List κ} (x : Holds C h S us) : us.length ≤ 18 := by
  obtain ⟨es, ep, ⟨o, t, _, _, _, T, _⟩, a2, _⟩ := x
  have h1 : us.length = es.size := by
    have z := a2.len
    simpa using z
  have h2 := T.most
  rw [hs_len] at h2
  rw [h1]
  exact h2
theorem Holds.nodup {prog : Program} {w : World} {κ : Type} {C : Kind prog w κ} {h : Heap} {S : Addr} {us : List κ} (x : Holds C h S us) : us.Nodup := let ⟨_, _, _, _, n⟩ := x; n
end SW
namespace L2
open PySem PySem.Spec PyProof.Rows
section
variable {X : Cx}
theorem two_ints {prog : Program} {w : World} {h : Heap} {ks : List Int} {vs : List Value} (t : SW.Two (fun k v => (SW.intK prog w).is h k v) ks vs) : IntsAre vs ks := by
  induction t with
  | nil => exact .nil
  | cons r _ ih =>
    obtain ⟨tk, rfl⟩ := Value.isInt_shape r
    exact .cons _ tk ih
theorem sorted_holds (hc : X.calm = true) {pins : List (Addr × Obj)} {s : Shared} {σ : St} {H : Hp} {S : Addr} {us : List Int} {Q : VK} (I : Inv X pins σ H s) (hS : SW.Holds (SW.intK X.prog X.w) s.heap S us)
    (q : ∀ (l : Addr) (ns' : List Int), H l = none → List.Perm ns' us → List.Pairwise (· ≤ ·) ns' → Q (.ref l) (upd H l (.lst (List.map V.int ns')))) :
    wpAny (model X.prog X.w) X.A (call (.builtin "sorted") [.ref S]) (EP X pins σ Q) X.xe s := by
  have h18 := hS.le
  refine Calls.call_function_entry kind_sorted plain_sorted entry_sorted (args_sorted1 _) ?_
  unfold Builtin.«sorted»
  refine wpAny_bind (m := checkCount "sorted" 1 1 _) (wpAny_pure ?_)
  refine wpAny_bind (SW.collect_set (A := X.A.in1) (SW.intK X.prog X.w) (I.ok.hd hc) hS h18 fun h' tk vs us' hkp hpm htw => ?_)
  have hints := two_ints htw
  have hl : vs.length = us.length := by rw [← htw.len, hpm.length_eq]
  refine wpAny_bind (wpAny_newList ?_ (SW.sz_line (by omega)))
  have I1 : Inv X pins σ H { s with heap := h', toks := tk } := I.kept hkp
  have hoL : (h'.push (seqObj "list" vs.toArray 0)).get? h'.objs.size = some (seqObj "list" vs.toArray 0) := Heap.get?_push_size _ rfl
  refine wpAny_bind (wpAny_holding (wpAny_call_entry slot_list_sort ⟨_, hoL, rfl⟩ entry_list_sort (list_sort_tree hoL hints (by omega) fun out ns' a1 a2 a3 => ⟨_, rfl, ?_⟩) (args_list_sort _)))
  refine wpAny_pure ⟨_, rfl, ?_⟩
  obtain ⟨e, he⟩ := sortedHeap_at (out := out) hoL
  have I2 : Inv X pins σ (upd H h'.objs.size (.lst (ns'.map V.int))) { s with heap := sortedHeap (h'.push (seqObj "list" vs.toArray 0)) h'.objs.size vs out, toks := tk } := by
    refine I1.laid (t' := tk) (fun b o eb => ?_) (Nat.le_refl _) ?_
    · have hb : b < h'.objs.size := Heap.lt_size eb
      rw [sortedHeap_old (Nat.ne_of_lt hb) (by rw [size_push']; exact Nat.lt_succ_of_lt hb)]
      exact Heap.get?_push_of_some _ eb
    · refine ⟨?_, out.toList, e, vals_ints a1, by simpa using he⟩
      rw [List.length_map, a2.length_eq]
      exact Nat.le_of_lt (small1000 (by rw [hpm.length_eq]; omega))
  exact ⟨.ref h'.objs.size, _, I2, rfl, q _ ns' (I1.hok.fresh (Nat.le_refl _)) (a2.trans hpm) a3⟩
def rSset (K : PySem.W.Frag) : V → Hp → VK → Prop := fun x H Q => ∃ (p : Addr) (ns : List Int), x = .ref p ∧ SqL K H p (ns.map V.int) ∧ ns.length ≤ 18 ∧
  ∀ (l : Addr) (ns' : List Int), H l = none → ns'.Nodup → (∀ z, z ∈ ns' ↔ z ∈ ns) → List.Pairwise (· ≤ ·) ns' → Q (.ref l) (upd H l (.lst (List.map V.int ns')))
theorem pe_sset {e : Expr} {te : TE} {p1 p2 q1 q2 : Pos} (hc : X.calm = true) (hg1 : Gl X "sorted") (hm1 : X.mg "sorted" = none) (hg2 : Gl X "set") (hm2 : X.mg "set" = none) (he : PE X e te)
    (hs : starEach [e] X.env = [(false, eval e X.env)] := by rfl) (hs2 : starEach [.Call (.Name "set" p2) [e] [] q2] X.env = [(false, eval (.Call (.Name "set" p2) [e] [] q2) X.env)] := by rfl) :
    PE X (.Call (.Name "sorted" p1) [.Call (.Name "set" p2) [e] [] q2] [] q1) (fun σ H Q => te σ H fun x H1 => rSset X.K x H1 Q) := by
  intro pins s σ H Q I h
  refine wpAny_Call_Name_kw (ld_blt I hg1 hm1 boot_sorted ?_)
  refine PyProof.Rows.callWith_builtin1 ?_ hs2 rfl
  rw [hs2]
  show wpAny _ _ (spliced ((false, eval (.Call (.Name "set" p2) [e] [] q2) X.env) :: backTo q1 (starEach [] X.env))) _ _ s
  refine Calls.spliced_cons (wpAny_Call_Name_kw (ld_blt I hg2 hm2 boot_set ?_))
  refine PyProof.Rows.callWith_type1 (thn (pa_cons he (pa_nil (X := X)) (by rw [hs]; rfl) q2 pins s σ H (oneV fun x H1 => rSset X.K x H1 Q) I h) fun us s1 ⟨vs, H1, I1, r1, q1'⟩ => ?_) hs rfl
  obtain ⟨x, e1, p, ns, rfl, hq, h18, q⟩ := oneV_inv q1'
  subst e1
  obtain ⟨u, rfl, ru⟩ := vals1 r1
  cases ru
  obtain ⟨its, rv, pl, hz⟩ := I1.list hq
  have hi := intsAre_of rv
  have hil : its.length = ns.length := IntsAre.length hi
  refine SW.call_set (SW.intK X.prog X.w) trivial (I1.ok.hd hc) pl.isList (ks := ns) (by simp; omega) (by simp [hil]) (fun i v hv => ?_) fun h' tk us2 hS hm hk => ?_
  · have hv' : its[i]? = some v := by simpa using hv
    obtain ⟨t, rfl⟩ := IntsAre.int_at hi i v hv'
    have hlt : i < ns.length := by
      have := (List.getElem?_eq_some_iff.mp hv').1
      omega
    refine ⟨ns.getD i 0, ?_, intKind_is _ _ _ _⟩
    rw [List.getD_eq_getElem?_getD, List.getElem?_eq_getElem hlt]
    rfl
  · have I2 : Inv X pins σ H1 { s1 with heap := h', toks := tk } := I1.kept hk
    refine Calls.spliced_nil (sorted_holds hc I2 hS fun l ns' h1 h2 h3 => q l ns' h1 (h2.nodup_iff.mpr hS.nodup) (fun z => ?_) h3)
    rw [h2.mem_iff]
    exact hm z
end
end L2

/-! for x, y in zip(a list, a list) -/
namespace L2
open PySem PySem.Spec PyProof.Rows
/-- the zip's five records are unlike -/
structure Zp (z TI TO i1 i2 : Addr) : Prop where
  a1 : TI ≠ z
  a2 : TO ≠ z
  a3 : i1 ≠ z
  a4 : i2 ≠ z
  a5 : TI ≠ TO
  a6 : TI ≠ i1
  a7 : TI ≠ i2
  a8 : TO ≠ i1
  a9 : TO ≠ i2
  b1 : i1 ≠ i2
def Itz (K : PySem.W.Frag) (a b : Addr) : It :=
  ⟨fun i H => ∃ xs ys x y, SqL K H a xs ∧ SqL K H b ys ∧ xs[i]? = some x ∧ ys[i]? = some y,
   fun i H x H' => ∃ t u v, H t = none ∧ x = .ref t ∧ H' = upd H t (.tup [u, v]) ∧ (∀ xs, SqL K H a xs → xs[i]? = some u) ∧ (∀ ys, SqL K H b ys → ys[i]? = some v),
   fun i H => ∃ xs ys, SqL K H a xs ∧ SqL K H b ys ∧ (xs.length ≤ i ∨ ys.length ≤ i)⟩
theorem zp_apart {h : Heap} {z TI TO i1 i2 l1 l2 : Addr} {f0 : Value} {ta tb : Value} {k1 k2 : Nat} {xs ys : Array Value} (D : Zp z TI TO i1 i2) (hz : IsZip h z TI TO f0) (hTO : IsPair h TO ta tb) (h1 : h.IsListIter i1 l1 k1) (h2 : h.IsListIter i2 l2 k2) (hl1 : h.IsList l1 xs) (hl2 : h.IsList l2 ys) : ZipApart z TI TO i1 i2 l1 l2 := by
  have ne : ∀ {c l : Addr} {o : Obj} {ws : Array Value}, h.get? c = some o → o.cls ≠ .type "list" → h.IsList l ws → l ≠ c := fun hc hn ⟨o', e1, e2, _⟩ z => by
    subst z
    rw [hc] at e1
    exact hn (by rw [Option.some.inj e1]; exact e2)
  obtain ⟨o1, c1, c2, _⟩ := h1
  obtain ⟨o2, d1, d2, _⟩ := h2
  exact ⟨D.a1, D.a2, D.a3, D.a4, D.a5, D.a6, D.a7, D.a8, D.a9, D.b1, ne hz (by simp) hl1, ne hTO (by simp) hl1, ne c1 (by rw [c2]; decide) hl1, ne d1 (by rw [d2]; decide) hl1, ne hz (by simp) hl2, ne hTO (by simp) hl2, ne c1 (by rw [c2]; decide) hl2, ne d1 (by rw [d2]; decide) hl2⟩
theorem turn_zip {P : Program} {w : World} {K : PySem.W.Frag} {es : List Expr} {k1 : Nat} {pos : Pos} (a b z TI TO i1 i2 : Addr) (D : Zp z TI TO i1 i2) :
    Turn P w K (.Tuple es k1 pos) (Itz K a b) [z, TI, TO, i1, i2] z (fun i h => IsZip h z TI TO .none ∧ IsPair h TI (.ref i1) (.ref i2) ∧ (∃ c d, IsPair h TO c d) ∧ h.IsListIter i1 a i ∧ h.IsListIter i2 b i) where
  mem := by simp
  obj := fun i h st c hc => by
    obtain ⟨h1, h2, ⟨p, q, h3⟩, ⟨o4, h4, _, e4⟩, ⟨o5, h5, _, e5⟩⟩ := st
    simp only [List.mem_cons, List.not_mem_nil, or_false] at hc
    rcases hc with rfl | rfl | rfl | rfl | rfl
    · exact ⟨_, h1, fun v y => by cases y⟩
    · exact ⟨_, h2, fun v y => by cases y⟩
    · exact ⟨_, h3, fun v y => by cases y⟩
    · exact ⟨o4, h4, fun v y => by rw [e4] at y; cases y⟩
    · exact ⟨o5, h5, fun v y => by rw [e5] at y; cases y⟩
  keep := fun i h h' st k => by
    obtain ⟨h1, h2, ⟨p, q, h3⟩, h4, h5⟩ := st
    exact ⟨k z (by simp) _ h1, k TI (by simp) _ h2, ⟨p, q, k TO (by simp) _ h3⟩, h4.at fun o e => k i1 (by simp) o e, h5.at fun o e => k i2 (by simp) o e⟩
  item := by
    intro X hP hw hK hc i pins s σ H E I hf st hg
    subst hP hw hK
    obtain ⟨xs, ys, x, y, hq1, hq2, hx, hy⟩ := hg
    obtain ⟨its1, rv1, p1, _⟩ := I.list hq1
    obtain ⟨its2, rv2, p2, _⟩ := I.list hq2
    obtain ⟨u1, hu1, ru1⟩ := rv1.get hx
    obtain ⟨u2, hu2, ru2⟩ := rv2.get hy
    obtain ⟨h1, h2, ⟨p, q, h3⟩, h4, h5⟩ := st
    have DA := zp_apart D h1 h3 h4 h5 p1.isList p2.isList
    refine wpAny_pyNext_zip_item DA h1 h2 h3 h4 h5 p1.isList p2.isList (x := u1) (y := u2) (by simpa using hu1) (by simpa using hu2) fun h' g1 g2 g3 g4 g5 g6 hk => ?_
    refine ⟨_, rfl, wpAny_letOwnedTupleGo_zip g1 fun h'' g1' hs'' => ?_⟩
    have hzl : z < s.heap.objs.size := Heap.lt_size h1
    have hTl : TO < s.heap.objs.size := Heap.lt_size h3
    have hIl : TI < s.heap.objs.size := Heap.lt_size h2
    have h1l : i1 < s.heap.objs.size := by
      obtain ⟨o, e, _⟩ := h4
      exact Heap.lt_size e
    have h2l : i2 < s.heap.objs.size := by
      obtain ⟨o, e, _⟩ := h5
      exact Heap.lt_size e
    have kk : ∀ c o, c ≠ z → c ≠ TO → c ≠ i1 → c ≠ i2 → s.heap.get? c = some o → h''.get? c = some o := fun c o n1 n2 n3 n4 e => hs''.extBut c o n1 (hk c o n1 n2 n3 n4 e)
    have kc : ∀ c o, c ∉ [z, TO, i1, i2] → s.heap.get? c = some o → h''.get? c = some o := fun c o hn e => kk c o (fun y => hn (by simp [y])) (fun y => hn (by simp [y])) (fun y => hn (by simp [y])) (fun y => hn (by simp [y])) e
    have hn : H s.heap.objs.size = none := I.hok.fresh (Nat.le_refl _)
    have ht'' : IsPair h'' s.heap.objs.size u1 u2 := hs''.extBut _ _ (Nat.ne_of_gt hzl) g5
    have nt : ∀ c o, H c = some o → c ∉ [z, TO, i1, i2] := fun c o e hm => by
      have : c ∈ [z, TI, TO, i1, i2] := by
        simp only [List.mem_cons, List.not_mem_nil, or_false] at hm ⊢
        rcases hm with y | y | y | y <;> simp [y]
      rw [(hf c this).1] at e
      cases e
    have I1 : Inv X pins σ (upd H s.heap.objs.size (.tup [x, y])) { s with heap := h'', toks := s.toks } := by
      refine I.step (g' := s.gens) (d' := s.drawn) (t' := s.toks) (ch := [z, TO, i1, i2]) (fun c hc' => ?_) (fun c o _ _ hc' e _ => kc c o hc' e) (fun c o _ _ hc' e _ => ⟨o.slots, kc c o hc' e⟩) (fun c o _ e n => ?_) (fun c o hc' e => ⟨o, kc c o hc' e⟩) (fun c ws e => ?_) (fun c ob ws e => ?_) (fun c ps e => ⟨#[], ?_⟩) (fun m hm => ?_) (fun c ob e => ?_) I.bare
      · have hc2 : c ∈ [z, TI, TO, i1, i2] := by
          simp only [List.mem_cons, List.not_mem_nil, or_false] at hc' ⊢
          rcases hc' with y | y | y | y <;> simp [y]
        obtain ⟨f0, f1, f2, f3, f4, f5⟩ := hf c hc2
        exact ⟨f3, f1, f4, f5⟩
      · rw [upd_ne (Nat.ne_of_lt (Heap.lt_size e))]
        exact n
      · rw [upd_ne (ne_of_none e hn)]
        exact e
      · rw [upd_ne (ne_of_none e hn)]
        exact e
      · rw [upd_ne (ne_of_none e hn), e]
        simp
      · obtain ⟨o, es', ep, ho, r⟩ := hm
        have nl : ∀ c, c ∈ [z, TI, TO, i1, i2] → c ≠ X.env.locals := fun c hc2 => (hf c hc2).2.1
        exact ⟨o, es', ep, kk _ o (nl z (by simp)).symm (nl TO (by simp)).symm (nl i1 (by simp)).symm (nl i2 (by simp)).symm ho, r⟩
      · by_cases hb : c = s.heap.objs.size
        · subst hb
          rw [upd_same] at e
          cases e
          exact ⟨by show 2 ≤ sizeLine; decide, [u1, u2], .cons ru1 (.cons ru2 .nil), ⟨_, ht'', rfl, _, rfl⟩⟩
        · rw [upd_ne hb] at e
          refine (I.hok c ob e).stay (fun d v hd y => ?_) (fun d y => by rw [upd_ne (ne_of_none y hn)]; exact y) fun d ws y => by rw [upd_ne (ne_of_none y hn)]; exact y
          rcases hd with hd | hd
          · subst hd
            exact kc _ v (nt _ _ e) y
          · exact kc _ v (nt _ _ hd) y
    refine ⟨.ref s.heap.objs.size, _, I1, rfl, ⟨s.heap.objs.size, x, y, hn, rfl, rfl, fun ws hw => by rw [I.list_inj hw hq1]; exact hx, fun ws hw => by rw [I.list_inj hw hq2]; exact hy⟩, ⟨g1', hs''.extBut _ _ D.a1 (hk _ _ D.a1 D.a5 D.a6 D.a7 h2), ⟨_, _, hs''.extBut _ _ D.a2 g2⟩, g3.at fun o e => hs''.extBut i1 o D.a3 e, g4.at fun o e => hs''.extBut i2 o D.a4 e⟩, fun c hc' => ?_⟩
    have hlt : c < s.heap.objs.size := by
      simp only [List.mem_cons, List.not_mem_nil, or_false] at hc'
      rcases hc' with rfl | rfl | rfl | rfl | rfl
      · exact hzl
      · exact hIl
      · exact hTl
      · exact h1l
      · exact h2l
    rw [upd_ne (Nat.ne_of_lt hlt)]
    exact (hf c hc').1
  done := by
    intro X hP hw hK hc i pins s σ H E I hf st hg
    subst hP hw hK
    obtain ⟨xs, ys, hq1, hq2, hx⟩ := hg
    obtain ⟨its1, rv1, p1, _⟩ := I.list hq1
    obtain ⟨its2, rv2, p2, _⟩ := I.list hq2
    obtain ⟨h1, h2, ⟨p, q, h3⟩, h4, h5⟩ := st
    have DA := zp_apart D h1 h3 h4 h5 p1.isList p2.isList
    have l1 := rv1.length
    have l2 := rv2.length
    refine wpAny_pyNext_zip_end (I.ok.hd hc) DA h1 h2 h3 h4 h5 p1.isList p2.isList ?_ fun h' hk => ⟨rfl, ?_⟩
    · rcases hx with hx | hx
      · exact .inl (by simp; omega)
      · exact .inr (by simp; omega)
    have kc : ∀ c o, c ∉ [z, TO, i1, i2] → s.heap.get? c = some o → h'.get? c = some o := fun c o hn e => hk c o (fun y => hn (by simp [y])) (fun y => hn (by simp [y])) (fun y => hn (by simp [y])) (fun y => hn (by simp [y])) e
    have nt : ∀ c o, H c = some o → c ∉ [z, TO, i1, i2] := fun c o e hm => by
      have : c ∈ [z, TI, TO, i1, i2] := by
        simp only [List.mem_cons, List.not_mem_nil, or_false] at hm ⊢
        rcases hm with y | y | y | y <;> simp [y]
      rw [(hf c this).1] at e
      cases e
    refine I.step (g' := s.gens) (d' := s.drawn) (t' := s.toks) (ch := [z, TO, i1, i2]) (fun c hc' => ?_) (fun c o _ _ hc' e _ => kc c o hc' e) (fun c o _ _ hc' e _ => ⟨o.slots, kc c o hc' e⟩) (fun c o _ e n => n) (fun c o hc' e => ⟨o, kc c o hc' e⟩) (fun c ws e => e) (fun c ob ws e => e) (fun c ps e => ⟨#[], by rw [e]; simp⟩) (fun m hm => ?_) (fun c ob e => ?_) I.bare
    · have hc2 : c ∈ [z, TI, TO, i1, i2] := by
        simp only [List.mem_cons, List.not_mem_nil, or_false] at hc' ⊢
        rcases hc' with y | y | y | y <;> simp [y]
      obtain ⟨f0, f1, f2, f3, f4, f5⟩ := hf c hc2
      exact ⟨f3, f1, f4, f5⟩
    · obtain ⟨o, es', ep, ho, r⟩ := hm
      have nl : ∀ c, c ∈ [z, TI, TO, i1, i2] → c ≠ X.env.locals := fun c hc2 => (hf c hc2).2.1
      exact ⟨o, es', ep, hk _ o (nl z (by simp)).symm (nl TO (by simp)).symm (nl i1 (by simp)).symm (nl i2 (by simp)).symm ho, r⟩
    · refine (I.hok c ob e).stay (fun d v hd y => ?_) (fun d y => y) fun d ws y => y
      rcases hd with hd | hd
      · subst hd
        exact kc _ v (nt _ _ e) y
      · exact kc _ v (nt _ _ hd) y
  self := fun _ _ _ _ _ st h => wpAny_pyIter_zip st.1 h
def twoV (f : V → V → Hp → Prop) : List V → Hp → Prop
  | [x, y], H => f x y H
  | _, _ => False
theorem twoV_inv {f : V → V → Hp → Prop} : ∀ {vs : List V} {H : Hp}, twoV f vs H → ∃ x y, vs = [x, y] ∧ f x y H
  | [x, y], _, h => ⟨x, y, rfl, h⟩
section
variable {X : Cx}
def iZip (K : PySem.W.Frag) (t1 t2 : TE) : TI := fun σ H R => t1 σ H fun x H1 => t2 σ H1 fun y H2 => ∃ a b, x = .ref a ∧ y = .ref b ∧ (∃ xs, SqL K H2 a xs) ∧ (∃ ys, SqL K H2 b ys) ∧ R (Itz K a b) H2
theorem pi_zip {es : List Expr} {k1 : Nat} {tpos : Pos} {l m : Expr} {tl tm : TE} {p pos : Pos} (hg : Gl X "zip") (hm : X.mg "zip" = none) (hl : PE X l tl) (hr : PE X m tm) (hs : starEach [l, m] X.env = [(false, eval l X.env), (false, eval m X.env)] := by rfl) (hs2 : starEach [m] X.env = [(false, eval m X.env)] := by rfl) :
    PI X (.Tuple es k1 tpos) (.Call (.Name "zip" p) [l, m] [] pos) (iZip X.K tl tm) := by
  intro pins s σ H R I h
  have ha := pa_cons hl (pa_cons hr (pa_nil (X := X)) (by rw [hs2]; rfl)) (by rw [hs, hs2])
  refine Call_ (ld_blt I hg hm boot_zip (PyProof.Rows.callWith_type1 (thn (ha pos pins s σ H (twoV fun x y H1 => ∃ a b, x = .ref a ∧ y = .ref b ∧ (∃ xs, SqL X.K H1 a xs) ∧ (∃ ys, SqL X.K H1 b ys) ∧ R (Itz X.K a b) H1) I h) fun us s1 ⟨vs, H1, I1, r1, q1⟩ => ?_) (by rw [hs, hs2]) (by rw [hs2]; rfl)))
  obtain ⟨x, y, e, a, b, ex, ey, ⟨xs, hq1⟩, ⟨ys, hq2⟩, q⟩ := twoV_inv q1
  subst e ex ey
  obtain ⟨u1, u2, rfl, ru1, ru2⟩ := vals2 r1
  cases ru1
  cases ru2
  obtain ⟨its1, rv1, pl1, _⟩ := I1.list hq1
  obtain ⟨its2, rv2, pl2, _⟩ := I1.list hq2
  refine call_zip_2 pl1.isList pl2.isList fun h' g1 g2 g3 g4 g5 g6 hk => ?_
  refine wpAny_pyIter_zip g1 ?_
  have I2 : Inv X pins σ H1 { s1 with heap := h' } := I1.kept (t' := s1.toks) hk
  have fp : ∀ n, FpOk X pins H1 (s1.heap.objs.size + n) := fun n => I1.fpOk (Nat.le_add_right _ _) (I1.hok.fresh (Nat.le_add_right _ _))
  have nn : ∀ i j : Nat, i ≠ j → s1.heap.objs.size + i ≠ s1.heap.objs.size + j := fun i j hij e => hij (Nat.add_left_cancel e)
  have D : Zp (s1.heap.objs.size + 4) (s1.heap.objs.size + 2) (s1.heap.objs.size + 3) (s1.heap.objs.size + 0) (s1.heap.objs.size + 1) := ⟨nn _ _ (by decide), nn _ _ (by decide), nn _ _ (by decide), nn _ _ (by decide), nn _ _ (by decide), nn _ _ (by decide), nn _ _ (by decide), nn _ _ (by decide), nn _ _ (by decide), nn _ _ (by decide)⟩
  refine ⟨s1.heap.objs.size + 4, _, _, _, H1, rfl, I2, turn_zip a b _ _ _ _ _ D, ⟨g1, g2, ⟨_, _, g3⟩, g4, g5⟩, fun c hc' => ?_, q⟩
  simp only [List.mem_cons, List.not_mem_nil, or_false] at hc'
  rcases hc' with rfl | rfl | rfl | rfl | rfl
  · exact fp 4
  · exact fp 2
  · exact fp 3
  · exact fp 0
  · exact fp 1
end
end L2

/-! plans: what they are, as data -/
namespace OD
open PySem L2
def ruleB (v : Int) : PyData → Bool
  | .tuple [s, c] => setD (v - 1) s && isBoolD c
  | _ => false
def rulesB (v : Int) : PyData → Bool
  | .list rs => rs.all (ruleB v)
  | _ => false
def entryB (v : Int) : PyData → Bool
  | .tuple [.int n, rs, c] => decide (n = v) && (rulesB v rs && isBoolD c)
  | _ => false
def planB (vs : List Int) : PyData → Bool
  | .list es => decide (es.length = vs.length) && (es.zip vs).all fun p => entryB p.2 p.1
  | _ => false
def varsOf (t : Str) (hw : Bool) : List Int := ((List.range t.length).filter fun i => isW t i == hw).map fun (i : Nat) => (i : Int) + 1
def partB : PyData → Bool
  | .tuple [.int n, .list rs, c] => isBoolD c && rs.all (ruleB n)
  | _ => false
def partN : PyData → Int
  | .tuple [.int n, _, _] => n
  | _ => 0
def goodB (vs : List Int) : PyData → Bool
  | .list es => es.all partB && decide (es.map partN = vs)
  | _ => false
theorem entry_short {v : Int} {ds : List PyData} (h : ds.length ≠ 3) : entryB v (.tuple ds) = false ∧ partB (.tuple ds) = false := by
  match ds, h with
  | [], _ => exact ⟨rfl, rfl⟩
  | [d], _ => cases d <;> exact ⟨rfl, rfl⟩
  | [d, e], _ => cases d <;> cases e <;> exact ⟨rfl, rfl⟩
  | [_, _, _], h => exact absurd rfl h
  | d :: e :: f :: g :: r, _ => cases d <;> cases e <;> exact ⟨rfl, rfl⟩
theorem entry_nonum {v : Int} {a b c : PyData} (h : ∀ z, a ≠ .int z) : entryB v (.tuple [a, b, c]) = false ∧ partB (.tuple [a, b, c]) = false := by
  cases a with
  | int z => exact absurd rfl (h z)
  | _ => cases b <;> exact ⟨rfl, rfl⟩
theorem part_nolist {n : Int} {b c : PyData} (h : isLstD b = false) : partB (.tuple [.int n, b, c]) = false ∧ ∀ v, entryB v (.tuple [.int n, b, c]) = false := by
  cases b with
  | list rs => cases h
  | _ => exact ⟨rfl, fun v => by show (_ && (false && _)) = false; simp⟩
theorem part_list {n : Int} {rs : List PyData} {c : PyData} : partB (.tuple [.int n, .list rs, c]) = (isBoolD c && rs.all (ruleB n)) := rfl
theorem rule_short {v : Int} {ds : List PyData} (h : ds.length ≠ 2) : ruleB v (.tuple ds) = false := by
  match ds, h with
  | [], _ => rfl
  | [d], _ => rfl
  | [_, _], h => exact absurd rfl h
  | d :: e :: f :: r, _ => rfl
/-- an entry, as the law judges it -/
theorem entry_part (v : Int) (e : PyData) : entryB v e = (partB e && decide (partN e = v)) := by
  cases e with
  | tuple ds =>
    by_cases h3 : ds.length = 3
    · match ds, h3 with
      | [a, b, c], _ =>
        rcases int_or a with ⟨n, rfl⟩ | ha
        · cases hb : isLstD b with
          | false =>
            obtain ⟨h1, h2⟩ := part_nolist (n := n) (c := c) hb
            rw [h1, h2 v]
            rfl
          | true =>
            cases b with
            | list rs =>
              show (decide (n = v) && (rs.all (ruleB v) && isBoolD c)) = ((isBoolD c && rs.all (ruleB n)) && decide (n = v))
              by_cases hn : n = v
              · subst hn
                simp [Bool.and_comm]
              · simp [hn]
            | _ => cases hb
        · obtain ⟨h1, h2⟩ := entry_nonum (v := v) (b := b) (c := c) ha
          rw [h1, h2]
          rfl
    · obtain ⟨h1, h2⟩ := entry_short (v := v) h3
      rw [h1, h2]
      rfl
  | _ => rfl
theorem zip_all : ∀ (es : List PyData) (vs : List Int), (es.all partB && decide (es.map partN = vs)) = (decide (es.length = vs.length) && (es.zip vs).all fun p => entryB p.2 p.1)
  | [], [] => rfl
  | [], _ :: _ => rfl
  | _ :: _, [] => by simp
  | e :: es, v :: vs => by
    have ih := zip_all es vs
    rw [List.zip_cons_cons, List.all_cons, List.all_cons, entry_part]
    rw [show decide ((e :: es).map partN = v :: vs) = (decide (partN e = v) && decide (es.map partN = vs)) from by simp]
    rw [show decide ((e :: es).length = (v :: vs).length) = decide (es.length = vs.length) from by simp]
    calc (partB e && es.all partB && (decide (partN e = v) && decide (es.map partN = vs)))
        = ((partB e && decide (partN e = v)) && (es.all partB && decide (es.map partN = vs))) := by
          cases partB e <;> cases es.all partB <;> cases decide (partN e = v) <;> rfl
      _ = _ := by
          rw [ih]
          cases (partB e && decide (partN e = v)) <;> cases decide (es.length = vs.length) <;> rfl
theorem good_plan (vs : List Int) (d : PyData) : goodB vs d = planB vs d := by
  cases d with
  | list es => exact zip_all es vs
  | _ => rfl
/-- the sizes that the ways of the law allow -/
def SzR (r : PyData) : Prop := ∀ s c, r = .tuple [s, c] → ∀ xs, s = .tuple xs → xs.length ≤ 18
def SzE (e : PyData) : Prop := ∀ a b c, e = .tuple [a, b, c] → ∀ rs, b = .list rs → rs.length ≤ 900 ∧ ∀ r ∈ rs, SzR r
def SzP (d : PyData) : Prop := ∀ es, d = .list es → es.length ≤ 900 ∧ ∀ e ∈ es, SzE e
/-- the set of a rule, as the law judges it: sorted without a number twice -/
theorem asc_eq : ∀ (a b : List Int), a.Pairwise (· < ·) → b.Pairwise (· < ·) → (∀ z, z ∈ a ↔ z ∈ b) → a = b
  | [], [], _, _, _ => rfl
  | [], y :: b, _, _, h => absurd ((h y).mpr List.mem_cons_self) (by simp)
  | x :: a, [], _, _, h => absurd ((h x).mp List.mem_cons_self) (by simp)
  | x :: a, y :: b, ha, hb, h => by
    obtain ⟨a1, a2⟩ := List.pairwise_cons.mp ha
    obtain ⟨b1, b2⟩ := List.pairwise_cons.mp hb
    have e : x = y := by
      rcases List.mem_cons.mp ((h x).mp List.mem_cons_self) with z | z
      · exact z
      · rcases List.mem_cons.mp ((h y).mpr List.mem_cons_self) with w | w
        · exact w.symm
        · have := b1 x z
          have := a1 y w
          omega
    subst e
    rw [asc_eq a b a2 b2 fun z => ?_]
    constructor
    · intro hz
      rcases List.mem_cons.mp ((h z).mp (List.mem_cons_of_mem _ hz)) with w | w
      · have := a1 z hz
        omega
      · exact w
    · intro hz
      rcases List.mem_cons.mp ((h z).mpr (List.mem_cons_of_mem _ hz)) with w | w
      · have := b1 z hz
        omega
      · exact w
theorem setB_iff {most : Int} : ∀ {ls : List Int} {b : Int}, setB most b (ls.map .int) = true ↔ (b :: ls.map absI).Pairwise (· < ·) ∧ ∀ l ∈ ls, absI l ≤ most
  | [], b => by
    constructor
    · intro _
      exact ⟨by simp, fun _ h => nomatch h⟩
    · intro _
      rfl
  | l :: r, b => by
    rw [List.map_cons, setB_int]
    constructor
    · intro h
      by_cases c : b < absI l ∧ absI l ≤ most
      · rw [if_pos c] at h
        obtain ⟨h1, h2⟩ := setB_iff.mp h
        refine ⟨List.pairwise_cons.mpr ⟨fun z hz => ?_, h1⟩, fun z hz => ?_⟩
        · rcases List.mem_cons.mp hz with e | e
          · rw [e]
            exact c.1
          · have := (List.pairwise_cons.mp h1).1 z e
            omega
        · rcases List.mem_cons.mp hz with e | e
          · rw [e]
            exact c.2
          · exact h2 z e
      · rw [if_neg c] at h
        cases h
    · rintro ⟨h1, h2⟩
      obtain ⟨h3, h4⟩ := List.pairwise_cons.mp h1
      rw [if_pos ⟨h3 (absI l) List.mem_cons_self, h2 l List.mem_cons_self⟩]
      exact setB_iff.mpr ⟨h4, fun z hz => h2 z (List.mem_cons_of_mem _ hz)⟩
theorem absI_nn (l : Int) : 0 ≤ absI l := by
  unfold absI
  split <;> omega
/-- by sorted(set(..)), and by those that are out of the range -/
theorem set_sorted {most : Int} {ls ns' : List Int} (nd : ns'.Nodup) (hm : ∀ z, z ∈ ns' ↔ z ∈ ls.map absI) (hs : ns'.Pairwise (· ≤ ·)) :
    (decide (ls.map absI = ns') && decide ((((ls.map absI).filter fun z => decide (z < 1) || decide (z > most)).length : Int) = 0)) = setB most 0 (ls.map .int) := by
  rw [Bool.eq_iff_iff, Bool.and_eq_true, decide_eq_true_iff, decide_eq_true_iff, setB_iff]
  have hlt : ns'.Pairwise (· < ·) := by
    refine (List.Pairwise.and hs nd).imp fun {a b} h => ?_
    have := h.1
    have := h.2
    omega
  constructor
  · rintro ⟨h1, h2⟩
    have h2' : (ls.map absI).filter (fun z => decide (z < 1) || decide (z > most)) = [] := List.length_eq_zero_iff.mp (by omega)
    have h3 : ∀ z ∈ ls.map absI, 1 ≤ z ∧ z ≤ most := fun z hz => by
      have := List.filter_eq_nil_iff.mp h2' z hz
      simp at this
      omega
    refine ⟨List.pairwise_cons.mpr ⟨fun z hz => ?_, by rw [h1]; exact hlt⟩, fun l hl => (h3 _ (List.mem_map_of_mem hl)).2⟩
    have := (h3 z hz).1
    omega
  · rintro ⟨h1, h2⟩
    obtain ⟨h3, h4⟩ := List.pairwise_cons.mp h1
    refine ⟨asc_eq _ _ h4 hlt fun z => (hm z).symm, ?_⟩
    have : (ls.map absI).filter (fun z => decide (z < 1) || decide (z > most)) = [] := by
      refine List.filter_eq_nil_iff.mpr fun z hz => ?_
      have := h3 z hz
      obtain ⟨l, hl, rfl⟩ := List.mem_map.mp hz
      have := h2 l hl
      simp
      omega
    rw [this]
    rfl
end OD

namespace L2
open PySem
section
variable {K : PySem.W.Frag} {a b D : Addr} {xs ys : List V} {n : Nat} {g : TG} {tt : TT} {te : TE} {σ0 : St} {H1 : Hp} {Q : VK}
/-- over zip(a list, a list), both as long -/
theorem comp_zip (hx : xs.length = n) (hy : ys.length = n) (Pv : Nat → St → List V → Hp → Prop) (h0 : Pv 0 σ0 [] (upd H1 D (.lst []))) (hd : ∀ i σ zs H, i ≤ n → Pv i σ zs H → H D = some (.lst zs) ∧ SqL K H a xs ∧ SqL K H b ys)
    (hs : ∀ i x y σ zs H t, xs[i]? = some x → ys[i]? = some y → Pv i σ zs H → H t = none → g (.ref t) σ (upd H t (.tup [x, y])) fun σ3 H3 => tt σ3 H3 fun c H4 => if c = true then te σ3 H4 fun z H5 => H5 D = some (.lst zs) ∧ zs.length < sizeLine ∧ Pv (i + 1) σ3 (zs ++ [z]) (upd H5 D (.lst (zs ++ [z]))) else Pv (i + 1) σ3 zs H4)
    (hq : ∀ σ zs H, Pv n σ zs H → Q (.ref D) H) : CompW (Itz K a b) D g tt te σ0 H1 Q := by
  refine ⟨fun i m σ zs H => m = n - i ∧ i ≤ n ∧ Pv i σ zs H, ⟨n, by simp, Nat.zero_le _, h0⟩, ?_⟩
  rintro i m σ zs H ⟨rfl, hi, p⟩
  obtain ⟨hD, q1, q2⟩ := hd i σ zs H hi p
  refine ⟨hD, ?_⟩
  by_cases hlt : i < n
  · refine .inr ⟨⟨xs, ys, xs[i], ys[i], q1, q2, List.getElem?_eq_getElem _, List.getElem?_eq_getElem _⟩, Pv (i + 1), fun σ' zs' H' p' => ⟨n - (i + 1), by omega, rfl, hlt, p'⟩, fun x H' y => ?_⟩
    obtain ⟨t, u, v, ht, rfl, rfl, e1, e2⟩ := y
    exact hs i u v σ zs H t (e1 xs q1) (e2 ys q2) p ht
  · have e : i = n := by omega
    subst e
    exact .inl ⟨⟨xs, ys, q1, q2, .inl (by omega)⟩, hq σ zs H p⟩
theorem pg_tupK {X : Cx} (e : X.K = K) {es : List Expr} {k n : Nat} {pos : Pos} {t : TGs} (hc : X.calm = true) (h : PGs X es t) (hn : (assignEach es X.env).length = n := by rfl) (hst : (assignEach es X.env).findIdx? (·.1) = none := by rfl) : PG X (.Tuple es k pos) (gTup K n t) := by
  subst e
  exact pg_tup hc h hn hst
end
end L2

/-! tuples: t + u, t[i:j] whatever comes out, t[::-1] of ints -/
namespace HT
open PySem PyProof.Rows
section
variable {prog : Program} {w : World} {A : Around} {E : Value → Shared → Prop} {s : Shared}
theorem getItem_tuple_by {t sl : Addr} {items : Array Value} {Q : Value → Shared → Prop} {lo st : Int} {n : Nat} (ht : IsTup s.heap t items) (hTs : s.TypeIs (.ref sl) "slice")
    (hsl : ∀ {A : Around} {E : Value → Shared → Prop} (Q' : Int × Int × Nat → Shared → Prop), Q' (lo, st, n) s → wpAny (model prog w) A (Builtin.Slice.sliceApplied (.ref sl) (pure (items.size : Int))) Q' E s)
    (h1 : (lo == 0 && st == 1 && n == items.size) = true → Q (.ref t) s)
    (h2 : (lo == 0 && st == 1 && n == items.size) = false → n ≤ sizeLine ∧ Q (.ref s.heap.objs.size) { s with heap := s.heap.push { cls := .type "tuple", data := .seq ((List.range n).filterMap fun (k : Nat) => items[(lo + (k : Int) * st).toNat]?).toArray } }) :
    wpAny (model prog w) A (getItem (.ref t) (.ref sl)) Q E s := by
  unfold getItem
  try with_reducible refine wpAny_holding ?_
  first | refine wpAny_bind (wpAny_pure ?_) | skip
  refine wpAny_bind (wpAny_sequenceKey ht.typeIs (by decide) ?_); refine wpAny_bind (wpAny_callSpecial?_slot (name := Str.ofString "__getitem__") ht.typeIs PyProof.Rows.slot_tuple_getitem (wpAny_call_entry PyProof.Rows.slot_tuple_getitem ht.typeIs entry_tuple_getitem ?_ (args_tuple_getitem _ _)))
  refine wpAny_bind (m := Builtin.Tuple.tupleItemsOf (.ref t)) (tupleItemsOf_ ht ?_)
  refine wpAny_bind (wpAny_typeOf hTs ?_); rw [if_pos (by decide)]
  refine wpAny_bind (hsl _ ?_)
  show wpAny _ _ (if (lo == 0 && st == 1 && n == items.size) = true then _ else _) _ _ s
  cases c : (lo == 0 && st == 1 && n == items.size) with
  | true =>
    rw [if_pos rfl]
    refine wpAny_bind (wpAny_bind (wpAny_typeOf ht.typeIs (wpAny_pure ?_)))
    rw [if_pos (by decide)]
    exact wpAny_bind (wpAny_rule (wpAny_pure ⟨_, rfl, wpAny_pure (h1 c)⟩))
  | false =>
    obtain ⟨hz, hq⟩ := h2 c
    rw [if_neg (by decide)]
    have hzz : sizeOk (.seq ((List.range n).filterMap fun (k : Nat) => items[(lo + (k : Int) * st).toNat]?).toArray) := by
      show ((List.range n).filterMap fun (k : Nat) => items[(lo + (k : Int) * st).toNat]?).toArray.size ≤ sizeLine
      rw [List.size_toArray]
      exact Nat.le_trans (List.length_filterMap_le _ _) (by rw [List.length_range]; exact hz)
    first
      | exact wpAny_bind (m := Builtin.Tuple.tupleExact _) (wpAny_newObj_type (wpAny_pure ⟨_, rfl, wpAny_pure hq⟩) hzz)
      | exact wpAny_bind (m := Builtin.Tuple.tupleExact _) (wpAny_newObj_type (wpAny_bind (wpAny_pure (wpAny_pure ⟨_, rfl, wpAny_pure hq⟩))) hzz)
      | exact wpAny_bind (wpAny_bind (m := Builtin.Tuple.tupleExact _) (wpAny_newObj_type (wpAny_pure (wpAny_pure ⟨_, rfl, wpAny_pure hq⟩)) hzz))
theorem applied_rev {sl : Addr} {vl vu vs : Value} {n : Nat} {Q : Int × Int × Nat → Shared → Prop} (hs : s.heap.IsSliceOf sl vl vu vs) (pl : IsPart vl none) (pu : IsPart vu none) (ps : IsPart vs (some (-1)))
    (h : Q ((n : Int) - 1, -1, n) s) : wpAny (model prog w) A (Builtin.Slice.sliceApplied (.ref sl) (pure (n : Int))) Q E s := by
  obtain ⟨os, hos, hcs, hds⟩ := id hs
  unfold Builtin.Slice.sliceApplied Builtin.Slice.sliceFields
  refine wpAny_bind (wpAny_bind (wpAny_field hos hds (x := vl) rfl (wpAny_bind (wpAny_field hos hds (x := vu) rfl (wpAny_bind (wpAny_field hos hds (x := vs) rfl (wpAny_pure ?_)))))))
  refine wpAny_bind (slicePart_ ps ?_)
  show wpAny _ _ (if ((-1 : Int) == 0) = true then _ else _) _ _ s
  rw [if_neg (by decide)]; refine wpAny_bind (slicePart_ pl (wpAny_bind (slicePart_ pu (wpAny_bind (wpAny_pure ?_)))))
  have e : Builtin.Slice.slicePlaces ((n : Int) - 1) (-1) (-1) = n := by
    unfold Builtin.Slice.slicePlaces
    rw [if_neg (by decide)]
    by_cases hn : (n : Int) - 1 > -1
    · rw [if_pos hn, show -(-1 : Int) = 1 from rfl, Int.ediv_one]
      omega
    · rw [if_neg hn]
      omega
  show wpAny _ _ (pure ((n : Int) - 1, (-1 : Int), Builtin.Slice.slicePlaces ((n : Int) - 1) (-1) (-1))) _ _ s
  rw [e]
  exact wpAny_pure h
end
end HT
namespace L2
open PySem PySem.Spec PyProof.Rows
section
variable {X : Cx}
def rCatB (K : PySem.W.Frag) : R2 := fun x y H Q => ∃ a b xs ys, x = .ref a ∧ y = .ref b ∧ SqT K H a xs ∧ SqT K H b ys ∧ xs.length + ys.length ≤ sizeLine ∧
  (xs = [] → Q (.ref b) H) ∧ (xs ≠ [] → ys = [] → Q (.ref a) H) ∧ (xs ≠ [] → ys ≠ [] → ∀ p, H p = none → Q (.ref p) (upd H p (.tup (xs ++ ys))))
theorem op_catB : OpR X (binaryOp .Add) (rCatB X.K) := by
  intro pins s σ H x y v u Q I rx ry h
  obtain ⟨a, b, xs, ys, rfl, rfl, ha, hb, hz, q1, q2, q3⟩ := h
  by_cases hx : xs = []
  · cases rx
    cases ry
    obtain ⟨its, r1, p1, _⟩ := I.tuple ha
    obtain ⟨its2, r2, p2, _⟩ := I.tuple hb
    have hw := r1.nil_iff.mpr hx
    obtain ⟨⟨cls, dd, data, sl⟩, ho, hc, n, hd⟩ := id p1
    obtain ⟨⟨cls2, dd2, data2, sl2⟩, ho2, hc2, n2, hd2⟩ := id p2
    simp only at hc hd hc2 hd2
    subst hc hd hc2 hd2
    exact concat_meets ⟨_, ho, rfl⟩ ⟨_, ho2, rfl⟩ noFill_tuple_add seq_tuple_add PySem.F.slot_tuple_add PySem.F.entry_tuple_add (PySem.F.args_tuple_add_2 _ _) (tuple_addW0 a b its.toArray its2.toArray n n2 dd dd2 sl sl2 (by simp [hw])) ⟨ho, ho2, .ref b, H, I, rfl, q1 hx⟩
  · exact op_catT pins s σ H _ _ v u Q I rx ry ⟨a, b, xs, ys, rfl, rfl, ha, hb, hx, hz, fun z => q2 hx z, fun z => q3 hx z⟩
def rSlTA (K : PySem.W.Frag) : V → Option Int → Option Int → Hp → VK → Prop := fun x lo hi H Q => ∃ a xs, x = .ref a ∧ SqT K H a xs ∧
  ((HT.sIx xs.length 0 lo = 0 ∧ HT.sIx xs.length xs.length hi = xs.length) → Q (.ref a) H) ∧ (¬ (HT.sIx xs.length 0 lo = 0 ∧ HT.sIx xs.length xs.length hi = xs.length) → ∀ p, H p = none → Q (.ref p) (upd H p (.tup (cutV xs lo hi))))
theorem sl_tupA : SlR X (rSlTA X.K) := by
  intro pins s σ H x v vl vu lo hi sl Q I rx hs pl pu h
  obtain ⟨a, xs, rfl, hx, q1, q2⟩ := h
  by_cases hw : HT.sIx xs.length 0 lo = 0 ∧ HT.sIx xs.length xs.length hi = xs.length
  · cases rx
    obtain ⟨its, r, ht, hz⟩ := I.tuple hx
    have hlen : its.toArray.size = xs.length := by rw [List.size_toArray]; exact r.length.symm
    refine ⟨"tuple", _, PyProof.Rows.slot_tuple_getitem.lookup, ht.typeIs, ?_⟩
    obtain ⟨os, hos, hcs, _⟩ := id hs
    have e : (((HT.sIx its.toArray.size 0 lo : Nat) : Int) == 0 && (1 : Int) == 1 && (HT.sIx its.toArray.size its.toArray.size hi - HT.sIx its.toArray.size 0 lo) == its.toArray.size) = true := by
      rw [hlen, hw.1, hw.2]
      simp
    refine HT.getItem_tuple_by ht ⟨os, hos, hcs⟩ (fun Q' hq => HT.sliceApplied_gen hs pl pu hq) (fun _ => ⟨.ref a, H, I, rfl, q1 hw⟩) fun c => ?_
    rw [e] at c
    cases c
  · exact sl_tup pins s σ H _ v vl vu lo hi sl Q I rx hs pl pu ⟨a, xs, rfl, hx, hw, q2 hw⟩
def rRevT (K : PySem.W.Frag) : V → Option Int → Option Int → Option Int → Hp → VK → Prop := fun x lo hi st H Q => ∃ (a : Addr) (ns : List Int), x = .ref a ∧ SqT K H a (ns.map V.int) ∧ lo = none ∧ hi = none ∧ st = some (-1) ∧ ns.length ≤ 900 ∧
  ∀ (p : Addr) (ms : List Int), H p = none → ms.length ≤ ns.length → Q (.ref p) (upd H p (.tup (List.map V.int ms)))
theorem pick_rev {its : List Value} {ns : List Int} (hi : IntsAre its ns) (f : Nat → Nat) : ∀ (l : List Nat), ∃ ms : List Int, Vals (ms.map V.int) (l.filterMap fun k => its.toArray[f k]?) ∧ ms.length ≤ l.length
  | [] => ⟨[], .nil, Nat.le_refl _⟩
  | j :: r => by
    obtain ⟨ms, h1, h2⟩ := pick_rev hi f r
    rw [List.filterMap_cons]
    cases e : its.toArray[f j]? with
    | none => exact ⟨ms, h1, by rw [List.length_cons]; omega⟩
    | some v =>
      have ev : its[f j]? = some v := by simpa using e
      obtain ⟨a, t, rfl⟩ := hi.allInts v (by simpa using List.mem_of_getElem? ev)
      exact ⟨a :: ms, .cons ⟨t, rfl⟩ h1, by rw [List.length_cons, List.length_cons]; omega⟩
theorem pe_rev {e : Expr} {te : TE} {lo hi : Option Expr} {est : Expr} {tl th ts : TO} {p2 pos : Pos} (he : PE X e te) (hl : PO X lo tl) (hu : PO X hi th) (hst : PO X (some est) ts) :
    PE X (.Subscript e (.Slice lo hi (some est) p2) pos) (fun σ H Q => te σ H fun x H1 => tl σ H1 fun l H2 => th σ H2 fun u H3 => ts σ H3 fun c H4 => rRevT X.K x l u c H4 Q) := by
  intro pins s σ H Q I h
  refine Subscript_ (thn (he pins s σ H _ I h) fun v s1 ⟨x, H1, I1, r1, q1⟩ => ?_)
  refine wpAny_Slice (thn (hl pins s1 σ H1 _ I1 q1) fun vl s2 ⟨l, H2, I2, pl, q2⟩ => thn (hu pins s2 σ H2 _ I2 q2) fun vu s3 ⟨u, H3, I3, pu, q3⟩ => thn (hst pins s3 σ H3 _ I3 q3) fun vs s4 ⟨c, H4, I4, ps, q4⟩ => ?_)
  obtain ⟨a, ns, rfl, hS, rfl, rfl, rfl, hlen, q⟩ := q4
  cases r1
  have I5 : Inv X pins σ H4 { s4 with heap := s4.heap.push { cls := .type "slice", data := .fields #[vl, vu, vs] } } := I4.kept (t' := s4.toks) fun b ob q => Heap.get?_push_of_some _ q
  obtain ⟨its, r, ht, hz⟩ := I5.tuple hS
  have hl2 := r.length
  rw [List.length_map] at hl2
  have hsz : its.toArray.size = ns.length := by rw [List.size_toArray]; exact hl2.symm
  obtain ⟨ms, hv, hm⟩ := pick_rev (intsAre_of r) (fun k => (((its.toArray.size : Nat) : Int) - 1 + (k : Int) * -1).toNat) (List.range its.toArray.size)
  rw [List.length_range, hsz] at hm
  show wpAny (model X.prog X.w) X.A (subscriptTail e (.Slice lo hi (some est) p2) (.ref a) (.ref s4.heap.objs.size)) (EP X pins σ Q) X.xe { s4 with heap := s4.heap.push { cls := .type "slice", data := .fields #[vl, vu, vs] } }
  refine tail_any (ops := [.ref a, .ref s4.heap.objs.size]) ht.typeIs PyProof.Rows.slot_tuple_getitem.lookup ?_ (by with_unfolding_all rfl)
  refine HT.getItem_tuple_by ht ⟨_, Heap.get?_push_size _ rfl, rfl⟩ (fun Q' hq => HT.applied_rev (Heap.IsSliceOf.new ..) pl pu ps hq) (fun c => ?_) fun _ => ⟨by rw [hsz]; exact Nat.le_of_lt (small1000 (by omega)), ?_⟩
  · simp at c
  · refine ⟨.ref _, _, I5.laid (t' := s4.toks) (o := .tup (ms.map V.int)) (fun b ob q => Heap.get?_push_of_some _ q) (Nat.le_refl _) ?_, rfl, q _ ms (I5.hok.fresh (Nat.le_refl _)) hm⟩
    refine ⟨by rw [List.length_map]; exact Nat.le_of_lt (small1000 (by omega)), _, hv, ?_⟩
    exact IsTup.new _ _
theorem call_list_ofK {K : PySem.W.Frag} (e : X.K = K) : CallR X (.type "list") (fun xs H Q => ∃ p ys, xs = [.ref p] ∧ (SqL K H p ys ∨ SqT K H p ys) ∧ ∀ l, H l = none → Q (.ref l) (upd H l (.lst ys))) := by
  subst e
  exact call_list_of
theorem call_tuple_ofK {K : PySem.W.Frag} (e : X.K = K) : CallR X (.type "tuple") (fun xs H Q => ∃ (p : Addr) (ys : List V), xs = [.ref p] ∧ ((SqL K H p ys ∧ ∀ l, H l = none → Q (.ref l) (upd H l (.tup ys))) ∨ (SqT K H p ys ∧ Q (.ref p) H))) := by
  subst e
  exact call_tuple_of
end
end L2

/-! long displays: the elaborator must not look into what a list's evaluation comes to -/
namespace L2
open PySem
theorem star_step {e : Expr} {es : List Expr} {env : Env} (h : ∀ v p, e ≠ .Starred v p) : starEach (e :: es) env = (false, eval e env) :: starEach es env := by
  cases e <;> first | rfl | exact absurd rfl (h _ _)
@[irreducible] def PEi (X : Cx) (e : Expr) (t : TE) : Prop := PE X e t
@[irreducible] def PAi (X : Cx) (es : List Expr) (t : TA) : Prop := PA X es t
section
variable {X : Cx} {e a b : Expr} {es : List Expr} {te ta tb : TE} {t : TA} {pos : Pos}
theorem PEi.mk (h : PE X e te) : PEi X e te := by
  unfold PEi
  exact h
theorem PAi.nil : PAi X [] tNil := by
  unfold PAi
  exact pa_nil
theorem PAi.cons (h : PEi X e te) (g : PAi X es t) (s : ∀ v p, e ≠ .Starred v p) : PAi X (e :: es) (tCons te t) := by
  unfold PEi at h
  unfold PAi at g ⊢
  exact pa_cons h g (star_step s)
theorem PEi.lst (h : PAi X es t) : PEi X (.List es pos) (tLst t) := by
  unfold PAi at h
  unfold PEi
  exact pe_lst h
theorem pe_opi {op : Operator} {r : R2} (ho : OpR X (binaryOp op) r) (ha : PE X a ta) (hb : PEi X b tb) : PE X (.BinOp a op b pos) (tOp r ta tb) := by
  unfold PEi at hb
  exact pe_op ho ha hb
end
end L2

namespace K31
open PySem L2 OD
def top (i : Nat) : Stmt := PySem.Challenge.pw_oathduel_k31_what_is_a_plan.main.body.getD i (.Pass ⟨0, 0, 0, 0⟩)
abbrev sCell : Stmt := top 18
abbrev sMix : Stmt := top 19
abbrev sDrawn : Stmt := top 20
abbrev sSent : Stmt := top 21
structure BlG (mg : Str → Option Value) : Prop where
  len : mg "len" = none
  range : mg "range" = none
  tuple : mg "tuple" = none
  sorted : mg "sorted" = none
def cellF (ns : List Int) (k : Int) : Int := ns.getD k.toNat 0
def mixF (c k : Int) (b : Bool) : Int := if b = true then ((c * 48271 + k * 69621 + 11) % 2147483629 * ((c * 48271 + k * 69621 + 11) % 2147483629) % 2147483587) * ((c * 48271 + k * 69621 + 11) % 2147483629 * ((c * 48271 + k * 69621 + 11) % 2147483629) % 2147483587) % 2147483563 else c
theorem mixF_le (c k : Int) : 0 ≤ mixF c k true ∧ mixF c k true < 2147483563 := by
  unfold mixF
  rw [if_pos rfl]
  exact ⟨Int.emod_nonneg _ (by decide), Int.emod_lt_of_pos _ (by decide)⟩
def spCell (K : PySem.W.Frag) : Sp := fun vs H Q _ => ∃ (a : Addr) (ns : List Int) (k : Int), vs = [.ref a, .int k] ∧ SqL K H a (ns.map V.int) ∧ 0 ≤ k ∧ Q (.int (cellF ns k)) H
def spMix : Sp := fun vs H Q _ => ∃ (c k : Int) (b : Bool), vs = [.int c, .int k, .bl b] ∧ Q (.int (mixF c k b)) H
def spClause (n : Int) (H : Hp) (Q : VK) : Prop := ∀ (p : Addr) (ls : List Int) (H' : Hp), Same H H' → H' p = some (.tup (ls.map V.int)) → ClOk n ls → ls.length ≤ 4 → Q (.ref p) H'
def spDrawn : Sp := fun vs H Q _ => ∃ c n : Int, vs = [.int c, .int n] ∧ 0 ≤ n ∧ n < 1000 ∧ spClause n H Q
def spSent (K : PySem.W.Frag) : Sp := fun vs H Q _ => ∃ (a : Addr) (ns : List Int) (most : Int), vs = [.ref a, .int most] ∧ SqL K H a (ns.map V.int) ∧ ns.length ≤ 63 ∧ 0 ≤ most ∧ most < 20 ∧
  ∀ (p : Addr) (t : Str) (cs : List (List Int)) (H' : Hp), Same H H' → RD H' (sentD t cs) (.ref p) → SOk most t cs → (∀ c ∈ cs, c.length ≤ 4) → Q (.ref p) H'
/-- the signs 0 and 1 as 1 and -1 -/
def sgn (s : Int) : Int := if s = 0 then 1 else -1
def mapS (ps : List (Int × Int)) : List (Int × Int) := ps.map fun q => (q.1, sgn q.2)
theorem mapS_put (ps : List (Int × Int)) (k s : Int) : mapS (putP ps k s) = putP (mapS ps) k (sgn s) := by
  have e : ((mapS ps).any fun q => decide (q.1 = k)) = (ps.any fun q => decide (q.1 = k)) := by
    unfold mapS
    rw [List.any_map]
    rfl
  unfold putP
  rw [e]
  split
  · unfold mapS
    rw [List.map_map, List.map_map]
    refine List.map_congr_left fun q _ => ?_
    show (fun q => (q.1, sgn q.2)) (if q.1 = k then (q.1, s) else q) = if q.1 = k then (q.1, sgn s) else (q.1, sgn q.2)
    split <;> rfl
  · unfold mapS
    rw [List.map_append]
    rfl
theorem mapS_look (ps : List (Int × Int)) (k : Int) : lookP (mapS ps) k = (lookP ps k).map sgn := by
  induction ps with
  | nil => rfl
  | cons q r ih =>
    unfold mapS at ih ⊢
    unfold lookP at ih ⊢
    rw [List.map_cons, List.find?_cons, List.find?_cons]
    by_cases h : q.1 = k
    · simp [h]
    · simp only [h, decide_false]
      exact ih
theorem mapS_keys (ps : List (Int × Int)) : (mapS ps).map (·.1) = ps.map (·.1) := by
  unfold mapS
  rw [List.map_map]
  rfl
theorem sgn_is (s : Int) : sgn s = 1 ∨ sgn s = -1 := by
  unfold sgn
  split
  · exact .inl rfl
  · exact .inr rfl
theorem sgn_at {r : Int} (h : r = 0 ∨ r = 1) : atI [V.int 1, V.int (-1)] r = some (.int (sgn r)) := by
  rcases h with rfl | rfl <;> rfl
section
variable {P : Program} {w : World} {K : PySem.W.Frag} {mg : Str → Option Value} {base : Heap}
theorem scCell : FnScope ["_law_script", "_law_k"] ["_law_script", "_law_k"] (defScope sCell) := ⟨rfl, rfl, rfl, by decide +kernel, rfl, by decide +kernel, by decide +kernel⟩
theorem ok_cell {f : Addr} {fd : FuncData} (F : Fun K "_law_cell_at" "_law_cell_at" sCell f fd) (T : BlG mg) : FnOk P w K mg base CX0 1 f fd ["_law_script", "_law_k"] (spCell K) := by
  refine F.ok scCell (fun vs H Q E h => ?_) (fun cdv A outer s H vs Q E hr h => ?_)
  · obtain ⟨a, ns, k, rfl, _⟩ := h
    rfl
  obtain ⟨a, ns, k, rfl, hS, h0, q⟩ := h
  refine ⟨_, (pss_cons (ps_if (pt_cmpR op_lt (pv 1) (pe_callB call_len rfl T.len PySem.boot_len (pa_cons (pv 0) pa_nil)) (nomark _)) (pss_one (ps_ret (pe_ix ix_seq (pv 0) (pv 1) (fun _ _ => rfl)))) pss_nil)
    (pss_one (ps_ret pe_int))), ?_⟩
  refine ⟨_, rfl, _, rfl, .ref a, _, rfl, .inl ⟨_, hS, rfl⟩, _, _, rfl, rfl, _, rfl, ?_⟩
  refine ite2 (fun c => ?_) (fun c => ?_)
  · have c' : k < (((ns.map V.int).length : Nat) : Int) := of_decide_eq_true c
    rw [List.length_map] at c'
    obtain ⟨v, hv1, hv⟩ := atI_ints (ns := ns) h0 c'
    have e : cellF ns k = v := by
      unfold cellF
      rw [List.getD_eq_getElem?_getD, hv1]
      rfl
    rw [e] at q
    exact ⟨_, rfl, _, rfl, .inl ⟨a, _, k, .int v, rfl, rfl, hS, hv, q⟩⟩
  · have c' : ¬ k < (((ns.map V.int).length : Nat) : Int) := fun z => c (decide_eq_true z)
    rw [List.length_map] at c'
    have e : cellF ns k = 0 := by
      unfold cellF
      rw [List.getD_eq_getElem?_getD, List.getElem?_eq_none (by omega)]
      rfl
    rw [e] at q
    exact q
theorem scMix : FnScope ["_law_cell", "_law_k", "_law_mixed", "_law_number"] ["_law_cell", "_law_k", "_law_mixed"] (defScope sMix) := ⟨rfl, rfl, rfl, by decide +kernel, rfl, by decide +kernel, by decide +kernel⟩
theorem ok_mix {f : Addr} {fd : FuncData} (F : Fun K "_law_mix" "_law_mix" sMix f fd) : FnOk P w K mg base CX0 1 f fd ["_law_cell", "_law_k", "_law_mixed"] spMix := by
  have sc := scMix
  refine F.ok scMix (fun vs H Q E h => ?_) (fun cdv A outer s H vs Q E hr h => ?_)
  · obtain ⟨c, k, b, rfl, _⟩ := h
    rfl
  obtain ⟨c, k, b, rfl, q⟩ := h
  refine ⟨_, (pss_cons (ps_if (pt_not (pt_val (pv 2))) (pss_one (ps_ret (pv 0))) pss_nil)
    (pss_cons (ps_set (i := 3) sc.nd rfl (Or.inl rfl) (pe_op op_mod (pe_op op_add (pe_op op_add (pe_op op_mul (pv 0) pe_int) (pe_op op_mul (pv 1) pe_int)) pe_int) pe_int))
    (pss_cons (ps_set (i := 3) sc.nd rfl (Or.inl rfl) (pe_op op_mod (pe_op op_mul (pv 3) (pv 3)) pe_int))
    (pss_one (ps_ret (pe_op op_mod (pe_op op_mul (pv 3) (pv 3)) pe_int)))))), ?_⟩
  refine ⟨_, rfl, _, rfl, ?_⟩
  cases b with
  | false => exact iteT ⟨_, rfl, q⟩
  | true =>
    refine iteF ?_
    unfold mixF at q
    rw [if_pos rfl] at q
    refine ⟨_, rfl, _, _, rfl, rfl, .inr ⟨by decide, by decide⟩, _, rfl, _, _, rfl, rfl, .inr ⟨by decide, by decide⟩, _, _, rfl, rfl, _, _, rfl, rfl, _, _, rfl, rfl, (by show (0 : Int) < 2147483629; decide), ?_⟩
    refine ⟨_, rfl, _, rfl, _, _, rfl, rfl, .inl ⟨by omega, by omega⟩, _, _, rfl, rfl, (by show (0 : Int) < 2147483587; decide), ?_⟩
    exact ⟨_, rfl, _, rfl, _, _, rfl, rfl, .inl ⟨by omega, by omega⟩, _, _, rfl, rfl, (by show (0 : Int) < 2147483563; decide), q⟩
theorem scDrawn : FnScope ["_law_number", "_law_count", "_law_signs", "_law_size", "_law_k"] ["_law_number", "_law_count"] (defScope sDrawn) := ⟨rfl, rfl, rfl, by decide +kernel, rfl, by decide +kernel, by decide +kernel⟩
theorem ok_drawn {f : Addr} {fd : FuncData} (F : Fun K "_law_drawn" "_law_drawn" sDrawn f fd) (T : BlG mg) : FnOk P w K mg base CX0 1 f fd ["_law_number", "_law_count"] spDrawn := by
  have sc := scDrawn
  refine F.ok scDrawn (fun vs H Q E h => ?_) (fun cdv A outer s H vs Q E hr h => ?_)
  · obtain ⟨c, n, rfl, _⟩ := h
    rfl
  obtain ⟨c, n, rfl, n0, n1, q⟩ := h
  have hu := hr.units
  have hu1 := hu_of hr
  refine ⟨_, (pss_cons (ps_set (i := 2) sc.nd rfl (Or.inr rfl) pe_dnewK)
    (pss_cons (ps_set (i := 3) sc.nd rfl (Or.inl rfl) (pe_op op_mod (pv 0) pe_int))
    (pss_cons (ps_set (i := 0) sc.nd rfl (Or.inl rfl) (pe_op op_fdiv (pv 0) pe_int))
    (pss_cons (ps_for PassesOwn.never rfl (pi_range1 rfl T.range (pa_cons (pv 3) pa_nil)) (pg_name (i := 4) sc.nd rfl (Or.inl rfl))
      (pss_one (ps_if (pt_cmpR op_gt (pv 1) pe_int (nomark _)) (pss_cons (ps_dput hu1 (pv 2) (pe_op op_add pe_int (pe_op op_mod (pv 0) (pv 1))) (pe_op op_mod (pe_op op_fdiv (pv 0) (pv 1)) pe_int) rfl)
        (pss_one (ps_set (i := 0) sc.nd rfl (Or.inl rfl) (pe_op op_fdiv (pv 0) (pe_op op_mul pe_int (pv 1)))))) pss_nil)))
    (pss_one (ps_ret (pe_callTy call_tuple_of rfl T.tuple PyProof.Rows.boot_tuple (pa_cons (pe_comp (NY := ["_law_variable", "_law_signs"]) (idx := [none, some 2]) rfl ⟨by with_unfolding_all rfl, (by with_unfolding_all exact ⟨rfl, trivial⟩), by rfl, by rfl, by rfl, by decide, by rfl, by decide⟩ (pi_list (pe_callB (call_sorted rfl) rfl T.sorted PyProof.Rows.boot_sorted (pa_cons (pv 2) pa_nil))) (fun _ _ _ _ => (pg_name (i := 0) (show List.Nodup (["_law_variable", "_law_signs"] : List Str) by decide +kernel) rfl (Or.inl rfl))) (fun _ _ _ _ => pif_nil) (fun _ _ _ _ => (pe_op op_mul (pv 0) (pe_ix (ix_seqK (K := K) rfl) (pe_lst (pa_cons pe_int (pa_cons (pe_un un_neg pe_int) pa_nil))) (pe_dget hu1 (pv 1) (pv 0) (fun _ _ => rfl)) (fun _ _ => rfl))))) pa_nil)))))))), ?_⟩
  intro d hd
  have c5 := Int.emod_nonneg c (show (5 : Int) ≠ 0 by decide)
  have c5' := Int.emod_lt_of_pos c (show (0 : Int) < 5 by decide)
  refine ⟨_, rfl, _, _, rfl, rfl, (by show (0 : Int) < 5; decide), _, rfl, _, _, rfl, rfl, ⟨by decide, by decide⟩, ?_⟩
  refine ⟨_, rfl, c % 5, rfl, (by omega), (by omega), for_range (lo := 0) (n := (c % 5).toNat)
    (fun i σ H2 => ∃ (cc : Int) (ps : List (Int × Int)) (jv : Option V), σ = [some (.int cc), some (.int n), some (.ref d), some (.int (c % 5)), jv] ∧ H2 d = some (.dK (dP ps)) ∧ Same H H2 ∧ DOk n (mapS ps) ∧ (∀ z ∈ ps, z.2 = 0 ∨ z.2 = 1) ∧ ps.length ≤ i)
    ⟨_, [], none, rfl, upd_same, same_new hd _, DOk.nil n, (fun _ z => nomatch z), Nat.le_refl _⟩ ?_ ?_⟩
  · rintro i σ H2 hi ⟨cc, ps, jv, rfl, hd2, k2, hok, h01, hl⟩
    refine ⟨_, rfl, _, _, rfl, rfl, _, rfl, ite2 (fun g => ?_) (fun g => ?_)⟩
    · have g' : 0 < n := of_decide_eq_true g
      have m1 := Int.emod_nonneg cc (show n ≠ 0 by omega)
      have m2 := Int.emod_lt_of_pos cc g'
      have s1 := Int.emod_nonneg (cc / n) (show (2 : Int) ≠ 0 by decide)
      have s2 := Int.emod_lt_of_pos (cc / n) (show (0 : Int) < 2 by decide)
      refine ⟨_, rfl, _, rfl, _, _, rfl, rfl, ⟨g', by omega⟩, _, _, rfl, rfl, (by show (0 : Int) < 2; decide), ?_⟩
      refine ⟨_, rfl, _, rfl, _, rfl, _, _, rfl, rfl, g', _, _, rfl, rfl, d, _, rfl, DPut.k (k := Sum.inl (1 + cc % n)) hd2 (by unfold dP; rw [List.length_map]; exact small1000 (by omega)), ?_⟩
      refine ⟨_, rfl, _, rfl, _, _, rfl, rfl, .inl ⟨by decide, by decide⟩, _, _, rfl, rfl, ⟨by omega, by omega⟩, ?_⟩
      obtain ⟨o1, o2⟩ := hok.put (k := 1 + cc % n) (s := sgn (cc / n % 2)) (by omega) (sgn_is _)
      rw [← mapS_put] at o1 o2
      have ml : ∀ l : List (Int × Int), (mapS l).length = l.length := fun l => List.length_map _
      rw [ml, ml] at o2
      refine ⟨_, putP ps (1 + cc % n) (cc / n % 2), _, rfl, ?_, k2.upd_new hd _, o1, fun z hz => ?_, by omega⟩
      · rw [upd_same]
        exact congrArg (fun z => some (HO.dK z)) (put_dP _ _ _)
      · unfold putP at hz
        split at hz
        · obtain ⟨y, hy, e⟩ := List.mem_map.mp hz
          split at e
          · rw [← e]
            show cc / n % 2 = 0 ∨ cc / n % 2 = 1
            omega
          · rw [← e]
            exact h01 y hy
        · rcases List.mem_append.mp hz with y | y
          · exact h01 z y
          · rw [List.mem_singleton.mp y]
            show cc / n % 2 = 0 ∨ cc / n % 2 = 1
            omega
    · exact ⟨cc, ps, _, rfl, hd2, k2, hok, h01, by omega⟩
  · rintro σ H2 ⟨cc, ps, jv, rfl, hd2, k2, hok, h01, hl⟩
    refine ⟨_, rfl, d, dP ps, ps.map (·.1), rfl, hd2, keys_dP ps, by rw [List.length_map]; omega, fun l ks hl' hperm hpw => ⟨l, rfl, ⟨_, SqL.of upd_same⟩, fun D hD => ?_⟩⟩
    have hkl : ks.length = ps.length := by rw [hperm.length_eq, List.length_map]
    have k3 := k2.upd_new (k2.free hl') (.lst (ks.map V.int))
    have hd3 : upd H2 l (.lst (ks.map V.int)) d = some (.dK (dP ps)) := by rw [upd_ne (ne_of_none hd2 hl')]; exact hd2
    have hl3 : upd H2 l (.lst (ks.map V.int)) l = some (.lst (ks.map V.int)) := upd_same
    generalize upd H2 l (.lst (ks.map V.int)) = H3 at k3 hd3 hl3 hD
    refine comp_list (K := K) (a := l) (xs := ks.map V.int) (fun i σ ys H4 => (∃ v0, σ = [v0, some (.ref d)]) ∧ ys = ((ks.take i).map fun k => V.int (k * sgP (mapS ps) k)) ∧ H4 D = some (.lst ys) ∧ (∀ b o, b ≠ D → H3 b = some o → H4 b = some o))
      ⟨⟨none, rfl⟩, rfl, upd_same, fun b o hb e => by rw [upd_ne hb]; exact e⟩ ?_ ?_ ?_
    · rintro i σ ys H4 _ ⟨_, _, h1, h2⟩
      exact ⟨h1, SqL.of (h2 _ _ (ne_of_none hl3 hD) hl3)⟩
    · rintro i x σ ys H4 hx ⟨⟨v0, rfl⟩, hys, h1, h2⟩
      obtain ⟨k, rfl, hk⟩ := ints_get hx
      have km : k ∈ ps.map (·.1) := hperm.mem_iff.mp (List.mem_of_getElem? hk)
      obtain ⟨hlk, hsg⟩ := hok.look (k := k) (by rw [mapS_keys]; exact km)
      rw [mapS_look] at hlk
      obtain ⟨r, hr1, hr2⟩ := Option.map_eq_some_iff.mp hlk
      have hr01 : r = 0 ∨ r = 1 := by
        unfold lookP at hr1
        obtain ⟨y, hy1, hy2⟩ := Option.map_eq_some_iff.mp hr1
        rw [← hy2]
        exact h01 y (List.mem_of_find?_eq_some hy1)
      have hil : i < ks.length := (List.getElem?_eq_some_iff.mp hk).1
      have hyl : ys.length ≤ 60 := by
        rw [hys, List.length_map, List.length_take]
        omega
      have nd : d ≠ D := ne_of_none hd3 hD
      refine gName_t0 ⟨_, rfl, _, rfl, (by show 2 ≤ sizeLine; decide), fun e he => ?_⟩
      have hd5 : upd H4 e (.lst [.int 1, .int (-1)]) d = some (.dK (dP ps)) := by rw [upd_ne (ne_of_none (h2 _ _ nd hd3) he)]; exact h2 _ _ nd hd3
      have hv : DGet (upd H4 e (.lst [.int 1, .int (-1)])) d (.int k) (some (.int r)) := by
        have z := DGet.k (k := Sum.inl k) hd5
        rw [val_dP, hr1] at z
        exact z
      refine ⟨_, rfl, _, rfl, d, _, rfl, hv, .inl ⟨e, _, r, _, rfl, rfl, SqL.of upd_same, sgn_at hr01, _, _, rfl, rfl, .inr ⟨?_, ?_⟩, ?_, small1000 (by omega), ⟨_, rfl⟩, ?_, upd_same, fun b o hb eb => ?_⟩⟩
      · rcases sgn_is r with z | z <;> rw [z] <;> decide
      · rcases sgn_is r with z | z <;> rw [z] <;> decide
      · rw [upd_ne (ne_of_none h1 he)]
        exact h1
      · rw [hys, List.take_add_one, hk, List.map_append, hr2]
        rfl
      · have eb4 := h2 b o hb eb
        rw [upd_ne hb, upd_ne (ne_of_none eb4 he)]
        exact eb4
    · rintro σ ys H4 ⟨_, hys, h1, h2⟩
      rw [List.length_map, List.take_of_length_le (Nat.le_refl _)] at hys
      have hys' : ys = (ks.map fun k => k * sgP (mapS ps) k).map V.int := by rw [hys, List.map_map]; rfl
      refine ⟨D, ys, rfl, .inl ⟨SqL.of h1, fun t ht => ?_⟩⟩
      have nH : H D = none := k3.free hD
      have k4 : Same H H4 := fun b o e => h2 b o (ne_of_none e nH) (k3 b o e)
      refine q t _ _ (k4.upd_new (k4.free ht) _) (by rw [upd_same, hys']) (hok.clause (by rw [mapS_keys]; exact hperm) hpw) ?_
      rw [List.length_map]
      omega
end
end K31


namespace K31
open PySem L2 OD
theorem cut_few {ns : List Int} : (cutV (ns.map V.int) (some 3) (some 15)).length ≤ 12 := by
  unfold cutV
  have e1 : HT.sIx (ns.map V.int).length 0 (some 3) = min 3 (ns.map V.int).length := HT.sIx_nat _ 0 3
  have e2 : HT.sIx (ns.map V.int).length (ns.map V.int).length (some 15) = min 15 (ns.map V.int).length := HT.sIx_nat _ _ 15
  rw [e1, e2, List.length_take, List.length_drop]
  omega
theorem seq_gen {A B : TS} {D : Ends} {σ : St} {H : Hp} (h : ∀ N : St → Hp → Prop, (∀ σ' H', B D σ' H' → N σ' H') → A { D with nx := N } σ H) : tSeq A B D σ H := h (fun σ H => B D σ H) (fun _ _ z => z)
section
variable {P : Program} {w : World} {K : PySem.W.Frag} {mg : Str → Option Value} {base : Heap}
theorem scSent : FnScope ["_law_script", "_law_most", "_law_first", "_law_count", "_law_turn", "_law_odd", "_law_clauses", "_law_cell", "_law_turns"] ["_law_script", "_law_most"] (defScope sSent) := ⟨rfl, rfl, rfl, by decide +kernel, rfl, by decide +kernel, by decide +kernel⟩
theorem ok_sent {f f1 f2 f3 : Addr} {fd d1 d2 d3 : FuncData} (F : Fun K "_law_sentence" "_law_sentence" sSent f fd) (T : BlG mg) (G_law_cell_at : Fn P w K mg base 1 "_law_cell_at" f1 d1 ["_law_script", "_law_k"] (spCell K)) (G_law_mix : Fn P w K mg base 1 "_law_mix" f2 d2 ["_law_cell", "_law_k", "_law_mixed"] spMix)
    (G_law_drawn : Fn P w K mg base 1 "_law_drawn" f3 d3 ["_law_number", "_law_count"] spDrawn) : FnOk P w K mg base CX0 2 f fd ["_law_script", "_law_most"] (spSent K) := by
  have sc := scSent
  refine F.ok scSent (fun vs H Q E h => ?_) (fun cdv A outer s H vs Q E hr h => ?_)
  · obtain ⟨a, ns, most, rfl, _⟩ := h
    rfl
  obtain ⟨a, ns, most, rfl, hS, h63, o0, o1, q⟩ := h
  have hu := hr.units
  refine ⟨_, (pss_cons (ps_set (i := 2) sc.nd rfl (Or.inl rfl) (pcall G_law_cell_at hr (by omega) rfl (pa_cons (pv 0) (pa_cons pe_int pa_nil))))
    (pss_cons (ps_set (i := 3) sc.nd rfl (Or.inl rfl) (pe_op op_mod (pe_op op_fdiv (pv 2) pe_int) (pe_op op_add (pv 1) pe_int)))
    (pss_cons (ps_set (i := 4) sc.nd rfl (Or.inr rfl) (pcall G_law_mix hr (by omega) rfl (pa_cons (pcall G_law_cell_at hr (by omega) rfl (pa_cons (pv 0) (pa_cons pe_int pa_nil))) (pa_cons pe_int (pa_cons (pe_cmpR (op_eqA hu) (pe_op op_mod (pv 2) pe_int) pe_int (nomark _)) pa_nil)))))
    (pss_cons (ps_set (i := 5) sc.nd rfl (Or.inr rfl) (pe_op op_fdiv (pcall G_law_cell_at hr (by omega) rfl (pa_cons (pv 0) (pa_cons pe_int pa_nil))) pe_int))
    (pss_cons (ps_set (i := 6) sc.nd rfl (Or.inl rfl) (pe_lst pa_nil))
    (pss_cons (ps_for PassesOwn.never rfl (pi_list (pe_slice sl_list (pv 0) (po_some pe_int) (po_some pe_int))) (pg_name (i := 7) sc.nd rfl (Or.inl rfl))
      (pss_one (ps_expr (pe_bm PySem.F.plainAttrs_list PySem.F.slot_list_append PySem.F.type_list_append mt_append (pv 6) (pa_cons (pcall G_law_drawn hr (by omega) rfl (pa_cons (pcall G_law_mix hr (by omega) rfl (pa_cons (pv 7) (pa_cons (pe_op op_add (pe_callB call_len rfl T.len PySem.boot_len (pa_cons (pv 6) pa_nil)) pe_int) (pa_cons (pe_cmpR (op_eqA hu) (pe_op op_mod (pv 2) pe_int) pe_int (nomark _)) pa_nil)))) (pa_cons (pv 3) pa_nil))) pa_nil)))))
    (pss_cons (ps_if (PW.pt (pw_and (pt_cmpR op_gt (pe_callB call_len rfl T.len PySem.boot_len (pa_cons (pv 6) pa_nil)) pe_int (nomark _)) (pw_and1 (pt_cmpR (op_eqA hu) (pe_op op_mod (pv 5) pe_int) pe_int (nomark _))))) (pss_one (ps_expr (pe_bm PySem.F.plainAttrs_list PySem.F.slot_list_append PySem.F.type_list_append mt_append (pv 6) (pa_cons (pe_ix ix_seq (pv 6) (pe_op op_mod (pe_op op_fdiv (pv 5) pe_int) (pe_callB call_len rfl T.len PySem.boot_len (pa_cons (pv 6) pa_nil))) (fun _ _ => rfl)) pa_nil)))) pss_nil)
    (pss_cons (ps_set (i := 8) sc.nd rfl (Or.inl rfl) (pe_bm PySem.F.plainAttrs_str PySem.F.slot_str_join PySem.F.type_str_join mt_join pe_str (pa_cons (pe_comp (NY := ["_law_k", "_law_turn"]) (idx := [none, some 4]) rfl ⟨by with_unfolding_all rfl, (by with_unfolding_all exact ⟨rfl, trivial⟩), by rfl, by rfl, by rfl, by decide, by rfl, by decide⟩ (pi_range1 rfl T.range (pa_cons (pv 3) pa_nil)) (fun _ _ _ _ => (pg_name (i := 0) (show List.Nodup (["_law_k", "_law_turn"] : List Str) by decide +kernel) rfl (Or.inl rfl))) (fun _ _ _ _ => pif_nil) (fun _ _ _ _ => (pe_ix (ix_seqK (K := K) rfl) pe_str (pe_op op_and (pe_op op_shr (pv 1) (pv 0)) pe_int) (fun _ _ => rfl)))) pa_nil)))
    (pss_one (ps_ret (pe_tup (pa_cons (pv 8) (pa_cons (pe_comp (NY := ["_law_clause", "_law_odd"]) (idx := [none, some 5]) rfl ⟨by with_unfolding_all rfl, (by with_unfolding_all exact ⟨rfl, trivial⟩), by rfl, by rfl, by rfl, by decide, by rfl, by decide⟩ (pi_list (pv 6)) (fun _ _ _ _ => (pg_name (i := 0) (show List.Nodup (["_law_clause", "_law_odd"] : List Str) by decide +kernel) rfl (Or.inl rfl))) (fun _ _ _ _ => (pif_one (PW.pt (pw_or (pt_cmpR op_gt (pe_callB (call_lenK (K := K) rfl) rfl T.len PySem.boot_len (pa_cons (pv 0) pa_nil)) pe_int (nomark _)) (pw_or1 (pt_cmpR (op_eqA hu) (pe_op op_mod (pe_op op_fdiv (pv 1) pe_int) pe_int) pe_int (nomark _))))))) (fun _ _ _ _ => (pv 0))) pa_nil))))))))))))), ?_⟩
  refine ⟨_, rfl, a, ns, 0, rfl, hS, Int.le_refl 0, ?_⟩
  generalize cellF ns 0 = first
  refine ⟨_, rfl, _, _, rfl, rfl, ⟨by decide, by decide⟩, _, rfl, _, _, rfl, rfl, _, _, rfl, rfl, (by show (0 : Int) < most + 1; omega), ?_⟩
  have x0 := Int.emod_nonneg (first / 2) (show most + 1 ≠ 0 by omega)
  have x1 := Int.emod_lt_of_pos (first / 2) (show 0 < most + 1 by omega)
  refine ⟨_, rfl, a, ns, 1, rfl, hS, (by decide), _, rfl, _, _, rfl, rfl, (by show (0 : Int) < 2; decide), .inl ⟨rfl, _, _, _, rfl, ?_⟩⟩
  refine ⟨_, rfl, a, ns, 2, rfl, hS, (by decide), _, _, rfl, rfl, ⟨by decide, by decide⟩, ?_⟩
  refine ⟨Nat.zero_le _, fun qa hqa => ?_⟩
  have nqa : H qa = none := hqa
  have hr0 : ∃ r0 : Int, first / 2 % (most + 1) = r0 := ⟨_, rfl⟩
  obtain ⟨r0, hr0⟩ := hr0
  rw [hr0] at x0 x1
  refine ⟨_, rfl, 3, rfl, 15, rfl, a, _, rfl, (same_new hqa _).seq hS, fun p2 hp2 => ⟨p2, rfl, ⟨_, SqL.of upd_same⟩, ?_⟩⟩
  obtain ⟨ms, hms, _⟩ := cut_ints ns (some 3) (some 15)
  have hm12 := cut_few (ns := ns)
  have k3 : Same H (upd (upd H qa (.lst [])) p2 (.lst (cutV (ns.map V.int) (some 3) (some 15)))) := (same_new hqa _).upd_new ((same_new hqa _).free hp2) _
  have hp3 : upd (upd H qa (.lst [])) p2 (.lst (cutV (ns.map V.int) (some 3) (some 15))) p2 = some (.lst (cutV (ns.map V.int) (some 3) (some 15))) := upd_same
  have nqp : qa ≠ p2 := ne_of_none upd_same hp2
  have hq3 : upd (upd H qa (.lst [])) p2 (.lst (cutV (ns.map V.int) (some 3) (some 15))) qa = some (.lst []) := by rw [upd_ne nqp]; exact upd_same
  refine for_list (K := K) (a := p2) (xs := cutV (ns.map V.int) (some 3) (some 15)) (fun i σ H3 => ∃ (xs : List V) (cs : List (List Int)) (v7 : Option V), σ = [some (.ref a), some (.int most), some (.int first), some (.int (first / 2 % (most + 1))), some (.int (mixF (cellF ns 1) 1 (decide (V.int (first % 2) = V.int 1)))), some (.int (cellF ns 2 / 7)), some (.ref qa), v7, none]
      ∧ H3 qa = some (.lst xs) ∧ H3 p2 = some (.lst (cutV (ns.map V.int) (some 3) (some 15))) ∧ CLs H3 cs xs ∧ Same H H3 ∧ cs.length = i ∧ ∀ c ∈ cs, ClOk r0 c ∧ c.length ≤ 4)
    ⟨[], [], none, rfl, hq3, hp3, .nil, k3, rfl, fun _ z => nomatch z⟩ ?_ ?_ ?_
  · rintro i σ H3 _ ⟨_, _, _, _, _, g, _⟩
    exact SqL.of g
  · rintro i x σ H3 hx ⟨xs, cs, v7, rfl, g1, g2, g3, g4, g5, g6⟩
    have hil : i < (cutV (ns.map V.int) (some 3) (some 15)).length := (List.getElem?_eq_some_iff.mp hx).1
    rw [hms] at hx
    obtain ⟨cz, rfl, _⟩ := ints_get hx
    refine ⟨_, rfl, .inl ⟨rfl, _, SqL.of g1⟩, _, rfl, _, rfl, .ref qa, _, rfl, .inl ⟨_, SqL.of g1, rfl⟩, _, _, rfl, rfl, _, rfl, _, _, rfl, rfl, (by show (0 : Int) < 2; decide), .inl ⟨rfl, _, _, _, rfl, _, rfl, _, _, rfl, ?_⟩⟩
    rw [hr0]
    refine ⟨x0, by omega, fun p4 ls H4 k4 hp4 hls hl4 => ?_⟩
    have h4 := k4 _ _ g1
    refine ⟨qa, _, _, rfl, rfl, h4, (by rw [← g3.length, g5]; exact small1000 (by omega)), ?_⟩
    refine ⟨xs ++ [.ref p4], cs ++ [ls], _, rfl, upd_same, by rw [upd_ne nqp.symm]; exact k4 _ _ g2, CLs.snoc (CL.upd ⟨p4, rfl, hp4⟩ h4) ((g3.mono k4).upd h4), fun b o e => ?_, by rw [List.length_append, g5]; rfl, fun c hc => ?_⟩
    · rw [upd_ne (ne_of_none e nqa)]
      exact k4 _ _ (g4 _ _ e)
    · rcases List.mem_append.mp hc with z | z
      · exact g6 c z
      · rw [List.mem_singleton.mp z]
        exact ⟨hls, hl4⟩
  rintro σ H3 ⟨xs, cs, v7, rfl, g1, g2, g3, g4, g5, g6⟩
  have hc12 : cs.length ≤ 12 := by omega
  clear g2 hp3 hq3 k3
  dsimp only
  refine seq_gen fun N hN => ?_
  have key : ∀ (xs : List V) (cs : List (List Int)) (H3 : Hp), H3 qa = some (.lst xs) → CLs H3 cs xs → Same H H3 → cs.length ≤ 13 → (∀ c ∈ cs, ClOk r0 c ∧ c.length ≤ 4) →
      N [some (.ref a), some (.int most), some (.int first), some (.int (first / 2 % (most + 1))), some (.int (mixF (cellF ns 1) 1 (decide (V.int (first % 2) = V.int 1)))), some (.int (cellF ns 2 / 7)), some (.ref qa), v7, none] H3 := by
    clear g1 g3 g4 g5 g6 hc12
    intro xs cs H3 g1 g3 g4 g5 g6
    refine hN _ _ ?_
    generalize mixF (cellF ns 1) 1 (decide (V.int (first % 2) = V.int 1)) = r1
    refine ⟨rfl, _, rfl, first / 2 % (most + 1), rfl, (by omega), (by omega), fun D hD => ?_⟩
    refine comp_range (lo := 0) (n := (first / 2 % (most + 1)).toNat) (fun i σ ys H2 => (∃ v0, σ = [v0, some (.int r1)]) ∧ (∃ ss : List Str, ys = ss.map V.str ∧ ss.length = i ∧ ∀ s ∈ ss, isSign s) ∧ H2 = upd H3 D (.lst ys)) ⟨⟨none, rfl⟩, ⟨[], rfl, rfl, fun _ h => nomatch h⟩, rfl⟩ ?_ ?_ ?_
    · rintro i σ ys H2 _ ⟨_, _, rfl⟩
      exact upd_same
    · rintro i σ ys H2 hi ⟨⟨v0, rfl⟩, ⟨ss, rfl, hss, hsg⟩, rfl⟩
      have e0 : Builtin.bitAnd (r1 / 2 ^ ((0 : Int) + (i : Int)).toNat) 1 = r1 / 2 ^ ((0 : Int) + (i : Int)).toNat % 2 := PyProof.Rows.bitAnd_m1 _
      obtain ⟨ch, hch, hs⟩ := ws_at (j := Builtin.bitAnd (r1 / 2 ^ ((0 : Int) + (i : Int)).toNat) 1) (by rw [e0]; exact Int.emod_nonneg _ (by decide)) (by rw [e0]; exact Int.emod_lt_of_pos _ (by decide))
      refine gName_t0 ⟨_, rfl, _, rfl, _, _, rfl, rfl, (by show (0 : Int) ≤ 0 + (i : Int); omega), _, _, rfl, rfl, .inr (.inr ⟨_, _, ch, rfl, rfl, (by decide +kernel), hch, upd_same, (by rw [List.length_map]; exact small1000 (by omega)), ⟨_, rfl⟩, ⟨ss ++ [⟨#[ch]⟩], by rw [List.map_append]; rfl, by rw [List.length_append, hss]; rfl, fun z hz => ?_⟩, upd_upd⟩)⟩
      rcases List.mem_append.mp hz with w | w
      · exact hsg z w
      · rw [List.mem_singleton.mp w]
        exact hs
    rintro σ ys H2 ⟨_, ⟨ss, rfl, hss, hsg⟩, rfl⟩
    obtain ⟨tl, tw⟩ := turns_ok hsg
    refine ⟨_, D, ss, rfl, rfl, SqL.of upd_same, ?_, ?_⟩
    · rw [sum_signs hsg, show (Str.ofString "").length = 0 from by decide +kernel]
      omega
    generalize Txt.join (Str.ofString "") ss = t at tl tw
    have kD : Same H3 (upd H3 D (.lst (ss.map V.str))) := same_new hD _
    have g1' := kD _ _ g1
    have g3' := g3.mono kD
    have k2 := g4.trans kD
    clear hD
    generalize upd H3 D (.lst (ss.map V.str)) = H2 at k2 g1' g3'
    have tlen : (t.length : Int) = r0 := by omega
    refine ⟨_, rfl, _, rfl, qa, rfl, ⟨_, SqL.of g1'⟩, fun D2 hD2 => ?_⟩
    have nD2 : H D2 = none := k2.free hD2
    have nq : qa ≠ D2 := ne_of_none g1' hD2
    refine comp_list (K := K) (a := qa) (xs := xs) (fun i σ ys H4 => (∃ v0, σ = [v0, some (.int (cellF ns 2 / 7))]) ∧ H4 D2 = some (.lst ys) ∧ Same H H4 ∧ H4 qa = some (.lst xs) ∧ CLs H4 cs xs ∧ ∃ cs' : List (List Int), cs'.length ≤ i ∧ CLs H4 cs' ys ∧ ∀ c ∈ cs', ClOk r0 c ∧ c.length ≤ 4)
      ⟨⟨none, rfl⟩, upd_same, k2.upd_new nD2 _, by rw [upd_ne nq]; exact g1', g3'.mono (same_new hD2 _), [], Nat.zero_le _, .nil, fun _ h => nomatch h⟩ ?_ ?_ ?_
    · rintro i σ ys H4 _ ⟨_, h1, _, h2, _⟩
      exact ⟨h1, SqL.of h2⟩
    · rintro i x σ ys H4 hx ⟨⟨v0, rfl⟩, j1, j2, j3, j4, cs', j5, j6, j7⟩
      have hil : i < xs.length := (List.getElem?_eq_some_iff.mp hx).1
      have hcl := g3.length
      obtain ⟨c, hc, tc, rfl, htc⟩ := j4.get hx
      have hcm : c ∈ cs := List.mem_of_getElem? hc
      have sz : ys.length < sizeLine := by rw [← j6.length]; exact small1000 (by omega)
      have nqD : qa ≠ D2 := nq
      have kp : upd H4 D2 (.lst (ys ++ [.ref tc])) D2 = some (.lst (ys ++ [.ref tc])) ∧ Same H (upd H4 D2 (.lst (ys ++ [.ref tc]))) ∧ upd H4 D2 (.lst (ys ++ [.ref tc])) qa = some (.lst xs) ∧ CLs (upd H4 D2 (.lst (ys ++ [.ref tc]))) cs xs ∧ ∃ cs' : List (List Int), cs'.length ≤ i + 1 ∧ CLs (upd H4 D2 (.lst (ys ++ [.ref tc]))) cs' (ys ++ [.ref tc]) ∧ ∀ c ∈ cs', ClOk r0 c ∧ c.length ≤ 4 := by
        refine ⟨upd_same, j2.upd_new nD2 _, by rw [upd_ne nqD]; exact j3, j4.upd j1, cs' ++ [c], by rw [List.length_append]; exact Nat.succ_le_succ j5, CLs.snoc (CL.upd ⟨tc, rfl, htc⟩ j1) (j6.upd j1), fun z hz => ?_⟩
        rcases List.mem_append.mp hz with y | y
        · exact j7 z y
        · rw [List.mem_singleton.mp y]
          exact g6 c hcm
      refine ⟨_, rfl, .ref tc, _, rfl, .inr ⟨_, SqT.of htc, rfl⟩, _, _, rfl, rfl, _, rfl, ite2 (fun _ => iteT ⟨_, rfl, j1, sz, ⟨_, rfl⟩, kp⟩) (fun _ => ?_)⟩
      refine ⟨_, rfl, _, _, rfl, rfl, ⟨by decide, by decide⟩, _, _, rfl, rfl, (by show (0 : Int) < 8; decide), .inl ⟨rfl, _, rfl, ite2 (fun _ => ⟨_, rfl, j1, sz, ⟨_, rfl⟩, kp⟩) (fun _ => ?_)⟩⟩
      exact ⟨⟨_, rfl⟩, j1, j2, j3, j4, cs', by omega, j6, j7⟩
    · rintro σ ys H4 ⟨_, j1, j2, j3, j4, cs', j5, j6, j7⟩
      refine ⟨(by show 2 ≤ sizeLine; decide), fun p5 hp5 => ?_⟩
      have k5 : Same H4 (upd H4 p5 (.tup [.str t, .ref D2])) := same_new hp5 _
      have hcl := g3.length
      refine q p5 t cs' _ (j2.trans k5) (sent_rd upd_same (k5 _ _ j1) (j6.mono k5)) ⟨by omega, tw, by omega, fun c hc => ?_⟩ fun c hc => (j7 c hc).2
      rw [tlen]
      exact (j7 c hc).1
  refine ⟨_, rfl, .ref qa, _, rfl, .inl ⟨_, SqL.of g1, rfl⟩, _, _, rfl, rfl, _, rfl, ite2 (fun c1 => ?_) (fun c1 => ?_)⟩
  · have c1' : (0 : Int) < ((xs.length : Nat) : Int) := of_decide_eq_true c1
    refine ⟨_, rfl, _, _, rfl, rfl, (by show (0 : Int) < 6; decide), .inl ⟨rfl, _, rfl, ite2 (fun c2 => ?_) (fun c2 => ?_)⟩⟩
    · have z0 := Int.emod_nonneg (cellF ns 2 / 7 / 6) (show ((xs.length : Nat) : Int) ≠ 0 by omega)
      have z1 := Int.emod_lt_of_pos (cellF ns 2 / 7 / 6) c1'
      obtain ⟨x, hx, hxa⟩ := atI_ok (xs := xs) z0 z1
      obtain ⟨c, hc, tc, rfl, htc⟩ := g3.get hx
      refine ⟨_, rfl, .inl ⟨rfl, _, SqL.of g1⟩, _, rfl, _, rfl, _, _, rfl, rfl, ⟨by decide, by decide⟩, _, rfl, .ref qa, _, rfl, .inl ⟨_, SqL.of g1, rfl⟩, _, _, rfl, rfl, c1', .inl ⟨qa, xs, _, _, rfl, rfl, SqL.of g1, hxa, ?_⟩⟩
      refine ⟨qa, _, _, rfl, rfl, g1, (by rw [← g3.length]; exact small1000 (by omega)), ?_⟩
      refine key (xs ++ [.ref tc]) (cs ++ [c]) _ upd_same (CLs.snoc (CL.upd ⟨tc, rfl, htc⟩ g1) (g3.upd g1)) (fun b o e => ?_) (by rw [List.length_append]; exact Nat.succ_le_succ hc12) fun z hz => ?_
      · rw [upd_ne (ne_of_none e nqa)]
        exact g4 _ _ e
      · rcases List.mem_append.mp hz with y | y
        · exact g6 z y
        · rw [List.mem_singleton.mp y]
          exact g6 c (List.mem_of_getElem? hc)
    · exact key xs cs H3 g1 g3 g4 (by omega) g6
  · exact iteF (key xs cs H3 g1 g3 g4 (by omega) g6)
end
end K31


namespace K31
open PySem L2 OD
abbrev sHandOf : Stmt := top 9
structure BlH (mg : Str → Option Value) : Prop where
  len : mg "len" = none
  g_WISHER : GlobV mg "WISHER" (.str (Str.ofString "wisher"))
  g_SPOILER : GlobV mg "SPOILER" (.str (Str.ofString "spoiler"))
def spHand : Sp := fun vs H Q _ => ∃ (p : Addr) (t : Str) (w : V) (i : Nat), vs = [.ref p, .int ((i : Int) + 1)] ∧ H p = some (.tup [.str t, w]) ∧ i < t.length ∧ t.length ≤ 900 ∧ Q (.str (handS (isW t i))) H
section
variable {P : Program} {w : World} {K : PySem.W.Frag} {mg : Str → Option Value} {base : Heap}
theorem scHandOf : FnScope ["sentence", "variable", "turns"] ["sentence", "variable"] (defScope sHandOf) := ⟨rfl, rfl, rfl, by decide +kernel, rfl, by decide +kernel, by decide +kernel⟩
theorem ok_handof {f : Addr} {fd : FuncData} (F : Fun K "hand_of" "hand_of" sHandOf f fd) (T : BlH mg) : FnOk P w K mg base CX0 1 f fd ["sentence", "variable"] spHand := by
  have sc := scHandOf
  refine F.ok scHandOf (fun vs H Q E h => ?_) (fun cdv A outer s H vs Q E hr h => ?_)
  · obtain ⟨p, t, w, i, rfl, _⟩ := h
    rfl
  obtain ⟨p, t, w, i, rfl, hp, hi, h9, q⟩ := h
  have hu := hr.units
  refine ⟨_, (pss_cons (ps_set (i := 2) sc.nd rfl (Or.inl rfl) (pe_ix ix_seq (pv 0) pe_int (fun _ _ => rfl)))
    (pss_cons (ps_if (pt_not (pt_chain op_le op_le pe_int (pv 1) (pe_callB call_len rfl T.len PySem.boot_len (pa_cons (pv 2) pa_nil)))) (pss_one ps_never) pss_nil)
    (pss_one (ps_ret (pe_ifExp (pt_cmpR (op_eqA hu) (pe_ix ix_seq (pv 2) (pe_op op_sub (pv 1) pe_int) (fun _ _ => rfl)) pe_str (nomark _)) (pe_globV rfl T.g_WISHER) (pe_globV rfl T.g_SPOILER)))))), ?_⟩
  refine ⟨_, rfl, .inr (.inl ⟨p, _, 0, .str t, rfl, rfl, SqT.of hp, rfl, ?_⟩)⟩
  have e1 : decide ((1 : Int) ≤ (i : Int) + 1) = true := decide_eq_true (by omega)
  have e2 : decide ((i : Int) + 1 ≤ ((t.length : Nat) : Int)) = true := decide_eq_true (by omega)
  have hil : i < t.cps.toList.length := by
    rw [Array.length_toList]
    exact hi
  have hch := List.getElem?_eq_getElem hil
  have hat : atI t.cps.toList ((i : Int) + 1 - 1) = some t.cps.toList[i] := by
    have e : (i : Int) + 1 - 1 = (i : Int) := by omega
    rw [e]
    exact atI_nat hch
  refine ⟨_, rfl, _, _, rfl, rfl, _, rfl, ?_⟩
  rw [e1]
  refine iteT ⟨_, rfl, .str t, _, rfl, ⟨Nat.le_of_lt (small1000 (by omega)), rfl⟩, _, _, rfl, rfl, _, rfl, ?_⟩
  rw [e2]
  refine iteF ?_
  refine ⟨_, rfl, _, rfl, _, _, rfl, rfl, .inr (.inr ⟨t, _, _, rfl, rfl, Nat.le_of_lt (small1000 (by omega)), hat, .inl ⟨rfl, _, rfl, ?_⟩⟩)⟩
  rw [str_w, ← isW_at hch]
  cases g : isW t i with
  | true =>
    rw [g] at q
    exact iteT q
  | false =>
    rw [g] at q
    exact iteF q
end
end K31


namespace K31
open PySem L2 OD
abbrev sNum : Stmt := top 4
abbrev sSet : Stmt := top 8
abbrev sVars : Stmt := top 11
abbrev sRule : Stmt := top 13
abbrev sRules : Stmt := top 14
abbrev sEntry : Stmt := top 15
abbrev sPlanB : Stmt := top 16
structure BlS (mg : Str → Option Value) : Prop where
  isinstance : mg "isinstance" = none
  int : mg "int" = none
  bool : mg "bool" = none
  tuple : mg "tuple" = none
  list : mg "list" = none
  abs : mg "abs" = none
  len : mg "len" = none
  all : mg "all" = none
  range : mg "range" = none
  zip : mg "zip" = none
  sorted : mg "sorted" = none
  set : mg "set" = none
def spNum : Sp := fun vs H Q _ => ∃ v d, vs = [v] ∧ RD H d v ∧ Q (.bl (isIntD d && !isBoolD d)) H
def spSet : Sp := fun vs H Q _ => ∃ v d most, vs = [v, .int most] ∧ RD H d v ∧ Q (.bl (setD most d)) H
def spVars : Sp := fun vs H Q _ => ∃ (p : Addr) (t : Str) (w : V) (hw : Bool), vs = [.ref p, .str (handS hw)] ∧ H p = some (.tup [.str t, w]) ∧ t.length ≤ 900 ∧ ∀ (l : Addr) (H' : Hp), Same H H' → H' l = some (.lst ((varsOf t hw).map V.int)) → Q (.ref l) H'
def spRule : Sp := fun vs H Q _ => ∃ v d n, vs = [v, .int n] ∧ RD H d v ∧ Q (.bl (ruleB n d)) H
def spRules : Sp := fun vs H Q _ => ∃ v d n, vs = [v, .int n] ∧ RD H d v ∧ (∀ rs, d = .list rs → rs.length ≤ 900) ∧ ∀ H', Same H H' → Q (.bl (rulesB n d)) H'
def spEntry : Sp := fun vs H Q _ => ∃ v d n, vs = [v, .int n] ∧ RD H d v ∧ SzE d ∧ ∀ H', Same H H' → Q (.bl (entryB n d)) H'
def spPlanB : Sp := fun vs H Q _ => ∃ (p : Addr) (t : Str) (w : V) (hw : Bool) (v : V) (d : PyData), vs = [.ref p, .str (handS hw), v] ∧ H p = some (.tup [.str t, w]) ∧ t.length ≤ 900 ∧ RD H d v ∧ SzP d ∧ ∀ H', Same H H' → Q (.bl (planB (varsOf t hw) d)) H'
theorem RDs_two {H : Hp} {ds : List PyData} {xs : List V} (h : RDs H ds xs) (hl : ds.length = 2) : ∃ d0 d1 x0 x1, ds = [d0, d1] ∧ xs = [x0, x1] ∧ RD H d0 x0 ∧ RD H d1 x1 := by
  have hl2 := RDs_len h
  match ds, xs, hl, hl2 with
  | [d0, d1], [x0, x1], _, _ => exact ⟨d0, d1, x0, x1, rfl, rfl, RDs_get (j := 0) h rfl, RDs_get (j := 1) h rfl⟩
theorem RDs_three {H : Hp} {ds : List PyData} {xs : List V} (h : RDs H ds xs) (hl : ds.length = 3) : ∃ d0 d1 d2 x0 x1 x2, ds = [d0, d1, d2] ∧ xs = [x0, x1, x2] ∧ RD H d0 x0 ∧ RD H d1 x1 ∧ RD H d2 x2 := by
  have hl2 := RDs_len h
  match ds, xs, hl, hl2 with
  | [d0, d1, d2], [x0, x1, x2], _, _ => exact ⟨d0, d1, d2, x0, x1, x2, rfl, rfl, RDs_get (j := 0) h rfl, RDs_get (j := 1) h rfl, RDs_get (j := 2) h rfl⟩
theorem t0_of {σ : St} {H : Hp} {A B : Hp → Prop} (h : A H) : tT0 σ H fun b H4 => if b = true then A H4 else B H4 := by
  show (if true = true then A H else B H)
  exact iteT h
theorem len_ne {n : Nat} {k : Int} {A B : Prop} (h : (n : Int) ≠ k) (a : A) : if (!decide (V.int (n : Int) = V.int k)) = true then A else B := by
  rw [decide_eq_false fun z => h (V.int.inj z)]
  exact iteT a
section
variable {P : Program} {w : World} {K : PySem.W.Frag} {mg : Str → Option Value} {base : Heap}
theorem scNum : FnScope ["thing"] ["thing"] (defScope sNum) := ⟨rfl, rfl, rfl, by decide +kernel, rfl, by decide +kernel, by decide +kernel⟩
theorem ok_num {f : Addr} {fd : FuncData} (F : Fun K "is_number" "is_number" sNum f fd) (T : BlS mg) : FnOk P w K mg base CX0 1 f fd ["thing"] spNum := by
  refine F.ok scNum (fun vs H Q E h => ?_) (fun cdv A outer s H vs Q E hr h => ?_)
  · obtain ⟨v, d, rfl, _⟩ := h
    rfl
  obtain ⟨v, d, rfl, hd, q⟩ := h
  have nd := RD_nodict hd
  refine ⟨_, (pss_one (ps_ret (pe_and (pe_callB call_isinst rfl T.isinstance PyProof.Rows.boot_isinstance (pa_cons (pv 0) (pa_cons (pe_bltn (v := .ty "int") rfl T.int PyProof.Rows.boot_int rfl) pa_nil))) (pe_one (pe_not (pe_callB call_isinst rfl T.isinstance PyProof.Rows.boot_isinstance (pa_cons (pv 0) (pa_cons (pe_bltn (v := .ty "bool") rfl T.bool PyProof.Rows.boot_bool rfl) pa_nil)))))))), ?_⟩
  refine ⟨_, rfl, v, _, "int", _, rfl, RD_ty d v hd, kit_int d nd, _, rfl, ?_⟩
  cases hI : isIntD d with
  | false =>
    rw [hI] at q
    exact iteF q
  | true =>
    rw [hI] at q
    exact iteT ⟨_, rfl, v, _, "bool", _, rfl, RD_ty d v hd, kit_bool d nd, _, rfl, q⟩
theorem scSet : FnScope ["thing", "most", "behind", "literal"] ["thing", "most"] (defScope sSet) := ⟨rfl, rfl, rfl, by decide +kernel, rfl, by decide +kernel, by decide +kernel⟩
theorem ok_set {f g : Addr} {fd gd : FuncData} (F : Fun K "is_set" "is_set" sSet f fd) (T : BlS mg) (Gis_number : Fn P w K mg base 1 "is_number" g gd ["thing"] spNum) : FnOk P w K mg base CX0 2 f fd ["thing", "most"] spSet := by
  have sc := scSet
  refine F.ok scSet (fun vs H Q E h => ?_) (fun cdv A outer s H vs Q E hr h => ?_)
  · obtain ⟨v, d, most, rfl, _⟩ := h
    rfl
  obtain ⟨v, d, most, rfl, hd, q⟩ := h
  have nd := RD_nodict hd
  refine ⟨_, (pss_cons (ps_if (pt_not (pt_val (pe_callB call_isinst rfl T.isinstance PyProof.Rows.boot_isinstance (pa_cons (pv 0) (pa_cons (pe_bltn (v := .ty "tuple") rfl T.tuple PyProof.Rows.boot_tuple rfl) pa_nil))))) (pss_one (ps_ret pe_bl)) pss_nil)
    (pss_cons (ps_set (i := 2) sc.nd rfl (Or.inl rfl) pe_int)
    (pss_cons (ps_for PassesOwn.never rfl (pi_tup (pv 0)) (pg_name (i := 3) sc.nd rfl (Or.inl rfl))
      (pss_cons (ps_if (PW.pt (pw_or (pt_not (pt_val (pcall Gis_number hr (by omega) rfl (pa_cons (pv 3) pa_nil)))) (pw_or1 (pt_not (pt_chain op_lt op_le (pv 2) (pe_callB call_abs rfl T.abs PyProof.Rows.boot_abs (pa_cons (pv 3) pa_nil)) (pv 1)))))) (pss_one (ps_ret pe_bl)) pss_nil)
      (pss_one (ps_set (i := 2) sc.nd rfl (Or.inl rfl) (pe_callB call_abs rfl T.abs PyProof.Rows.boot_abs (pa_cons (pv 3) pa_nil))))))
    (pss_one (ps_ret pe_bl))))), ?_⟩
  refine ⟨_, rfl, v, _, "tuple", _, rfl, RD_ty d v hd, kit_tuple d nd, _, rfl, ?_⟩
  cases d with
  | tuple ds =>
    refine iteF ?_
    obtain ⟨a, xs, rfl, ha, hx⟩ := RD_tup_inv hd
    have hlen := RDs_len hx
    refine ⟨_, rfl, a, rfl, ⟨_, SqT.of ha⟩, for_tup (K := K) (a := a) (xs := xs) (fun i σ H2 => ∃ (b : Int) (l : Option V), σ = [some (.ref a), some (.int most), some (.int b), l] ∧ H2 = H ∧ setB most b (ds.drop i) = setB most 0 ds)
      ⟨0, none, rfl, rfl, rfl⟩ (fun i σ H2 _ hp => by obtain ⟨_, _, _, e, _⟩ := hp; rw [e]; exact SqT.of ha) ?_ ?_⟩
    · rintro i y σ H2 hi ⟨b, l, rfl, rfl, hb⟩
      have hil : i < xs.length := (List.getElem?_eq_some_iff.mp hi).1
      have hy := RDs_get hx hi
      rw [drop_getD PyData.none (by omega)] at hb
      refine ⟨_, rfl, y, _, rfl, hy, _, rfl, ?_⟩
      rcases int_or (ds.getD i .none) with ⟨z, hz⟩ | hz
      · rw [hz] at hy hb ⊢
        obtain rfl := RD_int_inv hy
        refine iteF ?_
        refine ⟨_, rfl, _, rfl, z, rfl, _, _, rfl, rfl, _, rfl, ?_⟩
        rw [setB_int] at hb
        refine ite2 (fun c1 => ?_) (fun c1 => ?_)
        · have c1' : b < absI z := of_decide_eq_true c1
          refine ⟨_, rfl, _, _, rfl, rfl, _, rfl, ?_⟩
          refine ite2 (fun c2 => ?_) (fun c2 => ?_)
          · have c2' : ¬ absI z ≤ most := fun hh => by
              have e : decide (absI z ≤ most) = true := decide_eq_true hh
              rw [show decide ((if z < 0 then -z else z) ≤ most) = true from e] at c2
              cases c2
            rw [if_neg (by omega)] at hb
            show Q (.bl false) _
            rw [show setD most (.tuple ds) = setB most 0 ds from rfl, ← hb] at q
            exact q
          · have c2' : absI z ≤ most := Decidable.byContradiction fun hh => by
              have e : decide (absI z ≤ most) = false := decide_eq_false hh
              rw [show decide ((if z < 0 then -z else z) ≤ most) = false from e] at c2
              exact c2 rfl
            rw [if_pos ⟨c1', c2'⟩] at hb
            refine ⟨_, rfl, z, rfl, ?_⟩
            exact ⟨absI z, some (.int z), rfl, rfl, hb⟩
        · have c1' : ¬ b < absI z := fun hh => c1 (decide_eq_true hh)
          rw [if_neg (fun hh => c1' hh.1)] at hb
          refine ⟨_, rfl, iteT ?_⟩
          show Q (.bl false) _
          rw [show setD most (.tuple ds) = setB most 0 ds from rfl, ← hb] at q
          exact q
      · rw [not_int hz]
        rw [setB_bad hz] at hb
        refine iteT (iteT ?_)
        show Q (.bl false) _
        rw [show setD most (.tuple ds) = setB most 0 ds from rfl, ← hb] at q
        exact q
    · rintro σ H2 ⟨b, l, rfl, rfl, hb⟩
      show Q (.bl true) _
      rw [List.drop_eq_nil_of_le (by omega)] at hb
      rw [show setD most (.tuple ds) = setB most 0 ds from rfl, ← hb] at q
      exact q
  | _ => exact iteT q
theorem scVars : FnScope ["sentence", "hand"] ["sentence", "hand"] (defScope sVars) := ⟨rfl, rfl, rfl, by decide +kernel, rfl, by decide +kernel, by decide +kernel⟩
theorem ok_vars {f f1 : Addr} {fd d1 : FuncData} (F : Fun K "variables_of" "variables_of" sVars f fd) (T : BlS mg) (Ghand_of : Fn P w K mg base 1 "hand_of" f1 d1 ["sentence", "variable"] spHand) : FnOk P w K mg base CX0 2 f fd ["sentence", "hand"] spVars := by
  have sc := scVars
  refine F.ok scVars (fun vs H Q E h => ?_) (fun cdv A outer s H vs Q E hr h => ?_)
  · obtain ⟨p, t, w, hw, rfl, _⟩ := h
    rfl
  obtain ⟨p, t, w, hw, rfl, hp, h9, q⟩ := h
  have hu := hr.units
  refine ⟨_, (pss_one (ps_ret (pe_comp (NY := ["variable", "hand", "sentence"]) (idx := [none, some 1, some 0]) rfl ⟨by with_unfolding_all rfl, (by with_unfolding_all exact ⟨rfl, rfl, trivial⟩), by rfl, by rfl, by rfl, by decide, by rfl, by decide⟩ (pi_range2 rfl T.range (pa_cons pe_int (pa_cons (pe_op op_add (pe_callB call_len rfl T.len PySem.boot_len (pa_cons (pe_ix ix_seq (pv 0) pe_int (fun _ _ => rfl)) pa_nil)) pe_int) pa_nil))) (fun _ _ _ _ => (pg_name (i := 0) (show List.Nodup (["variable", "hand", "sentence"] : List Str) by decide +kernel) rfl (Or.inl rfl))) (fun _ _ _ _ => (pif_one (pt_cmpR (op_eqA hu) (pcall Ghand_of hr (by omega) rfl (pa_cons (pv 2) (pa_cons (pv 0) pa_nil))) (pv 1) (nomark _)))) (fun _ _ _ _ => (pv 0))))), ?_⟩
  refine ⟨_, rfl, .inr (.inl ⟨p, _, 0, .str t, rfl, rfl, SqT.of hp, rfl, .str t, _, rfl, ⟨Nat.le_of_lt (small1000 (by omega)), rfl⟩, _, _, rfl, rfl, ?_⟩)⟩
  refine ⟨_, _, rfl, ⟨by decide, by decide, by omega, by omega⟩, fun D hD => ?_⟩
  have en : ((t.length : Int) + 1 - 1).toNat = t.length := by omega
  refine comp_range (lo := 1) (n := ((t.length : Int) + 1 - 1).toNat) (fun i σ ys H2 => (∃ v0, σ = [v0, some (.str (handS hw)), some (.ref p)]) ∧ ys = (((List.range i).filter fun i => isW t i == hw).map fun (i : Nat) => V.int ((i : Int) + 1)) ∧ H2 = upd H D (.lst ys))
    ⟨⟨none, rfl⟩, rfl, rfl⟩ ?_ ?_ ?_
  · rintro i σ ys H2 _ ⟨_, _, rfl⟩
    exact upd_same
  · rintro i σ ys H2 hi ⟨⟨v0, rfl⟩, rfl, rfl⟩
    rw [en] at hi
    have hp2 := same_new hD (.lst (((List.range i).filter fun i => isW t i == hw).map fun (i : Nat) => V.int ((i : Int) + 1))) _ _ hp
    have ei : (1 : Int) + (i : Int) = (i : Int) + 1 := by omega
    rw [ei]
    refine ⟨_, rfl, _, rfl, p, t, w, i, rfl, hp2, hi, h9, _, rfl, .inl ⟨rfl, _, rfl, ?_⟩⟩
    rw [dec_hand, List.range_succ, List.filter_append]
    by_cases g0 : isW t i = hw
    · have g : (isW t i == hw) = true := by rw [g0]; exact beq_self_eq_true _
      rw [decide_eq_true g0]
      refine iteT ⟨_, rfl, upd_same, ?_, ⟨_, rfl⟩, ?_, upd_upd⟩
      · have := List.length_filter_le (fun i => isW t i == hw) (List.range i)
        rw [List.length_range] at this
        rw [List.length_map]
        exact small1000 (by omega)
      · rw [List.filter_cons_of_pos (p := fun i => isW t i == hw) g, List.map_append]
        rfl
    · rw [decide_eq_false g0]
      refine iteF ⟨⟨_, rfl⟩, ?_, rfl⟩
      rw [List.filter_cons_of_neg (p := fun i => isW t i == hw) (fun z => g0 (by simpa using z))]
      simp
  · rintro σ ys H2 ⟨_, rfl, rfl⟩
    refine q D _ (same_new hD _) ?_
    rw [upd_same, en]
    unfold varsOf
    rw [List.map_map]
    rfl
theorem scRule : FnScope ["thing", "variable"] ["thing", "variable"] (defScope sRule) := ⟨rfl, rfl, rfl, by decide +kernel, rfl, by decide +kernel, by decide +kernel⟩
theorem ok_rule {f f1 : Addr} {fd d1 : FuncData} (F : Fun K "is_rule" "is_rule" sRule f fd) (T : BlS mg) (Gis_set : Fn P w K mg base 2 "is_set" f1 d1 ["thing", "most"] spSet) : FnOk P w K mg base CX0 3 f fd ["thing", "variable"] spRule := by
  have sc := scRule
  refine F.ok scRule (fun vs H Q E h => ?_) (fun cdv A outer s H vs Q E hr h => ?_)
  · obtain ⟨v, d, n, rfl, _⟩ := h
    rfl
  obtain ⟨v, d, n, rfl, hd, q⟩ := h
  have hu := hr.units
  have nd := RD_nodict hd
  refine ⟨_, (pss_cons (ps_if (PW.pt (pw_or (pt_not (pt_val (pe_callB call_isinst rfl T.isinstance PyProof.Rows.boot_isinstance (pa_cons (pv 0) (pa_cons (pe_bltn (v := .ty "tuple") rfl T.tuple PyProof.Rows.boot_tuple rfl) pa_nil))))) (pw_or1 (pt_cmpR (op_neA hu) (pe_callB call_len rfl T.len PySem.boot_len (pa_cons (pv 0) pa_nil)) pe_int (nomark _))))) (pss_one (ps_ret pe_bl)) pss_nil)
    (pss_one (ps_ret (pe_and (pcall Gis_set hr (by omega) rfl (pa_cons (pe_ix ix_seq (pv 0) pe_int (fun _ _ => rfl)) (pa_cons (pe_op op_sub (pv 1) pe_int) pa_nil))) (pe_one (pe_callB call_isinst rfl T.isinstance PyProof.Rows.boot_isinstance (pa_cons (pe_ix ix_seq (pv 0) pe_int (fun _ _ => rfl)) (pa_cons (pe_bltn (v := .ty "bool") rfl T.bool PyProof.Rows.boot_bool rfl) pa_nil)))))))), ?_⟩
  refine ⟨_, rfl, v, _, "tuple", _, rfl, RD_ty d v hd, kit_tuple d nd, _, rfl, ?_⟩
  cases d with
  | tuple ds =>
    refine iteF ?_
    obtain ⟨a, xs, rfl, ha, hx⟩ := RD_tup_inv hd
    have hlen := RDs_len hx
    refine ⟨_, rfl, .ref a, _, rfl, .inr ⟨_, SqT.of ha, rfl⟩, .inl ⟨rfl, _, rfl, ?_⟩⟩
    by_cases h2 : ds.length = 2
    · obtain ⟨e0, e1, x0, x1, rfl, rfl, r0, r1⟩ := RDs_two hx h2
      refine neF rfl ?_
      refine ⟨_, rfl, .inr (.inl ⟨a, [x0, x1], 0, x0, rfl, rfl, SqT.of ha, rfl, _, rfl, _, _, rfl, rfl, x0, e0, _, rfl, r0, _, rfl, ?_⟩)⟩
      have e : ruleB n (.tuple [e0, e1]) = (setD (n - 1) e0 && isBoolD e1) := rfl
      rw [e] at q
      cases g : setD (n - 1) e0 with
      | false =>
        rw [g] at q
        exact iteF q
      | true =>
        rw [g] at q
        exact iteT ⟨_, rfl, .inr (.inl ⟨a, [x0, x1], 1, x1, rfl, rfl, SqT.of ha, rfl, x1, _, "bool", _, rfl, RD_ty e1 x1 r1, kit_bool e1 (RD_nodict r1), q⟩)⟩
    · rw [rule_short h2] at q
      exact len_ne (by omega) q
  | _ => exact iteT (iteT q)
theorem scRules : FnScope ["thing", "variable"] ["thing", "variable"] (defScope sRules) := ⟨rfl, rfl, rfl, by decide +kernel, rfl, by decide +kernel, by decide +kernel⟩
theorem ok_rules {f f1 : Addr} {fd d1 : FuncData} (F : Fun K "is_rules" "is_rules" sRules f fd) (T : BlS mg) (Gis_rule : Fn P w K mg base 3 "is_rule" f1 d1 ["thing", "variable"] spRule) : FnOk P w K mg base CX0 4 f fd ["thing", "variable"] spRules := by
  have sc := scRules
  refine F.ok scRules (fun vs H Q E h => ?_) (fun cdv A outer s H vs Q E hr h => ?_)
  · obtain ⟨v, d, n, rfl, _⟩ := h
    rfl
  obtain ⟨v, d, n, rfl, hd, hz, q⟩ := h
  have hu := hr.units
  have nd := RD_nodict hd
  refine ⟨_, (pss_one (ps_ret (pe_and (pe_callB call_isinst rfl T.isinstance PyProof.Rows.boot_isinstance (pa_cons (pv 0) (pa_cons (pe_bltn (v := .ty "list") rfl T.list PyProof.Rows.boot_list rfl) pa_nil))) (pe_one (pe_callB (call_all rfl) rfl T.all PyProof.Rows.boot_all (pa_cons (pe_comp (NY := ["rule", "variable"]) (idx := [none, some 1]) rfl ⟨by with_unfolding_all rfl, (by with_unfolding_all exact ⟨rfl, trivial⟩), by rfl, by rfl, by rfl, by decide, by rfl, by decide⟩ (pi_list (pv 0)) (fun _ _ _ _ => (pg_name (i := 0) (show List.Nodup (["rule", "variable"] : List Str) by decide +kernel) rfl (Or.inl rfl))) (fun _ _ _ _ => pif_nil) (fun _ _ _ _ => (pcall Gis_rule hr (by omega) rfl (pa_cons (pv 0) (pa_cons (pv 1) pa_nil))))) pa_nil)))))), ?_⟩
  refine ⟨_, rfl, v, _, "list", _, rfl, RD_ty d v hd, kit_list d nd, _, rfl, ?_⟩
  cases d with
  | list es =>
    refine iteT ?_
    obtain ⟨b, ys, rfl, hb, hy⟩ := RD_list_inv hd
    have hyl := RDs_len hy
    have z1 := hz es rfl
    refine ⟨_, rfl, b, rfl, ⟨_, SqL.of hb⟩, fun D hD => ?_⟩
    refine comp_list (K := K) (a := b) (xs := ys) (fun i σ zs H2 => (∃ v0, σ = [v0, some (.int n)]) ∧ zs = (es.take i).map (fun d => V.bl (ruleB n d)) ∧ H2 = upd H D (.lst zs)) ⟨⟨none, rfl⟩, rfl, rfl⟩ ?_ ?_ ?_
    · rintro i σ zs H2 _ ⟨_, _, rfl⟩
      refine ⟨upd_same, SqL.of ?_⟩
      rw [upd_ne (ne_of_none hb hD)]
      exact hb
    · rintro i y σ zs H2 hi ⟨⟨v0, rfl⟩, rfl, rfl⟩
      have hil : i < ys.length := (List.getElem?_eq_some_iff.mp hi).1
      have hyi := RD_mono (same_new hD (.lst ((es.take i).map (fun d => V.bl (ruleB n d))))) _ _ (RDs_get hy hi)
      refine gName_t0 ⟨_, rfl, _, rfl, y, _, _, rfl, hyi, upd_same, ?_, ⟨_, rfl⟩, ?_, upd_upd⟩
      · rw [List.length_map, List.length_take]
        exact small1000 (by omega)
      · have hei : es[i]? = some (es.getD i .none) := by
          rw [List.getD_eq_getElem?_getD, List.getElem?_eq_getElem (by omega)]
          rfl
        rw [List.take_add_one, hei, List.map_append]
        rfl
    · rintro σ zs H2 ⟨_, rfl, rfl⟩
      rw [List.take_of_length_le (by omega)]
      refine ⟨D, _, rfl, SqL.of upd_same, (all_bl _ _).1, ?_⟩
      rw [(all_bl _ _).2]
      exact q _ (same_new hD _)
  | _ => exact iteF (q H (Same.refl _))
theorem scEntry : FnScope ["thing", "variable"] ["thing", "variable"] (defScope sEntry) := ⟨rfl, rfl, rfl, by decide +kernel, rfl, by decide +kernel, by decide +kernel⟩
theorem ok_entry {f f1 f2 : Addr} {fd d1 d2 : FuncData} (F : Fun K "is_entry" "is_entry" sEntry f fd) (T : BlS mg) (Gis_number : Fn P w K mg base 1 "is_number" f1 d1 ["thing"] spNum) (Gis_rules : Fn P w K mg base 4 "is_rules" f2 d2 ["thing", "variable"] spRules) : FnOk P w K mg base CX0 5 f fd ["thing", "variable"] spEntry := by
  have sc := scEntry
  refine F.ok scEntry (fun vs H Q E h => ?_) (fun cdv A outer s H vs Q E hr h => ?_)
  · obtain ⟨v, d, n, rfl, _⟩ := h
    rfl
  obtain ⟨v, d, n, rfl, hd, hz, q⟩ := h
  have hu := hr.units
  have nd := RD_nodict hd
  refine ⟨_, (pss_cons (ps_if (PW.pt (pw_or (pt_not (pt_val (pe_callB call_isinst rfl T.isinstance PyProof.Rows.boot_isinstance (pa_cons (pv 0) (pa_cons (pe_bltn (v := .ty "tuple") rfl T.tuple PyProof.Rows.boot_tuple rfl) pa_nil))))) (pw_or1 (pt_cmpR (op_neA hu) (pe_callB call_len rfl T.len PySem.boot_len (pa_cons (pv 0) pa_nil)) pe_int (nomark _))))) (pss_one (ps_ret pe_bl)) pss_nil)
    (pss_cons (ps_if (PW.pt (pw_or (pt_not (pt_val (pcall Gis_number hr (by omega) rfl (pa_cons (pe_ix ix_seq (pv 0) pe_int (fun _ _ => rfl)) pa_nil)))) (pw_or1 (pt_cmpR (op_neA hu) (pe_ix ix_seq (pv 0) pe_int (fun _ _ => rfl)) (pv 1) (nomark _))))) (pss_one (ps_ret pe_bl)) pss_nil)
    (pss_one (ps_ret (pe_and (pcall Gis_rules hr (by omega) rfl (pa_cons (pe_ix ix_seq (pv 0) pe_int (fun _ _ => rfl)) (pa_cons (pv 1) pa_nil))) (pe_one (pe_callB call_isinst rfl T.isinstance PyProof.Rows.boot_isinstance (pa_cons (pe_ix ix_seq (pv 0) pe_int (fun _ _ => rfl)) (pa_cons (pe_bltn (v := .ty "bool") rfl T.bool PyProof.Rows.boot_bool rfl) pa_nil))))))))), ?_⟩
  refine ⟨_, rfl, v, _, "tuple", _, rfl, RD_ty d v hd, kit_tuple d nd, _, rfl, ?_⟩
  cases d with
  | tuple ds =>
    refine iteF ?_
    obtain ⟨a, xs, rfl, ha, hx⟩ := RD_tup_inv hd
    have hlen := RDs_len hx
    refine ⟨_, rfl, .ref a, _, rfl, .inr ⟨_, SqT.of ha, rfl⟩, .inl ⟨rfl, _, rfl, ?_⟩⟩
    by_cases h3 : ds.length = 3
    · obtain ⟨e0, e1, e2, x0, x1, x2, rfl, rfl, r0, r1, r2⟩ := RDs_three hx h3
      refine neF rfl ?_
      refine ⟨_, rfl, .inr (.inl ⟨a, [x0, x1, x2], 0, x0, rfl, rfl, SqT.of ha, rfl, x0, e0, rfl, r0, _, rfl, ?_⟩)⟩
      rcases int_or e0 with ⟨m, rfl⟩ | hn
      · obtain rfl := RD_int_inv r0
        refine iteF ⟨_, rfl, .inr (.inl ⟨a, [.int m, x1, x2], 0, .int m, rfl, rfl, SqT.of ha, rfl, _, rfl, .inl ⟨rfl, _, rfl, ?_⟩⟩)⟩
        have e : entryB n (.tuple [.int m, e1, e2]) = (decide (m = n) && (rulesB n e1 && isBoolD e2)) := rfl
        rw [e] at q
        by_cases hmn : m = n
        · subst hmn
          rw [decide_eq_true rfl] at q
          refine neF rfl ?_
          refine ⟨_, rfl, .inr (.inl ⟨a, [.int m, x1, x2], 1, x1, rfl, rfl, SqT.of ha, rfl, _, rfl, x1, e1, _, rfl, r1, (fun rs hrs => (hz _ _ _ rfl rs hrs).1), fun H1 k1 => ⟨_, rfl, ?_⟩⟩)⟩
          cases g : rulesB m e1 with
          | false =>
            rw [g] at q
            exact iteF (q H1 k1)
          | true =>
            rw [g] at q
            have ha' := k1 _ _ ha
            have r2' := RD_mono k1 _ _ r2
            exact iteT ⟨_, rfl, .inr (.inl ⟨a, [.int m, x1, x2], 2, x2, rfl, rfl, SqT.of ha', rfl, x2, _, "bool", _, rfl, RD_ty e2 x2 r2', kit_bool e2 (RD_nodict r2'), q H1 k1⟩)⟩
        · rw [decide_eq_false hmn] at q
          have e2 : (!decide (V.int m = V.int n)) = true := by
            rw [decide_eq_false fun z => hmn (V.int.inj z)]
            rfl
          rw [e2]
          exact iteT (q H (Same.refl _))
      · rw [not_int hn]
        rw [(entry_nonum hn).1] at q
        exact iteT (iteT (q H (Same.refl _)))
    · rw [(entry_short h3).1] at q
      exact len_ne (by omega) (q H (Same.refl _))
  | _ => exact iteT (iteT (q H (Same.refl _)))
theorem scPlanB : FnScope ["sentence", "hand", "plan", "variables"] ["sentence", "hand", "plan"] (defScope sPlanB) := ⟨rfl, rfl, rfl, by decide +kernel, rfl, by decide +kernel, by decide +kernel⟩
theorem vars_len (t : Str) (hw : Bool) : (varsOf t hw).length ≤ t.length := by
  unfold varsOf
  rw [List.length_map]
  have := List.length_filter_le (fun i => isW t i == hw) (List.range t.length)
  rwa [List.length_range] at this
theorem ok_planb {f f1 f2 : Addr} {fd d1 d2 : FuncData} (F : Fun K "is_plan" "is_plan" sPlanB f fd) (T : BlS mg) (Gvariables_of : Fn P w K mg base 2 "variables_of" f1 d1 ["sentence", "hand"] spVars) (Gis_entry : Fn P w K mg base 5 "is_entry" f2 d2 ["thing", "variable"] spEntry) : FnOk P w K mg base CX0 6 f fd ["sentence", "hand", "plan"] spPlanB := by
  have sc := scPlanB
  refine F.ok scPlanB (fun vs H Q E h => ?_) (fun cdv A outer s H vs Q E hr h => ?_)
  · obtain ⟨p, t, w, hw, v, d, rfl, _⟩ := h
    rfl
  obtain ⟨p, t, w, hw, v, d, rfl, hp, h9, hd, hz, q⟩ := h
  have hu := hr.units
  refine ⟨_, (pss_cons (ps_set (i := 3) sc.nd rfl (Or.inl rfl) (pcall Gvariables_of hr (by omega) rfl (pa_cons (pv 0) (pa_cons (pv 1) pa_nil))))
    (pss_cons (ps_if (PW.pt (pw_or (pt_not (pt_val (pe_callB call_isinst rfl T.isinstance PyProof.Rows.boot_isinstance (pa_cons (pv 2) (pa_cons (pe_bltn (v := .ty "list") rfl T.list PyProof.Rows.boot_list rfl) pa_nil))))) (pw_or1 (pt_cmpR (op_neA hu) (pe_callB call_len rfl T.len PySem.boot_len (pa_cons (pv 2) pa_nil)) (pe_callB call_len rfl T.len PySem.boot_len (pa_cons (pv 3) pa_nil)) (nomark _))))) (pss_one (ps_ret pe_bl)) pss_nil)
    (pss_one (ps_ret (pe_callB (call_all rfl) rfl T.all PyProof.Rows.boot_all (pa_cons (pe_comp (NY := ["entry", "variable"]) (idx := [none, none]) rfl ⟨by with_unfolding_all rfl, (by with_unfolding_all exact trivial), by rfl, by rfl, by rfl, by decide, by rfl, by decide⟩ (pi_zip rfl T.zip (pv 2) (pv 3)) (fun _ _ _ _ => (pg_tupK (K := K) (n := 2) rfl rfl (pgs_cons (pg_name (i := 0) (show List.Nodup (["entry", "variable"] : List Str) by decide +kernel) rfl (Or.inl rfl)) (pgs_cons (pg_name (i := 1) (show List.Nodup (["entry", "variable"] : List Str) by decide +kernel) rfl (Or.inl rfl)) pgs_nil)))) (fun _ _ _ _ => pif_nil) (fun _ _ _ _ => (pcall Gis_entry hr (by omega) rfl (pa_cons (pv 0) (pa_cons (pv 1) pa_nil))))) pa_nil)))))), ?_⟩
  refine ⟨_, rfl, _, rfl, p, t, w, hw, rfl, hp, h9, fun l H1 k1 hl => ?_⟩
  have hvl := vars_len t hw
  generalize varsOf t hw = us at hl hvl q
  have hd1 := RD_mono k1 _ _ hd
  have nd := RD_nodict hd1
  refine ⟨_, rfl, v, _, "list", _, rfl, RD_ty d v hd1, kit_list d nd, _, rfl, ?_⟩
  cases d with
  | list es =>
    refine iteF ?_
    obtain ⟨b, ys, rfl, hb, hy⟩ := RD_list_inv hd1
    have hyl := RDs_len hy
    obtain ⟨z1, z2⟩ := hz es rfl
    refine ⟨_, rfl, .ref b, _, rfl, .inl ⟨_, SqL.of hb, rfl⟩, _, rfl, .ref l, _, rfl, .inl ⟨_, SqL.of hl, rfl⟩, .inl ⟨rfl, _, rfl, ?_⟩⟩
    have e : planB us (.list es) = (decide (es.length = us.length) && (es.zip us).all fun p => entryB p.2 p.1) := rfl
    rw [e] at q
    by_cases hlen : es.length = us.length
    · rw [decide_eq_true hlen] at q
      refine neF (by rw [List.length_map, ← hlen, hyl]) ?_
      refine ⟨_, rfl, _, rfl, b, l, rfl, rfl, ⟨_, SqL.of hb⟩, ⟨_, SqL.of hl⟩, fun D hD => ?_⟩
      have nb : b ≠ D := ne_of_none hb hD
      have nl : l ≠ D := ne_of_none hl hD
      refine comp_zip (K := K) (a := b) (b := l) (xs := ys) (ys := us.map V.int) (n := ys.length) rfl (by rw [List.length_map]; omega) (fun i σ zs H2 => (∃ v0 v1, σ = [v0, v1]) ∧ zs = ((es.zip us).take i).map (fun p => V.bl (entryB p.2 p.1)) ∧ H2 D = some (.lst zs) ∧ (∀ b o, b ≠ D → H1 b = some o → H2 b = some o))
        ⟨⟨none, none, rfl⟩, rfl, upd_same, fun b o hb e => by rw [upd_ne hb]; exact e⟩ ?_ ?_ ?_
      · rintro i σ zs H2 _ ⟨_, _, h1, h2⟩
        exact ⟨h1, SqL.of (h2 _ _ nb hb), SqL.of (h2 _ _ nl hl)⟩
      · rintro i x y σ zs H2 t0 hx hy' ⟨⟨v0, v1, rfl⟩, rfl, h1, h2⟩ ht0
        have hil : i < ys.length := (List.getElem?_eq_some_iff.mp hx).1
        obtain ⟨u, rfl, hu2⟩ := ints_get hy'
        have k2 : ∀ b o, b ≠ D → H1 b = some o → upd H2 t0 (.tup [x, .int u]) b = some o := fun b o hb e => by
          have e2 := h2 b o hb e
          rw [upd_ne (ne_of_none e2 ht0)]
          exact e2
        have hei : es[i]? = some (es.getD i .none) := by
          rw [List.getD_eq_getElem?_getD, List.getElem?_eq_getElem (by omega)]
          rfl
        have hrx : RD (upd H2 t0 (.tup [x, .int u])) (es.getD i .none) x := by
          have r := RDs_get hy hx
          exact RD_mono (fun b o e => k2 b o (ne_of_none e hD) e) _ _ r
        refine ⟨t0, [x, .int u], rfl, SqT.of upd_same, rfl, _, _, rfl, _, _, rfl, rfl, t0_of ⟨_, rfl, _, rfl, x, _, u, rfl, hrx, z2 _ (List.mem_of_getElem? hei), fun H3 k3 => ?_⟩⟩
        have h1' : upd H2 t0 (.tup [x, .int u]) D = some (.lst (((es.zip us).take i).map (fun p => V.bl (entryB p.2 p.1)))) := by
          rw [upd_ne (ne_of_none h1 ht0)]
          exact h1
        refine ⟨k3 _ _ h1', ?_, ⟨_, _, rfl⟩, ?_, upd_same, fun b o hb e => ?_⟩
        · rw [List.length_map, List.length_take]
          exact small1000 (by omega)
        · have hzi : (es.zip us)[i]? = some (es.getD i .none, u) := by
            rw [List.getElem?_zip_eq_some]
            exact ⟨hei, hu2⟩
          rw [List.take_add_one, hzi, List.map_append]
          rfl
        · rw [upd_ne hb]
          exact k3 _ _ (k2 b o hb e)
      · rintro σ zs H2 ⟨_, rfl, h1, h2⟩
        rw [List.take_of_length_le (by rw [List.length_zip]; omega)] at h1
        refine ⟨D, _, rfl, SqL.of h1, (all_bl _ _).1, ?_⟩
        rw [(all_bl _ _).2]
        exact q _ fun b o e => h2 b o (ne_of_none e (k1.free hD)) (k1 _ _ e)
    · rw [decide_eq_false hlen] at q
      have e2 : (!decide (V.int (ys.length : Int) = V.int ((us.map V.int).length : Int))) = true := by
        rw [decide_eq_false fun z => hlen (by have := V.int.inj z; rw [List.length_map] at this; omega)]
        rfl
      rw [e2]
      exact iteT (q H1 k1)
  | _ => exact iteT (iteT (q H1 k1))
end
end K31


namespace K31
open PySem L2 OD
abbrev sOwn : Stmt := top 22
abbrev sLawSet : Stmt := top 26
abbrev sGood : Stmt := top 27
def spOwn : Sp := fun vs H Q _ => ∃ (t : Str) (hw : Bool) (l : Int), vs = [.str t, .str (handS hw), .int l] ∧ 1 ≤ absI l ∧ absI l ≤ t.length ∧ t.length ≤ 900 ∧ Q (.bl (isW t (absI l - 1).toNat == hw)) H
def spSetL : Sp := fun vs H Q _ => ∃ v d most, vs = [v, .int most] ∧ RD H d v ∧ (∀ xs, d = .tuple xs → xs.length ≤ 18) ∧ ∀ H', Same H H' → Q (.bl (setD most d)) H'
def spGood : Sp := fun vs H Q _ => ∃ (p : Addr) (t : Str) (w : V) (hw : Bool) (v : V) (d : PyData), vs = [.ref p, .str (handS hw), v] ∧ H p = some (.tup [.str t, w]) ∧ t.length ≤ 900 ∧ RD H d v ∧ SzP d ∧ ∀ H', Same H H' → Q (.bl (goodB (varsOf t hw) d)) H'
theorem eqv_ints : ∀ a b : List Int, PyData.eqvAll (a.map .int) (b.map .int) = decide (a = b)
  | [], [] => by simp [PyData.eqvAll]
  | [], _ :: _ => by simp [PyData.eqvAll]
  | _ :: _, [] => by simp [PyData.eqvAll]
  | x :: a, y :: b => by
    rw [List.map_cons, List.map_cons, PyData.eqvAll, eqv_ints a b]
    have e : PyData.eqv (.int x) (.int y) = decide (x = y) := by
      rw [PyData.eqv]
      by_cases h : x = y <;> simp [h]
    rw [e]
    by_cases h : x = y <;> simp [h]
theorem eq_ints (a b : List Int) : PyData.eqv (.list (a.map .int)) (.list (b.map .int)) = decide (a = b) := by
  rw [PyData.eqv]
  exact eqv_ints a b
theorem setB_ints : ∀ {ds : List PyData} {most b : Int}, setB most b ds = true → ∀ d ∈ ds, ∃ z, d = .int z
  | [], _, _, _, _, h => nomatch h
  | e :: ds, most, b, h, d, hd => by
    rcases int_or e with ⟨z, rfl⟩ | hn
    · rw [setB_int] at h
      split at h
      · rcases List.mem_cons.mp hd with rfl | hd
        · exact ⟨z, rfl⟩
        · exact setB_ints h d hd
      · cases h
    · rw [setB_bad hn] at h
      cases h
theorem all_not {α : Type} {p : α → Bool} {l : List α} {a : α} (ha : a ∈ l) (h : p a = false) : l.all p = false := by
  cases g : l.all p with
  | false => rfl
  | true => rw [List.all_eq_true.mp g a ha] at h; cases h
theorem good_bad {vs : List Int} {es : List PyData} {e : PyData} (he : e ∈ es) (h : partB e = false) : goodB vs (.list es) = false := by
  show (es.all partB && _) = false
  rw [all_not he h]
  rfl
def outR (most : Int) : V → Bool
  | .int z => decide (z < 1) || decide (z > most)
  | _ => false
theorem outR_len (most : Int) (ns : List Int) : (((ns.map V.int).filter (outR most)).map id).length = (ns.filter fun z => decide (z < 1) || decide (z > most)).length := by
  rw [List.length_map]
  induction ns with
  | nil => rfl
  | cons n r ih =>
    rw [List.map_cons]
    by_cases h : (decide (n < 1) || decide (n > most)) = true
    · rw [List.filter_cons_of_pos (p := outR most) (a := V.int n) h, List.filter_cons_of_pos (p := fun z => decide (z < 1) || decide (z > most)) h, List.length_cons, List.length_cons, ih]
    · rw [List.filter_cons_of_neg (p := outR most) (a := V.int n) h, List.filter_cons_of_neg (p := fun z => decide (z < 1) || decide (z > most)) h, ih]
section
variable {P : Program} {w : World} {K : PySem.W.Frag} {mg : Str → Option Value} {base : Heap}
theorem scOwn : FnScope ["_law_turns", "_law_hand", "_law_literal"] ["_law_turns", "_law_hand", "_law_literal"] (defScope sOwn) := ⟨rfl, rfl, rfl, by decide +kernel, rfl, by decide +kernel, by decide +kernel⟩
theorem ok_own {f : Addr} {fd : FuncData} (F : Fun K "_law_own" "_law_own" sOwn f fd) (T : BlS mg) : FnOk P w K mg base CX0 1 f fd ["_law_turns", "_law_hand", "_law_literal"] spOwn := by
  have sc := scOwn
  refine F.ok scOwn (fun vs H Q E h => ?_) (fun cdv A outer s H vs Q E hr h => ?_)
  · obtain ⟨t, hw, l, rfl, _⟩ := h
    rfl
  obtain ⟨t, hw, l, rfl, l1, l2, h9, q⟩ := h
  have hu := hr.units
  refine ⟨_, (pss_one (ps_ret (pe_cmpR (op_eqA hu) (pe_cmpR (op_eqA hu) (pe_ix ix_seq (pv 0) (pe_op op_sub (pe_callB call_abs rfl T.abs PyProof.Rows.boot_abs (pa_cons (pv 2) pa_nil)) pe_int) (fun _ _ => rfl)) pe_str (nomark _)) (pe_cmpR (op_eqA hu) (pv 1) pe_str (nomark _)) (nomark _)))), ?_⟩
  have hil : (absI l - 1).toNat < t.cps.toList.length := by
    rw [Array.length_toList]
    show _ < t.length
    omega
  obtain ⟨ch, hch⟩ : ∃ ch, t.cps.toList[(absI l - 1).toNat]? = some ch := ⟨_, List.getElem?_eq_getElem hil⟩
  have hat : atI t.cps.toList (absI l - 1) = some ch := by
    have e : absI l - 1 = (((absI l - 1).toNat : Nat) : Int) := by omega
    rw [e]
    exact atI_nat hch
  refine ⟨_, rfl, _, rfl, l, rfl, _, _, rfl, rfl, .inr (.inr ⟨t, _, _, rfl, rfl, Nat.le_of_lt (small1000 (by omega)), hat, .inl ⟨rfl, _, rfl, .inl ⟨rfl, .inl ⟨rfl, ?_⟩⟩⟩⟩)⟩
  rw [str_w, ← isW_at hch, dec_w]
  have e : decide (V.bl (isW t (absI l - 1).toNat) = V.bl hw) = (isW t (absI l - 1).toNat == hw) := by
    cases isW t (absI l - 1).toNat <;> cases hw <;> rfl
  rw [e]
  exact q
theorem scLawSet : FnScope ["_law_thing", "_law_most", "_law_literal", "_law_variables"] ["_law_thing", "_law_most"] (defScope sLawSet) := ⟨rfl, rfl, rfl, by decide +kernel, rfl, by decide +kernel, by decide +kernel⟩
theorem ok_lawset {f : Addr} {fd : FuncData} (F : Fun K "_law_is_set" "_law_is_set" sLawSet f fd) (T : BlS mg) : FnOk P w K mg base CX0 1 f fd ["_law_thing", "_law_most"] spSetL := by
  have sc := scLawSet
  refine F.ok scLawSet (fun vs H Q E h => ?_) (fun cdv A outer s H vs Q E hr h => ?_)
  · obtain ⟨v, d, most, rfl, _⟩ := h
    rfl
  obtain ⟨v, d, most, rfl, hd, hz, q⟩ := h
  have hu := hr.units
  have nd := RD_nodict hd
  refine ⟨_, (pss_cons (ps_if (pt_not (pt_val (pe_callB call_isinst rfl T.isinstance PyProof.Rows.boot_isinstance (pa_cons (pv 0) (pa_cons (pe_bltn (v := .ty "tuple") rfl T.tuple PyProof.Rows.boot_tuple rfl) pa_nil))))) (pss_one (ps_ret pe_bl)) pss_nil)
    (pss_cons (ps_for PassesOwn.never rfl (pi_tup (pv 0)) (pg_name (i := 2) sc.nd rfl (Or.inl rfl))
      (pss_one (ps_if (PW.pt (pw_or (pt_not (pt_val (pe_callB call_isinst rfl T.isinstance PyProof.Rows.boot_isinstance (pa_cons (pv 2) (pa_cons (pe_bltn (v := .ty "int") rfl T.int PyProof.Rows.boot_int rfl) pa_nil))))) (pw_or1 (pt_val (pe_callB call_isinst rfl T.isinstance PyProof.Rows.boot_isinstance (pa_cons (pv 2) (pa_cons (pe_bltn (v := .ty "bool") rfl T.bool PyProof.Rows.boot_bool rfl) pa_nil))))))) (pss_one (ps_ret pe_bl)) pss_nil)))
    (pss_cons (ps_setcomp (i := 3) sc.nd rfl rfl (NY := ["_law_literal"]) (idx := [none]) rfl ⟨by with_unfolding_all rfl, (by with_unfolding_all exact trivial), by rfl, by rfl, by rfl, by decide, by rfl, by decide⟩ (pi_tup (pv 0)) (fun _ _ _ _ => (pg_name (i := 0) (show List.Nodup (["_law_literal"] : List Str) by decide +kernel) rfl (Or.inl rfl))) (fun _ _ _ _ => pif_nil) (fun _ _ _ _ => (pe_callB call_abs rfl T.abs PyProof.Rows.boot_abs (pa_cons (pv 0) pa_nil))) (by with_unfolding_all rfl))
    (pss_one (ps_ret (pe_and (pe_cmpR (op_eqA hu) (pv 3) (pe_sset rfl rfl T.sorted rfl T.set (pv 3)) (nomark _)) (pe_one (pe_cmpR (op_eqA hu) (pe_callB call_len rfl T.len PySem.boot_len (pa_cons (pe_comp (NY := ["_law_one", "_law_most"]) (idx := [none, some 1]) rfl ⟨by with_unfolding_all rfl, (by with_unfolding_all exact ⟨rfl, trivial⟩), by rfl, by rfl, by rfl, by decide, by rfl, by decide⟩ (pi_list (pv 3)) (fun _ _ _ _ => (pg_name (i := 0) (show List.Nodup (["_law_one", "_law_most"] : List Str) by decide +kernel) rfl (Or.inl rfl))) (fun _ _ _ _ => (pif_one (PW.pt (pw_or (pt_cmpR op_lt (pv 0) pe_int (nomark _)) (pw_or1 (pt_cmpR op_gt (pv 0) (pv 1) (nomark _))))))) (fun _ _ _ _ => (pv 0))) pa_nil)) pe_int (nomark _))))))))), ?_⟩
  refine ⟨_, rfl, v, _, "tuple", _, rfl, RD_ty d v hd, kit_tuple d nd, _, rfl, ?_⟩
  cases d with
  | tuple ds =>
    refine iteF ?_
    obtain ⟨a, xs, rfl, ha, hx⟩ := RD_tup_inv hd
    have hlen := RDs_len hx
    have h18 := hz ds rfl
    have q' : ∀ H', Same H H' → Q (.bl (setB most 0 ds)) H' := q
    refine ⟨_, rfl, a, rfl, ⟨_, SqT.of ha⟩, for_tup (K := K) (a := a) (xs := xs) (fun i σ H2 => ∃ (l : Option V), σ = [some (.ref a), some (.int most), l, none] ∧ H2 = H ∧ ∀ d ∈ ds.take i, ∃ z, d = .int z)
      ⟨none, rfl, rfl, fun _ z => nomatch z⟩ (fun i σ H2 _ hp => by obtain ⟨_, _, e, _⟩ := hp; rw [e]; exact SqT.of ha) ?_ ?_⟩
    · rintro i y σ H2 hi ⟨l, rfl, rfl, hb⟩
      have hil : i < xs.length := (List.getElem?_eq_some_iff.mp hi).1
      have hy := RDs_get hx hi
      have hei : ds[i]? = some (ds.getD i .none) := by
        rw [List.getD_eq_getElem?_getD, List.getElem?_eq_getElem (by omega)]
        rfl
      have hne := RD_nodict hy
      have bad : (∀ z, ds.getD i .none ≠ .int z) → setB most 0 ds = false := fun hn => by
        cases g : setB most 0 ds with
        | false => rfl
        | true =>
          obtain ⟨z, hz⟩ := setB_ints g _ (List.mem_of_getElem? hei)
          exact absurd hz (hn z)
      refine ⟨_, rfl, y, _, "int", _, rfl, RD_ty _ y hy, kit_int _ hne, _, rfl, ?_⟩
      rcases int_or (ds.getD i .none) with ⟨z, hz'⟩ | hn
      · rw [hz'] at hy ⊢
        obtain rfl := RD_int_inv hy
        refine iteF ⟨_, rfl, _, _, "bool", _, rfl, RD_ty _ _ hy, kit_bool (K := K) (.int z) rfl, _, rfl, iteF ?_⟩
        refine ⟨_, rfl, rfl, fun d hd2 => ?_⟩
        rw [List.take_add_one, hei] at hd2
        rcases List.mem_append.mp hd2 with w | w
        · exact hb d w
        · rw [List.mem_singleton.mp w]
          exact ⟨z, hz'⟩
      · have q2 := q' H2 (Same.refl _)
        rw [bad hn] at q2
        have e := not_int hn
        cases g : isIntD (ds.getD i .none) with
        | false => exact iteT (iteT q2)
        | true =>
          rw [g] at e
          have g2 : isBoolD (ds.getD i .none) = true := by simpa using e
          refine iteF ⟨_, rfl, y, _, "bool", _, rfl, RD_ty _ y hy, kit_bool _ hne, _, rfl, ?_⟩
          rw [g2]
          exact iteT q2
    · rintro σ H2 ⟨l, rfl, rfl, hb⟩
      rw [List.take_of_length_le (by omega)] at hb
      obtain ⟨ls, rfl⟩ : ∃ ls : List Int, ds = ls.map .int := by
        clear hx hlen h18 q q' hz hd nd ha
        induction ds with
        | nil => exact ⟨[], rfl⟩
        | cons d r ih =>
          obtain ⟨z, rfl⟩ := hb d List.mem_cons_self
          obtain ⟨ls, rfl⟩ := ih fun e he => hb e (List.mem_cons_of_mem _ he)
          exact ⟨z :: ls, rfl⟩
      rw [List.length_map] at hlen h18
      refine ⟨_, rfl, a, rfl, ⟨_, SqT.of ha⟩, fun D hD => ?_⟩
      refine comp_tup (K := K) (a := a) (xs := xs) (fun i σ zs H3 => (∃ v0, σ = [v0]) ∧ zs = ((ls.map absI).take i).map V.int ∧ H3 = upd H2 D (.lst zs)) ⟨⟨none, rfl⟩, rfl, rfl⟩ ?_ ?_ ?_
      · rintro i σ zs H3 _ ⟨_, _, rfl⟩
        refine ⟨upd_same, SqT.of ?_⟩
        rw [upd_ne (ne_of_none ha hD)]
        exact ha
      · rintro i y σ zs H3 hi ⟨⟨v0, rfl⟩, rfl, rfl⟩
        have hil : i < xs.length := (List.getElem?_eq_some_iff.mp hi).1
        have hy := RDs_get hx hi
        have hli : ls[i]? = some (ls.getD i 0) := by
          rw [List.getD_eq_getElem?_getD, List.getElem?_eq_getElem (by omega)]
          rfl
        have e : (ls.map PyData.int).getD i .none = .int (ls.getD i 0) := by
          rw [List.getD_eq_getElem?_getD, List.getElem?_map, hli]
          rfl
        rw [e] at hy
        obtain rfl := RD_int_inv hy
        refine gName_t0 ⟨_, rfl, _, rfl, upd_same, ?_, ⟨_, rfl⟩, ?_, upd_upd⟩
        · rw [List.length_map, List.length_take, List.length_map]
          exact small1000 (by omega)
        · rw [List.take_add_one, List.getElem?_map, hli, List.map_append]
          rfl
      · rintro σ zs H3 ⟨_, rfl, rfl⟩
        rw [List.take_of_length_le (by rw [List.length_map]; omega)]
        have k3 : Same H2 (upd H2 D (.lst ((ls.map absI).map V.int))) := same_new hD _
        have r3 : upd H2 D (.lst ((ls.map absI).map V.int)) D = some (.lst ((ls.map absI).map V.int)) := upd_same
        generalize upd H2 D (.lst ((ls.map absI).map V.int)) = H3 at k3 r3
        refine ⟨_, rfl, _, rfl, D, ls.map absI, rfl, SqL.of r3, (by rw [List.length_map]; omega), fun l2 ns' hl2 nd2 hm2 hs2 => ?_⟩
        have k4 : Same H3 (upd H3 l2 (.lst (ns'.map V.int))) := same_new hl2 _
        have r4 := k4 _ _ r3
        have s4 : upd H3 l2 (.lst (ns'.map V.int)) l2 = some (.lst (ns'.map V.int)) := upd_same
        generalize upd H3 l2 (.lst (ns'.map V.int)) = H4 at k4 r4 s4
        refine .inr ⟨.list ((ls.map absI).map .int), .list (ns'.map .int), RD_list r4 (RDs_ints _), RD_list s4 (RDs_ints _), shaped_ints _, shaped_ints _, _, rfl, ?_⟩
        rw [eq_ints]
        have hset := set_sorted (most := most) nd2 hm2 hs2
        rw [← hset] at q'
        by_cases g : ls.map absI = ns'
        · rw [decide_eq_true g] at q' ⊢
          refine iteT ⟨_, rfl, D, rfl, ⟨_, SqL.of r4⟩, fun D2 hD2 => ?_⟩
          refine comp_listP [some (.int most)] (outR most) id rfl r4 hD2 (by rw [List.length_map, List.length_map]; omega) (fun x hx2 H' R _ hR => ?_) (fun x _ _ H' R _ hR => ⟨_, rfl, hR⟩) ?_
          · obtain ⟨z, _, rfl⟩ := List.mem_map.mp hx2
            refine ⟨_, rfl, _, _, rfl, rfl, _, rfl, ?_⟩
            have hR' : R (decide (z < 1) || decide (z > most)) H' := hR
            cases g1 : decide (z < 1) with
            | true =>
              rw [g1] at hR'
              exact iteT hR'
            | false =>
              rw [g1] at hR'
              exact iteF ⟨_, rfl, _, rfl, _, _, rfl, rfl, _, rfl, hR'⟩
          · refine ⟨.ref D2, _, rfl, .inl ⟨_, SqL.of upd_same, rfl⟩, .inl ⟨rfl, ?_⟩⟩
            have q2 := q' _ (k3.trans (k4.trans (same_new hD2 (.lst ((((ls.map absI).map V.int).filter (outR most)).map id)))))
            rw [outR_len]
            have e : ∀ n : Nat, decide (V.int (n : Int) = V.int 0) = decide ((n : Int) = 0) := fun n => decide_eq_decide.mpr ⟨fun z => V.int.inj z, fun z => by rw [z]⟩
            rw [e]
            exact q2
        · rw [decide_eq_false g] at q' ⊢
          exact iteF (q' _ (k3.trans k4))
  | _ => exact iteT (q H (Same.refl _))
theorem own_vars (t : Str) (hw : Bool) (i : Nat) : (isW t (absI ((i : Int) + 1) - 1).toNat == hw) = (isW t i == hw) := by
  have e : (absI ((i : Int) + 1) - 1).toNat = i := by
    rw [absI_pos (by omega)]
    omega
  rw [e]
theorem scGood : FnScope ["_law_sentence_here", "_law_hand", "_law_plan_here", "_law_variables", "_law_part", "_law_rule"] ["_law_sentence_here", "_law_hand", "_law_plan_here"] (defScope sGood) := ⟨rfl, rfl, rfl, by decide +kernel, rfl, by decide +kernel, by decide +kernel⟩
theorem ok_good {f f1 f2 : Addr} {fd d1 d2 : FuncData} (F : Fun K "_law_good" "_law_good" sGood f fd) (T : BlS mg) (G_law_own : Fn P w K mg base 1 "_law_own" f1 d1 ["_law_turns", "_law_hand", "_law_literal"] spOwn) (G_law_is_set : Fn P w K mg base 1 "_law_is_set" f2 d2 ["_law_thing", "_law_most"] spSetL) : FnOk P w K mg base CX0 2 f fd ["_law_sentence_here", "_law_hand", "_law_plan_here"] spGood := by
  have sc := scGood
  refine F.ok scGood (fun vs H Q E h => ?_) (fun cdv A outer s H vs Q E hr h => ?_)
  · obtain ⟨p, t, w, hw, v, d, rfl, _⟩ := h
    rfl
  obtain ⟨p, t, w, hw, v, d, rfl, hp, h9, hd, hz, q⟩ := h
  have hu := hr.units
  have nd := RD_nodict hd
  refine ⟨_, (pss_cons (ps_if (pt_not (pt_val (pe_callB call_isinst rfl T.isinstance PyProof.Rows.boot_isinstance (pa_cons (pv 2) (pa_cons (pe_bltn (v := .ty "list") rfl T.list PyProof.Rows.boot_list rfl) pa_nil))))) (pss_one (ps_ret pe_bl)) pss_nil)
    (pss_cons (ps_set (i := 3) sc.nd rfl (Or.inl rfl) (pe_lst pa_nil))
    (pss_cons (ps_for PassesOwn.never rfl (pi_list (pv 2)) (pg_name (i := 4) sc.nd rfl (Or.inl rfl))
      (pss_cons (ps_if (PW.pt (pw_or (pt_not (pt_val (pe_callB call_isinst rfl T.isinstance PyProof.Rows.boot_isinstance (pa_cons (pv 4) (pa_cons (pe_bltn (v := .ty "tuple") rfl T.tuple PyProof.Rows.boot_tuple rfl) pa_nil))))) (pw_or (pt_cmpR (op_neA hu) (pe_callB call_len rfl T.len PySem.boot_len (pa_cons (pv 4) pa_nil)) pe_int (nomark _)) (pw_or1 (pt_not (pt_val (pe_callB call_isinst rfl T.isinstance PyProof.Rows.boot_isinstance (pa_cons (pe_ix ix_seq (pv 4) pe_int (fun _ _ => rfl)) (pa_cons (pe_bltn (v := .ty "list") rfl T.list PyProof.Rows.boot_list rfl) pa_nil))))))))) (pss_one (ps_ret pe_bl)) pss_nil)
      (pss_cons (ps_if (PW.pt (pw_or (pt_not (pt_val (pe_callB call_isinst rfl T.isinstance PyProof.Rows.boot_isinstance (pa_cons (pe_ix ix_seq (pv 4) pe_int (fun _ _ => rfl)) (pa_cons (pe_bltn (v := .ty "int") rfl T.int PyProof.Rows.boot_int rfl) pa_nil))))) (pw_or (pt_val (pe_callB call_isinst rfl T.isinstance PyProof.Rows.boot_isinstance (pa_cons (pe_ix ix_seq (pv 4) pe_int (fun _ _ => rfl)) (pa_cons (pe_bltn (v := .ty "bool") rfl T.bool PyProof.Rows.boot_bool rfl) pa_nil)))) (pw_or1 (pt_not (pt_val (pe_callB call_isinst rfl T.isinstance PyProof.Rows.boot_isinstance (pa_cons (pe_ix ix_seq (pv 4) pe_int (fun _ _ => rfl)) (pa_cons (pe_bltn (v := .ty "bool") rfl T.bool PyProof.Rows.boot_bool rfl) pa_nil))))))))) (pss_one (ps_ret pe_bl)) pss_nil)
      (pss_cons (ps_expr (pe_bm PySem.F.plainAttrs_list PySem.F.slot_list_append PySem.F.type_list_append mt_append (pv 3) (pa_cons (pe_ix ix_seq (pv 4) pe_int (fun _ _ => rfl)) pa_nil)))
      (pss_one (ps_for PassesOwn.never rfl (pi_list (pe_ix ix_seq (pv 4) pe_int (fun _ _ => rfl))) (pg_name (i := 5) sc.nd rfl (Or.inl rfl))
        (pss_cons (ps_if (PW.pt (pw_or (pt_not (pt_val (pe_callB call_isinst rfl T.isinstance PyProof.Rows.boot_isinstance (pa_cons (pv 5) (pa_cons (pe_bltn (v := .ty "tuple") rfl T.tuple PyProof.Rows.boot_tuple rfl) pa_nil))))) (pw_or (pt_cmpR (op_neA hu) (pe_callB call_len rfl T.len PySem.boot_len (pa_cons (pv 5) pa_nil)) pe_int (nomark _)) (pw_or1 (pt_not (pt_val (pe_callB call_isinst rfl T.isinstance PyProof.Rows.boot_isinstance (pa_cons (pe_ix ix_seq (pv 5) pe_int (fun _ _ => rfl)) (pa_cons (pe_bltn (v := .ty "bool") rfl T.bool PyProof.Rows.boot_bool rfl) pa_nil))))))))) (pss_one (ps_ret pe_bl)) pss_nil)
        (pss_one (ps_if (pt_not (pt_val (pcall G_law_is_set hr (by omega) rfl (pa_cons (pe_ix ix_seq (pv 5) pe_int (fun _ _ => rfl)) (pa_cons (pe_op op_sub (pe_ix ix_seq (pv 4) pe_int (fun _ _ => rfl)) pe_int) pa_nil))))) (pss_one (ps_ret pe_bl)) pss_nil)))))))))
    (pss_one (ps_ret (pe_cmpR (op_eqA hu) (pv 3) (pe_comp (NY := ["_law_k", "_law_hand", "_law_sentence_here"]) (idx := [none, some 1, some 0]) rfl ⟨by with_unfolding_all rfl, (by with_unfolding_all exact ⟨rfl, rfl, trivial⟩), by rfl, by rfl, by rfl, by decide, by rfl, by decide⟩ (pi_range1 rfl T.range (pa_cons (pe_callB call_len rfl T.len PySem.boot_len (pa_cons (pe_ix ix_seq (pv 0) pe_int (fun _ _ => rfl)) pa_nil)) pa_nil)) (fun _ _ _ _ => (pg_name (i := 0) (show List.Nodup (["_law_k", "_law_hand", "_law_sentence_here"] : List Str) by decide +kernel) rfl (Or.inl rfl))) (fun _ _ _ _ => (pif_one (pt_val (pcall G_law_own hr (by omega) rfl (pa_cons (pe_ix (ix_seqK (K := K) rfl) (pv 2) pe_int (fun _ _ => rfl)) (pa_cons (pv 1) (pa_cons (pe_op op_add (pv 0) pe_int) pa_nil))))))) (fun _ _ _ _ => (pe_op op_add (pv 0) pe_int))) (nomark _))))))), ?_⟩
  refine ⟨_, rfl, v, _, "list", _, rfl, RD_ty d v hd, kit_list d nd, _, rfl, ?_⟩
  cases d with
  | list es =>
    refine iteF ?_
    obtain ⟨b, ys, rfl, hb, hy⟩ := RD_list_inv hd
    have hyl := RDs_len hy
    obtain ⟨z1, z2⟩ := hz es rfl
    refine ⟨Nat.zero_le _, fun vr hvr => ?_⟩
    have nvr : H vr = none := hvr
    refine ⟨_, rfl, b, rfl, ⟨_, SqL.of (same_new hvr _ _ _ hb)⟩, for_list (K := K) (a := b) (xs := ys) (fun i σ H2 => ∃ (x4 x5 : Option V), σ = [some (.ref p), some (.str (handS hw)), some (.ref b), some (.ref vr), x4, x5] ∧ H2 vr = some (.lst (((es.take i).map partN).map V.int)) ∧ Same H H2 ∧ (es.take i).all partB = true)
      ⟨none, none, rfl, upd_same, same_new hvr _, rfl⟩ (fun i σ H2 _ hp => by obtain ⟨_, _, _, _, k, _⟩ := hp; exact SqL.of (k _ _ hb)) ?_ ?_⟩
    · rintro i y σ H2 hi ⟨x4, x5, rfl, g1, g2, g3⟩
      have hil : i < ys.length := (List.getElem?_eq_some_iff.mp hi).1
      have hyi := RD_mono g2 _ _ (RDs_get hy hi)
      have hei : es[i]? = some (es.getD i .none) := by
        rw [List.getD_eq_getElem?_getD, List.getElem?_eq_getElem (by omega)]
        rfl
      have hem : es.getD i .none ∈ es := List.mem_of_getElem? hei
      have ndi := RD_nodict hyi
      have bad : partB (es.getD i .none) = false → ∀ H', Same H H' → Q (.bl false) H' := fun hb H' k => by
        have q2 := q H' k
        rw [good_bad hem hb] at q2
        exact q2
      have hze := z2 _ hem
      have htk : es.take (i + 1) = es.take i ++ [es.getD i .none] := by
        rw [List.take_add_one, hei]
        rfl
      generalize es.getD i .none = e at hyi hei hem ndi bad hze htk
      refine ⟨_, rfl, y, _, "tuple", _, rfl, RD_ty e y hyi, kit_tuple e ndi, _, rfl, ?_⟩
      cases e with
      | tuple ds =>
        refine iteF ?_
        obtain ⟨a, xs, rfl, ha, hx⟩ := RD_tup_inv hyi
        have hlen := RDs_len hx
        refine ⟨_, rfl, .ref a, _, rfl, .inr ⟨_, SqT.of ha, rfl⟩, .inl ⟨rfl, _, rfl, ?_⟩⟩
        by_cases h3 : ds.length = 3
        · obtain ⟨e0, e1, e2, x0, x1, x2, rfl, rfl, r0, r1, r2⟩ := RDs_three hx h3
          refine neF rfl ?_
          refine ⟨_, rfl, .inr (.inl ⟨a, [x0, x1, x2], 1, x1, rfl, rfl, SqT.of ha, rfl, x1, _, "list", _, rfl, RD_ty e1 x1 r1, kit_list e1 (RD_nodict r1), _, rfl, ?_⟩)⟩
          cases gl : isLstD e1 with
          | false =>
            have hb1 : partB (.tuple [e0, e1, e2]) = false := by
              rcases int_or e0 with ⟨n, rfl⟩ | hn
              · exact (part_nolist gl).1
              · exact (entry_nonum (v := 0) hn).2
            exact iteT (bad hb1 H2 g2)
          | true =>
            refine iteF ?_
            obtain ⟨rs, rfl⟩ : ∃ rs, e1 = .list rs := by
              cases e1 with
              | list rs => exact ⟨rs, rfl⟩
              | _ => cases gl
            refine ⟨_, rfl, .inr (.inl ⟨a, [x0, x1, x2], 0, x0, rfl, rfl, SqT.of ha, rfl, x0, _, "int", _, rfl, RD_ty e0 x0 r0, kit_int e0 (RD_nodict r0), _, rfl, ?_⟩)⟩
            rcases int_or e0 with ⟨n, rfl⟩ | hn
            · obtain rfl := RD_int_inv r0
              refine iteF ⟨_, rfl, .inr (.inl ⟨a, [.int n, x1, x2], 0, .int n, rfl, rfl, SqT.of ha, rfl, _, _, "bool", _, rfl, RD_ty (.int n) _ r0, kit_bool (K := K) (.int n) rfl, _, rfl, iteF ?_⟩)⟩
              refine ⟨_, rfl, .inr (.inl ⟨a, [.int n, x1, x2], 2, x2, rfl, rfl, SqT.of ha, rfl, x2, _, "bool", _, rfl, RD_ty e2 x2 r2, kit_bool e2 (RD_nodict r2), _, rfl, ?_⟩)⟩
              cases gb : isBoolD e2 with
              | false =>
                refine iteT (bad ?_ H2 g2)
                rw [part_list, gb]
                rfl
              | true =>
                refine iteF ?_
                refine ⟨_, rfl, .inl ⟨rfl, _, SqL.of g1⟩, _, rfl, .inr (.inl ⟨a, [.int n, x1, x2], 0, .int n, rfl, rfl, SqT.of ha, rfl, vr, _, _, rfl, rfl, g1, ?_, ?_⟩)⟩
                · rw [List.length_map, List.length_map, List.length_take]
                  exact small1000 (by omega)
                obtain ⟨lb, us, rfl, hlb, hus⟩ := RD_list_inv r1
                have hul := RDs_len hus
                obtain ⟨zr1, zr2⟩ := hze _ _ _ rfl rs rfl
                have nav : a ≠ vr := fun z => by rw [z, g1] at ha; cases ha
                have hlv : lb ≠ vr → True := fun _ => trivial
                have k3 : Same H (upd H2 vr (.lst (((es.take i).map partN).map V.int ++ [.int n]))) := fun c o e => by
                  rw [upd_ne (ne_of_none e nvr)]
                  exact g2 _ _ e
                have rE : RD (upd H2 vr (.lst (((es.take i).map partN).map V.int ++ [.int n]))) (.tuple [.int n, .list rs, e2]) (.ref a) := by
                  have z := RD_mono k3 _ _ (RDs_get hy hi)
                  rw [List.getD_eq_getElem?_getD, hei] at z
                  exact z
                obtain ⟨a', xs', ea, ha3, hx3⟩ := RD_tup_inv rE
                cases ea
                have s3 : upd H2 vr (.lst (((es.take i).map partN).map V.int ++ [.int n])) vr = some (.lst (((es.take i).map partN).map V.int ++ [.int n])) := upd_same
                generalize upd H2 vr (.lst (((es.take i).map partN).map V.int ++ [.int n])) = H3 at k3 rE ha3 hx3 s3
                obtain ⟨w0, w1, ew, hw0, hw1⟩ := RDs_cons_inv hx3
                subst ew
                obtain rfl := RD_int_inv hw0
                obtain ⟨w2, w3, ew, hw2, hw3⟩ := RDs_cons_inv hw1
                subst ew
                obtain ⟨w4, w5, ew, hw4, hw5⟩ := RDs_cons_inv hw3
                subst ew
                obtain rfl := RDs_nil_inv hw5
                obtain ⟨lc, us3, rfl, hlc, hus3⟩ := RD_list_inv hw2
                have hul3 := RDs_len hus3
                refine ⟨_, rfl, .inr (.inl ⟨a, [.int n, .ref lc, w4], 1, .ref lc, rfl, rfl, SqT.of ha3, rfl, lc, rfl, ⟨_, SqL.of hlc⟩, for_list (K := K) (a := lc) (xs := us3) (fun j σ H4 => ∃ (x5 : Option V), σ = [some (.ref p), some (.str (handS hw)), some (.ref b), some (.ref vr), some (.ref a), x5] ∧ Same H3 H4 ∧ (rs.take j).all (ruleB n) = true)
                  ⟨_, rfl, Same.refl _, rfl⟩ (fun j σ H4 _ hp => by obtain ⟨_, _, k, _⟩ := hp; exact SqL.of (k _ _ hlc)) ?_ ?_⟩)⟩
                · rintro j u σ H4 hj ⟨x5, rfl, k4, g4⟩
                  have hjl : j < us3.length := (List.getElem?_eq_some_iff.mp hj).1
                  have huj := RD_mono k4 _ _ (RDs_get hus3 hj)
                  have hrj : rs[j]? = some (rs.getD j .none) := by
                    rw [List.getD_eq_getElem?_getD, List.getElem?_eq_getElem (by omega)]
                    rfl
                  have hrm : rs.getD j .none ∈ rs := List.mem_of_getElem? hrj
                  have ndj := RD_nodict huj
                  have ha4 := k4 _ _ ha3
                  have badr : ruleB n (rs.getD j .none) = false → ∀ H', Same H H' → Q (.bl false) H' := fun hb => bad (by rw [part_list, all_not hrm hb, Bool.and_false])
                  have hzr := zr2 _ hrm
                  have htj : rs.take (j + 1) = rs.take j ++ [rs.getD j .none] := by
                    rw [List.take_add_one, hrj]
                    rfl
                  generalize rs.getD j .none = r at huj hrj hrm ndj badr hzr htj
                  have k34 := k3.trans k4
                  refine ⟨_, rfl, u, _, "tuple", _, rfl, RD_ty r u huj, kit_tuple r ndj, _, rfl, ?_⟩
                  cases r with
                  | tuple qs =>
                    refine iteF ?_
                    obtain ⟨c, cs, rfl, hc, hcs⟩ := RD_tup_inv huj
                    have hcl := RDs_len hcs
                    refine ⟨_, rfl, .ref c, _, rfl, .inr ⟨_, SqT.of hc, rfl⟩, .inl ⟨rfl, _, rfl, ?_⟩⟩
                    by_cases h2 : qs.length = 2
                    · obtain ⟨s0, s1, y0, y1, rfl, rfl, t0, t1⟩ := RDs_two hcs h2
                      refine neF rfl ?_
                      have er : ruleB n (.tuple [s0, s1]) = (setD (n - 1) s0 && isBoolD s1) := rfl
                      refine ⟨_, rfl, .inr (.inl ⟨c, [y0, y1], 1, y1, rfl, rfl, SqT.of hc, rfl, y1, _, "bool", _, rfl, RD_ty s1 y1 t1, kit_bool s1 (RD_nodict t1), _, rfl, ?_⟩)⟩
                      cases gs : isBoolD s1 with
                      | false => exact iteT (badr (by rw [er, gs, Bool.and_false]) H4 k34)
                      | true =>
                        refine iteF ?_
                        refine ⟨_, rfl, .inr (.inl ⟨c, [y0, y1], 0, y0, rfl, rfl, SqT.of hc, rfl, _, rfl, .inr (.inl ⟨a, [.int n, .ref lc, w4], 0, .int n, rfl, rfl, SqT.of ha4, rfl, _, _, rfl, rfl, y0, s0, _, rfl, t0, (fun xs e => hzr _ _ rfl xs e), fun H5 k5 => ⟨_, rfl, ?_⟩⟩)⟩)⟩
                        cases g5 : setD (n - 1) s0 with
                        | false => exact iteT (badr (by rw [er, g5, Bool.false_and]) H5 (k34.trans k5))
                        | true =>
                          refine iteF ⟨_, rfl, k4.trans k5, ?_⟩
                          rw [htj, List.all_append, g4, List.all_cons, er, g5, gs]
                          rfl
                    · exact len_ne (by omega) (badr (rule_short h2) H4 k34)
                  | _ => exact iteT (iteT (badr rfl H4 k34))
                · rintro σ H4 ⟨x5, rfl, k4, g4⟩
                  rw [List.take_of_length_le (by omega)] at g4
                  refine ⟨_, _, rfl, ?_, k3.trans k4, ?_⟩
                  · rw [k4 _ _ s3, htk, List.map_append, List.map_append]
                    rfl
                  · rw [htk, List.all_append, g3, List.all_cons, part_list, gb, g4]
                    rfl
            · have hbn := (entry_nonum (v := 0) (b := .list rs) (c := e2) hn).2
              have e := not_int hn
              cases g : isIntD e0 with
              | false => exact iteT (iteT (bad hbn H2 g2))
              | true =>
                rw [g] at e
                have gz : isBoolD e0 = true := by simpa using e
                refine iteF ⟨_, rfl, .inr (.inl ⟨a, [x0, x1, x2], 0, x0, rfl, rfl, SqT.of ha, rfl, x0, _, "bool", _, rfl, RD_ty e0 x0 r0, kit_bool e0 (RD_nodict r0), _, rfl, ?_⟩)⟩
                rw [gz]
                exact iteT (iteT (bad hbn H2 g2))
        · have hb3 := (entry_short (v := 0) h3).2
          have e2 : (!decide (V.int (xs.length : Int) = V.int 3)) = true := by
            rw [decide_eq_false fun z => h3 (by have := V.int.inj z; omega)]
            rfl
          rw [e2]
          exact iteT (iteT (bad hb3 H2 g2))
      | _ => exact iteT (iteT (bad rfl H2 g2))
    · rintro σ H2 ⟨x4, x5, rfl, g1, g2, g3⟩
      rw [List.take_of_length_le (by omega)] at g1 g3
      have hp2 := g2 _ _ hp
      refine ⟨_, rfl, _, rfl, .inr (.inl ⟨p, _, 0, .str t, rfl, rfl, SqT.of hp2, rfl, .str t, _, rfl, ⟨Nat.le_of_lt (small1000 (by omega)), rfl⟩, _, rfl, (by omega), (by omega), fun D hD => ?_⟩)⟩
      have en : ((t.length : Int)).toNat = t.length := by omega
      have nD : vr ≠ D := ne_of_none g1 hD
      refine comp_range (lo := 0) (n := ((t.length : Int)).toNat) (fun i σ zs H3 => (∃ v0, σ = [v0, some (.str (handS hw)), some (.ref p)]) ∧ zs = (((List.range i).filter fun i => isW t i == hw).map fun (i : Nat) => V.int ((i : Int) + 1)) ∧ H3 = upd H2 D (.lst zs))
        ⟨⟨none, rfl⟩, rfl, rfl⟩ ?_ ?_ ?_
      · rintro i σ zs H3 _ ⟨_, _, rfl⟩
        exact upd_same
      · rintro i σ zs H3 hi ⟨⟨v0, rfl⟩, rfl, rfl⟩
        rw [en] at hi
        have hp3 := same_new hD (.lst (((List.range i).filter fun i => isW t i == hw).map fun (i : Nat) => V.int ((i : Int) + 1))) _ _ hp2
        have ei : (0 : Int) + (i : Int) = (i : Int) := by omega
        rw [ei]
        refine ⟨_, rfl, .inr (.inl ⟨p, _, 0, .str t, rfl, rfl, SqT.of hp3, rfl, _, rfl, _, rfl, _, _, rfl, rfl, t, hw, _, rfl, (by rw [absI_pos (by omega)]; omega), (by rw [absI_pos (by omega)]; omega), h9, _, rfl, ?_⟩)⟩
        rw [own_vars, List.range_succ, List.filter_append]
        cases g : isW t i == hw with
        | true =>
          refine iteT ⟨_, rfl, _, _, rfl, rfl, upd_same, ?_, ⟨_, rfl⟩, ?_, upd_upd⟩
          · have := List.length_filter_le (fun i => isW t i == hw) (List.range i)
            rw [List.length_range] at this
            rw [List.length_map]
            exact small1000 (by omega)
          · rw [List.filter_cons_of_pos (p := fun i => isW t i == hw) g, List.map_append]
            rfl
        | false =>
          refine iteF ⟨⟨_, rfl⟩, ?_, rfl⟩
          rw [List.filter_cons_of_neg (p := fun i => isW t i == hw) (by rw [g]; exact Bool.false_ne_true)]
          simp
      · rintro σ zs H3 ⟨_, rfl, rfl⟩
        rw [en]
        have ev : (((List.range t.length).filter fun i => isW t i == hw).map fun (i : Nat) => V.int ((i : Int) + 1)) = (varsOf t hw).map V.int := by
          unfold varsOf
          rw [List.map_map]
          rfl
        rw [ev]
        refine .inr ⟨.list ((es.map partN).map .int), .list ((varsOf t hw).map .int), RD_list (by rw [upd_ne nD]; exact g1) (RDs_ints _), RD_list upd_same (RDs_ints _), shaped_ints _, shaped_ints _, ?_⟩
        rw [eq_ints]
        have q2 := q _ (g2.trans (same_new hD (.lst ((varsOf t hw).map V.int))))
        have e : goodB (varsOf t hw) (.list es) = decide (es.map partN = varsOf t hw) := by
          show (es.all partB && _) = _
          rw [g3]
          rfl
        rw [e] at q2
        exact q2
  | _ => exact iteT (q H (Same.refl _))
end
end K31


namespace K31
open PySem L2 OD
abbrev sPlanL : Stmt := top 25
theorem RDs_app {H : Hp} : ∀ {ds es : List PyData} {xs ys : List V}, RDs H ds xs → RDs H es ys → RDs H (ds ++ es) (xs ++ ys)
  | [], _, _, _, h, g => by
    rw [RDs_nil_inv h]
    exact g
  | _ :: _, _, _, _, h, g => by
    obtain ⟨x, r, rfl, h1, h2⟩ := RDs_cons_inv h
    exact RDs_cons h1 (RDs_app h2 g)
def litStep (lo : Int) (st : List Int × Int) : List Int × Int := (if st.2 % 4 < 2 then st.1 ++ [lo * sgn (st.2 % 4)] else st.1, st.2 / 4)
def litsF (num : Int) : Nat → List Int × Int
  | 0 => ([], num)
  | k + 1 => litStep (1 + (k : Int)) (litsF num k)
def ruleStep (m : Nat) (st : List (List Int × Bool) × Int) : List (List Int × Bool) × Int := (st.1 ++ [((litsF (st.2 / 2) m).1, decide (V.int (st.2 % 2) = V.int 1))], (litsF (st.2 / 2) m).2)
def rulesF (m : Nat) (num : Int) : Nat → List (List Int × Bool) × Int
  | 0 => ([], num)
  | k + 1 => ruleStep m (rulesF m num k)
def numF (ns : List Int) (b : Bool) (v : Int) : Int := if b = true then mixF (cellF ns (16 + v)) v true * 2147483587 + mixF (cellF ns (16 + v)) (v + 50) true else cellF ns (16 + v)
def ruleD (r : List Int × Bool) : PyData := .tuple [.tuple (r.1.map .int), .bool r.2]
def entD (v : Int) (rs : List (List Int × Bool)) (b : Bool) : PyData := .tuple [.int v, .list (rs.map ruleD), .bool b]
def entN (ns : List Int) (b : Bool) (i : Nat) : PyData := entD (1 + (i : Int)) (rulesF i (numF ns b (1 + (i : Int)) / 8) (numF ns b (1 + (i : Int)) % 4).toNat).1 (decide (V.int (numF ns b (1 + (i : Int)) / 4 % 2) = V.int 1))
def mixB (ns : List Int) : Bool := decide (V.int (cellF ns 0 % 2) = V.int 1)
def planD (ns : List Int) (t : Str) (hw : Bool) : PyData := .list (((List.range t.length).filter fun i => isW t i == hw).map (entN ns (mixB ns)))
theorem litsF_len (num : Int) : ∀ k, (litsF num k).1.length ≤ k
  | 0 => Nat.le_refl _
  | k + 1 => by
    have := litsF_len num k
    show (if _ then _ else _ : List Int).length ≤ _
    split
    · rw [List.length_append]
      exact Nat.succ_le_succ this
    · omega
theorem rulesF_len (m : Nat) (num : Int) : ∀ k, (rulesF m num k).1.length = k
  | 0 => rfl
  | k + 1 => by
    show (_ ++ [_]).length = _
    rw [List.length_append, rulesF_len m num k]
    rfl
theorem rulesF_lits (m : Nat) (num : Int) : ∀ k, ∀ r ∈ (rulesF m num k).1, r.1.length ≤ m
  | 0, _, h => nomatch h
  | k + 1, r, h => by
    rcases List.mem_append.mp h with w | w
    · exact rulesF_lits m num k r w
    · rw [List.mem_singleton.mp w]
      exact litsF_len _ _
def spPlanL (K : PySem.W.Frag) : Sp := fun vs H Q _ => ∃ (a p : Addr) (ns : List Int) (t : Str) (w : V) (hw : Bool), vs = [.ref a, .ref p, .str (handS hw)] ∧ SqL K H a (ns.map V.int) ∧ H p = some (.tup [.str t, w]) ∧ t.length ≤ 20 ∧
  ∀ (l : Addr) (H' : Hp), Same H H' → RD H' (planD ns t hw) (.ref l) → Q (.ref l) H'
section
variable {P : Program} {w : World} {K : PySem.W.Frag} {mg : Str → Option Value} {base : Heap}
theorem scPlanL : FnScope ["_law_script", "_law_sentence_here", "_law_hand", "_law_plan_here", "_law_mixed", "_law_variable", "_law_number", "_law_rules", "_law_otherwise", "_law_many", "_law_k", "_law_literals", "_law_value", "_law_lesser"] ["_law_script", "_law_sentence_here", "_law_hand"] (defScope sPlanL) := ⟨rfl, rfl, rfl, by decide +kernel, rfl, by decide +kernel, by decide +kernel⟩
theorem ok_planl {f f1 f2 f3 : Addr} {fd d1 d2 d3 : FuncData} (F : Fun K "_law_plan" "_law_plan" sPlanL f fd) (T : BlS mg) (G_law_cell_at : Fn P w K mg base 1 "_law_cell_at" f1 d1 ["_law_script", "_law_k"] (spCell K)) (G_law_mix : Fn P w K mg base 1 "_law_mix" f2 d2 ["_law_cell", "_law_k", "_law_mixed"] spMix) (G_law_own : Fn P w K mg base 1 "_law_own" f3 d3 ["_law_turns", "_law_hand", "_law_literal"] spOwn) :
    FnOk P w K mg base CX0 2 f fd ["_law_script", "_law_sentence_here", "_law_hand"] (spPlanL K) := by
  have sc := scPlanL
  refine F.ok scPlanL (fun vs H Q E h => ?_) (fun cdv A outer s H vs Q E hr h => ?_)
  · obtain ⟨a, p, ns, t, w, hw, rfl, _⟩ := h
    rfl
  obtain ⟨a, p, ns, t, w, hw, rfl, hS, hp, h20, q⟩ := h
  have hu := hr.units
  refine ⟨_, (pss_cons (ps_set (i := 3) sc.nd rfl (Or.inl rfl) (pe_lst pa_nil))
    (pss_cons (ps_set (i := 4) sc.nd rfl (Or.inl rfl) (pe_cmpR (op_eqA hu) (pe_op op_mod (pcall G_law_cell_at hr (by omega) rfl (pa_cons (pv 0) (pa_cons pe_int pa_nil))) pe_int) pe_int (nomark _)))
    (pss_cons (ps_for PassesOwn.never rfl (pi_range2 rfl T.range (pa_cons pe_int (pa_cons (pe_op op_add (pe_callB call_len rfl T.len PySem.boot_len (pa_cons (pe_ix ix_seq (pv 1) pe_int (fun _ _ => rfl)) pa_nil)) pe_int) pa_nil))) (pg_name (i := 5) sc.nd rfl (Or.inl rfl))
      (pss_one (ps_if (pt_val (pcall G_law_own hr (by omega) rfl (pa_cons (pe_ix ix_seq (pv 1) pe_int (fun _ _ => rfl)) (pa_cons (pv 2) (pa_cons (pv 5) pa_nil))))) (pss_cons (ps_set (i := 6) sc.nd rfl (Or.inl rfl) (pcall G_law_cell_at hr (by omega) rfl (pa_cons (pv 0) (pa_cons (pe_op op_add pe_int (pv 5)) pa_nil))))
        (pss_cons (ps_if (pt_val (pv 4)) (pss_one (ps_set (i := 6) sc.nd rfl (Or.inl rfl) (pe_op op_add (pe_op op_mul (pcall G_law_mix hr (by omega) rfl (pa_cons (pv 6) (pa_cons (pv 5) (pa_cons pe_bl pa_nil)))) pe_int) (pcall G_law_mix hr (by omega) rfl (pa_cons (pv 6) (pa_cons (pe_op op_add (pv 5) pe_int) (pa_cons pe_bl pa_nil))))))) pss_nil)
        (pss_cons (ps_set (i := 7) sc.nd rfl (Or.inl rfl) (pe_lst pa_nil))
        (pss_cons (ps_set (i := 8) sc.nd rfl (Or.inl rfl) (pe_cmpR (op_eqA hu) (pe_op op_mod (pe_op op_fdiv (pv 6) pe_int) pe_int) pe_int (nomark _)))
        (pss_cons (ps_set (i := 9) sc.nd rfl (Or.inl rfl) (pe_op op_mod (pv 6) pe_int))
        (pss_cons (ps_set (i := 6) sc.nd rfl (Or.inl rfl) (pe_op op_fdiv (pv 6) pe_int))
        (pss_cons (ps_for PassesOwn.never rfl (pi_range1 rfl T.range (pa_cons (pv 9) pa_nil)) (pg_name (i := 10) sc.nd rfl (Or.inl rfl))
          (pss_cons (ps_set (i := 11) sc.nd rfl (Or.inl rfl) (pe_lst pa_nil))
          (pss_cons (ps_set (i := 12) sc.nd rfl (Or.inl rfl) (pe_cmpR (op_eqA hu) (pe_op op_mod (pv 6) pe_int) pe_int (nomark _)))
          (pss_cons (ps_set (i := 6) sc.nd rfl (Or.inl rfl) (pe_op op_fdiv (pv 6) pe_int))
          (pss_cons (ps_for PassesOwn.never rfl (pi_range2 rfl T.range (pa_cons pe_int (pa_cons (pv 5) pa_nil))) (pg_name (i := 13) sc.nd rfl (Or.inl rfl))
            (pss_cons (ps_if (pt_cmpR op_lt (pe_op op_mod (pv 6) pe_int) pe_int (nomark _)) (pss_one (ps_expr (pe_bm PySem.F.plainAttrs_list PySem.F.slot_list_append PySem.F.type_list_append mt_append (pv 11) (pa_cons (pe_op op_mul (pv 13) (pe_ix ix_seq (pe_lst (pa_cons pe_int (pa_cons (pe_un un_neg pe_int) pa_nil))) (pe_op op_mod (pv 6) pe_int) (fun _ _ => rfl))) pa_nil)))) pss_nil)
            (pss_one (ps_set (i := 6) sc.nd rfl (Or.inl rfl) (pe_op op_fdiv (pv 6) pe_int)))))
          (pss_one (ps_expr (pe_bm PySem.F.plainAttrs_list PySem.F.slot_list_append PySem.F.type_list_append mt_append (pv 7) (pa_cons (pe_tup (pa_cons (pe_callTy call_tuple_of rfl T.tuple PyProof.Rows.boot_tuple (pa_cons (pv 11) pa_nil)) (pa_cons (pv 12) pa_nil))) pa_nil)))))))))
        (pss_one (ps_expr (pe_bm PySem.F.plainAttrs_list PySem.F.slot_list_append PySem.F.type_list_append mt_append (pv 3) (pa_cons (pe_tup (pa_cons (pv 5) (pa_cons (pv 7) (pa_cons (pv 8) pa_nil)))) pa_nil))))))))))) pss_nil)))
    (pss_one (ps_ret (pv 3)))))), ?_⟩
  refine ⟨Nat.zero_le _, fun l hl => ?_⟩
  have nl : H l = none := hl
  refine ⟨_, rfl, a, ns, 0, rfl, (same_new hl _).seq hS, Int.le_refl 0, _, _, rfl, rfl, (by show (0 : Int) < 2; decide), .inl ⟨rfl, ?_⟩⟩
  have en : ((t.length : Int) + 1 - 1).toNat = t.length := by omega
  refine ⟨_, rfl, .inr (.inl ⟨p, _, 0, .str t, rfl, rfl, SqT.of (same_new hl _ _ _ hp), rfl, .str t, _, rfl, ⟨Nat.le_of_lt (small1000 (by omega)), rfl⟩, _, _, rfl, rfl, _, _, rfl, ⟨by decide, by decide, by omega, by omega⟩, for_range (lo := 1) (n := ((t.length : Int) + 1 - 1).toNat)
    (fun i σ H2 => ∃ (xs : List V) (x5 x6 x7 x8 x9 x10 x11 x12 x13 : Option V), σ = [some (.ref a), some (.ref p), some (.str (handS hw)), some (.ref l), some (.bl (mixB ns)), x5, x6, x7, x8, x9, x10, x11, x12, x13] ∧ H2 l = some (.lst xs) ∧ Same H H2
      ∧ (∀ H'' : Hp, (∀ b o, b ≠ l → H2 b = some o → H'' b = some o) → RDs H'' (((List.range i).filter fun i => isW t i == hw).map (entN ns (mixB ns))) xs) ∧ xs.length ≤ i)
    ⟨[], none, none, none, none, none, none, none, none, none, rfl, upd_same, same_new hl _, (fun _ _ => RDs_nil), Nat.le_refl _⟩ ?_ ?_⟩)⟩
  · rintro i σ H2 hi ⟨xs, x5, x6, x7, x8, x9, x10, x11, x12, x13, rfl, g1, g2, g3, g4⟩
    rw [en] at hi
    have hp2 := g2 _ _ hp
    refine ⟨_, rfl, .inr (.inl ⟨p, _, 0, .str t, rfl, rfl, SqT.of hp2, rfl, _, rfl, _, rfl, t, hw, _, rfl, (by rw [absI_pos (by omega)]; omega), (by rw [absI_pos (by omega)]; omega), (by omega), _, rfl, ?_⟩)⟩
    have eo : (isW t (absI (1 + (i : Int)) - 1).toNat == hw) = (isW t i == hw) := by
      have e : (absI (1 + (i : Int)) - 1).toNat = i := by
        rw [absI_pos (by omega)]
        omega
      rw [e]
    rw [eo]
    cases g : isW t i == hw with
    | false =>
      refine iteF ⟨xs, _, _, _, _, _, _, _, _, _, rfl, g1, g2, fun H'' k => ?_, by omega⟩
      rw [List.range_succ, List.filter_append, List.filter_cons_of_neg (p := fun i => isW t i == hw) (by rw [g]; exact Bool.false_ne_true)]
      simpa using g3 H'' k
    | true =>
      refine iteT ?_
      have hfi : ((List.range (i + 1)).filter fun i => isW t i == hw).map (entN ns (mixB ns)) = ((List.range i).filter fun i => isW t i == hw).map (entN ns (mixB ns)) ++ [entN ns (mixB ns) i] := by
        rw [List.range_succ, List.filter_append, List.filter_cons_of_pos (p := fun i => isW t i == hw) g, List.map_append]
        rfl
      refine ⟨_, rfl, _, rfl, _, _, rfl, rfl, a, ns, _, rfl, g2.seq hS, (by omega), ?_⟩
      dsimp only
      refine seq_gen fun N hN => ?_
      have key : ∀ num, num = numF ns (mixB ns) (1 + (i : Int)) → N [some (.ref a), some (.ref p), some (.str (handS hw)), some (.ref l), some (.bl (mixB ns)), some (.int (1 + (i : Int))), some (.int num), x7, x8, x9, x10, x11, x12, x13] H2 := by
        intro num hnum
        refine hN _ _ ?_
        clear hN
        refine ⟨Nat.zero_le _, fun lr hlr => ?_⟩
        have nlr : l ≠ lr := ne_of_none g1 hlr
        refine ⟨_, rfl, _, _, rfl, rfl, ⟨by decide, by decide⟩, _, _, rfl, rfl, (by show (0 : Int) < 2; decide), .inl ⟨rfl, ?_⟩⟩
        refine ⟨_, rfl, _, _, rfl, rfl, (by show (0 : Int) < 4; decide), ?_⟩
        refine ⟨_, rfl, _, _, rfl, rfl, ⟨by decide, by decide⟩, ?_⟩
        have m0 := Int.emod_nonneg num (show (4 : Int) ≠ 0 by decide)
        have m1 := Int.emod_lt_of_pos num (show (0 : Int) < 4 by decide)
        refine ⟨_, rfl, num % 4, rfl, (by omega), (by omega), for_range (lo := 0) (n := (num % 4).toNat)
          (fun k σ H3 => ∃ (zs : List V) (x10 x11 x12 x13 : Option V), σ = [some (.ref a), some (.ref p), some (.str (handS hw)), some (.ref l), some (.bl (mixB ns)), some (.int (1 + (i : Int))), some (.int (rulesF i (num / 8) k).2), some (.ref lr), some (.bl (decide (V.int (num / 4 % 2) = V.int 1))), some (.int (num % 4)), x10, x11, x12, x13]
            ∧ H3 lr = some (.lst zs) ∧ (∀ b o, b ≠ lr → H2 b = some o → H3 b = some o) ∧ (∀ H'' : Hp, (∀ b o, b ≠ lr → b ≠ l → H3 b = some o → H'' b = some o) → RDs H'' ((rulesF i (num / 8) k).1.map ruleD) zs) ∧ zs.length = k)
          ⟨[], _, _, _, _, rfl, upd_same, (fun b o hb e => by rw [upd_ne hb]; exact e), (fun _ _ => RDs_nil), rfl⟩ ?_ ?_⟩
        · rintro k σ H3 hk ⟨zs, y10, y11, y12, y13, rfl, j1, j2, j3, j4⟩
          have hl3 : H3 l = some (.lst xs) := j2 _ _ nlr g1
          refine ⟨Nat.zero_le _, fun la hla => ?_⟩
          have nla : lr ≠ la := ne_of_none j1 hla
          have nlla : l ≠ la := ne_of_none hl3 hla
          refine ⟨_, rfl, _, _, rfl, rfl, (by show (0 : Int) < 2; decide), .inl ⟨rfl, ?_⟩⟩
          refine ⟨_, rfl, _, _, rfl, rfl, ⟨by decide, by decide⟩, ?_⟩
          have en2 : ((1 + (i : Int)) - 1).toNat = i := by omega
          refine ⟨_, rfl, _, _, rfl, ⟨by decide, by decide, by omega, by omega⟩, for_range (lo := 1) (n := ((1 + (i : Int)) - 1).toNat)
            (fun j σ H4 => ∃ (x13 : Option V), σ = [some (.ref a), some (.ref p), some (.str (handS hw)), some (.ref l), some (.bl (mixB ns)), some (.int (1 + (i : Int))), some (.int (litsF ((rulesF i (num / 8) k).2 / 2) j).2), some (.ref lr), some (.bl (decide (V.int (num / 4 % 2) = V.int 1))), some (.int (num % 4)), some (.int (0 + (k : Int))), some (.ref la), some (.bl (decide (V.int ((rulesF i (num / 8) k).2 % 2) = V.int 1))), x13]
              ∧ H4 la = some (.lst ((litsF ((rulesF i (num / 8) k).2 / 2) j).1.map V.int)) ∧ (∀ b o, b ≠ la → H3 b = some o → H4 b = some o))
            ⟨_, rfl, upd_same, fun b o hb e => by rw [upd_ne hb]; exact e⟩ ?_ ?_⟩
          · rintro j σ H4 hj ⟨z13, rfl, u1, u2⟩
            rw [en2] at hj
            have hll := litsF_len ((rulesF i (num / 8) k).2 / 2) j
            have es : litsF ((rulesF i (num / 8) k).2 / 2) (j + 1) = litStep (1 + (j : Int)) (litsF ((rulesF i (num / 8) k).2 / 2) j) := rfl
            generalize litsF ((rulesF i (num / 8) k).2 / 2) (j + 1) = L2' at es
            generalize litsF ((rulesF i (num / 8) k).2 / 2) j = L1 at es u1 hll
            obtain ⟨ls, nm⟩ := L1
            subst es
            refine ⟨_, rfl, _, _, rfl, rfl, (by show (0 : Int) < 4; decide), _, _, rfl, rfl, _, rfl, ite2 (fun c => ?_) (fun c => ?_)⟩
            · have c' : nm % 4 < 2 := of_decide_eq_true c
              have c0 := Int.emod_nonneg nm (show (4 : Int) ≠ 0 by decide)
              refine ⟨_, rfl, .inl ⟨rfl, _, SqL.of u1⟩, _, rfl, _, rfl, (by show 2 ≤ sizeLine; decide), fun e he => ?_⟩
              refine ⟨_, rfl, _, _, rfl, rfl, (by show (0 : Int) < 4; decide), .inl ⟨e, _, _, _, rfl, rfl, SqL.of upd_same, sgn_at (r := nm % 4) (by omega), _, _, rfl, rfl, .inr ⟨?_, ?_⟩, la, ls.map V.int, _, rfl, rfl, ?_, ?_, ?_⟩⟩
              · rcases sgn_is (nm % 4) with z | z <;> rw [z] <;> decide
              · rcases sgn_is (nm % 4) with z | z <;> rw [z] <;> decide
              · rw [upd_ne (ne_of_none u1 he)]
                exact u1
              · rw [List.length_map]
                exact small1000 (by have : ls.length ≤ j := hll; omega)
              · refine ⟨_, rfl, _, _, rfl, rfl, ⟨by decide, by decide⟩, _, rfl, ?_, fun b o hb eb => ?_⟩
                · rw [upd_same]
                  unfold litStep
                  rw [if_pos c', List.map_append]
                  rfl
                · have e4 := u2 b o hb eb
                  rw [upd_ne hb, upd_ne (ne_of_none e4 he)]
                  exact e4
            · have c' : ¬ nm % 4 < 2 := fun z => c (decide_eq_true z)
              refine ⟨_, rfl, _, _, rfl, rfl, ⟨by decide, by decide⟩, _, rfl, ?_, u2⟩
              unfold litStep
              rw [if_neg c']
              exact u1
          · rintro σ H4 ⟨z13, rfl, u1, u2⟩
            rw [en2] at u1
            have hlr4 := u2 _ _ nla j1
            have hl4 := u2 _ _ nlla hl3
            refine ⟨_, rfl, .inl ⟨rfl, _, SqL.of hlr4⟩, _, rfl, la, _, rfl, .inl ⟨SqL.of u1, fun sv hsv => ?_⟩⟩
            refine ⟨_, rfl, (by show 2 ≤ sizeLine; decide), fun qv hqv => ?_⟩
            have k5 : Same H4 (upd H4 sv (.tup ((litsF ((rulesF i (num / 8) k).2 / 2) i).1.map V.int))) := same_new hsv _
            have s5 : upd H4 sv (.tup ((litsF ((rulesF i (num / 8) k).2 / 2) i).1.map V.int)) sv = some (.tup ((litsF ((rulesF i (num / 8) k).2 / 2) i).1.map V.int)) := upd_same
            have nsl : sv ≠ l := (ne_of_none hl4 hsv).symm
            have nslr : sv ≠ lr := (ne_of_none hlr4 hsv).symm
            generalize upd H4 sv (.tup ((litsF ((rulesF i (num / 8) k).2 / 2) i).1.map V.int)) = H5 at k5 s5 hqv
            have hlr5 := k5 _ _ hlr4
            have hl5 := k5 _ _ hl4
            have k6 : Same H5 (upd H5 qv (.tup [.ref sv, .bl (decide (V.int ((rulesF i (num / 8) k).2 % 2) = V.int 1))])) := same_new hqv _
            have s6 : upd H5 qv (.tup [.ref sv, .bl (decide (V.int ((rulesF i (num / 8) k).2 % 2) = V.int 1))]) qv = some (.tup [.ref sv, .bl (decide (V.int ((rulesF i (num / 8) k).2 % 2) = V.int 1))]) := upd_same
            have nql : qv ≠ l := (ne_of_none hl5 hqv).symm
            have nqlr : qv ≠ lr := (ne_of_none hlr5 hqv).symm
            generalize upd H5 qv (.tup [.ref sv, .bl (decide (V.int ((rulesF i (num / 8) k).2 % 2) = V.int 1))]) = H6 at k6 s6
            have hlr6 := k6 _ _ hlr5
            have s56 := k6 _ _ s5
            refine ⟨lr, _, _, rfl, rfl, hlr6, (by rw [j4]; exact small1000 (by omega)), ?_⟩
            refine ⟨zs ++ [.ref qv], some (.int (0 + (k : Int))), some (.ref la), some (.bl (decide (V.int ((rulesF i (num / 8) k).2 % 2) = V.int 1))), z13, ?_, upd_same, fun b o hb eb => ?_, fun H'' kk => ?_, by rw [List.length_append, j4]; rfl⟩
            · rw [en2]
              rfl
            · rw [upd_ne hb]
              have e3 := j2 b o hb eb
              exact k6 _ _ (k5 _ _ (u2 _ _ (ne_of_none e3 hla) e3))
            · show RDs H'' (((rulesF i (num / 8) k).1 ++ [_]).map ruleD) _
              rw [List.map_append]
              refine RDs_app (j3 H'' fun b o h1 h2 eb => kk b o h1 h2 ?_) (RDs_cons (RD_tup (kk qv _ nqlr nql (by rw [upd_ne nqlr]; exact s6)) (RDs_cons (RD_tup (kk sv _ nslr nsl (by rw [upd_ne nslr]; exact s56)) (RDs_ints _)) (RDs_cons (RD_bool _) RDs_nil))) RDs_nil)
              rw [upd_ne h1]
              exact k6 _ _ (k5 _ _ (u2 _ _ (ne_of_none eb hla) eb))
        · rintro σ H3 ⟨zs, y10, y11, y12, y13, rfl, j1, j2, j3, j4⟩
          have hl3 : H3 l = some (.lst xs) := j2 _ _ nlr g1
          refine ⟨_, rfl, .inl ⟨rfl, _, SqL.of hl3⟩, _, rfl, _, rfl, _, rfl, (by show 3 ≤ sizeLine; decide), fun pt hpt => ?_⟩
          have k4 : Same H3 (upd H3 pt (.tup [.int (1 + (i : Int)), .ref lr, .bl (decide (V.int (num / 4 % 2) = V.int 1))])) := same_new hpt _
          have s4 : upd H3 pt (.tup [.int (1 + (i : Int)), .ref lr, .bl (decide (V.int (num / 4 % 2) = V.int 1))]) pt = some (.tup [.int (1 + (i : Int)), .ref lr, .bl (decide (V.int (num / 4 % 2) = V.int 1))]) := upd_same
          have npl : pt ≠ l := (ne_of_none hl3 hpt).symm
          generalize upd H3 pt (.tup [.int (1 + (i : Int)), .ref lr, .bl (decide (V.int (num / 4 % 2) = V.int 1))]) = H4 at k4 s4
          have hl4 := k4 _ _ hl3
          refine ⟨l, _, _, rfl, rfl, hl4, small1000 (by omega), ?_⟩
          refine ⟨xs ++ [.ref pt], _, _, _, _, _, _, _, _, _, rfl, upd_same, fun b o eb => ?_, fun H'' kk => ?_, by rw [List.length_append]; exact Nat.succ_le_succ g4⟩
          · rw [upd_ne (ne_of_none eb nl)]
            have e2 := g2 b o eb
            exact k4 _ _ (j2 b o (ne_of_none e2 hlr) e2)
          · rw [hfi]
            have kk4 : ∀ b o, b ≠ l → H4 b = some o → H'' b = some o := fun b o hb eb => kk b o hb (by rw [upd_ne hb]; exact eb)
            refine RDs_app (g3 H'' fun b o hb eb => kk4 b o hb (k4 _ _ (j2 b o (ne_of_none eb hlr) eb))) (RDs_cons ?_ RDs_nil)
            unfold entN entD
            rw [← hnum]
            exact RD_tup (kk4 pt _ npl s4) (RDs_cons (RD_int _) (RDs_cons (RD_list (kk4 lr _ nlr.symm (k4 _ _ j1)) (j3 H'' fun b o _ hb eb => kk4 b o hb (k4 _ _ eb))) (RDs_cons (RD_bool _) RDs_nil)))
      refine ⟨_, rfl, _, rfl, ?_⟩
      unfold numF at key
      cases hm : mixB ns with
      | false =>
        rw [hm] at key
        exact iteF (key _ rfl)
      | true =>
        rw [hm] at key
        rw [if_pos rfl] at key
        refine iteT ⟨_, rfl, _, rfl, _, _, _, rfl, _, _, rfl, rfl, .inr ⟨by decide, by decide⟩, _, rfl, _, rfl, _, _, rfl, rfl, _, _, _, rfl, _, _, rfl, rfl, key _ rfl⟩
  · rintro σ H2 ⟨xs, x5, x6, x7, x8, x9, x10, x11, x12, x13, rfl, g1, g2, g3, g4⟩
    rw [en] at g3
    exact ⟨_, rfl, q l H2 g2 (RD_list g1 (g3 H2 fun _ _ _ e => e))⟩
end
end K31


namespace K31
open PySem L2 OD
abbrev sBentR : Stmt := top 28
abbrev sBentP : Stmt := top 29
def Kp (H H' H'' : Hp) : Prop := ∀ b o, H' b = some o → ((∃ xs, o = HO.tup xs) ∨ H b = none) → H'' b = some o
def spBentR : Sp := fun vs H Q _ => ∃ (q s : Addr) (ls : List Int) (b : Bool) (c v : Int), vs = [.ref q, .int c, .int v] ∧ H q = some (.tup [.ref s, .bl b]) ∧ H s = some (.tup (ls.map V.int)) ∧ ls.length ≤ 8 ∧
  ∀ (x : V) (H' : Hp) (d : PyData), Same H H' → SzR d → (∀ H'', Kp H H' H'' → RD H'' d x) → Q x H'
theorem Kp.ints {H H' H'' : Hp} (k : Kp H H' H'') {s : Addr} {ls : List Int} (h : H' s = some (.tup (ls.map V.int))) : RD H'' (.tuple (ls.map .int)) (.ref s) := RD_tup (k s _ h (.inl ⟨_, rfl⟩)) (RDs_ints _)
theorem szr_ints {ms : List Int} {c : PyData} (h : ms.length ≤ 18) : SzR (.tuple [.tuple (ms.map .int), c]) := fun s c' e xs ex => by
  cases e
  cases ex
  rw [List.length_map]
  exact h
section
variable {P : Program} {w : World} {K : PySem.W.Frag} {mg : Str → Option Value} {base : Heap}
theorem scBentR : FnScope ["_law_rule", "_law_cell", "_law_variable", "_law_literals", "_law_way"] ["_law_rule", "_law_cell", "_law_variable"] (defScope sBentR) := ⟨rfl, rfl, rfl, by decide +kernel, rfl, by decide +kernel, by decide +kernel⟩
theorem ok_bentr {f : Addr} {fd : FuncData} (F : Fun K "_law_bent_rule" "_law_bent_rule" sBentR f fd) (T : BlS mg) : FnOk P w K mg base CX0 1 f fd ["_law_rule", "_law_cell", "_law_variable"] spBentR := by
  have sc := scBentR
  refine F.ok scBentR (fun vs H Q E h => ?_) (fun cdv A outer s H vs Q E hr h => ?_)
  · obtain ⟨q, s, ls, b, c, v, rfl, _⟩ := h
    rfl
  obtain ⟨q, s, ls, b, c, v, rfl, hq, hs, h8, qq⟩ := h
  have hu := hr.units
  refine ⟨_, (pss_cons (ps_set (i := 3) sc.nd rfl (Or.inl rfl) (pe_ix ix_seq (pv 0) pe_int (fun _ _ => rfl)))
    (pss_cons (ps_set (i := 4) sc.nd rfl (Or.inl rfl) (pe_op op_mod (pv 1) pe_int))
    (pss_cons (ps_if (pt_cmpR (op_eqA hu) (pv 4) pe_int (nomark _)) (pss_one (ps_ret (pe_tup (pa_cons (pe_op op_catB (pv 3) (pe_tup (pa_cons (pe_op op_add (pv 2) (pe_op op_mod (pe_op op_fdiv (pv 1) pe_int) pe_int)) pa_nil))) (pa_cons (pe_ix ix_seq (pv 0) pe_int (fun _ _ => rfl)) pa_nil))))) pss_nil)
    (pss_cons (ps_if (pt_cmpR (op_eqA hu) (pv 4) pe_int (nomark _)) (pss_one (ps_ret (pe_tup (pa_cons (pe_op op_catB (pe_tup (pa_cons pe_int pa_nil)) (pv 3)) (pa_cons (pe_ix ix_seq (pv 0) pe_int (fun _ _ => rfl)) pa_nil))))) pss_nil)
    (pss_cons (ps_if (pt_cmpR (op_eqA hu) (pv 4) pe_int (nomark _)) (pss_one (ps_ret (pe_tup (pa_cons (pe_rev (pv 3) po_none po_none (po_some (pe_un un_neg pe_int))) (pa_cons (pe_ix ix_seq (pv 0) pe_int (fun _ _ => rfl)) pa_nil))))) pss_nil)
    (pss_cons (ps_if (pt_cmpR (op_eqA hu) (pv 4) pe_int (nomark _)) (pss_one (ps_ret (pe_tup (pa_cons (pv 3) (pa_cons (pe_callTy call_int1 rfl T.int PyProof.Rows.boot_int (pa_cons (pe_ix ix_seq (pv 0) pe_int (fun _ _ => rfl)) pa_nil)) pa_nil))))) pss_nil)
    (pss_cons (ps_if (pt_cmpR (op_eqA hu) (pv 4) pe_int (nomark _)) (pss_one (ps_ret (pe_tup (pa_cons (pe_callTy call_list_of rfl T.list PyProof.Rows.boot_list (pa_cons (pv 3) pa_nil)) (pa_cons (pe_ix ix_seq (pv 0) pe_int (fun _ _ => rfl)) pa_nil))))) pss_nil)
    (pss_cons (ps_if (pt_cmpR (op_eqA hu) (pv 4) pe_int (nomark _)) (pss_one (ps_ret (pe_tup (pa_cons (pe_op op_catB (pv 3) (pe_slice sl_tupA (pv 3) po_none (po_some pe_int))) (pa_cons (pe_ix ix_seq (pv 0) pe_int (fun _ _ => rfl)) pa_nil))))) pss_nil)
    (pss_one (ps_ret (pe_slice sl_list (pe_lst (pa_cons (pv 3) (pa_cons (pe_ix ix_seq (pv 0) pe_int (fun _ _ => rfl)) (pa_cons pe_int pa_nil)))) po_none (po_some (pe_op op_add pe_int (pe_op op_mod (pe_op op_fdiv (pv 1) pe_int) pe_int)))))))))))))), ?_⟩
  refine ⟨_, rfl, .inr (.inl ⟨q, _, 0, .ref s, rfl, rfl, SqT.of hq, rfl, ?_⟩)⟩
  refine ⟨_, rfl, _, _, rfl, rfl, (show (0 : Int) < 7 by decide), ?_⟩
  have w0 := Int.emod_nonneg c (show (7 : Int) ≠ 0 by decide)
  have w1 := Int.emod_lt_of_pos c (show (0 : Int) < 7 by decide)
  have hL : (ls.map V.int).length = ls.length := List.length_map _
  have two : ∀ (s' : Addr) (ms : List Int) (H1 : Hp), Same H H1 → H1 s' = some (.tup (ms.map V.int)) → ms.length ≤ 18 → ∀ p2, H1 p2 = none → Q (.ref p2) (upd H1 p2 (.tup [.ref s', .bl b])) := fun s' ms H1 k1 h1 hm p2 hp2 => by
    have k2 := same_new hp2 (.tup [.ref s', .bl b])
    refine qq _ _ (.tuple [.tuple (ms.map .int), .bool b]) (k1.trans k2) (szr_ints hm) fun H'' kk => ?_
    exact RD_tup (kk p2 _ upd_same (.inl ⟨_, rfl⟩)) (RDs_cons (kk.ints (k2 _ _ h1)) (RDs_cons (RD_bool b) RDs_nil))
  rcases (by omega : c % 7 = 0 ∨ c % 7 = 1 ∨ c % 7 = 2 ∨ c % 7 = 3 ∨ c % 7 = 4 ∨ c % 7 = 5 ∨ c % 7 = 6) with h7 | h7 | h7 | h7 | h7 | h7 | h7
  · refine ⟨_, rfl, .inl ⟨rfl, _, rfl, eqT (by omega) ?_⟩⟩
    refine ⟨_, rfl, _, rfl, _, rfl, _, _, rfl, rfl, ⟨by decide, by decide⟩, _, _, rfl, rfl, (show (0 : Int) < 2 by decide), _, _, rfl, rfl, (by show 1 ≤ sizeLine; decide), fun t1 ht1 => ?_⟩
    have k1 := same_new ht1 (.tup [.int (v + c / 7 % 2)])
    refine ⟨s, t1, ls.map V.int, [.int (v + c / 7 % 2)], rfl, rfl, SqT.of (k1 _ _ hs), SqT.of upd_same, (by rw [hL]; exact Nat.le_of_lt (small1000 (by show ls.length + 1 ≤ 1000; omega))), fun _ => ?_, (fun _ z => absurd z (List.cons_ne_nil _ _)), fun _ _ p hp => ?_⟩
    · exact ⟨_, rfl, .inr (.inl ⟨q, _, 1, .bl b, rfl, rfl, SqT.of (k1 _ _ hq), rfl, (by show 2 ≤ sizeLine; decide), two t1 [v + c / 7 % 2] _ k1 upd_same (by show 1 ≤ 18; decide)⟩)⟩
    · have k2 := same_new hp (.tup (ls.map V.int ++ [.int (v + c / 7 % 2)]))
      refine ⟨_, rfl, .inr (.inl ⟨q, _, 1, .bl b, rfl, rfl, SqT.of (k2 _ _ (k1 _ _ hq)), rfl, (by show 2 ≤ sizeLine; decide), two p (ls ++ [v + c / 7 % 2]) _ (k1.trans k2) ?_ ?_⟩)⟩
      · rw [upd_same, List.map_append]
        rfl
      · rw [List.length_append]
        show ls.length + 1 ≤ 18
        omega
  · refine ⟨_, rfl, .inl ⟨rfl, _, rfl, eqF (by omega) ?_⟩⟩
    refine ⟨_, rfl, .inl ⟨rfl, _, rfl, eqT (by omega) ?_⟩⟩
    refine ⟨(by show 1 ≤ sizeLine; decide), fun t1 ht1 => ?_⟩
    have k1 := same_new ht1 (.tup [.int 0])
    refine ⟨_, rfl, t1, s, [.int 0], ls.map V.int, rfl, rfl, SqT.of upd_same, SqT.of (k1 _ _ hs), (by rw [hL]; exact Nat.le_of_lt (small1000 (by show 1 + ls.length ≤ 1000; omega))), (fun z => absurd z (List.cons_ne_nil _ _)), fun _ z => ?_, fun _ _ p hp => ?_⟩
    · exact ⟨_, rfl, .inr (.inl ⟨q, _, 1, .bl b, rfl, rfl, SqT.of (k1 _ _ hq), rfl, (by show 2 ≤ sizeLine; decide), two t1 [0] _ k1 upd_same (by decide)⟩)⟩
    · have k2 := same_new hp (.tup ([.int 0] ++ ls.map V.int))
      refine ⟨_, rfl, .inr (.inl ⟨q, _, 1, .bl b, rfl, rfl, SqT.of (k2 _ _ (k1 _ _ hq)), rfl, (by show 2 ≤ sizeLine; decide), two p (0 :: ls) _ (k1.trans k2) upd_same ?_⟩)⟩
      show ls.length + 1 ≤ 18
      omega
  · refine ⟨_, rfl, .inl ⟨rfl, _, rfl, eqF (by omega) ?_⟩⟩
    refine ⟨_, rfl, .inl ⟨rfl, _, rfl, eqF (by omega) ?_⟩⟩
    refine ⟨_, rfl, .inl ⟨rfl, _, rfl, eqT (by omega) ?_⟩⟩
    refine ⟨_, rfl, _, rfl, -1, rfl, s, ls, rfl, SqT.of hs, rfl, rfl, rfl, by omega, fun p ms hp hm => ?_⟩
    have k2 := same_new hp (.tup (ms.map V.int))
    exact ⟨_, rfl, .inr (.inl ⟨q, _, 1, .bl b, rfl, rfl, SqT.of (k2 _ _ hq), rfl, (by show 2 ≤ sizeLine; decide), two p ms _ k2 upd_same (by omega)⟩)⟩
  · refine ⟨_, rfl, .inl ⟨rfl, _, rfl, eqF (by omega) ?_⟩⟩
    refine ⟨_, rfl, .inl ⟨rfl, _, rfl, eqF (by omega) ?_⟩⟩
    refine ⟨_, rfl, .inl ⟨rfl, _, rfl, eqF (by omega) ?_⟩⟩
    refine ⟨_, rfl, .inl ⟨rfl, _, rfl, eqT (by omega) ?_⟩⟩
    refine ⟨_, rfl, _, rfl, .inr (.inl ⟨q, _, 1, .bl b, rfl, rfl, SqT.of hq, rfl, .inr ⟨b, rfl, (by show 2 ≤ sizeLine; decide), fun p2 hp2 => ?_⟩⟩)⟩
    have k2 := same_new hp2 (.tup [.ref s, .int (if b = true then 1 else 0)])
    refine qq _ _ (.tuple [.tuple (ls.map .int), .int (if b = true then 1 else 0)]) k2 (szr_ints (by omega)) fun H'' kk => ?_
    exact RD_tup (kk p2 _ upd_same (.inl ⟨_, rfl⟩)) (RDs_cons (kk.ints (k2 _ _ hs)) (RDs_cons (RD_int _) RDs_nil))
  · refine ⟨_, rfl, .inl ⟨rfl, _, rfl, eqF (by omega) ?_⟩⟩
    refine ⟨_, rfl, .inl ⟨rfl, _, rfl, eqF (by omega) ?_⟩⟩
    refine ⟨_, rfl, .inl ⟨rfl, _, rfl, eqF (by omega) ?_⟩⟩
    refine ⟨_, rfl, .inl ⟨rfl, _, rfl, eqF (by omega) ?_⟩⟩
    refine ⟨_, rfl, .inl ⟨rfl, _, rfl, eqT (by omega) ?_⟩⟩
    refine ⟨_, rfl, s, _, rfl, .inr (SqT.of hs), fun l hl => ?_⟩
    have k1 := same_new hl (.lst (ls.map V.int))
    refine ⟨_, rfl, .inr (.inl ⟨q, _, 1, .bl b, rfl, rfl, SqT.of (k1 _ _ hq), rfl, (by show 2 ≤ sizeLine; decide), fun p2 hp2 => ?_⟩)⟩
    have k2 := same_new hp2 (.tup [.ref l, .bl b])
    refine qq _ _ (.tuple [.list (ls.map .int), .bool b]) (k1.trans k2) (fun s' c' e xs ex => ?_) fun H'' kk => ?_
    · cases e
      cases ex
    · exact RD_tup (kk p2 _ upd_same (.inl ⟨_, rfl⟩)) (RDs_cons (RD_list (kk l _ (k2 _ _ upd_same) (.inr hl)) (RDs_ints _)) (RDs_cons (RD_bool b) RDs_nil))
  · refine ⟨_, rfl, .inl ⟨rfl, _, rfl, eqF (by omega) ?_⟩⟩
    refine ⟨_, rfl, .inl ⟨rfl, _, rfl, eqF (by omega) ?_⟩⟩
    refine ⟨_, rfl, .inl ⟨rfl, _, rfl, eqF (by omega) ?_⟩⟩
    refine ⟨_, rfl, .inl ⟨rfl, _, rfl, eqF (by omega) ?_⟩⟩
    refine ⟨_, rfl, .inl ⟨rfl, _, rfl, eqF (by omega) ?_⟩⟩
    refine ⟨_, rfl, .inl ⟨rfl, _, rfl, eqT (by omega) ?_⟩⟩
    have fin : ∀ (t1 : Addr) (ms : List Int) (H1 : Hp), Same H H1 → H1 t1 = some (.tup (ms.map V.int)) → ms.length ≤ 8 →
        rCatB K (.ref s) (.ref t1) H1 fun x H2 => tCons (tOp (rIx K) (tVar 0) (tC (.int 1))) tNil [some (.ref q), some (.int c), some (.int v), some (.ref s), some (.int (c % 7))] H2 fun xs H3 => (fun xs H1 => xs.length ≤ sizeLine ∧ ∀ p, H1 p = none → Q (.ref p) (upd H1 p (.tup xs))) (x :: xs) H3 := by
      intro t1 ms H1 k1 h1 hm
      have hM : (ms.map V.int).length = ms.length := List.length_map _
      refine ⟨s, t1, ls.map V.int, ms.map V.int, rfl, rfl, SqT.of (k1 _ _ hs), SqT.of h1, (by rw [hL, hM]; exact Nat.le_of_lt (small1000 (by omega))), fun _ => ?_, fun _ _ => ?_, fun _ _ p hp => ?_⟩
      · exact ⟨_, rfl, .inr (.inl ⟨q, _, 1, .bl b, rfl, rfl, SqT.of (k1 _ _ hq), rfl, (by show 2 ≤ sizeLine; decide), two t1 ms _ k1 h1 (by omega)⟩)⟩
      · exact ⟨_, rfl, .inr (.inl ⟨q, _, 1, .bl b, rfl, rfl, SqT.of (k1 _ _ hq), rfl, (by show 2 ≤ sizeLine; decide), two s ls _ k1 (k1 _ _ hs) (by omega)⟩)⟩
      · have k2 := same_new hp (.tup (ls.map V.int ++ ms.map V.int))
        refine ⟨_, rfl, .inr (.inl ⟨q, _, 1, .bl b, rfl, rfl, SqT.of (k2 _ _ (k1 _ _ hq)), rfl, (by show 2 ≤ sizeLine; decide), two p (ls ++ ms) _ (k1.trans k2) ?_ ?_⟩)⟩
        · rw [upd_same, List.map_append]
        · rw [List.length_append]
          omega
    obtain ⟨ms, hms, hml⟩ := cut_ints ls none (some 1)
    refine ⟨_, rfl, _, rfl, 1, rfl, s, ls.map V.int, rfl, SqT.of hs, fun _ => ?_, fun _ p hp => ?_⟩
    · exact fin s ls H (Same.refl _) hs h8
    · have k1 := same_new hp (.tup (cutV (ls.map V.int) none (some 1)))
      exact fin p ms _ k1 (by rw [upd_same, hms]) (by omega)
  · refine ⟨_, rfl, .inl ⟨rfl, _, rfl, eqF (by omega) ?_⟩⟩
    refine ⟨_, rfl, .inl ⟨rfl, _, rfl, eqF (by omega) ?_⟩⟩
    refine ⟨_, rfl, .inl ⟨rfl, _, rfl, eqF (by omega) ?_⟩⟩
    refine ⟨_, rfl, .inl ⟨rfl, _, rfl, eqF (by omega) ?_⟩⟩
    refine ⟨_, rfl, .inl ⟨rfl, _, rfl, eqF (by omega) ?_⟩⟩
    refine ⟨_, rfl, .inl ⟨rfl, _, rfl, eqF (by omega) ?_⟩⟩
    refine ⟨_, rfl, _, rfl, .inr (.inl ⟨q, _, 1, .bl b, rfl, rfl, SqT.of hq, rfl, (by show 3 ≤ sizeLine; decide), fun l hl => ?_⟩)⟩
    have k1 := same_new hl (.lst [.ref s, .bl b, .int 0])
    refine ⟨_, rfl, _, _, rfl, rfl, ⟨by decide, by decide⟩, _, _, rfl, rfl, (show (0 : Int) < 2 by decide), _, _, rfl, rfl, 2 + c / 7 % 2, rfl, l, _, rfl, SqL.of upd_same, fun p hp => ?_⟩
    have k2 := same_new hp (.lst (cutV [.ref s, .bl b, .int 0] none (some (2 + c / 7 % 2))))
    have e2 := Int.emod_nonneg (c / 7) (show (2 : Int) ≠ 0 by decide)
    have e3 := Int.emod_lt_of_pos (c / 7) (show (0 : Int) < 2 by decide)
    rcases (by omega : c / 7 % 2 = 0 ∨ c / 7 % 2 = 1) with h2 | h2
    · rw [h2] at k2 ⊢
      refine qq _ _ (.list [.tuple (ls.map .int), .bool b]) (k1.trans k2) (fun s' c' e => nomatch e) fun H'' kk => ?_
      exact RD_list (kk p _ upd_same (.inr (k1.free hp))) (RDs_cons (kk.ints ((k1.trans k2) _ _ hs)) (RDs_cons (RD_bool b) RDs_nil))
    · rw [h2] at k2 ⊢
      refine qq _ _ (.list [.tuple (ls.map .int), .bool b, .int 0]) (k1.trans k2) (fun s' c' e => nomatch e) fun H'' kk => ?_
      exact RD_list (kk p _ upd_same (.inr (k1.free hp))) (RDs_cons (kk.ints ((k1.trans k2) _ _ hs)) (RDs_cons (RD_bool b) (RDs_cons (RD_int 0) RDs_nil)))
end
def RuleOk (H : Hp) (x : V) : Prop := ∃ (q s : Addr) (ls : List Int) (b : Bool), x = .ref q ∧ H q = some (.tup [.ref s, .bl b]) ∧ H s = some (.tup (ls.map V.int)) ∧ ls.length ≤ 8
theorem RuleOk.mono {H H' : Hp} {x : V} (h : RuleOk H x) (k : Same H H') : RuleOk H' x := let ⟨q, s, ls, b, e, h1, h2, h3⟩ := h; ⟨q, s, ls, b, e, k _ _ h1, k _ _ h2, h3⟩
theorem RuleOk.upd {H : Hp} {x : V} {q : Addr} {xs : List V} {o : HO} (h : RuleOk H x) (hq : H q = some (.lst xs)) : RuleOk (upd H q o) x := by
  obtain ⟨r, s, ls, b, e, h1, h2, h3⟩ := h
  refine ⟨r, s, ls, b, e, ?_, ?_, h3⟩
  · rw [upd_ne (show r ≠ q from fun z => by subst z; rw [hq] at h1; cases h1)]
    exact h1
  · rw [upd_ne (show s ≠ q from fun z => by subst z; rw [hq] at h2; cases h2)]
    exact h2
theorem RuleOk.rd {H : Hp} {x : V} (h : RuleOk H x) : ∃ d, RD H d x ∧ SzR d := by
  obtain ⟨q, s, ls, b, rfl, h1, h2, h3⟩ := h
  exact ⟨.tuple [.tuple (ls.map .int), .bool b], RD_tup h1 (RDs_cons (RD_tup h2 (RDs_ints _)) (RDs_cons (RD_bool b) RDs_nil)), szr_ints (by omega)⟩
theorem all_rd {H : Hp} {S : PyData → Prop} : ∀ {zs : List V}, (∀ z ∈ zs, ∃ d, RD H d z ∧ S d) → ∃ ds, RDs H ds zs ∧ (∀ d ∈ ds, S d) ∧ ds.length = zs.length
  | [], _ => ⟨[], RDs_nil, (fun _ h => nomatch h), rfl⟩
  | z :: zs, h => by
    obtain ⟨d, h1, h2⟩ := h z List.mem_cons_self
    obtain ⟨ds, h3, h4, h5⟩ := all_rd fun y hy => h y (List.mem_cons_of_mem _ hy)
    refine ⟨d :: ds, RDs_cons h1 h3, fun e he => ?_, by rw [List.length_cons, List.length_cons, h5]⟩
    rcases List.mem_cons.mp he with rfl | he
    · exact h2
    · exact h4 e he
/-- an entry (n, rules, z), its rules told -/
theorem ent_rd {H : Hp} {pt lr : Addr} {n : Int} {z : V} {xs : List V} {dz : PyData} (h1 : H pt = some (.tup [.int n, .ref lr, z])) (h2 : H lr = some (.lst xs)) (hl : xs.length ≤ 900) (h3 : ∀ x ∈ xs, ∃ d, RD H d x ∧ SzR d) (h4 : RD H dz z) : ∃ d, RD H d (.ref pt) ∧ SzE d := by
  obtain ⟨ds, r1, r2, r3⟩ := all_rd h3
  refine ⟨.tuple [.int n, .list ds, dz], RD_tup h1 (RDs_cons (RD_int n) (RDs_cons (RD_list h2 r1) (RDs_cons h4 RDs_nil))), fun a b c e rs er => ?_⟩
  cases e
  cases er
  exact ⟨by omega, r2⟩
def EntOk (H0 : Hp) (D : Addr) (H : Hp) (v : V) : Prop := ∃ (pt lr : Addr) (n : Int) (b : Bool) (xs : List V), v = .ref pt ∧ H pt = some (.tup [.int n, .ref lr, .bl b]) ∧ H lr = some (.lst xs) ∧ xs.length ≤ 3 ∧ (lr ≠ D ∧ H0 lr = none) ∧ ∀ x ∈ xs, RuleOk H x
theorem EntOk.mono {H0 : Hp} {D : Addr} {H H' : Hp} {v : V} (h : EntOk H0 D H v) (k : Same H H') : EntOk H0 D H' v := by
  obtain ⟨pt, lr, n, b, xs, e, h1, h2, h3, h4, h5⟩ := h
  exact ⟨pt, lr, n, b, xs, e, k _ _ h1, k _ _ h2, h3, h4, fun x hx => (h5 x hx).mono k⟩
theorem EntOk.updD {H0 : Hp} {D : Addr} {H : Hp} {v : V} {ys : List V} {o : HO} (h : EntOk H0 D H v) (hD : H D = some (.lst ys)) : EntOk H0 D (upd H D o) v := by
  obtain ⟨pt, lr, n, b, xs, e, h1, h2, h3, h4, h5⟩ := h
  refine ⟨pt, lr, n, b, xs, e, ?_, ?_, h3, h4, fun x hx => (h5 x hx).upd hD⟩
  · rw [upd_ne (show pt ≠ D from fun z => by subst z; rw [hD] at h1; cases h1)]
    exact h1
  · rw [upd_ne h4.1]
    exact h2
theorem EntOk.rd {H0 : Hp} {D : Addr} {H : Hp} {v : V} (h : EntOk H0 D H v) : ∃ d, RD H d v ∧ SzE d := by
  obtain ⟨pt, lr, n, b, xs, rfl, h1, h2, h3, h4, h5⟩ := h
  exact ent_rd h1 h2 (by omega) (fun x hx => (h5 x hx).rd) (RD_bool b)
/-- an entry, where a list of rules was changed -/
theorem EntOk.after {H0 : Hp} {D lr : Addr} {H : Hp} {v : V} {us zs : List V} (h : EntOk H0 D H v) (hl : H lr = some (.lst us)) (hz : zs.length ≤ 900) (hr : ∀ x ∈ zs, ∃ d, RD (upd H lr (.lst zs)) d x ∧ SzR d) : ∃ d, RD (upd H lr (.lst zs)) d v ∧ SzE d := by
  obtain ⟨pt, l2, n, b, xs, rfl, h1, h2, h3, h4, h5⟩ := h
  have h1' : upd H lr (.lst zs) pt = some (.tup [.int n, .ref l2, .bl b]) := by
    rw [upd_ne (show pt ≠ lr from fun z => by subst z; rw [hl] at h1; cases h1)]
    exact h1
  by_cases e : l2 = lr
  · subst e
    exact ent_rd h1' upd_same hz hr (RD_bool b)
  · exact ent_rd h1' (by rw [upd_ne e]; exact h2) (by omega) (fun x hx => ((h5 x hx).upd hl).rd) (RD_bool b)
theorem plan_rd {H : Hp} {D : Addr} {zs : List V} (h : H D = some (.lst zs)) (hz : zs.length ≤ 900) (hr : ∀ z ∈ zs, ∃ d, RD H d z ∧ SzE d) : ∃ d, RD H d (.ref D) ∧ SzP d := by
  obtain ⟨ds, r1, r2, r3⟩ := all_rd hr
  refine ⟨.list ds, RD_list h r1, fun es e => ?_⟩
  cases e
  exact ⟨by omega, r2⟩
theorem plan_rdT {H : Hp} {D : Addr} {zs : List V} (h : H D = some (.tup zs)) (hr : ∀ z ∈ zs, ∃ d, RD H d z ∧ SzE d) : ∃ d, RD H d (.ref D) ∧ SzP d := by
  obtain ⟨ds, r1, r2, r3⟩ := all_rd hr
  refine ⟨.tuple ds, RD_tup h r1, fun es e => ?_⟩
  cases e
def spBentP : Sp := fun vs H Q _ => ∃ (b : Addr) (es : List (Int × List (List Int × Bool) × Bool)) (c : Int), vs = [.ref b, .int c] ∧ RD H (.list (es.map fun e => entD e.1 e.2.1 e.2.2)) (.ref b) ∧ es.length ≤ 20 ∧ (∀ e ∈ es, e.2.1.length ≤ 3 ∧ ∀ r ∈ e.2.1, r.1.length ≤ 8) ∧
  ∀ (v : V) (H' : Hp) (d : PyData), Same H H' → RD H' d v → SzP d → Q v H'
theorem ent_inv {H : Hp} {v : V} {n : Int} {rs : List (List Int × Bool)} {b : Bool} (h : RD H (entD n rs b) v) (h3 : rs.length ≤ 3) (h8 : ∀ r ∈ rs, r.1.length ≤ 8) :
    ∃ (pt lr : Addr) (xs : List V), v = .ref pt ∧ H pt = some (.tup [.int n, .ref lr, .bl b]) ∧ H lr = some (.lst xs) ∧ xs.length ≤ 3 ∧ ∀ x ∈ xs, RuleOk H x := by
  obtain ⟨pt, ys, rfl, h1, h2⟩ := RD_tup_inv h
  obtain ⟨y0, r0, rfl, a1, a2⟩ := RDs_cons_inv h2
  obtain ⟨y1, r1, rfl, b1, b2⟩ := RDs_cons_inv a2
  obtain ⟨y2, r2, rfl, c1, c2⟩ := RDs_cons_inv b2
  obtain rfl := RDs_nil_inv c2
  obtain rfl := RD_int_inv a1
  obtain ⟨lr, xs, rfl, d1, d2⟩ := RD_list_inv b1
  have ec : y2 = .bl b := by
    unfold RD at c1
    exact c1
  subst ec
  have hl := RDs_len d2
  rw [List.length_map] at hl
  refine ⟨pt, lr, xs, rfl, h1, d1, by omega, fun x hx => ?_⟩
  obtain ⟨j, hj⟩ := List.mem_iff_getElem?.mp hx
  have hjl : j < xs.length := (List.getElem?_eq_some_iff.mp hj).1
  have rj := RDs_get d2 hj
  have hrj : rs[j]? = some rs[j] := List.getElem?_eq_getElem (by omega)
  have e : (rs.map ruleD).getD j .none = ruleD rs[j] := by
    rw [List.getD_eq_getElem?_getD, List.getElem?_map, hrj]
    rfl
  rw [e] at rj
  have h8j := h8 _ (List.mem_of_getElem? hrj)
  generalize rs[j] = r at rj h8j
  obtain ⟨q, zs, rfl, e1, e2⟩ := RD_tup_inv rj
  obtain ⟨z0, s0, rfl, f1, f2⟩ := RDs_cons_inv e2
  obtain ⟨z1, s1, rfl, g1, g2⟩ := RDs_cons_inv f2
  obtain rfl := RDs_nil_inv g2
  have eb : z1 = .bl r.2 := by
    unfold RD at g1
    exact g1
  subst eb
  obtain ⟨s, rfl, hs⟩ := CL.of (c := r.1) f1
  exact ⟨q, s, r.1, r.2, rfl, e1, hs, h8j⟩
section
variable {P : Program} {w : World} {K : PySem.W.Frag} {mg : Str → Option Value} {base : Heap}
theorem scBentP : FnScope ["_law_plan_here", "_law_cell", "_law_at", "_law_variable", "_law_rules", "_law_otherwise", "_law_way", "_law_odd"] ["_law_plan_here", "_law_cell"] (defScope sBentP) := ⟨rfl, rfl, rfl, by decide +kernel, rfl, by decide +kernel, by decide +kernel⟩
theorem ok_bentp {f f1 : Addr} {fd d1 : FuncData} (F : Fun K "_law_bent" "_law_bent" sBentP f fd) (T : BlS mg) (G_law_bent_rule : Fn P w K mg base 1 "_law_bent_rule" f1 d1 ["_law_rule", "_law_cell", "_law_variable"] spBentR) : FnOk P w K mg base CX0 2 f fd ["_law_plan_here", "_law_cell"] spBentP := by
  have sc := scBentP
  refine F.ok scBentP (fun vs H Q E h => ?_) (fun cdv A outer s H vs Q E hr h => ?_)
  · obtain ⟨b, es, c, rfl, _⟩ := h
    rfl
  obtain ⟨b, es, c, rfl, hd, h20, hz, q⟩ := h
  have hu := hr.units
  refine ⟨_, (pss_cons (ps_setcomp (i := 0) sc.nd rfl rfl (NY := ["_law_part"]) (idx := [none]) rfl ⟨by with_unfolding_all rfl, (by with_unfolding_all exact trivial), by rfl, by rfl, by rfl, by decide, by rfl, by decide⟩ (pi_list (pv 0)) (fun _ _ _ _ => (pg_name (i := 0) (show List.Nodup (["_law_part"] : List Str) by decide +kernel) rfl (Or.inl rfl))) (fun _ _ _ _ => pif_nil) (fun _ _ _ _ => (pe_tup (pa_cons (pe_ix (ix_seqK (K := K) rfl) (pv 0) pe_int (fun _ _ => rfl)) (pa_cons (pe_callTy (call_list_ofK (K := K) rfl) rfl T.list PyProof.Rows.boot_list (pa_cons (pe_ix (ix_seqK (K := K) rfl) (pv 0) pe_int (fun _ _ => rfl)) pa_nil)) (pa_cons (pe_ix (ix_seqK (K := K) rfl) (pv 0) pe_int (fun _ _ => rfl)) pa_nil))))) (by with_unfolding_all rfl))
    (pss_cons (ps_if (pt_cmpR (op_eqA hu) (pe_callB call_len rfl T.len PySem.boot_len (pa_cons (pv 0) pa_nil)) pe_int (nomark _)) (pss_one (ps_ret (pe_lst (pa_cons (pe_tup (pa_cons pe_int (pa_cons (pe_lst pa_nil) (pa_cons pe_bl pa_nil)))) pa_nil)))) pss_nil)
    (pss_cons (ps_set (i := 2) sc.nd rfl (Or.inl rfl) (pe_op op_mod (pv 1) (pe_callB call_len rfl T.len PySem.boot_len (pa_cons (pv 0) pa_nil))))
    (pss_cons (ps_asg (pe_ix ix_seq (pv 0) (pv 2) (fun _ _ => rfl)) (pg_tup rfl (pgs_cons (pg_name (i := 3) sc.nd rfl (Or.inl rfl)) (pgs_cons (pg_name (i := 4) sc.nd rfl (Or.inl rfl)) (pgs_cons (pg_name (i := 5) sc.nd rfl (Or.inl rfl)) pgs_nil)))))
    (pss_cons (ps_set (i := 6) sc.nd rfl (Or.inl rfl) (pe_op op_mod (pe_op op_fdiv (pv 1) pe_int) pe_int))
    (pss_cons (ps_if (PW.pt (pw_and (pt_cmpR (op_eqA hu) (pv 6) pe_int (nomark _)) (pw_and1 (pt_cmpR op_gt (pe_callB call_len rfl T.len PySem.boot_len (pa_cons (pv 4) pa_nil)) pe_int (nomark _))))) (pss_one (ps_asg (pcall G_law_bent_rule hr (by omega) rfl (pa_cons (pe_ix ix_seq (pv 4) (pe_op op_mod (pe_op op_fdiv (pv 1) pe_int) (pe_callB call_len rfl T.len PySem.boot_len (pa_cons (pv 4) pa_nil))) (fun _ _ => rfl)) (pa_cons (pe_op op_fdiv (pv 1) pe_int) (pa_cons (pv 3) pa_nil)))) (pg_sub (pv 4) (pe_op op_mod (pe_op op_fdiv (pv 1) pe_int) (pe_callB call_len rfl T.len PySem.boot_len (pa_cons (pv 4) pa_nil))) set_list))) pss_nil)
    (pss_cons (ps_if (pt_cmpR (op_eqA hu) (pv 6) pe_int (nomark _)) (pss_one (ps_asg (pe_tup (pa_cons (pv 3) (pa_cons (pv 4) (pa_cons (pe_ix ix_seq (pe_lst (pa_cons pe_int (pa_cons pe_non (pa_cons pe_str pa_nil)))) (pe_op op_mod (pe_op op_fdiv (pv 1) pe_int) pe_int) (fun _ _ => rfl)) pa_nil)))) (pg_sub (pv 0) (pv 2) set_list))) pss_nil)
    (pss_cons (ps_if (pt_cmpR (op_eqA hu) (pv 6) pe_int (nomark _)) (pss_one (ps_expr (pe_bm PySem.F.plainAttrs_list PySem.F.slot_list_pop PySem.F.type_list_pop mt_popAt (pv 0) (pa_cons (pv 2) pa_nil)))) pss_nil)
    (pss_cons (ps_if (pt_cmpR (op_eqA hu) (pv 6) pe_int (nomark _)) (pss_one (ps_expr (pe_bm PySem.F.plainAttrs_list PySem.F.slot_list_insert PySem.F.type_list_insert mt_insert (pv 0) (pa_cons (pv 2) (pa_cons (pe_ix ix_seq (pv 0) (pv 2) (fun _ _ => rfl)) pa_nil))))) pss_nil)
    (pss_cons (ps_if (pt_cmpR (op_eqA hu) (pv 6) pe_int (nomark _)) (pss_one (ps_asg (pe_tup (pa_cons (pe_op op_add (pv 3) (pe_ix ix_seq (pe_lst (pa_cons pe_int (pa_cons (pe_un un_neg pe_int) (pa_cons (pe_op op_pow pe_int pe_int) pa_nil)))) (pe_op op_mod (pe_op op_fdiv (pv 1) pe_int) pe_int) (fun _ _ => rfl))) (pa_cons (pv 4) (pa_cons (pv 5) pa_nil)))) (pg_sub (pv 0) (pv 2) set_list))) pss_nil)
    (pss_cons (ps_if (pt_cmpR (op_eqA hu) (pv 6) pe_int (nomark _)) (pss_cons (ps_set (i := 7) sc.nd rfl (Or.inl rfl) (pe_lst (pa_cons (pe_tup (pa_cons (pv 3) (pa_cons (pe_callTy call_tuple_of rfl T.tuple PyProof.Rows.boot_tuple (pa_cons (pv 4) pa_nil)) (pa_cons (pv 5) pa_nil)))) (pa_cons (pe_tup (pa_cons (pv 3) (pa_cons (pv 4) pa_nil))) (pa_cons (pe_lst (pa_cons (pv 3) (pa_cons (pv 4) (pa_cons (pv 5) pa_nil)))) pa_nil)))))
      (pss_one (ps_asg (pe_ix ix_seq (pv 7) (pe_op op_mod (pe_op op_fdiv (pv 1) pe_int) pe_int) (fun _ _ => rfl)) (pg_sub (pv 0) (pv 2) set_list)))) pss_nil)
    (pss_cons (ps_if (pt_cmpR (op_eqA hu) (pv 6) pe_int (nomark _)) (pss_one (ps_ret (pe_callTy call_tuple_of rfl T.tuple PyProof.Rows.boot_tuple (pa_cons (pv 0) pa_nil)))) pss_nil)
    (pss_one (ps_ret (pv 0))))))))))))))), ?_⟩
  obtain ⟨b', ys, eb, hb, hy⟩ := RD_list_inv hd
  cases eb
  have hyl := RDs_len hy
  rw [List.length_map] at hyl
  refine ⟨_, rfl, b, rfl, ⟨_, SqL.of hb⟩, fun D hD => ?_⟩
  have nD : H D = none := hD
  have nbD : b ≠ D := ne_of_none hb hD
  refine comp_list (K := K) (a := b) (xs := ys) (fun i σ zs H2 => (∃ v0, σ = [v0]) ∧ H2 D = some (.lst zs) ∧ Same H H2 ∧ zs.length = i ∧ ∀ z ∈ zs, EntOk H D H2 z)
    ⟨⟨none, rfl⟩, upd_same, same_new hD _, rfl, fun _ z => nomatch z⟩ ?_ ?_ ?_
  · rintro i σ zs H2 _ ⟨_, h1, k, _⟩
    exact ⟨h1, SqL.of (k _ _ hb)⟩
  · rintro i y σ zs H2 hi ⟨⟨v0, rfl⟩, g1, g2, g3, g4⟩
    have hil : i < ys.length := (List.getElem?_eq_some_iff.mp hi).1
    have hyi := RD_mono g2 _ _ (RDs_get hy hi)
    have hei : es[i]? = some es[i] := List.getElem?_eq_getElem (by omega)
    have e : (es.map fun e => entD e.1 e.2.1 e.2.2).getD i .none = entD es[i].1 es[i].2.1 es[i].2.2 := by
      rw [List.getD_eq_getElem?_getD, List.getElem?_map, hei]
      rfl
    rw [e] at hyi
    obtain ⟨z3, z8⟩ := hz _ (List.mem_of_getElem? hei)
    generalize es[i] = ent at hyi z3 z8
    obtain ⟨pt, lr, xs, rfl, p1, p2, p3, p4⟩ := ent_inv hyi z3 z8
    refine gName_t0 ⟨_, rfl, .inr (.inl ⟨pt, _, 0, _, rfl, rfl, SqT.of p1, rfl, _, rfl, .inr (.inl ⟨pt, _, 1, _, rfl, rfl, SqT.of p1, rfl, lr, _, rfl, .inl (SqL.of p2), fun l2 hl2 => ?_⟩)⟩)⟩
    have k3 := same_new hl2 (.lst xs)
    have s3 : upd H2 l2 (.lst xs) l2 = some (.lst xs) := upd_same
    have nl2 : l2 ≠ D := (ne_of_none g1 hl2).symm
    generalize upd H2 l2 (.lst xs) = H3 at k3 s3
    refine ⟨_, rfl, .inr (.inl ⟨pt, _, 2, _, rfl, rfl, SqT.of (k3 _ _ p1), rfl, (by show 3 ≤ sizeLine; decide), fun pn hpn => ?_⟩)⟩
    have k4 := same_new hpn (.tup [.int ent.1, .ref l2, .bl ent.2.2])
    have s4 : upd H3 pn (.tup [.int ent.1, .ref l2, .bl ent.2.2]) pn = some (.tup [.int ent.1, .ref l2, .bl ent.2.2]) := upd_same
    generalize upd H3 pn (.tup [.int ent.1, .ref l2, .bl ent.2.2]) = H4 at k4 s4
    have k34 := k3.trans k4
    have g14 := k34 _ _ g1
    refine ⟨g14, (by rw [g3]; exact small1000 (by omega)), ⟨_, rfl⟩, upd_same, fun c o e => ?_, by rw [List.length_append, g3]; rfl, fun z hz2 => ?_⟩
    · rw [upd_ne (ne_of_none e nD)]
      exact k34 _ _ (g2 _ _ e)
    · rcases List.mem_append.mp hz2 with w | w
      · exact ((g4 z w).mono k34).updD g14
      · rw [List.mem_singleton.mp w]
        exact EntOk.updD ⟨pn, l2, ent.1, ent.2.2, xs, rfl, s4, k4 _ _ s3, p3, ⟨nl2, g2.free hl2⟩, fun x hx => (p4 x hx).mono k34⟩ g14
  rintro σ zs H1 ⟨_, g1, g2, g3, g4⟩
  have hzl : zs.length ≤ 20 := by omega
  clear hy hyl hd hb nbD
  refine ⟨_, rfl, .ref D, _, rfl, .inl ⟨_, SqL.of g1, rfl⟩, .inl ⟨rfl, _, rfl, ?_⟩⟩
  by_cases h0 : zs.length = 0
  · refine eqT (by omega) ?_
    refine ⟨Nat.zero_le _, fun l1 hl1 => ?_⟩
    have k2 := same_new hl1 (.lst [])
    refine ⟨(by show 3 ≤ sizeLine; decide), fun t1 ht1 => ?_⟩
    have k3 := same_new ht1 (.tup [.int 1, .ref l1, .bl false])
    refine ⟨(by show 1 ≤ sizeLine; decide), fun l2 hl2 => ?_⟩
    have k4 := same_new hl2 (.lst [.ref t1])
    obtain ⟨d, r1, r2⟩ := plan_rd (H := upd (upd (upd H1 l1 (.lst [])) t1 (.tup [.int 1, .ref l1, .bl false])) l2 (.lst [.ref t1])) (D := l2) upd_same (by show 1 ≤ 900; decide) fun z hz2 => by
      rw [List.mem_singleton.mp hz2]
      exact ent_rd (k4 _ _ upd_same) ((k3.trans k4) _ _ upd_same) (Nat.zero_le _) (fun _ h => nomatch h) (RD_bool false)
    exact q _ _ d (g2.trans (k2.trans (k3.trans k4))) r1 r2
  refine eqF (by omega) ?_
  have hpos : 0 < zs.length := by omega
  obtain ⟨j, ej, hj⟩ : ∃ j : Nat, c % (zs.length : Int) = (j : Int) ∧ j < zs.length := by
    have z0 := Int.emod_nonneg c (show (zs.length : Int) ≠ 0 by omega)
    have z1 := Int.emod_lt_of_pos c (show (0 : Int) < (zs.length : Int) by omega)
    exact ⟨(c % (zs.length : Int)).toNat, by omega, by omega⟩
  refine ⟨_, rfl, _, rfl, .ref D, _, rfl, .inl ⟨_, SqL.of g1, rfl⟩, mod_to (by omega) ej ?_⟩
  have hzj : zs[j]? = some zs[j] := List.getElem?_eq_getElem hj
  obtain ⟨pt, lr, n, bb, xs, ept, p1, p2, p3, p4, p5⟩ := g4 _ (List.mem_of_getElem? hzj)
  rw [ept] at hzj
  refine ⟨_, rfl, _, rfl, .inl ⟨D, zs, (j : Int), _, rfl, rfl, SqL.of g1, atI_nat hzj, pt, [.int n, .ref lr, .bl bb], rfl, SqT.of p1, rfl, _, _, rfl, _, _, rfl, _, _, rfl, rfl, ?_⟩⟩
  refine ⟨_, rfl, _, _, rfl, rfl, ⟨by decide, by decide⟩, _, _, rfl, rfl, (show (0 : Int) < 7 by decide), ?_⟩
  have w0 := Int.emod_nonneg (c / 9) (show (7 : Int) ≠ 0 by decide)
  have w1 := Int.emod_lt_of_pos (c / 9) (show (0 : Int) < 7 by decide)
  have i0 := Int.emod_nonneg (c / 70) (show (3 : Int) ≠ 0 by decide)
  have i1 := Int.emod_lt_of_pos (c / 70) (show (0 : Int) < 3 by decide)
  have fin : ∀ (ws : List V) (H' : Hp), H' D = some (.lst ws) → ws.length ≤ 900 → (∀ z ∈ ws, ∃ d, RD H' d z ∧ SzE d) → Same H H' → Q (.ref D) H' := fun ws H' h1 h2 h3 k => by
    obtain ⟨d, r1, r2⟩ := plan_rd h1 h2 h3
    exact q _ _ d k r1 r2
  -- another thing in the place at j
  have put : ∀ (x : V) (H2 : Hp), Same H1 H2 → (∀ o : HO, ∃ d, RD (upd H2 D o) d x ∧ SzE d) → Q (.ref D) (upd H2 D (.lst (zs.set j x))) := fun x H2 k2 hx => by
    refine fin (zs.set j x) _ upd_same (by rw [List.length_set]; omega) (fun z hz2 => ?_) fun b o e => ?_
    · rcases List.mem_or_eq_of_mem_set hz2 with w | w
      · exact (((g4 z w).mono k2).updD (k2 _ _ g1)).rd
      · rw [w]
        exact hx _
    · rw [upd_ne (ne_of_none e nD)]
      exact k2 _ _ (g2 _ _ e)
  have lrD : lr ≠ D := p4.1
  have nlrH : ∀ b o, H b = some o → b ≠ lr := fun b o e => ne_of_none e p4.2
  have ptk : ∀ {H2 : Hp} {b : Addr} {ws : List V} {o : HO}, H2 D = some (.lst zs) → H2 b = some (.tup ws) → upd H2 D o b = some (.tup ws) := fun {H2 b ws o} h1 h2 => by
    rw [upd_ne (show b ≠ D from fun z => by subst z; rw [h1] at h2; cases h2)]
    exact h2
  have rls : ∀ {H2 : Hp} {o : HO}, Same H1 H2 → ∀ x ∈ xs, ∃ d, RD (upd H2 D o) d x ∧ SzR d := fun {H2 o} k2 x hx => (((p5 x hx).mono k2).upd (k2 _ _ g1)).rd
  rcases (by omega : c / 9 % 7 = 0 ∨ c / 9 % 7 = 1 ∨ c / 9 % 7 = 2 ∨ c / 9 % 7 = 3 ∨ c / 9 % 7 = 4 ∨ c / 9 % 7 = 5 ∨ c / 9 % 7 = 6) with h7 | h7 | h7 | h7 | h7 | h7 | h7
  · have old : Q (.ref D) H1 := fin zs H1 g1 (by omega) (fun z hz2 => (g4 z hz2).rd) g2
    refine ⟨_, rfl, .inl ⟨rfl, _, rfl, eqT (by omega) ⟨_, rfl, .ref lr, _, rfl, .inl ⟨_, SqL.of p2, rfl⟩, _, _, rfl, rfl, _, rfl, ite2 (fun g => ?_) (fun g => ?_)⟩⟩⟩
    · have g' : (0 : Int) < ((xs.length : Nat) : Int) := of_decide_eq_true g
      obtain ⟨k, ek, hk⟩ : ∃ k : Nat, c / 70 % (xs.length : Int) = (k : Int) ∧ k < xs.length := by
        have z0 := Int.emod_nonneg (c / 70) (show (xs.length : Int) ≠ 0 by omega)
        have z1 := Int.emod_lt_of_pos (c / 70) g'
        exact ⟨(c / 70 % (xs.length : Int)).toNat, by omega, by omega⟩
      have hxk : xs[k]? = some xs[k] := List.getElem?_eq_getElem hk
      obtain ⟨qr, sr, ls, br, eqr, q1, q2, q3⟩ := p5 _ (List.mem_of_getElem? hxk)
      rw [eqr] at hxk
      refine ⟨_, rfl, _, rfl, _, _, rfl, rfl, ⟨by decide, by decide⟩, _, rfl, .ref lr, _, rfl, .inl ⟨_, SqL.of p2, rfl⟩, mod_to g' ek (.inl ⟨lr, xs, (k : Int), _, rfl, rfl, SqL.of p2, atI_nat hxk, _, rfl, _, _, rfl, rfl, ⟨by decide, by decide⟩, _, rfl, qr, sr, ls, br, _, _, rfl, q1, q2, q3, fun x' H2 d k2 sz rd => ?_⟩)⟩
      refine ⟨_, rfl, _, rfl, _, _, rfl, rfl, ⟨by decide, by decide⟩, _, rfl, .ref lr, _, rfl, .inl ⟨_, SqL.of (k2 _ _ p2), rfl⟩, mod_to g' ek ⟨lr, xs, (k : Int), k, rfl, rfl, k2 _ _ p2, ixN_ok (by omega) (by omega), ?_⟩⟩
      refine ⟨_, rfl, .inl ⟨rfl, _, rfl, eqF (by omega) ?_⟩⟩
      refine ⟨_, rfl, .inl ⟨rfl, _, rfl, eqF (by omega) ?_⟩⟩
      refine ⟨_, rfl, .inl ⟨rfl, _, rfl, eqF (by omega) ?_⟩⟩
      refine ⟨_, rfl, .inl ⟨rfl, _, rfl, eqF (by omega) ?_⟩⟩
      refine ⟨_, rfl, .inl ⟨rfl, _, rfl, eqF (by omega) ?_⟩⟩
      refine ⟨_, rfl, .inl ⟨rfl, _, rfl, eqF (by omega) ?_⟩⟩
      have lr2 := k2 _ _ p2
      have rx : RD (upd H2 lr (.lst (xs.set k x'))) d x' := rd _ fun b o hb ho => by
        rcases ho with ⟨us, rfl⟩ | ho
        · rw [upd_ne (show b ≠ lr from fun z => by subst z; rw [lr2] at hb; cases hb)]
          exact hb
        · rw [upd_ne (show b ≠ lr from fun z => by subst z; rw [p2] at ho; cases ho)]
          exact hb
      have hxs : ∀ x ∈ xs.set k x', ∃ d, RD (upd H2 lr (.lst (xs.set k x'))) d x ∧ SzR d := fun x hx => by
        rcases List.mem_or_eq_of_mem_set hx with w | w
        · exact (((p5 x w).mono k2).upd lr2).rd
        · rw [w]
          exact ⟨d, rx, sz⟩
      refine ⟨_, rfl, fin zs _ (by rw [upd_ne lrD.symm]; exact k2 _ _ g1) (by omega) (fun z hz2 => ((g4 z hz2).mono k2).after lr2 (by rw [List.length_set]; omega) hxs) fun b o e => ?_⟩
      rw [upd_ne (nlrH b o e)]
      exact k2 _ _ (g2 _ _ e)
    · refine ⟨_, rfl, .inl ⟨rfl, _, rfl, eqF (by omega) ?_⟩⟩
      refine ⟨_, rfl, .inl ⟨rfl, _, rfl, eqF (by omega) ?_⟩⟩
      refine ⟨_, rfl, .inl ⟨rfl, _, rfl, eqF (by omega) ?_⟩⟩
      refine ⟨_, rfl, .inl ⟨rfl, _, rfl, eqF (by omega) ?_⟩⟩
      refine ⟨_, rfl, .inl ⟨rfl, _, rfl, eqF (by omega) ?_⟩⟩
      refine ⟨_, rfl, .inl ⟨rfl, _, rfl, eqF (by omega) ?_⟩⟩
      exact ⟨_, rfl, old⟩
  · refine ⟨_, rfl, .inl ⟨rfl, _, rfl, eqF (by omega) (iteF ?_)⟩⟩
    refine ⟨_, rfl, .inl ⟨rfl, _, rfl, eqT (by omega) ?_⟩⟩
    refine ⟨_, rfl, _, rfl, (by show 3 ≤ sizeLine; decide), fun l3 hl3 => ?_⟩
    have k2 := same_new hl3 (.lst [.int 0, .non, .str (Str.ofString "a")])
    obtain ⟨it, hit, hita⟩ := atI_ok (xs := [V.int 0, .non, .str (Str.ofString "a")]) i0 (by show c / 70 % 3 < ((3 : Nat) : Int); omega)
    refine ⟨_, rfl, _, _, rfl, rfl, ⟨by decide, by decide⟩, _, _, rfl, rfl, (show (0 : Int) < 3 by decide), .inl ⟨l3, _, _, it, rfl, rfl, SqL.of upd_same, hita, (by show 3 ≤ sizeLine; decide), fun pn hpn => ?_⟩⟩
    have k3 := same_new hpn (.tup [.int n, .ref lr, it])
    have k23 := k2.trans k3
    refine ⟨_, rfl, _, rfl, D, zs, (j : Int), j, rfl, rfl, k23 _ _ g1, ixN_ok (by omega) (by omega), ?_⟩
    refine ⟨_, rfl, .inl ⟨rfl, _, rfl, eqF (by omega) ?_⟩⟩
    refine ⟨_, rfl, .inl ⟨rfl, _, rfl, eqF (by omega) ?_⟩⟩
    refine ⟨_, rfl, .inl ⟨rfl, _, rfl, eqF (by omega) ?_⟩⟩
    refine ⟨_, rfl, .inl ⟨rfl, _, rfl, eqF (by omega) ?_⟩⟩
    refine ⟨_, rfl, .inl ⟨rfl, _, rfl, eqF (by omega) ?_⟩⟩
    refine ⟨_, rfl, put (.ref pn) _ k23 fun o => ent_rd (ptk (k23 _ _ g1) upd_same) (by rw [upd_ne lrD]; exact k23 _ _ p2) (by omega) (rls k23) (RDs_get (RDs_cons (RD_int 0) (RDs_cons RD_none (RDs_cons (RD_str _) RDs_nil))) hit)⟩
  · refine ⟨_, rfl, .inl ⟨rfl, _, rfl, eqF (by omega) (iteF ?_)⟩⟩
    refine ⟨_, rfl, .inl ⟨rfl, _, rfl, eqF (by omega) ?_⟩⟩
    refine ⟨_, rfl, .inl ⟨rfl, _, rfl, eqT (by omega) ?_⟩⟩
    have hsx : seqIndex? (j : Int) zs.length = some j := by
      unfold seqIndex?
      simp only [show ¬ ((j : Int) < 0) by omega, if_false]
      rw [if_pos (by simp; omega)]
      simp
    refine ⟨_, rfl, .inl ⟨rfl, _, SqL.of g1⟩, _, rfl, D, zs, (j : Int), j, _, rfl, rfl, g1, by omega, by omega, hsx, hzj, ?_⟩
    refine ⟨_, rfl, .inl ⟨rfl, _, rfl, eqF (by omega) ?_⟩⟩
    refine ⟨_, rfl, .inl ⟨rfl, _, rfl, eqF (by omega) ?_⟩⟩
    refine ⟨_, rfl, .inl ⟨rfl, _, rfl, eqF (by omega) ?_⟩⟩
    refine ⟨_, rfl, .inl ⟨rfl, _, rfl, eqF (by omega) ?_⟩⟩
    refine ⟨_, rfl, fin (zs.eraseIdx j) _ upd_same (by have := List.length_eraseIdx_le zs j; omega) (fun z hz2 => ((g4 z (List.mem_of_mem_eraseIdx hz2)).updD g1).rd) fun b o e => ?_⟩
    rw [upd_ne (ne_of_none e nD)]
    exact g2 _ _ e
  · refine ⟨_, rfl, .inl ⟨rfl, _, rfl, eqF (by omega) (iteF ?_)⟩⟩
    refine ⟨_, rfl, .inl ⟨rfl, _, rfl, eqF (by omega) ?_⟩⟩
    refine ⟨_, rfl, .inl ⟨rfl, _, rfl, eqF (by omega) ?_⟩⟩
    refine ⟨_, rfl, .inl ⟨rfl, _, rfl, eqT (by omega) ?_⟩⟩
    refine ⟨_, rfl, .inl ⟨rfl, _, SqL.of g1⟩, _, rfl, _, rfl, _, rfl, .inl ⟨D, zs, (j : Int), _, rfl, rfl, SqL.of g1, atI_nat hzj, D, zs, (j : Int), _, rfl, rfl, g1, by omega, by omega, small1000 (by omega), ?_⟩⟩
    refine ⟨_, rfl, .inl ⟨rfl, _, rfl, eqF (by omega) ?_⟩⟩
    refine ⟨_, rfl, .inl ⟨rfl, _, rfl, eqF (by omega) ?_⟩⟩
    refine ⟨_, rfl, .inl ⟨rfl, _, rfl, eqF (by omega) ?_⟩⟩
    refine ⟨_, rfl, fin _ _ upd_same ?_ (fun z hz2 => ?_) fun b o e => ?_⟩
    · rw [List.length_append, List.length_cons, List.length_take, List.length_drop]
      omega
    · have : z ∈ zs := by
        rcases List.mem_append.mp hz2 with w | w
        · exact List.mem_of_mem_take w
        · rcases List.mem_cons.mp w with w | w
          · rw [w]
            exact List.mem_of_getElem? hzj
          · exact List.mem_of_mem_drop w
      exact ((g4 z this).updD g1).rd
    · rw [upd_ne (ne_of_none e nD)]
      exact g2 _ _ e
  · refine ⟨_, rfl, .inl ⟨rfl, _, rfl, eqF (by omega) (iteF ?_)⟩⟩
    refine ⟨_, rfl, .inl ⟨rfl, _, rfl, eqF (by omega) ?_⟩⟩
    refine ⟨_, rfl, .inl ⟨rfl, _, rfl, eqF (by omega) ?_⟩⟩
    refine ⟨_, rfl, .inl ⟨rfl, _, rfl, eqF (by omega) ?_⟩⟩
    refine ⟨_, rfl, .inl ⟨rfl, _, rfl, eqT (by omega) ?_⟩⟩
    refine ⟨_, rfl, _, rfl, _, _, rfl, rfl, ⟨by decide, by decide, by decide⟩, (by show 3 ≤ sizeLine; decide), fun l3 hl3 => ?_⟩
    have k2 := same_new hl3 (.lst (([1, -1, 10 ^ 58] : List Int).map V.int))
    obtain ⟨it, hit, hita⟩ := atI_ints (ns := [1, -1, 10 ^ 58]) i0 (by show c / 70 % 3 < ((3 : Nat) : Int); omega)
    refine ⟨_, rfl, _, _, rfl, rfl, ⟨by decide, by decide⟩, _, _, rfl, rfl, (show (0 : Int) < 3 by decide), .inl ⟨l3, ([1, -1, 10 ^ 58] : List Int).map V.int, _, .int it, rfl, rfl, SqL.of upd_same, hita, _, _, rfl, rfl, ?_⟩⟩
    refine ⟨_, rfl, _, rfl, (by show 3 ≤ sizeLine; decide), fun pn hpn => ?_⟩
    have k3 := same_new hpn (.tup [.int (n + it), .ref lr, .bl bb])
    have k23 := k2.trans k3
    refine ⟨_, rfl, _, rfl, D, zs, (j : Int), j, rfl, rfl, k23 _ _ g1, ixN_ok (by omega) (by omega), ?_⟩
    refine ⟨_, rfl, .inl ⟨rfl, _, rfl, eqF (by omega) ?_⟩⟩
    refine ⟨_, rfl, .inl ⟨rfl, _, rfl, eqF (by omega) ?_⟩⟩
    refine ⟨_, rfl, put (.ref pn) _ k23 fun o => ent_rd (ptk (k23 _ _ g1) upd_same) (by rw [upd_ne lrD]; exact k23 _ _ p2) (by omega) (rls k23) (RD_bool bb)⟩
  · refine ⟨_, rfl, .inl ⟨rfl, _, rfl, eqF (by omega) (iteF ?_)⟩⟩
    refine ⟨_, rfl, .inl ⟨rfl, _, rfl, eqF (by omega) ?_⟩⟩
    refine ⟨_, rfl, .inl ⟨rfl, _, rfl, eqF (by omega) ?_⟩⟩
    refine ⟨_, rfl, .inl ⟨rfl, _, rfl, eqF (by omega) ?_⟩⟩
    refine ⟨_, rfl, .inl ⟨rfl, _, rfl, eqF (by omega) ?_⟩⟩
    refine ⟨_, rfl, .inl ⟨rfl, _, rfl, eqT (by omega) ?_⟩⟩
    refine ⟨_, rfl, _, rfl, lr, _, rfl, .inl ⟨SqL.of p2, fun t1 ht1 => ?_⟩⟩
    have k2 := same_new ht1 (.tup xs)
    have s2 : upd H1 t1 (.tup xs) t1 = some (.tup xs) := upd_same
    generalize upd H1 t1 (.tup xs) = H2 at k2 s2
    refine ⟨_, rfl, (by show 3 ≤ sizeLine; decide), fun t2 ht2 => ?_⟩
    have k3 := same_new ht2 (.tup [.int n, .ref t1, .bl bb])
    have s3 : upd H2 t2 (.tup [.int n, .ref t1, .bl bb]) t2 = some (.tup [.int n, .ref t1, .bl bb]) := upd_same
    generalize upd H2 t2 (.tup [.int n, .ref t1, .bl bb]) = H3 at k3 s3
    refine ⟨_, rfl, _, rfl, (by show 2 ≤ sizeLine; decide), fun t3 ht3 => ?_⟩
    have k4 := same_new ht3 (.tup [.int n, .ref lr])
    have s4 : upd H3 t3 (.tup [.int n, .ref lr]) t3 = some (.tup [.int n, .ref lr]) := upd_same
    generalize upd H3 t3 (.tup [.int n, .ref lr]) = H4 at k4 s4
    refine ⟨_, rfl, _, rfl, _, rfl, (by show 3 ≤ sizeLine; decide), fun l4 hl4 => ?_⟩
    have k5 := same_new hl4 (.lst [.int n, .ref lr, .bl bb])
    have s5 : upd H4 l4 (.lst [.int n, .ref lr, .bl bb]) l4 = some (.lst [.int n, .ref lr, .bl bb]) := upd_same
    have n5 : l4 ≠ D := (ne_of_none ((k2.trans (k3.trans k4)) _ _ g1) hl4).symm
    generalize upd H4 l4 (.lst [.int n, .ref lr, .bl bb]) = H5 at k5 s5
    refine ⟨(by show 3 ≤ sizeLine; decide), fun sx hsx => ?_⟩
    have k6 := same_new hsx (.lst [.ref t2, .ref t3, .ref l4])
    have s6 : upd H5 sx (.lst [.ref t2, .ref t3, .ref l4]) sx = some (.lst [.ref t2, .ref t3, .ref l4]) := upd_same
    generalize upd H5 sx (.lst [.ref t2, .ref t3, .ref l4]) = H6 at k6 s6
    obtain ⟨it, hit, hita⟩ := atI_ok (xs := [V.ref t2, .ref t3, .ref l4]) i0 (by show c / 70 % 3 < ((3 : Nat) : Int); omega)
    refine ⟨_, rfl, _, rfl, _, _, rfl, rfl, ⟨by decide, by decide⟩, _, _, rfl, rfl, (show (0 : Int) < 3 by decide), .inl ⟨sx, _, _, it, rfl, rfl, SqL.of s6, hita, ?_⟩⟩
    have k16 := k2.trans (k3.trans (k4.trans (k5.trans k6)))
    have g16 := k16 _ _ g1
    refine ⟨_, rfl, _, rfl, D, zs, (j : Int), j, rfl, rfl, g16, ixN_ok (by omega) (by omega), ?_⟩
    refine ⟨_, rfl, .inl ⟨rfl, _, rfl, eqF (by omega) ?_⟩⟩
    refine ⟨_, rfl, put it _ k16 fun o => ?_⟩
    obtain ⟨ds, r1, r2, r3⟩ := all_rd (rls (o := o) k16)
    have hl6 : upd H6 D o lr = some (.lst xs) := by rw [upd_ne lrD]; exact k16 _ _ p2
    have a1 : RD (upd H6 D o) (.tuple [.int n, .tuple ds, .bool bb]) (.ref t2) := RD_tup (ptk g16 ((k4.trans (k5.trans k6)) _ _ s3)) (RDs_cons (RD_int n) (RDs_cons (RD_tup (ptk g16 ((k3.trans (k4.trans (k5.trans k6))) _ _ s2)) r1) (RDs_cons (RD_bool bb) RDs_nil)))
    have a2 : RD (upd H6 D o) (.tuple [.int n, .list ds]) (.ref t3) := RD_tup (ptk g16 ((k5.trans k6) _ _ s4)) (RDs_cons (RD_int n) (RDs_cons (RD_list hl6 r1) RDs_nil))
    have a3 : RD (upd H6 D o) (.list [.int n, .list ds, .bool bb]) (.ref l4) := RD_list (by rw [upd_ne n5]; exact k6 _ _ s5) (RDs_cons (RD_int n) (RDs_cons (RD_list hl6 r1) (RDs_cons (RD_bool bb) RDs_nil)))
    rcases (by omega : c / 70 % 3 = 0 ∨ c / 70 % 3 = 1 ∨ c / 70 % 3 = 2) with h3 | h3 | h3
    · rw [h3] at hit
      have e : V.ref t2 = it := Option.some.inj hit
      rw [← e]
      refine ⟨_, a1, fun x y z e2 rs er => ?_⟩
      cases e2
      cases er
    · rw [h3] at hit
      have e : V.ref t3 = it := Option.some.inj hit
      rw [← e]
      refine ⟨_, a2, fun x y z e2 => ?_⟩
      cases e2
    · rw [h3] at hit
      have e : V.ref l4 = it := Option.some.inj hit
      rw [← e]
      refine ⟨_, a3, fun x y z e2 => ?_⟩
      cases e2
  · refine ⟨_, rfl, .inl ⟨rfl, _, rfl, eqF (by omega) (iteF ?_)⟩⟩
    refine ⟨_, rfl, .inl ⟨rfl, _, rfl, eqF (by omega) ?_⟩⟩
    refine ⟨_, rfl, .inl ⟨rfl, _, rfl, eqF (by omega) ?_⟩⟩
    refine ⟨_, rfl, .inl ⟨rfl, _, rfl, eqF (by omega) ?_⟩⟩
    refine ⟨_, rfl, .inl ⟨rfl, _, rfl, eqF (by omega) ?_⟩⟩
    refine ⟨_, rfl, .inl ⟨rfl, _, rfl, eqF (by omega) ?_⟩⟩
    refine ⟨_, rfl, .inl ⟨rfl, _, rfl, eqT (by omega) ?_⟩⟩
    refine ⟨_, rfl, D, _, rfl, .inl ⟨SqL.of g1, fun t1 ht1 => ?_⟩⟩
    have k2 := same_new ht1 (.tup zs)
    obtain ⟨d, r1, r2⟩ := plan_rdT (H := upd H1 t1 (.tup zs)) (D := t1) (zs := zs) upd_same fun z hz2 => ((g4 z hz2).mono k2).rd
    exact q _ _ d (g2.trans k2) r1 r2
end
end K31


namespace K31
open PySem L2 OD
abbrev sLaw : Stmt := top 30
structure BlW (mg : Str → Option Value) : Prop where
  isinstance : mg "isinstance" = none
  bool : mg "bool" = none
def spLaw (K : PySem.W.Frag) : Sp := fun vs H Q _ => ∃ (a : Addr) (ns : List Int), vs = [.ref a] ∧ SqL K H a (ns.map V.int) ∧ ns.length ≤ 63 ∧ ∀ H', Q (.bl true) H'
def entsF (ns : List Int) (t : Str) (hw : Bool) : List (Int × List (List Int × Bool) × Bool) := ((List.range t.length).filter fun i => isW t i == hw).map fun (i : Nat) => (1 + (i : Int), (rulesF i (numF ns (mixB ns) (1 + (i : Int)) / 8) (numF ns (mixB ns) (1 + (i : Int)) % 4).toNat).1, decide (V.int (numF ns (mixB ns) (1 + (i : Int)) / 4 % 2) = V.int 1))
theorem planD_ents (ns : List Int) (t : Str) (hw : Bool) : planD ns t hw = .list ((entsF ns t hw).map fun e => entD e.1 e.2.1 e.2.2) := by
  unfold planD entsF
  rw [List.map_map]
  rfl
theorem ents_ok {ns : List Int} {t : Str} {hw : Bool} (ht : t.length ≤ 8) : (entsF ns t hw).length ≤ 20 ∧ ∀ e ∈ entsF ns t hw, e.2.1.length ≤ 3 ∧ ∀ r ∈ e.2.1, r.1.length ≤ 8 := by
  unfold entsF
  constructor
  · rw [List.length_map]
    have := List.length_filter_le (fun i => isW t i == hw) (List.range t.length)
    rw [List.length_range] at this
    omega
  · intro e he
    obtain ⟨i, hi, rfl⟩ := List.mem_map.mp he
    have hi' : i < t.length := List.mem_range.mp (List.mem_filter.mp hi).1
    have m0 := Int.emod_nonneg (numF ns (mixB ns) (1 + (i : Int))) (show (4 : Int) ≠ 0 by decide)
    have m1 := Int.emod_lt_of_pos (numF ns (mixB ns) (1 + (i : Int))) (show (0 : Int) < 4 by decide)
    refine ⟨?_, fun r hr => ?_⟩
    · show (rulesF _ _ _).1.length ≤ 3
      rw [rulesF_len]
      omega
    · have := rulesF_lits _ _ _ r hr
      omega
theorem ents_sz {es : List (Int × List (List Int × Bool) × Bool)} (h : es.length ≤ 20) (h2 : ∀ e ∈ es, e.2.1.length ≤ 3 ∧ ∀ r ∈ e.2.1, r.1.length ≤ 8) : SzP (.list (es.map fun e => entD e.1 e.2.1 e.2.2)) := fun ds e => by
  cases e
  refine ⟨by rw [List.length_map]; omega, fun d hd => ?_⟩
  obtain ⟨x, hx, rfl⟩ := List.mem_map.mp hd
  obtain ⟨h3, h4⟩ := h2 x hx
  intro a b c e rs er
  cases e
  cases er
  refine ⟨by rw [List.length_map]; omega, fun r hr => ?_⟩
  obtain ⟨y, hy, rfl⟩ := List.mem_map.mp hr
  exact szr_ints (by have := h4 y hy; omega)
theorem ents_nice (es : List (Int × List (List Int × Bool) × Bool)) : Nice 8 (.list (es.map fun e => entD e.1 e.2.1 e.2.2)) := by
  refine Nice.mono (nice_list (n := 6) fun d hd => ?_) (by decide)
  obtain ⟨x, hx, rfl⟩ := List.mem_map.mp hd
  refine Nice.mono (nice_tup (n := 5) (nice_cons (nice_int _ _) (nice_cons (Nice.mono (nice_list (n := 4) fun r hr => ?_) (by decide)) (nice_cons (nice_bool _ _) nice_nil)))) (by decide)
  obtain ⟨y, hy, rfl⟩ := List.mem_map.mp hr
  exact Nice.mono (nice_tup (n := 2) (nice_cons (Nice.mono (nice_tup (n := 1) (nice_ints 1 y.1)) (by decide)) (nice_cons (nice_bool _ _) nice_nil))) (by decide)
theorem hand_at (r : Int) (h : r = 0 ∨ r = 1) : atI [V.str (Str.ofString "spoiler"), V.str (Str.ofString "wisher")] r = some (.str (handS (decide (r = 1)))) := by
  rcases h with rfl | rfl <;> rfl
theorem szp_none : SzP .none := fun _ e => nomatch e
theorem szp_nil : SzP (.list []) := fun es e => by
  cases e
  exact ⟨Nat.zero_le _, fun _ h => nomatch h⟩
theorem szp_one {d : PyData} (h : SzE d) : SzP (.list [d]) := fun es e => by
  cases e
  refine ⟨by show 1 ≤ 900; decide, fun x hx => ?_⟩
  rw [List.mem_singleton.mp hx]
  exact h
theorem szs_cons {d : PyData} {ds : List PyData} (h : SzP d) (t : ∀ x ∈ ds, SzP x) : ∀ x ∈ d :: ds, SzP x := fun x hx => by
  rcases List.mem_cons.mp hx with rfl | hx
  · exact h
  · exact t x hx
section
variable {P : Program} {w : World} {K : PySem.W.Frag} {mg : Str → Option Value} {base : Heap}
theorem scLaw : FnScope ["_law_script", "_law_sentence_here", "_law_hand", "_law_plan_here", "_law_some", "_law_thing", "_law_asked", "_law_found"] ["_law_script"] (defScope sLaw) := ⟨rfl, rfl, rfl, by decide +kernel, rfl, by decide +kernel, by decide +kernel⟩
theorem ok_law {f f1 f2 f3 f4 f5 f6 : Addr} {fd d1 d2 d3 d4 d5 d6 : FuncData} (F : Fun K "law" "law" sLaw f fd) (T : BlW mg) (G_law_sentence : Fn P w K mg base 2 "_law_sentence" f1 d1 ["_law_script", "_law_most"] (spSent K)) (G_law_cell_at : Fn P w K mg base 1 "_law_cell_at" f2 d2 ["_law_script", "_law_k"] (spCell K))
    (G_law_plan : Fn P w K mg base 2 "_law_plan" f3 d3 ["_law_script", "_law_sentence_here", "_law_hand"] (spPlanL K)) (G_law_bent : Fn P w K mg base 2 "_law_bent" f4 d4 ["_law_plan_here", "_law_cell"] spBentP) (Gis_plan : Fn P w K mg base 6 "is_plan" f5 d5 ["sentence", "hand", "plan"] spPlanB) (G_law_good : Fn P w K mg base 2 "_law_good" f6 d6 ["_law_sentence_here", "_law_hand", "_law_plan_here"] spGood) :
    FnOk P w K mg base CX0 7 f fd ["_law_script"] (spLaw K) := by
  have sc := scLaw
  refine F.ok scLaw (fun vs H Q E h => ?_) (fun cdv A outer s H vs Q E hr h => ?_)
  · obtain ⟨a, ns, rfl, _⟩ := h
    rfl
  obtain ⟨a, ns, rfl, hS, hl, q⟩ := h
  have hu := hr.units
  refine ⟨_, (pss_cons (ps_set (i := 1) sc.nd rfl (Or.inl rfl) (pcall G_law_sentence hr (by omega) rfl (pa_cons (pv 0) (pa_cons pe_int pa_nil))))
    (pss_cons (ps_set (i := 2) sc.nd rfl (Or.inl rfl) (pe_ix ix_seq (pe_lst (pa_cons pe_str (pa_cons pe_str pa_nil))) (pe_op op_mod (pcall G_law_cell_at hr (by omega) rfl (pa_cons (pv 0) (pa_cons pe_int pa_nil))) pe_int) (fun _ _ => rfl)))
    (pss_cons (ps_set (i := 3) sc.nd rfl (Or.inl rfl) (pcall G_law_plan hr (by omega) rfl (pa_cons (pv 0) (pa_cons (pv 1) (pa_cons (pv 2) pa_nil)))))
    (pss_cons (ps_set (i := 4) sc.nd rfl (Or.inl rfl) (pe_lst (pa_cons (pv 3) (pa_cons (pcall G_law_bent hr (by omega) rfl (pa_cons (pv 3) (pa_cons (pe_op op_fdiv (pcall G_law_cell_at hr (by omega) rfl (pa_cons (pv 0) (pa_cons pe_int pa_nil))) pe_int) pa_nil))) (pa_cons (pcall G_law_bent hr (by omega) rfl (pa_cons (pv 3) (pa_cons (pe_op op_fdiv (pcall G_law_cell_at hr (by omega) rfl (pa_cons (pv 0) (pa_cons pe_int pa_nil))) pe_int) pa_nil))) pa_nil)))))
    (pss_cons (ps_for PassesOwn.never rfl (pi_list (pe_opi op_cat (pv 4) (PEi.lst (PAi.cons (PEi.mk pe_non) (PAi.cons (PEi.lst PAi.nil) (PAi.cons (PEi.mk (pe_tup pa_nil)) (PAi.cons (PEi.lst (PAi.cons (PEi.mk pe_non) PAi.nil (fun _ _ z => nomatch z))) (PAi.cons (PEi.lst (PAi.cons (PEi.mk (pe_tup pa_nil)) PAi.nil (fun _ _ z => nomatch z))) (PAi.cons (PEi.mk pe_int) (PAi.cons (PEi.mk pe_str) (PAi.cons (PEi.lst (PAi.cons (PEi.lst PAi.nil) PAi.nil (fun _ _ z => nomatch z))) (PAi.cons (PEi.lst (PAi.cons (PEi.mk (pe_tup (pa_cons pe_int (pa_cons (pe_lst pa_nil) (pa_cons pe_int pa_nil))))) PAi.nil (fun _ _ z => nomatch z))) (PAi.cons (PEi.mk pe_bl) PAi.nil (fun _ _ z => nomatch z)) (fun _ _ z => nomatch z)) (fun _ _ z => nomatch z)) (fun _ _ z => nomatch z)) (fun _ _ z => nomatch z)) (fun _ _ z => nomatch z)) (fun _ _ z => nomatch z)) (fun _ _ z => nomatch z)) (fun _ _ z => nomatch z)) (fun _ _ z => nomatch z))))) (pg_name (i := 5) sc.nd rfl (Or.inl rfl))
      (pss_one (ps_for PassesOwn.never rfl (pi_list (pe_lst (pa_cons pe_str (pa_cons pe_str pa_nil)))) (pg_name (i := 6) sc.nd rfl (Or.inl rfl))
        (pss_cons (ps_set (i := 7) sc.nd rfl (Or.inl rfl) (pcall Gis_plan hr (by omega) rfl (pa_cons (pv 1) (pa_cons (pv 6) (pa_cons (pv 5) pa_nil)))))
        (pss_one (ps_if (PW.pt (pw_or (pt_not (pt_val (pe_callB call_isinst rfl T.isinstance PyProof.Rows.boot_isinstance (pa_cons (pv 7) (pa_cons (pe_bltn (v := .ty "bool") rfl T.bool PyProof.Rows.boot_bool rfl) pa_nil))))) (pw_or1 (pt_cmpR (op_neA hu) (pv 7) (pcall G_law_good hr (by omega) rfl (pa_cons (pv 1) (pa_cons (pv 6) (pa_cons (pv 5) pa_nil)))) (nomark _))))) (pss_one (ps_ret pe_bl)) pss_nil))))))
    (pss_one (ps_ret (pe_cmpR (op_eqA hu) (pv 3) (pcall G_law_plan hr (by omega) rfl (pa_cons (pv 0) (pa_cons (pv 1) (pa_cons (pv 2) pa_nil)))) (nomark _))))))))), ?_⟩
  refine ⟨_, rfl, a, ns, 8, rfl, hS, hl, (by decide), (by decide), fun p t cs H1 k1 hd ok _ => ?_⟩
  have htl := ok.len
  obtain ⟨pp, qa, zs, ep, h1, h2, h3⟩ := sent_inv hd
  cases ep
  have t9 : t.length ≤ 900 := by omega
  refine ⟨(by show 2 ≤ sizeLine; decide), fun lh hlh => ?_⟩
  have k2 := same_new hlh (.lst [.str (Str.ofString "spoiler"), .str (Str.ofString "wisher")])
  have k02 := k1.trans k2
  have c0 := Int.emod_nonneg (cellF ns 2) (show (2 : Int) ≠ 0 by decide)
  have c1 := Int.emod_lt_of_pos (cellF ns 2) (show (0 : Int) < 2 by decide)
  refine ⟨_, rfl, a, ns, 2, rfl, k02.seq hS, (by decide), _, _, rfl, rfl, (show (0 : Int) < 2 by decide), .inl ⟨lh, _, _, _, rfl, rfl, SqL.of upd_same, hand_at _ (by omega), ?_⟩⟩
  generalize decide (cellF ns 2 % 2 = 1) = hw
  have p2 := k2 _ _ h1
  generalize upd H1 lh (.lst [.str (Str.ofString "spoiler"), .str (Str.ofString "wisher")]) = H2 at k2 k02 p2
  refine ⟨_, rfl, _, rfl, _, rfl, a, p, ns, t, _, hw, rfl, k02.seq hS, p2, (by omega), fun l H3 k3 rl => ?_⟩
  have k03 := k02.trans k3
  have p3 := k3 _ _ p2
  rw [planD_ents] at rl
  obtain ⟨o1, o2⟩ := ents_ok (ns := ns) (hw := hw) (t := t) (by omega)
  refine ⟨_, rfl, _, rfl, _, rfl, a, ns, 40, rfl, k03.seq hS, (by decide), _, _, rfl, rfl, ⟨by decide, by decide⟩, l, entsF ns t hw, _, rfl, rl, o1, o2, fun v1 H4 e1 k4 r1 s1 => ?_⟩
  have k04 := k03.trans k4
  have rl4 := RD_mono k4 _ _ rl
  refine ⟨_, rfl, _, rfl, a, ns, 41, rfl, k04.seq hS, (by decide), _, _, rfl, rfl, ⟨by decide, by decide⟩, l, entsF ns t hw, _, rfl, rl4, o1, o2, fun v2 H5 e2 k5 r2 s2 => ?_⟩
  refine ⟨(by show 3 ≤ sizeLine; decide), fun sm hsm => ?_⟩
  have k6 := same_new hsm (.lst [.ref l, v1, v2])
  have s6 : upd H5 sm (.lst [.ref l, v1, v2]) sm = some (.lst [.ref l, v1, v2]) := upd_same
  generalize upd H5 sm (.lst [.ref l, v1, v2]) = H6 at k6 s6
  refine ⟨_, rfl, ?_⟩
  refine ⟨(by show 0 ≤ sizeLine; decide), fun a1 ha1 => ?_⟩
  have k7 := same_new ha1 (.lst [])
  have s7 : upd H6 a1 (.lst []) a1 = some (.lst []) := upd_same
  generalize upd H6 a1 (.lst []) = H7 at k7 s7
  refine ⟨(by show 0 ≤ sizeLine; decide), fun a2 ha2 => ?_⟩
  have k8 := same_new ha2 (.tup [])
  have s8 : upd H7 a2 (.tup []) a2 = some (.tup []) := upd_same
  generalize upd H7 a2 (.tup []) = H8 at k8 s8
  refine ⟨(by show 1 ≤ sizeLine; decide), fun a3 ha3 => ?_⟩
  have k9 := same_new ha3 (.lst [.non])
  have s9 : upd H8 a3 (.lst [.non]) a3 = some (.lst [.non]) := upd_same
  generalize upd H8 a3 (.lst [.non]) = H9 at k9 s9
  refine ⟨(by show 0 ≤ sizeLine; decide), fun a4 ha4 => ?_⟩
  have k10 := same_new ha4 (.tup [])
  have s10 : upd H9 a4 (.tup []) a4 = some (.tup []) := upd_same
  generalize upd H9 a4 (.tup []) = H10 at k10 s10
  refine ⟨(by show 1 ≤ sizeLine; decide), fun a5 ha5 => ?_⟩
  have k11 := same_new ha5 (.lst [.ref a4])
  have s11 : upd H10 a5 (.lst [.ref a4]) a5 = some (.lst [.ref a4]) := upd_same
  generalize upd H10 a5 (.lst [.ref a4]) = H11 at k11 s11
  refine ⟨(by show 0 ≤ sizeLine; decide), fun a6 ha6 => ?_⟩
  have k12 := same_new ha6 (.lst [])
  have s12 : upd H11 a6 (.lst []) a6 = some (.lst []) := upd_same
  generalize upd H11 a6 (.lst []) = H12 at k12 s12
  refine ⟨(by show 1 ≤ sizeLine; decide), fun a7 ha7 => ?_⟩
  have k13 := same_new ha7 (.lst [.ref a6])
  have s13 : upd H12 a7 (.lst [.ref a6]) a7 = some (.lst [.ref a6]) := upd_same
  generalize upd H12 a7 (.lst [.ref a6]) = H13 at k13 s13
  refine ⟨(by show 0 ≤ sizeLine; decide), fun a8 ha8 => ?_⟩
  have k14 := same_new ha8 (.lst [])
  have s14 : upd H13 a8 (.lst []) a8 = some (.lst []) := upd_same
  generalize upd H13 a8 (.lst []) = H14 at k14 s14
  refine ⟨(by show 3 ≤ sizeLine; decide), fun a9 ha9 => ?_⟩
  have k15 := same_new ha9 (.tup [.int 1, .ref a8, .int 1])
  have s15 : upd H14 a9 (.tup [.int 1, .ref a8, .int 1]) a9 = some (.tup [.int 1, .ref a8, .int 1]) := upd_same
  generalize upd H14 a9 (.tup [.int 1, .ref a8, .int 1]) = H15 at k15 s15
  refine ⟨(by show 1 ≤ sizeLine; decide), fun a10 ha10 => ?_⟩
  have k16 := same_new ha10 (.lst [.ref a9])
  have s16 : upd H15 a10 (.lst [.ref a9]) a10 = some (.lst [.ref a9]) := upd_same
  generalize upd H15 a10 (.lst [.ref a9]) = H16 at k16 s16
  refine ⟨(by show 10 ≤ sizeLine; decide), fun a11 ha11 => ?_⟩
  have k17 := same_new ha11 (.lst [.non, .ref a1, .ref a2, .ref a3, .ref a5, .int 0, .str (Str.ofString "a"), .ref a7, .ref a10, .bl true])
  have s17 : upd H16 a11 (.lst [.non, .ref a1, .ref a2, .ref a3, .ref a5, .int 0, .str (Str.ofString "a"), .ref a7, .ref a10, .bl true]) a11 = some (.lst [.non, .ref a1, .ref a2, .ref a3, .ref a5, .int 0, .str (Str.ofString "a"), .ref a7, .ref a10, .bl true]) := upd_same
  generalize upd H16 a11 (.lst [.non, .ref a1, .ref a2, .ref a3, .ref a5, .int 0, .str (Str.ofString "a"), .ref a7, .ref a10, .bl true]) = H17 at k17 s17
  refine ⟨sm, a11, [.ref l, v1, v2], [.non, .ref a1, .ref a2, .ref a3, .ref a5, .int 0, .str (Str.ofString "a"), .ref a7, .ref a10, .bl true], rfl, rfl, (k7.trans (k8.trans (k9.trans (k10.trans (k11.trans (k12.trans (k13.trans (k14.trans (k15.trans (k16.trans k17)))))))))) _ _ s6, s17, (by show 13 ≤ sizeLine; decide), fun lc hlc => ?_⟩
  have k18 := same_new hlc (.lst ([.ref l, v1, v2] ++ [.non, .ref a1, .ref a2, .ref a3, .ref a5, .int 0, .str (Str.ofString "a"), .ref a7, .ref a10, .bl true]))
  have s18 : upd H17 lc (.lst ([.ref l, v1, v2] ++ [.non, .ref a1, .ref a2, .ref a3, .ref a5, .int 0, .str (Str.ofString "a"), .ref a7, .ref a10, .bl true])) lc = some (.lst [.ref l, v1, v2, .non, .ref a1, .ref a2, .ref a3, .ref a5, .int 0, .str (Str.ofString "a"), .ref a7, .ref a10, .bl true]) := upd_same
  generalize upd H17 lc (.lst ([.ref l, v1, v2] ++ [.non, .ref a1, .ref a2, .ref a3, .ref a5, .int 0, .str (Str.ofString "a"), .ref a7, .ref a10, .bl true])) = H18 at k18 s18
  have rds : RDs H18 [.list ((entsF ns t hw).map fun e => entD e.1 e.2.1 e.2.2), e1, e2, .none, .list [], .tuple [], .list [.none], .list [.tuple []], .int 0, .str (Str.ofString "a"), .list [.list []], .list [.tuple [.int 1, .list [], .int 1]], .bool true] [.ref l, v1, v2, .non, .ref a1, .ref a2, .ref a3, .ref a5, .int 0, .str (Str.ofString "a"), .ref a7, .ref a10, .bl true] :=
    RDs_cons (RD_mono (k4.trans (k5.trans (k6.trans (k7.trans (k8.trans (k9.trans (k10.trans (k11.trans (k12.trans (k13.trans (k14.trans (k15.trans (k16.trans (k17.trans k18)))))))))))))) _ _ rl) (RDs_cons (RD_mono (k5.trans (k6.trans (k7.trans (k8.trans (k9.trans (k10.trans (k11.trans (k12.trans (k13.trans (k14.trans (k15.trans (k16.trans (k17.trans k18))))))))))))) _ _ r1) (RDs_cons (RD_mono (k6.trans (k7.trans (k8.trans (k9.trans (k10.trans (k11.trans (k12.trans (k13.trans (k14.trans (k15.trans (k16.trans (k17.trans k18)))))))))))) _ _ r2) (RDs_cons RD_none (RDs_cons (RD_list ((k8.trans (k9.trans (k10.trans (k11.trans (k12.trans (k13.trans (k14.trans (k15.trans (k16.trans (k17.trans k18)))))))))) _ _ s7) RDs_nil) (RDs_cons (RD_tup ((k9.trans (k10.trans (k11.trans (k12.trans (k13.trans (k14.trans (k15.trans (k16.trans (k17.trans k18))))))))) _ _ s8) RDs_nil) (RDs_cons (RD_list ((k10.trans (k11.trans (k12.trans (k13.trans (k14.trans (k15.trans (k16.trans (k17.trans k18)))))))) _ _ s9) (RDs_cons RD_none RDs_nil)) (RDs_cons (RD_list ((k12.trans (k13.trans (k14.trans (k15.trans (k16.trans (k17.trans k18)))))) _ _ s11) (RDs_cons (RD_tup ((k11.trans (k12.trans (k13.trans (k14.trans (k15.trans (k16.trans (k17.trans k18))))))) _ _ s10) RDs_nil) RDs_nil)) (RDs_cons (RD_int 0) (RDs_cons (RD_str _) (RDs_cons (RD_list ((k14.trans (k15.trans (k16.trans (k17.trans k18)))) _ _ s13) (RDs_cons (RD_list ((k13.trans (k14.trans (k15.trans (k16.trans (k17.trans k18))))) _ _ s12) RDs_nil) RDs_nil)) (RDs_cons (RD_list ((k17.trans k18) _ _ s16) (RDs_cons (RD_tup ((k16.trans (k17.trans k18)) _ _ s15) (RDs_cons (RD_int 1) (RDs_cons (RD_list ((k15.trans (k16.trans (k17.trans k18))) _ _ s14) RDs_nil) (RDs_cons (RD_int 1) RDs_nil)))) RDs_nil)) (RDs_cons (RD_bool true) RDs_nil))))))))))))
  have szs : ∀ d ∈ ([.list ((entsF ns t hw).map fun e => entD e.1 e.2.1 e.2.2), e1, e2, .none, .list [], .tuple [], .list [.none], .list [.tuple []], .int 0, .str (Str.ofString "a"), .list [.list []], .list [.tuple [.int 1, .list [], .int 1]], .bool true] : List PyData), SzP d :=
    szs_cons (ents_sz o1 o2) (szs_cons s1 (szs_cons s2 (szs_cons szp_none (szs_cons szp_nil (szs_cons (fun _ e => nomatch e) (szs_cons (szp_one fun _ _ _ e => nomatch e) (szs_cons (szp_one fun _ _ _ e => nomatch e) (szs_cons (fun _ e => nomatch e) (szs_cons (fun _ e => nomatch e) (szs_cons (szp_one fun _ _ _ e => nomatch e) (szs_cons (szp_one fun a b c e rs er => by
      cases e
      cases er
      exact ⟨Nat.zero_le _, fun _ h => nomatch h⟩) (szs_cons (fun _ e => nomatch e) fun _ h => nomatch h))))))))))))
  have kk : Same H3 H18 := k4.trans (k5.trans (k6.trans (k7.trans (k8.trans (k9.trans (k10.trans (k11.trans (k12.trans (k13.trans (k14.trans (k15.trans (k16.trans (k17.trans k18)))))))))))))
  have p18 := kk _ _ p3
  have rl18 := RD_mono kk _ _ rl
  have k018 := k03.trans kk
  clear k4 k5 k6 r1 r2
  generalize [PyData.list ((entsF ns t hw).map fun e => entD e.1 e.2.1 e.2.2), e1, e2, .none, .list [], .tuple [], .list [.none], .list [.tuple []], .int 0, .str (Str.ofString "a"), .list [.list []], .list [.tuple [.int 1, .list [], .int 1]], .bool true] = ds at rds szs
  generalize hxs : [.ref l, v1, v2, .non, .ref a1, .ref a2, .ref a3, .ref a5, .int 0, .str (Str.ofString "a"), .ref a7, .ref a10, .bl true] = xs at rds s18
  have hxl : xs.length = 13 := by rw [← hxs]; rfl
  clear hxs
  refine ⟨lc, rfl, ⟨_, SqL.of s18⟩, for_list (K := K) (a := lc) (xs := xs) (fun i σ G => ∃ (x5 x6 x7 : Option V), σ = [some (.ref a), some (.ref p), some (.str (handS hw)), some (.ref l), some (.ref sm), x5, x6, x7] ∧ Same H18 G)
    ⟨none, none, none, rfl, Same.refl _⟩ (fun i σ G _ hp => by obtain ⟨_, _, _, _, k⟩ := hp; exact SqL.of (k _ _ s18)) ?_ ?_⟩
  · rintro i x σ G hx ⟨x5, x6, x7, rfl, kG⟩
    have hil : i < xs.length := (List.getElem?_eq_some_iff.mp hx).1
    have hdl := RDs_len rds
    have rx := RD_mono kG _ _ (RDs_get rds hx)
    have sx : SzP (ds.getD i .none) := szs _ (by
      rw [List.getD_eq_getElem?_getD, List.getElem?_eq_getElem (by omega)]
      exact List.getElem_mem _)
    generalize ds.getD i .none = d at rx sx
    refine ⟨(by show 2 ≤ sizeLine; decide), fun l2 hl2 => ?_⟩
    have kG2 := same_new hl2 (.lst [.str (Str.ofString "spoiler"), .str (Str.ofString "wisher")])
    have sG2 : upd G l2 (.lst [.str (Str.ofString "spoiler"), .str (Str.ofString "wisher")]) l2 = some (.lst ([handS false, handS true].map V.str)) := upd_same
    generalize upd G l2 (.lst [.str (Str.ofString "spoiler"), .str (Str.ofString "wisher")]) = G2 at kG2 sG2
    have rx2 := RD_mono kG2 _ _ rx
    have p22 := (kG.trans kG2) _ _ p18
    refine ⟨l2, rfl, ⟨_, SqL.of sG2⟩, for_list (K := K) (a := l2) (xs := [handS false, handS true].map V.str) (fun j σ G3 => ∃ (x6 x7 : Option V), σ = [some (.ref a), some (.ref p), some (.str (handS hw)), some (.ref l), some (.ref sm), some x, x6, x7] ∧ Same G2 G3)
      ⟨_, _, rfl, Same.refl _⟩ (fun j σ G3 _ hp => by obtain ⟨_, _, _, k⟩ := hp; exact SqL.of (k _ _ sG2)) ?_ ?_⟩
    · rintro j y σ G3 hy ⟨x6, x7, rfl, k3'⟩
      obtain ⟨hb, rfl⟩ : ∃ hb : Bool, y = .str (handS hb) := by
        have hy' := List.mem_of_getElem? hy
        simp only [List.map_cons, List.map_nil, List.mem_cons, List.not_mem_nil, or_false] at hy'
        rcases hy' with e | e
        · exact ⟨false, e⟩
        · exact ⟨true, e⟩
      have rx3 := RD_mono k3' _ _ rx2
      have p33 := k3' _ _ p22
      refine ⟨_, rfl, _, rfl, _, rfl, p, t, _, hb, x, d, rfl, p33, t9, rx3, sx, fun G4 k4' => ?_⟩
      refine ⟨_, rfl, _, _, "bool", _, rfl, TyOf.bl _, kit_one kb_bool.2.1, _, rfl, iteF ?_⟩
      refine ⟨_, rfl, _, rfl, _, rfl, _, rfl, p, t, _, hb, x, d, rfl, k4' _ _ p33, t9, RD_mono k4' _ _ rx3, sx, fun G5 k5' => .inl ⟨rfl, _, rfl, ?_⟩⟩
      rw [good_plan]
      exact neF rfl ⟨_, _, rfl, k3'.trans (k4'.trans k5')⟩
    · rintro σ G3 ⟨x6, x7, rfl, k3'⟩
      exact ⟨_, _, _, rfl, kG.trans (kG2.trans k3')⟩
  · rintro σ G ⟨x5, x6, x7, rfl, kG⟩
    refine ⟨_, rfl, _, rfl, _, rfl, _, rfl, a, p, ns, t, _, hw, rfl, (k018.trans kG).seq hS, kG _ _ p18, (by omega), fun l9 G9 k9 r9 => ?_⟩
    rw [planD_ents] at r9
    exact oEq_self (RD_mono (kG.trans k9) _ _ rl18) r9 (ents_nice _).shaped (q _)
end
end K31


namespace K31
open PySem L2 OD
theorem all_mk {l : PySem.W.OpenLaw} {w : World} {K : PySem.W.Frag} {h : Heap} {mg : Str → Option Value} {fa f1 f2 f3 f4 f5 f6 f7 f8 f9 f10 f11 f12 f13 f14 f15 f16 f17 f18 f19 : Addr} (X : K.In h) (G : h.Ns mainGlobals mg) (hfa : mg "law" = some (.ref fa))
    {od1 an1 od2 an2 od3 an3 od4 an4 od5 an5 od6 an6 od7 an7 od8 an8 od9 an9 od10 an10 od11 an11 od12 an12 od13 an13 od14 an14 od15 an15 od16 an16 od17 an17 od18 an18 od19 an19 : Option Addr} {sl1 sl2 sl3 sl4 sl5 sl6 sl7 sl8 sl9 sl10 sl11 sl12 sl13 sl14 sl15 sl16 sl17 sl18 sl19 : Array (Option Value)} {oc1 kV1 dc1 pm1 cd1 ct1 oc2 kV2 dc2 pm2 cd2 ct2 oc3 kV3 dc3 pm3 cd3 ct3 oc4 kV4 dc4 pm4 cd4 ct4 oc5 kV5 dc5 pm5 cd5 ct5 oc6 kV6 dc6 pm6 cd6 ct6 oc7 kV7 dc7 pm7 cd7 ct7 oc8 kV8 dc8 pm8 cd8 ct8 oc9 kV9 dc9 pm9 cd9 ct9 oc10 kV10 dc10 pm10 cd10 ct10 oc11 kV11 dc11 pm11 cd11 ct11 oc12 kV12 dc12 pm12 cd12 ct12 oc13 kV13 dc13 pm13 cd13 ct13 oc14 kV14 dc14 pm14 cd14 ct14 oc15 kV15 dc15 pm15 cd15 ct15 oc16 kV16 dc16 pm16 cd16 ct16 oc17 kV17 dc17 pm17 cd17 ct17 oc18 kV18 dc18 pm18 cd18 ct18 oc19 kV19 dc19 pm19 cd19 ct19 : Value}
    (a1 : PySem.W.nsIn K mainGlobals "is_number" = some (some (.ref f1))) (l1 : K.lookup f1 = some ⟨oc1, od1, .func (PySem.W.fnOf "is_number" "is_number" (defArgs sNum) (defBody sNum) (defScope sNum) .none kV1 dc1 pm1 an1 cd1 ct1), sl1⟩) (c1 : PySem.W.codeIn K cd1 "is_number" = true) (k1 : PySem.W.keepIn K (.ref f1) = true)
    (a2 : PySem.W.nsIn K mainGlobals "is_set" = some (some (.ref f2))) (l2 : K.lookup f2 = some ⟨oc2, od2, .func (PySem.W.fnOf "is_set" "is_set" (defArgs sSet) (defBody sSet) (defScope sSet) .none kV2 dc2 pm2 an2 cd2 ct2), sl2⟩) (c2 : PySem.W.codeIn K cd2 "is_set" = true) (k2 : PySem.W.keepIn K (.ref f2) = true)
    (a3 : PySem.W.nsIn K mainGlobals "hand_of" = some (some (.ref f3))) (l3 : K.lookup f3 = some ⟨oc3, od3, .func (PySem.W.fnOf "hand_of" "hand_of" (defArgs sHandOf) (defBody sHandOf) (defScope sHandOf) .none kV3 dc3 pm3 an3 cd3 ct3), sl3⟩) (c3 : PySem.W.codeIn K cd3 "hand_of" = true) (k3 : PySem.W.keepIn K (.ref f3) = true)
    (a4 : PySem.W.nsIn K mainGlobals "variables_of" = some (some (.ref f4))) (l4 : K.lookup f4 = some ⟨oc4, od4, .func (PySem.W.fnOf "variables_of" "variables_of" (defArgs sVars) (defBody sVars) (defScope sVars) .none kV4 dc4 pm4 an4 cd4 ct4), sl4⟩) (c4 : PySem.W.codeIn K cd4 "variables_of" = true) (k4 : PySem.W.keepIn K (.ref f4) = true)
    (a5 : PySem.W.nsIn K mainGlobals "is_rule" = some (some (.ref f5))) (l5 : K.lookup f5 = some ⟨oc5, od5, .func (PySem.W.fnOf "is_rule" "is_rule" (defArgs sRule) (defBody sRule) (defScope sRule) .none kV5 dc5 pm5 an5 cd5 ct5), sl5⟩) (c5 : PySem.W.codeIn K cd5 "is_rule" = true) (k5 : PySem.W.keepIn K (.ref f5) = true)
    (a6 : PySem.W.nsIn K mainGlobals "is_rules" = some (some (.ref f6))) (l6 : K.lookup f6 = some ⟨oc6, od6, .func (PySem.W.fnOf "is_rules" "is_rules" (defArgs sRules) (defBody sRules) (defScope sRules) .none kV6 dc6 pm6 an6 cd6 ct6), sl6⟩) (c6 : PySem.W.codeIn K cd6 "is_rules" = true) (k6 : PySem.W.keepIn K (.ref f6) = true)
    (a7 : PySem.W.nsIn K mainGlobals "is_entry" = some (some (.ref f7))) (l7 : K.lookup f7 = some ⟨oc7, od7, .func (PySem.W.fnOf "is_entry" "is_entry" (defArgs sEntry) (defBody sEntry) (defScope sEntry) .none kV7 dc7 pm7 an7 cd7 ct7), sl7⟩) (c7 : PySem.W.codeIn K cd7 "is_entry" = true) (k7 : PySem.W.keepIn K (.ref f7) = true)
    (a8 : PySem.W.nsIn K mainGlobals "is_plan" = some (some (.ref f8))) (l8 : K.lookup f8 = some ⟨oc8, od8, .func (PySem.W.fnOf "is_plan" "is_plan" (defArgs sPlanB) (defBody sPlanB) (defScope sPlanB) .none kV8 dc8 pm8 an8 cd8 ct8), sl8⟩) (c8 : PySem.W.codeIn K cd8 "is_plan" = true) (k8 : PySem.W.keepIn K (.ref f8) = true)
    (a9 : PySem.W.nsIn K mainGlobals "_law_cell_at" = some (some (.ref f9))) (l9 : K.lookup f9 = some ⟨oc9, od9, .func (PySem.W.fnOf "_law_cell_at" "_law_cell_at" (defArgs sCell) (defBody sCell) (defScope sCell) .none kV9 dc9 pm9 an9 cd9 ct9), sl9⟩) (c9 : PySem.W.codeIn K cd9 "_law_cell_at" = true) (k9 : PySem.W.keepIn K (.ref f9) = true)
    (a10 : PySem.W.nsIn K mainGlobals "_law_mix" = some (some (.ref f10))) (l10 : K.lookup f10 = some ⟨oc10, od10, .func (PySem.W.fnOf "_law_mix" "_law_mix" (defArgs sMix) (defBody sMix) (defScope sMix) .none kV10 dc10 pm10 an10 cd10 ct10), sl10⟩) (c10 : PySem.W.codeIn K cd10 "_law_mix" = true) (k10 : PySem.W.keepIn K (.ref f10) = true)
    (a11 : PySem.W.nsIn K mainGlobals "_law_drawn" = some (some (.ref f11))) (l11 : K.lookup f11 = some ⟨oc11, od11, .func (PySem.W.fnOf "_law_drawn" "_law_drawn" (defArgs sDrawn) (defBody sDrawn) (defScope sDrawn) .none kV11 dc11 pm11 an11 cd11 ct11), sl11⟩) (c11 : PySem.W.codeIn K cd11 "_law_drawn" = true) (k11 : PySem.W.keepIn K (.ref f11) = true)
    (a12 : PySem.W.nsIn K mainGlobals "_law_sentence" = some (some (.ref f12))) (l12 : K.lookup f12 = some ⟨oc12, od12, .func (PySem.W.fnOf "_law_sentence" "_law_sentence" (defArgs sSent) (defBody sSent) (defScope sSent) .none kV12 dc12 pm12 an12 cd12 ct12), sl12⟩) (c12 : PySem.W.codeIn K cd12 "_law_sentence" = true) (k12 : PySem.W.keepIn K (.ref f12) = true)
    (a13 : PySem.W.nsIn K mainGlobals "_law_own" = some (some (.ref f13))) (l13 : K.lookup f13 = some ⟨oc13, od13, .func (PySem.W.fnOf "_law_own" "_law_own" (defArgs sOwn) (defBody sOwn) (defScope sOwn) .none kV13 dc13 pm13 an13 cd13 ct13), sl13⟩) (c13 : PySem.W.codeIn K cd13 "_law_own" = true) (k13 : PySem.W.keepIn K (.ref f13) = true)
    (a14 : PySem.W.nsIn K mainGlobals "_law_plan" = some (some (.ref f14))) (l14 : K.lookup f14 = some ⟨oc14, od14, .func (PySem.W.fnOf "_law_plan" "_law_plan" (defArgs sPlanL) (defBody sPlanL) (defScope sPlanL) .none kV14 dc14 pm14 an14 cd14 ct14), sl14⟩) (c14 : PySem.W.codeIn K cd14 "_law_plan" = true) (k14 : PySem.W.keepIn K (.ref f14) = true)
    (a15 : PySem.W.nsIn K mainGlobals "_law_is_set" = some (some (.ref f15))) (l15 : K.lookup f15 = some ⟨oc15, od15, .func (PySem.W.fnOf "_law_is_set" "_law_is_set" (defArgs sLawSet) (defBody sLawSet) (defScope sLawSet) .none kV15 dc15 pm15 an15 cd15 ct15), sl15⟩) (c15 : PySem.W.codeIn K cd15 "_law_is_set" = true) (k15 : PySem.W.keepIn K (.ref f15) = true)
    (a16 : PySem.W.nsIn K mainGlobals "_law_good" = some (some (.ref f16))) (l16 : K.lookup f16 = some ⟨oc16, od16, .func (PySem.W.fnOf "_law_good" "_law_good" (defArgs sGood) (defBody sGood) (defScope sGood) .none kV16 dc16 pm16 an16 cd16 ct16), sl16⟩) (c16 : PySem.W.codeIn K cd16 "_law_good" = true) (k16 : PySem.W.keepIn K (.ref f16) = true)
    (a17 : PySem.W.nsIn K mainGlobals "_law_bent_rule" = some (some (.ref f17))) (l17 : K.lookup f17 = some ⟨oc17, od17, .func (PySem.W.fnOf "_law_bent_rule" "_law_bent_rule" (defArgs sBentR) (defBody sBentR) (defScope sBentR) .none kV17 dc17 pm17 an17 cd17 ct17), sl17⟩) (c17 : PySem.W.codeIn K cd17 "_law_bent_rule" = true) (k17 : PySem.W.keepIn K (.ref f17) = true)
    (a18 : PySem.W.nsIn K mainGlobals "_law_bent" = some (some (.ref f18))) (l18 : K.lookup f18 = some ⟨oc18, od18, .func (PySem.W.fnOf "_law_bent" "_law_bent" (defArgs sBentP) (defBody sBentP) (defScope sBentP) .none kV18 dc18 pm18 an18 cd18 ct18), sl18⟩) (c18 : PySem.W.codeIn K cd18 "_law_bent" = true) (k18 : PySem.W.keepIn K (.ref f18) = true)
    (a19 : PySem.W.nsIn K mainGlobals "law" = some (some (.ref f19))) (l19 : K.lookup f19 = some ⟨oc19, od19, .func (PySem.W.fnOf "law" "law" (defArgs sLaw) (defBody sLaw) (defScope sLaw) .none kV19 dc19 pm19 an19 cd19 ct19), sl19⟩) (c19 : PySem.W.codeIn K cd19 "law" = true) (k19 : PySem.W.keepIn K (.ref f19) = true)
    (z0 : PySem.W.nsIn K mainGlobals "len" = some none)
    (z1 : PySem.W.nsIn K mainGlobals "range" = some none)
    (z2 : PySem.W.nsIn K mainGlobals "tuple" = some none)
    (z3 : PySem.W.nsIn K mainGlobals "sorted" = some none)
    (z4 : PySem.W.nsIn K mainGlobals "isinstance" = some none)
    (z5 : PySem.W.nsIn K mainGlobals "int" = some none)
    (z6 : PySem.W.nsIn K mainGlobals "bool" = some none)
    (z7 : PySem.W.nsIn K mainGlobals "list" = some none)
    (z8 : PySem.W.nsIn K mainGlobals "abs" = some none)
    (z9 : PySem.W.nsIn K mainGlobals "all" = some none)
    (z10 : PySem.W.nsIn K mainGlobals "zip" = some none)
    (z11 : PySem.W.nsIn K mainGlobals "set" = some none)
    {tW tS : Tok} (zW : PySem.W.nsIn K mainGlobals "WISHER" = some (some (.str (Str.ofString "wisher") tW))) (zS : PySem.W.nsIn K mainGlobals "SPOILER" = some (some (.str (Str.ofString "spoiler") tS)))
    : ∃ fd : FuncData, (∀ (s : Shared) (v : Value), BindsTo s fd ⟨[v], []⟩ [("_law_script", v)]) ∧ ∀ base : Heap, K.In base → base.Ns mainGlobals mg → FnOk l.prog w K mg base CX0 7 fa fd ["_law_script"] (spLaw K) := by
  have e := hfa.symm.trans (PySem.W.mg_of X G a19)
  cases e
  have F1 := fun_mk (st := sNum) l1 c1 k1
  have b1 := F1.binds (ps := ["thing"]) fun _ _ _ _ _ _ us hl => match us, hl with | [_], _ => rfl
  have m1 := PySem.W.mg_of X G a1
  have F2 := fun_mk (st := sSet) l2 c2 k2
  have b2 := F2.binds (ps := ["thing", "most"]) fun _ _ _ _ _ _ us hl => match us, hl with | [_, _], _ => rfl
  have m2 := PySem.W.mg_of X G a2
  have F3 := fun_mk (st := sHandOf) l3 c3 k3
  have b3 := F3.binds (ps := ["sentence", "variable"]) fun _ _ _ _ _ _ us hl => match us, hl with | [_, _], _ => rfl
  have m3 := PySem.W.mg_of X G a3
  have F4 := fun_mk (st := sVars) l4 c4 k4
  have b4 := F4.binds (ps := ["sentence", "hand"]) fun _ _ _ _ _ _ us hl => match us, hl with | [_, _], _ => rfl
  have m4 := PySem.W.mg_of X G a4
  have F5 := fun_mk (st := sRule) l5 c5 k5
  have b5 := F5.binds (ps := ["thing", "variable"]) fun _ _ _ _ _ _ us hl => match us, hl with | [_, _], _ => rfl
  have m5 := PySem.W.mg_of X G a5
  have F6 := fun_mk (st := sRules) l6 c6 k6
  have b6 := F6.binds (ps := ["thing", "variable"]) fun _ _ _ _ _ _ us hl => match us, hl with | [_, _], _ => rfl
  have m6 := PySem.W.mg_of X G a6
  have F7 := fun_mk (st := sEntry) l7 c7 k7
  have b7 := F7.binds (ps := ["thing", "variable"]) fun _ _ _ _ _ _ us hl => match us, hl with | [_, _], _ => rfl
  have m7 := PySem.W.mg_of X G a7
  have F8 := fun_mk (st := sPlanB) l8 c8 k8
  have b8 := F8.binds (ps := ["sentence", "hand", "plan"]) fun _ _ _ _ _ _ us hl => match us, hl with | [_, _, _], _ => rfl
  have m8 := PySem.W.mg_of X G a8
  have F9 := fun_mk (st := sCell) l9 c9 k9
  have b9 := F9.binds (ps := ["_law_script", "_law_k"]) fun _ _ _ _ _ _ us hl => match us, hl with | [_, _], _ => rfl
  have m9 := PySem.W.mg_of X G a9
  have F10 := fun_mk (st := sMix) l10 c10 k10
  have b10 := F10.binds (ps := ["_law_cell", "_law_k", "_law_mixed"]) fun _ _ _ _ _ _ us hl => match us, hl with | [_, _, _], _ => rfl
  have m10 := PySem.W.mg_of X G a10
  have F11 := fun_mk (st := sDrawn) l11 c11 k11
  have b11 := F11.binds (ps := ["_law_number", "_law_count"]) fun _ _ _ _ _ _ us hl => match us, hl with | [_, _], _ => rfl
  have m11 := PySem.W.mg_of X G a11
  have F12 := fun_mk (st := sSent) l12 c12 k12
  have b12 := F12.binds (ps := ["_law_script", "_law_most"]) fun _ _ _ _ _ _ us hl => match us, hl with | [_, _], _ => rfl
  have m12 := PySem.W.mg_of X G a12
  have F13 := fun_mk (st := sOwn) l13 c13 k13
  have b13 := F13.binds (ps := ["_law_turns", "_law_hand", "_law_literal"]) fun _ _ _ _ _ _ us hl => match us, hl with | [_, _, _], _ => rfl
  have m13 := PySem.W.mg_of X G a13
  have F14 := fun_mk (st := sPlanL) l14 c14 k14
  have b14 := F14.binds (ps := ["_law_script", "_law_sentence_here", "_law_hand"]) fun _ _ _ _ _ _ us hl => match us, hl with | [_, _, _], _ => rfl
  have m14 := PySem.W.mg_of X G a14
  have F15 := fun_mk (st := sLawSet) l15 c15 k15
  have b15 := F15.binds (ps := ["_law_thing", "_law_most"]) fun _ _ _ _ _ _ us hl => match us, hl with | [_, _], _ => rfl
  have m15 := PySem.W.mg_of X G a15
  have F16 := fun_mk (st := sGood) l16 c16 k16
  have b16 := F16.binds (ps := ["_law_sentence_here", "_law_hand", "_law_plan_here"]) fun _ _ _ _ _ _ us hl => match us, hl with | [_, _, _], _ => rfl
  have m16 := PySem.W.mg_of X G a16
  have F17 := fun_mk (st := sBentR) l17 c17 k17
  have b17 := F17.binds (ps := ["_law_rule", "_law_cell", "_law_variable"]) fun _ _ _ _ _ _ us hl => match us, hl with | [_, _, _], _ => rfl
  have m17 := PySem.W.mg_of X G a17
  have F18 := fun_mk (st := sBentP) l18 c18 k18
  have b18 := F18.binds (ps := ["_law_plan_here", "_law_cell"]) fun _ _ _ _ _ _ us hl => match us, hl with | [_, _], _ => rfl
  have m18 := PySem.W.mg_of X G a18
  have F19 := fun_mk (st := sLaw) l19 c19 k19
  have TG : BlG mg := ⟨PySem.W.mg_none_of X G z0, PySem.W.mg_none_of X G z1, PySem.W.mg_none_of X G z2, PySem.W.mg_none_of X G z3⟩
  have TS : BlS mg := ⟨PySem.W.mg_none_of X G z4, PySem.W.mg_none_of X G z5, PySem.W.mg_none_of X G z6, PySem.W.mg_none_of X G z2, PySem.W.mg_none_of X G z7, PySem.W.mg_none_of X G z8, PySem.W.mg_none_of X G z0, PySem.W.mg_none_of X G z9, PySem.W.mg_none_of X G z1, PySem.W.mg_none_of X G z10, PySem.W.mg_none_of X G z3, PySem.W.mg_none_of X G z11⟩
  have TH : BlH mg := ⟨PySem.W.mg_none_of X G z0, ⟨_, PySem.W.mg_of X G zW, ⟨_, rfl⟩⟩, ⟨_, PySem.W.mg_of X G zS, ⟨_, rfl⟩⟩⟩
  have TW : BlW mg := ⟨PySem.W.mg_none_of X G z4, PySem.W.mg_none_of X G z6⟩
  refine ⟨PySem.W.fnOf "law" "law" (defArgs sLaw) (defBody sLaw) (defScope sLaw) .none kV19 dc19 pm19 an19 cd19 ct19, fun s v => .of_eq rfl, fun base _ _ => ?_⟩
  have G1 : Fn l.prog w K mg base _ "is_number" _ _ _ _ := ⟨ok_num F1 TS, b1, k1, m1⟩
  have G2 : Fn l.prog w K mg base _ "is_set" _ _ _ _ := ⟨ok_set F2 TS G1, b2, k2, m2⟩
  have G3 : Fn l.prog w K mg base _ "hand_of" _ _ _ _ := ⟨ok_handof F3 TH, b3, k3, m3⟩
  have G4 : Fn l.prog w K mg base _ "variables_of" _ _ _ _ := ⟨ok_vars F4 TS G3, b4, k4, m4⟩
  have G5 : Fn l.prog w K mg base _ "is_rule" _ _ _ _ := ⟨ok_rule F5 TS G2, b5, k5, m5⟩
  have G6 : Fn l.prog w K mg base _ "is_rules" _ _ _ _ := ⟨ok_rules F6 TS G5, b6, k6, m6⟩
  have G7 : Fn l.prog w K mg base _ "is_entry" _ _ _ _ := ⟨ok_entry F7 TS G1 G6, b7, k7, m7⟩
  have G8 : Fn l.prog w K mg base _ "is_plan" _ _ _ _ := ⟨ok_planb F8 TS G4 G7, b8, k8, m8⟩
  have G9 : Fn l.prog w K mg base _ "_law_cell_at" _ _ _ _ := ⟨ok_cell F9 TG, b9, k9, m9⟩
  have G10 : Fn l.prog w K mg base _ "_law_mix" _ _ _ _ := ⟨ok_mix F10, b10, k10, m10⟩
  have G11 : Fn l.prog w K mg base _ "_law_drawn" _ _ _ _ := ⟨ok_drawn F11 TG, b11, k11, m11⟩
  have G12 : Fn l.prog w K mg base _ "_law_sentence" _ _ _ _ := ⟨ok_sent F12 TG G9 G10 G11, b12, k12, m12⟩
  have G13 : Fn l.prog w K mg base _ "_law_own" _ _ _ _ := ⟨ok_own F13 TS, b13, k13, m13⟩
  have G14 : Fn l.prog w K mg base _ "_law_plan" _ _ _ _ := ⟨ok_planl F14 TS G9 G10 G13, b14, k14, m14⟩
  have G15 : Fn l.prog w K mg base _ "_law_is_set" _ _ _ _ := ⟨ok_lawset F15 TS, b15, k15, m15⟩
  have G16 : Fn l.prog w K mg base _ "_law_good" _ _ _ _ := ⟨ok_good F16 TS G13 G15, b16, k16, m16⟩
  have G17 : Fn l.prog w K mg base _ "_law_bent_rule" _ _ _ _ := ⟨ok_bentr F17 TS, b17, k17, m17⟩
  have G18 : Fn l.prog w K mg base _ "_law_bent" _ _ _ _ := ⟨ok_bentp F18 TS G17, b18, k18, m18⟩
  exact ok_law F19 TW G12 G9 G14 G18 G8 G16
theorem walk {l : PySem.W.OpenLaw} {q : Program} {loose : List Str} {XP : (Str → Option Value) → Heap → Prop} {YP : World → Heap → Prop} {d : DefRec} {K : Params → PySem.W.Frag} (hn : l.most = some 63) (hdf : d.params.defaults = [])
    (hY : ∀ (w : World) (h : Heap), YP w h → (K w.params).In h)
    (F : ∀ (w : World) (mg : Str → Option Value) (fa : Addr) (h : Heap), (K w.params).In h → h.Ns mainGlobals mg → mg d.name = some (.ref fa) →
      ∃ fd : FuncData, (∀ (s : Shared) (u : Value), BindsTo s fd ⟨[u], []⟩ [("_law_script", u)]) ∧ ∀ base : Heap, (K w.params).In base → base.Ns mainGlobals mg → FnOk l.prog w (K w.params) mg base CX0 7 fa fd ["_law_script"] (spLaw (K w.params))) :
    PySem.W.WalkO q loose XP YP l.row.toRowW d [] (fun f vs => PySem.call f vs) :=
  L2.walk_of (n := 63) (k := 7) (x := "_law_script") (CX := fun _ => CX0) (sp := fun w => spLaw (K w.params)) hn (by decide) hdf ⟨rfl, by decide, by decide⟩ hY F (fun _ _ a ns hl _ hS => ⟨a, ns, rfl, hS, hl, fun _ => rfl⟩) fun _ _ _ _ _ z => z
end K31
open PySem PySem.W PyProof.Rows
set_option maxRecDepth 100000 in
set_option maxHeartbeats 0 in
theorem PySem.Challenge.cw_oathduel_k31_what_is_a_plan_holds : PySem.Challenge.rw_oathduel_k31_what_is_a_plan.Holds := by
  w_on; o_law; k_head; (case hw => w_witness2)
  k_fill
  refine K31.walk (l := PySem.Challenge.rw_oathduel_k31_what_is_a_plan) rfl rfl (fun w h Y => PySem.W.kIn_of Y) ?F
  case F =>
    intro w mg fa h KX G hmg
    refine' K31.all_mk KX G hmg ?a1 ?l1 ?c1 ?k1 ?a2 ?l2 ?c2 ?k2 ?a3 ?l3 ?c3 ?k3 ?a4 ?l4 ?c4 ?k4 ?a5 ?l5 ?c5 ?k5 ?a6 ?l6 ?c6 ?k6 ?a7 ?l7 ?c7 ?k7 ?a8 ?l8 ?c8 ?k8 ?a9 ?l9 ?c9 ?k9 ?a10 ?l10 ?c10 ?k10 ?a11 ?l11 ?c11 ?k11 ?a12 ?l12 ?c12 ?k12 ?a13 ?l13 ?c13 ?k13 ?a14 ?l14 ?c14 ?k14 ?a15 ?l15 ?c15 ?k15 ?a16 ?l16 ?c16 ?k16 ?a17 ?l17 ?c17 ?k17 ?a18 ?l18 ?c18 ?k18 ?a19 ?l19 ?c19 ?k19 ?z0 ?z1 ?z2 ?z3 ?z4 ?z5 ?z6 ?z7 ?z8 ?z9 ?z10 ?z11 ?zW ?zS
    (case a1 => k_is)
    (case l1 => k_is)
    (case c1 => k_is)
    (case k1 => k_is)
    (case a2 => k_is)
    (case l2 => k_is)
    (case c2 => k_is)
    (case k2 => k_is)
    (case a3 => k_is)
    (case l3 => k_is)
    (case c3 => k_is)
    (case k3 => k_is)
    (case a4 => k_is)
    (case l4 => k_is)
    (case c4 => k_is)
    (case k4 => k_is)
    (case a5 => k_is)
    (case l5 => k_is)
    (case c5 => k_is)
    (case k5 => k_is)
    (case a6 => k_is)
    (case l6 => k_is)
    (case c6 => k_is)
    (case k6 => k_is)
    (case a7 => k_is)
    (case l7 => k_is)
    (case c7 => k_is)
    (case k7 => k_is)
    (case a8 => k_is)
    (case l8 => k_is)
    (case c8 => k_is)
    (case k8 => k_is)
    (case a9 => k_is)
    (case l9 => k_is)
    (case c9 => k_is)
    (case k9 => k_is)
    (case a10 => k_is)
    (case l10 => k_is)
    (case c10 => k_is)
    (case k10 => k_is)
    (case a11 => k_is)
    (case l11 => k_is)
    (case c11 => k_is)
    (case k11 => k_is)
    (case a12 => k_is)
    (case l12 => k_is)
    (case c12 => k_is)
    (case k12 => k_is)
    (case a13 => k_is)
    (case l13 => k_is)
    (case c13 => k_is)
    (case k13 => k_is)
    (case a14 => k_is)
    (case l14 => k_is)
    (case c14 => k_is)
    (case k14 => k_is)
    (case a15 => k_is)
    (case l15 => k_is)
    (case c15 => k_is)
    (case k15 => k_is)
    (case a16 => k_is)
    (case l16 => k_is)
    (case c16 => k_is)
    (case k16 => k_is)
    (case a17 => k_is)
    (case l17 => k_is)
    (case c17 => k_is)
    (case k17 => k_is)
    (case a18 => k_is)
    (case l18 => k_is)
    (case c18 => k_is)
    (case k18 => k_is)
    (case a19 => k_is)
    (case l19 => k_is)
    (case c19 => k_is)
    (case k19 => k_is)
    (case z0 => k_is)
    (case z1 => k_is)
    (case z2 => k_is)
    (case z3 => k_is)
    (case z4 => k_is)
    (case z5 => k_is)
    (case z6 => k_is)
    (case z7 => k_is)
    (case z8 => k_is)
    (case z9 => k_is)
    (case z10 => k_is)
    (case z11 => k_is)
    (case zW => k_is)
    (case zS => k_is)


