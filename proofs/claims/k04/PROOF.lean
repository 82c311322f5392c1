import PyProof.Rows.All
import Wide.All
import OpenK.AllK
import Wide.FinOn
import Lean
import PyProof.EqAt
import PyProof.EqKinds
import PyProof.TupleCall
import PyProof.NeKinds
import PySem.Challenge.RW_latewrite_k04_whole_texts_read_again
set_option Elab.async false
set_option linter.all false
set_option maxRecDepth 100000
/-! THE HAND LAYER, for ints, bools, texts, own classes, DICTS (int and text keys), calls, loops. Paste it whole ahead of your own text; what your proof does not reach may be deleted. -/
namespace L2
open PySem PySem.Spec PyProof.Rows

/-- a key: an int or a str -/
abbrev Key := Sum Int Str
def keyIs : Key → Value → Bool
  | .inl k, v => Value.isInt k v
  | .inr x, v => Value.isStrOf x v
def keyH (w : World) : Key → Int
  | .inl k => hashInt k
  | .inr x => hashStr w x
theorem keyIs_shape : ∀ {k : Key} {v : Value}, keyIs k v = true → (∃ i t, k = Sum.inl i ∧ v = Value.int i t) ∨ (∃ x t, k = Sum.inr x ∧ v = Value.str x t)
  | .inl i, v, h => by
    obtain ⟨t, e⟩ := Value.isInt_shape (k := i) (v := v) h
    exact .inl ⟨i, t, rfl, e⟩
  | .inr x, v, h => by
    obtain ⟨t, e⟩ := Value.isStrOf_shape (x := x) (v := v) h
    exact .inr ⟨x, t, rfl, e⟩
theorem keyIs_int (i : Int) (t : Tok) : keyIs (.inl i) (.int i t) = true := by simp [keyIs, Value.isInt]
theorem keyIs_str (x : Str) (t : Tok) : keyIs (.inr x) (.str x t) = true := by simp [keyIs, Value.isStrOf]
theorem key_ll (a b : Int) : decide ((Sum.inl a : Key) = Sum.inl b) = (a == b) := by
  by_cases e : a = b
  · subst e; simp
  · have h : ¬ (Sum.inl a : Key) = Sum.inl b := fun q => e (Sum.inl.inj q)
    rw [decide_eq_false h]
    exact (beq_eq_false_iff_ne.mpr e).symm
theorem key_rr (a b : Str) : decide ((Sum.inr a : Key) = Sum.inr b) = decide (a = b) := by
  by_cases e : a = b
  · subst e; simp
  · have h : ¬ (Sum.inr a : Key) = Sum.inr b := fun q => e (Sum.inr.inj q)
    rw [decide_eq_false h, decide_eq_false e]
theorem key_lr (a : Int) (b : Str) : decide ((Sum.inl a : Key) = Sum.inr b) = false := decide_eq_false (fun q => nomatch q)
theorem key_rl (a : Str) (b : Int) : decide ((Sum.inr a : Key) = Sum.inl b) = false := decide_eq_false (fun q => nomatch q)

def mixKind (prog : Program) (w : World) : PySem.KeyKind prog w Key where
  is := keyIs
  hash := keyH w
  inj := fun v a b ha hb => by
    rcases keyIs_shape ha with ⟨i, t, rfl, rfl⟩ | ⟨x, t, rfl, rfl⟩
    · rcases keyIs_shape hb with ⟨j, u, rfl, e⟩ | ⟨y, u, rfl, e⟩
      · injection e with e1 _; rw [e1]
      · exact nomatch e
    · rcases keyIs_shape hb with ⟨j, u, rfl, e⟩ | ⟨y, u, rfl, e⟩
      · exact nomatch e
      · injection e with e1 _; rw [e1]
  byValue := fun k v h => by
    rcases keyIs_shape h with ⟨i, t, rfl, rfl⟩ | ⟨x, t, rfl, rfl⟩ <;> rfl
  pyHash := fun hv h => by
    rcases keyIs_shape hv with ⟨i, t, rfl, rfl⟩ | ⟨x, t, rfl, rfl⟩
    · exact wpAny_pyHash_int h
    · exact wpAny_pyHash_str h
  eqBool := fun hu hv h => by
    rcases keyIs_shape hu with ⟨i, t, rfl, rfl⟩ | ⟨x, t, rfl, rfl⟩
    · rcases keyIs_shape hv with ⟨j, u, rfl, rfl⟩ | ⟨y, u, rfl, rfl⟩
      · rw [key_ll] at h; exact wpAny_eqBool_int h
      · rw [key_lr] at h; exact SeqAt.EqAt.int_str i t y u _ _ _ _ h
    · rcases keyIs_shape hv with ⟨j, u, rfl, rfl⟩ | ⟨y, u, rfl, rfl⟩
      · rw [key_rl] at h; exact SeqAt.EqAt.str_int x t j u _ _ _ _ h
      · rw [key_rr] at h; exact wpAny_eqBool_str h
  «strs» := fun k x t v h => by
    rcases keyIs_shape h with ⟨i, u, rfl, e⟩ | ⟨y, u, rfl, e⟩
    · exact nomatch e
    · injection e with e1 _
      subst e1
      cases v <;> rfl

theorem mixKind_is (prog : Program) (w : World) (k : Key) (v : Value) : (mixKind prog w).is k v = keyIs k v := rfl
theorem mixKind_int (prog : Program) (w : World) (i : Int) (t : Tok) : (mixKind prog w).is (.inl i) (.int i t) = true := keyIs_int i t
theorem mixKind_str (prog : Program) (w : World) (x : Str) (t : Tok) : (mixKind prog w).is (.inr x) (.str x t) = true := keyIs_str x t
end L2

namespace L2
open PySem PySem.Spec PyProof.Rows

/-- a value, without the heap -/
inductive V where
  | non | bl (b : Bool) | int (i : Int) | str (x : Str) | byt (b : Array UInt8) | flt (b : UInt64) | ref (a : Addr) | ty (n : String)
  deriving DecidableEq

def RelV : V → Value → Prop
  | .non, u => u = Value.none
  | .bl b, u => u = Value.bool b
  | .int i, u => ∃ t, u = Value.int i t
  | .str x, u => ∃ t, u = Value.str x t
  | .byt b, u => ∃ t, u = Value.bytes b t
  | .flt b, u => ∃ t, u = Value.float b t
  | .ref a, u => u = Value.ref a
  | .ty n, u => u = Value.type n

abbrev Vals : List V → List Value → Prop := Paired RelV
theorem Vals.length {xs : List V} {us : List Value} (r : Vals xs us) : xs.length = us.length := Paired.length r
theorem Vals.get : ∀ {xs : List V} {us : List Value} {i : Nat} {x : V}, Vals xs us → xs[i]? = some x → ∃ u, us[i]? = some u ∧ RelV x u
  | _, _, _, _, .nil, e => by simp at e
  | _, _, 0, _, .cons r _, e => by simp at e; subst e; exact ⟨_, rfl, r⟩
  | _, _, i + 1, x, .cons _ t, e => by
    obtain ⟨u, h1, h2⟩ := Vals.get (i := i) (x := x) t (by simpa using e)
    exact ⟨u, by simpa using h1, h2⟩
theorem Vals.set {x : V} {u : Value} (r : RelV x u) : ∀ {xs : List V} {us : List Value} (i : Nat), Vals xs us → Vals (xs.set i x) (us.set i u)
  | _, _, _, .nil => .nil
  | _, _, 0, .cons _ t => .cons r t
  | _, _, i + 1, .cons q t => .cons q (Vals.set r i t)
theorem Vals.append : ∀ {xs ys : List V} {us ws : List Value}, Vals xs us → Vals ys ws → Vals (xs ++ ys) (us ++ ws)
  | _, _, _, _, .nil, s => s
  | _, _, _, _, .cons r t, s => .cons r (Vals.append t s)
theorem Vals.take : ∀ {xs : List V} {us : List Value} (n : Nat), Vals xs us → Vals (xs.take n) (us.take n)
  | _, _, 0, _ => .nil
  | _, _, _ + 1, .nil => .nil
  | _, _, n + 1, .cons r t => .cons r (Vals.take n t)
theorem Vals.drop : ∀ {xs : List V} {us : List Value} (n : Nat), Vals xs us → Vals (xs.drop n) (us.drop n)
  | _, _, 0, r => r
  | _, _, _ + 1, .nil => .nil
  | _, _, n + 1, .cons _ t => Vals.drop n t
theorem Vals.none_of : ∀ {xs : List V} {us : List Value} {i : Nat}, Vals xs us → xs[i]? = none → us[i]? = none := fun {xs us i} r e => by
  have h1 := r.length
  have h2 : xs.length ≤ i := List.getElem?_eq_none_iff.mp e
  exact List.getElem?_eq_none_iff.mpr (by omega)

def RelO : Option V → Option Value → Prop
  | some v, some u => RelV v u
  | none, none => True
  | _, _ => False
def KV {κ : Type} : List (κ × V) → List (κ × Value) → Prop := Paired fun (p : κ × V) (q : κ × Value) => p.1 = q.1 ∧ RelV p.2 q.2

/-- a key of a dict (00_mix): an int or a text -/
def kV : Key → V
  | .inl i => .int i
  | .inr x => .str x

/-- what stands at a tracked address -/
inductive HO where
  /-- a list -/
  | lst (xs : List V)
  /-- a tuple (never changes) -/
  | tup (xs : List V)
  /-- a dict whose keys are ints and texts; one whose keys are tuples of ints and texts (the empty one is both) -/
  | dK (kvs : List (Key × V)) | dT (kvs : List (List Key × V))
  /-- a set of ints: its members, its size -/
  | set (S : Int → Bool) (n : Nat)
  /-- an instance of the class at C, its dict at dx, its attributes -/
  | ins (C dx : Addr) (fs : List (Str × V))
  /-- the dict of the instance at x -/
  | own (x : Addr)
  /-- the dict of an exception -/
  | xd (fs : List (Str × V))
  /-- a bound method, f of x -/
  | met (f x : Addr)
  /-- a range object lo, lo + 1, .. below hi -/
  | rng (lo hi : Int)
  /-- a thing that is known to the object (the script; a dict while a loop walks it): read, never written while it is so -/
  | frz (o : Obj) (u : HO)
  /-- a code object's table -/
  | tbl (ps : Array Value)
  /-- any other thing, by what is true of its one object (a def of one's own: SetO a S n := HO.ext fun h => ..) -/
  | ext (φ : Heap → Prop)

abbrev Hp := Addr → Option HO
def upd (H : Hp) (a : Addr) (o : HO) : Hp := fun b => if b = a then some o else H b
theorem upd_same {H : Hp} {a : Addr} {o : HO} : upd H a o a = some o := by unfold upd; rw [if_pos rfl]
theorem upd_ne {H : Hp} {a b : Addr} {o : HO} (h : b ≠ a) : upd H a o b = H b := by unfold upd; rw [if_neg h]
theorem upd_upd {H : Hp} {a : Addr} {o u : HO} : upd (upd H a o) a u = upd H a u := by
  funext b; unfold upd; split <;> rfl
/-- two objects of different content stand apart -/
theorem ne_of {H : Hp} {a b : Addr} {o u : HO} (h : H a = some o) (h' : H b = some u) (d : o ≠ u) : a ≠ b := by
  intro e; subst e; rw [h] at h'; exact d (Option.some.inj h')
theorem ne_of_none {H : Hp} {a b : Addr} {o : HO} (h : H a = some o) (h' : H b = none) : a ≠ b := by
  intro e; subst e; rw [h] at h'; cases h'

section
variable (P : Program) (w : World)
def ObjOk (H : Hp) (h : Heap) (a : Addr) : HO → Prop
  | .lst xs => xs.length ≤ sizeLine ∧ ∃ (its : List Value) (n : Nat), Vals xs its ∧ h.get? a = some { cls := .type "list", data := .seq its.toArray n }
  | .tup xs => xs.length ≤ sizeLine ∧ ∃ its : List Value, Vals xs its ∧ IsTup h a its.toArray
  | .dK kvs => kvs.length ≤ sizeLine ∧ (a == sysModules) = false ∧ ∃ vs, KV kvs vs ∧ h.DictOf (mixKind P w) a vs
  | .dT kvs => kvs.length ≤ sizeLine ∧ (a == sysModules) = false ∧ ∃ xs : List (List Key × Addr × Value),
      Paired (fun (p : List Key × V) (q : List Key × Addr × Value) => p.1 = q.1 ∧ H q.2.1 = some (.tup (p.1.map kV)) ∧ RelV p.2 q.2.2) kvs xs ∧
      ∃ o es ep, h.get? a = some o ∧ o.ExactDict ∧ o.data = .dict es ep ∧ es.toList = xs.map (entryOfKey (tupleKind (mixKind P w))) ∧ (xs.map (·.1)).Nodup
  | .set S n => h.SetOf (intKind P w) a S n
  | .ins C dx fs => H dx = some (.own a) ∧ fs.length ≤ 1000 ∧ dx ≠ a ∧ h.get? a = some (PySem.W.instObj C dx) ∧
      ∃ mA, h.Ns1 dx mA ∧ (∀ f, RelO (fs.lookup f) (mA f)) ∧ PySem.Within mA (fs.map (·.1))
  | .own _ => ∃ o, h.get? a = some o
  | .xd fs => ∃ mA, h.Ns1 a mA ∧ ∀ f, RelO (fs.lookup f) (mA f)
  | .rng lo hi => ∃ t u v, h.get? a = some { cls := .type "range", data := .fields #[.int lo t, .int hi u, .int 1 v] }
  | .frz o u => h.get? a = some o ∧ ObjOk H h a u
  | .tbl ps => h.get? a = some { cls := .none, data := .fields ps }
  | .met f x => h.get? a = some (PySem.W.methodObj (.ref f) (.ref x))
  | .ext φ => φ h ∧ (∃ o, h.get? a = some o) ∧ ∀ h1 h2 : Heap, φ h1 → (∀ o, h1.get? a = some o → h2.get? a = some o) → φ h2
/-- the abstract heap is held -/
def HOk (H : Hp) (h : Heap) : Prop := ∀ a o, H a = some o → ObjOk P w H h a o
end

section
variable {P : Program} {w : World} {H H' : Hp} {h h' : Heap} {a : Addr} {o : HO}
theorem ObjOk.lt (x : ObjOk P w H h a o) : a < h.objs.size := by
  cases o with
  | lst xs => obtain ⟨_, _, _, _, e⟩ := x; exact Heap.lt_size e
  | tup xs => obtain ⟨_, _, _, p⟩ := x; exact p.lt
  | dK kvs => obtain ⟨_, _, _, _, o, _, _, e, _⟩ := x; exact Heap.lt_size e
  | dT kvs => obtain ⟨_, _, _, _, o, _, _, e, _⟩ := x; exact Heap.lt_size e
  | set S n => obtain ⟨o, _, _, _, e, _⟩ := x; exact Heap.lt_size e
  | ins C dx fs => obtain ⟨_, _, _, e, _⟩ := x; exact Heap.lt_size e
  | own y => obtain ⟨_, e⟩ := x; exact Heap.lt_size e
  | xd fs => obtain ⟨_, ⟨_, _, _, e, _⟩, _⟩ := x; exact Heap.lt_size e
  | rng lo hi => obtain ⟨_, _, _, e⟩ := x; exact Heap.lt_size e
  | frz ob u => obtain ⟨e, _⟩ := x; exact Heap.lt_size e
  | tbl ps => exact Heap.lt_size (show h.get? a = some _ from x)
  | met f y => exact Heap.lt_size (show h.get? a = some _ from x)
  | ext φ => obtain ⟨_, ⟨_, e⟩, _⟩ := x; exact Heap.lt_size e
theorem Paired.mapP {α β : Type} {F G : α → β → Prop} : ∀ {l₁ : List α} {l₂ : List β}, Paired F l₁ l₂ → (∀ a b, F a b → G a b) → Paired G l₁ l₂
  | _, _, .nil, _ => .nil
  | _, _, .cons r t, f => .cons (f _ _ r) (Paired.mapP t f)
theorem Paired.imp' {α β : Type} {F G : α → β → Prop} (f : ∀ a b, F a b → G a b) {l₁ : List α} {l₂ : List β} (r : Paired F l₁ l₂) : Paired G l₁ l₂ := Paired.mapP r f
/-- what an object's description leans on: its own object, its own dict, the tuples -/
theorem ObjOk.stay (x : ObjOk P w H h a o) (k : ∀ b u, (b = a ∨ H b = some (.own a)) → h.get? b = some u → h'.get? b = some u)
    (ho : ∀ b, H b = some (.own a) → H' b = some (.own a)) (ht : ∀ b xs, H b = some (.tup xs) → H' b = some (.tup xs)) : ObjOk P w H' h' a o := by
  induction o with
  | lst xs => obtain ⟨z, its, n, r, e⟩ := x; exact ⟨z, its, n, r, k _ _ (.inl rfl) e⟩
  | tup xs => obtain ⟨z, its, r, ob, e, c⟩ := x; exact ⟨z, its, r, ob, k _ _ (.inl rfl) e, c⟩
  | dK kvs => obtain ⟨z, y, vs, r, ob, es, ep, e, c⟩ := x; exact ⟨z, y, vs, r, ob, es, ep, k _ _ (.inl rfl) e, c⟩
  | dT kvs =>
    obtain ⟨z, y, xs, r, ob, es, ep, e, c⟩ := x
    exact ⟨z, y, xs, Paired.mapP r fun p q z => ⟨z.1, ht _ _ z.2.1, z.2.2⟩, ob, es, ep, k _ _ (.inl rfl) e, c⟩
  | set S n => obtain ⟨ob, es, ep, t, e, c⟩ := x; exact ⟨ob, es, ep, t, k _ _ (.inl rfl) e, c⟩
  | ins C dx fs =>
    obtain ⟨d, z, ne, e, mA, ⟨od, es, ep, e2, c⟩, r⟩ := x
    exact ⟨ho _ d, z, ne, k _ _ (.inl rfl) e, mA, ⟨od, es, ep, k _ _ (.inr d) e2, c⟩, r⟩
  | own y => obtain ⟨ob, e⟩ := x; exact ⟨ob, k _ _ (.inl rfl) e⟩
  | xd fs => obtain ⟨mA, ⟨od, es, ep, e, c⟩, r⟩ := x; exact ⟨mA, ⟨od, es, ep, k _ _ (.inl rfl) e, c⟩, r⟩
  | rng lo hi => obtain ⟨t, u, v, e⟩ := x; exact ⟨t, u, v, k _ _ (.inl rfl) e⟩
  | frz ob u ih => obtain ⟨e, q⟩ := x; exact ⟨k _ _ (.inl rfl) e, ih q⟩
  | tbl ps =>
    have e : h.get? a = some { cls := .none, data := .fields ps } := x
    show h'.get? a = some { cls := .none, data := .fields ps }
    exact k a _ (.inl rfl) e
  | met f y =>
    have e : h.get? a = some (PySem.W.methodObj (.ref f) (.ref y)) := x
    show h'.get? a = some (PySem.W.methodObj (.ref f) (.ref y))
    exact k a _ (.inl rfl) e
  | ext φ => obtain ⟨p, ⟨o, e⟩, st⟩ := x; exact ⟨st _ _ p fun o q => k _ _ (.inl rfl) q, ⟨o, k _ _ (.inl rfl) e⟩, st⟩
theorem HOk.lt (x : HOk P w H h) (e : H a = some o) : a < h.objs.size := (x a o e).lt
theorem HOk.fresh (x : HOk P w H h) (e : h.objs.size ≤ a) : H a = none := by
  cases q : H a with
  | none => rfl
  | some u => exact absurd (Nat.lt_of_lt_of_le (x.lt q) e) (Nat.lt_irrefl _)
/-- every object of the heap is kept -/
theorem HOk.kept (x : HOk P w H h) (k : ∀ b u, h.get? b = some u → h'.get? b = some u) : HOk P w H h' := fun a o e =>
  (x a o e).stay (fun b u _ q => k b u q) (fun _ q => q) fun _ _ q => q
/-- a new object is laid and tracked -/
theorem HOk.laid (x : HOk P w H h) (k : ∀ b u, h.get? b = some u → h'.get? b = some u) (hp : h.objs.size ≤ a) (new : ObjOk P w (upd H a o) h' a o) : HOk P w (upd H a o) h' := fun b u e => by
  have hn := x.fresh hp
  by_cases hb : b = a
  · subst hb; rw [upd_same] at e; cases e; exact new
  · rw [upd_ne hb] at e
    exact (x b u e).stay (fun c v _ q => k c v q) (fun c q => by rw [upd_ne (ne_of_none q hn)]; exact q) fun c xs q => by rw [upd_ne (ne_of_none q hn)]; exact q
end

/-- what may be read as u: it is u, or a known u -/
def Rd (H : Hp) (a : Addr) (u : HO) : Prop := H a = some u ∨ ∃ o, H a = some (.frz o u)
theorem Rd.of {H : Hp} {a : Addr} {u : HO} (h : H a = some u) : Rd H a u := .inl h
theorem Rd.ok {P : Program} {w : World} {H : Hp} {h : Heap} {a : Addr} {u : HO} (r : Rd H a u) (x : HOk P w H h) : ObjOk P w H h a u := by
  rcases r with r | ⟨o, r⟩
  · exact x a u r
  · obtain ⟨_, q⟩ := x a _ r
    exact q
/-- what may be written -/
def Mut : Option HO → Prop
  | some (.lst _) => True
  | some (.dK _) => True
  | some (.dT _) => True
  | some (.set _ _) => True
  | some (.ins _ _ _) => True
  | some (.ext _) => True
  | _ => False
section
variable {P : Program} {w : World} {H : Hp} {h h' : Heap} {x e : Addr} {o' : HO}
/-- the object at e is changed: x itself, or the dict of the instance x -/
theorem HOk.write (ok : HOk P w H h) (mu : Mut (H x)) (he : e = x ∨ H e = some (.own x)) (k : ∀ b u, b ≠ e → h.get? b = some u → h'.get? b = some u) (heo : ∃ u, h'.get? e = some u)
    (new : ObjOk P w (upd H x o') h' x o') : HOk P w (upd H x o') h' := fun b u q => by
  have nown : ∀ c y, H c = some (.own y) → c ≠ x := fun c y r z => by subst z; rw [r] at mu; exact mu
  have ntup : ∀ c xs, H c = some (.tup xs) → c ≠ x := fun c xs r z => by subst z; rw [r] at mu; exact mu
  by_cases hb : b = x
  · subst hb; rw [upd_same] at q; cases q; exact new
  · rw [upd_ne hb] at q
    by_cases hbe : b = e
    · have q' : H b = some (.own x) := by
        rcases he with z | z
        · exact absurd (hbe.trans z) hb
        · rw [hbe]; exact z
      rw [q] at q'; cases q'
      obtain ⟨v, hv⟩ := heo
      exact ⟨v, by rw [hbe]; exact hv⟩
    · refine (ok b u q).stay (fun c v hc r => k c v ?_ r) (fun c r => by rw [upd_ne (nown c b r)]; exact r) fun c xs r => by rw [upd_ne (ntup c xs r)]; exact r
      rcases hc with rfl | hc
      · exact hbe
      · rintro rfl
        rcases he with z | z
        · exact nown c b hc z
        · rw [hc] at z; cases z; exact hb rfl
end

/-! ### kept unless tracked; of the frames at fs (the callers') the slots may change (an exception that passes writes there); of the records at ex (iterators) nothing is said -/
structure Un (fs ex : List Addr) (H H' : Hp) (h h' : Heap) : Prop where
  keep : ∀ b o, h.get? b = some o → H b = none → b ∉ fs → b ∉ ex → h'.get? b = some o
  slot : ∀ b o, h.get? b = some o → H b = none → b ∈ fs → b ∉ ex → ∃ sl, h'.get? b = some { o with slots := sl }
  free : ∀ b o, h.get? b = some o → H b = none → b ∉ ex → H' b = none
  there : ∀ b o, h.get? b = some o → b ∉ ex → ∃ o', h'.get? b = some o'
  tups : ∀ b xs, H b = some (.tup xs) → H' b = some (.tup xs)
  frzs : ∀ b o u, H b = some (.frz o u) → H' b = some (.frz o u)
  tbls : ∀ b ps, H b = some (.tbl ps) → ∃ more, H' b = some (.tbl (ps ++ more))
section
variable {fs fs' ex ex' : List Addr} {H H1 H2 : Hp} {h h1 h2 h' : Heap} {a x e : Addr} {o : HO}
theorem Un.any (u : Un fs ex H H1 h h1) {b : Addr} {ob : Obj} (q : h.get? b = some ob) (n : H b = none) (hx : b ∉ ex) : ∃ sl, h1.get? b = some { ob with slots := sl } := by
  by_cases hb : b ∈ fs
  · exact u.slot b ob q n hb hx
  · exact ⟨ob.slots, u.keep b ob q n hb hx⟩
theorem Un.trans (a : Un fs ex H H1 h h1) (b : Un fs ex H1 H2 h1 h2) : Un fs ex H H2 h h2 where
  keep := fun c ob q n hc hx => b.keep c ob (a.keep c ob q n hc hx) (a.free c ob q n hx) hc hx
  slot := fun c ob q n hc hx => by
    obtain ⟨sl, e1⟩ := a.slot c ob q n hc hx
    obtain ⟨sl', e2⟩ := b.slot c _ e1 (a.free c ob q n hx) hc hx
    exact ⟨sl', e2⟩
  free := fun c ob q n hx => by
    obtain ⟨o', e1⟩ := a.there c ob q hx
    exact b.free c o' e1 (a.free c ob q n hx) hx
  there := fun c ob q hx => by
    obtain ⟨o', e1⟩ := a.there c ob q hx
    exact b.there c o' e1 hx
  tups := fun c xs q => b.tups c xs (a.tups c xs q)
  frzs := fun c ob xs q => b.frzs c ob xs (a.frzs c ob xs q)
  tbls := fun c ps q => by
    obtain ⟨m1, e1⟩ := a.tbls c ps q
    obtain ⟨m2, e2⟩ := b.tbls c _ e1
    exact ⟨m1 ++ m2, by rw [e2, Array.append_assoc]⟩
theorem Un.kept (k : ∀ b u, h.get? b = some u → h'.get? b = some u) : Un fs ex H H h h' :=
  ⟨fun b ob q _ _ _ => k b ob q, fun b ob q _ _ _ => ⟨ob.slots, k b ob q⟩, fun _ _ _ n _ => n, fun b ob q _ => ⟨ob, k b ob q⟩, fun _ _ q => q, fun _ _ _ q => q, fun _ ps q => ⟨#[], by rw [q]; simp⟩⟩
theorem Un.refl : Un fs ex H H h h := Un.kept fun _ _ q => q
theorem Un.laid (k : ∀ b u, h.get? b = some u → h'.get? b = some u) (hp : h.objs.size ≤ a) (hn : H a = none) : Un fs ex H (upd H a o) h h' where
  keep := fun b u q _ _ _ => k b u q
  slot := fun b u q _ _ _ => ⟨u.slots, k b u q⟩
  free := fun b u q n _ => by rw [upd_ne (Nat.ne_of_lt (Nat.lt_of_lt_of_le (Heap.lt_size q) hp))]; exact n
  there := fun b u q _ => ⟨u, k b u q⟩
  tups := fun b xs q => by rw [upd_ne (ne_of_none q hn)]; exact q
  frzs := fun b u xs q => by rw [upd_ne (ne_of_none q hn)]; exact q
  tbls := fun b ps q => ⟨#[], by rw [upd_ne (ne_of_none q hn), q]; simp⟩
theorem Un.write (mu : Mut (H x)) (he : e = x ∨ H e = some (.own x)) (k : ∀ b u, b ≠ e → h.get? b = some u → h'.get? b = some u) (heo : ∃ u, h'.get? e = some u) : Un fs ex H (upd H x o) h h' := by
  have hx : ∀ b, H b = none → b ≠ x := fun b n z => by subst z; rw [n] at mu; exact mu
  have hb : ∀ b, H b = none → b ≠ e := fun b n z => by
    subst z
    rcases he with r | r
    · exact hx b n r
    · rw [n] at r; cases r
  have hm : ∀ b u, H b = some u → ¬ Mut (some u) → b ≠ x := fun b u q nm z => by subst z; rw [q] at mu; exact nm mu
  refine ⟨fun b u q n _ _ => k b u (hb b n) q, fun b u q n _ _ => ⟨u.slots, k b u (hb b n) q⟩, fun b u q n _ => by rw [upd_ne (hx b n)]; exact n, fun b u q _ => ?_,
    fun b xs q => by rw [upd_ne (hm b _ q fun z => z)]; exact q, fun b u xs q => by rw [upd_ne (hm b _ q fun z => z)]; exact q, fun b ps q => ⟨#[], by rw [upd_ne (hm b _ q fun z => z), q]; simp⟩⟩
  by_cases hbe : b = e
  · subst hbe; exact heo
  · exact ⟨u, k b u hbe q⟩
theorem Un.mono (u : Un fs ex H H1 h h1) (hs : ∀ b ∈ fs, b ∈ fs') (hx : ∀ b ∈ ex, b ∈ ex') : Un fs' ex' H H1 h h1 :=
  ⟨fun b ob q n hb he => u.keep b ob q n (fun z => hb (hs b z)) fun z => he (hx b z), fun _ _ q n _ he => u.any q n fun z => he (hx _ z), fun b ob q n he => u.free b ob q n fun z => he (hx b z), fun b ob q he => u.there b ob q fun z => he (hx b z), u.tups, u.frzs, u.tbls⟩
end

/-! ### the heap without what is tracked -/
def trk (h : Heap) (H : Hp) : List Addr := (List.range h.objs.size).filter fun a => (H a).isSome
def hidT (h : Heap) (H : Hp) : Heap := PySem.W.hideAll h (trk h H)
theorem hidT_size (h : Heap) (H : Hp) : (hidT h H).objs.size = h.objs.size := PySem.W.hideAll_size _ _
theorem hidT_get {h : Heap} {H : Hp} {b : Addr} {o : Obj} (e : h.get? b = some o) (n : H b = none) : (hidT h H).get? b = some o :=
  PySem.W.hideAll_get _ e fun hm => by
    have q : (H b).isSome = true := (List.mem_filter.mp hm).2
    rw [n] at q; simp at q
theorem of_hidT {h : Heap} {H : Hp} {b : Addr} {o : Obj} (e : (hidT h H).get? b = some o) : h.get? b = some o ∧ H b = none := by
  have e' : h.get? b = some o := PySem.W.of_hideAll (trk h H) e
  refine ⟨e', ?_⟩
  cases q : H b with
  | none => rfl
  | some x =>
    have hm : b ∈ trk h H := List.mem_filter.mpr ⟨List.mem_range.mpr (Heap.lt_size e'), by simp [q]⟩
    have z : (hidT h H).get? b = none := PySem.W.hideAll_none (trk h H) hm
    rw [z] at e; cases e

/-! ### OpenK's ledger, filled with every new object but one -/
def allNews (g h : Heap) (L : Addr) : List (Addr × Obj) := (List.range h.objs.size).filterMap fun a => if a = L ∨ (g.get? a).isSome = true then none else (h.get? a).map fun o => (a, o)
theorem mem_allNews {g h : Heap} {L a : Addr} {o : Obj} (h1 : a ≠ L) (h2 : g.get? a = none) (h3 : h.get? a = some o) : (a, o) ∈ allNews g h L :=
  List.mem_filterMap.mpr ⟨a, List.mem_range.mpr (Heap.lt_size h3), by simp [h1, h2, h3]⟩
theorem of_mem_allNews {g h : Heap} {L : Addr} {p : Addr × Obj} (hp : p ∈ allNews g h L) : p.1 ≠ L ∧ g.get? p.1 = none ∧ h.get? p.1 = some p.2 := by
  obtain ⟨b, _, e⟩ := List.mem_filterMap.mp hp
  split at e
  · cases e
  · rename_i hn
    cases q : h.get? b with
    | none => rw [q] at e; simp at e
    | some u =>
      rw [q] at e
      simp only [Option.map_some, Option.some.injEq] at e
      subst e
      refine ⟨fun z => hn (.inl z), ?_, q⟩
      show g.get? b = none
      cases r : g.get? b with
      | none => rfl
      | some v => exact (hn (.inr (by simp [r]))).elim
def rest (g h : Heap) (L d : Addr) : List (Addr × Obj) := (allNews g h L).filter fun p => decide (p.1 ≠ d)
theorem rest_ne {g h : Heap} {L d : Addr} : ∀ p ∈ rest g h L d, p.1 ≠ d := fun p hp => of_decide_eq_true (List.mem_filter.mp hp).2
theorem mem_rest {g h : Heap} {L d a : Addr} {o : Obj} (h1 : a ≠ L) (h2 : g.get? a = none) (h3 : h.get? a = some o) (h4 : a ≠ d) : (a, o) ∈ rest g h L d :=
  List.mem_filter.mpr ⟨mem_allNews h1 h2 h3, decide_eq_true h4⟩
theorem news_all {g h : Heap} {L : Addr} : News g L h (allNews g h L) := fun p hp => let ⟨a, b, c⟩ := of_mem_allNews hp; ⟨c, a, b⟩
theorem news_at {g h : Heap} {L d : Addr} {o : Obj} (h1 : d ≠ L) (h2 : g.get? d = none) (h3 : h.get? d = some o) : News g L h ((d, o) :: rest g h L d) := fun p hp => by
  rcases List.mem_cons.mp hp with rfl | hp
  · exact ⟨h3, h1, h2⟩
  · exact news_all p (List.mem_filter.mp hp).1
/-- behind a rule that changed d alone: all else but the frame is kept -/
theorem kept_of_news {g h h' : Heap} {L d : Addr} {m : Str → Option Value} (k : ∀ b o, g.get? b = some o → h.get? b = some o) (F : Fr g L h' m) (N : News g L h' (rest g h L d)) :
    ∀ b o, b ≠ L → b ≠ d → h.get? b = some o → h'.get? b = some o := fun b o h1 h2 e => by
  cases q : g.get? b with
  | some u =>
    have := k b u q
    rw [e] at this; cases this
    exact F.keep b _ q
  | none => exact (N (b, o) (mem_rest h1 q e h2)).1
end L2

namespace L2
open PySem PySem.Spec PyProof.Rows

/-- the module's facts, over the base: the heap at the law's entry without what is tracked there -/
structure Mod (K : PySem.W.Frag) (mg : Str → Option Value) (base : Heap) : Prop where
  kin : K.In base
  glob : base.Ns mainGlobals mg
  blt : ∃ mb, base.Ns builtinsNs mb ∧ ∀ x : Str, x ≠ "__name__" → mb x = bootBuiltins x
  nolimit : base.NoLimit

/-- the context: a def's body (or a comprehension's block) running. base: fixed through the whole law; s₀, H₀: the entry; outer: the frames whose slots others may change (a def's callers); stack: all frames that run;
   ex: iterators that were made ahead of the entry and are walked here (a comprehension's); fn: the names whose cells were made at the entry (a def: all; a comprehension's block: its own); calm: not within an except suite; pn: pins that every state bears; xe: what is wanted of an exception that leaves the code -/
structure Cx where
  prog : Program
  w : World
  K : PySem.W.Frag
  mg : Str → Option Value
  base : Heap
  A : Around
  N : List Str
  s₀ : Shared
  H₀ : Hp
  env : Env
  outer : List Env
  stack : List Env
  ex : List Addr
  fn : Str → Bool
  calm : Bool
  pn : List (Addr × Obj)
  xe : Value → Shared → Prop
/-- the callers' frames -/
def frs (l : List Env) : List Addr := l.filterMap (·.frame)
abbrev Cx.fs (X : Cx) : List Addr := frs X.outer

def Vis (sc : Scope) (x : Str) : Prop := sc.names.lookup x = some .local ∨ sc.names.lookup x = some .cell ∨ sc.names.lookup x = some .free
def Loc (sc : Scope) (x : Str) : Prop := sc.names.lookup x = some .local ∨ sc.names.lookup x = some .cell
def Look (env : Env) (h : Heap) (m : Str → Option Value) (x : Str) (u : Value) : Prop :=
  (env.kindOf x = some .local ∧ m x = some u) ∨ ((env.kindOf x = some .cell ∨ env.kindOf x = some .free) ∧ ∃ c, env.cells.lookup x = some c ∧ h.IsCell c (some u))

structure Cx.Ok (X : Cx) : Prop where
  mod : Mod X.K X.mg X.base
  kind : X.env.scope.kind = .function
  glob : X.env.globals = mainGlobals
  blt : X.env.builtins = builtinsNs
  above : X.s₀.heap.objs.size ≤ X.env.locals
  inj : ∀ x y c, X.env.cells.lookup x = some c → X.env.cells.lookup y = some c → x = y
  has : ∀ x, (X.env.kindOf x = some .cell ∨ X.env.kindOf x = some .free) → ∃ c, X.env.cells.lookup x = some c
  cab : ∀ x c, X.fn x = true → X.env.cells.lookup x = some c → X.s₀.heap.objs.size ≤ c
  hd : X.calm = true → X.A.handled = none
  frames : X.A.frames = some X.stack
  stk : X.stack = X.outer ∨ (X.stack = X.env :: X.outer ∧ X.env.frame = some X.env.locals)
  exf : ∀ b ∈ X.ex, b ≠ X.env.locals ∧ ∀ x c, X.env.cells.lookup x = some c → c ≠ b
  bs : ∀ b o, X.base.get? b = some o → X.s₀.heap.get? b = some o ∧ X.H₀ b = none
  bsz : X.base.objs.size ≤ X.s₀.heap.objs.size
  noex : ∀ b o, X.base.get? b = some o → b ∉ X.ex
  exfs : ∀ b ∈ X.ex, b ∉ X.fs
  funs : X.s₀.heap.FunFrames X.base X.outer
  frf : ∀ b ∈ X.fs, X.H₀ b = none

structure Inv (X : Cx) (pins : List (Addr × Obj)) (σ : List (Option V)) (H : Hp) (s : Shared) : Prop where
  ok : X.Ok
  os : s.os = X.s₀.os
  bare : AllBare s.gens
  base : Un X.fs X.ex X.H₀ H X.s₀.heap s.heap
  loc : ∃ m, s.heap.Ns X.env.locals m ∧ ∀ (i : Nat) (x : Str) (v : V), X.N[i]? = some x → σ[i]? = some (some v) → Vis X.env.scope x → ∃ u, RelV v u ∧ Look X.env s.heap m x u
  cell : ∀ x c, X.env.cells.lookup x = some c → ∃ v, s.heap.IsCell c v
  free : H X.env.locals = none
  freeC : ∀ x c, X.env.cells.lookup x = some c → H c = none
  pin : ∀ p ∈ X.pn ++ pins, s.heap.get? p.1 = some p.2 ∧ H p.1 = none ∧ p.1 ≠ X.env.locals ∧ p.1 ∉ X.fs ∧ ∀ v, p.2.data ≠ .cell v
  hok : HOk X.prog X.w H s.heap
  len : σ.length = X.N.length

section
variable {X : Cx} {pins : List (Addr × Obj)} {σ : List (Option V)} {H H' : Hp} {s : Shared} {h' : Heap}

theorem Cx.Ok.nofr (ok : X.Ok) {b : Addr} {o : Obj} (e : X.base.get? b = some o) : b ∉ X.fs := fun hb => by
  have := (ok.funs.mem hb).1
  rw [e] at this; cases this
theorem Inv.bs (I : Inv X pins σ H s) : ∀ b o, X.base.get? b = some o → s.heap.get? b = some o ∧ H b = none := fun b o e =>
  ⟨I.base.keep b o (I.ok.bs b o e).1 (I.ok.bs b o e).2 (I.ok.nofr e) (I.ok.noex b o e), I.base.free b o (I.ok.bs b o e).1 (I.ok.bs b o e).2 (I.ok.noex b o e)⟩
theorem Inv.bk (I : Inv X pins σ H s) : ∀ b o, X.base.get? b = some o → s.heap.get? b = some o := fun b o e => (I.bs b o e).1
theorem Inv.mod (I : Inv X pins σ H s) : Mod X.K X.mg X.base := I.ok.mod
theorem Inv.kIn (I : Inv X pins σ H s) : X.K.In s.heap := I.ok.mod.kin.keeps I.bk
theorem Inv.nolimit (I : Inv X pins σ H s) : s.heap.NoLimit := I.ok.mod.nolimit.keeps I.bk
/-- the frame over the base: for OpenK's rules (K.In X.base is I.mod.kin) -/
theorem Inv.fr (I : Inv X pins σ H s) : ∃ m, Fr X.base X.env.locals s.heap m :=
  let ⟨m, hn, _⟩ := I.loc
  ⟨m, hn, I.bk, Nat.le_trans I.ok.bsz I.ok.above⟩
theorem Inv.lt (I : Inv X pins σ H s) : X.env.locals < s.heap.objs.size := let ⟨_, hn, _⟩ := I.loc; hn.lt
theorem Inv.sz (I : Inv X pins σ H s) : X.s₀.heap.objs.size ≤ s.heap.objs.size := Nat.le_trans I.ok.above (Nat.le_of_lt I.lt)
theorem Inv.nofs (I : Inv X pins σ H s) {a : Addr} (h : s.heap.objs.size ≤ a) : a ∉ X.fs := fun hb => by
  obtain ⟨_, o, ho, _⟩ := I.ok.funs.mem hb
  exact absurd (Nat.lt_of_lt_of_le (Heap.lt_size ho) (Nat.le_trans I.sz h)) (Nat.lt_irrefl _)
theorem Inv.cne (I : Inv X pins σ H s) : ∀ x c, X.env.cells.lookup x = some c → c ≠ X.env.locals := fun x c e z => by
  obtain ⟨v, o, ho, hd⟩ := I.cell x c e
  obtain ⟨m, ⟨o', es, ep, ho', hd', _⟩, _⟩ := I.loc
  rw [z, ho'] at ho; cases ho; rw [hd'] at hd; cases hd
theorem Inv.funs (I : Inv X pins σ H s) : s.heap.FunFrames X.base X.outer := by
  have all : ∀ (l : List Env), (∀ b ∈ frs l, b ∈ X.fs) → X.s₀.heap.FunFrames X.base l → s.heap.FunFrames X.base l := by
    intro l
    induction l with
    | nil => intro _ _; trivial
    | cons env r ih =>
      intro hs hl
      obtain ⟨hk, ⟨L, o, hf, hn, ho, hd⟩, hr⟩ := hl
      have hL : L ∈ X.fs := hs L (by unfold frs; rw [List.filterMap_cons, hf]; exact List.mem_cons_self)
      obtain ⟨sl, e⟩ := I.base.slot L o ho (I.ok.frf L hL) hL fun z => I.ok.exfs L z hL
      exact ⟨hk, ⟨L, _, hf, hn, e, hd⟩, ih (fun b hb => hs b (by unfold frs; rw [List.filterMap_cons, hf]; exact List.mem_cons_of_mem _ hb)) hr⟩
  exact all X.outer (fun _ hb => hb) I.ok.funs

/-- the frames that run, for a call -/
theorem Inv.stack (I : Inv X pins σ H s) : s.heap.FunFrames X.base X.stack := by
  rcases I.ok.stk with e | ⟨e, hf⟩
  · rw [e]; exact I.funs
  · rw [e]
    obtain ⟨m, hn, _⟩ := I.loc
    refine .cons (by rw [I.ok.kind]; decide) hf hn ?_ I.funs
    exact Heap.get?_none_of_le (Nat.le_trans I.ok.bsz I.ok.above)
theorem Inv.stkSub (I : Inv X pins σ H s) : ∀ b ∈ frs X.stack, b ∈ X.env.locals :: X.fs := fun b hb => by
  rcases I.ok.stk with e | ⟨e, hf⟩
  · rw [e] at hb; exact List.mem_cons_of_mem _ hb
  · rw [e] at hb
    unfold frs at hb
    rw [List.filterMap_cons, hf] at hb
    exact hb
theorem Inv.stkFree (I : Inv X pins σ H s) : ∀ b ∈ frs X.stack, H b = none := fun b hb => by
  rcases List.mem_cons.mp (I.stkSub b hb) with e | hb
  · rw [e]; exact I.free
  · obtain ⟨_, o, ho, _⟩ := I.ok.funs.mem hb
    exact I.base.free b o ho (I.ok.frf b hb) fun z => I.ok.exfs b z hb

/-- THE STEP: the untracked objects but the frame and the records at ch are kept (the callers' frames up to slots), the frame's map is kept, the new abstract heap is held -/
theorem Inv.step {g' : Array GenState} {t' : Nat} {d' : Drawn} {ch : List Addr} (I : Inv X pins σ H s)
    (hch : ∀ b ∈ ch, (b ∈ X.ex ∨ X.s₀.heap.objs.size ≤ b) ∧ b ≠ X.env.locals ∧ (∀ x c, X.env.cells.lookup x = some c → c ≠ b) ∧ ∀ p ∈ X.pn ++ pins, p.1 ≠ b)
    (keep : ∀ b o, b ≠ X.env.locals → b ∉ X.fs → b ∉ ch → s.heap.get? b = some o → H b = none → h'.get? b = some o)
    (slot : ∀ b o, b ≠ X.env.locals → b ∈ X.fs → b ∉ ch → s.heap.get? b = some o → H b = none → ∃ sl, h'.get? b = some { o with slots := sl }) (free : ∀ b o, b ∉ ch → s.heap.get? b = some o → H b = none → H' b = none)
    (there : ∀ b o, b ∉ ch → s.heap.get? b = some o → ∃ o', h'.get? b = some o')
    (tups : ∀ b xs, H b = some (.tup xs) → H' b = some (.tup xs)) (frzs : ∀ b o u, H b = some (.frz o u) → H' b = some (.frz o u)) (tbls : ∀ b ps, H b = some (.tbl ps) → ∃ more, H' b = some (.tbl (ps ++ more)))
    (ns : ∀ m, s.heap.Ns X.env.locals m → h'.Ns X.env.locals m) (hok : HOk X.prog X.w H' h') (hg : AllBare g') :
    Inv X pins σ H' { s with heap := h', gens := g', drawn := d', toks := t' } := by
  have neL : ∀ b o, X.s₀.heap.get? b = some o → b ≠ X.env.locals := fun b o e => Nat.ne_of_lt (Nat.lt_of_lt_of_le (Heap.lt_size e) I.ok.above)
  have neC : ∀ b o, X.s₀.heap.get? b = some o → b ∉ X.ex → b ∉ ch := fun b o e hx hb => by
    rcases (hch b hb).1 with z | z
    · exact hx z
    · exact absurd (Nat.lt_of_lt_of_le (Heap.lt_size e) z) (Nat.lt_irrefl _)
  have cellK : ∀ x c, X.env.cells.lookup x = some c → ∀ v, s.heap.IsCell c v → h'.IsCell c v := fun x c e v ⟨o, ho, hd⟩ => by
    have nch : c ∉ ch := fun z => (hch c z).2.2.1 x c e rfl
    by_cases hc : c ∈ X.fs
    · obtain ⟨sl, q⟩ := slot c o (I.cne x c e) hc nch ho (I.freeC x c e)
      exact ⟨_, q, hd⟩
    · exact ⟨o, keep c o (I.cne x c e) hc nch ho (I.freeC x c e), hd⟩
  refine ⟨I.ok, I.os, hg, ⟨fun b o e n hb hx => ?_, fun b o e n hb hx => ?_, fun b o e n hx => ?_, fun b o e hx => ?_, fun b xs e => tups b xs (I.base.tups b xs e), fun b o xs e => frzs b o xs (I.base.frzs b o xs e), fun b ps e => ?_⟩, ?_, fun x c e => ?_, ?_, fun x c e => ?_, fun p hp => ?_, hok, I.len⟩
  · exact keep b o (neL b o e) hb (neC b o e hx) (I.base.keep b o e n hb hx) (I.base.free b o e n hx)
  · obtain ⟨sl, e1⟩ := I.base.slot b o e n hb hx
    obtain ⟨sl', e2⟩ := slot b _ (neL b o e) hb (neC b o e hx) e1 (I.base.free b o e n hx)
    exact ⟨sl', e2⟩
  · obtain ⟨o', e1⟩ := I.base.there b o e hx
    exact free b o' (neC b o e hx) e1 (I.base.free b o e n hx)
  · obtain ⟨o', e1⟩ := I.base.there b o e hx
    exact there b o' (neC b o e hx) e1
  · obtain ⟨m1, e1⟩ := I.base.tbls b ps e
    obtain ⟨m2, e2⟩ := tbls b _ e1
    exact ⟨m1 ++ m2, by rw [e2, Array.append_assoc]⟩
  · obtain ⟨m, hn, hl⟩ := I.loc
    refine ⟨m, ns m hn, fun i x v e1 e2 e3 => ?_⟩
    obtain ⟨u, r, l⟩ := hl i x v e1 e2 e3
    refine ⟨u, r, ?_⟩
    rcases l with l | ⟨k, c, e, z⟩
    · exact .inl l
    · exact .inr ⟨k, c, e, cellK x c e _ z⟩
  · obtain ⟨v, z⟩ := I.cell x c e
    exact ⟨v, cellK x c e v z⟩
  · obtain ⟨m, ⟨o, _, _, ho, _⟩, _⟩ := I.loc
    exact free _ o (fun z => (hch _ z).2.1 rfl) ho I.free
  · obtain ⟨v, o, ho, hd⟩ := I.cell x c e
    exact free c o (fun z => (hch c z).2.2.1 x c e rfl) ho (I.freeC x c e)
  · obtain ⟨e, n, ne, nf, d⟩ := I.pin p hp
    have nch : p.1 ∉ ch := fun z => (hch p.1 z).2.2.2 p hp rfl
    exact ⟨keep p.1 p.2 ne nf nch e n, free p.1 p.2 nch e n, ne, nf, d⟩
/-- .. where the frame's own object is kept too -/
theorem Inv.un {t' : Nat} (I : Inv X pins σ H s) (u : Un X.fs [] H H' s.heap h') (hok : HOk X.prog X.w H' h') : Inv X pins σ H' { s with heap := h', toks := t' } := by
  obtain ⟨m, ⟨o, es, ep, ho, r⟩, _⟩ := id I.loc
  obtain ⟨sl, hL⟩ := u.any ho I.free (by simp)
  exact I.step (g' := s.gens) (d' := s.drawn) (ch := []) (fun _ z => nomatch z) (fun b o _ hb _ e n => u.keep b o e n hb (by simp)) (fun b o _ hb _ e n => u.slot b o e n hb (by simp)) (fun b o _ e n => u.free b o e n (by simp)) (fun b o _ e => u.there b o e (by simp)) u.tups u.frzs u.tbls (fun m' hm => by
    obtain ⟨o', es', ep', ho', r'⟩ := hm
    rw [ho] at ho'; cases ho'
    exact ⟨_, es', ep', hL, r'⟩) hok I.bare
/-- behind a call (or a comprehension's block): the slots of this frame may have changed too, the records at ch may have turned -/
theorem Inv.call {g' : Array GenState} {t' : Nat} {d' : Drawn} {ch : List Addr} (I : Inv X pins σ H s) (u : Un (frs X.stack) ch H H' s.heap h') (hok : HOk X.prog X.w H' h') (hg : AllBare g')
    (hch : ∀ b ∈ ch, (b ∈ X.ex ∨ X.s₀.heap.objs.size ≤ b) ∧ b ≠ X.env.locals ∧ (∀ x c, X.env.cells.lookup x = some c → c ≠ b) ∧ ∀ p ∈ X.pn ++ pins, p.1 ≠ b) :
    Inv X pins σ H' { s with heap := h', gens := g', drawn := d', toks := t' } := by
  obtain ⟨m, ⟨o, es, ep, ho, r⟩, _⟩ := id I.loc
  obtain ⟨sl, hL⟩ := u.any ho I.free fun z => (hch _ z).2.1 rfl
  exact I.step (ch := ch) hch (fun b o hL hb hc e n => u.keep b o e n (fun z => (List.mem_cons.mp (I.stkSub b z)).elim hL hb) hc) (fun b o _ _ hc e n => u.any e n hc) (fun b o hc e n => u.free b o e n hc) (fun b o hc e => u.there b o e hc) u.tups u.frzs u.tbls (fun m' hm => by
    obtain ⟨o', es', ep', ho', r'⟩ := hm
    rw [ho] at ho'; cases ho'
    exact ⟨_, es', ep', hL, r'⟩) hok hg
/-- an untracked record of ours (an iterator) has turned -/
theorem Inv.turned {t' : Nat} {it : Addr} (I : Inv X pins σ H s) (k : ∀ b o, b ≠ it → s.heap.get? b = some o → h'.get? b = some o) (hn : H it = none) (hL : it ≠ X.env.locals)
    (h1 : it ∈ X.ex ∨ X.s₀.heap.objs.size ≤ it) (h2 : ∀ x c, X.env.cells.lookup x = some c → c ≠ it) (h3 : ∀ p ∈ X.pn ++ pins, p.1 ≠ it) : Inv X pins σ H { s with heap := h', toks := t' } := by
  have nit : ∀ b u, H b = some u → b ≠ it := fun b u e z => by rw [z, hn] at e; cases e
  refine I.step (g' := s.gens) (d' := s.drawn) (ch := [it]) (fun b hb => ?_) (fun b o _ _ hc e _ => k b o (fun z => hc (by simp [z])) e) (fun b o _ _ hc e _ => ⟨o.slots, k b o (fun z => hc (by simp [z])) e⟩) (fun _ _ _ _ n => n)
    (fun b o hc e => ⟨o, k b o (fun z => hc (by simp [z])) e⟩) (fun _ _ e => e) (fun _ _ _ e => e) (fun b ps e => ⟨#[], by rw [e]; simp⟩) (fun m hm => ?_) (fun b u e => ?_) I.bare
  · have e : b = it := by simpa using hb
    subst e
    exact ⟨h1, hL, h2, h3⟩
  · obtain ⟨o, es, ep, ho, r⟩ := hm
    exact ⟨o, es, ep, k _ o (Ne.symm hL) ho, r⟩
  · refine (I.hok b u e).stay (fun c v hc q => k c v ?_ q) (fun _ q => q) fun _ _ q => q
    rcases hc with z | z
    · rw [z]; exact nit b u e
    · exact nit c _ z
theorem Inv.tok (I : Inv X pins σ H s) (t : Nat) : Inv X pins σ H { s with toks := t } := I.un (h' := s.heap) (t' := t) Un.refl I.hok
/-- all objects kept -/
theorem Inv.kept {t' : Nat} (I : Inv X pins σ H s) (k : ∀ b u, s.heap.get? b = some u → h'.get? b = some u) : Inv X pins σ H { s with heap := h', toks := t' } := I.un (Un.kept k) (I.hok.kept k)
/-- a new object laid and tracked -/
theorem Inv.laid {a : Addr} {o : HO} {t' : Nat} (I : Inv X pins σ H s) (k : ∀ b u, s.heap.get? b = some u → h'.get? b = some u) (hp : s.heap.objs.size ≤ a) (new : ObjOk X.prog X.w (upd H a o) h' a o) :
    Inv X pins σ (upd H a o) { s with heap := h', toks := t' } := I.un (Un.laid k hp (I.hok.fresh hp)) (I.hok.laid k hp new)
/-- an object written -/
theorem Inv.write {x e : Addr} {o : HO} {t' : Nat} (I : Inv X pins σ H s) (mu : Mut (H x)) (he : e = x ∨ H e = some (.own x)) (k : ∀ b u, b ≠ e → s.heap.get? b = some u → h'.get? b = some u) (heo : ∃ u, h'.get? e = some u)
    (new : ObjOk X.prog X.w (upd H x o) h' x o) : Inv X pins σ (upd H x o) { s with heap := h', toks := t' } := I.un (Un.write mu he k heo) (I.hok.write mu he k heo new)
/-- forgetting slots, pins -/
theorem Inv.weak {σ' : List (Option V)} (I : Inv X pins σ H s) (hl : σ'.length = σ.length) (w : ∀ (i : Nat) v, σ'[i]? = some (some v) → σ[i]? = some (some v)) : Inv X pins σ' H s :=
  ⟨I.ok, I.os, I.bare, I.base, let ⟨m, hn, hl'⟩ := I.loc; ⟨m, hn, fun i x v e1 e2 e3 => hl' i x v e1 (w i v e2) e3⟩, I.cell, I.free, I.freeC, I.pin, I.hok, hl.trans I.len⟩
theorem Inv.pins_of {pins' : List (Addr × Obj)} (I : Inv X pins σ H s) (h : ∀ p ∈ pins', s.heap.get? p.1 = some p.2 ∧ H p.1 = none ∧ p.1 ≠ X.env.locals ∧ p.1 ∉ X.fs ∧ ∀ v, p.2.data ≠ .cell v) : Inv X pins' σ H s :=
  ⟨I.ok, I.os, I.bare, I.base, I.loc, I.cell, I.free, I.freeC, fun p hp => (List.mem_append.mp hp).elim (fun z => I.pin p (List.mem_append_left _ z)) (h p), I.hok, I.len⟩

theorem nodup_ix {N : List Str} (hN : N.Nodup) {i j : Nat} {x : Str} (a : N[i]? = some x) (b : N[j]? = some x) : i = j := by
  obtain ⟨h1, e1⟩ := List.getElem?_eq_some_iff.mp a
  obtain ⟨h2, e2⟩ := List.getElem?_eq_some_iff.mp b
  exact (List.getElem_inj hN).mp (e1.trans e2.symm)

/-- a name is stored; what changed -/
theorem store_ok2 {M : Model} {A : Around} {E : Value → Shared → Prop} {i : Nat} {x : Str} {v : V} {u : Value} {Q : Unit → Shared → Prop} (I : Inv X pins σ H s) (hN : X.N.Nodup) (hi : X.N[i]? = some x) (hx : Loc X.env.scope x) (r : RelV v u)
    (h : ∀ s', Inv X pins (σ.set i (some v)) H s' → (∃ a, Heap.SameBut a s.heap s'.heap ∧ (a = X.env.locals ∨ X.env.cells.lookup x = some a)) → Q () s') (hf : X.fn x = true ∨ X.env.scope.names.lookup x = some .local := by first | exact .inl rfl | exact .inr rfl | assumption) : wpAny M A (storeName X.env x u) Q E s := by
  obtain ⟨m, hn, hl⟩ := id I.loc
  have hcls : (X.env.scope.kind == .class || (X.env.scope.kind == .module && X.env.locals != X.env.globals)) = false := by rw [I.ok.kind]; rfl
  have hiσ : i < σ.length := by rw [I.len]; exact (List.getElem?_eq_some_iff.mp hi).1
  have cne := I.cne
  have tracked : ∀ {a : Addr} {h' : Heap}, (∃ o, s.heap.get? a = some o ∧ H a = none) → Heap.SameBut a s.heap h' → HOk X.prog X.w H h' := fun {a h'} ha hs b ob e => by
    obtain ⟨_, _, hfree⟩ := ha
    refine (I.hok b ob e).stay (fun c w' hc q => (hs.2 c ?_).trans q) (fun _ q => q) fun _ _ q => q
    rintro rfl
    rcases hc with rfl | hc
    · rw [hfree] at e; cases e
    · rw [hfree] at hc; cases hc
  rcases hx with hk | hk
  · refine wpAny_storeName_local hk hn (fun h' hn' hs => ?_) hcls
    obtain ⟨oL, _, _, hoL, _⟩ := id hn
    refine h _ ⟨I.ok, I.os, I.bare, ⟨fun b o e n hb hx => ?_, fun b o e n hb hx => ?_, I.base.free, fun b o e hx => ?_, I.base.tups, I.base.frzs, I.base.tbls⟩, ⟨_, hn', fun j y v' e1 e2 e3 => ?_⟩, fun y c e => ?_, I.free, I.freeC, fun p hp => ?_, tracked ⟨oL, hoL, I.free⟩ hs, by simpa using I.len⟩ ⟨_, hs, .inl rfl⟩
    · exact (hs.2 b (Nat.ne_of_lt (Nat.lt_of_lt_of_le (Heap.lt_size e) I.ok.above))).trans (I.base.keep b o e n hb hx)
    · obtain ⟨sl, e1⟩ := I.base.slot b o e n hb hx
      exact ⟨sl, (hs.2 b (Nat.ne_of_lt (Nat.lt_of_lt_of_le (Heap.lt_size e) I.ok.above))).trans e1⟩
    · obtain ⟨o', e1⟩ := I.base.there b o e hx
      exact ⟨o', (hs.2 b (Nat.ne_of_lt (Nat.lt_of_lt_of_le (Heap.lt_size e) I.ok.above))).trans e1⟩
    · by_cases hj : j = i
      · subst hj
        rw [hi] at e1; cases e1
        rw [List.getElem?_set_self hiσ] at e2
        cases e2
        exact ⟨u, r, .inl ⟨hk, by simp⟩⟩
      · rw [List.getElem?_set_ne (Ne.symm hj)] at e2
        obtain ⟨u', r', q⟩ := hl j y v' e1 e2 e3
        refine ⟨u', r', ?_⟩
        rcases q with ⟨k, e⟩ | ⟨k, c, e, z⟩
        · refine .inl ⟨k, ?_⟩
          have : y ≠ x := fun e => hj (nodup_ix hN e1 (e ▸ hi))
          simp [this, e]
        · exact .inr ⟨k, c, e, z.sameBut hs (cne y c e)⟩
    · obtain ⟨w', z⟩ := I.cell y c e
      exact ⟨w', z.sameBut hs (cne y c e)⟩
    · obtain ⟨e, n, ne, nf, d⟩ := I.pin p hp
      exact ⟨(hs.2 p.1 ne).trans e, n, ne, nf, d⟩
  · have hfn : X.fn x = true := by
      rcases hf with z | z
      · exact z
      · rw [z] at hk; cases hk
    obtain ⟨c, hc⟩ := I.ok.has x (.inl hk)
    obtain ⟨w', z⟩ := I.cell x c hc
    refine wpAny_storeName_cell I.ok.kind hk hc z (fun h' hc' hs => ?_)
    obtain ⟨oc, hoc, hocd⟩ := id z
    refine h { s with heap := h' } ⟨I.ok, I.os, I.bare, ⟨fun b o e n hb hx => ?_, fun b o e n hb hx => ?_, I.base.free, fun b o e hx => ?_, I.base.tups, I.base.frzs, I.base.tbls⟩, ⟨m, hn.sameBut hs (Ne.symm (cne x c hc)), fun j y v' e1 e2 e3 => ?_⟩, fun y c' e => ?_, I.free, I.freeC, fun p hp => ?_, tracked ⟨oc, hoc, I.freeC x c hc⟩ hs, by simpa using I.len⟩ ⟨c, hs, .inr hc⟩
    · exact (hs.2 b (Nat.ne_of_lt (Nat.lt_of_lt_of_le (Heap.lt_size e) (I.ok.cab x c hfn hc)))).trans (I.base.keep b o e n hb hx)
    · obtain ⟨sl, e1⟩ := I.base.slot b o e n hb hx
      exact ⟨sl, (hs.2 b (Nat.ne_of_lt (Nat.lt_of_lt_of_le (Heap.lt_size e) (I.ok.cab x c hfn hc)))).trans e1⟩
    · obtain ⟨o', e1⟩ := I.base.there b o e hx
      exact ⟨o', (hs.2 b (Nat.ne_of_lt (Nat.lt_of_lt_of_le (Heap.lt_size e) (I.ok.cab x c hfn hc)))).trans e1⟩
    · by_cases hj : j = i
      · subst hj
        rw [hi] at e1; cases e1
        rw [List.getElem?_set_self hiσ] at e2
        cases e2
        exact ⟨u, r, .inr ⟨.inl hk, c, hc, hc'⟩⟩
      · rw [List.getElem?_set_ne (Ne.symm hj)] at e2
        obtain ⟨u', r', q⟩ := hl j y v' e1 e2 e3
        refine ⟨u', r', ?_⟩
        rcases q with q | ⟨k, c', e, z'⟩
        · exact .inl q
        · refine .inr ⟨k, c', e, z'.sameBut hs ?_⟩
          rintro rfl
          exact hj (nodup_ix hN e1 (I.ok.inj _ _ _ e hc ▸ hi))
    · by_cases hcc : c' = c
      · subst hcc; exact ⟨_, hc'⟩
      · obtain ⟨w2, z2⟩ := I.cell y c' e
        exact ⟨w2, z2.sameBut hs hcc⟩
    · obtain ⟨e, n, ne, nf, d⟩ := I.pin p hp
      refine ⟨(hs.2 p.1 ?_).trans e, n, ne, nf, d⟩
      intro q
      rw [q, hoc] at e
      have q' : oc = p.2 := Option.some.inj e
      exact d w' (by rw [← q']; exact hocd)
theorem store_ok {M : Model} {A : Around} {E : Value → Shared → Prop} {i : Nat} {x : Str} {v : V} {u : Value} {Q : Unit → Shared → Prop} (I : Inv X pins σ H s) (hN : X.N.Nodup) (hi : X.N[i]? = some x) (hx : Loc X.env.scope x) (r : RelV v u)
    (h : ∀ s', Inv X pins (σ.set i (some v)) H s' → Q () s') (hf : X.fn x = true ∨ X.env.scope.names.lookup x = some .local := by first | exact .inl rfl | exact .inr rfl | assumption) : wpAny M A (storeName X.env x u) Q E s :=
  store_ok2 I hN hi hx r (fun s' I' _ => h s' I') hf
/-- behind a call or a block, the state as it is -/
theorem Inv.call' {s' : Shared} {ch : List Addr} (I : Inv X pins σ H s) (ho : s'.os = s.os) (u : Un (frs X.stack) ch H H' s.heap s'.heap) (hok : HOk X.prog X.w H' s'.heap) (hg : AllBare s'.gens)
    (hch : ∀ b ∈ ch, (b ∈ X.ex ∨ X.s₀.heap.objs.size ≤ b) ∧ b ≠ X.env.locals ∧ (∀ x c, X.env.cells.lookup x = some c → c ≠ b) ∧ ∀ p ∈ X.pn ++ pins, p.1 ≠ b) : Inv X pins σ H' s' := by
  obtain ⟨h', g', d', t', o'⟩ := s'
  have e : o' = s.os := ho
  subst e
  exact I.call (g' := g') (t' := t') (d' := d') u hok hg hch
end

/-! ### the judgements -/
/-- an exception: its class, its own dict's address (where it has one), the abstract heap behind it -/
abbrev XK := Value → Option Addr → Hp → Prop
abbrev St := List (Option V)
abbrev VK := V → Hp → Prop
/-- an expression's reading; a test's; an argument list's -/
abbrev TE := St → Hp → VK → Prop
abbrev TT := St → Hp → (Bool → Hp → Prop) → Prop
abbrev TA := St → Hp → (List V → Hp → Prop) → Prop
/-- what is wanted behind a statement -/
structure Ends where
  nx : St → Hp → Prop
  rt : VK
  bk : St → Hp → Prop := fun _ _ => False
  ct : St → Hp → Prop := fun _ _ => False
abbrev TS := Ends → St → Hp → Prop

def EP (X : Cx) (pins : List (Addr × Obj)) (σ : St) (Q : VK) (u : Value) (s' : Shared) : Prop := ∃ v H', Inv X pins σ H' s' ∧ RelV v u ∧ Q v H'
def TP (X : Cx) (pins : List (Addr × Obj)) (σ : St) (Q : Bool → Hp → Prop) (b : Bool) (s' : Shared) : Prop := ∃ H', Inv X pins σ H' s' ∧ Q b H'
def AP (X : Cx) (pins : List (Addr × Obj)) (σ : St) (Q : List V → Hp → Prop) (us : List Value) (s' : Shared) : Prop := ∃ vs H', Inv X pins σ H' s' ∧ Vals vs us ∧ Q vs H'
def SP (X : Cx) (pins : List (Addr × Obj)) (D : Ends) (f : Flow) (s' : Shared) : Prop :=
  match f with
  | .next => ∃ σ' H', Inv X pins σ' H' s' ∧ D.nx σ' H'
  | .brk => ∃ σ' H', Inv X pins σ' H' s' ∧ D.bk σ' H'
  | .cont => ∃ σ' H', Inv X pins σ' H' s' ∧ D.ct σ' H'
  | .ret u => ∃ v σ' H', Inv X pins σ' H' s' ∧ RelV v u ∧ D.rt v H'

def PE (X : Cx) (e : Expr) (t : TE) : Prop :=
  ∀ (pins : List (Addr × Obj)) (s : Shared) (σ : St) (H : Hp) (Q : VK), Inv X pins σ H s → t σ H Q → wpAny (model X.prog X.w) X.A (eval e X.env) (EP X pins σ Q) X.xe s
def PT (X : Cx) (e : Expr) (t : TT) : Prop :=
  ∀ (pins : List (Addr × Obj)) (s : Shared) (σ : St) (H : Hp) (Q : Bool → Hp → Prop), Inv X pins σ H s → t σ H Q → wpAny (model X.prog X.w) X.A (isTrue e X.env (eval e X.env)) (TP X pins σ Q) X.xe s
/-- a test whatever its 'whole' is (and, or) -/
def PW (X : Cx) (e : Expr) (t : TT) : Prop :=
  ∀ (whole : Sem Value) (pins : List (Addr × Obj)) (s : Shared) (σ : St) (H : Hp) (Q : Bool → Hp → Prop), Inv X pins σ H s → t σ H Q → wpAny (model X.prog X.w) X.A (isTrue e X.env whole) (TP X pins σ Q) X.xe s
theorem PW.pt {X : Cx} {e : Expr} {t : TT} (h : PW X e t) : PT X e t := h _
/-- an argument list (no star), from the left -/
def PA (X : Cx) (es : List Expr) (t : TA) : Prop :=
  ∀ (pos : Pos) (pins : List (Addr × Obj)) (s : Shared) (σ : St) (H : Hp) (Q : List V → Hp → Prop), Inv X pins σ H s → t σ H Q → wpAny (model X.prog X.w) X.A (spliced (backTo pos (starEach es X.env))) (AP X pins σ Q) X.xe s
def PS (X : Cx) (st : Stmt) (t : TS) : Prop :=
  ∀ (pins : List (Addr × Obj)) (s : Shared) (σ : St) (H : Hp) (D : Ends), Inv X pins σ H s → t D σ H → wpAny (model X.prog X.w) X.A (exec st X.env) (SP X pins D) X.xe s
def PSs (X : Cx) (st : List Stmt) (t : TS) : Prop :=
  ∀ (pins : List (Addr × Obj)) (s : Shared) (σ : St) (H : Hp) (D : Ends), Inv X pins σ H s → t D σ H → wpAny (model X.prog X.w) X.A (execs st X.env) (SP X pins D) X.xe s
/-- weaken the end -/
theorem thn {α : Type} {t : Sem α} {Q Q' : α → Shared → Prop} {M : Model} {A : Around} {E : Value → Shared → Prop} {s : Shared} (h : wpAny M A t Q E s) (hQ : ∀ a s, Q a s → Q' a s) : wpAny M A t Q' E s := wpAny_mono h hQ fun _ _ x => x
end L2

namespace L2
open PySem PySem.Spec PyProof.Rows
section
variable {X : Cx}

/-- two expressions in a row -/
theorem bin {a b : Expr} {ta tb : TE} (ha : PE X a ta) (hb : PE X b tb) {pins : List (Addr × Obj)} {s : Shared} {σ : St} {H : Hp} {R : V → V → Hp → Prop} (I : Inv X pins σ H s) (h : ta σ H fun x H1 => tb σ H1 fun y H2 => R x y H2)
    {α : Type} {Q : α → Shared → Prop} {f : Value → Value → Sem α}
    (hf : ∀ v u s2 x y H2, Inv X pins σ H2 s2 → RelV x v → RelV y u → R x y H2 → wpAny (model X.prog X.w) X.A (f v u) Q X.xe s2) :
    wpAny (model X.prog X.w) X.A (eval a X.env) (fun v s₁ => wpAny (model X.prog X.w) X.A (eval b X.env) (fun u s₂ => wpAny (model X.prog X.w) X.A (f v u) Q X.xe s₂) X.xe s₁) X.xe s := by
  refine thn (ha pins s σ H _ I h) fun v s1 ⟨x, H1, I1, r1, q1⟩ => ?_
  refine thn (hb pins s1 σ H1 _ I1 q1) fun u s2 ⟨y, H2, I2, r2, q2⟩ => ?_
  exact hf v u s2 x y H2 I2 r1 r2 q2

/-! ### names and constants -/
def tVar (i : Nat) : TE := fun σ H Q => ∃ v, σ[i]? = some (some v) ∧ Q v H
def tC (v : V) : TE := fun _ H Q => Q v H
theorem pe_var {i : Nat} {x : Str} {pos : Pos} (hN : X.N[i]? = some x) (hv : Vis X.env.scope x) (hd : (x == ("__debug__" : Str)) = false := by decide) (hcd : (x == ("__classdict__" : Str)) = false := by decide) : PE X (.Name x pos) (tVar i) := by
  intro pins s σ H Q I h
  obtain ⟨v, e, h⟩ := h
  obtain ⟨m, hn, hl⟩ := I.loc
  obtain ⟨u, r, l⟩ := hl i x v hN e hv
  have fin : EP X pins σ Q u s := ⟨v, H, I, r, h⟩
  rcases l with ⟨hk, hm⟩ | ⟨hk, c, hc, hcell⟩
  · exact wpAny_Name (wpAny_loadName_local I.ok.kind hk hn hm fin) hd
  · rcases hk with hk | hk
    · exact wpAny_Name (wpAny_loadName_cell I.ok.kind hk hc hcell fin) hd
    · exact wpAny_Name (wpAny_loadName_free I.ok.kind hk hc hcell fin hcd) hd
theorem pe_int {i j pos} : PE X (.Constant (.int i) j pos) (tC (.int i)) := fun _ _ _ H _ I h => wpAny_Constant_int ⟨.int i, H, I.tok _, ⟨_, rfl⟩, h⟩
theorem pe_bl {b j pos} : PE X (.Constant (.bool b) j pos) (tC (.bl b)) := fun _ _ _ H _ I h => Constant_bool ⟨.bl b, H, I, rfl, h⟩
theorem pe_non {j pos} : PE X (.Constant .none j pos) (tC .non) := fun _ _ _ H _ I h => Constant_none ⟨.non, H, I, rfl, h⟩
theorem pe_str {x j pos} : PE X (.Constant (.str x) j pos) (tC (.str x)) := fun _ _ _ H _ I h => Calls.Constant_str ⟨.str x, H, I.tok _, ⟨_, rfl⟩, h⟩

/-- a global name of the def -/
def Gl (X : Cx) (x : Str) : Prop := X.env.kindOf x = some .globalImplicit
theorem ld_glob {E : Value → Shared → Prop} {pins : List (Addr × Obj)} {s : Shared} {σ : St} {H : Hp} {x : Str} {u : Value} {pos : Pos} {Q : Value → Shared → Prop} (I : Inv X pins σ H s) (hg : Gl X x) (hm : X.mg x = some u) (h : Q u s)
    (hd : (x == ("__debug__" : Str)) = false := by decide) : wpAny (model X.prog X.w) X.A (eval (.Name x pos) X.env) Q E s :=
  Calls.Name_function_global I.ok.kind hg (Calls.loadGlobal_global (by rw [I.ok.glob]; exact I.mod.glob.keeps I.bk) hm h) hd
theorem ld_blt {E : Value → Shared → Prop} {pins : List (Addr × Obj)} {s : Shared} {σ : St} {H : Hp} {x : Str} {u : Value} {pos : Pos} {Q : Value → Shared → Prop} (I : Inv X pins σ H s) (hg : Gl X x) (hm : X.mg x = none) (hv : bootBuiltins x = some u) (h : Q u s)
    (hn : x ≠ "__name__" := by decide) (hd : (x == ("__debug__" : Str)) = false := by decide) : wpAny (model X.prog X.w) X.A (eval (.Name x pos) X.env) Q E s := by
  obtain ⟨mb, h1, h2⟩ := I.mod.blt
  exact Calls.Name_function_global I.ok.kind hg (Calls.loadGlobal_builtin (by rw [I.ok.glob]; exact I.mod.glob.keeps I.bk) hm (by rw [I.ok.blt]; exact h1.keeps I.bk) ((h2 x hn).trans hv) h) hd
/-- a module's constant, a class, a function, as a value -/
theorem pe_glob {x : Str} {v : V} {u : Value} {pos : Pos} (hg : Gl X x) (hm : X.mg x = some u) (r : RelV v u) (hd : (x == ("__debug__" : Str)) = false := by decide) : PE X (.Name x pos) (tC v) :=
  fun _ _ _ H _ I h => ld_glob I hg hm ⟨v, H, I, r, h⟩ hd
theorem pe_bltn {x : Str} {v : V} {u : Value} {pos : Pos} (hg : Gl X x) (hm : X.mg x = none) (hv : bootBuiltins x = some u) (r : RelV v u) (hn : x ≠ "__name__" := by decide) (hd : (x == ("__debug__" : Str)) = false := by decide) : PE X (.Name x pos) (tC v) :=
  fun _ _ _ H _ I h => ld_blt I hg hm hv ⟨v, H, I, r, h⟩ hn hd

/-! ### arithmetic -/
/-- two ints -/
def t2I (ta tb : TE) (k : Int → Int → Hp → Prop) : St → Hp → Prop := fun σ H => ta σ H fun x H1 => tb σ H1 fun y H2 => ∃ i j, x = .int i ∧ y = .int j ∧ k i j H2
def tAdd (ta tb : TE) : TE := fun σ H Q => t2I ta tb (fun i j H2 => Q (.int (i + j)) H2) σ H
def tSub (ta tb : TE) : TE := fun σ H Q => t2I ta tb (fun i j H2 => Q (.int (i - j)) H2) σ H
/-- the left factor below 2^64 -/
def tMul (ta tb : TE) : TE := fun σ H Q => t2I ta tb (fun i j H2 => (-(2 ^ 64) < i ∧ i < 2 ^ 64) ∧ Q (.int (i * j)) H2) σ H
variable {a b : Expr} {ta tb : TE} {pos : Pos}
theorem pe_add (ha : PE X a ta) (hb : PE X b tb) : PE X (.BinOp a .Add b pos) (tAdd ta tb) := by
  intro pins s σ H Q I h
  refine wpAny_BinOp (bin ha hb I h fun v u s2 x y H2 I2 rx ry q => ?_)
  obtain ⟨i, j, rfl, rfl, q⟩ := q
  obtain ⟨t, rfl⟩ := rx
  obtain ⟨t', rfl⟩ := ry
  exact add_int ⟨.int _, H2, I2.tok _, ⟨_, rfl⟩, q⟩
theorem pe_sub (ha : PE X a ta) (hb : PE X b tb) : PE X (.BinOp a .Sub b pos) (tSub ta tb) := by
  intro pins s σ H Q I h
  refine wpAny_BinOp (bin ha hb I h fun v u s2 x y H2 I2 rx ry q => ?_)
  obtain ⟨i, j, rfl, rfl, q⟩ := q
  obtain ⟨t, rfl⟩ := rx
  obtain ⟨t', rfl⟩ := ry
  exact sub_int ⟨.int _, H2, I2.tok _, ⟨_, rfl⟩, q⟩
theorem pe_mul (ha : PE X a ta) (hb : PE X b tb) : PE X (.BinOp a .Mult b pos) (tMul ta tb) := by
  intro pins s σ H Q I h
  refine wpAny_BinOp (bin ha hb I h fun v u s2 x y H2 I2 rx ry q => ?_)
  obtain ⟨i, j, rfl, rfl, ⟨q1, q2⟩, q⟩ := q
  obtain ⟨t, rfl⟩ := rx
  obtain ⟨t', rfl⟩ := ry
  exact mul_int ⟨.int _, H2, I2.tok _, ⟨_, rfl⟩, q⟩ (.of_left (intBits_le_64 q1 q2))

/-! ### comparisons -/
def PC (X : Cx) (op : CmpOp) (a b : Expr) (t : TE) : Prop :=
  ∀ (pins : List (Addr × Obj)) (s : Shared) (σ : St) (H : Hp) (Q : VK), Inv X pins σ H s → t σ H Q →
    wpAny (model X.prog X.w) X.A (eval a X.env) (fun v s₁ => wpAny (model X.prog X.w) X.A (eval b X.env) (fun u s₂ => wpAny (model X.prog X.w) X.A (compareOp op v u) (EP X pins σ Q) X.xe s₂) X.xe s₁) X.xe s
theorem nobehind (b : Expr) {op : CmpOp} (h : op ≠ .In) (h2 : op ≠ .NotIn) : behindInMarks op b = false := by
  have e1 : (op == CmpOp.In) = false := by cases op <;> first | rfl | exact absurd rfl h
  have e2 : (op == CmpOp.NotIn) = false := by cases op <;> first | rfl | exact absurd rfl h2
  cases b <;> simp [behindInMarks, e1, e2]
def tCmp (p : Int → Int → Bool) (ta tb : TE) : TE := fun σ H Q => t2I ta tb (fun i j H2 => Q (.bl (p i j)) H2) σ H
abbrev tLt : TE → TE → TE := tCmp fun i j => decide (i < j)
abbrev tLe : TE → TE → TE := tCmp fun i j => decide (i ≤ j)
abbrev tGt : TE → TE → TE := tCmp fun i j => decide (j < i)
abbrev tGe : TE → TE → TE := tCmp fun i j => decide (j ≤ i)
abbrev tEqI : TE → TE → TE := tCmp fun i j => decide (i = j)
abbrev tNeI : TE → TE → TE := tCmp fun i j => !decide (i = j)
/-- a comparison of two ints, by its rule -/
theorem pc_int {op : CmpOp} {p : Int → Int → Bool} (ha : PE X a ta) (hb : PE X b tb)
    (rule : ∀ (i j : Int) (t u : Tok) (Q : Value → Shared → Prop) (s : Shared), Q (.bool (p i j)) s → wpAny (model X.prog X.w) X.A (compareOp op (.int i t) (.int j u)) Q X.xe s) : PC X op a b (tCmp p ta tb) := by
  intro pins s σ H Q I h
  refine bin ha hb I h fun v u s2 x y H2 I2 rx ry q => ?_
  obtain ⟨i, j, rfl, rfl, q⟩ := q
  obtain ⟨t, rfl⟩ := rx
  obtain ⟨t', rfl⟩ := ry
  exact rule i j t t' _ s2 ⟨.bl _, H2, I2, rfl, q⟩
theorem pc_lt (ha : PE X a ta) (hb : PE X b tb) : PC X .Lt a b (tLt ta tb) := pc_int ha hb fun _ _ _ _ _ _ h => lt_int h
theorem pc_le (ha : PE X a ta) (hb : PE X b tb) : PC X .LtE a b (tLe ta tb) := pc_int ha hb fun _ _ _ _ _ _ h => le_int h
theorem pc_gt (ha : PE X a ta) (hb : PE X b tb) : PC X .Gt a b (tGt ta tb) := pc_int ha hb fun _ _ _ _ _ _ h => gt_int h
theorem pc_ge (ha : PE X a ta) (hb : PE X b tb) : PC X .GtE a b (tGe ta tb) := pc_int ha hb fun _ _ _ _ _ _ h => ge_int h
theorem pc_eqI (ha : PE X a ta) (hb : PE X b tb) : PC X .Eq a b (tEqI ta tb) := pc_int ha hb fun _ _ _ _ _ _ h => eq_int (by rw [Bool.beq_eq_decide_eq]; exact h)
theorem pc_neI (ha : PE X a ta) (hb : PE X b tb) : PC X .NotEq a b (tNeI ta tb) := pc_int ha hb fun _ _ _ _ _ _ h => ne_int (by rw [bne, Bool.beq_eq_decide_eq]; exact h)
/-- is None -/
def tIsN (ta : TE) : TE := fun σ H Q => ta σ H fun x H1 => Q (.bl (decide (x = .non))) H1
def tNotN (ta : TE) : TE := fun σ H Q => ta σ H fun x H1 => Q (.bl (!decide (x = .non))) H1
theorem RelV.none_iff {x : V} {v : Value} (r : RelV x v) : (v == Value.none) = decide (x = .non) := by
  cases x with
  | non => cases r; rfl
  | bl _ => cases r; rfl
  | int _ => obtain ⟨t, rfl⟩ := r; rfl
  | str _ => obtain ⟨t, rfl⟩ := r; rfl
  | byt _ => obtain ⟨t, rfl⟩ := r; rfl
  | flt _ => obtain ⟨t, rfl⟩ := r; rfl
  | ref _ => cases r; rfl
  | ty _ => cases r; rfl
theorem pc_isN {j pos'} (ha : PE X a ta) : PC X .Is a (.Constant .none j pos') (tIsN ta) := by
  intro pins s σ H Q I h
  refine thn (ha pins s σ H _ I h) fun v s1 ⟨x, H1, I1, r1, q1⟩ => ?_
  exact Constant_none (is_none_gen ⟨.bl _, H1, I1, by rw [r1.none_iff]; rfl, q1⟩)
theorem pc_notN {j pos'} (ha : PE X a ta) : PC X .IsNot a (.Constant .none j pos') (tNotN ta) := by
  intro pins s σ H Q I h
  refine thn (ha pins s σ H _ I h) fun v s1 ⟨x, H1, I1, r1, q1⟩ => ?_
  exact Constant_none (isnot_none_gen ⟨.bl _, H1, I1, by rw [r1.none_iff]; rfl, q1⟩)
/-- a comparison as a value, as a test -/
def tB (t : TE) : TT := fun σ H Q => t σ H fun x H1 => ∃ c, x = .bl c ∧ Q c H1
theorem pe_cmp {op : CmpOp} {t : TE} (h : PC X op a b t) (h1 : behindInMarks op b = false := by first | exact nobehind _ (by decide) (by decide) | rfl) : PE X (.Compare a [op] [b] pos) t := fun pins s σ H Q I hw => wpAny_Compare1 (h pins s σ H Q I hw) h1
theorem pt_cmp {op : CmpOp} {t : TE} (h : PC X op a b t) (h1 : behindInMarks op b = false := by first | exact nobehind _ (by decide) (by decide) | rfl) : PT X (.Compare a [op] [b] pos) (tB t) := by
  intro pins s σ H Q I hw
  refine wpAny_isTrue_Compare1 (thn (h pins s σ H _ I hw) fun v s1 h1 => thn h1 fun u s2 h2 => thn h2 fun c s3 ⟨x, H1, I1, r1, q1⟩ => ?_) h1
  obtain ⟨d, rfl, q⟩ := q1
  cases r1
  exact wpAny_truthy_bool ⟨H1, I1, q⟩
/-- an expression whose value is a bool, as a test -/
theorem pt_val {e : Expr} {t : TE} (h : PE X e t) (he : ∀ whole, isTrue e X.env whole = (do let v ← whole; standAt e.pos; holding [v] (truthy v)) := by intro _; rfl) : PT X e (tB t) := by
  intro pins s σ H Q I hw
  refine isTrue_plain (thn (h pins s σ H _ I hw) fun v s1 ⟨x, H1, I1, r1, q1⟩ => ?_) (he _)
  obtain ⟨d, rfl, q⟩ := q1
  cases r1
  exact wpAny_truthy_bool ⟨H1, I1, q⟩

/-! ### and, or, not -/
variable {tA tB' : TT} {rest : List Expr}
def tAnd (t u : TT) : TT := fun σ H Q => t σ H fun c H1 => if c = true then u σ H1 Q else Q false H1
def tOr (t u : TT) : TT := fun σ H Q => t σ H fun c H1 => if c = true then Q true H1 else u σ H1 Q
def tNot (t : TT) : TT := fun σ H Q => t σ H fun c H1 => Q (!c) H1
theorem pw_and1 (ha : PT X a tA) : PW X (.BoolOp .And [a] pos) tA := by
  intro wh pins s σ H Q I h
  refine isTrue_and (thn (ha pins s σ H Q I h) fun c s1 e => ?_)
  cases c with
  | true => exact isTrue_and_nil e
  | false => exact e
theorem pw_or1 (ha : PT X a tA) : PW X (.BoolOp .Or [a] pos) tA := by
  intro wh pins s σ H Q I h
  refine isTrue_or (thn (ha pins s σ H Q I h) fun c s1 e => ?_)
  cases c with
  | false => exact isTrue_or_nil e
  | true => exact e
theorem pw_and (ha : PT X a tA) (hb : PW X (.BoolOp .And (b :: rest) pos) tB') : PW X (.BoolOp .And (a :: b :: rest) pos) (tAnd tA tB') := by
  intro wh pins s σ H Q I h
  refine isTrue_and (thn (ha pins s σ H _ I h) fun c s1 ⟨H1, I1, q1⟩ => ?_)
  cases c with
  | true => exact hb wh pins s1 σ H1 Q I1 q1
  | false => exact ⟨H1, I1, q1⟩
theorem pw_or (ha : PT X a tA) (hb : PW X (.BoolOp .Or (b :: rest) pos) tB') : PW X (.BoolOp .Or (a :: b :: rest) pos) (tOr tA tB') := by
  intro wh pins s σ H Q I h
  refine isTrue_or (thn (ha pins s σ H _ I h) fun c s1 ⟨H1, I1, q1⟩ => ?_)
  cases c with
  | true => exact ⟨H1, I1, q1⟩
  | false => exact hb wh pins s1 σ H1 Q I1 q1
theorem pt_not (ha : PT X a tA) : PT X (.UnaryOp .Not a pos) (tNot tA) := by
  intro pins s σ H Q I h
  exact isTrue_not (ha pins s σ H (fun c H1 => Q (!c) H1) I h)
/-- .. as values (bools) -/
def tAndV (ta tb : TE) : TE := fun σ H Q => ta σ H fun x H1 => ∃ c, x = .bl c ∧ if c = true then tb σ H1 Q else Q (.bl false) H1
def tOrV (ta tb : TE) : TE := fun σ H Q => ta σ H fun x H1 => ∃ c, x = .bl c ∧ if c = true then Q (.bl true) H1 else tb σ H1 Q
def tNotV (ta : TE) : TE := fun σ H Q => ta σ H fun x H1 => ∃ c, x = .bl c ∧ Q (.bl (!c)) H1
theorem pe_one {op} {t : TE} (h : PE X a t) : PE X (.BoolOp op [a] pos) t := fun pins s σ H Q I hw => BoolOp_one (h pins s σ H Q I hw)
theorem pe_and (ha : PE X a ta) (hb : PE X (.BoolOp .And (b :: rest) pos) tb) : PE X (.BoolOp .And (a :: b :: rest) pos) (tAndV ta tb) := by
  intro pins s σ H Q I h
  refine BoolOp_and (thn (ha pins s σ H _ I h) fun v s1 ⟨x, H1, I1, r1, q1⟩ => ?_)
  obtain ⟨c, rfl, q1⟩ := q1
  cases r1
  refine wpAny_truthy_bool ?_
  cases c with
  | true => exact hb pins s1 σ H1 Q I1 q1
  | false => exact ⟨.bl false, H1, I1, rfl, q1⟩
theorem pe_or (ha : PE X a ta) (hb : PE X (.BoolOp .Or (b :: rest) pos) tb) : PE X (.BoolOp .Or (a :: b :: rest) pos) (tOrV ta tb) := by
  intro pins s σ H Q I h
  refine BoolOp_or (thn (ha pins s σ H _ I h) fun v s1 ⟨x, H1, I1, r1, q1⟩ => ?_)
  obtain ⟨c, rfl, q1⟩ := q1
  cases r1
  refine wpAny_truthy_bool ?_
  cases c with
  | false => exact hb pins s1 σ H1 Q I1 q1
  | true => exact ⟨.bl true, H1, I1, rfl, q1⟩
theorem pe_not (ha : PE X a ta) : PE X (.UnaryOp .Not a pos) (tNotV ta) := by
  intro pins s σ H Q I h
  refine UnaryOp_ (thn (ha pins s σ H _ I h) fun v s1 ⟨x, H1, I1, r1, q1⟩ => ?_)
  obtain ⟨c, rfl, q1⟩ := q1
  cases r1
  exact not_of (wpAny_truthy_bool ⟨.bl (!c), H1, I1, rfl, q1⟩)
/-- a if t else b -/
def tIf (t : TT) (ta tb : TE) : TE := fun σ H Q => t σ H fun c H1 => if c = true then ta σ H1 Q else tb σ H1 Q
theorem pe_ifExp {c : Expr} (hc : PT X c tA) (ha : PE X a ta) (hb : PE X b tb) : PE X (.IfExp c a b pos) (tIf tA ta tb) := by
  intro pins s σ H Q I h
  refine wpAny_IfExp (thn (hc pins s σ H _ I h) fun d s1 ⟨H1, I1, q1⟩ => ?_)
  cases d with
  | true => exact ha pins s1 σ H1 Q I1 q1
  | false => exact hb pins s1 σ H1 Q I1 q1
end
end L2

namespace L2
open PySem PySem.Spec PyProof.Rows

/-! ### a list, a tuple that is read: tracked, frozen, or an object of the module -/
def SqL (K : PySem.W.Frag) (H : Hp) (a : Addr) (xs : List V) : Prop :=
  Rd H a (.lst xs) ∨
    ∃ (o : Obj) (its : Array Value) (n : Nat), K.lookup a = some o ∧ o.cls = .type "list" ∧ o.dict = none ∧ o.data = .seq its n ∧ its.size ≤ sizeLine ∧ Vals xs its.toList
def SqT (K : PySem.W.Frag) (H : Hp) (a : Addr) (xs : List V) : Prop :=
  Rd H a (.tup xs) ∨
    ∃ (o : Obj) (its : Array Value) (n : Nat), K.lookup a = some o ∧ o.cls = .type "tuple" ∧ o.data = .seq its n ∧ its.size ≤ sizeLine ∧ Vals xs its.toList
def absV : Value → Option V
  | .none => some .non
  | .bool b => some (.bl b)
  | .int i _ => some (.int i)
  | .str x _ => some (.str x)
  | .bytes b _ => some (.byt b)
  | .float b _ => some (.flt b)
  | .ref a => some (.ref a)
  | .type n => some (.ty n)
  | _ => none
theorem RelV.abs {x : V} {u : Value} (r : RelV x u) : absV u = some x := by
  cases x with
  | non => cases r; rfl
  | bl _ => cases r; rfl
  | int _ => obtain ⟨t, rfl⟩ := r; rfl
  | str _ => obtain ⟨t, rfl⟩ := r; rfl
  | byt _ => obtain ⟨t, rfl⟩ := r; rfl
  | flt _ => obtain ⟨t, rfl⟩ := r; rfl
  | ref _ => cases r; rfl
  | ty _ => cases r; rfl
theorem RelV.inj {x y : V} {u : Value} (r : RelV x u) (q : RelV y u) : x = y := Option.some.inj (r.abs.symm.trans q.abs)
theorem Vals.inj : ∀ {xs ys : List V} {us : List Value}, Vals xs us → Vals ys us → xs = ys
  | _, _, _, .nil, .nil => rfl
  | _, _, _, .cons r t, .cons r' t' => by rw [r.inj r', Vals.inj t t']
section
variable {X : Cx} {pins : List (Addr × Obj)} {σ : St} {H : Hp} {s : Shared} {a : Addr} {xs ys : List V}
theorem SqL.of {K : PySem.W.Frag} (h : H a = some (.lst xs)) : SqL K H a xs := .inl (.inl h)
theorem SqT.of {K : PySem.W.Frag} (h : H a = some (.tup xs)) : SqT K H a xs := .inl (.inl h)
theorem Inv.list (I : Inv X pins σ H s) (h : SqL X.K H a xs) : ∃ its : List Value, Vals xs its ∧ PlainL s.heap a its.toArray ∧ xs.length ≤ sizeLine := by
  rcases h with h | ⟨o, its, n, hk, hc, hd, hs, hz, r⟩
  · obtain ⟨z, its, n, r, e⟩ := h.ok I.hok
    exact ⟨its, r, ⟨_, n, e, rfl, rfl, rfl⟩, z⟩
  · refine ⟨its.toList, r, ⟨o, n, I.kIn a o hk, hc, hd, by simpa using hs⟩, ?_⟩
    have e := r.length
    simp only [Array.length_toList] at e
    omega
theorem Inv.tuple (I : Inv X pins σ H s) (h : SqT X.K H a xs) : ∃ its : List Value, Vals xs its ∧ IsTup s.heap a its.toArray ∧ xs.length ≤ sizeLine := by
  rcases h with h | ⟨o, its, n, hk, hc, hs, hz, r⟩
  · obtain ⟨z, its, r, p⟩ := h.ok I.hok
    exact ⟨its, r, p, z⟩
  · refine ⟨its.toList, r, ⟨o, I.kIn a o hk, hc, n, by simpa using hs⟩, ?_⟩
    have e := r.length
    simp only [Array.length_toList] at e
    omega
theorem Inv.list_inj (I : Inv X pins σ H s) (h : SqL X.K H a xs) (h' : SqL X.K H a ys) : xs = ys := by
  obtain ⟨its, r, ⟨o, n, e, _, _, d⟩, _⟩ := I.list h
  obtain ⟨its', r', ⟨o', n', e', _, _, d'⟩, _⟩ := I.list h'
  rw [e] at e'; cases e'
  rw [d] at d'
  injection d' with d1 _
  have : its = its' := by simpa using congrArg Array.toList d1
  subst this
  exact r.inj r'
theorem Inv.tuple_inj (I : Inv X pins σ H s) (h : SqT X.K H a xs) (h' : SqT X.K H a ys) : xs = ys := by
  obtain ⟨its, r, ⟨o, e, _, n, d⟩, _⟩ := I.tuple h
  obtain ⟨its', r', ⟨o', e', _, n', d'⟩, _⟩ := I.tuple h'
  rw [e] at e'; cases e'
  rw [d] at d'
  injection d' with d1 _
  have : its = its' := by simpa using congrArg Array.toList d1
  subst this
  exact r.inj r'
end

/-! ### another wish about exceptions -/
abbrev Cx.wish (X : Cx) (E : Value → Shared → Prop) : Cx := { X with xe := E }
/-- no exception leaves -/
abbrev Cx.nox (X : Cx) : Cx := X.wish fun _ _ => False
theorem Cx.Ok.wish {X : Cx} (ok : X.Ok) (E : Value → Shared → Prop) : (X.wish E).Ok :=
  ⟨ok.mod, ok.kind, ok.glob, ok.blt, ok.above, ok.inj, ok.has, ok.cab, ok.hd, ok.frames, ok.stk, ok.exf, ok.bs, ok.bsz, ok.noex, ok.exfs, ok.funs, ok.frf⟩
theorem Cx.Ok.unwish {X : Cx} {E : Value → Shared → Prop} (ok : (X.wish E).Ok) : X.Ok :=
  ⟨ok.mod, ok.kind, ok.glob, ok.blt, ok.above, ok.inj, ok.has, ok.cab, ok.hd, ok.frames, ok.stk, ok.exf, ok.bs, ok.bsz, ok.noex, ok.exfs, ok.funs, ok.frf⟩
section
variable {X : Cx} {pins : List (Addr × Obj)} {σ : St} {H : Hp} {s : Shared} {E : Value → Shared → Prop}
theorem Inv.wish (I : Inv X pins σ H s) (E : Value → Shared → Prop) : Inv (X.wish E) pins σ H s := ⟨I.ok.wish E, I.os, I.bare, I.base, I.loc, I.cell, I.free, I.freeC, I.pin, I.hok, I.len⟩
theorem Inv.unwish (I : Inv (X.wish E) pins σ H s) : Inv X pins σ H s := ⟨I.ok.unwish, I.os, I.bare, I.base, I.loc, I.cell, I.free, I.freeC, I.pin, I.hok, I.len⟩
theorem SP.unwish {D : Ends} {f : Flow} {s' : Shared} (h : SP (X.wish E) pins D f s') : SP X pins D f s' := by
  cases f with
  | next => obtain ⟨σ', H', I, q⟩ := h; exact ⟨σ', H', I.unwish, q⟩
  | brk => obtain ⟨σ', H', I, q⟩ := h; exact ⟨σ', H', I.unwish, q⟩
  | cont => obtain ⟨σ', H', I, q⟩ := h; exact ⟨σ', H', I.unwish, q⟩
  | ret u => obtain ⟨v, σ', H', I, r, q⟩ := h; exact ⟨v, σ', H', I.unwish, r, q⟩
theorem PE.nox {e : Expr} {t : TE} (h : PE X.nox e t) : PE X e t := fun pins s σ H Q I hw =>
  wpAny_mono (h pins s σ H Q (I.wish _) hw) (fun _ _ ⟨v, H', I', r, q⟩ => ⟨v, H', I'.unwish, r, q⟩) fun _ _ z => False.elim z
theorem PT.nox {e : Expr} {t : TT} (h : PT X.nox e t) : PT X e t := fun pins s σ H Q I hw =>
  wpAny_mono (h pins s σ H Q (I.wish _) hw) (fun _ _ ⟨H', I', q⟩ => ⟨H', I'.unwish, q⟩) fun _ _ z => False.elim z
theorem PSs.nox {st : List Stmt} {t : TS} (h : PSs X.nox st t) : PSs X st t := fun pins s σ H D I hw =>
  wpAny_mono (h pins s σ H D (I.wish _) hw) (fun _ _ q => q.unwish) fun _ _ z => False.elim z
end

/-! ### blocks and small statements -/
section
variable {X : Cx} {st : Stmt} {rest : List Stmt} {t u : TS} {e : Expr} {te : TE} {pos : Pos}
def tNext : TS := fun D σ H => D.nx σ H
def tSeq (t u : TS) : TS := fun D σ H => t { D with nx := u D } σ H
theorem pss_nil : PSs X [] tNext := fun _ _ σ H _ I h => wpAny_execs_nil ⟨σ, H, I, h⟩
theorem pss_cons (h1 : PS X st t) (h2 : PSs X rest u) : PSs X (st :: rest) (tSeq t u) := by
  intro pins s σ H D I h
  refine wpAny_execs_cons (thn (h1 pins s σ H { D with nx := u D } I h) fun f s1 q => ?_)
  cases f with
  | next =>
    obtain ⟨σ', H', I', q⟩ := q
    exact h2 pins s1 σ' H' D I' q
  | ret v => exact q
  | brk => exact q
  | cont => exact q
theorem pss_one (h1 : PS X st t) : PSs X [st] t := by
  intro pins s σ H D I h
  refine wpAny_execs_cons (thn (h1 pins s σ H D I h) fun f s1 q => ?_)
  cases f with
  | next => exact wpAny_execs_nil q
  | ret v => exact q
  | brk => exact q
  | cont => exact q
def tBreak : TS := fun D σ H => D.bk σ H
def tCont : TS := fun D σ H => D.ct σ H
theorem ps_pass : PS X (.Pass pos) tNext := fun _ _ σ H _ I h => wpAny_Pass ⟨σ, H, I, h⟩
theorem ps_break : PS X (.Break pos) tBreak := fun _ _ σ H _ I h => wpAny_Break ⟨σ, H, I, h⟩
theorem ps_continue : PS X (.Continue pos) tCont := fun _ _ σ H _ I h => wpAny_Continue ⟨σ, H, I, h⟩
/-- in a def's body nothing is shown -/
theorem Inv.quiet {pins : List (Addr × Obj)} {σ : St} {H : Hp} {s : Shared} (I : Inv X pins σ H s) : interactive X.env = false := by simp [interactive, I.ok.kind]
/-- a docstring -/
theorem ps_doc {x j pos pos'} : PS X (.Expr (.Constant (.str x) j pos) pos') tNext := fun _ s σ H _ I h => wpAny_Expr (Calls.Constant_str (show SP X _ _ .next { s with toks := s.toks + 1 } from ⟨σ, H, I.tok _, h⟩)) I.quiet
/-- an expression whose value is dropped -/
def tDrop (te : TE) : TS := fun D σ H => te σ H fun _ H1 => D.nx σ H1
theorem ps_expr (he : PE X e te) (hs : swapsWith e none pos.line X.env = pure false := by rfl) : PS X (.Expr e pos) (tDrop te) := by
  intro pins s σ H D I h
  exact wpAny_Expr_any (thn (he pins s σ H _ I h) fun v s1 ⟨x, H1, I1, r1, q1⟩ => ⟨σ, H1, I1, q1⟩) I.quiet hs
def tRet (te : TE) : TS := fun D σ H => te σ H D.rt
theorem ps_ret (he : PE X e te) : PS X (.Return (some e) pos) (tRet te) := by
  intro pins s σ H D I h
  exact wpAny_Return_some (thn (he pins s σ H _ I h) fun v s1 ⟨x, H1, I1, r1, q1⟩ => ⟨x, σ, H1, I1, r1, q1⟩)
def tRetN : TS := fun D _ H => D.rt .non H
theorem ps_retN : PS X (.Return none pos) tRetN := fun _ _ σ H _ I h => wpAny_Return_none ⟨.non, σ, H, I, rfl, h⟩
def tIfS (c : TT) (t u : TS) : TS := fun D σ H => c σ H fun b H1 => if b = true then t D σ H1 else u D σ H1
theorem ps_if {c : Expr} {a b : List Stmt} {tc : TT} (hc : PT X c tc) (ha : PSs X a t) (hb : PSs X b u) : PS X (.If c a b pos) (tIfS tc t u) := by
  intro pins s σ H D I h
  refine wpAny_If (thn (hc pins s σ H _ I h) fun d s1 ⟨H1, I1, q1⟩ => ?_)
  cases d with
  | true => exact ha pins s1 σ H1 D I1 q1
  | false => exact hb pins s1 σ H1 D I1 q1
/-- code that the proof never comes to -/
def tNever : TS := fun _ _ _ => False
theorem ps_never : PS X st tNever := fun _ _ _ _ _ _ h => h.elim
theorem pss_never {sts : List Stmt} : PSs X sts tNever := fun _ _ _ _ _ _ h => h.elim
end

/-! ### targets -/
abbrev TG := V → St → Hp → (St → Hp → Prop) → Prop
abbrev TGs := List V → St → Hp → (St → Hp → Prop) → Prop
def PG (X : Cx) (target : Expr) (t : TG) : Prop :=
  ∀ (pins : List (Addr × Obj)) (s : Shared) (σ : St) (H : Hp) (v : V) (u : Value) (Q : St → Hp → Prop), Inv X pins σ H s → RelV v u → t v σ H Q →
    wpAny (model X.prog X.w) X.A (assign target X.env u) (fun _ s' => ∃ σ' H', Inv X pins σ' H' s' ∧ Q σ' H') X.xe s
/-- several targets, one after another -/
def PGs (X : Cx) (ts : List Expr) (t : TGs) : Prop :=
  ∀ (pins : List (Addr × Obj)) (s : Shared) (σ : St) (H : Hp) (vs : List V) (us : List Value) (Q : St → Hp → Prop), Inv X pins σ H s → Vals vs us → t vs σ H Q →
    wpAny (model X.prog X.w) X.A (assignInOrder ((assignEach ts X.env).map (·.2)) us) (fun _ s' => ∃ σ' H', Inv X pins σ' H' s' ∧ Q σ' H') X.xe s
/-- o[i] = v, by values -/
abbrev TSet := V → V → V → Hp → (Hp → Prop) → Prop
def PSet (X : Cx) (t : TSet) : Prop :=
  ∀ (pins : List (Addr × Obj)) (s : Shared) (σ : St) (H : Hp) (o i v : V) (ov iv u : Value) (Q : Hp → Prop), Inv X pins σ H s → RelV o ov → RelV i iv → RelV v u → t o i v H Q →
    wpAny (model X.prog X.w) X.A (setItem ov iv u) (fun _ s' => ∃ H', Inv X pins σ H' s' ∧ Q H') X.xe s
/-- a op= b, by values -/
abbrev TIp := V → V → Hp → VK → Prop
def PIp (X : Cx) (op : Operator) (t : TIp) : Prop :=
  ∀ (pins : List (Addr × Obj)) (s : Shared) (σ : St) (H : Hp) (x y : V) (v u : Value) (Q : VK), Inv X pins σ H s → RelV x v → RelV y u → t x y H Q →
    wpAny (model X.prog X.w) X.A (inplaceOp op v u) (EP X pins σ Q) X.xe s
section
variable {X : Cx} {pos : Pos}
def gName (i : Nat) : TG := fun v σ H Q => Q (σ.set i (some v)) H
theorem pg_name {i : Nat} {x : Str} (hN : X.N.Nodup) (hi : X.N[i]? = some x) (hx : Loc X.env.scope x) (hf : X.fn x = true ∨ X.env.scope.names.lookup x = some .local := by first | exact .inl rfl | exact .inr rfl | assumption) : PG X (.Name x pos) (gName i) := by
  intro pins s σ H v u Q I r h
  exact wpAny_assign_Name (store_ok I hN hi hx r (fun s' I' => ⟨_, H, I', h⟩) hf)
def gNil : TGs := fun vs σ H Q => vs = [] ∧ Q σ H
def gCons (t : TG) (u : TGs) : TGs := fun vs σ H Q => ∃ v r, vs = v :: r ∧ t v σ H fun σ' H' => u r σ' H' Q
theorem pgs_nil : PGs X [] gNil := by
  intro pins s σ H vs us Q I r h
  obtain ⟨e, h⟩ := h
  subst e
  cases r
  exact assignInOrder_nil ⟨σ, H, I, h⟩
theorem pgs_cons {e : Expr} {es : List Expr} {t : TG} {u : TGs} (h1 : PG X e t) (h2 : PGs X es u)
    (hs : (assignEach (e :: es) X.env).map (·.2) = assign e X.env :: (assignEach es X.env).map (·.2) := by rfl) : PGs X (e :: es) (gCons t u) := by
  intro pins s σ H vs us Q I r h
  obtain ⟨v, vr, e1, h⟩ := h
  subst e1
  cases r with
  | cons r rr =>
    rw [hs]
    refine assignInOrder_cons (thn (h1 pins s σ H _ _ _ I r h) fun _ s1 ⟨σ1, H1, I1, q1⟩ => ?_)
    exact h2 pins s1 σ1 H1 _ _ Q I1 rr q1
/-- (a, b, ..) = a tuple of that length -/
def gTup (K : PySem.W.Frag) (n : Nat) (t : TGs) : TG := fun v σ H Q => ∃ a xs, v = .ref a ∧ SqT K H a xs ∧ xs.length = n ∧ t xs σ H Q
theorem pg_tup {es : List Expr} {k : Nat} {t : TGs} {n : Nat} (hc : X.calm = true) (h : PGs X es t)
    (hn : (assignEach es X.env).length = n := by rfl) (hst : (assignEach es X.env).findIdx? (·.1) = none := by rfl) : PG X (.Tuple es k pos) (gTup X.K n t) := by
  intro pins s σ H v u Q I r hw
  obtain ⟨a, xs, e1, hq, hl, hw⟩ := hw
  subst e1
  cases r
  obtain ⟨its, rv, ht, hz⟩ := I.tuple hq
  refine assign_Tuple_tuple (I.ok.hd hc) ht (by simp [hn, ← hl, rv.length]) hst fun h' hx => ?_
  have I1 : Inv X pins σ H { s with heap := h' } := I.kept (t' := s.toks) fun b o e => hx b o (Nat.ne_of_lt (Heap.lt_size e)) e
  exact h pins _ σ H xs _ Q I1 (by simpa using rv) hw
/-- o[i] = .. -/
def gSub (to ti : TE) (t : TSet) : TG := fun v σ H Q => to σ H fun o H1 => ti σ H1 fun i H2 => t o i v H2 fun H3 => Q σ H3
theorem pg_sub {o i : Expr} {to ti : TE} {t : TSet} (ho : PE X o to) (hi : PE X i ti) (hs : PSet X t)
    (ha : ∀ v, assign (.Subscript o i pos) X.env v = (do
      let ov ← holding [v] (eval o X.env)
      let iv ← holding [v, ov] (eval i X.env)
      standAt pos
      holding [v, ov, iv] (setItem ov iv v)
      release [v, ov, iv] []) := by intro _; rfl) : PG X (.Subscript o i pos) (gSub to ti t) := by
  intro pins s σ H v u Q I r h
  rw [ha]
  refine wpAny_bind (wpAny_holding (thn (ho pins s σ H _ I h) fun ov s1 ⟨x, H1, I1, r1, q1⟩ => ?_))
  refine wpAny_bind (wpAny_holding (thn (hi pins s1 σ H1 _ I1 q1) fun iv s2 ⟨y, H2, I2, r2, q2⟩ => ?_))
  refine wpAny_bind (wpAny_standAt (wpAny_bind (wpAny_holding (thn (hs pins s2 σ H2 x y v ov iv u _ I2 r1 r2 r q2) fun _ s3 ⟨H3, I3, q3⟩ => ?_))))
  exact wpAny_release ⟨σ, H3, I3, q3⟩
/-- target = value -/
def tAsg (te : TE) (g : TG) : TS := fun D σ H => te σ H fun x H1 => g x σ H1 D.nx
theorem ps_asg {tg e : Expr} {te : TE} {g : TG} (he : PE X e te) (hg : PG X tg g) (hs : swapsWithSole [tg] e pos.line X.env = pure false := by rfl) (hw : swappedStores [tg] e X.env = pure none := by rfl)
    (h1 : (assignEach [tg] X.env).map (·.2) = [assign tg X.env] := by rfl) : PS X (.Assign [tg] e pos) (tAsg te g) := by
  intro pins s σ H D I h
  refine wpAny_Assign_stores (thn (he pins s σ H _ I h) fun v s1 ⟨x, H1, I1, r1, q1⟩ => ?_) hs hw
  rw [h1]
  exact thn (hg pins s1 σ H1 x v _ I1 r1 q1) fun _ s2 q => q
/-- name = value -/
theorem ps_set {i : Nat} {x : Str} {e : Expr} {te : TE} {pos' : Pos} (hN : X.N.Nodup) (hi : X.N[i]? = some x) (hx : Loc X.env.scope x) (he : PE X e te) (hs : swapsWith e (some (.Name x pos')) pos.line X.env = pure false := by rfl) (hf : X.fn x = true ∨ X.env.scope.names.lookup x = some .local := by first | exact .inl rfl | exact .inr rfl | assumption) :
    PS X (.Assign [.Name x pos'] e pos) (tAsg te (gName i)) := by
  intro pins s σ H D I h
  refine wpAny_Assign_Name (thn (he pins s σ H _ I h) fun v s1 ⟨y, H1, I1, r1, q1⟩ => ?_) hs
  exact store_ok I1 hN hi hx r1 (fun s2 I2 => ⟨_, H1, I2, q1⟩) hf
/-- a, b = x, y with plain local names: stored from the right; the pair itself is not tracked (the opening rows as in PyProof/Rows/TupAssign.lean:23) -/
def tPar (i j : Nat) (ta : TA) : TS := fun D σ H => ta σ H fun vs H1 => ∃ v w, vs = [v, w] ∧ D.nx ((σ.set i (some v)).set j (some w)) H1
theorem ps_par {i j : Nat} {x y : Str} {a b : Expr} {ta : TA} {px py pt : Pos} {kt k2 pt2} (hc : X.calm = true) (hN : X.N.Nodup) (hi : X.N[i]? = some x) (hj : X.N[j]? = some y) (hij : i ≠ j)
    (hx : X.env.scope.names.lookup x = some .local) (hy : X.env.scope.names.lookup y = some .local) (ha : PA X [a, b] ta)
    (hw : swappedStores [.Tuple [.Name x px, .Name y py] kt pt] (.Tuple [a, b] k2 pt2) X.env = pure (some [x, y]))
    (hs : swapsWithSole [.Tuple [.Name x px, .Name y py] kt pt] (.Tuple [a, b] k2 pt2) pos.line X.env = pure false := by rfl) :
    PS X (.Assign [.Tuple [.Name x px, .Name y py] kt pt] (.Tuple [a, b] k2 pt2) pos) (tPar i j ta) := by
  intro pins s σ H D I h
  rw [exec_Assign_arm]
  refine wpAny_bind (wpAny_standAt ?_)
  rw [hs]
  refine wpAny_bind (wpAny_pure ?_)
  rw [if_neg (by decide)]
  refine wpAny_bind (Tuple_ (thn (ha _ pins s σ H _ I h) fun us s1 ⟨vs, H1, I1, r1, q1⟩ => ?_))
  obtain ⟨v, w, e1, q1⟩ := q1
  subst e1
  obtain ⟨u1, u2, rfl, rv, rw'⟩ : ∃ u1 u2, us = [u1, u2] ∧ RelV v u1 ∧ RelV w u2 := by
    cases r1 with
    | cons p q =>
      cases q with
      | cons p' q' =>
        cases q'
        exact ⟨_, _, rfl, p, p'⟩
  refine wpAny_newObj_type ?_ (by show 2 ≤ sizeLine; decide)
  have I2 : Inv X pins σ H1 { s1 with heap := s1.heap.push { cls := .type "tuple", data := .seq [u1, u2].toArray } } := I1.kept (t' := s1.toks) fun b o e => Heap.get?_push_of_some _ e
  rw [hw]
  refine wpAny_bind (wpAny_pure ?_)
  show wpAny (model X.prog X.w) X.A (do rule "assign.swapped-stores"; let items ← unpackItems (.ref s1.heap.objs.size) 2 none; assignInOrder [fun v => bindName X.env y v, fun v => bindName X.env x v] items.reverse; pure Flow.next) _ _ _
  refine wpAny_bind (wpAny_rule (wpAny_bind (unpackItems_tuple (items := #[u1, u2]) (I.ok.hd hc) (IsTup.new s1.heap _) fun h' hx' => ?_)))
  have I3 := I2.kept (h' := h') (t' := s1.toks) fun b o e => hx' b o (Nat.ne_of_lt (Heap.lt_size e)) e
  show wpAny _ _ (assignInOrder [fun v => bindName X.env y v, fun v => bindName X.env x v] [u2, u1] >>= fun _ => pure Flow.next) _ _ _
  refine wpAny_bind (assignInOrder_cons (wpAny_bindName (store_ok I3 hN hj (.inl hy) rw' (fun s2 I4 => ?_) (.inr hy))))
  refine assignInOrder_cons (wpAny_bindName (store_ok I4 hN hi (.inl hx) rv (fun s3 I5 => assignInOrder_nil (wpAny_pure ?_)) (.inr hx)))
  rw [List.set_comm _ _ (Ne.symm hij)] at I5
  exact ⟨_, H1, I5, q1⟩
/-- name op= e -/
def tAug (i : Nat) (te : TE) (ti : TIp) : TS := fun D σ H => ∃ x, σ[i]? = some (some x) ∧ te σ H fun y H1 => ti x y H1 fun z H2 => D.nx (σ.set i (some z)) H2
theorem ps_aug {i : Nat} {x : Str} {e : Expr} {te : TE} {op : Operator} {ti : TIp} {pos' : Pos} (hN : X.N.Nodup) (hi : X.N[i]? = some x) (hx : Loc X.env.scope x) (he : PE X e te) (ho : PIp X op ti) (hf : X.fn x = true ∨ X.env.scope.names.lookup x = some .local := by first | exact .inl rfl | exact .inr rfl | assumption) :
    PS X (.AugAssign (.Name x pos') op e pos) (tAug i te ti) := by
  intro pins s σ H D I h
  obtain ⟨v, e1, h⟩ := h
  obtain ⟨m, hn, hl⟩ := I.loc
  have vis : Vis X.env.scope x := by rcases hx with k | k; exact .inl k; exact .inr (.inl k)
  obtain ⟨u, r, l⟩ := hl i x v hi e1 vis
  refine wpAny_AugAssign_Name ?_
  have go : wpAny (model X.prog X.w) X.A (eval e X.env) (fun w s₂ => wpAny (model X.prog X.w) X.A (inplaceOp op u w) (fun r s₃ => wpAny (model X.prog X.w) X.A (storeName X.env x r) (fun _ => SP X pins D .next) X.xe s₃) X.xe s₂) X.xe s := by
    refine thn (he pins s σ H _ I h) fun w s1 ⟨y, H1, I1, r1, q1⟩ => ?_
    refine thn (ho pins s1 σ H1 v y u w _ I1 r r1 q1) fun z s2 ⟨zv, H2, I2, r2, q2⟩ => ?_
    exact store_ok I2 hN hi hx r2 (fun s3 I3 => ⟨_, H2, I3, q2⟩) hf
  rcases l with ⟨hk, hm⟩ | ⟨hk, c, hc, hcell⟩
  · exact wpAny_loadName_local I.ok.kind hk hn hm go
  · rcases hk with hk | hk
    · exact wpAny_loadName_cell I.ok.kind hk hc hcell go
    · rcases hx with k | k
      · have : X.env.scope.names.lookup x = some .free := hk
        rw [k] at this; cases this
      · have : X.env.scope.names.lookup x = some .free := hk
        rw [k] at this; cases this
/-- o[i] op= e -/
def tAugS (to ti te : TE) (tget : V → V → Hp → VK → Prop) (tip : TIp) (tset : TSet) : TS := fun D σ H => to σ H fun o H1 => ti σ H1 fun i H2 => tget o i H2 fun x H3 => te σ H3 fun y H4 => tip x y H4 fun z H5 => tset o i z H5 fun H6 => D.nx σ H6
/-- o[i], by values -/
def PGet (X : Cx) (t : V → V → Hp → VK → Prop) : Prop :=
  ∀ (pins : List (Addr × Obj)) (s : Shared) (σ : St) (H : Hp) (o i : V) (ov iv : Value) (Q : VK), Inv X pins σ H s → RelV o ov → RelV i iv → t o i H Q →
    wpAny (model X.prog X.w) X.A (getItem ov iv) (EP X pins σ Q) X.xe s
theorem ps_augS {o i e : Expr} {to ti te : TE} {tget : V → V → Hp → VK → Prop} {tip : TIp} {tset : TSet} {op : Operator} {tpos : Pos} (ho : PE X o to) (hi : PE X i ti) (hg : PGet X tget) (he : PE X e te) (hp : PIp X op tip) (hs : PSet X tset)
    (ha : ∀ ov iv new, augStore i ov iv new = (do holding [new, ov, iv] (setItem ov iv new); release [new, ov, iv] []; pure .next) := by intros; rfl) : PS X (.AugAssign (.Subscript o i tpos) op e pos) (tAugS to ti te tget tip tset) := by
  intro pins s σ H D I h
  refine wpAny_AugAssign_SubscriptAny (thn (ho pins s σ H _ I h) fun ov s1 ⟨x1, H1, I1, r1, q1⟩ => ?_) ha
  refine thn (hi pins s1 σ H1 _ I1 q1) fun iv s2 ⟨x2, H2, I2, r2, q2⟩ => ?_
  refine thn (hg pins s2 σ H2 x1 x2 ov iv _ I2 r1 r2 q2) fun old s3 ⟨x3, H3, I3, r3, q3⟩ => ?_
  refine thn (he pins s3 σ H3 _ I3 q3) fun v s4 ⟨x4, H4, I4, r4, q4⟩ => ?_
  refine thn (hp pins s4 σ H4 x3 x4 old v _ I4 r3 r4 q4) fun new s5 ⟨x5, H5, I5, r5, q5⟩ => ?_
  exact thn (hs pins s5 σ H5 x1 x2 x5 ov iv new _ I5 r1 r2 r5 q5) fun _ s6 ⟨H6, I6, q6⟩ => ⟨σ, H6, I6, q6⟩
/-- ints -/
def ipI (f : Int → Int → Int) : TIp := fun x y H Q => ∃ i j, x = .int i ∧ y = .int j ∧ Q (.int (f i j)) H
theorem ip_add : PIp X .Add (ipI fun i j => i + j) := by
  intro pins s σ H x y v u Q I r1 r2 h
  obtain ⟨i, j, e1, e2, q⟩ := h
  subst e1; subst e2
  obtain ⟨t, rfl⟩ := r1
  obtain ⟨t', rfl⟩ := r2
  exact iadd_int ⟨.int _, H, I.tok _, ⟨_, rfl⟩, q⟩
theorem ip_sub : PIp X .Sub (ipI fun i j => i - j) := by
  intro pins s σ H x y v u Q I r1 r2 h
  obtain ⟨i, j, e1, e2, q⟩ := h
  subst e1; subst e2
  obtain ⟨t, rfl⟩ := r1
  obtain ⟨t', rfl⟩ := r2
  exact isub_int ⟨.int _, H, I.tok _, ⟨_, rfl⟩, q⟩
end

/-! ### while -/
section
variable {X : Cx} {pos : Pos}
/-- the invariant W with its measure -/
def tWhile (c : TT) (tb : TS) : TS := fun D σ H => ∃ W : Nat → St → Hp → Prop, (∃ m, W m σ H) ∧ ∀ m σ H, W m σ H →
  c σ H fun b H1 => if b = true then ∃ N : St → Hp → Prop, (∀ σ' H', N σ' H' → ∃ m', m' < m ∧ W m' σ' H') ∧ tb { D with nx := N, ct := N, bk := D.nx } σ H1 else D.nx σ H1
theorem ps_while {c : Expr} {body : List Stmt} {tc : TT} {tb : TS} (hp : PassesOwn (model X.prog X.w) X.A X.env X.xe) (hc : PT X c tc) (hb : PSs X body tb) : PS X (.While c body [] pos) (tWhile tc tb) := by
  intro pins s σ H D I h
  obtain ⟨W, ⟨m0, w0⟩, turn⟩ := h
  refine wpAny_While (codeAny_whileLoop (fun n s' => ∃ σ' H', Inv X pins σ' H' s' ∧ W n σ' H') ?_ m0 ⟨σ, H, I, w0⟩)
  rintro n s1 ⟨σ1, H1, I1, w1⟩
  refine wpAny_passesOwn hp (thn (hc pins s1 σ1 H1 _ I1 (turn n σ1 H1 w1)) fun b s2 ⟨H2, I2, q2⟩ => ?_)
  cases b with
  | true =>
    obtain ⟨N, hN, q2⟩ := q2
    rw [if_pos rfl]
    refine wpAny_passesOwn hp (thn (hb pins s2 σ1 H2 _ I2 q2) fun f s3 q3 => ?_)
    cases f with
    | next =>
      obtain ⟨σ3, H3, I3, n3⟩ := q3
      obtain ⟨m', hm, w3⟩ := hN σ3 H3 n3
      exact ⟨m', hm, σ3, H3, I3, w3⟩
    | cont =>
      obtain ⟨σ3, H3, I3, n3⟩ := q3
      obtain ⟨m', hm, w3⟩ := hN σ3 H3 n3
      exact ⟨m', hm, σ3, H3, I3, w3⟩
    | brk => exact q3
    | ret v => exact q3
  | false =>
    rw [if_neg Bool.false_ne_true]
    exact wpAny_execs_nil ⟨σ1, H2, I2, q2⟩
end

/-! ### what a loop or a comprehension walks -/
/-- at turn i: it yields x (the heap may grow), or it stops -/
structure It where
  go : Nat → Hp → Prop
  yld : Nat → Hp → V → Hp → Prop
  stop : Nat → Hp → Prop
/-- the iterator's own objects may turn: they are not the frame's, not pinned, younger than the entry (or a comprehension's own) -/
def FpOk (X : Cx) (pins : List (Addr × Obj)) (H : Hp) (b : Addr) : Prop :=
  H b = none ∧ b ≠ X.env.locals ∧ b ∉ X.fs ∧ (b ∈ X.ex ∨ X.s₀.heap.objs.size ≤ b) ∧ (∀ x c, X.env.cells.lookup x = some c → c ≠ b) ∧ ∀ p ∈ X.pn ++ pins, p.1 ≠ b
theorem Inv.fpOk {X : Cx} {pins : List (Addr × Obj)} {σ : St} {H H' : Hp} {s : Shared} {b : Addr} (I : Inv X pins σ H s) (hb : s.heap.objs.size ≤ b) (hn : H' b = none) : FpOk X pins H' b := by
  refine ⟨hn, Nat.ne_of_gt (Nat.lt_of_lt_of_le I.lt hb), I.nofs hb, .inr (Nat.le_trans I.sz hb), fun x c e z => ?_, fun p hp z => ?_⟩
  · obtain ⟨v, q⟩ := I.cell x c e
    exact absurd (Nat.lt_of_lt_of_le q.lt (by rw [z]; exact hb)) (Nat.lt_irrefl _)
  · exact absurd (Nat.lt_of_lt_of_le (Heap.lt_size (I.pin p hp).1) (by rw [z]; exact hb)) (Nat.lt_irrefl _)
structure Turn (P : Program) (w : World) (K : PySem.W.Frag) (tg : Expr) (J : It) (fp : List Addr) (it : Addr) (tn : Nat → Heap → Prop) : Prop where
  mem : it ∈ fp
  obj : ∀ i h, tn i h → ∀ b ∈ fp, ∃ o, h.get? b = some o ∧ ∀ v, o.data ≠ .cell v
  keep : ∀ i h h', tn i h → (∀ b ∈ fp, ∀ o, h.get? b = some o → h'.get? b = some o) → tn i h'
  item : ∀ (X : Cx), X.prog = P → X.w = w → X.K = K → X.calm = true → ∀ (i : Nat) (pins : List (Addr × Obj)) (s : Shared) (σ : St) (H : Hp) (E : Value → Shared → Prop), Inv X pins σ H s → (∀ b ∈ fp, FpOk X pins H b) → tn i s.heap → J.go i H →
    wpAny (model P w) X.A (pyNext (.ref it)) (fun r s1 => ∃ u, r = some u ∧
      wpAny (model P w) X.A (letOwnedTupleGo tg (.ref it) u) (fun _ s2 => ∃ x H', Inv X pins σ H' s2 ∧ RelV x u ∧ J.yld i H x H' ∧ tn (i + 1) s2.heap ∧ ∀ b ∈ fp, H' b = none) E s1) E s
  done : ∀ (X : Cx), X.prog = P → X.w = w → X.K = K → X.calm = true → ∀ (i : Nat) (pins : List (Addr × Obj)) (s : Shared) (σ : St) (H : Hp) (E : Value → Shared → Prop), Inv X pins σ H s → (∀ b ∈ fp, FpOk X pins H b) → tn i s.heap → J.stop i H →
    wpAny (model P w) X.A (pyNext (.ref it)) (fun r s1 => r = none ∧ Inv X pins σ H s1) E s
  self : ∀ (A : Around) (i : Nat) (s : Shared) (Q : Value → Shared → Prop) (E : Value → Shared → Prop), tn i s.heap → Q (.ref it) s → wpAny (model P w) A (pyIter (.ref it)) Q E s
abbrev TI := St → Hp → (It → Hp → Prop) → Prop
/-- an iterator has come -/
def PIE (X : Cx) (pins : List (Addr × Obj)) (σ : St) (tg : Expr) (R : It → Hp → Prop) (itv : Value) (s2 : Shared) : Prop :=
  ∃ (it : Addr) (fp : List Addr) (tn : Nat → Heap → Prop) (J : It) (H' : Hp), itv = .ref it ∧ Inv X pins σ H' s2 ∧ Turn X.prog X.w X.K tg J fp it tn ∧ tn 0 s2.heap ∧ (∀ b ∈ fp, FpOk X pins H' b) ∧ R J H'
def PI (X : Cx) (tg iter : Expr) (wi : TI) : Prop :=
  ∀ (pins : List (Addr × Obj)) (s : Shared) (σ : St) (H : Hp) (R : It → Hp → Prop), Inv X pins σ H s → wi σ H R →
    wpAny (model X.prog X.w) X.A (eval iter X.env) (fun v s1 => wpAny (model X.prog X.w) X.A (pyIter v) (PIE X pins σ tg R) X.xe s1) X.xe s

/-- the step ahead of the store is nothing for an iterator that keeps no tuple -/
theorem go_of {M : Model} {A : Around} {E : Value → Shared → Prop} {s : Shared} {tg : Expr} {it : Addr} {u : Value} {o : Obj} {n : String} {vs : Array Value} {Q : Unit → Shared → Prop} (ho : s.heap.get? it = some o) (hc : o.cls = .type n) (hd : o.data = .fields vs)
    (hn : ["enumerate", "zip", "dict_itemiterator", "dict_reverseitemiterator", "odict_iterator", "itertools.zip_longest", "itertools.pairwise"].contains n = false) (hQ : Q () s) : wpAny M A (letOwnedTupleGo tg (.ref it) u) Q E s := by
  unfold letOwnedTupleGo
  cases tg <;> first
    | exact wpAny_pure hQ
    | (cases u <;> first
        | exact wpAny_pure hQ
        | (refine wpAny_bind (wpAny_load ho ?_)
           rw [hc, hd]
           show wpAny M A (if (["enumerate", "zip", "dict_itemiterator", "dict_reverseitemiterator", "odict_iterator", "itertools.zip_longest", "itertools.pairwise"].contains n && vs[0]? == some (rawInt _)) = true then _ else _) Q E s
           rw [if_neg (by intro h; rw [hn, Bool.false_and] at h; cases h)]
           exact wpAny_pure hQ))

/-- the list at a, as it stands at each turn (a loop may append to it) -/
def Itl (K : PySem.W.Frag) (a : Addr) : It :=
  ⟨fun i H => ∃ xs x, SqL K H a xs ∧ xs[i]? = some x, fun i H x H' => H' = H ∧ ∀ xs, SqL K H a xs → xs[i]? = some x, fun i H => ∃ xs, SqL K H a xs ∧ xs.length ≤ i⟩
def Itt (K : PySem.W.Frag) (a : Addr) : It :=
  ⟨fun i H => ∃ xs x, SqT K H a xs ∧ xs[i]? = some x, fun i H x H' => H' = H ∧ ∀ xs, SqT K H a xs → xs[i]? = some x, fun i H => ∃ xs, SqT K H a xs ∧ xs.length ≤ i⟩
/-- lo, lo + 1, .. (n of them) -/
def Itr (lo : Int) (n : Nat) : It := ⟨fun i _ => i < n, fun i H x H' => H' = H ∧ x = .int (lo + i), fun i _ => n ≤ i⟩
theorem turn_list {P : Program} {w : World} {K : PySem.W.Frag} {tg : Expr} (a it : Addr) : Turn P w K tg (Itl K a) [it] it (fun i h => h.IsListIter it a i) where
  mem := by simp
  obj := fun i h st b hb => by
    have e : b = it := by simpa using hb
    subst e
    obtain ⟨o, e, c, d⟩ := st
    exact ⟨o, e, fun v z => by rw [d] at z; cases z⟩
  keep := fun i h h' st k => st.at fun o e => k it (by simp) o e
  item := by
    intro X hP hw hK hc i pins s σ H E I hf st hg
    subst hP hw hK
    obtain ⟨xs, x, hq, hx⟩ := hg
    obtain ⟨its, rv, p, hz⟩ := I.list hq
    obtain ⟨u, hu, ru⟩ := rv.get hx
    obtain ⟨f0, f1, f2, f3, f4, f5⟩ := hf it (by simp)
    refine wpAny_pyNext_list_item st p.isList (x := u) (by simpa using hu) fun h' st' sb => ?_
    have I1 : Inv X pins σ H { s with heap := h' } := I.turned (t' := s.toks) (fun b o hb e => (sb.2 b hb).trans e) f0 f1 f3 f4 f5
    obtain ⟨o, e, c, d⟩ := id st'
    exact ⟨u, rfl, go_of (s := { s with heap := h' }) e c d (by decide) ⟨x, H, I1, ru, ⟨rfl, fun ys hy => by rw [I.list_inj hy hq]; exact hx⟩, st', fun b hb => (hf b hb).1⟩⟩
  done := by
    intro X hP hw hK hc i pins s σ H E I hf st hg
    subst hP hw hK
    obtain ⟨xs, hq, hx⟩ := hg
    obtain ⟨its, rv, p, hz⟩ := I.list hq
    obtain ⟨f0, f1, f2, f3, f4, f5⟩ := hf it (by simp)
    have hl := rv.length
    exact wpAny_pyNext_list_end (I.ok.hd hc) st p.isList (by simp; omega) fun h' eb => ⟨rfl, I.turned (t' := s.toks) (fun b o hb e => eb b o hb e) f0 f1 f3 f4 f5⟩
  self := fun _ _ _ _ _ st h => wpAny_pyIter_listiter st h
theorem turn_tuple {P : Program} {w : World} {K : PySem.W.Frag} {tg : Expr} (a it : Addr) : Turn P w K tg (Itt K a) [it] it (fun i h => h.IsTupleIter it a i) where
  mem := by simp
  obj := fun i h st b hb => by
    have e : b = it := by simpa using hb
    subst e
    obtain ⟨o, e, c, d⟩ := st
    exact ⟨o, e, fun v z => by rw [d] at z; cases z⟩
  keep := fun i h h' st k => st.at fun o e => k it (by simp) o e
  item := by
    intro X hP hw hK hc i pins s σ H E I hf st hg
    subst hP hw hK
    obtain ⟨xs, x, hq, hx⟩ := hg
    obtain ⟨its, rv, p, hz⟩ := I.tuple hq
    obtain ⟨u, hu, ru⟩ := rv.get hx
    obtain ⟨f0, f1, f2, f3, f4, f5⟩ := hf it (by simp)
    refine wpAny_pyNext_tuple_item st (show s.heap.IsTuple a its.toArray from p) (x := u) (by simpa using hu) fun h' st' sb => ?_
    have I1 : Inv X pins σ H { s with heap := h' } := I.turned (t' := s.toks) (fun b o hb e => (sb.2 b hb).trans e) f0 f1 f3 f4 f5
    obtain ⟨o, e, c, d⟩ := id st'
    exact ⟨u, rfl, go_of (s := { s with heap := h' }) e c d (by decide) ⟨x, H, I1, ru, ⟨rfl, fun ys hy => by rw [I.tuple_inj hy hq]; exact hx⟩, st', fun b hb => (hf b hb).1⟩⟩
  done := by
    intro X hP hw hK hc i pins s σ H E I hf st hg
    subst hP hw hK
    obtain ⟨xs, hq, hx⟩ := hg
    obtain ⟨its, rv, p, hz⟩ := I.tuple hq
    obtain ⟨f0, f1, f2, f3, f4, f5⟩ := hf it (by simp)
    have hl := rv.length
    exact wpAny_pyNext_tuple_end (I.ok.hd hc) st (show s.heap.IsTuple a its.toArray from p) (by simp; omega) fun h' eb => ⟨rfl, I.turned (t' := s.toks) (fun b o hb e => eb b o hb e) f0 f1 f3 f4 f5⟩
  self := fun _ _ _ _ _ st h => wpAny_pyIter_tupleiter st h
theorem turn_range {P : Program} {w : World} {K : PySem.W.Frag} {tg : Expr} (it : Addr) (lo : Int) (n : Nat) : Turn P w K tg (Itr lo n) [it] it (fun i h => IsRangeIter h it (lo + (i : Nat) * 1) ((n : Int) - (i : Nat)) 1) where
  mem := by simp
  obj := fun i h st b hb => by
    have e : b = it := by simpa using hb
    subst e
    exact ⟨_, st, fun v z => by
      have z' : Data.fields _ = Data.cell v := z
      cases z'⟩
  keep := fun i h h' st k => k it (by simp) _ st
  item := by
    intro X hP hw hK hc i pins s σ H E I hf st hg
    subst hP hw hK
    obtain ⟨f0, f1, f2, f3, f4, f5⟩ := hf it (by simp)
    have W := Walks.range (prog := X.prog) (w := X.w) (I.ok.hd hc) it lo 1 n
    refine W.item i s _ _ hg st fun v h' tk hv st' kk => ?_
    obtain ⟨t, rfl⟩ := hv
    have I1 : Inv X pins σ H { s with heap := h', toks := tk } := I.turned (fun b o hb e => kk b o (by simpa using hb) e) f0 f1 f3 f4 f5
    refine ⟨_, rfl, go_of (s := { s with heap := h', toks := tk }) (n := "range_iterator") st' rfl rfl (by decide) ⟨.int (lo + i), H, I1, ⟨t, ?_⟩, ⟨rfl, rfl⟩, st', fun b hb => (hf b hb).1⟩⟩
    rw [Int.mul_one]
  done := by
    intro X hP hw hK hc i pins s σ H E I hf st hg
    subst hP hw hK
    obtain ⟨f0, f1, f2, f3, f4, f5⟩ := hf it (by simp)
    exact wpAny_pyNext_range_end (I.ok.hd hc) st (by have : n ≤ i := hg; omega) fun h' eb => ⟨rfl, I.turned (t' := s.toks) (fun b o hb e => eb b o hb e) f0 f1 f3 f4 f5⟩
  self := fun _ _ _ _ _ st h => wpAny_pyIter_rangeiter st h
end L2

namespace L2
open PySem PySem.Spec PyProof.Rows
section
variable {X : Cx} {tg : Expr}
def iList (K : PySem.W.Frag) (tl : TE) : TI := fun σ H R => tl σ H fun x H1 => ∃ a, x = .ref a ∧ (∃ xs, SqL K H1 a xs) ∧ R (Itl K a) H1
def iTup (K : PySem.W.Frag) (tl : TE) : TI := fun σ H R => tl σ H fun x H1 => ∃ a, x = .ref a ∧ (∃ xs, SqT K H1 a xs) ∧ R (Itt K a) H1
theorem pi_list {l : Expr} {tl : TE} (hl : PE X l tl) : PI X tg l (iList X.K tl) := by
  intro pins s σ H R I h
  refine thn (hl pins s σ H _ I h) fun v s1 ⟨x, H1, I1, r1, q1⟩ => ?_
  obtain ⟨a, e, ⟨xs, hq⟩, q⟩ := q1
  subst e
  cases r1
  obtain ⟨its, rv, p, hz⟩ := I1.list hq
  refine wpAny_pyIter_list p.isList ?_
  refine ⟨s1.heap.objs.size, [s1.heap.objs.size], _, _, H1, rfl, I1.kept (t' := s1.toks) fun b o e => Heap.get?_push_of_some _ e, turn_list a _, ⟨_, Heap.get?_push_size _ rfl, rfl, rfl⟩, fun b hb => ?_, q⟩
  have e : b = s1.heap.objs.size := by simpa using hb
  subst e
  exact I1.fpOk (Nat.le_refl _) (I1.hok.fresh (Nat.le_refl _))
theorem pi_tup {l : Expr} {tl : TE} (hl : PE X l tl) : PI X tg l (iTup X.K tl) := by
  intro pins s σ H R I h
  refine thn (hl pins s σ H _ I h) fun v s1 ⟨x, H1, I1, r1, q1⟩ => ?_
  obtain ⟨a, e, ⟨xs, hq⟩, q⟩ := q1
  subst e
  cases r1
  obtain ⟨its, rv, p, hz⟩ := I1.tuple hq
  refine wpAny_pyIter_tuple (show s1.heap.IsTuple a its.toArray from p) ?_
  refine ⟨s1.heap.objs.size, [s1.heap.objs.size], _, _, H1, rfl, I1.kept (t' := s1.toks) fun b o e => Heap.get?_push_of_some _ e, turn_tuple a _, ⟨_, Heap.get?_push_size _ rfl, rfl, rfl⟩, fun b hb => ?_, q⟩
  have e : b = s1.heap.objs.size := by simpa using hb
  subst e
  exact I1.fpOk (Nat.le_refl _) (I1.hok.fresh (Nat.le_refl _))
/-- a range object just made, walked -/
theorem range_it {pins : List (Addr × Obj)} {σ : St} {H : Hp} {s : Shared} {R : It → Hp → Prop} {E : Value → Shared → Prop} {lo hi : Int} {t u v : Tok} {tk : Nat} (I : Inv X pins σ H s) (h1 : -(2 ^ 62) ≤ lo) (h2 : lo < 2 ^ 62) (h3 : -(2 ^ 62) ≤ hi) (h4 : hi < 2 ^ 62)
    (q : R (Itr lo (hi - lo).toNat) H) : wpAny (model X.prog X.w) X.A (pyIter (.ref s.heap.objs.size)) (PIE X pins σ tg R) E { s with heap := s.heap.push { cls := .type "range", data := .fields #[.int lo t, .int hi u, .int 1 v] }, toks := tk } := by
  refine wpAny_pyIter_range (IsRange.new ..) (small_one h1 h2 h3 h4) ?_
  have I1 : Inv X pins σ H { s with heap := s.heap.push { cls := .type "range", data := .fields #[.int lo t, .int hi u, .int 1 v] }, toks := tk } := I.kept fun b o e => Heap.get?_push_of_some _ e
  refine ⟨(s.heap.push { cls := .type "range", data := .fields #[.int lo t, .int hi u, .int 1 v] }).objs.size, [(s.heap.push { cls := .type "range", data := .fields #[.int lo t, .int hi u, .int 1 v] }).objs.size], _, _, H, rfl,
    I1.kept (t' := tk) fun b o e => Heap.get?_push_of_some _ e, turn_range _ lo (hi - lo).toNat, ?_, fun b hb => ?_, q⟩
  · have e1 : lo + ((0 : Nat) : Int) * 1 = lo := by simp
    have e2 : (((hi - lo).toNat : Nat) : Int) - ((0 : Nat) : Int) = Builtin.Range.rangeSize lo hi 1 := by rw [rangeSize_one]; split <;> omega
    show IsRangeIter _ _ (lo + ((0 : Nat) : Int) * 1) ((((hi - lo).toNat : Nat) : Int) - ((0 : Nat) : Int)) 1
    rw [e1, e2]
    exact Heap.get?_push_size _ rfl
  · have e : b = (s.heap.push { cls := .type "range", data := .fields #[.int lo t, .int hi u, .int 1 v] }).objs.size := by simpa using hb
    subst e
    exact I1.fpOk (Nat.le_refl _) (I1.hok.fresh (Nat.le_refl _))
def iRng1 (ta : TA) : TI := fun σ H R => ta σ H fun vs H1 => ∃ j : Int, vs = [.int j] ∧ -(2 ^ 62) ≤ j ∧ j < 2 ^ 62 ∧ R (Itr 0 j.toNat) H1
def iRng2 (ta : TA) : TI := fun σ H R => ta σ H fun vs H1 => ∃ i j : Int, vs = [.int i, .int j] ∧ (-(2 ^ 62) ≤ i ∧ i < 2 ^ 62 ∧ -(2 ^ 62) ≤ j ∧ j < 2 ^ 62) ∧ R (Itr i (j - i).toNat) H1
theorem pi_range1 {a : Expr} {ta : TA} {p pos : Pos} (hg : Gl X "range") (hm : X.mg "range" = none) (ha : PA X [a] ta) (hs : starEach [a] X.env = [(false, eval a X.env)] := by rfl) : PI X tg (.Call (.Name "range" p) [a] [] pos) (iRng1 ta) := by
  intro pins s σ H R I h
  refine Call_ (ld_blt I hg hm boot_range (PyProof.Rows.callWith_type1 (thn (ha pos pins s σ H _ I h) fun us s1 ⟨vs, H1, I1, r1, q1⟩ => ?_) hs rfl))
  obtain ⟨j, e, q1, q2, q⟩ := q1
  subst e
  cases r1 with
  | cons r rr =>
    cases rr
    obtain ⟨t, rfl⟩ := r
    exact call_range_1 (range_it I1 (by omega) (by omega) q1 q2 (by simpa using q))
theorem pi_range2 {a b : Expr} {ta : TA} {p pos : Pos} (hg : Gl X "range") (hm : X.mg "range" = none) (ha : PA X [a, b] ta) (hs : starEach [a, b] X.env = [(false, eval a X.env), (false, eval b X.env)] := by rfl) (hs2 : starEach [b] X.env = [(false, eval b X.env)] := by rfl) :
    PI X tg (.Call (.Name "range" p) [a, b] [] pos) (iRng2 ta) := by
  intro pins s σ H R I h
  refine Call_ (ld_blt I hg hm boot_range (PyProof.Rows.callWith_type1 (thn (ha pos pins s σ H _ I h) fun us s1 ⟨vs, H1, I1, r1, q1⟩ => ?_) (by rw [hs, hs2]) (by rw [hs2]; rfl)))
  obtain ⟨i, j, e, ⟨q1, q2, q3, q4⟩, q⟩ := q1
  subst e
  cases r1 with
  | cons r rr =>
    cases rr with
    | cons r' rr =>
      cases rr
      obtain ⟨t, rfl⟩ := r
      obtain ⟨t', rfl⟩ := r'
      exact call_range_2 (range_it I1 q1 q2 q3 q4 q)

/-! ### for -/
/-- W: the invariant by the turn and a measure; N: what the body is to reach -/
def tFor (wi : TI) (g : TG) (tb : TS) : TS := fun D σ H => wi σ H fun J H1 => ∃ W : Nat → Nat → St → Hp → Prop, (∃ m, W 0 m σ H1) ∧ ∀ i m σ H, W i m σ H →
  (J.stop i H ∧ D.nx σ H) ∨ (J.go i H ∧ ∃ N : St → Hp → Prop, (∀ σ' H', N σ' H' → ∃ m', m' < m ∧ W (i + 1) m' σ' H') ∧ ∀ x H', J.yld i H x H' → g x σ H' fun σ2 H2 => tb { D with nx := N, ct := N, bk := D.nx } σ2 H2)
/-- the records at fp as they stand -/
def pinsAt (fp : List Addr) (h : Heap) : List (Addr × Obj) := fp.filterMap fun b => (h.get? b).map fun o => (b, o)
theorem mem_pinsAt {fp : List Addr} {h : Heap} {b : Addr} {o : Obj} (hb : b ∈ fp) (e : h.get? b = some o) : (b, o) ∈ pinsAt fp h := List.mem_filterMap.mpr ⟨b, hb, by rw [e]; rfl⟩
theorem of_pinsAt {fp : List Addr} {h : Heap} {p : Addr × Obj} (hp : p ∈ pinsAt fp h) : p.1 ∈ fp ∧ h.get? p.1 = some p.2 := by
  obtain ⟨b, hb, e⟩ := List.mem_filterMap.mp hp
  cases q : h.get? b with
  | none => rw [q] at e; cases e
  | some o =>
    rw [q] at e
    have e' : (b, o) = p := Option.some.inj e
    subst e'
    exact ⟨hb, q⟩
theorem Inv.pinned {pins : List (Addr × Obj)} {σ : St} {H : Hp} {s : Shared} {fp : List Addr} (I : Inv X pins σ H s) (hf : ∀ b ∈ fp, FpOk X pins H b) (ho : ∀ b ∈ fp, ∃ o, s.heap.get? b = some o ∧ ∀ v, o.data ≠ .cell v) : Inv X (pins ++ pinsAt fp s.heap) σ H s :=
  I.pins_of fun p hp => (List.mem_append.mp hp).elim (fun z => I.pin p (List.mem_append_right _ z)) fun z => by
    obtain ⟨hb, e⟩ := of_pinsAt z
    obtain ⟨f0, f1, f2, _⟩ := hf p.1 hb
    obtain ⟨o, e', d⟩ := ho p.1 hb
    rw [e] at e'; cases e'
    exact ⟨e, f0, f1, f2, d⟩
theorem Inv.unpinned {pins pl : List (Addr × Obj)} {σ : St} {H : Hp} {s : Shared} (I : Inv X (pins ++ pl) σ H s) : Inv X pins σ H s := I.pins_of fun p hp => I.pin p (List.mem_append_right _ (List.mem_append_left _ hp))
theorem ps_for {iter : Expr} {body : List Stmt} {wi : TI} {g : TG} {tb : TS} {pos : Pos} (hp : PassesOwn (model X.prog X.w) X.A X.env X.xe) (hc : X.calm = true) (hi : PI X tg iter wi) (hg : PG X tg g) (hb : PSs X body tb)
    (hs : ∀ x, foldedSetIterable iter X.env x = pure x := by intro _; rfl) : PS X (.For tg iter body [] pos) (tFor wi g tb) := by
  intro pins s σ H D I h
  refine wpAny_For (thn (hi pins s σ H _ I h) fun v s1 h1 => thn h1 fun itv s2 h2 => ?_) hs
  obtain ⟨it, fp, tn, J, H2, e, I2, T, st2, f2, W, ⟨m0, w0⟩, turn⟩ := h2
  subst e
  -- what stays true of the iterator's objects through the loop
  have stat : ∀ {H' : Hp}, (∀ b ∈ fp, H' b = none) → ∀ b ∈ fp, FpOk X pins H' b := fun hn b hb => ⟨hn b hb, (f2 b hb).2⟩
  refine codeAny_forLoop_any (fun n s' => ∃ i σ' H', Inv X pins σ' H' s' ∧ tn i s'.heap ∧ (∀ b ∈ fp, H' b = none) ∧ W i n σ' H') ?_ m0 ⟨0, σ, H2, I2, st2, fun b hb => (f2 b hb).1, w0⟩
  rintro n s3 ⟨i, σ3, H3, I3, st3, fr3, w3⟩
  rcases turn i n σ3 H3 w3 with ⟨stop, qn⟩ | ⟨go, N, hN, step⟩
  · refine wpAny_passesOwn hp (thn (T.done X rfl rfl rfl hc i pins s3 σ3 H3 X.xe I3 (stat fr3) st3 stop) fun r s4 ⟨hr, I4⟩ => ?_)
    subst hr
    exact wpAny_execs_nil ⟨σ3, H3, I4, qn⟩
  · refine wpAny_passesOwn hp (thn (T.item X rfl rfl rfl hc i pins s3 σ3 H3 X.xe I3 (stat fr3) st3 go) fun r s4 ⟨u, hr, h4⟩ => ?_)
    subst hr
    refine wpAny_passesOwn hp (thn h4 fun _ s5 ⟨x, H5, I5, r5, y5, st5, fr5⟩ => ?_)
    have I5' := I5.pinned (stat fr5) (T.obj _ _ st5)
    refine wpAny_passesOwn hp (thn (hg _ s5 σ3 H5 x u _ I5' r5 (step x H5 y5)) fun _ s6 ⟨σ6, H6, I6, q6⟩ => ?_)
    refine wpAny_passesOwn hp (thn (hb _ s6 σ6 H6 _ I6 q6) fun f s7 q7 => ?_)
    have again : ∀ {σ7 : St} {H7 : Hp}, Inv X (pins ++ pinsAt fp s5.heap) σ7 H7 s7 → N σ7 H7 → ∃ m, m < n ∧ ∃ i σ' H', Inv X pins σ' H' s7 ∧ tn i s7.heap ∧ (∀ b ∈ fp, H' b = none) ∧ W i m σ' H' := fun {σ7 H7} I7 n7 => by
      obtain ⟨m', hm, w7⟩ := hN σ7 H7 n7
      refine ⟨m', hm, i + 1, σ7, H7, I7.unpinned, T.keep _ _ _ st5 fun b hb o e => (I7.pin (b, o) (List.mem_append_right _ (List.mem_append_right _ (mem_pinsAt hb e)))).1, fun b hb => ?_, w7⟩
      obtain ⟨o, e, d⟩ := T.obj _ _ st5 b hb
      exact (I7.pin (b, o) (List.mem_append_right _ (List.mem_append_right _ (mem_pinsAt hb e)))).2.1
    cases f with
    | next => obtain ⟨σ7, H7, I7, n7⟩ := q7; exact again I7 n7
    | cont => obtain ⟨σ7, H7, I7, n7⟩ := q7; exact again I7 n7
    | brk => obtain ⟨σ7, H7, I7, q7⟩ := q7; exact ⟨σ7, H7, I7.unpinned, q7⟩
    | ret v => obtain ⟨x7, σ7, H7, I7, r7, q7⟩ := q7; exact ⟨x7, σ7, H7, I7.unpinned, r7, q7⟩
end

/-! ### the forms one uses -/
/-- over a list that the body leaves as it is -/
theorem for_list {K : PySem.W.Frag} {a : Addr} {xs : List V} {g : TG} {tb : TS} {D : Ends} {σ : St} {H : Hp} (Pv : Nat → St → Hp → Prop) (h0 : Pv 0 σ H) (hl : ∀ i σ H, i ≤ xs.length → Pv i σ H → SqL K H a xs)
    (hs : ∀ i x σ H, xs[i]? = some x → Pv i σ H → g x σ H fun σ2 H2 => tb { D with nx := Pv (i + 1), ct := Pv (i + 1), bk := D.nx } σ2 H2) (hd : ∀ σ H, Pv xs.length σ H → D.nx σ H) :
    ∃ W : Nat → Nat → St → Hp → Prop, (∃ m, W 0 m σ H) ∧ ∀ i m σ H, W i m σ H →
      ((Itl K a).stop i H ∧ D.nx σ H) ∨ ((Itl K a).go i H ∧ ∃ N : St → Hp → Prop, (∀ σ' H', N σ' H' → ∃ m', m' < m ∧ W (i + 1) m' σ' H') ∧ ∀ x H', (Itl K a).yld i H x H' → g x σ H' fun σ2 H2 => tb { D with nx := N, ct := N, bk := D.nx } σ2 H2) := by
  refine ⟨fun i m σ H => m = xs.length - i ∧ i ≤ xs.length ∧ Pv i σ H, ⟨xs.length, by simp, Nat.zero_le _, h0⟩, ?_⟩
  rintro i m σ H ⟨rfl, hi, p⟩
  have q := hl i σ H hi p
  by_cases hlt : i < xs.length
  · refine .inr ⟨⟨xs, xs[i], q, by simp [hlt]⟩, Pv (i + 1), fun σ' H' p' => ⟨xs.length - (i + 1), by omega, rfl, hlt, p'⟩, fun x H' y => ?_⟩
    obtain ⟨e, y⟩ := y
    subst e
    exact hs i x σ _ (y xs q) p
  · have e : i = xs.length := by omega
    subst e
    exact .inl ⟨⟨xs, q, Nat.le_refl _⟩, hd σ H p⟩
theorem for_tup {K : PySem.W.Frag} {a : Addr} {xs : List V} {g : TG} {tb : TS} {D : Ends} {σ : St} {H : Hp} (Pv : Nat → St → Hp → Prop) (h0 : Pv 0 σ H) (hl : ∀ i σ H, i ≤ xs.length → Pv i σ H → SqT K H a xs)
    (hs : ∀ i x σ H, xs[i]? = some x → Pv i σ H → g x σ H fun σ2 H2 => tb { D with nx := Pv (i + 1), ct := Pv (i + 1), bk := D.nx } σ2 H2) (hd : ∀ σ H, Pv xs.length σ H → D.nx σ H) :
    ∃ W : Nat → Nat → St → Hp → Prop, (∃ m, W 0 m σ H) ∧ ∀ i m σ H, W i m σ H →
      ((Itt K a).stop i H ∧ D.nx σ H) ∨ ((Itt K a).go i H ∧ ∃ N : St → Hp → Prop, (∀ σ' H', N σ' H' → ∃ m', m' < m ∧ W (i + 1) m' σ' H') ∧ ∀ x H', (Itt K a).yld i H x H' → g x σ H' fun σ2 H2 => tb { D with nx := N, ct := N, bk := D.nx } σ2 H2) := by
  refine ⟨fun i m σ H => m = xs.length - i ∧ i ≤ xs.length ∧ Pv i σ H, ⟨xs.length, by simp, Nat.zero_le _, h0⟩, ?_⟩
  rintro i m σ H ⟨rfl, hi, p⟩
  have q := hl i σ H hi p
  by_cases hlt : i < xs.length
  · refine .inr ⟨⟨xs, xs[i], q, by simp [hlt]⟩, Pv (i + 1), fun σ' H' p' => ⟨xs.length - (i + 1), by omega, rfl, hlt, p'⟩, fun x H' y => ?_⟩
    obtain ⟨e, y⟩ := y
    subst e
    exact hs i x σ _ (y xs q) p
  · have e : i = xs.length := by omega
    subst e
    exact .inl ⟨⟨xs, q, Nat.le_refl _⟩, hd σ H p⟩
theorem for_range {lo : Int} {n : Nat} {g : TG} {tb : TS} {D : Ends} {σ : St} {H : Hp} (Pv : Nat → St → Hp → Prop) (h0 : Pv 0 σ H)
    (hs : ∀ i σ H, i < n → Pv i σ H → g (.int (lo + i)) σ H fun σ2 H2 => tb { D with nx := Pv (i + 1), ct := Pv (i + 1), bk := D.nx } σ2 H2) (hd : ∀ σ H, Pv n σ H → D.nx σ H) :
    ∃ W : Nat → Nat → St → Hp → Prop, (∃ m, W 0 m σ H) ∧ ∀ i m σ H, W i m σ H →
      ((Itr lo n).stop i H ∧ D.nx σ H) ∨ ((Itr lo n).go i H ∧ ∃ N : St → Hp → Prop, (∀ σ' H', N σ' H' → ∃ m', m' < m ∧ W (i + 1) m' σ' H') ∧ ∀ x H', (Itr lo n).yld i H x H' → g x σ H' fun σ2 H2 => tb { D with nx := N, ct := N, bk := D.nx } σ2 H2) := by
  refine ⟨fun i m σ H => m = n - i ∧ i ≤ n ∧ Pv i σ H, ⟨n, by simp, Nat.zero_le _, h0⟩, ?_⟩
  rintro i m σ H ⟨rfl, hi, p⟩
  by_cases hlt : i < n
  · refine .inr ⟨hlt, Pv (i + 1), fun σ' H' p' => ⟨n - (i + 1), by omega, rfl, hlt, p'⟩, fun x H' y => ?_⟩
    obtain ⟨e, y⟩ := y
    subst e y
    exact hs i σ _ hlt p
  · have e : i = n := by omega
    subst e
    exact .inl ⟨Nat.le_refl _, hd σ H p⟩
/-- while, by a word and a measure of the state -/
theorem while_by {c : TT} {tb : TS} {D : Ends} {σ : St} {H : Hp} (Pv : St → Hp → Prop) (μ : St → Hp → Nat) (h0 : Pv σ H)
    (hs : ∀ σ H, Pv σ H → c σ H fun b H1 => if b = true then tb { D with nx := fun σ' H' => Pv σ' H' ∧ μ σ' H' < μ σ H, ct := fun σ' H' => Pv σ' H' ∧ μ σ' H' < μ σ H, bk := D.nx } σ H1 else D.nx σ H1)
    (mono : ∀ σ H Q Q', (∀ b H1, Q b H1 → Q' b H1) → c σ H Q → c σ H Q') : tWhile c tb D σ H := by
  refine ⟨fun m σ H => m = μ σ H ∧ Pv σ H, ⟨_, rfl, h0⟩, ?_⟩
  rintro m σ H ⟨rfl, p⟩
  refine mono σ H _ _ (fun b H1 q => ?_) (hs σ H p)
  cases b with
  | true => exact ⟨_, fun σ' H' ⟨p', l⟩ => ⟨_, l, rfl, p'⟩, q⟩
  | false => exact q
end L2

namespace L2
open PySem PySem.Spec PyProof.Rows

abbrev R2 := V → V → Hp → VK → Prop
/-- a two-place operation on values: f is binaryOp op, inplaceOp op or compareOp op -/
def OpR (X : Cx) (f : Value → Value → Sem Value) (r : R2) : Prop :=
  ∀ (pins : List (Addr × Obj)) (s : Shared) (σ : St) (H : Hp) (x y : V) (v u : Value) (Q : VK), Inv X pins σ H s → RelV x v → RelV y u → r x y H Q →
    wpAny (model X.prog X.w) X.A (f v u) (EP X pins σ Q) X.xe s
/-- a one-place operation -/
def UnR (X : Cx) (f : Value → Sem Value) (r : V → Hp → VK → Prop) : Prop :=
  ∀ (pins : List (Addr × Obj)) (s : Shared) (σ : St) (H : Hp) (x : V) (v : Value) (Q : VK), Inv X pins σ H s → RelV x v → r x H Q →
    wpAny (model X.prog X.w) X.A (f v) (EP X pins σ Q) X.xe s
/-- a call of a value that is known (a builtin, a type) with values -/
def CallR (X : Cx) (f : Value) (r : List V → Hp → VK → Prop) : Prop :=
  ∀ (pins : List (Addr × Obj)) (s : Shared) (σ : St) (H : Hp) (xs : List V) (us : List Value) (Q : VK), Inv X pins σ H s → Vals xs us → r xs H Q →
    wpAny (model X.prog X.w) X.A (call f us) (EP X pins σ Q) X.xe s
/-- a value's truth -/
def TruR (X : Cx) (r : V → Hp → (Bool → Hp → Prop) → Prop) : Prop :=
  ∀ (pins : List (Addr × Obj)) (s : Shared) (σ : St) (H : Hp) (x : V) (v : Value) (Q : Bool → Hp → Prop), Inv X pins σ H s → RelV x v → r x H Q →
    wpAny (model X.prog X.w) X.A (truthy v) (TP X pins σ Q) X.xe s

def tOp (r : R2) (ta tb : TE) : TE := fun σ H Q => ta σ H fun x H1 => tb σ H1 fun y H2 => r x y H2 Q
def tUn (r : V → Hp → VK → Prop) (ta : TE) : TE := fun σ H Q => ta σ H fun x H1 => r x H1 Q
/-- ints in, under C, and a value out -/
def rI (C : Int → Int → Prop) (g : Int → Int → V) : R2 := fun x y H Q => ∃ i j, x = .int i ∧ y = .int j ∧ C i j ∧ Q (g i j) H
def rI0 (g : Int → Int → V) : R2 := fun x y H Q => ∃ i j, x = .int i ∧ y = .int j ∧ Q (g i j) H
def rU (g : Int → V) : V → Hp → VK → Prop := fun x H Q => ∃ i, x = .int i ∧ Q (g i) H

section
variable {X : Cx} {a b c : Expr} {ta tb tc : TE} {pos : Pos}

theorem binT (ha : PE X a ta) (hb : PE X b tb) {pins : List (Addr × Obj)} {s : Shared} {σ : St} {H : Hp} {R : V → V → Hp → Prop} (I : Inv X pins σ H s)
    (h : ta σ H fun x H1 => tb σ H1 fun y H2 => R x y H2) {Q : Value → Shared → Prop} {f : Value → Value → Sem Value}
    (hf : ∀ v u s2 x y H2, Inv X pins σ H2 s2 → RelV x v → RelV y u → R x y H2 → wpAny (model X.prog X.w) X.A (f v u) Q X.xe s2) :
    wpAny (model X.prog X.w) X.A (eval a X.env) (fun v s₁ => wpAny (model X.prog X.w) X.A (eval b X.env) (fun u s₂ => wpAny (model X.prog X.w) X.A (f v u) Q X.xe s₂) X.xe s₁) X.xe s := by
  refine thn (ha pins s σ H _ I h) fun v s1 ⟨x, H1, I1, r1, q1⟩ => ?_
  refine thn (hb pins s1 σ H1 _ I1 q1) fun u s2 ⟨y, H2, I2, r2, q2⟩ => ?_
  exact hf v u s2 x y H2 I2 r1 r2 q2

theorem pe_op {op : Operator} {r : R2} (ho : OpR X (binaryOp op) r) (ha : PE X a ta) (hb : PE X b tb) : PE X (.BinOp a op b pos) (tOp r ta tb) := by
  intro pins s σ H Q I h
  exact wpAny_BinOp (binT ha hb I h fun v u s2 x y H2 I2 rx ry q => ho pins s2 σ H2 x y v u Q I2 rx ry q)
theorem pe_un {op : UnaryOp} {r : V → Hp → VK → Prop} (ho : UnR X (unaryOp op) r) (ha : PE X a ta) : PE X (.UnaryOp op a pos) (tUn r ta) := by
  intro pins s σ H Q I h
  exact UnaryOp_ (thn (ha pins s σ H _ I h) fun v s1 ⟨x, H1, I1, r1, q1⟩ => ho pins s1 σ H1 x v Q I1 r1 q1)
/-- a op= e at a name: the name's slot i -/
theorem augR {op : Operator} {r : R2} (ho : OpR X (inplaceOp op) r) {pins : List (Addr × Obj)} {s : Shared} {σ : St} {H : Hp} {x y : V} {v u : Value} {Q : VK} (I : Inv X pins σ H s)
    (rx : RelV x v) (ry : RelV y u) (q : r x y H Q) : wpAny (model X.prog X.w) X.A (inplaceOp op v u) (EP X pins σ Q) X.xe s := ho pins s σ H x y v u Q I rx ry q

/-! ### ints -/
theorem opI {f : Value → Value → Sem Value} {C : Int → Int → Prop} {g : Int → Int → Int}
    (rule : ∀ (i j : Int) (t u : Tok) (s : Shared) (Q : Value → Shared → Prop) (E : Value → Shared → Prop), C i j → Q (.int (g i j) s.toks) { s with toks := s.toks + 1 } → wpAny (model X.prog X.w) X.A (f (.int i t) (.int j u)) Q E s) :
    OpR X f (rI C fun i j => .int (g i j)) := by
  intro pins s σ H x y v u Q I rx ry h
  obtain ⟨i, j, rfl, rfl, hc, q⟩ := h
  obtain ⟨t, rfl⟩ := rx
  obtain ⟨t', rfl⟩ := ry
  exact rule i j t t' s _ _ hc ⟨.int (g i j), H, I.tok _, ⟨_, rfl⟩, q⟩
theorem opI0 {f : Value → Value → Sem Value} {g : Int → Int → Int}
    (rule : ∀ (i j : Int) (t u : Tok) (s : Shared) (Q : Value → Shared → Prop) (E : Value → Shared → Prop), Q (.int (g i j) s.toks) { s with toks := s.toks + 1 } → wpAny (model X.prog X.w) X.A (f (.int i t) (.int j u)) Q E s) :
    OpR X f (rI0 fun i j => .int (g i j)) := by
  intro pins s σ H x y v u Q I rx ry h
  obtain ⟨i, j, rfl, rfl, q⟩ := h
  obtain ⟨t, rfl⟩ := rx
  obtain ⟨t', rfl⟩ := ry
  exact rule i j t t' s _ _ ⟨.int (g i j), H, I.tok _, ⟨_, rfl⟩, q⟩
theorem opB0 {f : Value → Value → Sem Value} {g : Int → Int → Bool}
    (rule : ∀ (i j : Int) (t u : Tok) (s : Shared) (Q : Value → Shared → Prop) (E : Value → Shared → Prop), Q (.bool (g i j)) s → wpAny (model X.prog X.w) X.A (f (.int i t) (.int j u)) Q E s) :
    OpR X f (rI0 fun i j => .bl (g i j)) := by
  intro pins s σ H x y v u Q I rx ry h
  obtain ⟨i, j, rfl, rfl, q⟩ := h
  obtain ⟨t, rfl⟩ := rx
  obtain ⟨t', rfl⟩ := ry
  exact rule i j t t' s _ _ ⟨.bl (g i j), H, I, rfl, q⟩

def CDiv (i j : Int) : Prop := 0 < j ∧ j < 1073741824
def CDivN (i j : Int) : Prop := j ≠ 0 ∧ j.natAbs < 1073741824
def CPow (i j : Int) : Prop := 0 ≤ j ∧ j ≤ 1000000 ∧ i.natAbs < 2 ^ 64
def CMul (i j : Int) : Prop := (-(2 ^ 64) < i ∧ i < 2 ^ 64) ∨ (-(2 ^ 64) < j ∧ j < 2 ^ 64)
theorem CMul.ok {i j : Int} (h : CMul i j) : IntMulOk i j := by
  rcases h with ⟨h1, h2⟩ | ⟨h1, h2⟩
  · exact .of_left (intBits_le_64 h1 h2)
  · exact .of_right (intBits_le_64 h1 h2)
theorem two_pow_nn (k : Nat) : (0 : Int) ≤ 2 ^ k := by
  rw [two_pow_cast]
  exact Int.natCast_nonneg _

theorem op_add : OpR X (binaryOp .Add) (rI0 fun i j => .int (i + j)) := opI0 fun _ _ _ _ _ _ _ q => add_int q
theorem op_sub : OpR X (binaryOp .Sub) (rI0 fun i j => .int (i - j)) := opI0 fun _ _ _ _ _ _ _ q => sub_int q
theorem op_mul : OpR X (binaryOp .Mult) (rI CMul fun i j => .int (i * j)) := opI fun _ _ _ _ _ _ _ hc q => mul_int q hc.ok
/-- // by a positive divisor -/
theorem op_fdiv : OpR X (binaryOp .FloorDiv) (rI CDiv fun i j => .int (i / j)) := opI fun i j _ _ _ _ _ hc q => by
  have h1 : (0 : Int) < j := hc.1
  have h2 : j < 1073741824 := hc.2
  exact floordiv_int (by omega) (by rw [Int.fdiv_eq_ediv_of_nonneg i (by omega)]; exact q) (.inl (PyProof.noPylong_small (by omega)))
theorem op_fdivN : OpR X (binaryOp .FloorDiv) (rI CDivN fun i j => .int (i.fdiv j)) := opI fun _ _ _ _ _ _ _ hc q => floordiv_int hc.1 q (.inl (PyProof.noPylong_small hc.2))
/-- % by a positive divisor of any size -/
theorem op_mod : OpR X (binaryOp .Mod) (rI (fun _ j => 0 < j) fun i j => .int (i % j)) := opI fun i j _ _ _ _ _ hc q => by
  have h1 : (0 : Int) < j := hc
  exact mod_int' (by omega) (by rw [Int.fmod_eq_emod_of_nonneg i (by omega)]; exact q)
theorem op_modN : OpR X (binaryOp .Mod) (rI (fun _ j => j ≠ 0) fun i j => .int (i.fmod j)) := opI fun _ _ _ _ _ _ _ hc q => mod_int' hc q
theorem op_pow : OpR X (binaryOp .Pow) (rI CPow fun i j => .int (i ^ j.toNat)) := opI fun _ _ _ _ _ _ _ hc q => pow_int_small hc.1 hc.2.1 hc.2.2 q
theorem op_shl : OpR X (binaryOp .LShift) (rI CPow fun i j => .int (i * 2 ^ j.toNat)) := opI fun _ _ _ _ _ _ _ hc q => lshift_int_small hc.1 hc.2.1 hc.2.2 q
theorem op_shr : OpR X (binaryOp .RShift) (rI (fun _ j => 0 ≤ j) fun i j => .int (i / 2 ^ j.toNat)) := opI fun i j _ _ _ _ _ hc q =>
  rshift_int hc (by rw [Int.fdiv_eq_ediv_of_nonneg i (two_pow_nn _)]; exact q)
theorem op_and : OpR X (binaryOp .BitAnd) (rI0 fun i j => .int (Builtin.bitAnd i j)) := opI0 fun _ _ _ _ _ _ _ q => and_int q
theorem op_or : OpR X (binaryOp .BitOr) (rI0 fun i j => .int (Builtin.bitOr i j)) := opI0 fun _ _ _ _ _ _ _ q => or_int q
theorem op_xor : OpR X (binaryOp .BitXor) (rI0 fun i j => .int (Builtin.bitXor i j)) := opI0 fun _ _ _ _ _ _ _ q => xor_int q

theorem iop_add : OpR X (inplaceOp .Add) (rI0 fun i j => .int (i + j)) := opI0 fun _ _ _ _ _ _ _ q => iadd_int q
theorem iop_sub : OpR X (inplaceOp .Sub) (rI0 fun i j => .int (i - j)) := opI0 fun _ _ _ _ _ _ _ q => isub_int q
theorem iop_mul : OpR X (inplaceOp .Mult) (rI CMul fun i j => .int (i * j)) := opI fun _ _ _ _ _ _ _ hc q => imul_int q hc.ok
theorem iop_fdiv : OpR X (inplaceOp .FloorDiv) (rI CDiv fun i j => .int (i / j)) := opI fun i j _ _ _ _ _ hc q => by
  have h1 : (0 : Int) < j := hc.1
  have h2 : j < 1073741824 := hc.2
  exact ifloordiv_int (by omega) (by rw [Int.fdiv_eq_ediv_of_nonneg i (by omega)]; exact q) (.inl (PyProof.noPylong_small (by omega)))
theorem iop_mod : OpR X (inplaceOp .Mod) (rI (fun _ j => 0 < j) fun i j => .int (i % j)) := opI fun i j _ _ _ _ _ hc q => by
  have h1 : (0 : Int) < j := hc
  exact imod_int (by omega) (by rw [Int.fmod_eq_emod_of_nonneg i (by omega)]; exact q)
theorem iop_shl : OpR X (inplaceOp .LShift) (rI CPow fun i j => .int (i * 2 ^ j.toNat)) := opI fun _ _ _ _ _ _ _ hc q => ilshift_int_small hc.1 hc.2.1 hc.2.2 q
theorem iop_shr : OpR X (inplaceOp .RShift) (rI (fun _ j => 0 ≤ j) fun i j => .int (i / 2 ^ j.toNat)) := opI fun i j _ _ _ _ _ hc q =>
  irshift_int hc (by rw [Int.fdiv_eq_ediv_of_nonneg i (two_pow_nn _)]; exact q)
theorem iop_and : OpR X (inplaceOp .BitAnd) (rI0 fun i j => .int (Builtin.bitAnd i j)) := opI0 fun _ _ _ _ _ _ _ q => iand_int q
theorem iop_or : OpR X (inplaceOp .BitOr) (rI0 fun i j => .int (Builtin.bitOr i j)) := opI0 fun _ _ _ _ _ _ _ q => ior_int q
theorem iop_xor : OpR X (inplaceOp .BitXor) (rI0 fun i j => .int (Builtin.bitXor i j)) := opI0 fun _ _ _ _ _ _ _ q => ixor_int q

theorem unI {f : Value → Sem Value} {g : Int → Int}
    (rule : ∀ (i : Int) (t : Tok) (s : Shared) (Q : Value → Shared → Prop) (E : Value → Shared → Prop), Q (.int (g i) s.toks) { s with toks := s.toks + 1 } → wpAny (model X.prog X.w) X.A (f (.int i t)) Q E s) :
    UnR X f (rU fun i => .int (g i)) := by
  intro pins s σ H x v Q I rx h
  obtain ⟨i, rfl, q⟩ := h
  obtain ⟨t, rfl⟩ := rx
  exact rule i t s _ _ ⟨.int (g i), H, I.tok _, ⟨_, rfl⟩, q⟩
theorem un_neg : UnR X (unaryOp .USub) (rU fun i => .int (-i)) := unI fun _ _ _ _ _ q => neg_int q
theorem un_inv : UnR X (unaryOp .Invert) (rU fun i => .int (Builtin.bitNot i)) := unI fun _ _ _ _ _ q => invert_int q

/-! ### bools among ints: n += (a < b) -/
theorem op_add_ib : OpR X (binaryOp .Add) (fun x y H Q => ∃ i k, x = .int i ∧ y = .bl k ∧ Q (.int (i + b2i k)) H) := by
  intro pins s σ H x y v u Q I rx ry h
  obtain ⟨i, k, rfl, rfl, q⟩ := h
  obtain ⟨t, rfl⟩ := rx
  cases ry
  exact add_int_bool ⟨.int (i + b2i k), H, I.tok _, ⟨_, rfl⟩, q⟩
end

/-! ### comparisons -/
/-- the scalars that == tells apart as data does -/
def scal : V → V → Bool
  | .non, .non => true | .non, .int _ => true | .int _, .non => true | .non, .bl _ => true | .bl _, .non => true | .non, .str _ => true | .str _, .non => true
  | .int _, .int _ => true | .bl _, .bl _ => true | .str _, .str _ => true | .byt _, .byt _ => true
  | .int _, .str _ => true | .str _, .int _ => true | .bl _, .str _ => true | .str _, .bl _ => true
  | _, _ => false
def rEq : R2 := fun x y H Q => scal x y = true ∧ Q (.bl (decide (x = y))) H
def rNe : R2 := fun x y H Q => scal x y = true ∧ Q (.bl (!decide (x = y))) H

theorem dec_int {i j : Int} : decide (V.int i = V.int j) = (i == j) := by
  rw [Bool.eq_iff_iff]
  simp
theorem dec_bl {i j : Bool} : decide (V.bl i = V.bl j) = (i == j) := by
  rw [Bool.eq_iff_iff]
  simp
theorem dec_str {i j : Str} : decide (V.str i = V.str j) = (i == j) := by
  rw [Bool.eq_iff_iff]
  simp
theorem dec_byt {i j : Array UInt8} : decide (V.byt i = V.byt j) = (i.toList == j.toList) := by
  rw [Bool.eq_iff_iff]
  cases i
  cases j
  simp

section
variable {X : Cx} {a b c : Expr} {ta tb tc : TE} {pos : Pos}
theorem fin_bl {pins : List (Addr × Obj)} {σ : St} {H : Hp} {s : Shared} {Q : VK} {k k' : Bool} (I : Inv X pins σ H s) (q : Q (.bl k) H) (e : k = k') : EP X pins σ Q (.bool k') s := by
  subst e
  exact ⟨.bl k, H, I, rfl, q⟩
theorem op_eq : OpR X (compareOp .Eq) rEq := by
  intro pins s σ H x y v u Q I rx ry h
  obtain ⟨hs, q⟩ := h
  cases x with
  | non =>
    cases rx
    cases y with
    | non => cases ry; exact PySem.EqNone.eq_none_none (fin_bl I q (by simp))
    | bl j => cases ry; exact PySem.EqNone.eq_none_bool (fin_bl I q (by simp))
    | int j => obtain ⟨t', rfl⟩ := ry; exact PySem.EqNone.eq_none_int (fin_bl I q (by simp))
    | str j => obtain ⟨t', rfl⟩ := ry; exact PySem.EqNone.eq_none_str (fin_bl I q (by simp))
    | _ => exact absurd (show false = true from hs) Bool.false_ne_true
  | bl i =>
    cases rx
    cases y with
    | non => cases ry; exact PySem.EqNone.eq_bool_none (fin_bl I q (by simp))
    | bl j => cases ry; exact eq_bool (fin_bl I q dec_bl)
    | str j => obtain ⟨t', rfl⟩ := ry; exact PySem.EqMixed.eq_bool_str (fin_bl I q (by simp))
    | _ => exact absurd (show false = true from hs) Bool.false_ne_true
  | int i =>
    obtain ⟨t, rfl⟩ := rx
    cases y with
    | non => cases ry; exact PySem.EqNone.eq_int_none (fin_bl I q (by simp))
    | int j => obtain ⟨t', rfl⟩ := ry; exact eq_int (fin_bl I q dec_int)
    | str j => obtain ⟨t', rfl⟩ := ry; exact PySem.EqMixed.eq_int_str (fin_bl I q (by simp))
    | _ => exact absurd (show false = true from hs) Bool.false_ne_true
  | str i =>
    obtain ⟨t, rfl⟩ := rx
    cases y with
    | non => cases ry; exact PySem.EqNone.eq_str_none (fin_bl I q (by simp))
    | bl j => cases ry; exact PySem.EqMixed.eq_str_bool (fin_bl I q (by simp))
    | int j => obtain ⟨t', rfl⟩ := ry; exact PySem.EqMixed.eq_str_int (fin_bl I q (by simp))
    | str j => obtain ⟨t', rfl⟩ := ry; exact eq_str (fin_bl I q dec_str)
    | _ => exact absurd (show false = true from hs) Bool.false_ne_true
  | byt i =>
    obtain ⟨t, rfl⟩ := rx
    cases y with
    | byt j => obtain ⟨t', rfl⟩ := ry; exact PySem.W.eq_bytes (fin_bl I q dec_byt)
    | _ => exact absurd (show false = true from hs) Bool.false_ne_true
  | _ => cases y <;> exact absurd (show false = true from hs) Bool.false_ne_true
theorem op_ne : OpR X (compareOp .NotEq) rNe := by
  intro pins s σ H x y v u Q I rx ry h
  obtain ⟨hs, q⟩ := h
  cases x with
  | non =>
    cases rx
    cases y with
    | non => cases ry; exact PySem.EqNone.ne_none_none (fin_bl I q (by simp))
    | bl j => cases ry; exact PySem.EqNone.ne_none_bool (fin_bl I q (by simp))
    | int j => obtain ⟨t', rfl⟩ := ry; exact PySem.EqNone.ne_none_int (fin_bl I q (by simp))
    | str j => obtain ⟨t', rfl⟩ := ry; exact PySem.EqNone.ne_none_str (fin_bl I q (by simp))
    | _ => exact absurd (show false = true from hs) Bool.false_ne_true
  | bl i =>
    cases rx
    cases y with
    | non => cases ry; exact PySem.EqNone.ne_bool_none (fin_bl I q (by simp))
    | bl j => cases ry; exact ne_bool (fin_bl I q (congrArg not dec_bl))
    | str j => obtain ⟨t', rfl⟩ := ry; exact PySem.EqMixed.ne_bool_str (fin_bl I q (by simp))
    | _ => exact absurd (show false = true from hs) Bool.false_ne_true
  | int i =>
    obtain ⟨t, rfl⟩ := rx
    cases y with
    | non => cases ry; exact PySem.EqNone.ne_int_none (fin_bl I q (by simp))
    | int j => obtain ⟨t', rfl⟩ := ry; exact ne_int (fin_bl I q (congrArg not dec_int))
    | str j => obtain ⟨t', rfl⟩ := ry; exact PySem.EqMixed.ne_int_str (fin_bl I q (by simp))
    | _ => exact absurd (show false = true from hs) Bool.false_ne_true
  | str i =>
    obtain ⟨t, rfl⟩ := rx
    cases y with
    | non => cases ry; exact PySem.EqNone.ne_str_none (fin_bl I q (by simp))
    | bl j => cases ry; exact PySem.EqMixed.ne_str_bool (fin_bl I q (by simp))
    | int j => obtain ⟨t', rfl⟩ := ry; exact PySem.EqMixed.ne_str_int (fin_bl I q (by simp))
    | str j => obtain ⟨t', rfl⟩ := ry; exact ne_str (fin_bl I q (congrArg not dec_str))
    | _ => exact absurd (show false = true from hs) Bool.false_ne_true
  | byt i =>
    obtain ⟨t, rfl⟩ := rx
    cases y with
    | byt j => obtain ⟨t', rfl⟩ := ry; exact PySem.W.ne_bytes (fin_bl I q (congrArg not dec_byt))
    | _ => exact absurd (show false = true from hs) Bool.false_ne_true
  | _ => cases y <;> exact absurd (show false = true from hs) Bool.false_ne_true

theorem op_lt : OpR X (compareOp .Lt) (rI0 fun i j => .bl (decide (i < j))) := opB0 fun _ _ _ _ _ _ _ q => lt_int q
theorem op_le : OpR X (compareOp .LtE) (rI0 fun i j => .bl (decide (i ≤ j))) := opB0 fun _ _ _ _ _ _ _ q => le_int q
theorem op_gt : OpR X (compareOp .Gt) (rI0 fun i j => .bl (decide (j < i))) := opB0 fun _ _ _ _ _ _ _ q => gt_int q
theorem op_ge : OpR X (compareOp .GtE) (rI0 fun i j => .bl (decide (j ≤ i))) := opB0 fun _ _ _ _ _ _ _ q => ge_int q
theorem op_lt_str : OpR X (compareOp .Lt) (fun x y H Q => ∃ i j, x = .str i ∧ y = .str j ∧ Q (.bl (decide (i.cps.toList < j.cps.toList))) H) := by
  intro pins s σ H x y v u Q I rx ry h
  obtain ⟨i, j, rfl, rfl, q⟩ := h
  obtain ⟨t, rfl⟩ := rx
  obtain ⟨t', rfl⟩ := ry
  exact lt_str (fin_bl I q rfl)
/-- the one string within the other -/
theorem op_in_str : OpR X (compareOp .In) (fun x y H Q => ∃ i j, x = .str i ∧ y = .str j ∧ Q (.bl (!(Builtin.Str.occurrences j i 0 j.length 1).isEmpty)) H) := by
  intro pins s σ H x y v u Q I rx ry h
  obtain ⟨i, j, rfl, rfl, q⟩ := h
  obtain ⟨t, rfl⟩ := rx
  obtain ⟨t', rfl⟩ := ry
  exact in_str (fin_bl I q rfl)

/-- is None, is not None: the right side a value none -/
theorem op_isN : OpR X (compareOp .Is) (fun x y H Q => y = .non ∧ Q (.bl (decide (x = .non))) H) := by
  intro pins s σ H x y v u Q I rx ry h
  obtain ⟨rfl, q⟩ := h
  cases ry
  refine is_none_gen (fin_bl I q ?_)
  cases x <;> first
    | (cases rx; rfl)
    | (obtain ⟨t, rfl⟩ := rx; rfl)
theorem op_notN : OpR X (compareOp .IsNot) (fun x y H Q => y = .non ∧ Q (.bl (!decide (x = .non))) H) := by
  intro pins s σ H x y v u Q I rx ry h
  obtain ⟨rfl, q⟩ := h
  cases ry
  refine isnot_none_gen (fin_bl I q ?_)
  cases x <;> first
    | (cases rx; rfl)
    | (obtain ⟨t, rfl⟩ := rx; rfl)

theorem op_notin_str : OpR X (compareOp .NotIn) (fun x y H Q => ∃ i j, x = .str i ∧ y = .str j ∧ Q (.bl (!(!(Builtin.Str.occurrences j i 0 j.length 1).isEmpty))) H) := by
  intro pins s σ H x y v u Q I rx ry h
  obtain ⟨i, j, rfl, rfl, q⟩ := h
  obtain ⟨t, rfl⟩ := rx
  obtain ⟨t', rfl⟩ := ry
  exact notIn_str (fin_bl I q rfl)
/-- is, is not of two objects that are tracked lists or instances -/
def isObj : HO → Bool
  | .lst _ => true
  | .ins _ _ _ => true
  | _ => false
theorem obj_there {pins : List (Addr × Obj)} {s : Shared} {σ : St} {H : Hp} {a : Addr} {o : HO} (I : Inv X pins σ H s) (h : H a = some o) (p : isObj o = true) : ∃ ob, s.heap.get? a = some ob ∧ ob.cls ≠ .type "tuple" := by
  cases o with
  | lst xs =>
    obtain ⟨_, its, n, _, e⟩ : xs.length ≤ sizeLine ∧ ∃ (its : List Value) (n : Nat), Vals xs its ∧ s.heap.get? a = some { cls := .type "list", data := .seq its.toArray n } := I.hok a _ h
    exact ⟨_, e, (by show Value.type "list" ≠ .type "tuple"; decide +kernel)⟩
  | ins C dx fs =>
    have x := I.hok a _ h
    obtain ⟨_, _, _, e, _⟩ := x
    exact ⟨_, e, (by show Value.ref C ≠ .type "tuple"; exact fun z => by cases z)⟩
  | _ => exact absurd (show false = true from p) Bool.false_ne_true
theorem op_is_ref : OpR X (compareOp .Is) (fun x y H Q => ∃ a b oa ob, x = .ref a ∧ y = .ref b ∧ H a = some oa ∧ isObj oa = true ∧ H b = some ob ∧ isObj ob = true ∧ Q (.bl (decide (a = b))) H) := by
  intro pins s σ H x y v u Q I rx ry h
  obtain ⟨a, b, oa, ob, rfl, rfl, ha, pa, hb, pb, q⟩ := h
  cases rx
  cases ry
  obtain ⟨o1, e1, n1⟩ := obj_there I ha pa
  obtain ⟨o2, e2, _⟩ := obj_there I hb pb
  by_cases z : a = b
  · subst z
    exact wpAny_is_ref_self (fin_bl I q (by simp))
  · exact wpAny_is_ref_other z e1 e2 n1 (fin_bl I q (by simp [z]))
theorem op_isnot_ref : OpR X (compareOp .IsNot) (fun x y H Q => ∃ a b oa ob, x = .ref a ∧ y = .ref b ∧ H a = some oa ∧ isObj oa = true ∧ H b = some ob ∧ isObj ob = true ∧ Q (.bl (!decide (a = b))) H) := by
  intro pins s σ H x y v u Q I rx ry h
  obtain ⟨a, b, oa, ob, rfl, rfl, ha, pa, hb, pb, q⟩ := h
  cases rx
  cases ry
  obtain ⟨o1, e1, n1⟩ := obj_there I ha pa
  obtain ⟨o2, e2, _⟩ := obj_there I hb pb
  by_cases z : a = b
  · subst z
    exact wpAny_isNot_ref_self (fin_bl I q (by simp))
  · exact wpAny_isNot_ref_other z e1 e2 n1 (fin_bl I q (by simp [z]))

/-- two rules for one operation: by cases -/
theorem OpR.or {f : Value → Value → Sem Value} {r r' : R2} (h : OpR X f r) (h' : OpR X f r') : OpR X f (fun x y H Q => r x y H Q ∨ r' x y H Q) := by
  intro pins s σ H x y v u Q I rx ry q
  rcases q with q | q
  · exact h pins s σ H x y v u Q I rx ry q
  · exact h' pins s σ H x y v u Q I rx ry q

theorem nomark (b : Expr) {op : CmpOp} (h : op ≠ .In := by decide) (h2 : op ≠ .NotIn := by decide) : behindInMarks op b = false := by
  have e1 : (op == CmpOp.In) = false := by cases op <;> first | rfl | exact absurd rfl h
  have e2 : (op == CmpOp.NotIn) = false := by cases op <;> first | rfl | exact absurd rfl h2
  cases b <;> simp [behindInMarks, e1, e2]
/-- a comparison as a value; hm: nomark b, or (for in, not in) by with_unfolding_all rfl -/
theorem pe_cmpR {op : CmpOp} {r : R2} (ho : OpR X (compareOp op) r) (ha : PE X a ta) (hb : PE X b tb) (hm : behindInMarks op b = false) : PE X (.Compare a [op] [b] pos) (tOp r ta tb) := by
  intro pins s σ H Q I h
  exact wpAny_Compare1 (binT ha hb I h fun v u s2 x y H2 I2 rx ry q => ho pins s2 σ H2 x y v u Q I2 rx ry q) hm
/-- a reading of a value as a test -/
def tTest (t : TE) : TT := fun σ H Q => t σ H fun x H' => ∃ k, x = .bl k ∧ Q k H'
theorem pt_cmpR {op : CmpOp} {r : R2} (ho : OpR X (compareOp op) r) (ha : PE X a ta) (hb : PE X b tb) (hm : behindInMarks op b = false) : PT X (.Compare a [op] [b] pos) (tTest (tOp r ta tb)) := by
  intro pins s σ H Q I h
  refine wpAny_isTrue_Compare1 (thn (ha pins s σ H _ I h) fun v s1 ⟨x, H1, I1, r1, q1⟩ => thn (hb pins s1 σ H1 _ I1 q1) fun u s2 ⟨y, H2, I2, r2, q2⟩ =>
    thn (ho pins s2 σ H2 x y v u _ I2 r1 r2 q2) fun c s3 ⟨z, H3, I3, r3, k, e, q3⟩ => ?_) hm
  subst e
  cases r3
  exact wpAny_truthy_bool ⟨H3, I3, q3⟩
/-- a op1 b op2 c -/
def tChain (r r' : R2) (ta tb tc : TE) : TE := fun σ H Q => ta σ H fun x H1 => tb σ H1 fun y H2 => r x y H2 fun z H3 => ∃ k, z = .bl k ∧
  (if k = true then tc σ H3 fun w' H4 => r' y w' H4 Q else Q (.bl false) H3)
theorem pe_chain {op op' : CmpOp} {r r' : R2} (ho : OpR X (compareOp op) r) (ho' : OpR X (compareOp op') r') (ha : PE X a ta) (hb : PE X b tb) (hc : PE X c tc)
    (hm : lastMarks [op, op'] [b, c] = false := by with_unfolding_all rfl) : PE X (.Compare a [op, op'] [b, c] pos) (tChain r r' ta tb tc) := by
  intro pins s σ H Q I h
  refine Compare_chain (thn (ha pins s σ H _ I h) fun v s1 ⟨x, H1, I1, r1, q1⟩ => chain_link (thn (hb pins s1 σ H1 _ I1 q1) fun u s2 ⟨y, H2, I2, r2, q2⟩ =>
    thn (ho pins s2 σ H2 x y v u _ I2 r1 r2 q2) fun d s3 ⟨z, H3, I3, r3, k, e, q3⟩ => ?_)) hm
  subst e
  cases r3
  refine wpAny_truthy_bool ?_
  cases k with
  | false => exact ite_ff ⟨.bl false, H3, I3, rfl, q3⟩
  | true => exact ite_tt (chain_last (thn (hc pins s3 σ H3 _ I3 q3) fun w' s4 ⟨z', H4, I4, r4, q4⟩ => ho' pins s4 σ H4 y z' u w' Q I4 r2 r4 q4))
theorem pt_chain {op op' : CmpOp} {r r' : R2} (ho : OpR X (compareOp op) r) (ho' : OpR X (compareOp op') r') (ha : PE X a ta) (hb : PE X b tb) (hc : PE X c tc)
    (hm : lastMarks [op, op'] [b, c] = false := by with_unfolding_all rfl) : PT X (.Compare a [op, op'] [b, c] pos) (tTest (tChain r r' ta tb tc)) := by
  intro pins s σ H Q I h
  refine isTrue_chain (thn (ha pins s σ H _ I h) fun v s1 ⟨x, H1, I1, r1, q1⟩ => test_link (thn (hb pins s1 σ H1 _ I1 q1) fun u s2 ⟨y, H2, I2, r2, q2⟩ =>
    thn (ho pins s2 σ H2 x y v u _ I2 r1 r2 q2) fun d s3 ⟨z, H3, I3, r3, k, e, q3⟩ => ?_)) hm
  subst e
  cases r3
  refine wpAny_truthy_bool ?_
  cases k with
  | false =>
    obtain ⟨k', e', q'⟩ := q3
    cases e'
    exact ite_ff ⟨H3, I3, q'⟩
  | true =>
    refine ite_tt (test_last (thn (hc pins s3 σ H3 _ I3 q3) fun w' s4 ⟨z', H4, I4, r4, q4⟩ => thn (ho' pins s4 σ H4 y z' u w' _ I4 r2 r4 q4) fun d' s5 ⟨z2, H5, I5, r5, k2, e2, q5⟩ => ?_))
    subst e2
    cases r5
    exact wpAny_truthy_bool ⟨H5, I5, q5⟩

/-! ### truth -/
/-- a value's truth by the abstract heap -/
def TruV (K : PySem.W.Frag) (x : V) (H : Hp) (k : Bool) : Prop :=
  match x with
  | .non => k = false
  | .bl b => k = b
  | .int i => k = (i != 0)
  | .str y => y.length ≤ sizeLine ∧ k = ((y.length : Int) != 0)
  | .byt y => y.size ≤ sizeLine ∧ k = ((y.size : Int) != 0)
  | .ref p => (∃ xs, SqL K H p xs ∧ k = !xs.isEmpty) ∨ (∃ xs, SqT K H p xs ∧ k = !xs.isEmpty) ∨ ∃ kvs, H p = some (.dK kvs) ∧ k = !kvs.isEmpty
  | _ => False
theorem isEmpty_kv {κ : Type} {kvs : List (κ × V)} {vs : List (κ × Value)} (r : KV kvs vs) : (!vs.isEmpty) = !kvs.isEmpty := by
  cases r <;> rfl
theorem isEmpty_of {xs : List V} {its : List Value} (r : Vals xs its) : (!its.toArray.isEmpty) = !xs.isEmpty := by
  cases r <;> simp
theorem line63 : (sizeLine : Nat) < 2 ^ 63 := by rw [sizeLine_eq]; decide
theorem tru_ok : TruR X (fun x H Q => ∃ k, TruV X.K x H k ∧ Q k H) := by
  intro pins s σ H x v Q I rx h
  obtain ⟨k, e, q⟩ := h
  have hl := line63
  have hs : sizeLine = 16777216 := sizeLine_eq
  cases x with
  | non =>
    cases rx
    have e' : k = false := e
    subst e'
    exact truthy_none ⟨H, I, q⟩
  | bl b =>
    cases rx
    have e' : k = b := e
    subst e'
    exact wpAny_truthy_bool ⟨H, I, q⟩
  | int i =>
    obtain ⟨t, rfl⟩ := rx
    have e' : k = (i != 0) := e
    subst e'
    exact PySem.P.truthy_int ⟨H, I, q⟩
  | str y =>
    obtain ⟨t, rfl⟩ := rx
    obtain ⟨hy, e'⟩ : y.length ≤ sizeLine ∧ k = ((y.length : Int) != 0) := e
    subst e'
    exact PySem.P.truthy_str (by omega) ⟨H, I.tok _, q⟩
  | byt y =>
    obtain ⟨t, rfl⟩ := rx
    obtain ⟨hy, e'⟩ : y.size ≤ sizeLine ∧ k = ((y.size : Int) != 0) := e
    subst e'
    exact PySem.W.truthy_bytes (by omega) ⟨H, I.tok _, q⟩
  | ref p =>
    cases rx
    have e' : (∃ xs, SqL X.K H p xs ∧ k = !xs.isEmpty) ∨ (∃ xs, SqT X.K H p xs ∧ k = !xs.isEmpty) ∨ ∃ kvs, H p = some (.dK kvs) ∧ k = !kvs.isEmpty := e
    rcases e' with ⟨xs, hx, e'⟩ | ⟨xs, hx, e'⟩ | ⟨kvs, hx, e'⟩
    · subst e'
      obtain ⟨its, r, pl, hz⟩ := I.list hx
      have hlen := r.length
      exact wpAny_truthy_list pl.isList (by simp only [List.size_toArray]; omega) ⟨H, I.tok _, by rw [isEmpty_of r]; exact q⟩
    · subst e'
      obtain ⟨its, r, pl, hz⟩ := I.tuple hx
      have hlen := r.length
      exact truthy_tuple pl (by simp only [List.size_toArray]; omega) ⟨H, I.tok _, by rw [isEmpty_of r]; exact q⟩
    · subst e'
      obtain ⟨hz, hS, vs, r, m⟩ : kvs.length ≤ sizeLine ∧ (p == sysModules) = false ∧ ∃ vs, KV kvs vs ∧ s.heap.DictOf (mixKind X.prog X.w) p vs := I.hok p _ hx
      have hlen : kvs.length = vs.length := Paired.length r
      exact wpAny_truthy_dict hS m (by omega) ⟨H, I.tok _, by rw [isEmpty_kv r]; exact q⟩
  | _ => exact (show False from e).elim
/-- any expression whose test is its value's truth (a name, a call, a subscript, a field ..: he by fun _ => rfl) -/
theorem pt_truth (ha : PE X a ta) (he : ∀ whole, isTrue a X.env whole = (do let v ← whole; standAt a.pos; holding [v] (truthy v))) :
    PT X a (fun σ H Q => ta σ H fun x H' => ∃ k, TruV X.K x H' k ∧ Q k H') := by
  intro pins s σ H Q I h
  exact isTrue_plain (thn (ha pins s σ H _ I h) fun v s1 ⟨x, H1, I1, r1, q1⟩ => tru_ok pins s1 σ H1 x v Q I1 r1 q1) (he _)

/-! ### strs and bytes -/
theorem pe_byt {x : List UInt8} {k : Nat} : PE X (.Constant (.bytes x) k pos) (fun _ H Q => Q (.byt x.toArray) H) := fun _ _ _ H _ I h => PySem.W.Constant_bytes ⟨.byt x.toArray, H, I.tok _, ⟨_, rfl⟩, h⟩
theorem op_add_str : OpR X (binaryOp .Add) (fun x y H Q => ∃ i j, x = .str i ∧ y = .str j ∧ i.length + j.length ≤ sizeLine ∧ Q (.str (i ++ j)) H) := by
  intro pins s σ H x y v u Q I rx ry h
  obtain ⟨i, j, rfl, rfl, hz, q⟩ := h
  obtain ⟨t, rfl⟩ := rx
  obtain ⟨t', rfl⟩ := ry
  exact add_str (fun t' tk => ⟨.str (i ++ j), H, I.tok _, ⟨_, rfl⟩, q⟩) hz
theorem iop_add_str : OpR X (inplaceOp .Add) (fun x y H Q => ∃ i j, x = .str i ∧ y = .str j ∧ i.length + j.length ≤ sizeLine ∧ Q (.str (i ++ j)) H) := by
  intro pins s σ H x y v u Q I rx ry h
  obtain ⟨i, j, rfl, rfl, hz, q⟩ := h
  obtain ⟨t, rfl⟩ := rx
  obtain ⟨t', rfl⟩ := ry
  exact iadd_str (fun t' tk => ⟨.str (i ++ j), H, I.tok _, ⟨_, rfl⟩, q⟩) hz
theorem op_add_byt : OpR X (binaryOp .Add) (fun x y H Q => ∃ i j, x = .byt i ∧ y = .byt j ∧ i.size + j.size ≤ 16777216 ∧ Q (.byt (i ++ j)) H) := by
  intro pins s σ H x y v u Q I rx ry h
  obtain ⟨i, j, rfl, rfl, hz, q⟩ := h
  obtain ⟨t, rfl⟩ := rx
  obtain ⟨t', rfl⟩ := ry
  exact PySem.W.KBy.add_bytes hz (fun t' tk => ⟨.byt (i ++ j), H, I.tok _, ⟨_, rfl⟩, q⟩)

def PlainIxT (b : Expr) : Prop := ∀ o i, subscripted b false o i = operate [o, i] (getItem o i)
/-- s[i], 0 ≤ i < len -/
theorem pe_item_str (ha : PE X a ta) (hb : PE X b tb) (hs : PlainIxT b) :
    PE X (.Subscript a b pos) (tOp (fun x y H Q => ∃ z i c, x = .str z ∧ y = .int i ∧ 0 ≤ i ∧ i < 2 ^ 63 ∧ i < z.length ∧ z.cps[i.toNat]? = some c ∧ Q (.str ⟨#[c]⟩) H) ta tb) := by
  intro pins s σ H Q I h
  refine Subscript_ (binT ha hb I h fun v u s2 x y H2 I2 rx ry q => ?_)
  obtain ⟨z, i, c, rfl, rfl, h0, h63, h1, hc, q⟩ := q
  obtain ⟨t, rfl⟩ := rx
  obtain ⟨t', rfl⟩ := ry
  have e : seqIndex? i z.length = some i.toNat := PySem.StrLaws.seqIndex_nonneg h0 h1
  exact tail_any (typeIs_str s2 z t) slot_str_getitem.lookup (getItem_str (c := c) (by
    have e1 : decide (i < -(2 ^ 63 : Int)) = false := decide_eq_false (by omega)
    have e2 : decide (i ≥ 2 ^ 63) = false := decide_eq_false (by omega)
    rw [e1, e2] <;> rfl) (by rw [e]; exact hc) ⟨.str ⟨#[c]⟩, H2, I2.tok _, ⟨_, rfl⟩, q⟩) (hs _ _)
/-- b[i], 0 ≤ i < len -/
theorem pe_item_byt (ha : PE X a ta) (hb : PE X b tb) (hs : PlainIxT b) :
    PE X (.Subscript a b pos) (tOp (fun x y H Q => ∃ (z : List UInt8) (i : Int), x = .byt z.toArray ∧ y = .int i ∧ z.length ≤ sizeLine ∧ 0 ≤ i ∧ i < z.length ∧ Q (.int ((z.getD i.toNat 0).toNat : Nat)) H) ta tb) := by
  intro pins s σ H Q I h
  refine Subscript_ (binT ha hb I h fun v u s2 x y H2 I2 rx ry q => ?_)
  obtain ⟨z, i, rfl, rfl, hz, h0, h1, q⟩ := q
  obtain ⟨t, rfl⟩ := rx
  obtain ⟨t', rfl⟩ := ry
  have hl : sizeLine = 16777216 := sizeLine_eq
  exact tail_any (PySem.W.typeIs_bytes s2 z.toArray t) PySem.W.FB.slot_bytes_getitem.lookup (PySem.W.getItem_bytes (by omega) h0 h1 ⟨.int ((z.getD i.toNat 0).toNat : Nat), H2, I2.tok _, ⟨_, rfl⟩, q⟩) (hs _ _)

/-! ### scalar builtins, by CallR -/
theorem vals1 {x : V} {us : List Value} (r : Vals [x] us) : ∃ u, us = [u] ∧ RelV x u := by
  cases r with
  | cons r1 r2 => cases r2; exact ⟨_, rfl, r1⟩
theorem vals2 {x y : V} {us : List Value} (r : Vals [x, y] us) : ∃ u w', us = [u, w'] ∧ RelV x u ∧ RelV y w' := by
  cases r with
  | cons r1 r2 =>
    cases r2 with
    | cons r3 r4 => cases r4; exact ⟨_, _, rfl, r1, r3⟩
theorem call_abs : CallR X (.builtin "abs") (fun xs H Q => ∃ i, xs = [.int i] ∧ Q (.int (if i < 0 then -i else i)) H) := by
  intro pins s σ H xs us Q I r h
  obtain ⟨i, rfl, q⟩ := h
  obtain ⟨u, rfl, t, rfl⟩ := vals1 r
  exact call_abs_int fun u tk => ⟨.int (if i < 0 then -i else i), H, I.tok _, ⟨_, rfl⟩, q⟩
theorem call_max2 (hc : X.calm = true) : CallR X (.builtin "max") (fun xs H Q => ∃ i j, xs = [.int i, .int j] ∧ Q (.int (if j > i then j else i)) H) := by
  intro pins s σ H xs us Q I r h
  obtain ⟨i, j, rfl, q⟩ := h
  obtain ⟨u, w', rfl, ⟨t, rfl⟩, ⟨t', rfl⟩⟩ := vals2 r
  refine max_two_ints (I.ok.hd hc) fun h' tk k => ⟨_, H, I.kept k, ?_, q⟩
  by_cases hj : j > i
  · rw [if_pos hj, if_pos hj]; exact ⟨_, rfl⟩
  · rw [if_neg hj, if_neg hj]; exact ⟨_, rfl⟩
theorem call_min2 (hc : X.calm = true) : CallR X (.builtin "min") (fun xs H Q => ∃ i j, xs = [.int i, .int j] ∧ Q (.int (if j < i then j else i)) H) := by
  intro pins s σ H xs us Q I r h
  obtain ⟨i, j, rfl, q⟩ := h
  obtain ⟨u, w', rfl, ⟨t, rfl⟩, ⟨t', rfl⟩⟩ := vals2 r
  refine min_two_ints (I.ok.hd hc) fun h' tk k => ⟨_, H, I.kept k, ?_, q⟩
  by_cases hj : j < i
  · rw [if_pos hj, if_pos hj]; exact ⟨_, rfl⟩
  · rw [if_neg hj, if_neg hj]; exact ⟨_, rfl⟩
theorem call_int1 : CallR X (.type "int") (fun xs H Q => (∃ i, xs = [.int i] ∧ Q (.int i) H) ∨ ∃ k, xs = [.bl k] ∧ Q (.int (if k then 1 else 0)) H) := by
  intro pins s σ H xs us Q I r h
  rcases h with ⟨i, rfl, q⟩ | ⟨k, rfl, q⟩
  · obtain ⟨u, rfl, t, rfl⟩ := vals1 r
    exact call_int_int ⟨.int i, H, I, ⟨_, rfl⟩, q⟩
  · obtain ⟨u, rfl, r1⟩ := vals1 r
    cases r1
    exact call_int_bool ⟨.int (if k then 1 else 0), H, I.tok _, ⟨_, rfl⟩, q⟩
theorem call_bool1 : CallR X (.type "bool") (fun xs H Q => (∃ i, xs = [.int i] ∧ Q (.bl (i != 0)) H) ∨ ∃ k, xs = [.bl k] ∧ Q (.bl k) H) := by
  intro pins s σ H xs us Q I r h
  rcases h with ⟨i, rfl, q⟩ | ⟨k, rfl, q⟩
  · obtain ⟨u, rfl, t, rfl⟩ := vals1 r
    exact call_bool_int ⟨.bl (i != 0), H, I, rfl, q⟩
  · obtain ⟨u, rfl, r1⟩ := vals1 r
    cases r1
    exact call_bool_bool ⟨.bl k, H, I, rfl, q⟩
theorem call_str_int : CallR X (.type "str") (fun xs H Q => ∃ i, xs = [.int i] ∧ i.natAbs.log2 < 1920 ∧ Q (.str (toString i)) H) := by
  intro pins s σ H xs us Q I r h
  obtain ⟨i, rfl, hz, q⟩ := h
  obtain ⟨u, rfl, t, rfl⟩ := vals1 r
  exact PySem.P.str_of_int hz ⟨.str _, H, I.tok _, ⟨_, rfl⟩, q⟩
theorem call_ord : CallR X (.builtin "ord") (fun xs H Q => ∃ x, xs = [.str x] ∧ x.length = 1 ∧ Q (.int (x.cps.getD 0 0 : Nat)) H) := by
  intro pins s σ H xs us Q I r h
  obtain ⟨x, rfl, hz, q⟩ := h
  obtain ⟨u, rfl, t, rfl⟩ := vals1 r
  exact ord_of_one hz ⟨.int _, H, I.tok _, ⟨_, rfl⟩, q⟩
theorem call_chr : CallR X (.builtin "chr") (fun xs H Q => ∃ i, xs = [.int i] ∧ 0 ≤ i ∧ i ≤ 1114111 ∧ Q (.str ⟨#[i.toNat]⟩) H) := by
  intro pins s σ H xs us Q I r h
  obtain ⟨i, rfl, h0, h1, q⟩ := h
  obtain ⟨u, rfl, t, rfl⟩ := vals1 r
  exact chr_of_range h0 h1 ⟨.str _, H, I.tok _, ⟨_, rfl⟩, q⟩
/-- len of a str, a bytes, a list, a tuple -/
def LenV (K : PySem.W.Frag) (x : V) (H : Hp) (n : Nat) : Prop :=
  match x with
  | .str y => y.length ≤ sizeLine ∧ n = y.length
  | .byt y => y.size ≤ sizeLine ∧ n = y.size
  | .ref p => (∃ xs, SqL K H p xs ∧ n = xs.length) ∨ ∃ xs, SqT K H p xs ∧ n = xs.length
  | _ => False
theorem call_len : CallR X (.builtin "len") (fun xs H Q => ∃ x n, xs = [x] ∧ LenV X.K x H n ∧ Q (.int n) H) := by
  intro pins s σ H xs us Q I r h
  obtain ⟨x, n, rfl, e, q⟩ := h
  obtain ⟨u, rfl, rx⟩ := vals1 r
  have hl := line63
  have hs : sizeLine = 16777216 := sizeLine_eq
  cases x with
  | str y =>
    obtain ⟨t, rfl⟩ := rx
    obtain ⟨hy, e'⟩ : y.length ≤ sizeLine ∧ n = y.length := e
    subst e'
    exact len_str (by omega) ⟨.int _, H, I.tok _, ⟨_, rfl⟩, q⟩
  | byt y =>
    obtain ⟨t, rfl⟩ := rx
    obtain ⟨hy, e'⟩ : y.size ≤ sizeLine ∧ n = y.size := e
    subst e'
    exact PySem.W.len_bytes (by omega) ⟨.int _, H, I.tok _, ⟨_, rfl⟩, q⟩
  | ref p =>
    cases rx
    have e' : (∃ xs, SqL X.K H p xs ∧ n = xs.length) ∨ ∃ xs, SqT X.K H p xs ∧ n = xs.length := e
    rcases e' with ⟨xs, hx, e'⟩ | ⟨xs, hx, e'⟩
    · subst e'
      obtain ⟨its, r', pl, hz⟩ := I.list hx
      have hlen := r'.length
      exact Calls.call_len_list pl.isList (by simp only [List.size_toArray]; omega) ⟨.int xs.length, H, I.tok _, ⟨_, by simp only [List.size_toArray]; rw [hlen]⟩, q⟩
    · subst e'
      obtain ⟨its, r', pl, hz⟩ := I.tuple hx
      have hlen := r'.length
      exact len_tuple pl (by simp only [List.size_toArray]; omega) ⟨.int xs.length, H, I.tok _, ⟨_, by simp only [List.size_toArray]; rw [hlen]⟩, q⟩
  | _ => exact (show False from e).elim
/-- divmod: a new tuple -/
theorem call_divmod : CallR X (.builtin "divmod") (fun xs H Q => ∃ i j, xs = [.int i, .int j] ∧ CDiv i j ∧ ∀ p, H p = none → Q (.ref p) (upd H p (.tup [.int (i / j), .int (i % j)]))) := by
  intro pins s σ H xs us Q I r h
  obtain ⟨i, j, rfl, ⟨h1, h2⟩, q⟩ := h
  obtain ⟨u, w', rfl, ⟨t, rfl⟩, ⟨t', rfl⟩⟩ := vals2 r
  refine divmod_int (by omega) ?_ (.inl (PyProof.noPylong_small (by omega)))
  rw [Int.fdiv_eq_ediv_of_nonneg i (by omega), Int.fmod_eq_emod_of_nonneg i (by omega)]
  have hn : H s.heap.objs.size = none := I.hok.fresh (Nat.le_refl _)
  refine ⟨.ref s.heap.objs.size, _, ?_, rfl, q _ hn⟩
  refine I.laid (fun b o e => Heap.get?_push_of_some _ e) (Nat.le_refl _) ⟨by simp only [List.length_cons, List.length_nil]; rw [sizeLine_eq]; decide, [.int (i / j) s.toks, .int (i % j) (s.toks + 1)], .cons ⟨_, rfl⟩ (.cons ⟨_, rfl⟩ .nil), ?_⟩
  exact ⟨_, Heap.get?_push_size s.heap rfl, rfl, 0, rfl⟩
end
end L2

namespace L2
open PySem PySem.Spec PyProof.Rows

/-! ### an instance, its attributes a map -/
structure ObjM (h : Heap) (x dx C : Addr) (mA : Str → Option Value) : Prop where
  obj : h.get? x = some (PySem.W.instObj C dx)
  ns : h.Ns1 dx mA
  ne : dx ≠ x

theorem lookIn_ns {h : Heap} {dx : Addr} {mA : Str → Option Value} (n : h.Ns1 dx mA) : ∃ od, h.get? dx = some od ∧ ∀ name, PySem.W.lookIn name od = some (mA name) := by
  obtain ⟨o, es, ep, ho, hd, hk, _, hm⟩ := n
  refine ⟨o, ho, fun name => ?_⟩
  have e := hm name
  unfold nsFind findBy at e
  rw [← Array.find?_toList] at e
  unfold PySem.W.lookIn
  rw [hd]
  dsimp only
  split
  · rename_i y q
    rw [q] at e
    exact congrArg some e
  · rename_i q
    rw [q] at e
    have a : es.toList.any (·.refKey) = false := by
      rw [List.any_eq_false]
      intro y hy
      obtain ⟨z, t, hkey⟩ := hk y (Array.mem_toList_iff.mp hy)
      simp [DictEntry.refKey, hkey]
    have a' : ¬ es.toList.any (·.refKey) = true := by rw [a]; exact Bool.false_ne_true
    rw [if_neg a']
    exact congrArg some e

theorem ObjM.look {h : Heap} {x dx C : Addr} {mA : Str → Option Value} (I : ObjM h x dx C mA) : ∃ od, PySem.W.InstAt h x (PySem.W.instObj C dx) C (some od) ∧ ∀ name, PySem.W.lookIn name od = some (mA name) :=
  let ⟨od, ho, hl⟩ := lookIn_ns I.ns
  ⟨od, ⟨I.obj, rfl, rfl, ho⟩, hl⟩

section
variable {prog : Program} {w : World} {A : Around} {E : Value → Shared → Prop} {s : Shared} {K : PySem.W.Frag} {x dx C f : Addr} {mA : Str → Option Value} {name : Str} {v : Value}

theorem get_map {expr : Bool} {Q : Value → Shared → Prop} (X : K.In s.heap) (I : ObjM s.heap x dx C mA) (hg : PySem.W.plainGet K C name = true) (hh : PySem.W.hasDictIn K C = true)
    (ha : PySem.W.findIn K (.ref C) name = some none) (hv : mA name = some v) (hv' : PySem.W.handedIn v = true) (h : Q v { s with toks := s.toks + 1 }) :
    wpAny (model prog w) A (getAttr (.ref x) name expr) Q E s := by
  obtain ⟨od, J, hl⟩ := I.look
  exact PySem.W.get_value X J (PySem.W.plainGet_of hg).1 (PySem.W.findObj_own hh ha rfl (by rw [hl, hv])) hv' h

theorem get_const {expr : Bool} {a : Value} {Q : Value → Shared → Prop} (X : K.In s.heap) (I : ObjM s.heap x dx C mA) (hg : PySem.W.plainGet K C name = true) (hh : PySem.W.hasDictIn K C = true)
    (ha : PySem.W.findIn K (.ref C) name = some (some a)) (hn : PySem.W.specialIn K a "__get__" = some none) (hc : PySem.W.copiedNames.contains name = false) (hv : mA name = none) (hv' : PySem.W.handedIn a = true)
    (h : Q a { s with toks := s.toks + 1 }) : wpAny (model prog w) A (getAttr (.ref x) name expr) Q E s := by
  obtain ⟨od, J, hl⟩ := I.look
  exact PySem.W.get_value X J (PySem.W.plainGet_of hg).1 (PySem.W.findObj_cls hh ha hn hv' hc (by rw [hl, hv])) hv' h

theorem get_meth {pl : Sem Bool} {Q : Value × List Value → Shared → Prop} (X : K.In s.heap) (I : ObjM s.heap x dx C mA) (hg : PySem.W.plainGet K C name = true)
    (hf : PySem.W.findIn K (.ref C) name = some (some (.ref f))) (ht : PySem.W.isFn K (.ref f) = true) (hv : mA name = none) (h : Q (.ref f, [.ref x]) s) :
    wpAny (model prog w) A (getMethod (.ref x) name pl) Q E s := by
  obtain ⟨od, J, hl⟩ := I.look
  exact PySem.W.method_fn X J (PySem.W.plainGet_of hg).1 (PySem.W.plainGet_of hg).2 hf (beq_iff_eq.mp ht) (by show (PySem.W.lookIn name od).map (·.isSome) = some false; rw [hl, hv]; rfl) h

theorem set_map {ns : List Str} {Q : Unit → Shared → Prop} (X : K.In s.heap) (I : ObjM s.heap x dx C mA)
    (hs : PySem.W.findIn K (.ref C) "__setattr__" = some (some (.builtin "object.__setattr__"))) (hp : PySem.W.plainOver K C = true) (ht : PySem.W.takerIn K C name = some none) (hh : PySem.W.hasDictIn K C = true)
    (hw : PySem.Within mA ns) (hsz : ns.length ≤ sizeLine)
    (h : ∀ h', ObjM h' x dx C (fun y => if y = name then some v else mA y) → Heap.SameBut dx s.heap h' → Q () { s with heap := h', toks := s.toks + 2 }) :
    wpAny (model prog w) A (setAttr (.ref x) name v) Q E s := by
  obtain ⟨od, J, hl⟩ := I.look
  refine PySem.W.set_plain X J hs (PySem.W.osa_open (s := { s with toks := s.toks + 1 }) (r := none) X J hp ht fun b => ?_)
  obtain ⟨cd, hc, hd'⟩ := PySem.W.any_some hh
  have hx : s.heap.get? x = some ⟨.ref C, some dx, .plain, #[]⟩ := I.obj
  refine wpAny_bind (wpAny_pure (wpAny_bind (wpAny_bind (wpAny_loadPart hx (wpAny_bind (PySem.W.Looks.here (s := { s with toks := s.toks + 1 }) (PySem.W.looks_clsIn X hc) ?_))))))
  rw [hd']
  refine wpAny_pure (a := some dx) (wpAny_bind (wpAny_pure (wpAny_bind ?_)))
  refine wpAny_nsSet1 (s := { s with toks := s.toks + 1 }) I.ns fun h' hn2 hs2 => ?_
  obtain ⟨oD, esD, epD, hoD, hdD, hcD⟩ := hn2.count (PySem.Within.cons name v hw)
  refine wpAny_bind (wpAny_lookBehind hoD (by rw [hdD]; exact pastItsLine_dict (Nat.le_trans hcD (by rw [List.length_cons]; omega))) ?_)
  exact wpAny_pure (h _ ⟨(hs2.2 _ (Ne.symm I.ne)).trans I.obj, hn2, I.ne⟩ hs2)

/-- C(..): the dict at the heap's end, the instance behind it; then its __init__ -/
theorem make_map {R : Result → Shared → Prop} {vs : List Value} {kw : List (Str × Value)} (X : K.In s.heap) (hm : PySem.W.makesIn K C = true)
    (hi : PySem.W.findIn K (.ref C) "__init__" = some (some (.ref f))) (hf : PySem.W.typeIn K (.ref f) = some (.type "function"))
    (h : codeAny (model prog w) (A.under (.builtin "type.__call__" ⟨.ref C :: vs, kw⟩)) (.call (.ref f) ⟨.ref (s.heap.objs.size + 1) :: vs, kw⟩) (PySem.W.InitBack (s.heap.objs.size + 1) R)
      { s with heap := (s.heap.push PySem.W.emptyDict).push (PySem.W.instObj C s.heap.objs.size) }) :
    codeAny (model prog w) A (.call (.ref C) ⟨vs, kw⟩) R s := by
  obtain ⟨hh, g, d, t, os⟩ := s
  exact PySem.W.make_core (PySem.W.makes_of X hm) (PySem.W.looks_findIn X hi) (fun self => PySem.W.bind_fn X self hf) (.inl rfl) h
/-- C() where there is no __init__ but object's -/
theorem make_map0 {R : Result → Shared → Prop} (X : K.In s.heap) (hm : PySem.W.makesIn K C = true)
    (hi : PySem.W.findIn K (.ref C) "__init__" = some (some (.builtin "object.__init__")))
    (hb : ∀ self, PySem.W.Looks (model prog w) s.heap (bindSpecial (.builtin "object.__init__") self) (.builtin "object.__init__", [self]))
    (h : codeAny (model prog w) (A.under (.builtin "type.__call__" ⟨[.ref C], []⟩)) (.call (.builtin "object.__init__") ⟨[.ref (s.heap.objs.size + 1)], []⟩) (PySem.W.InitBack (s.heap.objs.size + 1) R)
      { s with heap := (s.heap.push PySem.W.emptyDict).push (PySem.W.instObj C s.heap.objs.size) }) :
    codeAny (model prog w) A (.call (.ref C) ⟨[], []⟩) R s := by
  obtain ⟨hh, g, d, t, os⟩ := s
  exact PySem.W.make_core (PySem.W.makes_of X hm) (PySem.W.looks_findIn X hi) hb (.inr ⟨rfl, rfl⟩) h
end

/-! ### the attributes as a list of pairs -/
def putF (f : Str) (v : V) : List (Str × V) → List (Str × V)
  | [] => [(f, v)]
  | (g, x) :: r => if g = f then (g, v) :: r else (g, x) :: putF f v r
theorem lookup_putF (f g : Str) (v : V) : ∀ fs : List (Str × V), (putF f v fs).lookup g = if g = f then some v else fs.lookup g
  | [] => by
    show List.lookup g [(f, v)] = _
    by_cases h : g = f
    · have hb : (g == f) = true := beq_iff_eq.mpr h
      simp only [List.lookup, hb, if_pos h]
    · have hb : (g == f) = false := beq_eq_false_iff_ne.mpr h
      simp only [List.lookup, hb, if_neg h]
  | (k, x) :: r => by
    have ih := lookup_putF f g v r
    rw [show putF f v ((k, x) :: r) = (if k = f then (k, v) :: r else (k, x) :: putF f v r) from rfl]
    by_cases hk : k = f
    · rw [if_pos hk]
      by_cases h : g = k
      · have hb : (g == k) = true := beq_iff_eq.mpr h
        simp only [List.lookup, hb, if_pos (h.trans hk)]
      · have hb : (g == k) = false := beq_eq_false_iff_ne.mpr h
        simp only [List.lookup, hb, if_neg (fun e : g = f => h (e.trans hk.symm))]
    · rw [if_neg hk]
      by_cases h : g = k
      · have hb : (g == k) = true := beq_iff_eq.mpr h
        simp only [List.lookup, hb, if_neg (fun e : g = f => hk (h.symm.trans e))]
      · have hb : (g == k) = false := beq_eq_false_iff_ne.mpr h
        simp only [List.lookup, hb]
        exact ih
theorem keys_putF (f : Str) (v : V) : ∀ fs : List (Str × V), f ∈ (putF f v fs).map (·.1) ∧ ∀ g, g ∈ fs.map (·.1) → g ∈ (putF f v fs).map (·.1)
  | [] => ⟨by simp [putF], fun g h => by simp at h⟩
  | (k, x) :: r => by
    obtain ⟨i1, i2⟩ := keys_putF f v r
    rw [show putF f v ((k, x) :: r) = (if k = f then (k, v) :: r else (k, x) :: putF f v r) from rfl]
    by_cases hk : k = f
    · rw [if_pos hk]
      subst hk
      exact ⟨by simp, fun g h => by simpa using h⟩
    · rw [if_neg hk]
      refine ⟨?_, fun g h => ?_⟩
      · rw [List.map_cons]
        exact List.mem_cons_of_mem _ i1
      · rw [List.map_cons] at h ⊢
        rcases List.mem_cons.mp h with e | e
        · exact List.mem_cons.mpr (.inl e)
        · exact List.mem_cons_of_mem _ (i2 g e)
theorem length_putF (f : Str) (v : V) : ∀ fs : List (Str × V), (putF f v fs).length ≤ fs.length + 1
  | [] => by simp [putF]
  | (k, x) :: r => by
    have ih := length_putF f v r
    rw [show putF f v ((k, x) :: r) = (if k = f then (k, v) :: r else (k, x) :: putF f v r) from rfl]
    by_cases hk : k = f
    · rw [if_pos hk, List.length_cons, List.length_cons]; omega
    · rw [if_neg hk, List.length_cons, List.length_cons]; omega

theorem RelO.some_of {v : V} {o : Option Value} (r : RelO (some v) o) : ∃ u, o = some u ∧ RelV v u := by
  cases o with
  | none => exact (show False from r).elim
  | some u => exact ⟨u, rfl, r⟩
theorem RelO.none_of {o : Option Value} (r : RelO none o) : o = none := by
  cases o with
  | none => rfl
  | some u => exact (show False from r).elim
theorem handed_of {v : V} {u : Value} (r : RelV v u) : PySem.W.handedIn u = true := by
  cases v with
  | non => cases (show u = Value.none from r); rfl
  | bl b => cases (show u = Value.bool b from r); rfl
  | int i => obtain ⟨t, e⟩ := (show ∃ t, u = Value.int i t from r); cases e; rfl
  | str x => obtain ⟨t, e⟩ := (show ∃ t, u = Value.str x t from r); cases e; rfl
  | byt b => obtain ⟨t, e⟩ := (show ∃ t, u = Value.bytes b t from r); cases e; rfl
  | flt b => obtain ⟨t, e⟩ := (show ∃ t, u = Value.float b t from r); cases e; rfl
  | ref a => cases (show u = Value.ref a from r); rfl
  | ty n => cases (show u = Value.type n from r); rfl

section
variable {P : Program} {w : World} {H H' : Hp} {h h' : Heap} {a C dx : Addr} {fs fs' : List (Str × V)}
theorem ins_get (hok : HOk P w H h) (e : H a = some (.ins C dx fs)) : ∃ mA, ObjM h a dx C mA ∧ (∀ f, RelO (fs.lookup f) (mA f)) ∧ PySem.Within mA (fs.map (·.1)) ∧ fs.length ≤ 1000 ∧ H dx = some (.own a) := by
  obtain ⟨d, z, ne, ob, mA, n, r, q⟩ := (show ObjOk P w H h a (.ins C dx fs) from hok a _ e)
  exact ⟨mA, ⟨ob, n, ne⟩, r, q, z, d⟩
end

/-! ### what of the text a class must have -/
structure Cls (K : PySem.W.Frag) (C : Addr) : Prop where
  pg : PySem.W.plainGet K C Str.empty = true
  hd : PySem.W.hasDictIn K C = true
  po : PySem.W.plainOver K C = true
  sa : PySem.W.findIn K (.ref C) "__setattr__" = some (some (.builtin "object.__setattr__"))
theorem Cls.get {K : PySem.W.Frag} {C : Addr} (c : Cls K C) (f : Str) : PySem.W.plainGet K C f = true := c.pg
/-- no class of it has the name -/
def NoAttr (K : PySem.W.Frag) (C : Addr) (f : Str) : Prop := PySem.W.findIn K (.ref C) f = some none
theorem NoAttr.taker {K : PySem.W.Frag} {C : Addr} {f : Str} (n : NoAttr K C f) : PySem.W.takerIn K C f = some none := by
  unfold PySem.W.takerIn
  rw [show PySem.W.findIn K (.ref C) f = some none from n]
  rfl
/-- a constant of the class -/
structure Con (K : PySem.W.Frag) (C : Addr) (f : Str) (v : V) (u : Value) : Prop where
  at_ : PySem.W.findIn K (.ref C) f = some (some u)
  rel : RelV v u
  get : PySem.W.specialIn K u "__get__" = some none
  cp : PySem.W.copiedNames.contains f = false
/-- a method: a plain def of the class or of one above it -/
structure Meth (K : PySem.W.Frag) (C : Addr) (m : Str) (f : Addr) : Prop where
  at_ : PySem.W.findIn K (.ref C) m = some (some (.ref f))
  fn : PySem.W.isFn K (.ref f) = true
  kp : PySem.W.keepIn K (.ref f) = true

section
variable {X : Cx} {pins : List (Addr × Obj)} {σ : St} {H : Hp} {s : Shared} {a C dx : Addr} {fs : List (Str × V)} {f : Str} {v : V} {A : Around} {E : Value → Shared → Prop}

theorem getattr_ok {b : Bool} {Q : Value → Shared → Prop} (I : Inv X pins σ H s) (e : H a = some (.ins C dx fs)) (c : Cls X.K C) (n : NoAttr X.K C f) (l : fs.lookup f = some v)
    (h : ∀ u s', Inv X pins σ H s' → RelV v u → Q u s') : wpAny (model X.prog X.w) A (getAttr (.ref a) f b) Q E s := by
  obtain ⟨mA, O, r, _, _, _⟩ := ins_get I.hok e
  obtain ⟨u, hu, ru⟩ := RelO.some_of (v := v) (o := mA f) (by rw [← l]; exact r f)
  exact get_map I.kIn O (c.get f) c.hd n hu (handed_of ru) (h u _ (I.tok _) ru)

theorem getcon_ok {b : Bool} {u : Value} {Q : Value → Shared → Prop} (I : Inv X pins σ H s) (e : H a = some (.ins C dx fs)) (c : Cls X.K C) (k : Con X.K C f v u) (l : fs.lookup f = none)
    (h : ∀ s', Inv X pins σ H s' → Q u s') : wpAny (model X.prog X.w) A (getAttr (.ref a) f b) Q E s := by
  obtain ⟨mA, O, r, _, _, _⟩ := ins_get I.hok e
  have hn : mA f = none := RelO.none_of (by rw [← l]; exact r f)
  exact get_const I.kIn O (c.get f) c.hd k.at_ k.get k.cp hn (handed_of k.rel) (h _ (I.tok _))

theorem getmeth_ok {m : Str} {g : Addr} {pl : Sem Bool} {Q : Value × List Value → Shared → Prop} (I : Inv X pins σ H s) (e : H a = some (.ins C dx fs)) (c : Cls X.K C) (k : Meth X.K C m g) (l : fs.lookup m = none)
    (h : Q (.ref g, [.ref a]) s) : wpAny (model X.prog X.w) A (getMethod (.ref a) m pl) Q E s := by
  obtain ⟨mA, O, r, _, _, _⟩ := ins_get I.hok e
  have hn : mA m = none := RelO.none_of (by rw [← l]; exact r m)
  exact get_meth I.kIn O (c.get m) k.at_ k.fn hn h

theorem setattr_ok {y : V} {u : Value} {Q : Unit → Shared → Prop} (I : Inv X pins σ H s) (e : H a = some (.ins C dx fs)) (c : Cls X.K C) (n : NoAttr X.K C f) (hl : fs.length < 1000) (ry : RelV y u)
    (h : ∀ s', Inv X pins σ (upd H a (.ins C dx (putF f y fs))) s' → Q () s') : wpAny (model X.prog X.w) A (setAttr (.ref a) f u) Q E s := by
  obtain ⟨mA, O, r, wi, _, ho⟩ := ins_get I.hok e
  have hz : (fs.map (·.1)).length ≤ sizeLine := by rw [List.length_map, sizeLine_eq]; omega
  refine set_map I.kIn O c.sa c.po n.taker c.hd wi hz fun h' O' sb => h _ ?_
  have hd : ∃ o, h'.get? dx = some o := let ⟨o, _, _, e', _⟩ := O'.ns; ⟨o, e'⟩
  refine I.write (x := a) (e := dx) (by rw [e]; exact True.intro) (.inr ho) (fun b q hb z => (sb.2 b hb).trans z) hd ?_
  refine ⟨by rw [upd_ne O.ne]; exact ho, ?_, O.ne, O'.obj, _, O'.ns, fun g => ?_, fun g hg => ?_⟩
  · have := length_putF f y fs; omega
  · show RelO ((putF f y fs).lookup g) (if g = f then some u else mA g)
    rw [lookup_putF]
    by_cases q : g = f
    · rw [if_pos q, if_pos q]; exact ry
    · rw [if_neg q, if_neg q]; exact r g
  · by_cases q : g = f
    · rw [q]; exact (keys_putF f y fs).1
    · refine (keys_putF f y fs).2 g (wi g fun z => hg ?_)
      show (if g = f then some u else mA g) = none
      rw [if_neg q]; exact z

/-- a new instance, tracked, without attributes -/
theorem Inv.made (I : Inv X pins σ H s) : Inv X pins σ (upd (upd H s.heap.objs.size (.own (s.heap.objs.size + 1))) (s.heap.objs.size + 1) (.ins C s.heap.objs.size []))
    { s with heap := (s.heap.push PySem.W.emptyDict).push (PySem.W.instObj C s.heap.objs.size) } := by
  have e1 : (s.heap.push PySem.W.emptyDict).get? s.heap.objs.size = some PySem.W.emptyDict := Heap.get?_push_size s.heap rfl
  have e2 : ((s.heap.push PySem.W.emptyDict).push (PySem.W.instObj C s.heap.objs.size)).get? (s.heap.objs.size + 1) = some (PySem.W.instObj C s.heap.objs.size) := by
    have := Heap.get?_push_size (s.heap.push PySem.W.emptyDict) (o := PySem.W.instObj C s.heap.objs.size) rfl
    rwa [Heap.size_push] at this
  have e3 : (s.heap.push PySem.W.emptyDict).Ns s.heap.objs.size (fun _ => none) := ⟨PySem.W.emptyDict, #[], _, e1, rfl, (fun e he => absurd he (by simp)), fun _ => rfl⟩
  have I1 := I.laid (a := s.heap.objs.size) (o := .own (s.heap.objs.size + 1)) (h' := s.heap.push PySem.W.emptyDict) (t' := s.toks) (fun b u q => Heap.get?_push_of_some _ q) (Nat.le_refl _) ⟨_, e1⟩
  refine I1.laid (a := s.heap.objs.size + 1) (o := .ins C s.heap.objs.size []) (t' := s.toks) (fun b u q => Heap.get?_push_of_some _ q) (Nat.le_of_eq (Heap.size_push _ _)) ?_
  have ne : s.heap.objs.size ≠ s.heap.objs.size + 1 := Nat.ne_of_lt (Nat.lt_succ_self _)
  refine ⟨by rw [upd_ne ne, upd_same], Nat.zero_le _, ne, e2, fun _ => none, (Heap.Ns1.of_empty e3).at fun o q => Heap.get?_push_of_some _ q, fun _ => True.intro, fun y hy => absurd rfl hy⟩

/-- e.f where nothing but the object is asked: through attributeBase (super) and the last hold -/
theorem attr_of {prog : Program} {w : World} {env : Env} {e : Expr} {f : Str} {pos : Pos} {s : Shared} {Q : Value → Shared → Prop} (hb : attributeBase e f env (eval e env) = eval e env)
    (h : wpAny (model prog w) A (eval e env) (fun o s₁ => wpAny (model prog w) A (getAttr o f true) Q E s₁) E s) : wpAny (model prog w) A (eval (.Attribute e f pos) env) Q E s :=
  Attribute_any_ h (by rw [arm_eval_Attribute, hb])
end

/-! ### readings and rules -/
/-- e.f, an attribute of the instance -/
def tFld (K : PySem.W.Frag) (ta : TE) (f : Str) : TE := fun σ H Q => ta σ H fun x H1 => ∃ a C dx fs v, x = .ref a ∧ H1 a = some (.ins C dx fs) ∧ Cls K C ∧ NoAttr K C f ∧ fs.lookup f = some v ∧ Q v H1
/-- e.f, a constant of the class -/
def tCon (K : PySem.W.Frag) (ta : TE) (f : Str) : TE := fun σ H Q => ta σ H fun x H1 => ∃ a C dx fs v u, x = .ref a ∧ H1 a = some (.ins C dx fs) ∧ Cls K C ∧ Con K C f v u ∧ fs.lookup f = none ∧ Q v H1
/-- e.f = value -/
def sFld (K : PySem.W.Frag) (ta tv : TE) (f : Str) : TS := fun D σ H => tv σ H fun y H1 => ta σ H1 fun x H2 => ∃ a C dx fs, x = .ref a ∧ H2 a = some (.ins C dx fs) ∧ Cls K C ∧ NoAttr K C f ∧ fs.length < 1000 ∧
  D.nx σ (upd H2 a (.ins C dx (putF f y fs)))
/-- an augmented operator on two values -/
def InOp (X : Cx) (op : Operator) (rd : V → V → Hp → VK → Prop) : Prop :=
  ∀ (pins : List (Addr × Obj)) (s : Shared) (σ : St) (H : Hp) (x y : V) (u v : Value) (Q : VK), Inv X pins σ H s → RelV x u → RelV y v → rd x y H Q → wpAny (model X.prog X.w) X.A (inplaceOp op u v) (EP X pins σ Q) X.xe s
/-- e.f op= value -/
def sFldAug (K : PySem.W.Frag) (ta tv : TE) (rd : V → V → Hp → VK → Prop) (f : Str) : TS := fun D σ H => ta σ H fun x H1 => ∃ a C dx fs v, x = .ref a ∧ H1 a = some (.ins C dx fs) ∧ Cls K C ∧ NoAttr K C f ∧ fs.lookup f = some v ∧
  tv σ H1 fun y H2 => rd v y H2 fun z H3 => ∃ dx' fs', H3 a = some (.ins C dx' fs') ∧ fs'.length < 1000 ∧ D.nx σ (upd H3 a (.ins C dx' (putF f z fs')))

section
variable {X : Cx} {o e value : Expr} {f : Str} {pos pos' tpos : Pos} {ta tv : TE}
theorem pe_fld (he : PE X e ta) (hb : attributeBase e f X.env (eval e X.env) = eval e X.env) : PE X (.Attribute e f pos) (tFld X.K ta f) := by
  intro pins s σ H Q I h
  refine attr_of hb (thn (he pins s σ H _ I h) fun u s1 ⟨x, H1, I1, rx, a, C, dx, fs, v, ex, ea, c, n, l, q⟩ => ?_)
  subst ex
  obtain rfl : u = Value.ref a := rx
  exact getattr_ok I1 ea c n l fun u' s2 I2 ru => ⟨v, H1, I2, ru, q⟩
theorem pe_con (he : PE X e ta) (hb : attributeBase e f X.env (eval e X.env) = eval e X.env) : PE X (.Attribute e f pos) (tCon X.K ta f) := by
  intro pins s σ H Q I h
  refine attr_of hb (thn (he pins s σ H _ I h) fun u s1 ⟨x, H1, I1, rx, a, C, dx, fs, v, u0, ex, ea, c, k, l, q⟩ => ?_)
  subst ex
  obtain rfl : u = Value.ref a := rx
  exact getcon_ok I1 ea c k l fun s2 I2 => ⟨v, H1, I2, k.rel, q⟩
theorem ps_fld (ha : PE X o ta) (hv : PE X value tv) (hs : swapsWith value (some (.Attribute o f pos')) pos.line X.env = pure false) : PS X (.Assign [.Attribute o f pos'] value pos) (sFld X.K ta tv f) := by
  intro pins s σ H D I h
  refine plainObj_wpAny_Assign_Attribute (thn (hv pins s σ H _ I h) fun u s1 ⟨y, H1, I1, ry, q⟩ => thn (ha pins s1 σ H1 _ I1 q) fun ov s2 ⟨x, H2, I2, rx, a, C, dx, fs, ex, ea, c, n, l, q2⟩ => ?_) hs
  subst ex
  obtain rfl : ov = Value.ref a := rx
  exact setattr_ok I2 ea c n l ry fun s3 I3 => ⟨σ, _, I3, q2⟩
theorem ps_fldaug {op : Operator} {rd : V → V → Hp → VK → Prop} (ha : PE X o ta) (hv : PE X value tv) (hop : InOp X op rd) : PS X (.AugAssign (.Attribute o f tpos) op value pos) (sFldAug X.K ta tv rd f) := by
  intro pins s σ H D I h
  refine wpAny_AugAssign_AttributeAny (thn (ha pins s σ H _ I h) fun ov s1 ⟨x, H1, I1, rx, a, C, dx, fs, v, ex, ea, c, n, l, q⟩ => ?_)
  subst ex
  obtain rfl : ov = Value.ref a := rx
  refine getattr_ok I1 ea c n l fun u s2 I2 ru => thn (hv pins s2 σ H1 _ I2 q) fun w3 s3 ⟨y, H2, I3, ry, q3⟩ => thn (hop pins s3 σ H2 v y u w3 _ I3 ru ry q3) fun w4 s4 ⟨z, H3, I4, rz, dx', fs', ea', l', q4⟩ => ?_
  exact setattr_ok I4 ea' c n l' rz fun s5 I5 => ⟨σ, _, I5, q4⟩
def rAdd : V → V → Hp → VK → Prop := fun x y H Q => ∃ i j, x = .int i ∧ y = .int j ∧ Q (.int (i + j)) H
def rSub : V → V → Hp → VK → Prop := fun x y H Q => ∃ i j, x = .int i ∧ y = .int j ∧ Q (.int (i - j)) H
theorem in_add : InOp X .Add rAdd := by
  rintro pins s σ H x y u v Q I rx ry ⟨i, j, rfl, rfl, q⟩
  obtain ⟨t, rfl⟩ := (show ∃ t, u = Value.int i t from rx)
  obtain ⟨t', rfl⟩ := (show ∃ t', v = Value.int j t' from ry)
  exact PyProof.Rows.iadd_int ⟨.int (i + j), H, I.tok _, ⟨_, rfl⟩, q⟩
theorem in_sub : InOp X .Sub rSub := by
  rintro pins s σ H x y u v Q I rx ry ⟨i, j, rfl, rfl, q⟩
  obtain ⟨t, rfl⟩ := (show ∃ t, u = Value.int i t from rx)
  obtain ⟨t', rfl⟩ := (show ∃ t', v = Value.int j t' from ry)
  exact PyProof.Rows.isub_int ⟨.int (i - j), H, I.tok _, ⟨_, rfl⟩, q⟩

/-- what is between an instance and its method: the tree of a method call -/
theorem methcall_of {pl : Sem Bool} {m : Str} {apos : Pos} {args : List Expr} {pins : List (Addr × Obj)} {s : Shared} {σ : St} {H : Hp} {Q : Value → Shared → Prop} {te : TE} (he : PE X e te) (I : Inv X pins σ H s)
    (h : te σ H fun x H1 => ∃ a C dx fs g, x = .ref a ∧ H1 a = some (.ins C dx fs) ∧ Cls X.K C ∧ Meth X.K C m g ∧ fs.lookup m = none ∧
      ∀ s1, Inv X pins σ H1 s1 → wpAny (model X.prog X.w) X.A (callWith pos (.ref g) [.ref a] (backTo pos (starEach args X.env)) (backToKw pos (keywordEach [] X.env))) Q X.xe s1)
    (ht : eval (.Call (.Attribute e m apos) args [] pos) X.env = (do
      let ov ← eval e X.env
      standAt apos.atName
      let (f, first) ← holding [ov] (getMethod ov m pl)
      callWith pos f first (backTo pos (starEach args X.env)) (backToKw pos (keywordEach [] X.env)))) :
    wpAny (model X.prog X.w) X.A (eval (.Call (.Attribute e m apos) args [] pos) X.env) Q X.xe s := by
  refine PySem.W.methodCall_KW (pl := pl) (thn (he pins s σ H _ I h) fun u s1 ⟨x, H1, I1, rx, a, C, dx, fs, g, ex, ea, c, k, l, q⟩ => ?_) ht
  subst ex
  obtain rfl : u = Value.ref a := rx
  exact getmeth_ok I1 ea c k l (q s1 I1)
end

/-! ### isinstance -/
section
variable {X : Cx} {pins : List (Addr × Obj)} {σ : St} {H : Hp} {s : Shared} {A : Around} {E : Value → Shared → Prop} {Q : Value → Shared → Prop} {c : Value} {b : Bool}
/-- the type of a value, as the fragment's deciders take it; for an instance its class -/
inductive TyOf (K : PySem.W.Frag) (H : Hp) : V → Value → Prop where
  | non : TyOf K H .non (.type "NoneType")
  | bl (x : Bool) : TyOf K H (.bl x) (.type "bool")
  | int (i : Int) : TyOf K H (.int i) (.type "int")
  | str (x : Str) : TyOf K H (.str x) (.type "str")
  | flt (x : UInt64) : TyOf K H (.flt x) (.type "float")
  | lst {a : Addr} {xs : List V} (e : H a = some (.lst xs)) : TyOf K H (.ref a) (.type "list")
  | frz {a : Addr} {o : Obj} {xs : List V} (e : H a = some (.frz o (.lst xs))) : TyOf K H (.ref a) (.type "list")
  | tup {a : Addr} {xs : List V} (e : H a = some (.tup xs)) : TyOf K H (.ref a) (.type "tuple")
  | dK {a : Addr} {kvs : List (Key × V)} (e : H a = some (.dK kvs)) : TyOf K H (.ref a) (.type "dict")
  | dT {a : Addr} {kvs : List (List Key × V)} (e : H a = some (.dT kvs)) : TyOf K H (.ref a) (.type "dict")
  | ins {a C dx : Addr} {fs : List (Str × V)} (e : H a = some (.ins C dx fs)) (cl : Cls K C) (ha : PySem.W.findIn K (.ref C) "__class__" = some (some (.builtin "object.__class__")))
      (hn : PySem.W.specialIn K (.builtin "object.__class__") "__get__" = some (some (.builtin "getset_descriptor.__get__"))) (htk : PySem.W.takesIn K (.builtin "object.__class__") = some true)
      (hm : PySem.W.mroIn K C (.type "object") = some true) : TyOf K H (.ref a) (.ref C)
/-- isinstance(x, c) for one class c, a built-in or an own one: kitOne's answer -/
theorem isinst_ok {x : V} {u t : Value} (I : Inv X pins σ H s) (rx : RelV x u) (ty : TyOf X.K H x t) (e : PySem.W.kitOne X.K t c = some b) (h : ∀ tk, Q (.bool b) { s with toks := tk }) :
    wpAny (model X.prog X.w) A (call (.builtin "isinstance") [u, c]) Q E s := by
  cases ty with
  | non => cases (show u = Value.none from rx); exact PySem.W.kia_one PySem.W.kitx_none I.kIn True.intro e (fun z => nomatch z) h
  | bl y => cases (show u = Value.bool y from rx); exact PySem.W.kia_one PySem.W.kitx_bool I.kIn True.intro e (fun z => nomatch z) h
  | int i => obtain ⟨t, q⟩ := (show ∃ t, u = Value.int i t from rx); cases q; exact PySem.W.kia_one PySem.W.kitx_int I.kIn True.intro e (fun z => nomatch z) h
  | str y => obtain ⟨t, q⟩ := (show ∃ t, u = Value.str y t from rx); cases q; exact PySem.W.kia_one PySem.W.kitx_str I.kIn True.intro e (fun z => nomatch z) h
  | flt y => obtain ⟨t, q⟩ := (show ∃ t, u = Value.float y t from rx); cases q; exact PySem.W.kia_one PySem.W.kitx_float I.kIn True.intro e (fun z => nomatch z) h
  | @lst a xs ea =>
    cases (show u = Value.ref a from rx)
    obtain ⟨_, _, n, _, h1⟩ := (show ObjOk X.prog X.w H s.heap a (.lst xs) from I.hok a _ ea)
    exact PySem.W.kia_one PySem.W.kitx_list I.kIn ⟨_, h1, rfl⟩ e (fun z => nomatch z) h
  | @frz a ob xs ea =>
    cases (show u = Value.ref a from rx)
    obtain ⟨_, _, _, n, _, h1⟩ := (show ObjOk X.prog X.w H s.heap a (.frz ob (.lst xs)) from I.hok a _ ea)
    exact PySem.W.kia_one PySem.W.kitx_list I.kIn ⟨_, h1, rfl⟩ e (fun z => nomatch z) h
  | @tup a xs ea =>
    cases (show u = Value.ref a from rx)
    obtain ⟨_, _, _, p⟩ := (show ObjOk X.prog X.w H s.heap a (.tup xs) from I.hok a _ ea)
    obtain ⟨o, h1, h2, _⟩ := p
    exact PySem.W.kia_one PySem.W.kitx_tuple I.kIn ⟨o, h1, h2⟩ e (fun z => nomatch z) h
  | @dK a kvs ea =>
    cases (show u = Value.ref a from rx)
    obtain ⟨_, _, vs, _, p⟩ := (show ObjOk X.prog X.w H s.heap a (.dK kvs) from I.hok a _ ea)
    obtain ⟨o, es, ep, h1, h2, _⟩ := p
    exact PySem.W.kia_one PySem.W.kitx_dict I.kIn ⟨o, h1, h2.1⟩ e (fun z => nomatch z) h
  | @dT a kvs ea =>
    cases (show u = Value.ref a from rx)
    obtain ⟨_, _, xs, _, o, es, ep, h1, h2, _⟩ := (show ObjOk X.prog X.w H s.heap a (.dT kvs) from I.hok a _ ea)
    exact PySem.W.kia_one PySem.W.kitx_dict I.kIn ⟨o, h1, h2.1⟩ e (fun z => nomatch z) h
  | @ins a C dx fs ea cl ha hn htk hm =>
    cases (show u = Value.ref a from rx)
    obtain ⟨mA, O, _⟩ := ins_get I.hok ea
    obtain ⟨od, J, _⟩ := O.look
    exact PySem.W.kia_one (PySem.W.kitx_own (cl.get _) cl.hd ha hn htk hm) I.kIn J e (fun z => nomatch z) h
end
end L2

namespace L2
open PySem PySem.Spec PyProof.Rows

/-! ### room -/
structure Room (k : Nat) (A : Around) : Prop where
  hd : A.handled = none
  dp : A.depth + 3 * k + 5 < recursionLimit
  un : A.units + 16 * k + 200 < cLine
theorem Room.mono {j k : Nat} {A : Around} (r : Room k A) (h : j ≤ k) : Room j A := ⟨r.hd, by have := r.dp; omega, by have := r.un; omega⟩
theorem Room.deeper {k : Nat} {A : Around} (r : Room (k + 1) A) (env : Env) : Room k (A.deeper env) :=
  ⟨r.hd, by have := r.dp; show A.depth + 1 + 3 * k + 5 < _; omega, by have := r.un; show A.units + 3 + 16 * k + 200 < _; omega⟩
theorem Room.in1 {k : Nat} {A : Around} (r : Room (k + 1) A) : Room k A.in1 :=
  ⟨r.hd, by have := r.dp; show A.depth + 3 * k + 5 < _; omega, by have := r.un; show A.units + 1 + 16 * k + 200 < _; omega⟩
theorem make_depth {A : Around} {C : Addr} {us : List Value} {kw : List (Str × Value)} : (A.under (.builtin "type.__call__" ⟨.ref C :: us, kw⟩)).depth = A.depth + 1 := by
  first | rfl | simp [Around.under, Code.weight, Code.isCreation, Code.isGuard, Code.isCaller, Code.frames, Code.isFrame, guardIds]
theorem make_units {A : Around} {C : Addr} {us : List Value} {kw : List (Str × Value)} : (A.under (.builtin "type.__call__" ⟨.ref C :: us, kw⟩)).units = A.units + 1 := by
  first | rfl | simp [Around.under, Code.cUnits, Code.frames, Code.isFrame]
theorem Room.make {k : Nat} {A : Around} (r : Room (k + 1) A) (C : Addr) (us : List Value) (kw : List (Str × Value)) : Room k (A.under (.builtin "type.__call__" ⟨.ref C :: us, kw⟩)) :=
  ⟨r.hd, by have := r.dp; rw [make_depth]; omega, by have := r.un; rw [make_units]; omega⟩
theorem Room.depth {k : Nat} {A : Around} (r : Room k A) : A.depth < recursionLimit := by have := r.dp; omega
theorem Room.units {k : Nat} {A : Around} (r : Room k A) : A.units + 64 < cLine := by have := r.un; omega
theorem Room.units0 {k : Nat} {A : Around} (r : Room k A) : A.units < cLine := by have := r.un; omega

/-! ### argument lists and displays -/
def tNil : TA := fun _ H Q => Q [] H
def tCons (ta : TE) (tr : TA) : TA := fun σ H Q => ta σ H fun x H1 => tr σ H1 fun xs H2 => Q (x :: xs) H2
section
variable {X : Cx} {e : Expr} {es : List Expr} {te : TE} {t : TA} {pos : Pos}
theorem pa_nil : PA X [] tNil := fun _ _ _ _ H Q I h => Calls.spliced_nil ⟨[], H, I, .nil, h⟩
theorem pa_cons (ha : PE X e te) (hr : PA X es t) (hs : starEach (e :: es) X.env = (false, eval e X.env) :: starEach es X.env := by rfl) : PA X (e :: es) (tCons te t) := by
  intro pos pins s σ H Q I h
  rw [hs]
  show wpAny _ _ (spliced ((false, eval e X.env) :: backTo pos (starEach es X.env))) _ _ s
  refine Calls.spliced_cons (thn (ha pins s σ H _ I h) fun u s1 ⟨x, H1, I1, r1, q1⟩ => ?_)
  exact thn (hr pos pins s1 σ H1 _ I1 q1) fun us s2 ⟨xs, H2, I2, r2, q2⟩ => ⟨x :: xs, H2, I2, .cons r1 r2, q2⟩

/-- a tuple, a list of written items -/
def tTup (t : TA) : TE := fun σ H Q => t σ H fun xs H1 => xs.length ≤ sizeLine ∧ ∀ p, H1 p = none → Q (.ref p) (upd H1 p (.tup xs))
def tLst (t : TA) : TE := fun σ H Q => t σ H fun xs H1 => xs.length ≤ sizeLine ∧ ∀ p, H1 p = none → Q (.ref p) (upd H1 p (.lst xs))
theorem pe_tup {x1} (h : PA X es t) : PE X (.Tuple es x1 pos) (tTup t) := by
  intro pins s σ H Q I hq
  refine wpAny_Tuple_spliced (thn (h pos pins s σ H _ I hq) fun us s1 ⟨xs, H1, I1, r, z, q⟩ => ⟨by rw [← r.length]; exact z, ?_⟩)
  have hf : H1 s1.heap.objs.size = none := I1.hok.fresh (Nat.le_refl _)
  refine ⟨.ref s1.heap.objs.size, upd H1 s1.heap.objs.size (.tup xs), I1.laid (t' := s1.toks) (fun b u e => Heap.get?_push_of_some _ e) (Nat.le_refl _) ?_, rfl, q _ hf⟩
  exact ⟨z, us, r, ⟨_, Heap.get?_push_size _ rfl, rfl, _, rfl⟩⟩
theorem pe_lst (h : PA X es t) : PE X (.List es pos) (tLst t) := by
  intro pins s σ H Q I hq
  refine wpAny_List_spliced (thn (h pos pins s σ H _ I hq) fun us s1 ⟨xs, H1, I1, r, z, q⟩ => ⟨by rw [← r.length]; exact z, ?_⟩)
  have hf : H1 s1.heap.objs.size = none := I1.hok.fresh (Nat.le_refl _)
  refine ⟨.ref s1.heap.objs.size, upd H1 s1.heap.objs.size (.lst xs), I1.laid (t' := s1.toks) (fun b u e => Heap.get?_push_of_some _ e) (Nat.le_refl _) ?_, rfl, q _ hf⟩
  exact ⟨z, us, 0, r, Heap.get?_push_size _ rfl⟩
end

/-! ### what a def promises -/
/-- a def's promise: the bound arguments in the parameters' order, the heap, the wanted end, the wanted exception -/
abbrev Sp := List V → Hp → VK → XK → Prop
/-- how an exception lies behind a call (file 08 gives it): the callers' frames, abstract heap and state ahead of the call, the wish, the exception, the state -/
abbrev CXT := List Env → Hp → Shared → XK → Value → Shared → Prop

/-- the state at a call -/
structure Env0 (P : Program) (w : World) (K : PySem.W.Frag) (mg : Str → Option Value) (base : Heap) (A : Around) (outer : List Env) (s : Shared) (H : Hp) : Prop where
  frames : A.frames = some outer
  mod : Mod K mg base
  bs : ∀ b o, base.get? b = some o → s.heap.get? b = some o ∧ H b = none
  bsz : base.objs.size ≤ s.heap.objs.size
  funs : s.heap.FunFrames base outer
  frf : ∀ b ∈ frs outer, H b = none
  hok : HOk P w H s.heap
  bare : AllBare s.gens
/-- a call's end -/
def CE (outer : List Env) (P : Program) (w : World) (H : Hp) (s : Shared) (Q : VK) (u : Value) (s' : Shared) : Prop :=
  ∃ v H', s'.os = s.os ∧ AllBare s'.gens ∧ Un (frs outer) [] H H' s.heap s'.heap ∧ HOk P w H' s'.heap ∧ RelV v u ∧ Q v H'
def CR (CX : CXT) (outer : List Env) (P : Program) (w : World) (H : Hp) (s : Shared) (Q : VK) (E : XK) (r : Result) (s' : Shared) : Prop :=
  match r with
  | .ok (.ret u) => CE outer P w H s Q u s'
  | .ok _ => False
  | .error e => CX outer H s E e s'
structure FnOk (P : Program) (w : World) (K : PySem.W.Frag) (mg : Str → Option Value) (base : Heap) (CX : CXT) (k : Nat) (f : Addr) (fd : FuncData) (ps : List Str) (sp : Sp) : Prop where
  len : ∀ vs H Q E, sp vs H Q E → vs.length = ps.length
  run : ∀ (A : Around) (outer : List Env) (s : Shared) (H : Hp) (args : Args) (us : List Value) (vs : List V) (Q : VK) (E : XK), Room k A → Env0 P w K mg base A outer s H → BindsTo s fd args (ps.zip us) → Vals vs us → sp vs H Q E →
    codeAny (model P w) A (.call (.ref f) args) (CR CX outer P w H s Q E) s
theorem FnOk.mono {P : Program} {w : World} {K : PySem.W.Frag} {mg : Str → Option Value} {base : Heap} {CX : CXT} {j k : Nat} {f : Addr} {fd : FuncData} {ps : List Str} {sp : Sp} (F : FnOk P w K mg base CX j f fd ps sp) (h : j ≤ k) :
    FnOk P w K mg base CX k f fd ps sp := ⟨F.len, fun A outer s H args us vs Q E hr => F.run A outer s H args us vs Q E (hr.mono h)⟩
/-- a weaker promise -/
theorem FnOk.imp {P : Program} {w : World} {K : PySem.W.Frag} {mg : Str → Option Value} {base : Heap} {CX : CXT} {k : Nat} {f : Addr} {fd : FuncData} {ps : List Str} {sp sp' : Sp} (F : FnOk P w K mg base CX k f fd ps sp)
    (h : ∀ vs H Q E, sp' vs H Q E → sp vs H Q E) : FnOk P w K mg base CX k f fd ps sp' :=
  ⟨fun vs H Q E q => F.len vs H Q E (h _ _ _ _ q), fun A outer s H args us vs Q E hr he hb hv hs => F.run A outer s H args us vs Q E hr he hb hv (h _ _ _ _ hs)⟩

theorem Env0.make {P : Program} {w : World} {K : PySem.W.Frag} {mg : Str → Option Value} {base : Heap} {A : Around} {outer : List Env} {s : Shared} {H : Hp} (e : Env0 P w K mg base A outer s H) (C : Addr) (us : List Value) (kw : List (Str × Value)) :
    Env0 P w K mg base (A.under (.builtin "type.__call__" ⟨.ref C :: us, kw⟩)) outer s H := ⟨by first | exact e.frames | (simpa [Around.under, Code.envs, Code.isFrame, pushEnvs] using e.frames), e.mod, e.bs, e.bsz, e.funs, e.frf, e.hok, e.bare⟩
theorem Env0.in1 {P : Program} {w : World} {K : PySem.W.Frag} {mg : Str → Option Value} {base : Heap} {A : Around} {outer : List Env} {s : Shared} {H : Hp} (e : Env0 P w K mg base A outer s H) :
    Env0 P w K mg base A.in1 outer s H := ⟨e.frames, e.mod, e.bs, e.bsz, e.funs, e.frf, e.hok, e.bare⟩

section
variable {X : Cx} {pins : List (Addr × Obj)} {σ : St} {H : Hp} {s s' : Shared}
/-- from a body: what a callee wants -/
theorem Inv.env0 (I : Inv X pins σ H s) : Env0 X.prog X.w X.K X.mg X.base X.A X.stack s H :=
  ⟨I.ok.frames, I.ok.mod, I.bs, Nat.le_trans I.ok.bsz I.sz, I.stack, I.stkFree, I.hok, I.bare⟩
/-- behind a call -/
theorem Inv.after {Q : VK} {u : Value} (I : Inv X pins σ H s) (h : CE X.stack X.prog X.w H s Q u s') : EP X pins σ Q u s' := by
  obtain ⟨v, H', os, bare, un, hok, r, q⟩ := h
  obtain ⟨hh, g, d, t, os'⟩ := s'
  obtain rfl : os' = s.os := os
  exact ⟨v, H', I.call (h' := hh) (g' := g) (d' := d) (t' := t) (ch := []) un hok bare (fun b z => absurd z (by simp)), r, q⟩
end

/-! ### calls -/
/-- f(..): the written arguments, then the defaults dvs; E: what is wanted of an exception -/
def tCall (sp : Sp) (dvs : List V) (E : XK) (t : TA) : TE := fun σ H Q => t σ H fun vs H1 => sp (vs ++ dvs) H1 Q E
/-- o.m(..) of an instance of the class at C -/
def tMeth (C : Addr) (m : Str) (sp : Sp) (dvs : List V) (E : XK) (ta : TE) (t : TA) : TE := fun σ H Q => ta σ H fun x H1 => ∃ a dx fs, x = .ref a ∧ H1 a = some (.ins C dx fs) ∧ fs.lookup m = none ∧
  t σ H1 fun vs H2 => sp (x :: (vs ++ dvs)) H2 Q E
/-- C(..): a new instance and its dict, then __init__ -/
def tMake (C : Addr) (sp : Sp) (dvs : List V) (E : XK) (t : TA) : TE := fun σ H Q => t σ H fun vs H1 => ∀ x dx, H1 x = none → H1 dx = none → dx ≠ x →
  sp (.ref x :: (vs ++ dvs)) (upd (upd H1 dx (.own x)) x (.ins C dx [])) (fun v H2 => v = .non ∧ Q (.ref x) H2) E

/-- how the parameters are bound: us the positional arguments, kw the keywords' values by name, ds the defaults that fill up -/
def Binds (K : PySem.W.Frag) (fd : FuncData) (ps : List Str) (ds : List Value) : Prop :=
  ∀ (s : Shared) (us : List Value), K.In s.heap → (us ++ ds).length = ps.length → BindsTo s fd ⟨us, []⟩ (ps.zip (us ++ ds))
/-- every parameter is given -/
theorem Binds.all {K : PySem.W.Frag} {fd : FuncData} {ps : List Str} (h : ∀ us : List Value, us.length = ps.length → bindArgs fd ⟨us, []⟩ = pure (ps.zip us)) : Binds K fd ps [] := fun s us _ hl => by
  rw [List.append_nil] at hl ⊢
  exact .of_eq (h us hl)

/-- an exception of a callee reaches what this body wants of exceptions -/
def Passes (CX : CXT) (X : Cx) (E : XK) : Prop := ∀ (pins : List (Addr × Obj)) (σ : St) (H : Hp) (s : Shared) (e : Value) (s' : Shared), Inv X pins σ H s → CX X.stack H s E e s' → X.xe e s'

section
variable {X : Cx} {CX : CXT} {k : Nat} {f C : Addr} {fd : FuncData} {ps : List Str} {sp : Sp} {dvs : List V} {ds : List Value} {E : XK} {x m : Str} {p pos apos : Pos} {e o : Expr} {es : List Expr} {ta : TE} {t : TA}

/-- the callee runs -/
theorem run_fn {pins : List (Addr × Obj)} {σ : St} {H : Hp} {s : Shared} {Q : VK} {us : List Value} {vs : List V} (F : FnOk X.prog X.w X.K X.mg X.base CX k f fd ps sp) (hr : Room k X.A) (hb : Binds X.K fd ps ds) (hd : Vals dvs ds) (hx : Passes CX X E)
    (I : Inv X pins σ H s) (r : Vals vs us) (h : sp (vs ++ dvs) H Q E) : wpAny (model X.prog X.w) X.A (call (.ref f) us) (EP X pins σ Q) X.xe s := by
  have r2 : Vals (vs ++ dvs) (us ++ ds) := r.append hd
  have hl : (us ++ ds).length = ps.length := by rw [← r2.length]; exact F.len _ _ _ _ h
  refine wpAny_call (codeAny_mono (F.run X.A X.stack s H ⟨us, []⟩ (us ++ ds) (vs ++ dvs) Q E hr I.env0 (hb s us I.kIn hl) r2 h) fun r s' hq => ?_)
  cases r with
  | error e => exact hx pins σ H s e s' I hq
  | ok fl =>
    cases fl with
    | ret u => exact I.after hq
    | next => exact False.elim hq
    | brk => exact False.elim hq
    | cont => exact False.elim hq

theorem pe_call (F : FnOk X.prog X.w X.K X.mg X.base CX k f fd ps sp) (hr : Room k X.A) (hg : Gl X x) (hm : X.mg x = some (.ref f)) (hk : PySem.W.keepIn X.K (.ref f) = true) (hb : Binds X.K fd ps ds) (hd : Vals dvs ds) (hx : Passes CX X E)
    (ha : PA X (e :: es) t) (hdb : (x == ("__debug__" : Str)) = false := by decide) (he : starEach (e :: es) X.env = (false, eval e X.env) :: starEach es X.env := by rfl) (hpl : (backTo pos (starEach es X.env)).any (·.1) = false := by rfl) :
    PE X (.Call (.Name x p) (e :: es) [] pos) (tCall sp dvs E t) := by
  intro pins s σ H Q I h
  refine wpAny_Call_Name_kw (ld_glob I hg hm ?_ hdb)
  refine PySem.W.callWith_K (h₀ := X.base) I.ok.mod.kin hk (thn (ha pos pins s σ H _ I h) fun us s1 ⟨vs, H1, I1, r, q⟩ => ⟨I1.kIn, ?_⟩) he hpl
  exact run_fn F hr hb hd hx I1 r q
theorem pe_call0 (F : FnOk X.prog X.w X.K X.mg X.base CX k f fd ps sp) (hr : Room k X.A) (hg : Gl X x) (hm : X.mg x = some (.ref f)) (hk : PySem.W.keepIn X.K (.ref f) = true) (hb : Binds X.K fd ps ds) (hd : Vals dvs ds) (hx : Passes CX X E)
    (hdb : (x == ("__debug__" : Str)) = false := by decide) : PE X (.Call (.Name x p) [] [] pos) (tCall sp dvs E tNil) := by
  intro pins s σ H Q I h
  refine wpAny_Call_Name_kw (ld_glob I hg hm ?_ hdb)
  exact PySem.W.callWith_K0 I.kIn hk (run_fn (us := []) F hr hb hd hx I .nil h)

/-- o.m(e, ..) -/
theorem pe_meth {pl : Sem Bool} (he : PE X o ta) (c : Cls X.K C) (hm : Meth X.K C m f) (F : FnOk X.prog X.w X.K X.mg X.base CX k f fd ps sp) (hr : Room k X.A) (hb : Binds X.K fd ps ds) (hd : Vals dvs ds) (hx : Passes CX X E) (ha : PA X (e :: es) t)
    (hst : starEach (e :: es) X.env = (false, eval e X.env) :: starEach es X.env := by rfl) (hpl : (backTo pos (starEach es X.env)).any (·.1) = false := by rfl)
    (ht : eval (.Call (.Attribute o m apos) (e :: es) [] pos) X.env = (do
      let ov ← eval o X.env
      standAt apos.atName
      let (f, first) ← holding [ov] (getMethod ov m pl)
      callWith pos f first (backTo pos (starEach (e :: es) X.env)) (backToKw pos (keywordEach [] X.env))) := by rfl) :
    PE X (.Call (.Attribute o m apos) (e :: es) [] pos) (tMeth C m sp dvs E ta t) := by
  intro pins s σ H Q I h
  refine PySem.W.methodCall_KW (pl := pl) (thn (he pins s σ H _ I h) fun u s1 ⟨x, H1, I1, rx, a, dx, fs, ex, ea, l, q⟩ => ?_) ht
  subst ex
  obtain rfl : u = Value.ref a := rx
  refine getmeth_ok I1 ea c hm l ?_
  refine PySem.W.callWith_K (first := [.ref a]) (h₀ := X.base) I.ok.mod.kin hm.kp (thn (ha pos pins s1 σ H1 _ I1 q) fun us s2 ⟨vs, H2, I2, r, q2⟩ => ⟨I2.kIn, ?_⟩) hst hpl
  exact run_fn (us := .ref a :: us) (vs := .ref a :: vs) F hr hb hd hx I2 (.cons rfl r) q2
/-- o.m() -/
theorem pe_meth0 {pl : Sem Bool} (he : PE X o ta) (c : Cls X.K C) (hm : Meth X.K C m f) (F : FnOk X.prog X.w X.K X.mg X.base CX k f fd ps sp) (hr : Room k X.A) (hb : Binds X.K fd ps ds) (hd : Vals dvs ds) (hx : Passes CX X E)
    (ht : eval (.Call (.Attribute o m apos) [] [] pos) X.env = (do
      let ov ← eval o X.env
      standAt apos.atName
      let (f, first) ← holding [ov] (getMethod ov m pl)
      callWith pos f first (backTo pos (starEach [] X.env)) (backToKw pos (keywordEach [] X.env))) := by rfl) :
    PE X (.Call (.Attribute o m apos) [] [] pos) (tMeth C m sp dvs E ta tNil) := by
  intro pins s σ H Q I h
  refine PySem.W.methodCall_KW (pl := pl) (thn (he pins s σ H _ I h) fun u s1 ⟨x, H1, I1, rx, a, dx, fs, ex, ea, l, q⟩ => ?_) ht
  subst ex
  obtain rfl : u = Value.ref a := rx
  refine getmeth_ok I1 ea c hm l ?_
  exact PySem.W.callWith_K0 (first := [.ref a]) I1.kIn hm.kp (run_fn (us := [.ref a]) (vs := [.ref a]) F hr hb hd hx I1 (.cons rfl .nil) q)

/-- what a class must have to be made -/
structure Mk (K : PySem.W.Frag) (C f : Addr) : Prop where
  makes : PySem.W.makesIn K C = true
  init : PySem.W.findIn K (.ref C) "__init__" = some (some (.ref f))
  fn : PySem.W.isFn K (.ref f) = true
  kp : PySem.W.keepIn K (.ref C) = true

theorem run_make {pins : List (Addr × Obj)} {σ : St} {H : Hp} {s : Shared} {Q : VK} {us : List Value} {vs : List V} (M : Mk X.K C f) (F : FnOk X.prog X.w X.K X.mg X.base CX k f fd ps sp) (hr : Room (k + 1) X.A) (hb : Binds X.K fd ps ds) (hd : Vals dvs ds)
    (hx : Passes CX X E) (I : Inv X pins σ H s) (r : Vals vs us)
    (h : ∀ x dx, H x = none → H dx = none → dx ≠ x → sp (.ref x :: (vs ++ dvs)) (upd (upd H dx (.own x)) x (.ins C dx [])) (fun v H2 => v = .non ∧ Q (.ref x) H2) E) :
    wpAny (model X.prog X.w) X.A (call (.ref C) us) (EP X pins σ Q) X.xe s := by
  have hq := h (s.heap.objs.size + 1) s.heap.objs.size (I.hok.fresh (Nat.le_succ _)) (I.hok.fresh (Nat.le_refl _)) (Nat.ne_of_lt (Nat.lt_succ_self _))
  have I2 := Inv.made (C := C) I
  have r2 : Vals (V.ref (s.heap.objs.size + 1) :: (vs ++ dvs)) (Value.ref (s.heap.objs.size + 1) :: (us ++ ds)) := .cons rfl (r.append hd)
  have hl : (Value.ref (s.heap.objs.size + 1) :: us ++ ds).length = ps.length := by
    have e := r2.length
    rw [F.len _ _ _ _ hq] at e
    exact e.symm
  refine wpAny_call (make_map (f := f) I.kIn M.makes M.init (beq_iff_eq.mp M.fn) (codeAny_mono (F.run _ X.stack _ _ ⟨Value.ref (s.heap.objs.size + 1) :: us, []⟩ (Value.ref (s.heap.objs.size + 1) :: (us ++ ds)) _ _ E (hr.make C us [])
    (I2.env0.make C us []) (hb _ (Value.ref (s.heap.objs.size + 1) :: us) I2.kIn hl) r2 hq) fun r s' hq' => ?_))
  cases r with
  | error e => exact hx pins σ _ _ e s' I2 hq'
  | ok fl =>
    cases fl with
    | ret u =>
      obtain ⟨v, H', I3, rv, ev, q3⟩ := I2.after hq'
      subst ev
      exact ⟨rv, ⟨V.ref (s.heap.objs.size + 1), H', I3, rfl, q3⟩⟩
    | next => exact False.elim hq'
    | brk => exact False.elim hq'
    | cont => exact False.elim hq'
theorem pe_make (M : Mk X.K C f) (F : FnOk X.prog X.w X.K X.mg X.base CX k f fd ps sp) (hr : Room (k + 1) X.A) (hg : Gl X x) (hm : X.mg x = some (.ref C)) (hb : Binds X.K fd ps ds) (hd : Vals dvs ds) (hx : Passes CX X E)
    (ha : PA X (e :: es) t) (hdb : (x == ("__debug__" : Str)) = false := by decide) (he : starEach (e :: es) X.env = (false, eval e X.env) :: starEach es X.env := by rfl) (hpl : (backTo pos (starEach es X.env)).any (·.1) = false := by rfl) :
    PE X (.Call (.Name x p) (e :: es) [] pos) (tMake C sp dvs E t) := by
  intro pins s σ H Q I h
  refine wpAny_Call_Name_kw (ld_glob I hg hm ?_ hdb)
  refine PySem.W.callWith_K (h₀ := X.base) I.ok.mod.kin M.kp (thn (ha pos pins s σ H _ I h) fun us s1 ⟨vs, H1, I1, r, q⟩ => ⟨I1.kIn, ?_⟩) he hpl
  exact run_make M F hr hb hd hx I1 r q
theorem pe_make0 (M : Mk X.K C f) (F : FnOk X.prog X.w X.K X.mg X.base CX k f fd ps sp) (hr : Room (k + 1) X.A) (hg : Gl X x) (hm : X.mg x = some (.ref C)) (hb : Binds X.K fd ps ds) (hd : Vals dvs ds) (hx : Passes CX X E)
    (hdb : (x == ("__debug__" : Str)) = false := by decide) : PE X (.Call (.Name x p) [] [] pos) (tMake C sp dvs E tNil) := by
  intro pins s σ H Q I h
  refine wpAny_Call_Name_kw (ld_glob I hg hm ?_ hdb)
  exact PySem.W.callWith_K0 I.kIn M.kp (run_make (us := []) M F hr hb hd hx I .nil h)
end

/-! ### keywords -/
/-- the values of the keywords, from the left -/
def PK (X : Cx) (kws : List Keyword) (t : TA) : Prop :=
  ∀ (pos : Pos) (pins : List (Addr × Obj)) (s : Shared) (σ : St) (H : Hp) (Q : List V → Hp → Prop), Inv X pins σ H s → t σ H Q → wpAny (model X.prog X.w) X.A (evalAll ((backToKw pos (keywordEach kws X.env)).map (·.2))) (AP X pins σ Q) X.xe s
section
variable {X : Cx} {CX : CXT} {k : Nat} {f C : Addr} {fd : FuncData} {ps ks : List Str} {sp : Sp} {E : XK} {x m : Str} {p pos apos kpos : Pos} {e o : Expr} {es : List Expr} {kws : List Keyword} {te ta : TE} {t tk : TA} {nm : Option Str}
theorem pk_nil : PK X [] tNil := fun _ _ _ _ H Q I h => wpAny_evalAll_nil ⟨[], H, I, .nil, h⟩
theorem pk_cons (ha : PE X e te) (hr : PK X kws t) : PK X (⟨nm, e, kpos⟩ :: kws) (tCons te t) := by
  intro pos pins s σ H Q I h
  show wpAny _ _ (evalAll ((do let v ← eval e X.env; standAt pos; pure v) :: (backToKw pos (keywordEach kws X.env)).map (·.2))) _ _ s
  refine wpAny_evalAll_cons (wpAny_bind (thn (ha pins s σ H _ I h) fun u s1 ⟨x, H1, I1, r1, q1⟩ => wpAny_bind (wpAny_standAt (wpAny_pure ?_))))
  exact thn (hr pos pins s1 σ H1 _ I1 q1) fun us s2 ⟨xs, H2, I2, r2, q2⟩ => ⟨x :: xs, H2, I2, .cons r1 r2, q2⟩

/-- how a call with keywords binds: g puts the positional values us and the keywords' values ws (names ks) in the parameters' order, defaults among them -/
structure KBinds (K : PySem.W.Frag) (fd : FuncData) (ps ks : List Str) (g : List Value → List Value → List Value) (gV : List V → List V → List V) : Prop where
  to : ∀ (s : Shared) (us ws : List Value), K.In s.heap → (g us ws).length = ps.length → BindsTo s fd ⟨us, ks.zip ws⟩ (ps.zip (g us ws))
  rel : ∀ {vs : List V} {us : List Value} {zs : List V} {ws : List Value}, Vals vs us → Vals zs ws → Vals (gV vs zs) (g us ws)
def tCallK (sp : Sp) (gV : List V → List V → List V) (E : XK) (t tk : TA) : TE := fun σ H Q => t σ H fun vs H1 => tk σ H1 fun zs H2 => sp (gV vs zs) H2 Q E
variable {g : List Value → List Value → List Value} {gV : List V → List V → List V}
theorem run_fnk {pins : List (Addr × Obj)} {σ : St} {H : Hp} {s : Shared} {Q : VK} {us ws : List Value} {vs zs : List V} (F : FnOk X.prog X.w X.K X.mg X.base CX k f fd ps sp) (hr : Room k X.A) (hb : KBinds X.K fd ps ks g gV) (hx : Passes CX X E)
    (I : Inv X pins σ H s) (r : Vals vs us) (rz : Vals zs ws) (h : sp (gV vs zs) H Q E) : wpAny (model X.prog X.w) X.A (call (.ref f) us (ks.zip ws)) (EP X pins σ Q) X.xe s := by
  have r2 := hb.rel r rz
  have hl : (g us ws).length = ps.length := by rw [← r2.length]; exact F.len _ _ _ _ h
  refine wpAny_call (codeAny_mono (F.run X.A X.stack s H ⟨us, ks.zip ws⟩ (g us ws) (gV vs zs) Q E hr I.env0 (hb.to s us ws I.kIn hl) r2 h) fun r s' hq => ?_)
  cases r with
  | error e => exact hx pins σ H s e s' I hq
  | ok fl =>
    cases fl with
    | ret u => exact I.after hq
    | next => exact False.elim hq
    | brk => exact False.elim hq
    | cont => exact False.elim hq
/-- f(e, .., k = v, ..) -/
theorem pe_callK (F : FnOk X.prog X.w X.K X.mg X.base CX k f fd ps sp) (hr : Room k X.A) (hg : Gl X x) (hm : X.mg x = some (.ref f)) (hk : PySem.W.keepIn X.K (.ref f) = true) (hb : KBinds X.K fd ps ks g gV) (hx : Passes CX X E)
    (ha : PA X (e :: es) t) (hkw : PK X kws tk) (hall : (backToKw pos (keywordEach kws X.env)).all (·.1.isSome) = true := by rfl) (hks : (backToKw pos (keywordEach kws X.env)).filterMap (·.1) = ks := by rfl)
    (hdb : (x == ("__debug__" : Str)) = false := by decide) (he : starEach (e :: es) X.env = (false, eval e X.env) :: starEach es X.env := by rfl)
    (hpl : ((backTo pos (starEach (e :: es) X.env)).any (·.1) || (backToKw pos (keywordEach kws X.env)).any (·.1.isNone)) = false := by rfl) :
    PE X (.Call (.Name x p) (e :: es) kws pos) (tCallK sp gV E t tk) := by
  intro pins s σ H Q I h
  refine wpAny_Call_Name_kw (ld_glob I hg hm ?_ hdb)
  refine PySem.W.callWith_KW (h₀ := X.base) I.ok.mod.kin hk hall (thn (ha pos pins s σ H _ I h) fun us s1 ⟨vs, H1, I1, r, q⟩ => ?_) hpl he
  refine thn (hkw pos pins s1 σ H1 _ I1 q) fun ws s2 ⟨zs, H2, I2, rz, q2⟩ => ⟨I2.kIn, ?_⟩
  rw [hks]
  exact run_fnk F hr hb hx I2 r rz q2
end

/-! ### a def's body keeps its promise -/
/-- names: the parameters first -/
structure FnScope (N P : List Str) (sc : Scope) : Prop where
  kind : sc.kind = .function
  co : sc.isCoroutine = false
  gen : sc.isGenerator = false
  nd : N.Nodup
  pre : N.take P.length = P
  par : ∀ x ∈ P, sc.names.lookup x = some .local ∨ sc.names.lookup x = some .cell
  nofree : ∀ y ∈ sc.names, y.2 ≠ .free

theorem bindL_out {kindOf : Str → Option NameKind} {x : Str} : ∀ {binds : List (Str × Value)} {m : Str → Option Value}, (∀ v, (x, v) ∉ binds) → bindL kindOf binds m x = m x
  | [], _, _ => rfl
  | (n, v) :: r, m, h => by
    unfold bindL
    rw [bindL_out fun w hw => h w (List.mem_cons_of_mem _ hw)]
    split
    · have : x ≠ n := by rintro rfl; exact h v List.mem_cons_self
      simp [this]
    · rfl
theorem bindC_out {kindOf : Str → Option NameKind} {x : Str} : ∀ {binds : List (Str × Value)} {m : Str → Option Value}, (∀ v, (x, v) ∉ binds) → bindC kindOf binds m x = m x
  | [], _, _ => rfl
  | (n, v) :: r, m, h => by
    unfold bindC
    rw [bindC_out fun w hw => h w (List.mem_cons_of_mem _ hw)]
    split
    · rfl
    · have : x ≠ n := by rintro rfl; exact h v List.mem_cons_self
      simp [this]
theorem bindL_get {kindOf : Str → Option NameKind} {x : Str} {v : Value} : ∀ {P : List Str} {vs : List Value} {i : Nat} {m : Str → Option Value}, P.Nodup → P[i]? = some x → vs[i]? = some v → kindOf x = some .local →
    bindL kindOf (P.zip vs) m x = some v
  | [], _, _, _, _, h, _, _ => by simp at h
  | _ :: _, [], _, _, _, _, h, _ => by simp at h
  | p :: P, w :: vs, 0, m, nd, h1, h2, hk => by
    simp at h1 h2; subst h1; subst h2
    show bindL kindOf ((p, w) :: P.zip vs) m p = _
    unfold bindL
    rw [bindL_out fun v hv => (List.nodup_cons.mp nd).1 (List.of_mem_zip hv).1, if_pos hk]
    simp
  | p :: P, w :: vs, i + 1, m, nd, h1, h2, hk => by
    show bindL kindOf ((p, w) :: P.zip vs) m x = _
    unfold bindL
    exact bindL_get (i := i) (List.nodup_cons.mp nd).2 (by simpa using h1) (by simpa using h2) hk
theorem bindC_get {kindOf : Str → Option NameKind} {x : Str} {v : Value} : ∀ {P : List Str} {vs : List Value} {i : Nat} {m : Str → Option Value}, P.Nodup → P[i]? = some x → vs[i]? = some v → kindOf x ≠ some .local →
    bindC kindOf (P.zip vs) m x = some v
  | [], _, _, _, _, h, _, _ => by simp at h
  | _ :: _, [], _, _, _, _, h, _ => by simp at h
  | p :: P, w :: vs, 0, m, nd, h1, h2, hk => by
    simp at h1 h2; subst h1; subst h2
    show bindC kindOf ((p, w) :: P.zip vs) m p = _
    unfold bindC
    rw [bindC_out fun v hv => (List.nodup_cons.mp nd).1 (List.of_mem_zip hv).1, if_neg hk]
    simp
  | p :: P, w :: vs, i + 1, m, nd, h1, h2, hk => by
    show bindC kindOf ((p, w) :: P.zip vs) m x = _
    unfold bindC
    exact bindC_get (i := i) (List.nodup_cons.mp nd).2 (by simpa using h1) (by simpa using h2) hk

/-- the names' values at the entry -/
def start (N : List Str) (vs : List V) : St := vs.map some ++ List.replicate (N.length - vs.length) none

/-- the context of a def's body, at its entry; an exception leaves the frame, then lies as CX says -/
def cxOf (CX : CXT) (P : Program) (w : World) (K : PySem.W.Frag) (mg : Str → Option Value) (base : Heap) (N : List Str) (qual : Str) (scope : Scope) (f : Addr) (cd : Value) (A : Around) (outer : List Env) (s : Shared) (H : Hp) (E : XK) : Cx where
  prog := P
  w := w
  K := K
  mg := mg
  base := base
  A := A.deeper (envOfC qual scope s.heap.objs.size f cd)
  N := N
  s₀ := s
  H₀ := H
  env := envOfC qual scope s.heap.objs.size f cd
  outer := outer
  stack := envOfC qual scope s.heap.objs.size f cd :: outer
  ex := []
  calm := true
  fn := fun _ => true
  pn := []
  xe := fun e s' => wpAny (model P w) (A.deeper (envOfC qual scope s.heap.objs.size f cd)) (leaving (envOfC qual scope s.heap.objs.size f cd) e) (fun _ s'' => CX outer H s E e s'') (fun e' s'' => CX outer H s E e' s'') s'

theorem cell_has {sc : Scope} {n : Nat} {x : Str} (h : sc.names.lookup x = some .cell) : ∃ c, (cellsFrom n sc.names []).lookup x = some c := by
  have q := PySem.W.cellsFrom_some sc.names n [] (.inl h)
  exact Option.isSome_iff_exists.mp q

theorem inv_start {CX : CXT} {P : Program} {w : World} {K : PySem.W.Frag} {mg : Str → Option Value} {base : Heap} {N ps : List Str} {qual : Str} {scope : Scope} {f : Addr} {cd : Value} {A : Around} {outer : List Env} {s s1 : Shared} {H : Hp} {E : XK} {us : List Value} {vs : List V}
    (S : FnScope N ps scope) (hd : A.handled = none) (e0 : Env0 P w K mg base A outer s H) (hl : vs.length = ps.length) (r : Vals vs us)
    (x : InCallC s s.heap.objs.size (bindL (envOfC qual scope s.heap.objs.size f cd).kindOf (ps.zip us) fun _ => none) (cellsFrom (s.heap.objs.size + 1) scope.names []) (bindC (envOfC qual scope s.heap.objs.size f cd).kindOf (ps.zip us) fun _ => none) s1) :
    Inv (cxOf CX P w K mg base N qual scope f cd A outer s H E) [] (start N vs) H s1 := by
  have hpl : ps.length ≤ N.length := by have := congrArg List.length S.pre; rw [List.length_take] at this; omega
  obtain ⟨h1, tk, rfl, hk⟩ := x.done
  have noA : ∀ b : Addr, b ∉ (cxOf CX P w K mg base N qual scope f cd A outer s H E).ex := fun b z => absurd (show b ∈ ([] : List Addr) from z) (by simp)
  refine ⟨⟨e0.mod, S.kind, rfl, rfl, Nat.le_refl _, fun y z c h1 h2 => ?_, fun y hy => ?_, fun y c _ h => ?_, fun _ => hd, Around.frames_deeper e0.frames, .inr ⟨rfl, rfl⟩, fun b z => absurd z (noA b), e0.bs, e0.bsz, fun b _ _ => noA b, fun b z => absurd z (noA b), e0.funs, e0.frf⟩,
    rfl, e0.bare, Un.kept hk, ⟨_, x.toInCall.ns, fun i y v h1 h2 h3 => ?_⟩, fun y c h => ⟨_, x.cell y c h⟩, e0.hok.fresh (Nat.le_refl _), fun y c h => ?_, fun p hp => absurd (show p ∈ ([] : List (Addr × Obj)) from hp) (by simp), e0.hok.kept hk, ?_⟩
  · exact name_of_addr x.apart (PySem.mem_of_lookup h1) (PySem.mem_of_lookup h2)
  · have hy : scope.names.lookup y = some .cell ∨ scope.names.lookup y = some .free := hy
    rcases hy with hy | hy
    · exact cell_has hy
    · exact absurd rfl (S.nofree _ (PySem.mem_of_lookup hy))
  · exact Nat.le_of_lt (x.above y c (PySem.mem_of_lookup h))
  · have hi : i < vs.length := by
      unfold start at h2
      by_cases hi : i < vs.length
      · exact hi
      · rw [List.getElem?_append_right (by simpa using hi)] at h2
        rw [List.getElem?_replicate] at h2
        split at h2 <;> cases h2
    have ha : vs[i]? = some v := by
      unfold start at h2
      rw [List.getElem?_append_left (by simpa using hi), List.getElem?_map] at h2
      cases e : vs[i]? with
      | none => rw [e] at h2; cases h2
      | some a => rw [e] at h2; cases h2; rfl
    obtain ⟨u, hu, rv⟩ := r.get ha
    have hp : ps[i]? = some y := by
      rw [← S.pre, List.getElem?_take_of_lt (by omega)]; exact h1
    have ndP : ps.Nodup := by rw [← S.pre]; exact S.nd.sublist (List.take_sublist _ _)
    refine ⟨u, rv, ?_⟩
    rcases S.par y (List.mem_of_getElem? hp) with k | k
    · exact .inl ⟨k, bindL_get ndP hp hu k⟩
    · obtain ⟨c, e⟩ := cell_has (n := s.heap.objs.size + 1) k
      refine .inr ⟨.inl k, c, e, ?_⟩
      have q := x.cell y c e
      rw [bindC_get ndP hp hu (by show scope.names.lookup y ≠ _; rw [k]; decide)] at q
      exact q
  · exact e0.hok.fresh (Nat.le_of_lt (x.above y c (PySem.mem_of_lookup h)))
  · unfold start
    show _ = N.length
    rw [List.length_append, List.length_map, List.length_replicate]
    omega

/-- THE RULE: a def (or a method) of the text, by its body. The body's reading t is chosen for each entry; it is run at the parameters' values -/
theorem fn_of {CX : CXT} {P : Program} {w : World} {K : PySem.W.Frag} {mg : Str → Option Value} {base : Heap} {k : Nat} {f : Addr} {name qual : Str} {params : Arguments} {body : List Stmt} {scope : Scope} {dV kV doc pm cdv ct oc : Value} {an od : Option Addr}
    {osl : Array (Option Value)} {N ps : List Str} {sp : Sp} (lk : K.lookup f = some ⟨oc, od, .func (PySem.W.fnOf name qual params body scope dV kV doc pm an cdv ct), osl⟩) (hcd : PySem.W.codeIn K cdv qual = true) (S : FnScope N ps scope)
    (len : ∀ vs H Q E, sp vs H Q E → vs.length = ps.length)
    (hbody : ∀ (A : Around) (outer : List Env) (s : Shared) (H : Hp) (vs : List V) (Q : VK) (E : XK), Room k (A.deeper (envOfC qual scope s.heap.objs.size f cdv)) → sp vs H Q E →
      ∃ t, PSs (cxOf CX P w K mg base N qual scope f cdv A outer s H E) body t ∧ t { nx := fun _ H' => Q .non H', rt := Q } (start N vs) H) :
    FnOk P w K mg base CX (k + 1) f (PySem.W.fnOf name qual params body scope dV kV doc pm an cdv ct) ps sp := by
  refine ⟨len, fun A outer s H args us vs Q E hr e0 hb r hsp => ?_⟩
  have hl := len _ _ _ _ hsp
  have KX : K.In s.heap := e0.mod.kin.keeps fun b o e => (e0.bs b o e).1
  have lim : s.heap.NoLimit := e0.mod.nolimit.keeps fun b o e => (e0.bs b o e).1
  have hkind : ∀ y ∈ ps.zip us, scope.names.lookup y.1 = some .local ∨ (scope.names.lookup y.1 = some .cell ∧ ((cellsFrom (s.heap.objs.size + 1) scope.names []).lookup y.1).isSome = true) := fun ⟨n, v⟩ hy => by
    rcases S.par n (List.of_mem_zip hy).1 with q | q
    · exact .inl q
    · exact .inr ⟨q, PySem.W.cellsFrom_some _ _ _ (.inl q)⟩
  refine codeAny_call_function hr.depth (KX _ _ lk) rfl S.co S.gen rfl (PySem.W.codeRec_of KX hcd) (hb _ _ _ _ ?_)
  refine wpAny_newFunctionEnv_cells S.kind hkind fun env he s1 x => ?_
  subst he
  refine ⟨lim.keeps x.toInCall.keep, codeAny_func ?_⟩
  obtain ⟨t, ht, hq⟩ := hbody A outer s H vs Q E (hr.deeper _) hsp
  have I : Inv (cxOf CX P w K mg base N qual scope f cdv A outer s H E) [] (start N vs) H s1 := inv_start S hr.hd e0 hl r x
  refine wpAny_mono (ht [] s1 (start N vs) H _ I hq) (fun fl s' hs => ?_) fun e s' hs => hs
  have fin : ∀ {σ' : St} {H' : Hp} {v : V} {u : Value}, Inv (cxOf CX P w K mg base N qual scope f cdv A outer s H E) [] σ' H' s' → RelV v u → Q v H' → CE outer P w H s Q u s' :=
    fun {σ' H' v u} J rv q => ⟨v, H', J.os, J.bare, J.base, J.hok, rv, q⟩
  cases fl with
  | ret u =>
    obtain ⟨v, σ', H', J, rv, q⟩ := hs
    exact fin J rv q
  | next =>
    obtain ⟨σ', H', J, q⟩ := hs
    exact fin (v := V.non) (u := Value.none) J rfl q
  | brk =>
    obtain ⟨_, _, _, q⟩ := hs
    exact False.elim q
  | cont =>
    obtain ⟨_, _, _, q⟩ := hs
    exact False.elim q
end L2

namespace L2
open PySem PySem.Spec PyProof.Rows
section
variable {X : Cx} {x : Str} {p pos : Pos} {e : Expr} {es : List Expr} {t : TA} {id T : String} {r : List V → Hp → VK → Prop}

def tCB (r : List V → Hp → VK → Prop) (t : TA) : TE := fun σ H Q => t σ H fun vs H1 => r vs H1 Q
/-- f(e, ..), f a built-in function -/
theorem pe_callB (hc : CallR X (.builtin id) r) (hg : Gl X x) (hm : X.mg x = none) (hv : bootBuiltins x = some (.builtin id)) (ha : PA X (e :: es) t) (hn : x ≠ "__name__" := by decide) (hdb : (x == ("__debug__" : Str)) = false := by decide)
    (he : starEach (e :: es) X.env = (false, eval e X.env) :: starEach es X.env := by rfl) (hpl : (backTo pos (starEach es X.env)).any (·.1) = false := by rfl) : PE X (.Call (.Name x p) (e :: es) [] pos) (tCB r t) := by
  intro pins s σ H Q I h
  refine wpAny_Call_Name_kw (ld_blt I hg hm hv ?_ hn hdb)
  exact PyProof.Rows.callWith_builtin1 (thn (ha pos pins s σ H _ I h) fun us s1 ⟨vs, H1, I1, r1, q1⟩ => hc pins s1 σ H1 vs us Q I1 r1 q1) he hpl
/-- T(e, ..), T a built-in type -/
theorem pe_callTy (hc : CallR X (.type T) r) (hg : Gl X x) (hm : X.mg x = none) (hv : bootBuiltins x = some (.type T)) (ha : PA X (e :: es) t) (hn : x ≠ "__name__" := by decide) (hdb : (x == ("__debug__" : Str)) = false := by decide)
    (he : starEach (e :: es) X.env = (false, eval e X.env) :: starEach es X.env := by rfl) (hpl : (backTo pos (starEach es X.env)).any (·.1) = false := by rfl) : PE X (.Call (.Name x p) (e :: es) [] pos) (tCB r t) := by
  intro pins s σ H Q I h
  refine wpAny_Call_Name_kw (ld_blt I hg hm hv ?_ hn hdb)
  exact PyProof.Rows.callWith_type1 (thn (ha pos pins s σ H _ I h) fun us s1 ⟨vs, H1, I1, r1, q1⟩ => hc pins s1 σ H1 vs us Q I1 r1 q1) he hpl
/-- T() -/
theorem pe_callTy0 (hc : CallR X (.type T) r) (hg : Gl X x) (hm : X.mg x = none) (hv : bootBuiltins x = some (.type T)) (hn : x ≠ "__name__" := by decide) (hdb : (x == ("__debug__" : Str)) = false := by decide) :
    PE X (.Call (.Name x p) [] [] pos) (tCB r tNil) := by
  intro pins s σ H Q I h
  refine wpAny_Call_Name_kw (ld_blt I hg hm hv ?_ hn hdb)
  exact PyProof.Rows.callWith_type0 (hc pins s σ H [] [] Q I .nil h)
end
end L2

namespace L2
open PySem PySem.Spec PyProof.Rows

/-! ### lists of pairs as tables -/
section
variable {κ : Type} [DecidableEq κ]
def valV (kvs : List (κ × V)) (k : κ) : Option V := (kvs.find? fun kv => decide (kv.1 = k)).map (·.2)
/-- in its place, or at the end -/
def putK (kvs : List (κ × V)) (k : κ) (v : V) : List (κ × V) :=
  if (kvs.any fun kv => decide (kv.1 = k)) = true then kvs.map (fun kv => if kv.1 = k then (kv.1, v) else kv) else kvs ++ [(k, v)]
def dropK (kvs : List (κ × V)) (k : κ) : List (κ × V) := kvs.filter fun kv => decide (kv.1 ≠ k)

theorem valV_nil {k : κ} : valV ([] : List (κ × V)) k = none := rfl
theorem valV_pos {p : κ × V} {r : List (κ × V)} {k : κ} (e : p.1 = k) : valV (p :: r) k = some p.2 := by simp [valV, List.find?_cons, e]
theorem valV_neg {p : κ × V} {r : List (κ × V)} {k : κ} (e : ¬ p.1 = k) : valV (p :: r) k = valV r k := by simp [valV, List.find?_cons, e]
theorem valV_any (k : κ) : ∀ kvs : List (κ × V), (kvs.any fun kv => decide (kv.1 = k)) = (valV kvs k).isSome
  | [] => rfl
  | p :: r => by
    rw [List.any_cons]
    by_cases e : p.1 = k
    · simp only [valV_pos e, decide_eq_true e, Bool.true_or, Option.isSome_some]
    · rw [valV_neg e, decide_eq_false e, Bool.false_or]; exact valV_any k r
theorem valV_map (k j : κ) (y : V) : ∀ kvs : List (κ × V), valV (kvs.map fun kv => if kv.1 = k then (kv.1, y) else kv) j = (valV kvs j).map fun x => if j = k then y else x
  | [] => rfl
  | p :: r => by
    have ih := valV_map k j y r
    rw [List.map_cons]
    by_cases h : p.1 = k
    · rw [if_pos h]
      by_cases e : p.1 = j
      · rw [valV_pos (p := (p.1, y)) e, valV_pos e, Option.map_some, if_pos (e.symm.trans h)]
      · rw [valV_neg (p := (p.1, y)) e, valV_neg e, ih]
    · rw [if_neg h]
      by_cases e : p.1 = j
      · rw [valV_pos (p := p) e, valV_pos e, Option.map_some, if_neg (fun z => h (e.trans z))]
      · rw [valV_neg (p := p) e, valV_neg e, ih]
theorem valV_snoc (k j : κ) (y : V) : ∀ kvs : List (κ × V), valV kvs k = none → valV (kvs ++ [(k, y)]) j = if j = k then some y else valV kvs j
  | [], _ => by
    by_cases e : k = j
    · rw [if_pos e.symm]; exact valV_pos (p := (k, y)) e
    · rw [if_neg (fun z => e z.symm)]; exact valV_neg (p := (k, y)) e
  | p :: r, hn => by
    rw [List.cons_append]
    have hk : ¬ p.1 = k := fun z => by rw [valV_pos z] at hn; cases hn
    rw [valV_neg hk] at hn
    have ih := valV_snoc k j y r hn
    by_cases e : p.1 = j
    · rw [valV_pos e, valV_pos e, if_neg (fun z => hk (e.trans z))]
    · rw [valV_neg e, valV_neg e, ih]
theorem valV_put (kvs : List (κ × V)) (k j : κ) (y : V) : valV (putK kvs k y) j = if j = k then some y else valV kvs j := by
  unfold putK
  by_cases a : (kvs.any fun kv => decide (kv.1 = k)) = true
  · rw [if_pos a, valV_map]
    rw [valV_any] at a
    by_cases e : j = k
    · obtain ⟨x, hx⟩ := Option.isSome_iff_exists.mp a
      rw [if_pos e, e, hx, Option.map_some, if_pos rfl]
    · rw [if_neg e]
      cases valV kvs j with
      | none => rfl
      | some x => rw [Option.map_some, if_neg e]
  · rw [if_neg a]
    refine valV_snoc k j y kvs ?_
    rw [valV_any] at a
    cases q : valV kvs k with
    | none => rfl
    | some x => rw [q] at a; exact (a rfl).elim
theorem length_putK (kvs : List (κ × V)) (k : κ) (v : V) : (putK kvs k v).length ≤ kvs.length + 1 := by
  unfold putK
  split
  · rw [List.length_map]; omega
  · rw [List.length_append, List.length_cons, List.length_nil]; omega
theorem putK_new {kvs : List (κ × V)} {k : κ} (v : V) (h : valV kvs k = none) : putK kvs k v = kvs ++ [(k, v)] := by
  unfold putK
  rw [valV_any, h]
  exact if_neg (by decide)

theorem RelO.isSome_eq {o : Option V} {u : Option Value} (r : RelO o u) : o.isSome = u.isSome := by
  cases o with
  | none => cases u with
    | none => rfl
    | some _ => exact (show False from r).elim
  | some _ => cases u with
    | none => exact (show False from r).elim
    | some _ => rfl
theorem RelO.getD {o : Option V} {u : Option Value} {d : V} {d' : Value} (r : RelO o u) (rd : RelV d d') : RelV (o.getD d) (u.getD d') := by
  cases o with
  | none => cases u with
    | none => exact rd
    | some _ => exact (show False from r).elim
  | some _ => cases u with
    | none => exact (show False from r).elim
    | some _ => exact r

/-- raw tables of the same keys -/
theorem KV.val {kvs : List (κ × V)} {vs : List (κ × Value)} (r : KV kvs vs) (k : κ) : RelO (valV kvs k) (valueAt vs k) := by
  unfold KV at r
  induction r with
  | nil => exact True.intro
  | @cons p q ps qs h t ih =>
    obtain ⟨h1, h2⟩ := h
    by_cases e : p.1 = k
    · have e' : q.1 = k := h1.symm.trans e
      have b : valueAt (q :: qs) k = some q.2 := by simp [valueAt, List.find?_cons, e']
      rw [valV_pos e, b]; exact h2
    · have e' : ¬ q.1 = k := fun z => e (h1.trans z)
      have b : valueAt (q :: qs) k = valueAt qs k := by simp [valueAt, List.find?_cons, e']
      rw [valV_neg e, b]; exact ih
theorem KV.any {kvs : List (κ × V)} {vs : List (κ × Value)} (r : KV kvs vs) (k : κ) : (kvs.any fun kv => decide (kv.1 = k)) = vs.any fun kv => decide (kv.1 = k) := by
  unfold KV at r
  induction r with
  | nil => rfl
  | cons h t ih => rw [List.any_cons, List.any_cons, ih, h.1]
theorem KV.repl {kvs : List (κ × V)} {vs : List (κ × Value)} (r : KV kvs vs) (k : κ) {y : V} {u : Value} (ry : RelV y u) :
    KV (kvs.map fun kv => if kv.1 = k then (kv.1, y) else kv) (vs.map fun kv => if kv.1 = k then (kv.1, u) else kv) := by
  unfold KV at r ⊢
  induction r with
  | nil => exact .nil
  | @cons p q ps qs h t ih =>
    rw [List.map_cons, List.map_cons]
    refine .cons ?_ ih
    obtain ⟨h1, h2⟩ := h
    by_cases e : p.1 = k
    · rw [if_pos e, if_pos (h1.symm.trans e)]; exact ⟨h1, ry⟩
    · rw [if_neg e, if_neg (fun z => e (h1.trans z))]; exact ⟨h1, h2⟩
theorem KV.put {kvs : List (κ × V)} {vs : List (κ × Value)} (r : KV kvs vs) (k : κ) {y : V} {u : Value} (ry : RelV y u) : KV (putK kvs k y) (stored vs k u) := by
  unfold putK stored
  rw [r.any k]
  by_cases e : (vs.any fun kv => decide (kv.1 = k)) = true
  · rw [if_pos e, if_pos e]; exact r.repl k ry
  · rw [if_neg e, if_neg e]; exact Paired.snoc r ⟨rfl, ry⟩
theorem KV.drop {kvs : List (κ × V)} {vs : List (κ × Value)} (r : KV kvs vs) (k : κ) : KV (dropK kvs k) (without vs k) := by
  unfold KV at r ⊢
  unfold dropK without
  induction r with
  | nil => exact .nil
  | @cons p q ps qs h t ih =>
    obtain ⟨h1, h2⟩ := h
    rw [List.filter_cons, List.filter_cons]
    by_cases e : p.1 = k
    · have a : ¬ decide (p.1 ≠ k) = true := by simp [e]
      have b : ¬ decide (q.1 ≠ k) = true := by simp [h1.symm.trans e]
      rw [if_neg a, if_neg b]; exact ih
    · have e' : ¬ q.1 = k := fun z => e (h1.trans z)
      have a : decide (p.1 ≠ k) = true := by simp [e]
      have b : decide (q.1 ≠ k) = true := by simp [e']
      rw [if_pos a, if_pos b]; exact .cons ⟨h1, h2⟩ ih
theorem KV.keys {kvs : List (κ × V)} {vs : List (κ × Value)} (r : KV kvs vs) : kvs.map (·.1) = vs.map (·.1) := by
  unfold KV at r
  induction r with
  | nil => rfl
  | cons h t ih => rw [List.map_cons, List.map_cons, ih, h.1]
theorem KV.length {kvs : List (κ × V)} {vs : List (κ × Value)} (r : KV kvs vs) : kvs.length = vs.length := Paired.length r
theorem dropK_le (kvs : List (κ × V)) (k : κ) : (dropK kvs k).length ≤ kvs.length := List.length_filter_le _ _
end


/-! ### a tracked dict, its keys ints and texts or tuples of these -/
theorem kV_is {P : Program} {w : World} {k : Key} {u : Value} (r : RelV (kV k) u) : (mixKind P w).is k u = true := by
  cases k with
  | inl i => obtain ⟨t, e⟩ := (show ∃ t, u = Value.int i t from r); subst e; exact mixKind_int P w i t
  | inr x => obtain ⟨t, e⟩ := (show ∃ t, u = Value.str x t from r); subst e; exact mixKind_str P w x t
theorem kV_inj {a b : Key} (e : kV a = kV b) : a = b := by
  cases a with
  | inl i => cases b with
    | inl j => have e' : V.int i = V.int j := e; injection e' with e'; rw [e']
    | inr y => exact nomatch (show V.int i = V.str y from e)
  | inr x => cases b with
    | inl j => exact nomatch (show V.str x = V.int j from e)
    | inr y => have e' : V.str x = V.str y := e; injection e' with e'; rw [e']
theorem kVs_inj : ∀ {a b : List Key}, a.map kV = b.map kV → a = b
  | [], [], _ => rfl
  | [], _ :: _, e => by simp at e
  | _ :: _, [], e => by simp at e
  | x :: xs, y :: ys, e => by
    rw [List.map_cons, List.map_cons] at e
    injection e with e1 e2
    rw [kV_inj e1, kVs_inj e2]
theorem items_are {P : Program} {w : World} : ∀ {ks : List Key} {us : List Value}, Vals (ks.map kV) us → ItemsAre (mixKind P w) ks us
  | [], _, r => by rw [List.map_nil] at r; cases r; exact .nil
  | k :: ks, _, r => by
    rw [List.map_cons] at r
    cases r with
    | cons h t => exact .cons (kV_is h) (items_are t)

/-- raw entries of a dict with tuple keys -/
abbrev KT (H : Hp) : List (List Key × V) → List (List Key × Addr × Value) → Prop := Paired fun p q => p.1 = q.1 ∧ H q.2.1 = some (.tup (p.1.map kV)) ∧ RelV p.2 q.2.2
theorem KT.val {H : Hp} {kvs : List (List Key × V)} {xs : List (List Key × Addr × Value)} (r : KT H kvs xs) (k : List Key) : RelO (valV kvs k) ((atKey xs k).map (·.2)) := by
  induction r with
  | nil => exact True.intro
  | @cons p q ps qs h t ih =>
    obtain ⟨h1, _, h2⟩ := h
    by_cases e : p.1 = k
    · have e' : q.1 = k := h1.symm.trans e
      have b : atKey (q :: qs) k = some q.2 := by simp [atKey, List.find?_cons, e']
      rw [valV_pos e, b]; exact h2
    · have e' : ¬ q.1 = k := fun z => e (h1.trans z)
      have b : atKey (q :: qs) k = atKey qs k := by simp [atKey, List.find?_cons, e']
      rw [valV_neg e, b]; exact ih
theorem KT.repl {H : Hp} {kvs : List (List Key × V)} {xs : List (List Key × Addr × Value)} (r : KT H kvs xs) (k : List Key) {y : V} {u : Value} (ry : RelV y u) :
    KT H (kvs.map fun kv => if kv.1 = k then (kv.1, y) else kv) (xs.map (putAt k u)) := by
  induction r with
  | nil => exact .nil
  | @cons p q ps qs h t ih =>
    rw [List.map_cons, List.map_cons]
    refine .cons ?_ ih
    obtain ⟨h1, h2, h3⟩ := h
    unfold putAt
    by_cases e : p.1 = k
    · rw [if_pos e, if_pos (h1.symm.trans e)]; exact ⟨h1, h2, ry⟩
    · rw [if_neg e, if_neg (fun z => e (h1.trans z))]; exact ⟨h1, h2, h3⟩
theorem KT.put {H : Hp} {kvs : List (List Key × V)} {xs : List (List Key × Addr × Value)} (r : KT H kvs xs) (k : List Key) {b : Addr} {y : V} {u : Value} (hb : H b = some (.tup (k.map kV))) (ry : RelV y u) :
    KT H (putK kvs k y) (storedH xs k b u) := by
  have e : (kvs.any fun kv => decide (kv.1 = k)) = (atKey xs k).isSome := by
    rw [valV_any, (r.val k).isSome_eq, Option.isSome_map]
  unfold putK storedH
  rw [e]
  by_cases q : (atKey xs k).isSome = true
  · rw [if_pos q, if_pos q]; exact r.repl k ry
  · rw [if_neg q, if_neg q]; exact Paired.snoc r ⟨rfl, hb, ry⟩
theorem KT.keeps {H H' : Hp} {kvs : List (List Key × V)} {xs : List (List Key × Addr × Value)} (r : KT H kvs xs) (ht : ∀ b ys, H b = some (.tup ys) → H' b = some (.tup ys)) : KT H' kvs xs :=
  Paired.mapP r fun _ _ z => ⟨z.1, ht _ _ z.2.1, z.2.2⟩

section
variable {P : Program} {w : World} {H : Hp} {h : Heap} {a : Addr}
theorem rd_of {u : HO} (ok : HOk P w H h) (e : Rd H a u) : ObjOk P w H h a u := e.ok ok
theorem dk_rd {kvs : List (Key × V)} (ok : HOk P w H h) (e : Rd H a (.dK kvs)) : kvs.length ≤ sizeLine ∧ (a == sysModules) = false ∧ ∃ vs, KV kvs vs ∧ h.DictOf (mixKind P w) a vs :=
  show ObjOk P w H h a (.dK kvs) from rd_of ok e
theorem dk_of {kvs : List (Key × V)} (ok : HOk P w H h) (e : H a = some (.dK kvs)) : kvs.length ≤ sizeLine ∧ (a == sysModules) = false ∧ ∃ vs, KV kvs vs ∧ h.DictOf (mixKind P w) a vs := dk_rd ok (.inl e)
/-- a tracked tuple of ints and texts is a key -/
theorem key_of {ks : List Key} (ok : HOk P w H h) (e : H a = some (.tup (ks.map kV))) : (tupleKind (mixKind P w)).is h ks a := by
  obtain ⟨_, its, r, o, h1, h2, n, h3⟩ := (show ObjOk P w H h a (.tup (ks.map kV)) from ok a _ e)
  exact ⟨o, its.toArray, n, h1, h2, h3, by simpa using items_are r⟩
theorem dt_rd {kvs : List (List Key × V)} (ok : HOk P w H h) (e : Rd H a (.dT kvs)) : kvs.length ≤ sizeLine ∧ (a == sysModules) = false ∧
    ∃ xs, KT H kvs xs ∧ h.DictOfH (tupleKind (mixKind P w)) a xs := by
  obtain ⟨z, y, xs, r, o, es, ep, h1, h2, h3, h4, h5⟩ := (show ObjOk P w H h a (.dT kvs) from rd_of ok e)
  refine ⟨z, y, xs, r, o, es, ep, h1, h2, h3, h4, fun x hx => ?_, h5⟩
  have all : ∀ {l : List (List Key × V)} {m : List (List Key × Addr × Value)}, KT H l m → ∀ x ∈ m, (tupleKind (mixKind P w)).is h x.1 x.2.1 := by
    intro l m q
    induction q with
    | nil => intro x hx; exact nomatch hx
    | @cons p q ps qs hq t ih =>
      intro x hx
      rcases List.mem_cons.mp hx with e | hx
      · subst e
        exact key_of ok (by rw [← hq.1]; exact hq.2.1)
      · exact ih x hx
  exact all r x hx
theorem dt_of {kvs : List (List Key × V)} (ok : HOk P w H h) (e : H a = some (.dT kvs)) : kvs.length ≤ sizeLine ∧ (a == sysModules) = false ∧
    ∃ xs, KT H kvs xs ∧ h.DictOfH (tupleKind (mixKind P w)) a xs := dt_rd ok (.inl e)
end

/-- what the dict at a holds at the key y -/
def DGet (H : Hp) (a : Addr) (y : V) (r : Option V) : Prop :=
  (∃ kvs k, Rd H a (.dK kvs) ∧ y = kV k ∧ r = valV kvs k) ∨ ∃ kvs k b, Rd H a (.dT kvs) ∧ y = .ref b ∧ H b = some (.tup (k.map kV)) ∧ r = valV kvs k
/-- the heap behind a[y] = v -/
def DPut (H : Hp) (a : Addr) (y v : V) (H' : Hp) : Prop :=
  (∃ kvs k, H a = some (.dK kvs) ∧ y = kV k ∧ kvs.length < sizeLine ∧ H' = upd H a (.dK (putK kvs k v))) ∨
  ∃ kvs k b, H a = some (.dT kvs) ∧ y = .ref b ∧ H b = some (.tup (k.map kV)) ∧ kvs.length < sizeLine ∧ H' = upd H a (.dT (putK kvs k v))
theorem DGet.k {H : Hp} {a : Addr} {kvs : List (Key × V)} {k : Key} (e : H a = some (.dK kvs)) : DGet H a (kV k) (valV kvs k) := .inl ⟨kvs, k, .inl e, rfl, rfl⟩
theorem DGet.t {H : Hp} {a b : Addr} {kvs : List (List Key × V)} {k : List Key} (e : H a = some (.dT kvs)) (eb : H b = some (.tup (k.map kV))) : DGet H a (.ref b) (valV kvs k) := .inr ⟨kvs, k, b, .inl e, rfl, eb, rfl⟩
theorem DPut.k {H : Hp} {a : Addr} {kvs : List (Key × V)} {k : Key} {v : V} (e : H a = some (.dK kvs)) (hl : kvs.length < sizeLine) : DPut H a (kV k) v (upd H a (.dK (putK kvs k v))) := .inl ⟨kvs, k, e, rfl, hl, rfl⟩
theorem DPut.t {H : Hp} {a b : Addr} {kvs : List (List Key × V)} {k : List Key} {v : V} (e : H a = some (.dT kvs)) (eb : H b = some (.tup (k.map kV))) (hl : kvs.length < sizeLine) :
    DPut H a (.ref b) v (upd H a (.dT (putK kvs k v))) := .inr ⟨kvs, k, b, e, rfl, eb, hl, rfl⟩


section
variable {X : Cx} {pins : List (Addr × Obj)} {σ : St} {H : Hp} {s : Shared} {a : Addr} {y v : V} {u r : Value} {o : Option V} {A : Around} {E : Value → Shared → Prop}

theorem Inv.big (I : Inv X pins σ H s) : sysModules < s.heap.objs.size := by
  have h : mainGlobals < s.heap.objs.size := (I.mod.glob.keeps I.bk).lt
  exact Nat.lt_trans (by decide) h

/-- d[y], there -/
theorem d_getItem {Q : Value → Shared → Prop} (hu : A.units + 1 < cLine) (I : Inv X pins σ H s) (g : DGet H a y (some v)) (ry : RelV y u) (h : ∀ w' s', Inv X pins σ H s' → RelV v w' → Q w' s') :
    wpAny (model X.prog X.w) A (getItem (.ref a) u) Q E s := by
  rcases g with ⟨kvs, k, e, ey, l⟩ | ⟨kvs, k, b, e, ey, eb, l⟩
  · subst ey
    obtain ⟨z, hd, vs, rel, dd⟩ := dk_rd I.hok e
    obtain ⟨w', hw, rw'⟩ := RelO.some_of (v := v) (o := valueAt vs k) (by rw [l]; exact rel.val k)
    exact wpAny_getItem_of (kV_is ry) dd.mapOf hw (h w' _ (I.tok _) rw')
  · subst ey
    cases (show u = Value.ref b from ry)
    obtain ⟨z, hd, xs, rel, dd⟩ := dt_rd I.hok e
    obtain ⟨w', hw, rw'⟩ := RelO.some_of (v := v) (o := (atKey xs k).map (·.2)) (by rw [l]; exact rel.val k)
    obtain ⟨p, hp, hp2⟩ := Option.map_eq_some_iff.mp hw
    refine wpAny_getItem_heap (tupleKind_room_in1 hu) (key_of I.hok eb) dd hp ?_
    rw [hp2]
    exact h w' _ (I.tok _) rw'
/-- y in d -/
theorem d_in {Q : Value → Shared → Prop} (hu : A.units + 1 < cLine) (I : Inv X pins σ H s) (g : DGet H a y o) (ry : RelV y u) (h : ∀ s', Inv X pins σ H s' → Q (.bool o.isSome) s') :
    wpAny (model X.prog X.w) A (compareOp .In u (.ref a)) Q E s := by
  rcases g with ⟨kvs, k, e, ey, l⟩ | ⟨kvs, k, b, e, ey, eb, l⟩
  · subst ey
    obtain ⟨z, hd, vs, rel, dd⟩ := dk_rd I.hok e
    refine wpAny_in_of (kV_is ry) hd dd.mapOf ?_
    rw [← (rel.val k).isSome_eq, ← l]
    exact h _ (I.tok _)
  · subst ey
    cases (show u = Value.ref b from ry)
    obtain ⟨z, hd, xs, rel, dd⟩ := dt_rd I.hok e
    refine wpAny_in_heap (tupleKind_room_in1 hu) (key_of I.hok eb) hd dd ?_
    have q := (rel.val k).isSome_eq
    rw [Option.isSome_map] at q
    rw [← q, ← l]
    exact h _ (I.tok _)
theorem d_notIn {Q : Value → Shared → Prop} (hu : A.units + 1 < cLine) (I : Inv X pins σ H s) (g : DGet H a y o) (ry : RelV y u) (h : ∀ s', Inv X pins σ H s' → Q (.bool (!o.isSome)) s') :
    wpAny (model X.prog X.w) A (compareOp .NotIn u (.ref a)) Q E s := by
  rcases g with ⟨kvs, k, e, ey, l⟩ | ⟨kvs, k, b, e, ey, eb, l⟩
  · subst ey
    obtain ⟨z, hd, vs, rel, dd⟩ := dk_rd I.hok e
    refine wpAny_notIn_of (kV_is ry) hd dd.mapOf ?_
    rw [← (rel.val k).isSome_eq, ← l]
    exact h _ (I.tok _)
  · subst ey
    cases (show u = Value.ref b from ry)
    obtain ⟨z, hd, xs, rel, dd⟩ := dt_rd I.hok e
    refine wpAny_notIn_heap (tupleKind_room_in1 hu) (key_of I.hok eb) hd dd ?_
    have q := (rel.val k).isSome_eq
    rw [Option.isSome_map] at q
    rw [← q, ← l]
    exact h _ (I.tok _)
/-- a dict's object is replaced -/
theorem d_write {h' : Heap} {t' : Nat} {ob : HO} (I : Inv X pins σ H s) (mu : Mut (H a)) (hs : Heap.SameBut a s.heap h') (he : ∃ q, h'.get? a = some q) (new : ObjOk X.prog X.w (upd H a ob) h' a ob) :
    Inv X pins σ (upd H a ob) { s with heap := h', toks := t' } :=
  I.write (x := a) (e := a) mu (.inl rfl) (fun b q hb z => (hs.2 b hb).trans z) he new
theorem dk_new {P : Program} {w : World} {H' : Hp} {h' : Heap} {kvs : List (Key × V)} {vs : List (Key × Value)} (z : kvs.length ≤ sizeLine) (hd : (a == sysModules) = false) (rel : KV kvs vs) (dd : h'.DictOf (mixKind P w) a vs) :
    ObjOk P w H' h' a (.dK kvs) := ⟨z, hd, vs, rel, dd⟩
/-- d[y] = v -/
theorem d_setItem {H' : Hp} {Q : Unit → Shared → Prop} (hu : A.units + 1 < cLine) (I : Inv X pins σ H s) (g : DPut H a y v H') (ry : RelV y u) (rv : RelV v r) (h : ∀ s', Inv X pins σ H' s' → Q () s') :
    wpAny (model X.prog X.w) A (setItem (.ref a) u r) Q E s := by
  rcases g with ⟨kvs, k, e, ey, l, eH⟩ | ⟨kvs, k, b, e, ey, eb, l, eH⟩
  · subst ey eH
    obtain ⟨z, hd, vs, rel, dd⟩ := dk_of I.hok e
    have hz : vs.length ≤ sizeLine := by rw [← rel.length]; exact z
    have hl : (putK kvs k v).length ≤ sizeLine := by have := length_putK kvs k v; omega
    refine wpAny_setItem_pairs (hsz := hz) (kV_is ry) dd fun h' dd' hs => h _ ?_
    have he : ∃ q, h'.get? a = some q := let ⟨q, _, _, hq, _⟩ := dd'; ⟨q, hq⟩
    exact d_write I (by rw [e]; exact True.intro) hs he (dk_new hl hd (rel.put k rv) dd')
  · subst ey eH
    cases (show u = Value.ref b from ry)
    obtain ⟨z, hd, xs, rel, dd⟩ := dt_of I.hok e
    have hz : xs.length ≤ sizeLine := by rw [← Paired.length rel]; exact z
    have hl : (putK kvs k v).length ≤ sizeLine := by have := length_putK kvs k v; omega
    refine wpAny_setItem_heap (hsz := hz) (tupleKind_room_in1 hu) (key_of I.hok eb) dd fun h' dd' hs => h _ ?_
    obtain ⟨q, es, ep, hq, h2, h3, h4, _, h5⟩ := dd'
    refine d_write I (by rw [e]; exact True.intro) hs ⟨q, hq⟩ ⟨hl, hd, _, (rel.put k eb rv).keeps fun c ys ec => ?_, q, es, ep, hq, h2, h3, h4, h5⟩
    rw [upd_ne (ne_of ec e (fun z => nomatch z))]
    exact ec
end

section
variable {X : Cx} {pins : List (Addr × Obj)} {σ : St} {H : Hp} {s : Shared} {a : Addr} {kvs : List (Key × V)} {k : Key} {u : Value} {A : Around} {E : Value → Shared → Prop}
/-- del d[k] -/
theorem d_delItem {Q : Unit → Shared → Prop} (I : Inv X pins σ H s) (e : H a = some (.dK kvs)) (ry : RelV (kV k) u) (l : (valV kvs k).isSome = true) (h : ∀ s', Inv X pins σ (upd H a (.dK (dropK kvs k))) s' → Q () s') :
    wpAny (model X.prog X.w) A (delItem (.ref a) u) Q E s := by
  obtain ⟨z, hd, vs, rel, dd⟩ := dk_of I.hok e
  refine wpAny_delItem_slot dd.typeIs (by decide) PySem.F.slot_dict_delitem
    (call_meetsIn PySem.F.slot_dict_delitem dd.typeIs PySem.F.entry_dict_delitem (PySem.F.args_dict_delitem_2 _ _) (meets_dict_delitem_pairs (mixKind X.prog X.w) a (kV_is ry)) ⟨vs, dd, by rw [← rel.length]; exact z, by rw [← (rel.val k).isSome_eq]; exact l, fun h' dd' hs => h _ ?_⟩)
  have he : ∃ q, h'.get? a = some q := let ⟨q, _, _, hq, _⟩ := dd'; ⟨q, hq⟩
  exact d_write I (by rw [e]; exact True.intro) hs he (dk_new (Nat.le_trans (dropK_le kvs k) z) hd (rel.drop k) dd')
/-- d.pop(k[, x]), there -/
theorem d_pop {v : V} {more : List Value} {Q : Value → Shared → Prop} (I : Inv X pins σ H s) (e : H a = some (.dK kvs)) (ry : RelV (kV k) u) (l : valV kvs k = some v) (hm : more = [] ∨ ∃ x, more = [x])
    (h : ∀ w' s', Inv X pins σ (upd H a (.dK (dropK kvs k))) s' → RelV v w' → Q w' s') : wpAny (model X.prog X.w) A (call (.builtin "dict.pop") (.ref a :: u :: more)) Q E s := by
  obtain ⟨z, hd, vs, rel, dd⟩ := dk_of I.hok e
  obtain ⟨w', hw, rw'⟩ := RelO.some_of (v := v) (o := valueAt vs k) (by rw [← l]; exact rel.val k)
  have hp : (keyPart u).isSome = true := by
    cases k with
    | inl i => obtain ⟨t, q⟩ := (show ∃ t, u = Value.int i t from ry); subst q; rfl
    | inr x => obtain ⟨t, q⟩ := (show ∃ t, u = Value.str x t from ry); subst q; rfl
  have ha : argsOk "dict.pop" ⟨.ref a :: u :: more, []⟩ := by
    rcases hm with q | ⟨x, q⟩
    · subst q; exact PySem.F.args_dict_pop_2 _ _
    · subst q; exact PySem.F.args_dict_pop_3 _ _ _
  refine call_meetsIn PySem.F.slot_dict_pop dd.typeIs PySem.F.entry_dict_pop ha (meets_dict_pop_there (mixKind X.prog X.w) a (kV_is ry) more hm hp)
    ⟨vs, w', dd, by rw [← rel.length]; exact z, hw, fun h' dd' hs => h w' _ ?_ rw'⟩
  have he : ∃ q, h'.get? a = some q := let ⟨q, _, _, hq, _⟩ := dd'; ⟨q, hq⟩
  exact d_write I (by rw [e]; exact True.intro) hs he (dk_new (Nat.le_trans (dropK_le kvs k) z) hd (rel.drop k) dd')
/-- d.pop(k, x), not there -/
theorem d_popD {r : Value} {Q : Value → Shared → Prop} (I : Inv X pins σ H s) (e : H a = some (.dK kvs)) (ry : RelV (kV k) u) (l : valV kvs k = none) (h : ∀ s', Inv X pins σ H s' → Q r s') :
    wpAny (model X.prog X.w) A (call (.builtin "dict.pop") [.ref a, u, r]) Q E s := by
  obtain ⟨z, hd, vs, rel, dd⟩ := dk_of I.hok e
  have hn : valueAt vs k = none := RelO.none_of (by rw [← l]; exact rel.val k)
  have hp : (keyPart u).isSome = true := by
    cases k with
    | inl i => obtain ⟨t, q⟩ := (show ∃ t, u = Value.int i t from ry); subst q; rfl
    | inr x => obtain ⟨t, q⟩ := (show ∃ t, u = Value.str x t from ry); subst q; rfl
  exact call_meetsIn PySem.F.slot_dict_pop dd.typeIs PySem.F.entry_dict_pop (PySem.F.args_dict_pop_3 _ _ _) (meets_dict_pop_default (mixKind X.prog X.w) a (kV_is ry) hd hp r) ⟨vs, dd, hn, h _ (I.tok _)⟩
/-- d.clear() -/
theorem d_clear {Q : Value → Shared → Prop} (I : Inv X pins σ H s) (e : H a = some (.dK kvs)) (h : ∀ s', Inv X pins σ (upd H a (.dK [])) s' → Q .none s') : wpAny (model X.prog X.w) A (call (.builtin "dict.clear") [.ref a]) Q E s := by
  obtain ⟨z, hd, vs, rel, dd⟩ := dk_of I.hok e
  refine call_meetsIn PySem.F.slot_dict_clear dd.typeIs PySem.F.entry_dict_clear (PySem.F.args_dict_clear_1 _) (meets_dict_clear (mixKind X.prog X.w) a) ⟨vs, dd, by rw [← rel.length]; exact z, fun h' dd' hs => h _ ?_⟩
  have he : ∃ q, h'.get? a = some q := let ⟨q, _, _, hq, _⟩ := dd'; ⟨q, hq⟩
  exact d_write (t' := s.toks) I (by rw [e]; exact True.intro) hs he (dk_new (Nat.zero_le _) hd .nil dd')
/-- len(d) -/
theorem d_len {Q : Value → Shared → Prop} (I : Inv X pins σ H s) (e : Rd H a (.dK kvs)) (h : ∀ t s', Inv X pins σ H s' → Q (.int kvs.length t) s') : wpAny (model X.prog X.w) A (call (.builtin "len") [.ref a]) Q E s := by
  obtain ⟨z, hd, vs, rel, dd⟩ := dk_rd I.hok e
  refine call_len_dict hd dd (by rw [← rel.length]; rw [sizeLine_eq] at z; omega) ?_
  rw [← rel.length]
  exact h _ _ (I.tok _)
/-- if d -/
theorem d_truth {Q : Bool → Shared → Prop} (I : Inv X pins σ H s) (e : Rd H a (.dK kvs)) (h : ∀ s', Inv X pins σ H s' → Q (!kvs.isEmpty) s') : wpAny (model X.prog X.w) A (truthy (.ref a)) Q E s := by
  obtain ⟨z, hd, vs, rel, dd⟩ := dk_rd I.hok e
  refine wpAny_truthy_dict hd dd (by rw [← rel.length]; rw [sizeLine_eq] at z; omega) ?_
  have q : kvs.isEmpty = vs.isEmpty := by cases rel <;> rfl
  rw [← q]
  exact h _ (I.tok _)
end


/-! ### readings and rules -/
/-- the element of a subscription, not a slice -/
def NoSl (i : Expr) : Prop := ∀ ov iv, subscripted i false ov iv = operate [ov, iv] (getItem ov iv)
theorem subD_of {prog : Program} {w : World} {A : Around} {E : Value → Shared → Prop} {s : Shared} {env : Env} {value slice : Expr} {pos : Pos} {T id : String} {Q : Value → Shared → Prop}
    (hl : typeLookup (.type T) "__getitem__" = pure (some (.builtin id))) (hs : NoSl slice)
    (h : wpAny (model prog w) A (eval value env) (fun o s₁ => wpAny (model prog w) A (eval slice env) (fun i s₂ => s₂.TypeIs o T ∧ wpAny (model prog w) A (getItem o i) Q E s₂) E s₁) E s) :
    wpAny (model prog w) A (eval (.Subscript value slice pos) env) Q E s := by
  refine Subscript_ (wpAny_mono h (fun o s₁ h₁ => wpAny_mono h₁ (fun i s₂ h₂ => ?_) fun _ _ x => x) fun _ _ x => x)
  obtain ⟨hT, h₂⟩ := h₂
  unfold subscriptTail
  refine wpAny_bind ?_
  rw [getitemInPython_of_ne hT.not_modules]
  refine wpAny_bind (wpAny_specialOf hT hl ?_)
  have fin : wpAny (model prog w) A (subscripted slice false o i) (fun r s₃ => wpAny (model prog w) A (letTemporaryGo value o r >>= fun _ => pure r) Q E s₃) E s₂ := by
    rw [hs o i]
    exact wpAny_operating (wpAny_mono h₂ (fun r s₃ h₃ => wpAny_bind (wpAny_letTemporaryGo (wpAny_pure h₃))) fun _ _ x => x)
  first
    | exact wpAny_pure (wpAny_bind fin)
    | exact wpAny_bind (wpAny_pure (wpAny_bind fin))
    | exact wpAny_bind fin

theorem dict_typeIs {X : Cx} {pins : List (Addr × Obj)} {σ : St} {H : Hp} {s : Shared} {a : Addr} {y : V} {o : Option V} (I : Inv X pins σ H s) (g : DGet H a y o) : s.TypeIs (.ref a) "dict" := by
  rcases g with ⟨kvs, k, e, _, _⟩ | ⟨kvs, k, b, e, _, _, _⟩
  · obtain ⟨_, _, vs, _, dd⟩ := dk_rd I.hok e
    exact dd.typeIs
  · obtain ⟨_, _, xs, _, dd⟩ := dt_rd I.hok e
    exact dd.typeIs
theorem dict_noDict {X : Cx} {pins : List (Addr × Obj)} {σ : St} {H : Hp} {s : Shared} {a : Addr} {y : V} {o : Option V} (I : Inv X pins σ H s) (g : DGet H a y o) :
    ∀ b, Value.ref a = .ref b → ∃ ob, s.heap.get? b = some ob ∧ ob.dict = none := fun b q => by
  cases q
  rcases g with ⟨kvs, k, e, _, _⟩ | ⟨kvs, k, b, e, _, _, _⟩
  · obtain ⟨_, _, vs, _, ob, _, _, h1, h2, _⟩ := dk_rd I.hok e
    exact ⟨ob, h1, h2.2.1⟩
  · obtain ⟨_, _, xs, _, ob, _, _, h1, h2, _⟩ := dt_rd I.hok e
    exact ⟨ob, h1, h2.2.1⟩

/-- d[y] -/
def tDGet (td ty : TE) : TE := fun σ H Q => td σ H fun x H1 => ty σ H1 fun y H2 => ∃ a v, x = .ref a ∧ DGet H2 a y (some v) ∧ Q v H2
/-- y in d, y not in d -/
def tDIn (ty td : TE) : TE := fun σ H Q => ty σ H fun y H1 => td σ H1 fun x H2 => ∃ a o, x = .ref a ∧ DGet H2 a y o ∧ Q (.bl o.isSome) H2
def tDNotIn (ty td : TE) : TE := fun σ H Q => ty σ H fun y H1 => td σ H1 fun x H2 => ∃ a o, x = .ref a ∧ DGet H2 a y o ∧ Q (.bl (!o.isSome)) H2
/-- d[y] = v -/
def sDPut (td ty tv : TE) : TS := fun D σ H => tv σ H fun v H1 => td σ H1 fun x H2 => ty σ H2 fun y H3 => ∃ a H4, x = .ref a ∧ DPut H3 a y v H4 ∧ D.nx σ H4
/-- d[y] op= v -/
def sDAug (td ty tv : TE) (rd : V → V → Hp → VK → Prop) : TS := fun D σ H => td σ H fun x H1 => ty σ H1 fun y H2 => ∃ a v, x = .ref a ∧ DGet H2 a y (some v) ∧
  tv σ H2 fun y2 H3 => rd v y2 H3 fun z H4 => ∃ H5, DPut H4 a y z H5 ∧ D.nx σ H5
/-- del d[y] -/
def sDDel (td ty : TE) : TS := fun D σ H => td σ H fun x H1 => ty σ H1 fun y H2 => ∃ a kvs k, x = .ref a ∧ H2 a = some (.dK kvs) ∧ y = kV k ∧ (valV kvs k).isSome = true ∧ D.nx σ (upd H2 a (.dK (dropK kvs k)))

section
variable {X : Cx} {o i e value : Expr} {pos pos' tpos : Pos} {td ty tv : TE}
theorem pe_dget (hu : X.A.units + 1 < cLine) (ho : PE X o td) (hi : PE X i ty) (hs : NoSl i) : PE X (.Subscript o i pos) (tDGet td ty) := by
  intro pins s σ H Q I h
  refine subD_of PySem.F.slot_dict_getitem.lookup hs (thn (ho pins s σ H _ I h) fun u s1 ⟨x, H1, I1, rx, q1⟩ => thn (hi pins s1 σ H1 _ I1 q1) fun iv s2 ⟨y, H2, I2, ry, a, v, ex, g, q2⟩ => ?_)
  subst ex
  obtain rfl : u = Value.ref a := rx
  exact ⟨dict_typeIs I2 g, d_getItem hu I2 g ry fun w' s3 I3 rw' => ⟨v, H2, I3, rw', q2⟩⟩
theorem pc_din (hu : X.A.units + 1 < cLine) (hi : PE X i ty) (ho : PE X o td) : PC X .In i o (tDIn ty td) := by
  intro pins s σ H Q I h
  refine thn (hi pins s σ H _ I h) fun iv s1 ⟨y, H1, I1, ry, q1⟩ => thn (ho pins s1 σ H1 _ I1 q1) fun u s2 ⟨x, H2, I2, rx, a, ov, ex, g, q2⟩ => ?_
  subst ex
  obtain rfl : u = Value.ref a := rx
  exact d_in hu I2 g ry fun s3 I3 => ⟨.bl ov.isSome, H2, I3, rfl, q2⟩
theorem pc_dnotin (hu : X.A.units + 1 < cLine) (hi : PE X i ty) (ho : PE X o td) : PC X .NotIn i o (tDNotIn ty td) := by
  intro pins s σ H Q I h
  refine thn (hi pins s σ H _ I h) fun iv s1 ⟨y, H1, I1, ry, q1⟩ => thn (ho pins s1 σ H1 _ I1 q1) fun u s2 ⟨x, H2, I2, rx, a, ov, ex, g, q2⟩ => ?_
  subst ex
  obtain rfl : u = Value.ref a := rx
  exact d_notIn hu I2 g ry fun s3 I3 => ⟨.bl (!ov.isSome), H2, I3, rfl, q2⟩
theorem ps_dput (hu : X.A.units + 1 < cLine) (ho : PE X o td) (hi : PE X i ty) (hv : PE X value tv) (hs : swapsWith value (some (.Subscript o i pos')) pos.line X.env = pure false) :
    PS X (.Assign [.Subscript o i pos'] value pos) (sDPut td ty tv) := by
  intro pins s σ H D I h
  refine wpAny_Assign_Subscript (thn (hv pins s σ H _ I h) fun r s1 ⟨v, H1, I1, rv, q1⟩ => thn (ho pins s1 σ H1 _ I1 q1) fun u s2 ⟨x, H2, I2, rx, q2⟩ => thn (hi pins s2 σ H2 _ I2 q2) fun iv s3 ⟨y, H3, I3, ry, a, H4, ex, g, q3⟩ => ?_) hs
  subst ex
  obtain rfl : u = Value.ref a := rx
  exact d_setItem hu I3 g ry rv fun s4 I4 => ⟨σ, H4, I4, q3⟩
theorem ps_daug {op : Operator} {rd : V → V → Hp → VK → Prop} (hu : X.A.units + 1 < cLine) (ho : PE X o td) (hi : PE X i ty) (hv : PE X value tv) (hop : InOp X op rd)
    (ha : ∀ ov iv new, augStore i ov iv new = (do holding [new, ov, iv] (setItem ov iv new); release [new, ov, iv] []; pure .next)) : PS X (.AugAssign (.Subscript o i tpos) op value pos) (sDAug td ty tv rd) := by
  intro pins s σ H D I h
  refine wpAny_AugAssign_SubscriptAny (thn (ho pins s σ H _ I h) fun u s1 ⟨x, H1, I1, rx, q1⟩ => thn (hi pins s1 σ H1 _ I1 q1) fun iv s2 ⟨y, H2, I2, ry, a, v, ex, g, q2⟩ => ?_) ha
  subst ex
  obtain rfl : u = Value.ref a := rx
  refine d_getItem hu I2 g ry fun w' s3 I3 rw' => thn (hv pins s3 σ H2 _ I3 q2) fun w2 s4 ⟨y2, H3, I4, ry2, q3⟩ => thn (hop pins s4 σ H3 v y2 w' w2 _ I4 rw' ry2 q3) fun w3 s5 ⟨z, H4, I5, rz, H5, g5, q4⟩ => ?_
  exact d_setItem hu I5 g5 ry rz fun s6 I6 => ⟨σ, H5, I6, q4⟩
theorem ps_ddel (ho : PE X o td) (hi : PE X i ty) : PS X (.Delete [.Subscript o i tpos] pos) (sDDel td ty) := by
  intro pins s σ H D I h
  refine wpAny_Delete (wpAny_deleteEach_cons (wpAny_delete_Subscript (thn (ho pins s σ H _ I h) fun u s1 ⟨x, H1, I1, rx, q1⟩ => thn (hi pins s1 σ H1 _ I1 q1) fun iv s2 ⟨y, H2, I2, ry, a, kvs, k, ex, e, ey, l, q2⟩ => ?_)))
  subst ex ey
  obtain rfl : u = Value.ref a := rx
  exact d_delItem I2 e ry l fun s3 I3 => wpAny_deleteEach_nil ⟨σ, _, I3, q2⟩
end


/-! ### displays -/
theorem dk_empty {P : Program} {w : World} {H : Hp} (h : Heap) (hb : sysModules < h.objs.size) : ObjOk P w H (h.push { cls := .type "dict", data := .dict #[] }) h.objs.size (.dK []) :=
  ⟨Nat.zero_le _, beq_eq_false_iff_ne.mpr (Ne.symm (Nat.ne_of_lt hb)), [], .nil, Heap.DictOf.new h⟩
theorem dt_empty {P : Program} {w : World} {H : Hp} (h : Heap) (hb : sysModules < h.objs.size) : ObjOk P w H (h.push { cls := .type "dict", data := .dict #[] }) h.objs.size (.dT []) :=
  ⟨Nat.zero_le _, beq_eq_false_iff_ne.mpr (Ne.symm (Nat.ne_of_lt hb)), [], .nil, _, #[], 0, Heap.get?_push_size _ rfl, ⟨rfl, rfl, rfl⟩, rfl, rfl, List.nodup_nil⟩
/-- {}, to be a dict of the kind that is wanted -/
def tDNewK : TE := fun _ H Q => ∀ p, H p = none → Q (.ref p) (upd H p (.dK []))
def tDNewT : TE := fun _ H Q => ∀ p, H p = none → Q (.ref p) (upd H p (.dT []))
section
variable {X : Cx} {pos : Pos}
theorem pe_dnewK : PE X (.Dict [] [] pos) tDNewK := fun pins s σ H Q I h =>
  wpAny_Dict_empty ⟨.ref s.heap.objs.size, _, I.laid (a := s.heap.objs.size) (o := .dK []) (t' := s.toks) (fun _ _ q => Heap.get?_push_of_some _ q) (Nat.le_refl _) (dk_empty s.heap I.big), rfl, h _ (I.hok.fresh (Nat.le_refl _))⟩
theorem pe_dnewT : PE X (.Dict [] [] pos) tDNewT := fun pins s σ H Q I h =>
  wpAny_Dict_empty ⟨.ref s.heap.objs.size, _, I.laid (a := s.heap.objs.size) (o := .dT []) (t' := s.toks) (fun _ _ q => Heap.get?_push_of_some _ q) (Nat.le_refl _) (dt_empty s.heap I.big), rfl, h _ (I.hok.fresh (Nat.le_refl _))⟩
end

/-- the pairs of a display, from the left -/
def tPairs : List (TE × TE) → St → Hp → (List (V × V) → Hp → Prop) → Prop
  | [], _, H, Q => Q [] H
  | (tk, tv) :: r, σ, H, Q => tk σ H fun x H1 => tv σ H1 fun y H2 => tPairs r σ H2 fun ps H3 => Q ((x, y) :: ps) H3
abbrev VV : List (V × V) → List (Value × Value) → Prop := Paired fun p q => RelV p.1 q.1 ∧ RelV p.2 q.2
def PPs (X : Cx) (pos : Pos) (keys : List (Option Expr)) (values : List Expr) (trs : List (TE × TE)) : Prop :=
  ∀ (pins : List (Addr × Obj)) (s : Shared) (σ : St) (H : Hp) (Q : List (V × V) → Hp → Prop), Inv X pins σ H s → tPairs trs σ H Q →
    wpAny (model X.prog X.w) X.A (evalPairs (pairTrees keys values X.env pos)) (fun vs s' => ∃ ps H', Inv X pins σ H' s' ∧ VV ps vs ∧ Q ps H') X.xe s
theorem pps_nil {X : Cx} {pos : Pos} : PPs X pos [] [] [] := fun pins s σ H Q I h => pairTrees_nil_walk ⟨[], H, I, .nil, h⟩
theorem pps_cons {X : Cx} {pos : Pos} {k v : Expr} {ks : List (Option Expr)} {vs : List Expr} {tk tv : TE} {trs : List (TE × TE)} (hk : PE X k tk) (hv : PE X v tv) (hr : PPs X pos ks vs trs) :
    PPs X pos (some k :: ks) (v :: vs) ((tk, tv) :: trs) := fun pins s σ H Q I h =>
  pairTrees_cons_walk (thn (hk pins s σ H _ I h) fun u s1 ⟨x, H1, I1, rx, q1⟩ => thn (hv pins s1 σ H1 _ I1 q1) fun w2 s2 ⟨y, H2, I2, ry, q2⟩ =>
    thn (hr pins s2 σ H2 _ I2 q2) fun ws s3 ⟨ps, H3, I3, rel, q3⟩ => ⟨(x, y) :: ps, H3, I3, .cons ⟨rx, ry⟩ rel, q3⟩)

def mergeK (kvs more : List (Key × V)) : List (Key × V) := more.foldl (fun acc kv => putK acc kv.1 kv.2) kvs
theorem KV.merge : ∀ {more : List (Key × V)} {rs : List (Key × Value)} {kvs : List (Key × V)} {vs : List (Key × Value)}, KV more rs → KV kvs vs → KV (mergeK kvs more) (merged vs rs) := by
  intro more rs kvs vs r
  unfold KV at r
  induction r generalizing kvs vs with
  | nil => intro q; exact q
  | @cons p q ps qs h t ih =>
    intro r0
    have e : KV (putK kvs p.1 p.2) (stored vs q.1 q.2) := by
      have := r0.put p.1 h.2
      rw [← h.1]; exact this
    exact ih e
theorem length_mergeK : ∀ (more kvs : List (Key × V)), (mergeK kvs more).length ≤ kvs.length + more.length
  | [], kvs => by show kvs.length ≤ kvs.length + 0; omega
  | p :: r, kvs => by
    have h1 := length_mergeK r (putK kvs p.1 p.2)
    have h2 := length_putK kvs p.1 p.2
    show (mergeK (putK kvs p.1 p.2) r).length ≤ _
    rw [List.length_cons]; omega
theorem carries_of {P : Program} {w : World} : ∀ {kvs : List (Key × V)} {ws : List (Value × Value)}, VV (kvs.map fun kv => (kV kv.1, kv.2)) ws → ∃ rs, Carries (mixKind P w) ws rs ∧ KV kvs rs
  | [], _, r => by rw [List.map_nil] at r; cases r; exact ⟨[], True.intro, .nil⟩
  | p :: kvs, _, r => by
    rw [List.map_cons] at r
    cases r with
    | @cons a b as bs h t =>
      obtain ⟨rs, c, q⟩ := carries_of (P := P) (w := w) t
      obtain ⟨b1, b2⟩ := b
      exact ⟨(p.1, b2) :: rs, ⟨kV_is h.1, rfl, c⟩, .cons ⟨rfl, h.2⟩ q⟩
/-- {k: v, ..} with keys ints and texts; the new dict stands empty while the pairs are made -/
def tDisp (trs : List (TE × TE)) : TE := fun σ H Q => ∀ p, H p = none → tPairs trs σ (upd H p (.dK [])) fun ps H2 => H2 p = some (.dK []) ∧ ∃ kvs : List (Key × V), ps = kvs.map (fun kv => (kV kv.1, kv.2)) ∧ kvs.length ≤ 15 ∧ Q (.ref p) (upd H2 p (.dK (mergeK [] kvs)))
theorem pe_disp {X : Cx} {pos : Pos} {keys : List (Option Expr)} {values : List Expr} {trs : List (TE × TE)} (h : PPs X pos keys values trs) (hall : keys.all (·.isSome) = true) (hl : keys.length = values.length) (h0 : keys ≠ [])
    (h15 : keys.length ≤ 15) : PE X (.Dict keys values pos) (tDisp trs) := by
  intro pins s σ H Q I q
  have hn := I.hok.fresh (Nat.le_refl s.heap.objs.size)
  have I1 := I.laid (a := s.heap.objs.size) (o := .dK []) (h' := s.heap.push { cls := .type "dict", data := .dict #[] }) (t' := s.toks) (fun _ _ q => Heap.get?_push_of_some _ q) (Nat.le_refl _) (dk_empty s.heap I.big)
  refine wpAny_Dict_walk (knd := mixKind X.prog X.w) hall hl h0 h15 (thn (h pins _ σ _ _ I1 (q _ hn)) fun ws s2 ⟨ps, H2, I2, rel, e, kvs, ep, lk, q2⟩ => ?_)
  subst ep
  obtain ⟨rs, c, rk⟩ := carries_of (P := X.prog) (w := X.w) rel
  obtain ⟨z, hd, vs0, r0, dd⟩ := dk_of I2.hok e
  cases r0
  refine ⟨rs, c, dd, fun h' dd' hs => ⟨.ref s.heap.objs.size, _, ?_, rfl, q2⟩⟩
  have hz : (mergeK [] kvs).length ≤ sizeLine := by
    have h1 := length_mergeK kvs []
    rw [List.length_nil] at h1
    rw [sizeLine_eq]; omega
  have he : ∃ q, h'.get? s.heap.objs.size = some q := let ⟨q, _, _, hq, _⟩ := dd'; ⟨q, hq⟩
  exact d_write I2 (by rw [e]; exact True.intro) hs he (dk_new hz hd (rk.merge .nil) dd')


/-! ### methods -/
/-- a method call o.m(e) of a built-in, with one argument: what must be seen of the text -/
structure M1 (X : Cx) (o : Expr) (m : Str) (apos : Pos) (e : Expr) (cpos : Pos) : Prop where
  base : attributeBase o m X.env (eval o X.env) = eval o X.env
  few : ((backTo cpos (starEach [e] X.env)).all (fun x => !x.1) && (backToKw cpos (keywordEach [] X.env)).all (fun x => x.1.isSome)
    && decide (([e] : List Expr).length + ([] : List Keyword).length + (if ([] : List Keyword).isEmpty then 0 else 1) < 30)) = true
  line : (apos.endLine == cpos.line) = true
  trees : backTo cpos (starEach [e] X.env) = [(false, eval e X.env)]
structure M2 (X : Cx) (o : Expr) (m : Str) (apos : Pos) (e f : Expr) (cpos : Pos) : Prop where
  base : attributeBase o m X.env (eval o X.env) = eval o X.env
  few : ((backTo cpos (starEach [e, f] X.env)).all (fun x => !x.1) && (backToKw cpos (keywordEach [] X.env)).all (fun x => x.1.isSome)
    && decide (([e, f] : List Expr).length + ([] : List Keyword).length + (if ([] : List Keyword).isEmpty then 0 else 1) < 30)) = true
  line : (apos.endLine == cpos.line) = true
  trees : backTo cpos (starEach [e, f] X.env) = [(false, eval e X.env), (false, eval f X.env)]

/-- a is a dict, whatever its keys -/
def IsD (H : Hp) (a : Addr) : Prop := (∃ kvs, Rd H a (.dK kvs)) ∨ ∃ kvs, Rd H a (.dT kvs)
theorem isD_at {X : Cx} {pins : List (Addr × Obj)} {σ : St} {H : Hp} {s : Shared} {a : Addr} (I : Inv X pins σ H s) (d : IsD H a) :
    s.TypeIs (.ref a) "dict" ∧ (∀ b, Value.ref a = .ref b → ∃ ob, s.heap.get? b = some ob ∧ ob.dict = none) ∧ (a == sysModules) = false := by
  rcases d with ⟨kvs, e⟩ | ⟨kvs, e⟩
  · obtain ⟨_, hd, vs, _, dd⟩ := dk_rd I.hok e
    refine ⟨dd.typeIs, fun b q => ?_, hd⟩
    cases q
    obtain ⟨ob, _, _, h1, h2, _⟩ := dd
    exact ⟨ob, h1, h2.2.1⟩
  · obtain ⟨_, hd, xs, _, dd⟩ := dt_rd I.hok e
    refine ⟨dd.typeIs, fun b q => ?_, hd⟩
    cases q
    obtain ⟨ob, _, _, h1, h2, _⟩ := dd
    exact ⟨ob, h1, h2.2.1⟩

section
variable {X : Cx} {pins : List (Addr × Obj)} {σ : St} {H : Hp} {s : Shared} {a : Addr} {y d : V} {u r : Value} {o : Option V} {A : Around} {E : Value → Shared → Prop}
/-- d.get(y) -/
theorem d_get1 {Q : Value → Shared → Prop} (hu : A.units + 1 < cLine) (I : Inv X pins σ H s) (g : DGet H a y o) (ry : RelV y u) (h : ∀ w' s', Inv X pins σ H s' → RelV (o.getD .non) w' → Q w' s') :
    wpAny (model X.prog X.w) A (call (.builtin "dict.get") [.ref a, u]) Q E s := by
  rcases g with ⟨kvs, k, e, ey, l⟩ | ⟨kvs, k, b, e, ey, eb, l⟩
  · subst ey
    obtain ⟨z, hd, vs, rel, dd⟩ := dk_rd I.hok e
    refine call_meetsIn PySem.F.slot_dict_get dd.typeIs PySem.F.entry_dict_get (PySem.F.args_dict_get_2 _ _) (meets_dict_get (mixKind X.prog X.w) a (kV_is ry) hd) ⟨_, dd.mapOf, h _ _ (I.tok _) ?_⟩
    rw [l]
    exact (rel.val k).getD rfl
  · subst ey
    cases (show u = Value.ref b from ry)
    obtain ⟨z, hd, xs, rel, dd⟩ := dt_rd I.hok e
    refine call_meetsIn PySem.F.slot_dict_get dd.typeIs PySem.F.entry_dict_get (PySem.F.args_dict_get_2 _ _) (meetsH_dict_get (tupleKind (mixKind X.prog X.w)) a b hd) ⟨tupleKind_room_in1 hu, k, xs, key_of I.hok eb, dd, h _ _ (I.tok _) ?_⟩
    rw [l]
    exact (rel.val k).getD rfl
/-- d.get(y, x) -/
theorem d_get2 {Q : Value → Shared → Prop} (hu : A.units + 1 < cLine) (I : Inv X pins σ H s) (g : DGet H a y o) (ry : RelV y u) (rd : RelV d r) (h : ∀ w' s', Inv X pins σ H s' → RelV (o.getD d) w' → Q w' s') :
    wpAny (model X.prog X.w) A (call (.builtin "dict.get") [.ref a, u, r]) Q E s := by
  rcases g with ⟨kvs, k, e, ey, l⟩ | ⟨kvs, k, b, e, ey, eb, l⟩
  · subst ey
    obtain ⟨z, hd, vs, rel, dd⟩ := dk_rd I.hok e
    refine call_meetsIn PySem.F.slot_dict_get dd.typeIs PySem.F.entry_dict_get (PySem.F.args_dict_get_3 _ _ _) (meets_dict_get_default (mixKind X.prog X.w) a (kV_is ry) hd r) ⟨_, dd.mapOf, h _ _ (I.tok _) ?_⟩
    rw [l]
    exact (rel.val k).getD rd
  · subst ey
    cases (show u = Value.ref b from ry)
    obtain ⟨z, hd, xs, rel, dd⟩ := dt_rd I.hok e
    refine call_meetsIn PySem.F.slot_dict_get dd.typeIs PySem.F.entry_dict_get (PySem.F.args_dict_get_3 _ _ _) (meetsH_dict_get_default (tupleKind (mixKind X.prog X.w)) a b hd r) ⟨tupleKind_room_in1 hu, k, xs, key_of I.hok eb, dd, h _ _ (I.tok _) ?_⟩
    rw [l]
    exact (rel.val k).getD rd
end

def tDGet1 (td ty : TE) : TE := fun σ H Q => td σ H fun x H1 => ∃ a, x = .ref a ∧ IsD H1 a ∧ ty σ H1 fun y H2 => ∃ o, DGet H2 a y o ∧ Q (o.getD .non) H2
def tDGet2 (td ty tx : TE) : TE := fun σ H Q => td σ H fun x H1 => ∃ a, x = .ref a ∧ IsD H1 a ∧ ty σ H1 fun y H2 => tx σ H2 fun z H3 => ∃ o, DGet H3 a y o ∧ Q (o.getD z) H3
/-- d.pop(k): there; d.pop(k, x): there or not -/
def tDPop1 (td ty : TE) : TE := fun σ H Q => td σ H fun x H1 => ∃ a, x = .ref a ∧ IsD H1 a ∧ ty σ H1 fun y H2 => ∃ kvs k v, H2 a = some (.dK kvs) ∧ y = kV k ∧ valV kvs k = some v ∧ Q v (upd H2 a (.dK (dropK kvs k)))
def tDPop2 (td ty tx : TE) : TE := fun σ H Q => td σ H fun x H1 => ∃ a, x = .ref a ∧ IsD H1 a ∧ ty σ H1 fun y H2 => tx σ H2 fun z H3 => ∃ kvs k, H3 a = some (.dK kvs) ∧ y = kV k ∧
  (∀ v, valV kvs k = some v → Q v (upd H3 a (.dK (dropK kvs k)))) ∧ (valV kvs k = none → Q z H3)
section
variable {X : Cx} {o e f : Expr} {apos cpos : Pos} {td ty tx : TE}
theorem pe_dget1 (hu : X.A.units + 1 < cLine) (ho : PE X o td) (he : PE X e ty) (m : M1 X o "get" apos e cpos) : PE X (.Call (.Attribute o "get" apos) [e] [] cpos) (tDGet1 td ty) := by
  intro pins s σ H Q I h
  refine wpAny_Call_method m.base m.few m.line PySem.F.plainAttrs_dict PySem.F.slot_dict_get PySem.F.type_dict_get (thn (ho pins s σ H _ I h) fun u s1 ⟨x, H1, I1, rx, a, ex, d, q1⟩ => ?_)
  subst ex
  obtain rfl : u = Value.ref a := rx
  obtain ⟨t1, t2, _⟩ := isD_at I1 d
  refine ⟨t1, t2, ?_⟩
  rw [m.trees]
  refine Calls.callWith_builtin rfl (Calls.evalArgs_plain (Calls.spliced_cons (thn (he pins s1 σ H1 _ I1 q1) fun iv s2 ⟨y, H2, I2, ry, ov, g, q2⟩ => Calls.spliced_nil ?_)))
  exact d_get1 hu I2 g ry fun w' s3 I3 rw' => ⟨_, H2, I3, rw', q2⟩
theorem pe_dget2 (hu : X.A.units + 1 < cLine) (ho : PE X o td) (he : PE X e ty) (hf : PE X f tx) (m : M2 X o "get" apos e f cpos) : PE X (.Call (.Attribute o "get" apos) [e, f] [] cpos) (tDGet2 td ty tx) := by
  intro pins s σ H Q I h
  refine wpAny_Call_method m.base m.few m.line PySem.F.plainAttrs_dict PySem.F.slot_dict_get PySem.F.type_dict_get (thn (ho pins s σ H _ I h) fun u s1 ⟨x, H1, I1, rx, a, ex, d, q1⟩ => ?_)
  subst ex
  obtain rfl : u = Value.ref a := rx
  obtain ⟨t1, t2, _⟩ := isD_at I1 d
  refine ⟨t1, t2, ?_⟩
  rw [m.trees]
  refine Calls.callWith_builtin rfl (Calls.evalArgs_plain (Calls.spliced_cons (thn (he pins s1 σ H1 _ I1 q1) fun iv s2 ⟨y, H2, I2, ry, q2⟩ =>
    Calls.spliced_cons (thn (hf pins s2 σ H2 _ I2 q2) fun fv s3 ⟨z, H3, I3, rz, ov, g, q3⟩ => Calls.spliced_nil ?_))))
  exact d_get2 hu I3 g ry rz fun w' s4 I4 rw' => ⟨_, H3, I4, rw', q3⟩
theorem pe_dpop1 (ho : PE X o td) (he : PE X e ty) (m : M1 X o "pop" apos e cpos) : PE X (.Call (.Attribute o "pop" apos) [e] [] cpos) (tDPop1 td ty) := by
  intro pins s σ H Q I h
  refine wpAny_Call_method m.base m.few m.line PySem.F.plainAttrs_dict PySem.F.slot_dict_pop PySem.F.type_dict_pop (thn (ho pins s σ H _ I h) fun u s1 ⟨x, H1, I1, rx, a, ex, d, q1⟩ => ?_)
  subst ex
  obtain rfl : u = Value.ref a := rx
  obtain ⟨t1, t2, _⟩ := isD_at I1 d
  refine ⟨t1, t2, ?_⟩
  rw [m.trees]
  refine Calls.callWith_builtin rfl (Calls.evalArgs_plain (Calls.spliced_cons (thn (he pins s1 σ H1 _ I1 q1) fun iv s2 ⟨y, H2, I2, ry, kvs, k, v, ea, ey, l, q2⟩ => Calls.spliced_nil ?_)))
  subst ey
  exact d_pop I2 ea ry l (.inl rfl) fun w' s3 I3 rw' => ⟨v, _, I3, rw', q2⟩
theorem pe_dpop2 (ho : PE X o td) (he : PE X e ty) (hf : PE X f tx) (m : M2 X o "pop" apos e f cpos) : PE X (.Call (.Attribute o "pop" apos) [e, f] [] cpos) (tDPop2 td ty tx) := by
  intro pins s σ H Q I h
  refine wpAny_Call_method m.base m.few m.line PySem.F.plainAttrs_dict PySem.F.slot_dict_pop PySem.F.type_dict_pop (thn (ho pins s σ H _ I h) fun u s1 ⟨x, H1, I1, rx, a, ex, d, q1⟩ => ?_)
  subst ex
  obtain rfl : u = Value.ref a := rx
  obtain ⟨t1, t2, _⟩ := isD_at I1 d
  refine ⟨t1, t2, ?_⟩
  rw [m.trees]
  refine Calls.callWith_builtin rfl (Calls.evalArgs_plain (Calls.spliced_cons (thn (he pins s1 σ H1 _ I1 q1) fun iv s2 ⟨y, H2, I2, ry, q2⟩ =>
    Calls.spliced_cons (thn (hf pins s2 σ H2 _ I2 q2) fun fv s3 ⟨z, H3, I3, rz, kvs, k, ea, ey, q3, q4⟩ => Calls.spliced_nil ?_))))
  subst ey
  cases l : valV kvs k with
  | some v => exact d_pop I3 ea ry l (.inr ⟨fv, rfl⟩) fun w' s4 I4 rw' => ⟨v, _, I4, rw', q3 v l⟩
  | none => exact d_popD I3 ea ry l fun s4 I4 => ⟨z, H3, I4, rz, q4 l⟩
end

/-! ### dict(d): a copy -/
section
variable {X : Cx} {pins : List (Addr × Obj)} {σ : St} {H : Hp} {s : Shared} {a : Addr} {kvs : List (Key × V)} {A : Around} {E : Value → Shared → Prop}
theorem d_copyOf {Q : Value → Shared → Prop} (I : Inv X pins σ H s) (e : Rd H a (.dK kvs)) (h : ∀ p s', H p = none → Inv X pins σ (upd H p (.dK kvs)) s' → Q (.ref p) s') : wpAny (model X.prog X.w) A (call (.type "dict") [.ref a]) Q E s := by
  obtain ⟨z, hd, vs, rel, dd⟩ := dk_rd I.hok e
  refine kt_call_dict hd dd (by rw [← rel.length]; exact z) fun h' dd' hs => ?_
  refine h _ _ (I.hok.fresh (Nat.le_refl _)) (I.laid (a := s.heap.objs.size) (o := .dK kvs) (t' := s.toks) (fun b q hq => ?_) (Nat.le_refl _) (dk_new z (beq_eq_false_iff_ne.mpr (Ne.symm (Nat.ne_of_lt I.big))) rel dd'))
  exact (hs.2 b (Nat.ne_of_lt (Heap.lt_size hq))).trans (Heap.get?_push_of_some _ hq)
end


section
variable {X : Cx} {pins : List (Addr × Obj)} {σ : St} {H : Hp} {s : Shared} {a : Addr} {y : V} {u : Value} {A : Around} {E : Value → Shared → Prop}
/-- d[y], not there: a KeyError -/
theorem d_missing {Q : Value → Shared → Prop} (hu : A.units + 1 < cLine) (hh : A.handled = none) (I : Inv X pins σ H s) (g : DGet H a y none) (ry : RelV y u)
    (h : ∀ h' e t', Heap.NewExc s.heap h' e "KeyError" → E (.ref e) { s with heap := h', toks := t' }) : wpAny (model X.prog X.w) A (getItem (.ref a) u) Q E s := by
  rcases g with ⟨kvs, k, e, ey, l⟩ | ⟨kvs, k, b, e, ey, eb, l⟩
  · subst ey
    obtain ⟨z, hd, vs, rel, dd⟩ := dk_rd I.hok e
    have hn : valueAt vs k = none := RelO.none_of (by rw [l]; exact rel.val k)
    exact wpAny_getItem_missing_of (kV_is ry) hd hh dd.mapOf hn fun h' ex ne => h h' ex _ ne
  · subst ey
    cases (show u = Value.ref b from ry)
    obtain ⟨z, hd, xs, rel, dd⟩ := dt_rd I.hok e
    have hn : (atKey xs k).map (·.2) = none := RelO.none_of (by rw [l]; exact rel.val k)
    exact wpAny_getItem_missing_heap (tupleKind_room_in1 hu) (key_of I.hok eb) hd hh dd (Option.map_eq_none_iff.mp hn) fun h' ex ne => h h' ex _ ne
end
end L2

namespace HT
open PySem PyProof.Rows

/-- t < u of tuples of ints -/
def lexLt : List Int → List Int → Bool
  | [], [] => false
  | [], _ :: _ => true
  | _ :: _, [] => false
  | x :: xs, y :: ys => if x = y then lexLt xs ys else decide (x < y)
theorem lexLt_cons (x y : Int) (xs ys : List Int) : lexLt (x :: xs) (y :: ys) = if x = y then lexLt xs ys else decide (x < y) := rfl
theorem lexLt_nil_nil : lexLt [] [] = false := rfl
theorem lexLt_nil_cons (y : Int) (ys : List Int) : lexLt [] (y :: ys) = true := rfl
theorem lexLt_cons_nil (x : Int) (xs : List Int) : lexLt (x :: xs) [] = false := rfl

theorem eqAt_int (A : Around) (s : Shared) (a : Int) (t : Tok) (c : Int) (u : Tok) : ∃ e, SeqAt.EqAt A s (.int a t) (.int c u) e ∧ (e = true ↔ a = c) :=
  ⟨(a == c), SeqAt.EqAt.int_int a t c u, by simp⟩
theorem rcLt_int (A : Around) (s : Shared) (a : Int) (t : Tok) (c : Int) (u : Tok) (prog : Program) (w : World) (E : Value → Shared → Prop) (Q : Value → Shared → Prop) (h : Q (.bool (decide (a < c))) s) :
    wpAny (model prog w) A (richCompare .Lt (.int a t) (.int c u)) Q E s :=
  (PyProof.Rows.lt_int h : wpAny (model prog w) A (compareOp .Lt (.int a t) (.int c u)) Q E s)

section
open PySem.SeqAt
open PySem.AutoSeq1 (wpAny_loadPart')
open PySem.MeetsSeq PySem.MeetsSeq2 PySem.MeetsSeq3

theorem tuple_lt_ints (l b : Addr) (items items2 : Array Value) (n n2 : Nat) (dd dd2 : Option Addr) (sl sl2 : Array (Option Value)) (ns ms : List Int) (hi : IntsAre items.toList ns) (hj : IntsAre items2.toList ms) :
    Meets (Builtin.«tuple.__lt__» ⟨[.ref l, .ref b], []⟩)
      (fun _ R s => s.heap.get? l = some { cls := .type "tuple", dict := dd, data := .seq items n, slots := sl } ∧ s.heap.get? b = some { cls := .type "tuple", dict := dd2, data := .seq items2 n2, slots := sl2 } ∧
        R (.ok (.ret (.bool (lexLt ns ms)))) s) :=
  .of_wp fun prog w A R s h => by
    obtain ⟨hp, g, d, tk, os⟩ := s; obtain ⟨hl, hb, h⟩ := h
    have f2 := AutoSeq1.sub_tuple_tuple
    have z1 : items.size = ns.length := by rw [← hi.length]; simp
    have z2 : items2.size = ms.length := by rw [← hj.length]; simp
    wp_walk using wpAny_loadPart' hl, wpAny_loadPart' hb, wpAny_forIn_list _ (fun rest b s' => b.1 = none ∧ s' = ⟨hp, g, d, tk, os⟩ ∧ ∃ (vs ws : List Value) (ns' ms' : List Int), rest = vs.zip ws ∧
      IntsAre vs ns' ∧ IntsAre ws ms' ∧ ns'.length + items2.size = ms'.length + items.size ∧ R (.ok (.ret (.bool (lexLt ns' ms')))) ⟨hp, g, d, tk, os⟩) _
    case turn =>
      rintro ⟨y, x⟩ rest b s' ⟨hb', rfl, vs, ws, ns', ms', hz, hvi, hwi, hlen, hR⟩
      cases hvi with
      | nil => rw [List.zip_nil_left] at hz; cases hz
      | cons a t hvi' =>
        cases hwi with
        | nil => rw [List.zip_nil_right] at hz; cases hz
        | cons c u hwi' =>
          rw [List.zip_cons_cons] at hz
          injection hz with hyx hrest
          injection hyx with hy hx
          subst hy hx
          rw [lexLt_cons] at hR
          simp only [List.length_cons] at hlen
          obtain ⟨e, he, hiff⟩ := eqAt_int A.in1 ⟨hp, g, d, tk, os⟩ a t c u
          refine wpAny_bind (he prog w _ _ ?_)
          cases e with
          | true =>
            rw [if_pos (hiff.mp rfl)] at hR
            wp_walk
            exact ⟨rfl, rfl, _, _, _, _, hrest, hvi', hwi', by omega, hR⟩
          | false =>
            rw [if_neg (fun q => absurd (hiff.mpr q) Bool.false_ne_true)] at hR
            have hri := rcLt_int A.in1 ⟨hp, g, d, tk, os⟩ a t c u prog w
            wp_walk using hri
            exact ⟨_, rfl, by simpa using hR⟩
    case fin =>
      rintro ⟨b1, b2⟩ s' ⟨hb', rfl, vs, ws, ns', ms', hz, hvi, hwi, hlen, hR⟩
      simp only at hb'
      subst hb'
      have hv : lexLt ns' ms' = decide (items.size < items2.size) := by
        cases hvi with
        | nil =>
          cases hwi with
          | nil =>
            simp only [List.length_nil] at hlen
            rw [lexLt_nil_nil]
            exact (decide_eq_false (by omega)).symm
          | cons c u hw =>
            simp only [List.length_nil, List.length_cons] at hlen
            rw [lexLt_nil_cons]
            exact (decide_eq_true (by omega)).symm
        | cons a t hv =>
          cases hwi with
          | nil =>
            simp only [List.length_nil, List.length_cons] at hlen
            rw [lexLt_cons_nil]
            exact (decide_eq_false (by omega)).symm
          | cons c u hw =>
            rw [List.zip_cons_cons] at hz
            cases hz
      rw [hv] at hR
      wp_walk
      exact ⟨_, rfl, by simpa [Builtin.Tuple.tupleCompareSizes] using hR⟩
    case h =>
      exact ⟨rfl, rfl, items.toList, items2.toList, ns, ms, rfl, hi, hj, by omega, h⟩
end

section
variable {prog : Program} {w : World} {A : Around} {E : Value → Shared → Prop} {s : Shared}

theorem lt_tupInts {l b : Addr} {items items2 : Array Value} {ns ms : List Int} {Q : Value → Shared → Prop} (hl : IsTup s.heap l items) (hb : IsTup s.heap b items2) (hi : IntsAre items.toList ns) (hj : IntsAre items2.toList ms)
    (hu : A.units < cLine) (h : Q (.bool (lexLt ns ms)) s) : wpAny (model prog w) A (compareOp .Lt (.ref l) (.ref b)) Q E s := by
  obtain ⟨⟨cls, dd, data, sl⟩, ho, hc, n, hd⟩ := id hl
  obtain ⟨⟨cls2, dd2, data2, sl2⟩, ho2, hc2, n2, hd2⟩ := id hb
  simp only at hc hd hc2 hd2
  subst hc hd hc2 hd2
  exact richCompare_meets_room (op := .Lt) ⟨_, ho, rfl⟩ ⟨_, ho2, rfl⟩ PySem.F.slot_tuple_lt PySem.F.entry_tuple_lt (PySem.F.args_tuple_lt_2 _ _) (tuple_lt_ints l b items items2 n n2 dd dd2 sl sl2 ns ms hi hj)
    ⟨ho, ho2, show Value.bool (lexLt ns ms) ≠ Value.notImplemented ∧ Q (.bool (lexLt ns ms)) s from ⟨(fun x => nomatch x), h⟩⟩ hu

/-- t + u, t not empty -/
theorem cat_tup {t b : Addr} {vs ws : List Value} {Q : Value → Shared → Prop} (ht : IsTup s.heap t vs.toArray) (hb : IsTup s.heap b ws.toArray) (hv : vs ≠ [])
    (h1 : ws = [] → Q (.ref t) s) (h2 : ws ≠ [] → Q (.ref s.heap.objs.size) { s with heap := s.heap.push { cls := .type "tuple", data := .seq (vs ++ ws).toArray } })
    (hsz : vs.length + ws.length ≤ sizeLine) : wpAny (model prog w) A (binaryOp .Add (.ref t) (.ref b)) Q E s := by
  obtain ⟨⟨cls, dd, data, sl⟩, ho, hc, n, hd⟩ := id ht
  obtain ⟨⟨cls2, dd2, data2, sl2⟩, ho2, hc2, n2, hd2⟩ := id hb
  simp only at hc hd hc2 hd2
  subst hc hd hc2 hd2
  have e : vs.toArray ++ ws.toArray = (vs ++ ws).toArray := by simp
  by_cases hw : ws = []
  · exact concat_meets ⟨_, ho, rfl⟩ ⟨_, ho2, rfl⟩ noFill_tuple_add seq_tuple_add PySem.F.slot_tuple_add PySem.F.entry_tuple_add (PySem.F.args_tuple_add_2 _ _)
      (tuple_addW1 t b vs.toArray ws.toArray n n2 dd dd2 sl sl2 (by simpa using hv) (by simp [hw])) ⟨ho, ho2, h1 hw⟩
  · refine concat_meets ⟨_, ho, rfl⟩ ⟨_, ho2, rfl⟩ noFill_tuple_add seq_tuple_add PySem.F.slot_tuple_add PySem.F.entry_tuple_add (PySem.F.args_tuple_add_2 _ _)
      (tuple_addW2 t b vs.toArray ws.toArray n n2 dd dd2 sl sl2 (by simpa using hv) (by simpa using hw) (by rw [List.size_toArray, List.size_toArray]; exact hsz)) ⟨ho, ho2, ?_⟩
    rw [e]
    exact h2 hw

/-! ### t[a:b], not the whole -/
/-- a slice's bound as a place among n (d where it is left out) -/
def sIx (n d : Nat) : Option Int → Nat
  | none => d
  | some v => if v < 0 then (v + (n : Int)).toNat else min v.toNat n
theorem sIx_none (n d : Nat) : sIx n d none = d := rfl
theorem sIx_nat (n d k : Nat) : sIx n d (some (k : Int)) = min k n := by
  show (if (k : Int) < 0 then ((k : Int) + (n : Int)).toNat else min (k : Int).toNat n) = min k n
  rw [if_neg (by omega), Int.toNat_natCast]
theorem sIx_le (n d : Nat) (hd : d ≤ n) (o : Option Int) : sIx n d o ≤ n := by
  cases o with
  | none => exact hd
  | some v =>
    show (if v < 0 then (v + (n : Int)).toNat else min v.toNat n) ≤ n
    by_cases hv : v < 0
    · rw [if_pos hv]; omega
    · rw [if_neg hv]; exact Nat.min_le_right _ _
theorem clip_eq (v : Int) (n d : Nat) : (if v < 0 then max (v + (n : Int)) 0 else min v (n : Int)) = ((sIx n d (some v) : Nat) : Int) := by
  show (if v < 0 then max (v + (n : Int)) 0 else min v (n : Int)) = (((if v < 0 then (v + (n : Int)).toNat else min v.toNat n) : Nat) : Int)
  by_cases hv : v < 0
  · simp only [if_pos hv]; omega
  · simp only [if_neg hv]; omega
theorem adjust_gen (lo hi : Option Int) (n : Nat) : Builtin.Slice.sliceAdjust lo hi 1 (n : Int) = (((sIx n 0 lo : Nat) : Int), ((sIx n n hi : Nat) : Int)) := by
  have h1 : ¬ ((1 : Int) < 0) := by omega
  unfold Builtin.Slice.sliceAdjust
  simp only [h1, if_false]
  refine Prod.ext ?_ ?_
  · cases lo with
    | none => rfl
    | some v => exact clip_eq v n 0
  · cases hi with
    | none => rfl
    | some v => exact clip_eq v n n
theorem places_gen (i j : Nat) : Builtin.Slice.slicePlaces (i : Int) (j : Int) 1 = j - i := by
  unfold Builtin.Slice.slicePlaces
  have h1 : (1 : Int) > 0 := by omega
  simp only [h1, if_true, Int.ediv_one]
  split <;> omega
theorem slicePart_ {v : Value} {o : Option Int} {Q : Option Int → Shared → Prop} (p : IsPart v o) (h : Q o s) : wpAny (model prog w) A (Builtin.Slice.slicePartIndex v) Q E s := by
  cases p with
  | none => exact slicePart_none h
  | int i t => exact slicePart_int h
theorem sliceApplied_gen {sl : Addr} {vl vu : Value} {lo hi : Option Int} {n : Nat} {Q : Int × Int × Nat → Shared → Prop} (hs : s.heap.IsSliceOf sl vl vu .none) (pl : IsPart vl lo) (pu : IsPart vu hi)
    (h : Q (((sIx n 0 lo : Nat) : Int), 1, sIx n n hi - sIx n 0 lo) s) : wpAny (model prog w) A (Builtin.Slice.sliceApplied (.ref sl) (pure (n : Int))) Q E s := by
  obtain ⟨os, hos, hcs, hds⟩ := id hs
  unfold Builtin.Slice.sliceApplied Builtin.Slice.sliceFields
  refine wpAny_bind (wpAny_bind (wpAny_field hos hds (x := vl) rfl (wpAny_bind (wpAny_field hos hds (x := vu) rfl (wpAny_bind (wpAny_field hos hds (x := .none) rfl (wpAny_pure ?_)))))))
  refine wpAny_bind (slicePart_none ?_)
  show wpAny _ _ (if ((1 : Int) == 0) = true then _ else _) _ _ s
  rw [if_neg (by decide)]
  refine wpAny_bind (slicePart_ pl (wpAny_bind (slicePart_ pu (wpAny_bind (wpAny_pure ?_)))))
  show wpAny _ _ (match Builtin.Slice.sliceAdjust lo hi 1 (n : Int) with | (lo, hi) => pure (lo, (1 : Int), Builtin.Slice.slicePlaces lo hi 1)) _ _ s
  rw [adjust_gen lo hi n]
  show wpAny _ _ (pure (((sIx n 0 lo : Nat) : Int), (1 : Int), Builtin.Slice.slicePlaces ((sIx n 0 lo : Nat) : Int) ((sIx n n hi : Nat) : Int) 1)) _ _ s
  rw [places_gen]
  exact wpAny_pure h
theorem pick_gen (xs : Array Value) (i k : Nat) : ((List.range k).filterMap fun (m : Nat) => xs[((i : Int) + (m : Int) * 1).toNat]?).toArray = ((xs.toList.drop i).take k).toArray := by
  have e : (fun (m : Nat) => xs[((i : Int) + (m : Int) * 1).toNat]?) = fun m => xs[i + m]? := by
    funext m
    have : ((i : Int) + (m : Int) * 1).toNat = i + m := by omega
    rw [this]
  rw [e]
  have := pick_run xs i k
  rw [List.filterMap_map] at this
  have e2 : ((fun x => xs[x]?) ∘ fun x => i + x) = fun m => xs[i + m]? := rfl
  rw [e2] at this
  rw [this]

theorem getItem_tuple_cut {t sl : Addr} {items : Array Value} {vl vu : Value} {lo hi : Option Int} {Q : Value → Shared → Prop} (ht : IsTup s.heap t items) (hs : s.heap.IsSliceOf sl vl vu .none) (pl : IsPart vl lo) (pu : IsPart vu hi)
    (hw : ¬ (sIx items.size 0 lo = 0 ∧ sIx items.size items.size hi = items.size))
    (h : Q (.ref s.heap.objs.size) { s with heap := s.heap.push { cls := .type "tuple", data := .seq ((items.toList.drop (sIx items.size 0 lo)).take (sIx items.size items.size hi - sIx items.size 0 lo)).toArray } })
    (hsz : items.size ≤ sizeLine) : wpAny (model prog w) A (getItem (.ref t) (.ref sl)) Q E s := by
  have htake : sizeOk (.seq ((items.toList.drop (sIx items.size 0 lo)).take (sIx items.size items.size hi - sIx items.size 0 lo)).toArray) := by
    show ((items.toList.drop (sIx items.size 0 lo)).take (sIx items.size items.size hi - sIx items.size 0 lo)).toArray.size ≤ sizeLine
    rw [List.size_toArray, List.length_take, List.length_drop, Array.length_toList]
    omega
  have hj : sIx items.size items.size hi ≤ items.size := sIx_le _ _ (Nat.le_refl _) hi
  obtain ⟨os, hos, hcs, hds⟩ := id hs
  have hTs : s.TypeIs (.ref sl) "slice" := ⟨os, hos, hcs⟩
  unfold getItem
  try with_reducible refine wpAny_holding ?_
  first | refine wpAny_bind (wpAny_pure ?_) | skip
  refine wpAny_bind (wpAny_sequenceKey ht.typeIs (by decide) ?_)
  refine wpAny_bind (wpAny_callSpecial?_slot (name := Str.ofString "__getitem__") ht.typeIs PyProof.Rows.slot_tuple_getitem
    (wpAny_call_entry PyProof.Rows.slot_tuple_getitem ht.typeIs entry_tuple_getitem ?_ (args_tuple_getitem _ _)))
  show wpAny _ _ (Builtin.Tuple.tupleItemsOf (.ref t) >>= _) _ _ s
  refine wpAny_bind (tupleItemsOf_ ht ?_)
  refine wpAny_bind (wpAny_typeOf hTs ?_)
  rw [if_pos (by decide)]
  refine wpAny_bind (sliceApplied_gen hs pl pu ?_)
  have hno : ¬ ((((sIx items.size 0 lo : Nat) : Int) == 0 && (1 : Int) == 1 && (sIx items.size items.size hi - sIx items.size 0 lo) == items.size) = true) := by
    intro q
    rw [Bool.and_eq_true, Bool.and_eq_true] at q
    have q1 : ((sIx items.size 0 lo : Nat) : Int) = 0 := eq_of_beq q.1.1
    have q2 : sIx items.size items.size hi - sIx items.size 0 lo = items.size := eq_of_beq q.2
    exact hw ⟨by omega, by omega⟩
  show wpAny _ _ (if (((sIx items.size 0 lo : Nat) : Int) == 0 && (1 : Int) == 1 && (sIx items.size items.size hi - sIx items.size 0 lo) == items.size) = true then _ else _) _ _ s
  rw [if_neg hno, pick_gen]
  first
    | exact wpAny_bind (m := Builtin.Tuple.tupleExact _) (wpAny_newObj_type (wpAny_pure ⟨_, rfl, wpAny_pure h⟩) htake)
    | exact wpAny_bind (m := Builtin.Tuple.tupleExact _) (wpAny_newObj_type (wpAny_bind (wpAny_pure (wpAny_pure ⟨_, rfl, wpAny_pure h⟩))) htake)
    | exact wpAny_bind (wpAny_bind (m := Builtin.Tuple.tupleExact _) (wpAny_newObj_type (wpAny_pure (wpAny_pure ⟨_, rfl, wpAny_pure h⟩)) htake))
    | exact wpAny_bind (wpAny_bind (m := Builtin.Tuple.tupleExact _) (wpAny_newObj_type (wpAny_pure ⟨_, rfl, wpAny_pure h⟩) htake))
end
end HT

namespace L2
open PySem PySem.Spec PyProof.Rows

/-! ### the parts of a slice -/
abbrev TO := St → Hp → (Option Int → Hp → Prop) → Prop
/-- a slice's part (left out, or an int) -/
def PO (X : Cx) (e : Option Expr) (t : TO) : Prop :=
  ∀ (pins : List (Addr × Obj)) (s : Shared) (σ : St) (H : Hp) (Q : Option Int → Hp → Prop), Inv X pins σ H s → t σ H Q →
    wpAny (model X.prog X.w) X.A (evalPart e X.env) (fun u s' => ∃ o H', Inv X pins σ H' s' ∧ IsPart u o ∧ Q o H') X.xe s
def tNoPart : TO := fun _ H Q => Q none H
def tPart (t : TE) : TO := fun σ H Q => t σ H fun x H1 => ∃ i, x = .int i ∧ Q (some i) H1

theorem intsAre_of {ns : List Int} : ∀ {us : List Value}, Vals (ns.map V.int) us → IntsAre us ns := by
  induction ns with
  | nil => intro us r; rw [List.map_nil] at r; cases r; exact .nil
  | cons n ns ih =>
    intro us r
    rw [List.map_cons] at r
    cases r with
    | cons r1 r2 =>
      obtain ⟨t, e⟩ := r1
      subst e
      exact .cons n t (ih r2)

section
variable {X : Cx} {e : Expr} {te : TE} {lo hi : Option Expr} {tl th : TO} {pos p2 : Pos}

theorem po_none : PO X none tNoPart := by
  intro pins s σ H Q I h
  rw [evalPart_none]
  exact wpAny_pure ⟨none, H, I, .none, h⟩
theorem po_some (h : PE X e te) : PO X (some e) (tPart te) := by
  intro pins s σ H Q I hw
  rw [evalPart_some]
  refine thn (h pins s σ H _ I hw) fun u s1 ⟨x, H1, I1, r1, q1⟩ => ?_
  obtain ⟨i, rfl, q⟩ := q1
  obtain ⟨t, rfl⟩ := r1
  exact ⟨some i, H1, I1, .int i t, q⟩

/-- what a slice of a value is, by values: the slice object stands at sl -/
def SlR (X : Cx) (r : V → Option Int → Option Int → Hp → VK → Prop) : Prop :=
  ∀ (pins : List (Addr × Obj)) (s : Shared) (σ : St) (H : Hp) (x : V) (v vl vu : Value) (lo hi : Option Int) (sl : Addr) (Q : VK), Inv X pins σ H s → RelV x v → s.heap.IsSliceOf sl vl vu .none → IsPart vl lo → IsPart vu hi → r x lo hi H Q →
    ∃ T id, typeLookup (.type T) "__getitem__" = pure (some (.builtin id)) ∧ s.TypeIs v T ∧ wpAny (model X.prog X.w) X.A (getItem v (.ref sl)) (EP X pins σ Q) X.xe s
theorem SlR.or {r r' : V → Option Int → Option Int → Hp → VK → Prop} (h : SlR X r) (h' : SlR X r') : SlR X (fun x lo hi H Q => r x lo hi H Q ∨ r' x lo hi H Q) := by
  intro pins s σ H x v vl vu lo hi sl Q I rx hs pl pu q
  rcases q with q | q
  · exact h pins s σ H x v vl vu lo hi sl Q I rx hs pl pu q
  · exact h' pins s σ H x v vl vu lo hi sl Q I rx hs pl pu q
def tSl (r : V → Option Int → Option Int → Hp → VK → Prop) (te : TE) (tl th : TO) : TE := fun σ H Q => te σ H fun x H1 => tl σ H1 fun l H2 => th σ H2 fun u H3 => r x l u H3 Q
/-- a[lo:hi], any a -/
theorem pe_slice {r : V → Option Int → Option Int → Hp → VK → Prop} (hr : SlR X r) (he : PE X e te) (hl : PO X lo tl) (hu : PO X hi th) : PE X (.Subscript e (.Slice lo hi none p2) pos) (tSl r te tl th) := by
  intro pins s σ H Q I h
  refine Subscript_ (thn (he pins s σ H _ I h) fun v s1 ⟨x, H1, I1, r1, q1⟩ => ?_)
  refine wpAny_Slice (thn (hl pins s1 σ H1 _ I1 q1) fun vl s2 ⟨l, H2, I2, pl, q2⟩ => thn (hu pins s2 σ H2 _ I2 q2) fun vu s3 ⟨u, H3, I3, pu, q3⟩ => ?_)
  rw [evalPart_none]
  refine wpAny_pure ?_
  have I4 : Inv X pins σ H3 { s3 with heap := s3.heap.push { cls := .type "slice", data := .fields #[vl, vu, .none] } } := I3.kept (t' := s3.toks) fun b ob q => Heap.get?_push_of_some _ q
  obtain ⟨T, id, hT, ht, hg⟩ := hr pins { s3 with heap := s3.heap.push { cls := .type "slice", data := .fields #[vl, vu, .none] } } σ H3 x v vl vu l u s3.heap.objs.size Q I4 r1 (Heap.IsSliceOf.new ..) pl pu q3
  show wpAny (model X.prog X.w) X.A (subscriptTail e (.Slice lo hi none p2) v (.ref s3.heap.objs.size)) (EP X pins σ Q) X.xe { s3 with heap := s3.heap.push { cls := .type "slice", data := .fields #[vl, vu, .none] } }
  exact tail_any (ops := [.ref s3.heap.objs.size, v]) ht hT hg (by with_unfolding_all rfl)

/-- the items of xs[lo:hi] -/
def cutV (xs : List V) (lo hi : Option Int) : List V := (xs.drop (HT.sIx xs.length 0 lo)).take (HT.sIx xs.length xs.length hi - HT.sIx xs.length 0 lo)
theorem cutV_length (xs : List V) (lo hi : Option Int) : (cutV xs lo hi).length ≤ xs.length := by
  unfold cutV
  rw [List.length_take, List.length_drop]
  omega
/-- t[lo:hi], not the whole of it (the whole would be t itself) -/
def rSlT (K : PySem.W.Frag) : V → Option Int → Option Int → Hp → VK → Prop := fun x lo hi H Q => ∃ a xs, x = .ref a ∧ SqT K H a xs ∧
  ¬ (HT.sIx xs.length 0 lo = 0 ∧ HT.sIx xs.length xs.length hi = xs.length) ∧ ∀ p, H p = none → Q (.ref p) (upd H p (.tup (cutV xs lo hi)))
theorem sl_tup : SlR X (rSlT X.K) := by
  intro pins s σ H x v vl vu lo hi sl Q I rx hs pl pu h
  obtain ⟨a, xs, rfl, hx, hw, q⟩ := h
  cases rx
  obtain ⟨its, r, ht, hz⟩ := I.tuple hx
  have hlen : its.toArray.size = xs.length := by rw [List.size_toArray]; exact r.length.symm
  refine ⟨"tuple", _, PyProof.Rows.slot_tuple_getitem.lookup, ht.typeIs, ?_⟩
  refine HT.getItem_tuple_cut ht hs pl pu (by rw [hlen]; exact hw) ?_ (by rw [hlen]; exact hz)
  rw [hlen]
  refine ⟨.ref s.heap.objs.size, _, I.laid (t' := s.toks) (o := .tup (cutV xs lo hi)) (fun b ob q => Heap.get?_push_of_some _ q) (Nat.le_refl _) ?_, rfl, q _ (I.hok.fresh (Nat.le_refl _))⟩
  exact ⟨Nat.le_trans (cutV_length xs lo hi) hz, _, (r.drop (HT.sIx xs.length 0 lo)).take (HT.sIx xs.length xs.length hi - HT.sIx xs.length 0 lo), IsTup.new _ _⟩

/-! ### t < u, t + u -/
def rLtT (K : PySem.W.Frag) : R2 := fun x y H Q => ∃ a b ns ms, x = .ref a ∧ y = .ref b ∧ SqT K H a (ns.map V.int) ∧ SqT K H b (ms.map V.int) ∧ Q (.bl (HT.lexLt ns ms)) H
theorem op_ltT (hu : X.A.units < cLine) : OpR X (compareOp .Lt) (rLtT X.K) := by
  intro pins s σ H x y v u Q I rx ry h
  obtain ⟨a, b, ns, ms, rfl, rfl, ha, hb, q⟩ := h
  cases rx
  cases ry
  obtain ⟨its, r1, p1, _⟩ := I.tuple ha
  obtain ⟨its2, r2, p2, _⟩ := I.tuple hb
  have i1 : IntsAre its.toArray.toList ns := intsAre_of r1
  have i2 : IntsAre its2.toArray.toList ms := intsAre_of r2
  exact HT.lt_tupInts p1 p2 i1 i2 hu ⟨.bl (HT.lexLt ns ms), H, I, rfl, q⟩
/-- t + u, t not empty: u empty gives t itself -/
def rCatT (K : PySem.W.Frag) : R2 := fun x y H Q => ∃ a b xs ys, x = .ref a ∧ y = .ref b ∧ SqT K H a xs ∧ SqT K H b ys ∧ xs ≠ [] ∧ xs.length + ys.length ≤ sizeLine ∧
  (ys = [] → Q (.ref a) H) ∧ (ys ≠ [] → ∀ p, H p = none → Q (.ref p) (upd H p (.tup (xs ++ ys))))
theorem Vals.nil_iff {xs : List V} {us : List Value} (r : Vals xs us) : us = [] ↔ xs = [] := by
  cases r with
  | nil => simp
  | cons _ _ => simp
theorem op_catT : OpR X (binaryOp .Add) (rCatT X.K) := by
  intro pins s σ H x y v u Q I rx ry h
  obtain ⟨a, b, xs, ys, rfl, rfl, ha, hb, hx, hz, q1, q2⟩ := h
  cases rx
  cases ry
  obtain ⟨its, r1, p1, _⟩ := I.tuple ha
  obtain ⟨its2, r2, p2, _⟩ := I.tuple hb
  refine HT.cat_tup p1 p2 (fun z => hx (r1.nil_iff.mp z)) (fun z => ⟨.ref a, H, I, rfl, q1 (r2.nil_iff.mp z)⟩) (fun z => ?_) (by rw [← r1.length, ← r2.length]; exact hz)
  refine ⟨.ref s.heap.objs.size, _, I.laid (t' := s.toks) (o := .tup (xs ++ ys)) (fun b ob q => Heap.get?_push_of_some _ q) (Nat.le_refl _) ?_, rfl, q2 (fun w => z (r2.nil_iff.mpr w)) _ (I.hok.fresh (Nat.le_refl _))⟩
  exact ⟨by rw [List.length_append]; exact hz, _, r1.append r2, IsTup.new _ _⟩
/-- tuple(t) -/
theorem call_tupleT : CallR X (.type "tuple") (fun xs H Q => ∃ a ys, xs = [.ref a] ∧ SqT X.K H a ys ∧ Q (.ref a) H) := by
  intro pins s σ H xs us Q I r h
  obtain ⟨a, ys, rfl, ha, q⟩ := h
  obtain ⟨u, rfl, ru⟩ := vals1 r
  cases ru
  obtain ⟨its, _, p1, _⟩ := I.tuple ha
  exact call_tuple_same (items := its.toArray) p1 ⟨.ref a, H, I, rfl, q⟩
end
end L2

namespace L2
open PySem PySem.Spec PyProof.Rows

/-! ### places -/
/-- the place that an index of any sign means -/
def ixN (n : Nat) (i : Int) : Option Nat := if 0 ≤ i then (if i < n then some i.toNat else none) else if -(n : Int) ≤ i then some (i + n).toNat else none
def atI {α : Type} (xs : List α) (i : Int) : Option α := (ixN xs.length i).bind fun j => xs[j]?
theorem ixN_seq {n : Nat} {i : Int} {j : Nat} (h : ixN n i = some j) : seqIndex? i n = some j ∧ j < n ∧ -(n : Int) ≤ i ∧ i < n := by
  unfold ixN at h
  by_cases h0 : 0 ≤ i
  · rw [if_pos h0] at h
    by_cases h1 : i < n
    · rw [if_pos h1] at h
      have e : i.toNat = j := Option.some.inj h
      exact ⟨by rw [seqIndex_of h0 h1, e], by omega, by omega, h1⟩
    · rw [if_neg h1] at h; cases h
  · rw [if_neg h0] at h
    by_cases h1 : -(n : Int) ≤ i
    · rw [if_pos h1] at h
      have e : (i + n).toNat = j := Option.some.inj h
      exact ⟨by rw [seqIndex_neg (by omega) h1, e], by omega, h1, by omega⟩
    · rw [if_neg h1] at h; cases h
theorem atI_get {α : Type} {xs : List α} {i : Int} {v : α} (h : atI xs i = some v) : ∃ j, seqIndex? i xs.length = some j ∧ xs[j]? = some v ∧ j < xs.length ∧ -(xs.length : Int) ≤ i ∧ i < xs.length := by
  unfold atI at h
  cases e : ixN xs.length i with
  | none => rw [e] at h; cases h
  | some j =>
    rw [e] at h
    obtain ⟨h1, h2, h3, h4⟩ := ixN_seq e
    exact ⟨j, h1, h, h2, h3, h4⟩
theorem atI_nat {α : Type} {xs : List α} {j : Nat} {v : α} (h : xs[j]? = some v) : atI xs (j : Int) = some v := by
  have hj : j < xs.length := (List.getElem?_eq_some_iff.mp h).1
  have e : ixN xs.length (j : Int) = some j := by
    unfold ixN
    rw [if_pos (by omega), if_pos (by omega)]; simp
  unfold atI; rw [e]; exact h
theorem atI_last {α : Type} (xs : List α) (v : α) : atI (xs ++ [v]) (-1) = some v := by
  have hl : (xs ++ [v]).length = xs.length + 1 := by simp
  have e : ixN (xs ++ [v]).length (-1) = some xs.length := by
    unfold ixN
    rw [hl, if_neg (by decide), if_pos (by omega)]
    congr 1
    omega
  unfold atI
  rw [e]
  show (xs ++ [v])[xs.length]? = some v
  simp

/-! ### what may be subscripted -/
/-- what stands as an index of a plain subscript -/
def PlainIx (b : Expr) : Prop := ∀ o i, subscripted b false o i = operate [o, i] (getItem o i)
/-- a subscript by values -/
def IxR (X : Cx) (r : R2) : Prop :=
  ∀ (value slice : Expr) (pins : List (Addr × Obj)) (s : Shared) (σ : St) (H : Hp) (x y : V) (v u : Value) (Q : VK), Inv X pins σ H s → RelV x v → RelV y u → r x y H Q →
    subscripted slice false v u = operate [v, u] (getItem v u) → wpAny (model X.prog X.w) X.A (subscriptTail value slice v u) (EP X pins σ Q) X.xe s
/-- a call of a builtin's method by values: the receiver, the arguments -/
def MtR (X : Cx) (id : String) (r : V → List V → Hp → VK → Prop) : Prop :=
  ∀ (pins : List (Addr × Obj)) (s : Shared) (σ : St) (H : Hp) (x : V) (xs : List V) (v : Value) (us : List Value) (Q : VK), Inv X pins σ H s → RelV x v → Vals xs us → r x xs H Q →
    wpAny (model X.prog X.w) X.A (call (.builtin id) (v :: us)) (EP X pins σ Q) X.xe s
section
variable {X : Cx} {a b : Expr} {ta tb : TE} {pos : Pos}
theorem IxR.or {r r' : R2} (h : IxR X r) (h' : IxR X r') : IxR X (fun x y H Q => r x y H Q ∨ r' x y H Q) := by
  intro value slice pins s σ H x y v u Q I rx ry q hs
  rcases q with q | q
  · exact h value slice pins s σ H x y v u Q I rx ry q hs
  · exact h' value slice pins s σ H x y v u Q I rx ry q hs
theorem MtR.or {id : String} {r r' : V → List V → Hp → VK → Prop} (h : MtR X id r) (h' : MtR X id r') : MtR X id (fun x xs H Q => r x xs H Q ∨ r' x xs H Q) := by
  intro pins s σ H x xs v us Q I rx rs q
  rcases q with q | q
  · exact h pins s σ H x xs v us Q I rx rs q
  · exact h' pins s σ H x xs v us Q I rx rs q
/-- a[b] -/
theorem pe_ix {r : R2} (hr : IxR X r) (ha : PE X a ta) (hb : PE X b tb) (hs : PlainIx b) : PE X (.Subscript a b pos) (tOp r ta tb) := by
  intro pins s σ H Q I h
  exact Subscript_ (binT ha hb I h fun v u s2 x y H2 I2 rx ry q => hr a b pins s2 σ H2 x y v u Q I2 rx ry q (hs _ _))

def rIxL (K : PySem.W.Frag) : R2 := fun x y H Q => ∃ p xs i v, x = .ref p ∧ y = .int i ∧ SqL K H p xs ∧ atI xs i = some v ∧ Q v H
def rIxT (K : PySem.W.Frag) : R2 := fun x y H Q => ∃ p xs i v, x = .ref p ∧ y = .int i ∧ SqT K H p xs ∧ atI xs i = some v ∧ Q v H
def rIxS : R2 := fun x y H Q => ∃ z i c, x = .str z ∧ y = .int i ∧ z.length ≤ sizeLine ∧ atI z.cps.toList i = some c ∧ Q (.str ⟨#[c]⟩) H
theorem ix_list : IxR X (rIxL X.K) := by
  intro value slice pins s σ H x y v u Q I rx ry h hs
  obtain ⟨p, xs, i, z, rfl, rfl, hq, he, q⟩ := h
  cases rx
  obtain ⟨t, rfl⟩ := ry
  obtain ⟨its, r, pl, hz⟩ := I.list hq
  obtain ⟨j, h1, h2, h3, h4, h5⟩ := atI_get he
  obtain ⟨w, ew, rw'⟩ := r.get h2
  have hl := r.length
  have hn := line63
  have fin : EP X pins σ Q w s := ⟨z, H, I, rw', q⟩
  by_cases h0 : 0 ≤ i
  · have hj : i.toNat = j := by
      rw [seqIndex_of h0 h5] at h1
      exact Option.some.inj h1
    exact item_listR pl.isList h0 (by omega) (by rw [hj]; simpa using ew) fin hs
  · have hj : (i + (its.toArray.size : Int)).toNat = j := by
      rw [seqIndex_neg (by omega) h4] at h1
      rw [List.size_toArray, ← hl]
      exact Option.some.inj h1
    exact subscriptTail_builtinR (x := w) pl.isList.typeIs slot_list_getitem.lookup
      (wpAny_getItem_list_neg (Q := fun r s' => r = w ∧ EP X pins σ Q r s') pl.isList (by omega) (by rw [List.size_toArray] <;> omega) (by omega) (by rw [hj]; simpa using ew) ⟨rfl, fin⟩) hs
theorem ix_tup : IxR X (rIxT X.K) := by
  intro value slice pins s σ H x y v u Q I rx ry h hs
  obtain ⟨p, xs, i, z, rfl, rfl, hq, he, q⟩ := h
  cases rx
  obtain ⟨t, rfl⟩ := ry
  obtain ⟨its, r, pl, hz⟩ := I.tuple hq
  obtain ⟨j, h1, h2, h3, h4, h5⟩ := atI_get he
  obtain ⟨w, ew, rw'⟩ := r.get h2
  have hl := r.length
  have hn := line63
  have fin : EP X pins σ Q w s := ⟨z, H, I, rw', q⟩
  exact subscriptTail_builtinR (x := w) pl.typeIs slot_tuple_getitem.lookup
    (getItem_tuple (j := j) (Q := fun r s' => r = w ∧ EP X pins σ Q r s') pl (by omega) (by omega) (by rw [List.size_toArray, ← hl]; exact h1) (by simpa using ew) ⟨rfl, fin⟩) hs
theorem ix_str : IxR X rIxS := by
  intro value slice pins s σ H x y v u Q I rx ry h hs
  obtain ⟨z, i, c, rfl, rfl, hz, he, q⟩ := h
  obtain ⟨t, rfl⟩ := rx
  obtain ⟨t', rfl⟩ := ry
  obtain ⟨j, h1, h2, h3, h4, h5⟩ := atI_get he
  have hl : z.cps.toList.length = z.length := by simp [Str.length]
  rw [hl] at h1 h4 h5
  have hn := line63
  exact tail_any (typeIs_str s z t) slot_str_getitem.lookup (getItem_str (c := c) (by
    have e1 : decide (i < -(2 ^ 63 : Int)) = false := decide_eq_false (by omega)
    have e2 : decide (i ≥ 2 ^ 63) = false := decide_eq_false (by omega)
    rw [e1, e2, Bool.or_false]) (by rw [h1]; simpa using h2) ⟨.str ⟨#[c]⟩, H, I.tok _, ⟨_, rfl⟩, q⟩) hs
/-- list, tuple or str -/
def rIx (K : PySem.W.Frag) : R2 := fun x y H Q => rIxL K x y H Q ∨ rIxT K x y H Q ∨ rIxS x y H Q
theorem ix_seq : IxR X (rIx X.K) := ix_list.or (ix_tup.or ix_str)

/-! ### xs[i] = v, any sign -/
/-- the list's object behind a store -/
theorem mapSeq_set (its : List Value) (n j : Nat) (u : Value) : Obj.mapSeq (·.setIfInBounds j u) { cls := .type "list", data := .seq its.toArray n } = { cls := .type "list", data := .seq (its.set j u).toArray n } := by
  simp [Obj.mapSeq]
theorem Inv.lst {pins : List (Addr × Obj)} {σ : St} {H : Hp} {s : Shared} {p : Addr} {xs : List V} (I : Inv X pins σ H s) (h : H p = some (.lst xs)) :
    ∃ (its : List Value) (n : Nat), Vals xs its ∧ s.heap.get? p = some { cls := .type "list", data := .seq its.toArray n } ∧ xs.length ≤ sizeLine := by
  obtain ⟨z, its, n, r, e⟩ := I.hok p _ h
  exact ⟨its, n, r, e, z⟩
/-- the list at p is written by an update of its object -/
theorem Inv.lstUpd {pins : List (Addr × Obj)} {σ : St} {H : Hp} {s : Shared} {p : Addr} {xs ys : List V} {its its' : List Value} {n n' : Nat} {f : Obj → Obj} (I : Inv X pins σ H s) (h : H p = some (.lst xs))
    (ho : s.heap.get? p = some { cls := .type "list", data := .seq its.toArray n }) (hf : f { cls := .type "list", data := .seq its.toArray n } = { cls := .type "list", data := .seq its'.toArray n' }) (r : Vals ys its') (hz : ys.length ≤ sizeLine) (t : Nat) :
    Inv X pins σ (upd H p (.lst ys)) { s with heap := s.heap.update p f, toks := t } := by
  have e : (s.heap.update p f).get? p = some { cls := .type "list", data := .seq its'.toArray n' } := by
    rw [Heap.get?_update_self f ho (by rw [hf] <;> rfl), hf]
  refine I.write (x := p) (e := p) (by rw [h]; trivial) (.inl rfl) (fun b u hb q => (Heap.get?_update_other _ _ (Ne.symm hb)).trans q) ⟨_, e⟩ ?_
  exact ⟨hz, its', n', r, e⟩
def rSetL : V → V → V → Hp → (Hp → Prop) → Prop := fun o i v H Q => ∃ p xs k j, o = .ref p ∧ i = .int k ∧ H p = some (.lst xs) ∧ ixN xs.length k = some j ∧ Q (upd H p (.lst (xs.set j v)))
theorem set_list : PSet X rSetL := by
  intro pins s σ H o i v ov iv u Q I ro ri rv h
  obtain ⟨p, xs, k, j, rfl, rfl, hp, hj, q⟩ := h
  cases ro
  obtain ⟨t, rfl⟩ := ri
  obtain ⟨its, n, r, ho, hz⟩ := I.lst hp
  obtain ⟨h1, h2, h3, h4⟩ := ixN_seq hj
  have hl := r.length
  have hn := line63
  have I' : Inv X pins σ (upd H p (.lst (xs.set j v))) { s with heap := s.heap.update p (Obj.mapSeq (·.setIfInBounds j u)) } :=
    I.lstUpd hp ho (mapSeq_set its n j u) (r.set rv j) (by rw [List.length_set]; exact hz) s.toks
  by_cases h0 : 0 ≤ k
  · have hk : k.toNat = j := by
      rw [seqIndex_of h0 h4] at h1
      exact Option.some.inj h1
    exact PySem.W.ki_setAt ho h0 (by omega) (by rw [List.size_toArray, ← hl]; exact h4) (by rw [hk]; exact ⟨_, I', q⟩)
  · have hk : (k + (its.toArray.size : Int)).toNat = j := by
      rw [seqIndex_neg (by omega) h3] at h1
      rw [List.size_toArray, ← hl]
      exact Option.some.inj h1
    exact PySem.W.ki_setBack ho (by omega) (by rw [List.size_toArray, ← hl]; exact h3) (by omega) (by rw [hk]; exact ⟨_, I', q⟩)

/-! ### slices -/
theorem slice_bounds (lo hi : Option Int) (n : Nat) : (sliceBounds lo hi none n).1 = ((HT.sIx n 0 lo : Nat) : Int) ∧ (sliceBounds lo hi none n).2.1 = ((HT.sIx n n hi : Nat) : Int) ∧ (sliceBounds lo hi none n).2.2 = 1 := by
  refine ⟨?_, ?_, rfl⟩
  · cases lo with
    | none => simp [sliceBounds, HT.sIx]
    | some i =>
      simp only [sliceBounds, HT.sIx, Option.getD_none, show (1 : Int) > 0 by decide, if_true]
      by_cases h : i < 0
      · simp only [h, if_true] <;> omega
      · simp only [h, if_false] <;> omega
  · cases hi with
    | none => simp [sliceBounds, HT.sIx]
    | some i =>
      simp only [sliceBounds, HT.sIx, Option.getD_none, show (1 : Int) > 0 by decide, if_true]
      by_cases h : i < 0
      · simp only [h, if_true] <;> omega
      · simp only [h, if_false] <;> omega
theorem slicePick_cut (its : List Value) (lo hi : Option Int) : slicePick its.toArray lo hi none = ((its.drop (HT.sIx its.length 0 lo)).take (HT.sIx its.length its.length hi - HT.sIx its.length 0 lo)).toArray := by
  obtain ⟨h1, h2, h3⟩ := slice_bounds lo hi its.toArray.size
  unfold slicePick
  rw [h1, h2, h3]
  simp only [sliceRange_one, pick_run, List.size_toArray] <;> rfl
/-- xs[lo:hi] of a list: a new list -/
def rSlL (K : PySem.W.Frag) : V → Option Int → Option Int → Hp → VK → Prop := fun x lo hi H Q => ∃ a xs, x = .ref a ∧ SqL K H a xs ∧ ∀ p, H p = none → Q (.ref p) (upd H p (.lst (cutV xs lo hi)))
theorem sl_list : SlR X (rSlL X.K) := by
  intro pins s σ H x v vl vu lo hi sl Q I rx hs pl pu h
  obtain ⟨a, xs, rfl, hx, q⟩ := h
  cases rx
  obtain ⟨its, r, ht, hz⟩ := I.list hx
  have hlen := r.length
  refine ⟨"list", _, slot_list_getitem.lookup, ht.isList.typeIs, ?_⟩
  refine wpAny_getItem_list_slice ht.isList hs pl pu .none (by simp) ?_ (by rw [List.size_toArray] <;> omega)
  rw [slicePick_cut, ← hlen]
  refine ⟨.ref s.heap.objs.size, _, I.laid (t' := s.toks) (o := .lst (cutV xs lo hi)) (fun b ob q => Heap.get?_push_of_some _ q) (Nat.le_refl _) ?_, rfl, q _ (I.hok.fresh (Nat.le_refl _))⟩
  exact ⟨Nat.le_trans (cutV_length xs lo hi) hz, _, 0, (r.drop (HT.sIx xs.length 0 lo)).take (HT.sIx xs.length xs.length hi - HT.sIx xs.length 0 lo), Heap.get?_push_size _ rfl⟩

/-! ### in, not in: flat items -/
def flatV : V → Bool
  | .non => true
  | .bl _ => true
  | .int _ => true
  | .str _ => true
  | _ => false
/-- == of flat values -/
def eqV : V → V → Bool
  | .non, .non => true
  | .bl a, .bl b => a == b
  | .bl a, .int b => (if a then 1 else 0) == b
  | .int a, .bl b => a == (if b then 1 else 0)
  | .int a, .int b => a == b
  | .str a, .str b => a == b
  | _, _ => false
theorem eqAt_V {A : Around} {s : Shared} {y x : V} {u v : Value} (ry : RelV y u) (rx : RelV x v) (fy : flatV y = true) (fx : flatV x = true) : SeqAt.EqAt A s u v (eqV y x) := by
  cases y with
  | non =>
    cases ry
    cases x with
    | non => cases rx; exact SeqAt.EqAt.same _
    | bl b => cases rx; exact SeqAt.EqAt.none_bool b
    | int b => obtain ⟨t, rfl⟩ := rx; exact SeqAt.EqAt.none_int b t
    | str b => obtain ⟨t, rfl⟩ := rx; exact SeqAt.EqAt.none_str b t
    | _ => exact absurd (show false = true from fx) Bool.false_ne_true
  | bl a =>
    cases ry
    cases x with
    | non => cases rx; exact SeqAt.EqAt.bool_none a
    | bl b => cases rx; exact SeqAt.EqAt.bool_bool a b
    | int b => obtain ⟨t, rfl⟩ := rx; exact SeqAt.EqAt.bool_int a b t
    | str b => obtain ⟨t, rfl⟩ := rx; exact SeqAt.EqAt.bool_str a b t
    | _ => exact absurd (show false = true from fx) Bool.false_ne_true
  | int a =>
    obtain ⟨t', rfl⟩ := ry
    cases x with
    | non => cases rx; exact SeqAt.EqAt.int_none a t'
    | bl b => cases rx; exact SeqAt.EqAt.int_bool a t' b
    | int b => obtain ⟨t, rfl⟩ := rx; exact SeqAt.EqAt.int_int a t' b t
    | str b => obtain ⟨t, rfl⟩ := rx; exact SeqAt.EqAt.int_str a t' b t
    | _ => exact absurd (show false = true from fx) Bool.false_ne_true
  | str a =>
    obtain ⟨t', rfl⟩ := ry
    cases x with
    | non => cases rx; exact SeqAt.EqAt.str_none a t'
    | bl b => cases rx; exact SeqAt.EqAt.str_bool a t' b
    | int b => obtain ⟨t, rfl⟩ := rx; exact SeqAt.EqAt.str_int a t' b t
    | str b => obtain ⟨t, rfl⟩ := rx; exact SeqAt.EqAt.str_str a t' b t
    | _ => exact absurd (show false = true from fx) Bool.false_ne_true
  | _ => exact absurd (show false = true from fy) Bool.false_ne_true
/-- the items' answers, read off the values (a value's own answer does not lean on its token) -/
def eqU (x : V) (u : Value) : Bool := match u with
  | .none => eqV .non x
  | .bool b => eqV (.bl b) x
  | .int i _ => eqV (.int i) x
  | .str z _ => eqV (.str z) x
  | _ => false
theorem eqU_of {x y : V} {u : Value} (r : RelV y u) (f : flatV y = true) : eqU x u = eqV y x := by
  cases y with
  | non => cases r; rfl
  | bl b => cases r; rfl
  | int i => obtain ⟨t, rfl⟩ := r; rfl
  | str z => obtain ⟨t, rfl⟩ := r; rfl
  | _ => exact absurd (show false = true from f) Bool.false_ne_true
theorem any_eqU {x : V} : ∀ {xs : List V} {us : List Value}, Vals xs us → xs.all flatV = true → us.any (eqU x) = xs.any fun y => eqV y x
  | _, _, .nil, _ => rfl
  | y :: xs, u :: us, .cons r t, f => by
    rw [List.all_cons, Bool.and_eq_true] at f
    rw [List.any_cons, List.any_cons, eqU_of r f.1, any_eqU t f.2]
theorem mem_eqAt {A : Around} {s : Shared} {x : V} {v : Value} (rx : RelV x v) (fx : flatV x = true) : ∀ {xs : List V} {us : List Value}, Vals xs us → xs.all flatV = true → ∀ u ∈ us, SeqAt.EqAt A s u v (eqU x u)
  | _, _, .nil, _ => fun u hu => by cases hu
  | y :: xs, u :: us, .cons r t, f => fun u' hu => by
    rw [List.all_cons, Bool.and_eq_true] at f
    rcases List.mem_cons.mp hu with rfl | hu
    · rw [eqU_of r f.1]; exact eqAt_V r rx f.1 fx
    · exact mem_eqAt rx fx t f.2 u' hu
def inV (x : V) (xs : List V) : Bool := xs.any fun y => eqV y x
/-- x in a list or tuple of flat items -/
def rIn (K : PySem.W.Frag) (neg : Bool) : R2 := fun x y H Q => ∃ p xs, y = .ref p ∧ (SqL K H p xs ∨ SqT K H p xs) ∧ flatV x = true ∧ xs.all flatV = true ∧ Q (.bl (if neg then !inV x xs else inV x xs)) H
theorem op_in_seq : OpR X (compareOp .In) (rIn X.K false) := by
  intro pins s σ H x y v u Q I rx ry h
  obtain ⟨p, xs, rfl, hq, fx, fs, q⟩ := h
  cases ry
  rcases hq with hq | hq
  · obtain ⟨its, r, pl, hz⟩ := I.list hq
    refine SeqAt.in_listAt (eqU x) pl.isList (fun w hw => mem_eqAt rx fx r fs w (by simpa using hw)) ⟨.bl _, H, I, rfl, ?_⟩
    rw [show its.toArray.any (eqU x) = its.any (eqU x) by simp, any_eqU r fs]
    exact q
  · obtain ⟨its, r, pl, hz⟩ := I.tuple hq
    refine SeqAt.in_tupleAt (eqU x) pl (fun w hw => mem_eqAt rx fx r fs w (by simpa using hw)) ⟨.bl _, H, I, rfl, ?_⟩
    rw [show its.toArray.any (eqU x) = its.any (eqU x) by simp, any_eqU r fs]
    exact q
theorem op_notIn_seq : OpR X (compareOp .NotIn) (rIn X.K true) := by
  intro pins s σ H x y v u Q I rx ry h
  obtain ⟨p, xs, rfl, hq, fx, fs, q⟩ := h
  cases ry
  rcases hq with hq | hq
  · obtain ⟨its, r, pl, hz⟩ := I.list hq
    refine SeqAt.notIn_listAt (eqU x) pl.isList (fun w hw => mem_eqAt rx fx r fs w (by simpa using hw)) ⟨.bl _, H, I, rfl, ?_⟩
    rw [show its.toArray.any (eqU x) = its.any (eqU x) by simp, any_eqU r fs]
    exact q
  · obtain ⟨its, r, pl, hz⟩ := I.tuple hq
    refine SeqAt.notIn_tupleAt (eqU x) pl (fun w hw => mem_eqAt rx fx r fs w (by simpa using hw)) ⟨.bl _, H, I, rfl, ?_⟩
    rw [show its.toArray.any (eqU x) = its.any (eqU x) by simp, any_eqU r fs]
    exact q
theorem op_notIn_str : OpR X (compareOp .NotIn) (fun x y H Q => ∃ i j, x = .str i ∧ y = .str j ∧ Q (.bl (!(!(Builtin.Str.occurrences j i 0 j.length 1).isEmpty))) H) := by
  intro pins s σ H x y v u Q I rx ry h
  obtain ⟨i, j, rfl, rfl, q⟩ := h
  obtain ⟨t, rfl⟩ := rx
  obtain ⟨t', rfl⟩ := ry
  exact notIn_str ⟨.bl _, H, I, rfl, q⟩

/-! ### len, list(x), tuple(x) of any list or tuple that is read -/
theorem call_len_seq : CallR X (.builtin "len") (fun xs H Q => ∃ p ys, xs = [.ref p] ∧ (SqL X.K H p ys ∨ SqT X.K H p ys) ∧ Q (.int ys.length) H) := by
  intro pins s σ H xs us Q I r h
  obtain ⟨p, ys, rfl, hq, q⟩ := h
  obtain ⟨u, rfl, rx⟩ := vals1 r
  cases rx
  have hn := line63
  rcases hq with hq | hq
  · obtain ⟨its, r', pl, hz⟩ := I.list hq
    have hlen := r'.length
    exact Calls.call_len_list pl.isList (by simp only [List.size_toArray] <;> omega) ⟨.int ys.length, H, I.tok _, ⟨s.toks + 1, by rw [List.size_toArray, hlen]⟩, q⟩
  · obtain ⟨its, r', pl, hz⟩ := I.tuple hq
    have hlen := r'.length
    exact len_tuple pl (by simp only [List.size_toArray] <;> omega) ⟨.int ys.length, H, I.tok _, ⟨s.toks + 1, by rw [List.size_toArray, hlen]⟩, q⟩
theorem call_len_str : CallR X (.builtin "len") (fun xs H Q => ∃ z, xs = [.str z] ∧ z.length ≤ sizeLine ∧ Q (.int z.length) H) := by
  intro pins s σ H xs us Q I r h
  obtain ⟨z, rfl, hz, q⟩ := h
  obtain ⟨u, rfl, t, rfl⟩ := vals1 r
  have hn := line63
  exact len_str (by omega) ⟨.int z.length, H, I.tok _, ⟨_, rfl⟩, q⟩
theorem CallR.or {f : Value} {r r' : List V → Hp → VK → Prop} (h : CallR X f r) (h' : CallR X f r') : CallR X f (fun xs H Q => r xs H Q ∨ r' xs H Q) := by
  intro pins s σ H xs us Q I rs q
  rcases q with q | q
  · exact h pins s σ H xs us Q I rs q
  · exact h' pins s σ H xs us Q I rs q
theorem call_list_of : CallR X (.type "list") (fun xs H Q => ∃ p ys, xs = [.ref p] ∧ (SqL X.K H p ys ∨ SqT X.K H p ys) ∧ ∀ l, H l = none → Q (.ref l) (upd H l (.lst ys))) := by
  intro pins s σ H xs us Q I r h
  obtain ⟨p, ys, rfl, hq, q⟩ := h
  obtain ⟨u, rfl, rx⟩ := vals1 r
  cases rx
  have fin : ∀ (its : List Value), Vals ys its → ys.length ≤ sizeLine → ∀ (h' : Heap) (c' : Nat), (∀ b o', s.heap.get? b = some o' → h'.get? b = some o') →
      h'.get? s.heap.objs.size = some { cls := .type "list", dict := none, data := .seq its.toArray c', slots := #[] } → EP X pins σ Q (.ref s.heap.objs.size) { s with heap := h' } := fun its r' hz h' c' kp e =>
    ⟨.ref s.heap.objs.size, _, I.laid (t' := s.toks) kp (Nat.le_refl _) (show ObjOk X.prog X.w _ h' _ (.lst ys) from ⟨hz, its, c', r', e⟩), rfl, q _ (I.hok.fresh (Nat.le_refl _))⟩
  rcases hq with hq | hq
  · obtain ⟨its, r', pl, hz⟩ := I.list hq
    have hlen := r'.length
    obtain ⟨o, ho, hc, n, hd⟩ := pl.isList
    exact call_list_seq p (.inl rfl) ho hc hd (fun h' c' kp e => fin its r' hz h' c' kp e) (by simp only [List.size_toArray] <;> omega)
  · obtain ⟨its, r', pl, hz⟩ := I.tuple hq
    have hlen := r'.length
    obtain ⟨o, ho, hc, n, hd⟩ := pl
    exact call_list_seq p (.inr rfl) ho hc hd (fun h' c' kp e => fin its r' hz h' c' kp e) (by simp only [List.size_toArray] <;> omega)
theorem call_tuple_of : CallR X (.type "tuple") (fun xs H Q => ∃ p ys, xs = [.ref p] ∧ ((SqL X.K H p ys ∧ ∀ l, H l = none → Q (.ref l) (upd H l (.tup ys))) ∨ (SqT X.K H p ys ∧ Q (.ref p) H))) := by
  intro pins s σ H xs us Q I r h
  obtain ⟨p, ys, rfl, h⟩ := h
  obtain ⟨u, rfl, rx⟩ := vals1 r
  cases rx
  rcases h with ⟨hq, q⟩ | ⟨hq, q⟩
  · obtain ⟨its, r', pl, hz⟩ := I.list hq
    have hlen := r'.length
    refine call_tuple_list pl.isList (fun h' kp => ?_) (by simp only [List.size_toArray] <;> omega)
    have I1 : Inv X pins σ H { s with heap := h' } := I.kept (t' := s.toks) kp
    have I2 : Inv X pins σ (upd H h'.objs.size (.tup ys)) { s with heap := h'.push { cls := .type "tuple", data := .seq its.toArray } } :=
      I1.laid (t' := s.toks) (fun b o e => Heap.get?_push_of_some _ e) (Nat.le_refl _) (show ObjOk X.prog X.w _ _ _ (.tup ys) from ⟨hz, its, r', IsTup.new _ _⟩)
    exact ⟨.ref h'.objs.size, _, I2, rfl, q _ (I1.hok.fresh (Nat.le_refl _))⟩
  · obtain ⟨its, r', pl, hz⟩ := I.tuple hq
    exact call_tuple_same pl ⟨.ref p, H, I, rfl, q⟩

/-! ### the call of a builtin's method: o.m(..) -/
/-- the value is of that builtin type -/
def tyV (K : PySem.W.Frag) (T : String) (x : V) (H : Hp) : Prop := match x with
  | .str _ => T = "str"
  | .int _ => T = "int"
  | .ref p => (T = "list" ∧ ∃ xs, SqL K H p xs) ∨ (T = "tuple" ∧ ∃ o, K.lookup p = some o ∧ o.cls = .type "tuple" ∧ o.dict = none) ∨
      (T = "dict" ∧ ((∃ kvs, H p = some (.dK kvs)) ∨ ∃ kvs, H p = some (.dT kvs))) ∨ (T = "set" ∧ ∃ S n, H p = some (.set S n))
  | _ => False
theorem tyV_is {pins : List (Addr × Obj)} {σ : St} {H : Hp} {s : Shared} {T : String} {x : V} {v : Value} (I : Inv X pins σ H s) (r : RelV x v) (ty : tyV X.K T x H) :
    s.TypeIs v T ∧ ∀ a, v = .ref a → ∃ ob, s.heap.get? a = some ob ∧ ob.dict = none := by
  cases x with
  | str z =>
    obtain ⟨t, rfl⟩ := r
    cases (show T = "str" from ty)
    exact ⟨typeIs_str s z t, fun _ e => nomatch e⟩
  | int i =>
    obtain ⟨t, rfl⟩ := r
    cases (show T = "int" from ty)
    exact ⟨typeIs_int s i t, fun _ e => nomatch e⟩
  | ref p =>
    cases r
    rcases ty with ⟨rfl, xs, hq⟩ | ⟨rfl, o, hk, hc, hd⟩ | ⟨rfl, hk⟩ | ⟨rfl, S, n, hk⟩
    · obtain ⟨its, _, pl, _⟩ := I.list hq
      refine ⟨pl.isList.typeIs, fun a e => ?_⟩
      cases e
      obtain ⟨o, n, e, c, hd, _⟩ := pl
      exact ⟨o, e, hd⟩
    · refine ⟨⟨o, I.kIn p o hk, hc⟩, fun a e => ?_⟩
      cases e
      exact ⟨o, I.kIn _ o hk, hd⟩
    · have z : ∃ o, s.heap.get? p = some o ∧ o.ExactDict := by
        rcases hk with ⟨kvs, hk⟩ | ⟨kvs, hk⟩
        · obtain ⟨_, _, _, _, o, _, _, e, ex, _⟩ := I.hok p _ hk
          exact ⟨o, e, ex⟩
        · obtain ⟨_, _, _, _, o, _, _, e, ex, _⟩ := I.hok p _ hk
          exact ⟨o, e, ex⟩
      obtain ⟨o, e, ex⟩ := z
      refine ⟨⟨o, e, ex.1⟩, fun a e2 => ?_⟩
      cases e2
      exact ⟨o, e, ex.2.1⟩
    · obtain ⟨o, _, _, _, e, ex, _⟩ := I.hok p _ hk
      refine ⟨⟨o, e, ex.1⟩, fun a e2 => ?_⟩
      cases e2
      exact ⟨o, e, ex.2.1⟩
  | _ => exact False.elim ty
def tBM0 (K : PySem.W.Frag) (T : String) (r : V → List V → Hp → VK → Prop) (to : TE) : TE := fun σ H Q => to σ H fun x H1 => tyV K T x H1 ∧ r x [] H1 Q
def tBM (K : PySem.W.Frag) (T : String) (r : V → List V → Hp → VK → Prop) (to : TE) (t : TA) : TE := fun σ H Q => to σ H fun x H1 => tyV K T x H1 ∧ t σ H1 fun xs H2 => r x xs H2 Q
variable {o e : Expr} {es : List Expr} {to : TE} {t : TA} {name : Str} {apos cpos : Pos} {T id : String} {r : V → List V → Hp → VK → Prop}
theorem pe_bm0 (pa : PlainAttrs T) (slot : Slot T name id) (hty : typeOf (.builtin id) = pure (.type "method_descriptor")) (hm : MtR X id r) (ho : PE X o to)
    (hbase : attributeBase o name X.env (eval o X.env) = eval o X.env := by rfl) (hline : (apos.endLine == cpos.line) = true := by rfl) : PE X (.Call (.Attribute o name apos) [] [] cpos) (tBM0 X.K T r to) := by
  intro pins s σ H Q I h
  refine wpAny_Call_method0_late hbase hline (thn (ho pins s σ H _ I h) fun v s1 ⟨x, H1, I1, r1, ty, q1⟩ => ?_)
  obtain ⟨h1, h2⟩ := tyV_is I1 r1 ty
  exact ⟨T, id, pa, slot, hty, h1, h2, Calls.callWith_builtin rfl (PySem.evalArgs_none (hm pins s1 σ H1 x [] v [] Q I1 r1 .nil q1))⟩
theorem pe_bm (pa : PlainAttrs T) (slot : Slot T name id) (hty : typeOf (.builtin id) = pure (.type "method_descriptor")) (hm : MtR X id r) (ho : PE X o to) (ha : PA X (e :: es) t)
    (hbase : attributeBase o name X.env (eval o X.env) = eval o X.env := by rfl)
    (hfew : ((backTo cpos (starEach (e :: es) X.env)).all (fun x => !x.1) && (backToKw cpos (keywordEach [] X.env)).all (fun x => x.1.isSome)
      && decide ((e :: es).length + ([] : List Keyword).length + (if ([] : List Keyword).isEmpty then 0 else 1) < 30)) = true := by rfl)
    (hline : (apos.endLine == cpos.line) = true := by rfl) (hs : starEach (e :: es) X.env = (false, eval e X.env) :: starEach es X.env := by rfl) (hplain : (backTo cpos (starEach es X.env)).any (·.1) = false := by rfl) :
    PE X (.Call (.Attribute o name apos) (e :: es) [] cpos) (tBM X.K T r to t) := by
  intro pins s σ H Q I h
  refine wpAny_Call_method_late hbase hfew hline rfl (thn (ho pins s σ H _ I h) fun v s1 ⟨x, H1, I1, r1, ty, q1⟩ => ?_)
  obtain ⟨h1, h2⟩ := tyV_is I1 r1 ty
  refine ⟨T, id, pa, slot, hty, h1, h2, ?_⟩
  have hA := ha cpos pins s1 σ H1 _ I1 q1
  rw [hs] at hA ⊢
  refine Calls.callWith_builtin (by show (false || (backTo cpos (starEach es X.env)).any (·.1)) = false; rw [hplain] <;> rfl) (Calls.evalArgs_plain ?_)
  exact thn hA fun us s2 ⟨vs, H2, I2, r2, q2⟩ => hm pins s2 σ H2 x vs v us Q I2 r1 r2 q2
/- xs.append(e), list.index on a module's tuple .. are MtR facts of 06m -/
end
end L2

namespace L2
open PySem PySem.Spec PyProof.Rows

def MtM (X : Cx) (id : String) (r : V → List V → Hp → VK → Prop) : Prop :=
  ∀ (pins : List (Addr × Obj)) (s : Shared) (σ : St) (H : Hp) (x : V) (xs : List V) (v : Value) (us : List Value) (Q : VK), Inv X pins σ H s → RelV x v → Vals xs us → r x xs H Q →
    wpAny (model X.prog X.w) X.A (call (.builtin id) (v :: us)) (EP X pins σ Q) X.xe s

/-! ### lists of values -/
theorem Vals.one : ∀ {x : V} {us : List Value}, Vals [x] us → ∃ u, us = [u] ∧ RelV x u
  | _, _, .cons r .nil => ⟨_, rfl, r⟩
theorem Vals.two : ∀ {x y : V} {us : List Value}, Vals [x, y] us → ∃ u v, us = [u, v] ∧ RelV x u ∧ RelV y v
  | _, _, _, .cons r (.cons q .nil) => ⟨_, _, rfl, r, q⟩
theorem Vals.zero : ∀ {us : List Value}, Vals [] us → us = []
  | _, .nil => rfl
theorem Vals.dropLast {xs : List V} {us : List Value} (h : Vals xs us) : Vals xs.dropLast us.dropLast := by
  induction h with
  | nil => exact .nil
  | cons r t ih =>
    cases t with
    | nil => exact .nil
    | cons q t' => exact .cons r ih
theorem Vals.eraseIdx : ∀ {xs : List V} {us : List Value} (i : Nat), Vals xs us → Vals (xs.eraseIdx i) (us.eraseIdx i)
  | _, _, _, .nil => .nil
  | _, _, 0, .cons _ t => t
  | _, _, i + 1, .cons r t => .cons r (Vals.eraseIdx i t)
theorem Vals.reverse {xs : List V} {us : List Value} (h : Vals xs us) : Vals xs.reverse us.reverse := by
  induction h with
  | nil => exact .nil
  | cons r t ih => rw [List.reverse_cons, List.reverse_cons]; exact Vals.append ih (.cons r .nil)
theorem Vals.rep {xs : List V} {us : List Value} (h : Vals xs us) : ∀ k : Nat, Vals (List.replicate k xs).flatten (List.replicate k us).flatten
  | 0 => .nil
  | k + 1 => by
    rw [List.replicate_succ, List.replicate_succ, List.flatten_cons, List.flatten_cons]
    exact Vals.append h (Vals.rep h k)
theorem erase_last {α : Type} (l : List α) : l.eraseIdx (l.length - 1) = l.dropLast := by
  induction l with
  | nil => rfl
  | cons a r ih =>
    cases r with
    | nil => rfl
    | cons b r =>
      have e : (a :: b :: r).length - 1 = ((b :: r).length - 1) + 1 := by
        have h1 : (a :: b :: r).length = r.length + 2 := rfl
        have h2 : (b :: r).length = r.length + 1 := rfl
        omega
      rw [e, List.eraseIdx_cons_succ, ih]
      all_goals rfl
theorem len_erase {α : Type} : ∀ (l : List α) (i : Nat), (l.eraseIdx i).length ≤ l.length
  | [], _ => Nat.le_refl _
  | _ :: _, 0 => Nat.le_succ _
  | _ :: r, i + 1 => Nat.succ_le_succ (len_erase r i)
theorem foldl_rep (its : List Value) : ∀ (k : Nat) (acc : List Value),
    List.foldl (fun x1 x2 => x1 ++ x2) acc.toArray (List.replicate k its.toArray) = (acc ++ (List.replicate k its).flatten).toArray
  | 0, acc => by simp
  | k + 1, acc => by
    have e : acc.toArray ++ its.toArray = (acc ++ its).toArray := by simp
    have e2 : (acc ++ its) ++ (List.replicate k its).flatten = acc ++ (List.replicate (k + 1) its).flatten := by
      rw [List.replicate_succ, List.flatten_cons, List.append_assoc]
    rw [← e2, ← foldl_rep its k (acc ++ its), ← e, List.replicate_succ, List.foldl_cons]

section
variable {X : Cx} {pins : List (Addr × Obj)} {σ : St} {H : Hp} {s : Shared} {l b : Addr} {xs ys zs : List V}

/-! ### the two steps: a tracked list is rewritten, a new list is laid -/
theorem Inv.lset {its its' : List Value} {n : Nat} {f : Array Value → Array Value} {t' : Nat} (I : Inv X pins σ H s) (hH : H l = some (.lst xs))
    (e : s.heap.get? l = some { cls := .type "list", data := .seq its.toArray n }) (hf : f its.toArray = its'.toArray) (hv : Vals ys its') (hz : ys.length ≤ sizeLine) :
    Inv X pins σ (upd H l (.lst ys)) { s with heap := s.heap.update l (Obj.mapSeq f), toks := t' } := by
  have q := PySem.IsL.update e f
  rw [hf] at q
  refine I.write (x := l) (e := l) (by rw [hH]; exact trivial) (.inl rfl) (fun b' u hb hu => (Heap.get?_update_other s.heap (Obj.mapSeq f) (Ne.symm hb)).trans hu) ⟨_, q⟩ ?_
  exact ⟨hz, its', _, hv, q⟩
theorem Inv.lnew {its : List Value} {t' : Nat} (I : Inv X pins σ H s) (hv : Vals ys its) (hz : ys.length ≤ sizeLine) :
    Inv X pins σ (upd H s.heap.objs.size (.lst ys)) { s with heap := s.heap.push { cls := .type "list", data := .seq its.toArray }, toks := t' } :=
  I.laid (fun _ _ q => Heap.get?_push_of_some _ q) (Nat.le_refl _) ⟨hz, its, 0, hv, Heap.get?_push_size _ rfl⟩
theorem Inv.fresh (I : Inv X pins σ H s) : H s.heap.objs.size = none := I.hok.fresh (Nat.le_refl _)
theorem Inv.lstM (I : Inv X pins σ H s) (hH : H l = some (.lst xs)) : xs.length ≤ sizeLine ∧ ∃ (its : List Value) (n : Nat), Vals xs its ∧ xs.length = its.length ∧ s.heap.get? l = some { cls := .type "list", data := .seq its.toArray n } := by
  obtain ⟨z, its, n, r, e⟩ := I.hok l _ hH
  exact ⟨z, its, n, r, r.length, e⟩

theorem notLongL {n : Nat} (h : n ≤ sizeLine) : Builtin.List.listTooLong n = false := by
  unfold Builtin.List.listTooLong
  exact decide_eq_false (by omega)
end

section
variable {X : Cx}

/-! ### methods -/
def rAppend : V → List V → Hp → VK → Prop := fun x vs H Q => ∃ l xs y, x = .ref l ∧ vs = [y] ∧ H l = some (.lst xs) ∧ xs.length < sizeLine ∧ Q .non (upd H l (.lst (xs ++ [y])))
theorem mt_append : MtM X "list.append" rAppend := by
  intro pins s σ H x vs v us Q I rx rv h
  obtain ⟨l, xs, y, rfl, rfl, hH, hz, q⟩ := h
  cases rx
  obtain ⟨u, rfl, ru⟩ := rv.one
  obtain ⟨z, its, n, r, hl, e⟩ := I.lstM hH
  refine call_meets F.slot_list_append ⟨_, e, rfl⟩ F.entry_list_append (F.args_list_append_2 _ _) (PySem.list_append l its.toArray n u (by rw [List.size_toArray]; omega)) ⟨e, ?_⟩
  refine ⟨.non, _, I.lset (its' := its ++ [u]) hH e (by simp) (r.append (.cons ru .nil)) ?_, rfl, q⟩
  rw [List.length_append, List.length_singleton]
  omega

def rExtend : V → List V → Hp → VK → Prop := fun x vs H Q => ∃ l b xs zs, x = .ref l ∧ vs = [.ref b] ∧ H l = some (.lst xs) ∧ H b = some (.lst zs) ∧ xs.length + zs.length ≤ sizeLine ∧ Q .non (upd H l (.lst (xs ++ zs)))
theorem mt_extend : MtM X "list.extend" rExtend := by
  intro pins s σ H x vs v us Q I rx rv h
  obtain ⟨l, b, xs, zs, rfl, rfl, hH, hB, hz, q⟩ := h
  cases rx
  obtain ⟨u, rfl, ru⟩ := rv.one
  cases ru
  obtain ⟨z, its, n, r, hl, e⟩ := I.lstM hH
  obtain ⟨z2, its2, n2, r2, hl2, e2⟩ := I.lstM hB
  have hsz : its.toArray.size + its2.toArray.size ≤ sizeLine := by rw [List.size_toArray, List.size_toArray]; omega
  have hlong : ¬ (!its.toArray.isEmpty && Builtin.List.listTooLong (its.toArray.size + its2.toArray.size)) = true := by
    rw [notLongL hsz, Bool.and_false]
    exact Bool.false_ne_true
  refine call_meets F.slot_list_extend ⟨_, e, rfl⟩ F.entry_list_extend (F.args_list_extend_2 _ _)
    (AutoSeq1.list_extend_list_list_0 l its.toArray n b its2.toArray n2 hlong (by rw [List.size_toArray]; omega) (by omega)) ⟨e, e2, ?_⟩
  refine ⟨.non, _, I.lset (its' := its ++ its2) hH e (by simp) (r.append r2) ?_, rfl, q⟩
  rw [List.length_append]
  omega

def rPop : V → List V → Hp → VK → Prop := fun x vs H Q => ∃ l xs y, x = .ref l ∧ vs = [] ∧ H l = some (.lst xs) ∧ xs[xs.length - 1]? = some y ∧ Q y (upd H l (.lst xs.dropLast))
theorem mt_pop : MtM X "list.pop" rPop := by
  intro pins s σ H x vs v us Q I rx rv h
  obtain ⟨l, xs, y, rfl, rfl, hH, hy, q⟩ := h
  cases rx
  have hus := rv.zero
  subst hus
  obtain ⟨z, its, n, r, hl, e⟩ := I.lstM hH
  obtain ⟨u, hu, ru⟩ := r.get hy
  have hy' : its.toArray[its.toArray.size - 1]? = some u := by
    show its.toArray[its.length - 1]? = some u
    rw [← Array.getElem?_toList, ← hl]
    exact hu
  refine call_meets F.slot_list_pop ⟨_, e, rfl⟩ F.entry_list_pop (F.args_list_pop_1 _) (MeetsSeq.list_pop_last l its.toArray n u hy' (by rw [List.size_toArray]; omega)) ⟨e, ?_⟩
  refine ⟨y, _, I.lset (its' := its.dropLast) hH e ?_ r.dropLast ?_, ru, q⟩
  · show its.toArray.eraseIdxIfInBounds (its.toArray.size - 1) = its.dropLast.toArray
    rw [List.size_toArray, List.eraseIdxIfInBounds_toArray, erase_last]
  · rw [List.length_dropLast]
    omega

def rPopAt : V → List V → Hp → VK → Prop := fun x vs H Q => ∃ l xs i k y, x = .ref l ∧ vs = [.int i] ∧ H l = some (.lst xs) ∧ -(2 ^ 63) ≤ i ∧ i < 2 ^ 63 ∧ seqIndex? i xs.length = some k ∧ xs[k]? = some y ∧ Q y (upd H l (.lst (xs.eraseIdx k)))
theorem mt_popAt : MtM X "list.pop" rPopAt := by
  intro pins s σ H x vs v us Q I rx rv h
  obtain ⟨l, xs, i, k, y, rfl, rfl, hH, h1, h2, hk, hy, q⟩ := h
  cases rx
  obtain ⟨u, rfl, ru⟩ := rv.one
  obtain ⟨t, rfl⟩ := ru
  obtain ⟨z, its, n, r, hl, e⟩ := I.lstM hH
  obtain ⟨w, hw, rw'⟩ := r.get hy
  refine call_meets F.slot_list_pop ⟨_, e, rfl⟩ F.entry_list_pop (F.args_list_pop_2 _ _)
    (MeetsSeq.list_pop_at l its.toArray n i t k w (fitsIndex_both h1 h2) (by rw [List.size_toArray, ← hl]; exact hk) (by rw [← Array.getElem?_toList]; exact hw) (by rw [List.size_toArray]; omega)) ⟨e, ?_⟩
  refine ⟨y, _, I.lset (its' := its.eraseIdx k) hH e ?_ (r.eraseIdx k) ?_, rw', q⟩
  · show its.toArray.eraseIdxIfInBounds k = (its.eraseIdx k).toArray
    rw [List.eraseIdxIfInBounds_toArray]
  · have := len_erase xs k
    omega

def rReverse : V → List V → Hp → VK → Prop := fun x vs H Q => ∃ l xs, x = .ref l ∧ vs = [] ∧ H l = some (.lst xs) ∧ Q .non (upd H l (.lst xs.reverse))
theorem mt_reverse : MtM X "list.reverse" rReverse := by
  intro pins s σ H x vs v us Q I rx rv h
  obtain ⟨l, xs, rfl, rfl, hH, q⟩ := h
  cases rx
  have hus := rv.zero
  subst hus
  obtain ⟨z, its, n, r, hl, e⟩ := I.lstM hH
  refine call_meets F.slot_list_reverse ⟨_, e, rfl⟩ F.entry_list_reverse (F.args_list_reverse_1 _) (AutoSeq1.list_reverse_list_0 l its.toArray n (by rw [List.size_toArray]; omega)) ⟨e, ?_⟩
  refine ⟨.non, _, I.lset (its' := its.reverse) hH e (by simp) r.reverse ?_, rfl, q⟩
  rw [List.length_reverse]
  omega

def rClear : V → List V → Hp → VK → Prop := fun x vs H Q => ∃ l xs, x = .ref l ∧ vs = [] ∧ H l = some (.lst xs) ∧ Q .non (upd H l (.lst []))
theorem mt_clear : MtM X "list.clear" rClear := by
  intro pins s σ H x vs v us Q I rx rv h
  obtain ⟨l, xs, rfl, rfl, hH, q⟩ := h
  cases rx
  have hus := rv.zero
  subst hus
  obtain ⟨z, its, n, r, hl, e⟩ := I.lstM hH
  refine call_meets F.slot_list_clear ⟨_, e, rfl⟩ F.entry_list_clear (F.args_list_clear_1 _) (AutoSeq1.list_clear_list_0 l its.toArray n (by rw [List.size_toArray]; omega)) ⟨e, ?_⟩
  exact ⟨.non, _, I.lset (its' := []) (ys := []) hH e rfl .nil (Nat.zero_le _), rfl, q⟩

/-! ### list + list, list += list, list * int -/
def rCat : R2 := fun x y H Q => ∃ l b xs zs, x = .ref l ∧ y = .ref b ∧ H l = some (.lst xs) ∧ H b = some (.lst zs) ∧ xs.length + zs.length ≤ sizeLine ∧ ∀ p, H p = none → Q (.ref p) (upd H p (.lst (xs ++ zs)))
theorem op_cat : OpR X (binaryOp .Add) rCat := by
  intro pins s σ H x y v u Q I rx ry h
  obtain ⟨l, b, xs, zs, rfl, rfl, hH, hB, hz, q⟩ := h
  cases rx
  cases ry
  obtain ⟨z, its, n, r, hl, e⟩ := I.lstM hH
  obtain ⟨z2, its2, n2, r2, hl2, e2⟩ := I.lstM hB
  refine PySem.P.add_list e e2 ?_ (by rw [List.size_toArray, List.size_toArray]; omega)
  have ea : its.toArray ++ its2.toArray = (its ++ its2).toArray := by simp
  rw [ea]
  exact ⟨.ref _, _, I.lnew (t' := s.toks) (r.append r2) (by rw [List.length_append]; omega), rfl, q _ I.fresh⟩
/-- a list times an int (a negative one is nothing) -/
def rRep : R2 := fun x y H Q => ∃ l k xs, x = .ref l ∧ y = .int k ∧ H l = some (.lst xs) ∧ -(2 ^ 63) ≤ k ∧ k < 2 ^ 63 ∧ xs.length * k.toNat ≤ sizeLine ∧
  ∀ p, H p = none → Q (.ref p) (upd H p (.lst (List.replicate k.toNat xs).flatten))
theorem len_rep {α : Type} (xs : List α) (k : Nat) : (List.replicate k xs).flatten.length = k * xs.length := by
  induction k with
  | zero => simp
  | succ k ih => rw [List.replicate_succ, List.flatten_cons, List.length_append, ih, Nat.succ_mul, Nat.add_comm]
theorem op_rep : OpR X (binaryOp .Mult) rRep := by
  intro pins s σ H x y v u Q I rx ry h
  obtain ⟨l, k, xs, rfl, rfl, hH, h1, h2, hz, q⟩ := h
  cases rx
  obtain ⟨t, rfl⟩ := ry
  obtain ⟨z, its, n, r, hl, e⟩ := I.lstM hH
  have hlen : its.toArray.size * k.toNat ≤ sizeLine := by rw [List.size_toArray, ← hl]; exact hz
  have hcap : ¬ its.toArray.size * k.toNat > (2 ^ 63 - 1) / 8 := by
    have : (sizeLine : Nat) ≤ (2 ^ 63 - 1) / 8 := by decide
    omega
  have hfit : ¬ (!Builtin.List.listFitsIndex k) = true := by
    rw [fitsIndex_both h1 h2]
    exact Bool.false_ne_true
  have hlong : ¬ Builtin.List.listTooLong (its.toArray.size * k.toNat) = true := by
    rw [notLongL hlen]
    exact Bool.false_ne_true
  have hnew : List.foldl (fun x1 x2 => x1 ++ x2) #[] (List.replicate (if its.toArray.isEmpty = true then 0 else k.toNat) its.toArray) = (List.replicate k.toNat its).flatten.toArray := by
    have f0 : ∀ m : Nat, List.foldl (fun x1 x2 => x1 ++ x2) #[] (List.replicate m its.toArray) = (List.replicate m its).flatten.toArray := fun m => by
      have := foldl_rep its m []
      rw [List.nil_append] at this
      exact this
    rw [f0]
    cases its with
    | nil => simp
    | cons a r' => rw [if_neg (by simp)]
  refine wpAny_binaryOp_repeat_ref (T := "list") (U := "int") (by decide) ⟨_, e, rfl⟩ (fun s' => typeIs_int s' k t) noFill_list_mul F.fills_int_mul F.slot_int_rmul repeat_list F.slot_int_index.lookup
    (call_meets F.slot_int_rmul (typeIs_int s k t) F.entry_int_rmul (F.args_int_rmul_2 _ _) (int___rmul___int_list k t l its.toArray n)
      ⟨e, rfl, ⟨_, e, rfl⟩, call_meets F.slot_list_mul ⟨_, e, rfl⟩ F.entry_list_mul (F.args_list_mul_2 _ _) (AutoListH.list___mul___list_int_3 l its.toArray n k t hfit hcap hlong) ⟨e, ?_⟩⟩)
  rw [hnew]
  exact ⟨.ref _, _, I.lnew (t' := s.toks) (r.rep k.toNat) (by rw [len_rep, Nat.mul_comm]; exact hz), rfl, q _ I.fresh⟩

/-! ### del xs[i] -/
theorem del_list {pins : List (Addr × Obj)} {s : Shared} {σ : St} {H : Hp} {l : Addr} {xs : List V} {i : Int} {t : Tok} {k : Nat} {Q : Unit → Shared → Prop} (I : Inv X pins σ H s) (hH : H l = some (.lst xs))
    (h1 : -(2 ^ 63) ≤ i) (h2 : i < 2 ^ 63) (hk : seqIndex? i xs.length = some k) (h : ∀ s', Inv X pins σ (upd H l (.lst (xs.eraseIdx k))) s' → Q () s') :
    wpAny (model X.prog X.w) X.A (delItem (.ref l) (.int i t)) Q X.xe s := by
  obtain ⟨z, its, n, r, hl, e⟩ := I.lstM hH
  refine PySem.P.delItem_list (k := k) e (fitsIndex_both h1 h2) (by rw [List.size_toArray, ← hl]; exact hk) (h _ ?_) (by rw [List.size_toArray]; omega)
  refine I.lset (its' := its.eraseIdx k) (t' := s.toks) hH e ?_ (r.eraseIdx k) ?_
  · show its.toArray.eraseIdxIfInBounds k = (its.eraseIdx k).toArray
    rw [List.eraseIdxIfInBounds_toArray]
  · have := len_erase xs k
    omega
end

/-! ### xs[a:b] = ys -/
section
variable {prog : Program} {w : World} {A : Around} {E : Value → Shared → Prop} {s : Shared}
theorem splice_eq (its its2 : List Value) (a c : Nat) : its.toArray.extract 0 a ++ its2.toArray ++ its.toArray.extract c its.toArray.size = (its.take a ++ its2 ++ its.drop c).toArray := by
  apply Array.toList_inj.mp
  first
    | (simp
       exact List.take_of_length_le (by simp))
    | simp [List.take_of_length_le]
    | simp
theorem bounds_run {a c n : Nat} (hac : a ≤ c) (hc : c ≤ n) : sliceBounds (some (a : Int)) (some (c : Int)) none n = ((a : Int), (c : Int), 1) := by
  simp only [sliceBounds, Option.getD_none]
  have h1 : ¬ ((a : Int) < 0) := by omega
  have h2 : ¬ ((c : Int) < 0) := by omega
  simp only [h1, h2, if_false, show (1 : Int) > 0 by decide, if_true]
  congr 1
  · omega
  · congr 1; omega
set_option maxRecDepth 100000 in
/-- list.__setitem__ with a slice of step one and another list -/
theorem setItem_slice {l b sl : Addr} {items new : Array Value} {n n2 : Nat} {vl vu : Value} {a c : Nat} {Q : Unit → Shared → Prop}
    (e : s.heap.get? l = some { cls := .type "list", data := .seq items n }) (e2 : s.heap.get? b = some { cls := .type "list", data := .seq new n2 }) (hne : l ≠ b)
    (hs : s.heap.IsSliceOf sl vl vu .none) (pl : IsPart vl (some (a : Int))) (pu : IsPart vu (some (c : Int))) (hac : a ≤ c) (hc : c ≤ items.size)
    (hsz : items.size + new.size ≤ sizeLine) (h : Q () { s with heap := s.heap.update l (Obj.mapSeq fun xs => xs.extract 0 a ++ new ++ xs.extract c xs.size) }) :
    wpAny (model prog w) A (setItem (.ref l) (.ref sl) (.ref b)) Q E s := by
  have hl : s.heap.IsList l items := PySem.IsL.isList e
  have hb : s.heap.IsList b new := PySem.IsL.isList e2
  obtain ⟨os, hos, hcs, hds⟩ := id hs
  have hTs : s.TypeIs (.ref sl) "slice" := ⟨os, hos, hcs⟩
  have hstep : ¬ ((rawPart none == rawInt 0) = true) := Bool.false_ne_true
  have hsame : Builtin.List.listSameRef (.ref l) (.ref b) = false := by
    unfold Builtin.List.listSameRef
    exact beq_eq_false_iff_ne.mpr hne
  have hmax : (max (a : Int) (c : Int)).toNat = c := by omega
  have hz' : ((fun xs : Array Value => xs.extract 0 a ++ new ++ xs.extract c xs.size) items).size ≤ sizeLine + 1 := by
    simp only [Array.size_append, Array.size_extract]
    omega
  unfold setItem
  try with_reducible refine wpAny_holding ?_
  first | refine wpAny_bind (wpAny_pure ?_) | skip
  refine wpAny_bind (wpAny_sequenceKey hl.typeIs (by decide) ?_)
  refine wpAny_bind (wpAny_callSpecial?_slot (name := Str.ofString "__setitem__") hl.typeIs slot_list_setitem
    (wpAny_call_entry slot_list_setitem hl.typeIs entry_list_setitem ?_ (args_list_setitem _ _ _)))
  show wpAny _ _ (Builtin.List.listSubscript? (.ref sl) >>= _) _ _ s
  refine wpAny_bind ?_
  unfold Builtin.List.listSubscript?
  refine wpAny_bind (wpAny_specialOf hTs slice_no_index ?_)
  simp only [Option.isNone_none, if_true]
  refine wpAny_pure ?_
  show wpAny _ _ (typeOf (.ref sl) >>= _) _ _ s
  refine wpAny_bind (wpAny_typeOf hTs ?_)
  first
    | rw [if_neg (by decide)]
    | refine PySem.W.KFB.if_not (by decide) ?_
  rw [listSliceParts_eq]
  refine wpAny_bind (wpAny_bind (wpAny_field hos hds (x := .none) rfl (wpAny_bind (wpAny_listPart .none ?_))))
  rw [if_neg hstep]
  refine wpAny_bind (wpAny_field hos hds (x := vl) rfl (wpAny_bind (wpAny_listPart pl ?_)))
  refine wpAny_bind (wpAny_field hos hds (x := vu) rfl (wpAny_bind (wpAny_listPart pu (wpAny_pure ?_))))
  first
    | simp only [hsame, Bool.false_eq_true, if_false]
    | refine PySem.W.KFB.if_not hsame ?_
    | (dsimp only
       rw [if_neg (by rw [hsame]; exact Bool.false_ne_true)])
  refine wpAny_bind (m := Builtin.List.listAllItems (.ref b) "must assign iterable to extended slice") ?_
  unfold Builtin.List.listAllItems
  refine wpAny_bind (wpAny_typeOf hb.typeIs ?_)
  first
    | refine PySem.W.KFB.if_so (by decide) ?_
    | rw [if_pos (by decide)]
    | simp only [beq_self_eq_true, Bool.true_or, if_true]
  unfold Builtin.List.listItems
  refine wpAny_bind (wpAny_seqItems e2 rfl (wpAny_pure ?_))
  refine wpAny_bind (wpAny_bind (wpAny_seqItems e rfl (wpAny_pure ?_)))
  refine wpAny_bind (wpAny_of_eq ((sliceIndices_raw (some (a : Int)) (some (c : Int)) none items.size (by simp)).trans (congrArg (pure : Int × Int × Int → Sem (Int × Int × Int)) (bounds_run hac hc))) ?_)
  show wpAny _ _ (if ((1 : Int) == 1) = true then _ else _) _ _ s
  rw [if_pos (by decide)]
  refine wpAny_bind (wpAny_rule ?_)
  first
    | simp only [notLongL hsz, Bool.false_eq_true, if_false]
    | refine PySem.W.KFB.if_not (notLongL hsz) ?_
  first | refine wpAny_bind (wpAny_pure ?_) | skip
  show wpAny _ _ (updateSeq l (fun xs => xs.extract 0 ((a : Int)).toNat ++ new ++ xs.extract (max (a : Int) (c : Int)).toNat xs.size) >>= _) _ _ s
  rw [hmax, Int.toNat_natCast]
  refine wpAny_bind (wpAny_updateSeq (hz := Nat.le_trans (Nat.le_add_right _ _) hsz) (_hz' := hz') e rfl ?_)
  refine wpAny_bind (wpAny_letGo ?_)
  first
    | exact wpAny_bind (wpAny_pure (wpAny_pure ⟨.none, rfl, wpAny_pure h⟩))
    | exact wpAny_pure ⟨.none, rfl, wpAny_pure h⟩
end

section
variable {X : Cx}
/-- xs[a:c] = ys of another list, at the value level: sl is the slice object that was just made -/
theorem set_slice {pins : List (Addr × Obj)} {s : Shared} {σ : St} {H : Hp} {l b sl : Addr} {xs ys : List V} {a c : Int} {vl vu : Value} {Q : Unit → Shared → Prop} (I : Inv X pins σ H s)
    (hH : H l = some (.lst xs)) (hB : H b = some (.lst ys)) (hne : l ≠ b) (hs : s.heap.IsSliceOf sl vl vu .none) (ra : RelV (.int a) vl) (rc : RelV (.int c) vu) (h0 : 0 ≤ a) (hac : a ≤ c) (hc : c ≤ xs.length)
    (hz : xs.length + ys.length ≤ sizeLine) (h : ∀ s', Inv X pins σ (upd H l (.lst (xs.take a.toNat ++ ys ++ xs.drop c.toNat))) s' → Q () s') :
    wpAny (model X.prog X.w) X.A (setItem (.ref l) (.ref sl) (.ref b)) Q X.xe s := by
  obtain ⟨ta, rfl⟩ := ra
  obtain ⟨tc, rfl⟩ := rc
  obtain ⟨z, its, n, r, hl, e⟩ := I.lstM hH
  obtain ⟨z2, its2, n2, r2, hl2, e2⟩ := I.lstM hB
  obtain ⟨a', rfl⟩ := Int.eq_ofNat_of_zero_le h0
  obtain ⟨c', rfl⟩ := Int.eq_ofNat_of_zero_le (Int.le_trans h0 hac)
  simp only [Int.toNat_natCast] at h
  refine setItem_slice (a := a') (c := c') e e2 hne hs (.int _ _) (.int _ _) (by omega) (by rw [List.size_toArray]; omega) (by rw [List.size_toArray, List.size_toArray]; omega) (h _ ?_)
  refine I.lset (its' := its.take a' ++ its2 ++ its.drop c') (t' := s.toks) hH e ?_ (Vals.append (Vals.append (r.take _) r2) (r.drop _)) ?_
  · exact splice_eq its its2 a' c'
  · rw [List.length_append, List.length_append, List.length_take, List.length_drop]
    omega
end
end L2

namespace Att
open PySem PySem.W PySem.Calls PyProof.Rows

/-! ### the script -/
theorem ints_of_wellAll {P : Params} {h : Heap} : ∀ (ns : List Int) (vs : List Value), WellAll P h vs (ns.map WData.int) → IntsAre vs ns := by
  intro ns
  induction ns with
  | nil =>
    intro vs w
    rw [List.map_nil] at w
    cases w
    exact .nil
  | cons n ns ih =>
    intro vs w
    rw [List.map_cons] at w
    cases w with
    | cons a b =>
      cases a
      exact .cons _ _ (ih _ b)

theorem script_of {l : OpenLaw} {n : Nat} (hn : l.most = some n) {P : Params} {h : Heap} {args : List WData} {vals : List Value}
    (hpre : l.row.toRowW.claim.pre args = true) (hwl : WellAll P h vals args) :
    ∃ a vs ns, vals = [Value.ref a] ∧ args = [WData.list (ns.map WData.int)] ∧ h.get? a = some { cls := .type "list", data := .seq vs.toArray } ∧ IntsAre vs ns ∧ ns.length ≤ n := by
  have hsh : WShape.hasAll [] args [.list .int] = true := (pre_splitW hpre).1
  have hc : l.pre.holds [] { args := args } = true := (pre_splitW hpre).2
  obtain ⟨d, r, rfl, h1, h2⟩ := hasAllW_cons hsh
  obtain rfl := hasAllW_nil h2
  obtain ⟨xs, rfl, h3⟩ := hasW_list h1
  obtain ⟨ns, rfl⟩ := items_int h3
  have hlen : ns.length ≤ n := by
    unfold OpenLaw.pre at hc
    have h4 : (WTm.not (.lt (.lit (.int (n : Int))) (.len (.arg 0)))).holds [] { args := [.list (ns.map .int)] } = true := by
      have h4 := (holds_andW hc).1
      rw [hn] at h4
      exact h4
    have h5 := condW_of h4 (w_not (w_lt w_lit (w_len_list (w_arg rfl))))
    rw [List.length_map] at h5
    refine Nat.le_of_not_lt fun q => ?_
    have q' : (n : Int) < ((ns.length : Nat) : Int) := by omega
    first
      | (rw [decide_eq_true q'] at h5; exact absurd h5 (by decide))
      | (simp at h5; omega)
  cases hwl with
  | cons w1 w2 =>
    cases w2
    cases w1 with
    | list ho hall => exact ⟨_, _, ns, rfl, rfl, ho, ints_of_wellAll ns _ hall, hlen⟩

theorem post_true (l : OpenLaw) (args : List WData) : l.row.toRowW.claim.post args (.bool true) args = true :=
  postW_of (r := l.row.toRowW) (X := (true == true))
    (show WShape.has [] (.bool true) .bool = true by first | rfl | decide | simp [WShape.has, WShape.arms, WShape.armsAll])
    (show (WTm.eq .res (.lit (.bool true))).value [] { args := args, res := some (.bool true), after := args } = some (.bool (true == true)) from w_eq_bool (w_res rfl) w_lit) rfl

/-! ### the attachment: holds_open's last premise (the goal 'hc' behind k_head) from a wpAny of the law's body -/
theorem attach {l : OpenLaw} {n : Nat} {q : Program} {loose : List Str} {XP : (Str → Option Value) → Heap → Prop} {YP : World → Heap → Prop} {d : DefRec} {x : Str}
    (hn : l.most = some n) (hdf : d.params.defaults = [])
    (hbind : ∀ pm cd doc v : Value, bindArgs (docDef d.name d.params d.body d.scope pm cd doc) ⟨[v], []⟩ = pure [(x, v)])
    (hx : d.scope.names.lookup x = some .local ∨ d.scope.names.lookup x = some .cell)
    (hk : d.scope.kind = .function) (hco : d.scope.isCoroutine = false) (hgen : d.scope.isGenerator = false)
    (body : ∀ (w : World) (s₀ s₁ s : Shared) (mg mb : Str → Option Value) (fa : Addr) (o : Obj) (pm cd doc : Value) (a : Addr) (vs : List Value) (ns : List Int),
      Ground q loose [] XP w s₀ mg mb s₁.heap → YP w s₁.heap →
      s₁.heap.get? fa = some o → o.data = .func (docDef d.name d.params d.body d.scope pm cd doc) → s₁.heap.CodeRec cd d.name → mg d.name = some (.ref fa) →
      s₁.heap.get? a = some { cls := .type "list", data := .seq vs.toArray } → IntsAre vs ns → ns.length ≤ n →
      s.gens = #[] → s.os = s₁.os →
      Fr s₁.heap s₁.heap.objs.size s.heap (bindL (envOfC d.name d.scope s₁.heap.objs.size fa cd).kindOf [(x, .ref a)] fun _ => none) →
      Cl s₁.heap.objs.size (cellsFrom (s₁.heap.objs.size + 1) d.scope.names []) s.heap (bindC (envOfC d.name d.scope s₁.heap.objs.size fa cd).kindOf [(x, .ref a)] fun _ => none) →
      wpAny (model l.prog w) (callerA.deeper (envOfC d.name d.scope s₁.heap.objs.size fa cd)) (execs d.body (envOfC d.name d.scope s₁.heap.objs.size fa cd))
        (fun f s' => f = .ret (.bool true) ∧ OldK s₁.heap s'.heap ∧ s'.os = s₁.os ∧ AllBare s'.gens) (fun _ _ => False) s) :
    WalkO q loose XP YP l.row.toRowW d [] (fun f vs => PySem.call f vs) := by
  intro w s₀ s₁ mg mb G Y fa o pm cd doc dV kV ho hd hcd hD hmg hg args vals as hpre hlay hrd hwl hlo
  obtain rfl : dV = .none := Dflts.none hD hdf
  obtain rfl : kV = .none := Dflts.noKw hD
  obtain ⟨a, vs, ns, rfl, rfl, hobj, hints, hlen⟩ := script_of hn hpre hwl
  refine enter_call ?_
  refine call_cells_ret (o := o) (by rw [depth_caller]; decide) ho (fd_plain hd) G.T.nolimit hcd (hbind pm cd doc (.ref a)) (fun y hy => ?_) (fun h₁ tk F X => ?_) hco hgen hk
  · obtain rfl : y = (x, Value.ref a) := List.mem_singleton.mp hy
    rcases hx with e | e
    · exact .inl e
    · exact .inr ⟨e, cellsFrom_some _ _ _ (.inl e)⟩
  · refine wpAny_mono (body w s₀ s₁ { s₁ with heap := h₁, toks := tk } mg mb fa o pm cd doc a vs ns G Y ho (fd_plain hd) hcd hmg hobj hints hlen hg rfl F X) (fun f s' hq => ?_) (fun _ _ hq => hq)
    obtain ⟨rfl, h2, h3, h4⟩ := hq
    exact ⟨.inl ⟨.bool true, .bool true, [], rfl, fun _ => rfl, .bool true, post_true l _, fun _ => ⟨List.Pairwise.nil, fun _ hm => (nomatch hm)⟩⟩, h2, h3, h4⟩

/-- the same from a codeAny of the CALL (for a layer whose function contracts speak of calls) -/
theorem attach_call {l : OpenLaw} {n : Nat} {q : Program} {loose : List Str} {XP : (Str → Option Value) → Heap → Prop} {YP : World → Heap → Prop} {d : DefRec}
    (hn : l.most = some n) (hdf : d.params.defaults = [])
    (call : ∀ (w : World) (s₀ s₁ : Shared) (mg mb : Str → Option Value) (fa : Addr) (o : Obj) (pm cd doc : Value) (a : Addr) (vs : List Value) (ns : List Int),
      Ground q loose [] XP w s₀ mg mb s₁.heap → YP w s₁.heap →
      s₁.heap.get? fa = some o → o.data = .func (docDef d.name d.params d.body d.scope pm cd doc) → s₁.heap.CodeRec cd d.name → mg d.name = some (.ref fa) →
      s₁.heap.get? a = some { cls := .type "list", data := .seq vs.toArray } → IntsAre vs ns → ns.length ≤ n → s₁.gens = #[] →
      codeAny (model l.prog w) callerA (.call (.ref fa) ⟨[.ref a], []⟩) (fun r s' => r = .ok (.ret (.bool true)) ∧ OldK s₁.heap s'.heap ∧ s'.os = s₁.os ∧ AllBare s'.gens) s₁) :
    WalkO q loose XP YP l.row.toRowW d [] (fun f vs => PySem.call f vs) := by
  intro w s₀ s₁ mg mb G Y fa o pm cd doc dV kV ho hd hcd hD hmg hg args vals as hpre hlay hrd hwl hlo
  obtain rfl : dV = .none := Dflts.none hD hdf
  obtain rfl : kV = .none := Dflts.noKw hD
  obtain ⟨a, vs, ns, rfl, rfl, hobj, hints, hlen⟩ := script_of hn hpre hwl
  refine enter_call (codeAny_mono (call w s₀ s₁ mg mb fa o pm cd doc a vs ns G Y ho (fd_plain hd) hcd hmg hobj hints hlen hg) fun r s' hq => ?_)
  obtain ⟨rfl, h2, h3, h4⟩ := hq
  exact ⟨.inl ⟨.bool true, .bool true, [], rfl, fun _ => rfl, .bool true, post_true l _, fun _ => ⟨List.Pairwise.nil, fun _ hm => (nomatch hm)⟩⟩, h2, h3, h4⟩

/-- the same where the top left finished generators (o_head chose holds_openN): nothing may have changed at all and no generator may be left -/
theorem attachN {l : OpenLaw} {n : Nat} {q : Program} {loose : List Str} {XP : (Str → Option Value) → Heap → Prop} {YP : World → Heap → Prop} {d : DefRec} {x : Str}
    (hn : l.most = some n) (hdf : d.params.defaults = [])
    (hbind : ∀ pm cd doc v : Value, bindArgs (docDef d.name d.params d.body d.scope pm cd doc) ⟨[v], []⟩ = pure [(x, v)])
    (hx : d.scope.names.lookup x = some .local ∨ d.scope.names.lookup x = some .cell)
    (hk : d.scope.kind = .function) (hco : d.scope.isCoroutine = false) (hgen : d.scope.isGenerator = false)
    (body : ∀ (w : World) (s₀ s₁ s : Shared) (mg mb : Str → Option Value) (fa : Addr) (o : Obj) (pm cd doc : Value) (a : Addr) (vs : List Value) (ns : List Int),
      Ground q loose [] XP w s₀ mg mb s₁.heap → YP w s₁.heap →
      s₁.heap.get? fa = some o → o.data = .func (docDef d.name d.params d.body d.scope pm cd doc) → s₁.heap.CodeRec cd d.name → mg d.name = some (.ref fa) →
      s₁.heap.get? a = some { cls := .type "list", data := .seq vs.toArray } → IntsAre vs ns → ns.length ≤ n →
      s.gens = #[] → s.os = s₁.os →
      Fr s₁.heap s₁.heap.objs.size s.heap (bindL (envOfC d.name d.scope s₁.heap.objs.size fa cd).kindOf [(x, .ref a)] fun _ => none) →
      Cl s₁.heap.objs.size (cellsFrom (s₁.heap.objs.size + 1) d.scope.names []) s.heap (bindC (envOfC d.name d.scope s₁.heap.objs.size fa cd).kindOf [(x, .ref a)] fun _ => none) →
      wpAny (model l.prog w) (callerA.deeper (envOfC d.name d.scope s₁.heap.objs.size fa cd)) (execs d.body (envOfC d.name d.scope s₁.heap.objs.size fa cd))
        (fun f s' => f = .ret (.bool true) ∧ (∀ b o, s₁.heap.get? b = some o → s'.heap.get? b = some o) ∧ s'.os = s₁.os ∧ s'.gens = #[]) (fun _ _ => False) s) :
    WalkN q loose XP YP l.row.toRowW d [] (fun f vs => PySem.call f vs) := by
  intro w s₀ s₁ mg mb G Y fa o pm cd doc dV kV ho hd hcd hD hmg hg args vals as hpre hlay hrd hwl hlo
  obtain rfl : dV = .none := Dflts.none hD hdf
  obtain rfl : kV = .none := Dflts.noKw hD
  obtain ⟨a, vs, ns, rfl, rfl, hobj, hints, hlen⟩ := script_of hn hpre hwl
  refine enter_callW ?_
  refine call_cells_ret (o := o) (by rw [depth_caller]; decide) ho (fd_plain hd) G.T.nolimit hcd (hbind pm cd doc (.ref a)) (fun y hy => ?_) (fun h₁ tk F X => ?_) hco hgen hk
  · obtain rfl : y = (x, Value.ref a) := List.mem_singleton.mp hy
    rcases hx with e | e
    · exact .inl e
    · exact .inr ⟨e, cellsFrom_some _ _ _ (.inl e)⟩
  · refine wpAny_mono (body w s₀ s₁ { s₁ with heap := h₁, toks := tk } mg mb fa o pm cd doc a vs ns G Y ho (fd_plain hd) hcd hmg hobj hints hlen hg rfl F X) (fun f s' hq => ?_) (fun _ _ hq => hq)
    obtain ⟨rfl, h2, h3, h4⟩ := hq
    exact ⟨.inl ⟨.bool true, .bool true, [], rfl, fun _ => rfl, .bool true, post_true l _, fun _ => ⟨List.Pairwise.nil, fun _ hm => (nomatch hm)⟩⟩, h2, h3, h4⟩

/-! ### rules over ANY heap (no ledger) from facts about the written part K: the library's own take a ledger (News) for what they write -/
section
variable {prog : Program} {w : World} {A : Around} {E : Value → Shared → Prop} {s : Shared} {K : Frag}

/-- a def of the module, or a method (qual 'C.m'), entered: the frame is the next address; cells behind it -/
theorem call_fn {R : Result → Shared → Prop} {name qual : Str} {params : Arguments} {body : List Stmt} {scope : Scope} {dV kV doc pm cdv ct oc : Value} {an od : Option Addr} {osl : Array (Option Value)} {f : Addr} {args : Args} {binds : List (Str × Value)}
    (X : K.In s.heap) (hlim : s.heap.NoLimit) (ho : K.lookup f = some ⟨oc, od, .func (fnOf name qual params body scope dV kV doc pm an cdv ct), osl⟩) (hcd : codeIn K cdv qual = true) (hroom : A.depth < recursionLimit)
    (hbind : BindsTo s (fnOf name qual params body scope dV kV doc pm an cdv ct) args binds)
    (hkind : (binds.all fun y => scope.names.lookup y.1 == some .local || scope.names.lookup y.1 == some .cell) = true)
    (h : ∀ s₁, InCallC s s.heap.objs.size (bindL (envOfC qual scope s.heap.objs.size f cdv).kindOf binds fun _ => none) (cellsFrom (s.heap.objs.size + 1) scope.names [])
        (bindC (envOfC qual scope s.heap.objs.size f cdv).kindOf binds fun _ => none) s₁ →
      wpAny (model prog w) (A.deeper (envOfC qual scope s.heap.objs.size f cdv)) (execs body (envOfC qual scope s.heap.objs.size f cdv))
        (fun fl s' => R (.ok (.ret (match fl with | .ret v => v | _ => .none))) s')
        (fun e s' => wpAny (model prog w) (A.deeper (envOfC qual scope s.heap.objs.size f cdv)) (leaving (envOfC qual scope s.heap.objs.size f cdv) e) (fun _ s'' => R (.error e) s'') (fun e' s'' => R (.error e') s'') s') s₁)
    (hco : scope.isCoroutine = false) (hgen : scope.isGenerator = false) (hk : scope.kind = .function) : codeAny (model prog w) A (.call (.ref f) args) R s := by
  refine codeAny_call_function hroom (X _ _ ho) rfl hco hgen rfl (codeRec_of X hcd) (hbind _ _ _ _ ?_)
  refine wpAny_newFunctionEnv_cells hk (kindsX hkind _) fun env he s₁ x => ?_
  subst he
  exact ⟨hlim.keeps x.toInCall.keep, codeAny_func (h s₁ x)⟩

/-- C(..): dict at size, instance at size + 1, then __init__ -/
theorem make_obj {R : Result → Shared → Prop} {C fI : Addr} {rest : List Value} {kw : List (Str × Value)}
    (X : K.In s.heap) (hm : makesIn K C = true) (hi : findIn K (.ref C) "__init__" = some (some (.ref fI))) (hf : isFn K (.ref fI) = true)
    (h : codeAny (model prog w) (A.under (.builtin "type.__call__" ⟨.ref C :: rest, kw⟩)) (.call (.ref fI) ⟨.ref (s.heap.objs.size + 1) :: rest, kw⟩) (InitBack (s.heap.objs.size + 1) R)
      { s with heap := (s.heap.push emptyDict).push (instObj C s.heap.objs.size) }) : codeAny (model prog w) A (.call (.ref C) ⟨rest, kw⟩) R s := by
  obtain ⟨hh, g, d, t, os⟩ := s
  exact make_core (makes_of X hm) (looks_findIn X hi) (fun self => bind_fn X self (beq_iff_eq.mp hf)) (.inl rfl) h

/-- x.name where the instance's dict holds the name and the class does not -/
theorem get_field {x C : Addr} {ox : Obj} {es : List DictEntry} {n : Nat} {name : Str} {expr : Bool} {v : Value} {Q : Value → Shared → Prop}
    (X : K.In s.heap) (I : PySem.W.InstAt s.heap x ox C (some (dictOf es n))) (hg : plainGet K C name = true) (hh : hasDictIn K C = true) (ha : findIn K (.ref C) name = some none)
    (hl : getL name es = some (some v)) (hv : handedIn v = true) (h : Q v { s with toks := s.toks + 1 }) : wpAny (model prog w) A (getAttr (.ref x) name expr) Q E s :=
  get_value X I (plainGet_of hg).1 (findObj_own hh ha rfl hl) hv h

/-- x.m(..): the method found in the class -/
theorem get_method {x C f : Addr} {ox : Obj} {es : List DictEntry} {n : Nat} {name : Str} {pl : Sem Bool} {Q : Value × List Value → Shared → Prop}
    (X : K.In s.heap) (I : PySem.W.InstAt s.heap x ox C (some (dictOf es n))) (hg : plainGet K C name = true) (hf : findIn K (.ref C) name = some (some (.ref f))) (ht : isFn K (.ref f) = true)
    (hl : getL name es = some none) (h : Q (.ref f, [.ref x]) s) : wpAny (model prog w) A (getMethod (.ref x) name pl) Q E s :=
  method_fn X I (plainGet_of hg).1 (plainGet_of hg).2 hf (beq_iff_eq.mp ht) (by show (lookIn name (dictOf es n)).map _ = _; rw [lookIn_dict, hl]; rfl) h

/-! the whole heap as the ledger: makes every rule that writes through a ledger a rule over any heap -/
def noObjs (h : Heap) : Heap := { h with objs := #[] }
theorem noObjs_get (h : Heap) (b : Addr) : (noObjs h).get? b = none := by
  cases e : (noObjs h).get? b with
  | none => rfl
  | some o => exact absurd (Heap.lt_size e) (Nat.not_lt_zero _)
def ledger (h : Heap) (L d : Addr) : List (Addr × Obj) := (List.range h.objs.size).filterMap fun a => if a = L ∨ a = d then none else (h.get? a).map fun o => (a, o)
theorem mem_ledger {h : Heap} {L d a : Addr} {o : Obj} : (a, o) ∈ ledger h L d ↔ a ≠ L ∧ a ≠ d ∧ h.get? a = some o := by
  unfold ledger
  rw [List.mem_filterMap]
  constructor
  · rintro ⟨b, _, e⟩
    split at e
    · cases e
    · rename_i hb
      obtain ⟨o', ho, e'⟩ := Option.map_eq_some_iff.mp e
      cases e'
      exact ⟨fun q => hb (.inl q), fun q => hb (.inr q), ho⟩
  · rintro ⟨n1, n2, ho⟩
    refine ⟨a, List.mem_range.mpr (Heap.lt_size ho), ?_⟩
    rw [if_neg (show ¬ (a = L ∨ a = d) from fun q => q.elim n1 n2), ho] <;> rfl
theorem news_ledger {h : Heap} {L d : Addr} {od : Obj} (hne : d ≠ L) (ho : h.get? d = some od) : News (noObjs h) L h ([] ++ (d, od) :: ledger h L d) := by
  rintro ⟨a, o⟩ hp
  rcases List.mem_cons.mp hp with e | hp
  · cases e
    exact ⟨ho, hne, noObjs_get _ _⟩
  · obtain ⟨n1, n2, e⟩ := mem_ledger.mp hp
    exact ⟨e, n1, noObjs_get _ _⟩
theorem fr_all {h : Heap} {L : Addr} {m : Str → Option Value} (n : h.Ns L m) : Fr (noObjs h) L h m :=
  ⟨n, fun b o e => (by rw [noObjs_get] at e; cases e), Nat.zero_le _⟩
/-- Upd of the head entry (for append_K, setItem_K ..) -/
theorem upd_ledger {h : Heap} {L d : Addr} {o o' : Obj} : Upd d o o' ((d, o) :: ledger h L d) ((d, o') :: ledger h L d) :=
  .head fun ⟨_, _⟩ hp => (mem_ledger.mp hp).2.1

/-- x.name = v over any heap: L is any namespace of the heap (the frame's, say): its map stays, its object is not told; all else but the dict stays -/
theorem set_field {x C dx L : Addr} {ox : Obj} {m : Str → Option Value} {es es' : List DictEntry} {n n' : Nat} {name : Str} {v : Value} {Q : Unit → Shared → Prop}
    (X : K.In s.heap) (I : PySem.W.InstAt s.heap x ox C (some (dictOf es n))) (hd : ox.dict = some dx) (hL : s.heap.Ns L m) (hne : dx ≠ L)
    (hs : findIn K (.ref C) "__setattr__" = some (some (.builtin "object.__setattr__"))) (hp : plainOver K C = true) (ht : takerIn K C name = some none) (hh : hasDictIn K C = true) (hl : (getL name es).isSome = true)
    (e : (putL name (PyData.keyHash w.params name) (.str name (s.toks + 1)) v es, putN name es n) = (es', n')) (hz : es'.length ≤ 1000)
    (h : ∀ h' : Heap, h'.Ns L m → h'.get? dx = some (dictOf es' n') → (∀ b o, b ≠ dx → b ≠ L → s.heap.get? b = some o → h'.get? b = some o) → Q () { s with heap := h', toks := s.toks + 2 }) :
    wpAny (model prog w) A (setAttr (.ref x) name v) Q E s := by
  obtain ⟨e1, e2⟩ := Prod.mk.inj e
  have hdx : s.heap.get? dx = some (dictOf es n) := by
    have := I.dict
    rw [hd] at this
    exact this
  refine set_plain X I hs (osa_dict (s := { s with toks := s.toks + 1 }) (h₀ := noObjs s.heap) (L := L) (m := m) (od := dictOf es n) (od' := dictOf es' n') (es := es') (n := n') (pre := []) (post := ledger s.heap L dx)
    (fr_all hL) (news_ledger hne hdx) X I hd hp ht hh hl (fun _ q => nomatch q) (fun ⟨_, _⟩ q => (mem_ledger.mp q).2.1) (by rw [putName_dict, e1, e2]) rfl hz fun h' F' N' => ?_)
  exact h h' F'.ns (N'.get (List.Mem.head _)) fun b o n1 n2 ho => N'.get (List.Mem.tail _ (mem_ledger.mpr ⟨n2, n1, ho⟩))
end
end Att

namespace L2
open PySem PySem.Spec PyProof.Rows

theorem vals_ints : ∀ {vs : List Value} {ns : List Int}, IntsAre vs ns → Vals (ns.map V.int) vs
  | _, _, .nil => .nil
  | _, _, .cons n t h => .cons ⟨t, rfl⟩ (vals_ints h)

/-- nothing is tracked but the script, known to the object (or it is an object of the module) -/
def Only (H : Hp) : Prop := ∀ b, H b = none ∨ ∃ o xs, H b = some (.frz o (.lst xs))

/-- THE HEAD: the law's promise, at the heap behind the top. F, the promise of the law's def, may use that base is part of the heap (so K.In base, base.Ns mainGlobals mg stand in Mod) -/
theorem law_call {P : Program} {w : World} {K : PySem.W.Frag} {mg mb : Str → Option Value} {CX : CXT} {k : Nat} {fa a : Addr} {fd : FuncData} {x : Str} {sp : Sp} {s₁ : Shared} {vs : List Value} {ns : List Int}
    (KX : K.In s₁.heap) (hns : s₁.heap.Ns mainGlobals mg) (hb : s₁.heap.Ns builtinsNs mb) (hbb : ∀ x : Str, x ≠ "__name__" → mb x = bootBuiltins x) (hlim : s₁.heap.NoLimit) (hg : s₁.gens = #[])
    (ha : s₁.heap.get? a = some { cls := .type "list", data := .seq vs.toArray }) (hi : IntsAre vs ns) (hl : ns.length ≤ sizeLine) (hr : Room k callerA)
    (F : ∀ base : Heap, K.In base → base.Ns mainGlobals mg → FnOk P w K mg base CX k fa fd [x] sp) (hbind : ∀ (s : Shared) (u : Value), BindsTo s fd ⟨[u], []⟩ [(x, u)])
    (hsp : ∀ H : Hp, Only H → SqL K H a (ns.map V.int) → sp [.ref a] H (fun v _ => v = .bl true) fun _ _ _ => False)
    (hCX : ∀ H e s', CX [] H s₁ (fun _ _ _ => False) e s' → False) :
    codeAny (model P w) callerA (.call (.ref fa) ⟨[.ref a], []⟩) (fun r s' => r = .ok (.ret (.bool true)) ∧ OldK s₁.heap s'.heap ∧ s'.os = s₁.os ∧ AllBare s'.gens) s₁ := by
  have rv := vals_ints hi
  have lenV := hi.length
  -- from an abstract heap in which nothing but the script may be tracked
  have core : ∀ H : Hp, Only H → SqL K H a (ns.map V.int) → HOk P w H s₁.heap → (∀ b, H b ≠ none → b = a) → (H a ≠ none → K.lookup a = none) →
      codeAny (model P w) callerA (.call (.ref fa) ⟨[.ref a], []⟩) (fun r s' => r = .ok (.ret (.bool true)) ∧ OldK s₁.heap s'.heap ∧ s'.os = s₁.os ∧ AllBare s'.gens) s₁ := by
    intro H hO hS hok hA hK
    have base_of : ∀ {b : Addr} {o : Obj}, s₁.heap.get? b = some o → H b = none → (hidT s₁.heap H).get? b = some o := fun e n => hidT_get e n
    have noA : ∀ {b : Addr} {o : Obj} {es : Array DictEntry} {ep : Nat}, s₁.heap.get? b = some o → o.data = .dict es ep → H b = none := fun {b o es ep} e d => by
      cases q : H b with
      | none => rfl
      | some u =>
        have e' : b = a := hA b (by rw [q]; simp)
        subst e'
        rw [ha] at e; cases e
        have d' : Data.seq vs.toArray _ = Data.dict es ep := d
        cases d'
    have nsK : ∀ {b : Addr} {m : Str → Option Value}, s₁.heap.Ns b m → (hidT s₁.heap H).Ns b m := fun {b m} ⟨o, es, ep, e, d, r⟩ => ⟨o, es, ep, base_of e (noA e d), d, r⟩
    have hKb : K.In (hidT s₁.heap H) := fun b o e => base_of (KX b o e) (by
      cases q : H b with
      | none => rfl
      | some u =>
        have e' : b = a := hA b (by rw [q]; simp)
        subst e'
        rw [hK (by rw [q]; simp)] at e; cases e)
    have hM : Mod K mg (hidT s₁.heap H) := ⟨hKb, nsK hns, ⟨mb, nsK hb, hbb⟩, let ⟨mc, h1, h2⟩ := hlim; ⟨mc, nsK h1, h2⟩⟩
    have e0 : Env0 P w K mg (hidT s₁.heap H) callerA [] s₁ H := ⟨rfl, hM, fun b o e => of_hidT e, Nat.le_of_eq (hidT_size _ _), trivial, fun b hb => absurd (show b ∈ ([] : List Addr) from hb) (by simp), hok, .of_eq hg⟩
    refine codeAny_mono ((F _ hKb (nsK hns)).run callerA [] s₁ H ⟨[.ref a], []⟩ [.ref a] [.ref a] _ _ hr e0 (hbind s₁ (.ref a)) (.cons rfl .nil) (hsp H hO hS)) fun r s' h => ?_
    cases r with
    | error e => exact (hCX H e s' h).elim
    | ok fl =>
      cases fl with
      | next => exact False.elim h
      | brk => exact False.elim h
      | cont => exact False.elim h
      | ret u =>
        obtain ⟨v, H', os, bare, un, hok', r', q⟩ := h
        have q' : v = .bl true := q
        subst q'
        obtain rfl : u = Value.bool true := r'
        refine ⟨rfl, OldK.of_keep fun b o e => ?_, os, bare⟩
        cases q : H b with
        | none => exact un.keep b o e q (by intro z; exact absurd (show b ∈ ([] : List Addr) from z) (by simp)) (by simp)
        | some u =>
          rcases hO b with z | ⟨ob, xs, z⟩
          · rw [q] at z; cases z
          · have z2 := un.frzs b ob _ z
            obtain ⟨e1, _⟩ := hok b _ z
            obtain ⟨e2, _⟩ := hok' b _ z2
            rw [e] at e1; cases e1
            exact e2
  cases hk : K.lookup a with
  | some o =>
    -- the script is one of the module's own objects
    have e := KX a o hk
    rw [ha] at e
    cases e
    refine core (fun _ => none) (fun _ => .inl rfl) (.inr ⟨_, vs.toArray, _, hk, rfl, rfl, rfl, by rw [List.size_toArray, lenV]; exact hl, by simpa using rv⟩) (fun b u z => by have z' : (none : Option HO) = some u := z; cases z') (fun b z => absurd rfl z) fun z => absurd rfl z
  | none =>
    refine core (fun b => if b = a then some (.frz { cls := .type "list", data := .seq vs.toArray } (.lst (ns.map V.int))) else none) (fun b => ?_) (.inl (.inr ⟨{ cls := .type "list", data := .seq vs.toArray }, if_pos rfl⟩)) (fun b u z => ?_) (fun b z => ?_) fun _ => hk
    · by_cases hb : b = a
      · exact .inr ⟨_, _, if_pos hb⟩
      · exact .inl (if_neg hb)
    · by_cases hb : b = a
      · have z' := (if_pos hb).symm.trans z
        cases z'
        subst hb
        exact ⟨ha, by rw [List.length_map]; exact hl, vs, _, rv, ha⟩
      · have z' := (if_neg hb).symm.trans z
        cases z'
    · by_cases hb : b = a
      · exact hb
      · exact absurd (if_neg hb) z
end L2

namespace L2
open PySem PySem.Spec PyProof.Rows

abbrev KOf {K : PySem.W.Frag} {h : Heap} (_ : K.In h) : PySem.W.Frag := K

/-- the goal that k_head leaves (case hc), from the law's promise. F gives the function object fd (K's own) once, then the promise over every base -/
theorem walk_of {l : PySem.W.OpenLaw} {n k : Nat} {q : Program} {loose : List Str} {XP : (Str → Option Value) → Heap → Prop} {YP : World → Heap → Prop} {d : DefRec} {K : Params → PySem.W.Frag} {CX : World → CXT} {sp : World → Sp} {x : Str}
    (hn : l.most = some n) (hn2 : n ≤ sizeLine) (hdf : d.params.defaults = []) (hr : Room k callerA)
    (hY : ∀ (w : World) (h : Heap), YP w h → (K w.params).In h)
    (F : ∀ (w : World) (mg : Str → Option Value) (fa : Addr) (h : Heap), (K w.params).In h → h.Ns mainGlobals mg → mg d.name = some (.ref fa) →
      ∃ fd : FuncData, (∀ (s : Shared) (u : Value), BindsTo s fd ⟨[u], []⟩ [(x, u)]) ∧
        ∀ base : Heap, (K w.params).In base → base.Ns mainGlobals mg → FnOk l.prog w (K w.params) mg base (CX w) k fa fd [x] (sp w))
    (hsp : ∀ (w : World) (H : Hp) (a : Addr) (ns : List Int), ns.length ≤ n → Only H → SqL (K w.params) H a (ns.map V.int) → sp w [.ref a] H (fun v _ => v = .bl true) fun _ _ _ => False)
    (hCX : ∀ (w : World) (H : Hp) (s : Shared) (e : Value) (s' : Shared), CX w [] H s (fun _ _ _ => False) e s' → False) :
    PySem.W.WalkO q loose XP YP l.row.toRowW d [] (fun f vs => PySem.call f vs) := by
  refine Att.attach_call hn hdf fun w s₀ s₁ mg mb fa o pm cd doc a vs ns G Y ho hd hcd hmg hobj hints hlen hg => ?_
  have KX := hY w _ Y
  obtain ⟨fd, hb, hF⟩ := F w mg fa _ KX G.T.g hmg
  exact law_call KX G.T.g G.T.b G.T.builtins G.T.nolimit hg hobj hints (Nat.le_trans hlen hn2) hr hF hb (fun H hO hS => hsp w H a ns hlen hO hS) fun H e s' => hCX w H s₁ e s'
/-- the same where the promise hangs on the written part alone: (sp := My.sp_law), no hole under a binder -/
theorem walk_ofK {l : PySem.W.OpenLaw} {n k : Nat} {q : Program} {loose : List Str} {XP : (Str → Option Value) → Heap → Prop} {YP : World → Heap → Prop} {d : DefRec} {K : Params → PySem.W.Frag} {CX : CXT} {sp : PySem.W.Frag → Sp} {x : Str}
    (hn : l.most = some n) (hn2 : n ≤ sizeLine) (hdf : d.params.defaults = []) (hr : Room k callerA)
    (hY : ∀ (w : World) (h : Heap), YP w h → (K w.params).In h)
    (F : ∀ (w : World) (mg : Str → Option Value) (fa : Addr) (h : Heap), (K w.params).In h → h.Ns mainGlobals mg → mg d.name = some (.ref fa) →
      ∃ fd : FuncData, (∀ (s : Shared) (u : Value), BindsTo s fd ⟨[u], []⟩ [(x, u)]) ∧
        ∀ base : Heap, (K w.params).In base → base.Ns mainGlobals mg → FnOk l.prog w (K w.params) mg base CX k fa fd [x] (sp (K w.params)))
    (hsp : ∀ (K : PySem.W.Frag) (H : Hp) (a : Addr) (ns : List Int), ns.length ≤ n → Only H → SqL K H a (ns.map V.int) → sp K [.ref a] H (fun v _ => v = .bl true) fun _ _ _ => False)
    (hCX : ∀ (H : Hp) (s : Shared) (e : Value) (s' : Shared), CX [] H s (fun _ _ _ => False) e s' → False) :
    PySem.W.WalkO q loose XP YP l.row.toRowW d [] (fun f vs => PySem.call f vs) :=
  walk_of (K := K) (CX := fun _ => CX) (sp := fun w => sp (K w.params)) hn hn2 hdf hr hY F (fun w H a ns h1 h2 h3 => hsp (K w.params) H a ns h1 h2 h3) fun _ H s e s' => hCX H s e s'
end L2

/- THE LAST THEOREM (shape; LID, My.* are yours):
   My.Adr: a structure of the addresses that your layer names (classes, functions); My.Txt K t: a structure (Prop) of the equations over K;
   My.txt_mk : {K} {implicit addresses ..} (e1 : nsIn K mainGlobals "law" = some (some (.ref f))) (e2 : K.lookup f = some ⟨oc, od, .func (fnOf "law" "law" params body scope dV kV doc pm an cdv ct), sl⟩) (e3 : codeIn K cdv "law" = true) .. : ∃ t, My.Txt K t

set_option maxRecDepth 100000 in
set_option maxHeartbeats 0 in
theorem PySem.Challenge.cw_LID_holds : PySem.Challenge.rw_LID.Holds := by
  w_on; o_law; k_head; (case hw => w_witness2)
  k_fill
  refine L2.walk_of (l := PySem.Challenge.rw_LID) (n := 63) (k := 40) (x := "script") (CX := fun w => ..) (sp := fun _ => My.sp_law) rfl (by decide) rfl ⟨rfl, by decide, by decide⟩ (fun w h Y => PySem.W.kIn_of Y) ?F ?S ?C
  case F =>
    intro w mg fa h KX G hmg
    have T : ∃ t, My.Txt (L2.KOf KX) t := by
      dsimp only [L2.KOf]                          -- K must stand as «<heap const> w.params» for k_is
      refine' My.txt_mk ?e1 ?e2 ?e3 ..
      (case e1 => PySem.W.k_is)                    -- in the order: a name -> its address -> its object -> its parts
      (case e2 => PySem.W.k_is)
      ..
    obtain ⟨t, T⟩ := T
    have e0 := hmg.symm.trans (PySem.W.mg_of KX G T.law)
    cases e0                                       -- fa is the law's own address
    exact ⟨_, fun s u => .of_eq rfl, fun base kb nb => My.law_fn T kb nb⟩     -- if «.of_eq rfl» comes too early: refine' ⟨_, ?b, fun base kb nb => My.law_fn T kb nb⟩; exact fun s u => .of_eq rfl
  case S => exact fun w H a ns hl hO hS => ..
  case C => exact ..
(the tactic k_is has no namespace: write k_is) -/

/-! SHORT WORDS over the layer: a def of the text, its body, what a loop and a test want. -/
namespace L2
open PySem PySem.Spec PyProof.Rows

/-! ### the text by places -/
/-- the j-th statement of a class's body -/
def inClass (s : Stmt) (j : Nat) : Stmt := match s with
  | .ClassDef _ _ _ body _ _ _ _ _ _ _ => body.getD j (.Pass ⟨0, 0, 0, 0⟩)
  | _ => .Pass ⟨0, 0, 0, 0⟩
def defArgs (s : Stmt) : Arguments := match s with
  | .FunctionDef _ a _ _ _ _ _ _ _ _ => a
  | _ => { posonlyargs := [], args := [], vararg := none, kwonlyargs := [], kw_defaults := [], kwarg := none, defaults := [] }
def defBody (s : Stmt) : List Stmt := match s with
  | .FunctionDef _ _ b _ _ _ _ _ _ _ => b
  | _ => []
def defScope (s : Stmt) : Scope := match s with
  | .FunctionDef _ _ _ _ _ _ sc _ _ _ => sc
  | _ => { kind := .function, names := [], isGenerator := false, isCoroutine := false }

/-! ### no exception leaves a def -/
abbrev CX0 : CXT := fun _ _ _ _ _ _ => False
abbrev E0 : XK := fun _ _ _ => False
theorem pass0 {X : Cx} : Passes CX0 X E0 := fun _ _ _ _ _ _ _ h => h.elim

/-! ### a def (or method) of the text as it stands behind the top -/
structure Fun (K : PySem.W.Frag) (x qual : Str) (st : Stmt) (f : Addr) (fd : FuncData) : Prop where
  ex : ∃ (oc : Value) (od : Option Addr) (kV doc pm : Value) (an : Option Addr) (cdv ct : Value) (osl : Array (Option Value)),
    fd = PySem.W.fnOf x qual (defArgs st) (defBody st) (defScope st) .none kV doc pm an cdv ct ∧ K.lookup f = some ⟨oc, od, .func fd, osl⟩ ∧ PySem.W.codeIn K cdv qual = true
  kp : PySem.W.keepIn K (.ref f) = true
section
variable {P : Program} {w : World} {K : PySem.W.Frag} {mg : Str → Option Value} {base : Heap}
/-- THE RULE for a def: its body as a term of rules, and the reading of that term -/
theorem Fun.ok {x qual : Str} {st : Stmt} {f : Addr} {fd : FuncData} {N ps : List Str} {k : Nat} {sp : Sp} (F : Fun K x qual st f fd) (S : FnScope N ps (defScope st)) (len : ∀ vs H Q E, sp vs H Q E → vs.length = ps.length)
    (hbody : ∀ (cdv : Value) (A : Around) (outer : List Env) (s : Shared) (H : Hp) (vs : List V) (Q : VK) (E : XK), Room k (A.deeper (envOfC qual (defScope st) s.heap.objs.size f cdv)) → sp vs H Q E →
      ∃ t, PSs (cxOf CX0 P w K mg base N qual (defScope st) f cdv A outer s H E).nox (defBody st) t ∧ t { nx := fun _ H' => Q .non H', rt := Q } (start N vs) H) : FnOk P w K mg base CX0 (k + 1) f fd ps sp := by
  obtain ⟨oc, od, kV, doc, pm, an, cdv, ct, osl, rfl, lk, hcd⟩ := F.ex
  refine fn_of lk hcd S len fun A outer s H vs Q E hr hsp => ?_
  obtain ⟨t, h, q⟩ := hbody cdv A outer s H vs Q E hr hsp
  exact ⟨t, h.nox, q⟩
/-- how its arguments bind (no defaults): h is «fun _ _ _ _ _ _ us hl => match us, hl with | [_, _], _ => rfl», one _ a parameter -/
theorem Fun.binds {x qual : Str} {st : Stmt} {f : Addr} {fd : FuncData} {ps : List Str} (F : Fun K x qual st f fd)
    (h : ∀ (kV doc pm : Value) (an : Option Addr) (cdv ct : Value) (us : List Value), us.length = ps.length → bindArgs (PySem.W.fnOf x qual (defArgs st) (defBody st) (defScope st) .none kV doc pm an cdv ct) ⟨us, []⟩ = pure (ps.zip us)) : Binds K fd ps [] := by
  obtain ⟨oc, od, kV, doc, pm, an, cdv, ct, osl, rfl, lk, hcd⟩ := F.ex
  exact .all (h kV doc pm an cdv ct)
theorem fun_mk {x qual : Str} {st : Stmt} {f : Addr} {oc : Value} {od an : Option Addr} {osl : Array (Option Value)} {kV doc pm cdv ct : Value} (l : K.lookup f = some ⟨oc, od, .func (PySem.W.fnOf x qual (defArgs st) (defBody st) (defScope st) .none kV doc pm an cdv ct), osl⟩)
    (c : PySem.W.codeIn K cdv qual = true) (k : PySem.W.keepIn K (.ref f) = true) : Fun K x qual st f (PySem.W.fnOf x qual (defArgs st) (defBody st) (defScope st) .none kV doc pm an cdv ct) := ⟨⟨oc, od, kV, doc, pm, an, cdv, ct, osl, rfl, l, c⟩, k⟩
end
theorem hu_of {A : Around} {k : Nat} (hr : Room k A) : A.units + 1 < cLine := Nat.lt_of_le_of_lt (Nat.add_le_add_left (by decide : 1 ≤ 64) _) hr.units
theorem small1000 {n : Nat} (h : n ≤ 1000) : n < sizeLine := Nat.lt_of_le_of_lt h (by decide)

/-! ### expressions in short: the name that stands in the i-th slot -/
section
variable {X : Cx}
theorem pv (i : Nat) {x : Str} {pos : Pos} (hN : X.N[i]? = some x := by rfl) (hv : Vis X.env.scope x := by first | exact Or.inl rfl | exact Or.inr (Or.inl rfl) | exact Or.inr (Or.inr rfl)) (hd : (x == ("__debug__" : Str)) = false := by decide)
    (hcd : (x == ("__classdict__" : Str)) = false := by decide) : PE X (.Name x pos) (tVar i) := pe_var hN hv hd hcd
/-- len of a dict -/
theorem call_lenD : CallR X (.builtin "len") (fun xs H Q => ∃ a kvs, xs = [V.ref a] ∧ H a = some (.dK kvs) ∧ Q (.int kvs.length) H) := by
  intro pins s σ H xs us Q I r h
  obtain ⟨a, kvs, rfl, ha, q⟩ := h
  obtain ⟨u, rfl, ru⟩ := vals1 r
  cases ru
  exact d_len I (.inl ha) fun t s' I' => ⟨.int kvs.length, H, I', ⟨t, rfl⟩, q⟩
end

/-! ### tests -/
theorem iteF {A B : Prop} (h : B) : if false = true then A else B := by
  rw [if_neg Bool.false_ne_true]
  exact h
theorem iteT {A B : Prop} (h : A) : if true = true then A else B := by
  rw [if_pos rfl]
  exact h
theorem ite2 {c A B : Prop} [Decidable c] (h1 : c → A) (h2 : ¬ c → B) : if c then A else B := by
  by_cases h : c
  · rw [if_pos h]
    exact h1 h
  · rw [if_neg h]
    exact h2 h
theorem iteNS {c A B : Prop} [Decidable c] (hc : c) (h : B) : if (!decide c) = true then A else B := by
  rw [decide_eq_true hc]
  exact iteF h

/-! ### heaps -/
/-- all that was tracked is as it was -/
def Same (H H' : Hp) : Prop := ∀ b o, H b = some o → H' b = some o
theorem Same.refl (H : Hp) : Same H H := fun _ _ h => h
theorem Same.trans {H H1 H2 : Hp} (a : Same H H1) (b : Same H1 H2) : Same H H2 := fun c o h => b c o (a c o h)
theorem Same.free {H H' : Hp} (e : Same H H') {l : Addr} (h : H' l = Option.none) : H l = Option.none := by
  cases q : H l with
  | none => rfl
  | some o =>
    rw [e l o q] at h
    cases h
theorem Same.seq {K : PySem.W.Frag} {H H' : Hp} {a : Addr} {xs : List V} (e : Same H H') (h : SqL K H a xs) : SqL K H' a xs := by
  rcases h with (h | ⟨o, h⟩) | h
  · exact .inl (.inl (e _ _ h))
  · exact .inl (.inr ⟨o, e _ _ h⟩)
  · exact .inr h

/-! ### a dict's pairs: keys that differ -/
section
variable {κ : Type} [DecidableEq κ]
theorem valV_not {kvs : List (κ × V)} {k : κ} (h : valV kvs k = none) : ¬ k ∈ kvs.map (·.1) := by
  intro m
  obtain ⟨p, hp, e⟩ := List.mem_map.mp m
  have q : (kvs.any fun kv => decide (kv.1 = k)) = true := List.any_eq_true.mpr ⟨p, hp, decide_eq_true e⟩
  rw [valV_any, h] at q
  exact absurd q (by simp)
theorem valV_in {kvs : List (κ × V)} {k : κ} {v : V} (h : valV kvs k = some v) : k ∈ kvs.map (·.1) := by
  have q : (kvs.any fun kv => decide (kv.1 = k)) = true := by
    rw [valV_any, h]
    all_goals rfl
  obtain ⟨p, hp, e⟩ := List.any_eq_true.mp q
  exact List.mem_map.mpr ⟨p, hp, of_decide_eq_true e⟩
theorem nd_snoc : ∀ {l : List κ} {k : κ}, l.Nodup → ¬ k ∈ l → (l ++ [k]).Nodup
  | [], k, _, _ => by simp
  | a :: r, k, h, hk => by
    obtain ⟨h1, h2⟩ := List.nodup_cons.mp h
    show (a :: (r ++ [k])).Nodup
    refine List.nodup_cons.mpr ⟨fun m => ?_, nd_snoc h2 fun m => hk (List.mem_cons.mpr (Or.inr m))⟩
    rcases List.mem_append.mp m with q | q
    · exact h1 q
    · exact hk (List.mem_cons.mpr (Or.inl (List.mem_singleton.mp q).symm))
theorem nd_putK {kvs : List (κ × V)} {k : κ} (v : V) (hn : (kvs.map (·.1)).Nodup) (h : valV kvs k = none) : ((putK kvs k v).map (·.1)).Nodup := by
  rw [putK_new v h, List.map_append]
  exact nd_snoc hn (valV_not h)
theorem dropK_pos {p : κ × V} {r : List (κ × V)} {k : κ} (e : p.1 = k) : dropK (p :: r) k = dropK r k := by
  unfold dropK
  rw [List.filter_cons, if_neg (by simp [e])]
theorem dropK_neg {p : κ × V} {r : List (κ × V)} {k : κ} (e : ¬ p.1 = k) : dropK (p :: r) k = p :: dropK r k := by
  unfold dropK
  rw [List.filter_cons, if_pos (by simp [e])]
theorem dropK_no : ∀ {kvs : List (κ × V)} {k : κ}, ¬ k ∈ kvs.map (·.1) → dropK kvs k = kvs
  | [], _, _ => rfl
  | p :: r, k, h => by
    have h' : ¬ k ∈ r.map (·.1) := fun m => by
      obtain ⟨q, hq, e⟩ := List.mem_map.mp m
      exact h (List.mem_map.mpr ⟨q, List.mem_cons.mpr (Or.inr hq), e⟩)
    rw [dropK_neg fun e => h (List.mem_map.mpr ⟨p, List.mem_cons.mpr (Or.inl rfl), e⟩), dropK_no h']
theorem dropK_mem {kvs : List (κ × V)} {k : κ} {p : κ × V} (h : p ∈ dropK kvs k) : p ∈ kvs := (List.mem_filter.mp h).1
theorem nd_dropK : ∀ {kvs : List (κ × V)} {k : κ}, (kvs.map (·.1)).Nodup → ((dropK kvs k).map (·.1)).Nodup
  | [], _, _ => List.nodup_nil
  | p :: r, k, h => by
    have h : (p.1 :: r.map (·.1)).Nodup := h
    obtain ⟨h1, h2⟩ := List.nodup_cons.mp h
    by_cases e : p.1 = k
    · rw [dropK_pos e]
      exact nd_dropK h2
    · rw [dropK_neg e]
      show (p.1 :: (dropK r k).map (·.1)).Nodup
      refine List.nodup_cons.mpr ⟨fun m => h1 ?_, nd_dropK h2⟩
      obtain ⟨q, hq, eq⟩ := List.mem_map.mp m
      exact List.mem_map.mpr ⟨q, dropK_mem hq, eq⟩
theorem dropK_len : ∀ {kvs : List (κ × V)} {k : κ}, (kvs.map (·.1)).Nodup → k ∈ kvs.map (·.1) → (dropK kvs k).length + 1 = kvs.length
  | [], _, _, m => by simp at m
  | p :: r, k, h, m => by
    have h : (p.1 :: r.map (·.1)).Nodup := h
    have m : k = p.1 ∨ k ∈ r.map (·.1) := List.mem_cons.mp m
    obtain ⟨h1, h2⟩ := List.nodup_cons.mp h
    by_cases e : p.1 = k
    · subst e
      rw [dropK_pos rfl, dropK_no h1]
      all_goals rfl
    · have m' : k ∈ r.map (·.1) := m.resolve_left fun z => e z.symm
      have q := dropK_len h2 m'
      rw [dropK_neg e, List.length_cons, List.length_cons]
      omega
end
end L2

set_option Elab.async false
set_option linter.all false
set_option maxRecDepth 100000
set_option maxHeartbeats 4100000
/-! MORE RULES over the layer: defs by their names; isinstance. -/
namespace L2
open PySem PySem.Spec PyProof.Rows

/-- a def of the text that is called by its name, with its promise -/
def Has (P : Program) (w : World) (K : PySem.W.Frag) (mg : Str → Option Value) (base : Heap) (k : Nat) (x : Str) (ps : List Str) (sp : Sp) : Prop :=
  ∃ (f : Addr) (fd : FuncData), FnOk P w K mg base CX0 k f fd ps sp ∧ mg x = some (.ref f) ∧ PySem.W.keepIn K (.ref f) = true ∧ Binds K fd ps []
theorem Has.mono {P : Program} {w : World} {K : PySem.W.Frag} {mg : Str → Option Value} {base : Heap} {j k : Nat} {x : Str} {ps : List Str} {sp : Sp} (h : Has P w K mg base j x ps sp) (hjk : j ≤ k) : Has P w K mg base k x ps sp := by
  obtain ⟨f, fd, F, r⟩ := h
  exact ⟨f, fd, F.mono hjk, r⟩
section
variable {X : Cx} {k : Nat} {x : Str} {ps : List Str} {sp : Sp} {p pos : Pos} {e : Expr} {es : List Expr} {t : TA}
theorem pe_fn (h : Has X.prog X.w X.K X.mg X.base k x ps sp) (hr : Room k X.A) (ha : PA X (e :: es) t) (hg : Gl X x := by rfl) (hdb : (x == ("__debug__" : Str)) = false := by decide)
    (he : starEach (e :: es) X.env = (false, eval e X.env) :: starEach es X.env := by rfl) (hpl : (backTo pos (starEach es X.env)).any (·.1) = false := by rfl) :
    PE X (.Call (.Name x p) (e :: es) [] pos) (tCall sp [] E0 t) := by
  obtain ⟨f, fd, F, hm, hk, hb⟩ := h
  exact pe_call F hr hg hm hk hb .nil pass0 ha hdb he hpl
end

/-! ### isinstance -/
def ObjK (K : PySem.W.Frag) (H : Hp) (p : Addr) : Prop := (∃ xs, SqL K H p xs) ∨ (∃ xs, SqT K H p xs) ∨ ∃ kvs, Rd H p (.dK kvs)
def isIntV (K : PySem.W.Frag) (x : V) (H : Hp) (b : Bool) : Prop := match x with
  | .non => b = false | .bl _ => b = true | .int _ => b = true | .str _ => b = false
  | .ref p => b = false ∧ ObjK K H p
  | _ => False
def isBoolV (K : PySem.W.Frag) (x : V) (H : Hp) (b : Bool) : Prop := match x with
  | .non => b = false | .bl _ => b = true | .int _ => b = false | .str _ => b = false
  | .ref p => b = false ∧ ObjK K H p
  | _ => False
def isStrV (K : PySem.W.Frag) (x : V) (H : Hp) (b : Bool) : Prop := match x with
  | .non => b = false | .bl _ => b = false | .int _ => b = false | .str _ => b = true
  | .ref p => b = false ∧ ObjK K H p
  | _ => False
def isTupV (K : PySem.W.Frag) (x : V) (H : Hp) (b : Bool) : Prop := match x with
  | .non => b = false | .bl _ => b = false | .int _ => b = false | .str _ => b = false
  | .ref p => (b = true ∧ ∃ xs, SqT K H p xs) ∨ (b = false ∧ ((∃ xs, SqL K H p xs) ∨ ∃ kvs, Rd H p (.dK kvs)))
  | _ => False
def isLstV (K : PySem.W.Frag) (x : V) (H : Hp) (b : Bool) : Prop := match x with
  | .non => b = false | .bl _ => b = false | .int _ => b = false | .str _ => b = false
  | .ref p => (b = true ∧ ∃ xs, SqL K H p xs) ∨ (b = false ∧ ((∃ xs, SqT K H p xs) ∨ ∃ kvs, Rd H p (.dK kvs)))
  | _ => False
section
variable {X : Cx}
def rIs (T : String) (r : V → Hp → Bool → Prop) : List V → Hp → VK → Prop := fun xs H Q => ∃ x b, xs = [x, .ty T] ∧ r x H b ∧ Q (.bl b) H
theorem inst_yes {pins : List (Addr × Obj)} {s : Shared} {σ : St} {H : Hp} {Q : VK} {u : Value} {S T : String} (I : Inv X pins σ H s) (ht : s.TypeIs u S) (m : typeOf (.type T) = pure (.type "type")) (sb : isSubtype (.type S) (.type T) = pure true) (q : Q (.bl true) H) :
    wpAny (model X.prog X.w) X.A (call (.builtin "isinstance") [u, .type T]) (EP X pins σ Q) X.xe s := call_isinstance_yes ht m sb ⟨.bl true, H, I, rfl, q⟩
theorem lst_obj {pins : List (Addr × Obj)} {s : Shared} {σ : St} {H : Hp} {p : Addr} {xs : List V} (I : Inv X pins σ H s) (h : SqL X.K H p xs) : ∃ o, s.heap.get? p = some o ∧ o.cls = .type "list" := by
  obtain ⟨its, _, ⟨o, n, e, c, _⟩, _⟩ := I.list h
  exact ⟨o, e, c⟩
theorem tup_obj {pins : List (Addr × Obj)} {s : Shared} {σ : St} {H : Hp} {p : Addr} {xs : List V} (I : Inv X pins σ H s) (h : SqT X.K H p xs) : ∃ o, s.heap.get? p = some o ∧ o.cls = .type "tuple" := by
  obtain ⟨its, _, ⟨o, e, c, _⟩, _⟩ := I.tuple h
  exact ⟨o, e, c⟩
theorem dk_obj {pins : List (Addr × Obj)} {s : Shared} {σ : St} {H : Hp} {p : Addr} {kvs : List (Key × V)} (I : Inv X pins σ H s) (h : Rd H p (.dK kvs)) : ∃ o, s.heap.get? p = some o ∧ o.cls = .type "dict" := by
  obtain ⟨_, _, vs, _, o, _, _, e, x, _⟩ := dk_rd I.hok h
  exact ⟨o, e, x.1⟩
section
variable {pins : List (Addr × Obj)} {s : Shared} {σ : St} {H : Hp} {Q : VK} {T : String} {p : Addr}
theorem no_non (I : Inv X pins σ H s) (hne : (Value.type "NoneType" == Value.type T) = false) (m : typeOf (.type T) = pure (.type "type")) (sb : isSubtype (.type "NoneType") (.type T) = pure false) (q : Q (.bl false) H) :
    wpAny (model X.prog X.w) X.A (call (.builtin "isinstance") [.none, .type T]) (EP X pins σ Q) X.xe s := PySem.call_isinstance (isinstance_false_none hne m sb) ⟨.bl false, H, I.tok _, rfl, q⟩
theorem no_bl {b : Bool} (I : Inv X pins σ H s) (hne : (Value.type "bool" == Value.type T) = false) (m : typeOf (.type T) = pure (.type "type")) (sb : isSubtype (.type "bool") (.type T) = pure false) (q : Q (.bl false) H) :
    wpAny (model X.prog X.w) X.A (call (.builtin "isinstance") [.bool b, .type T]) (EP X pins σ Q) X.xe s := PySem.call_isinstance (isinstance_false_bool hne m sb) ⟨.bl false, H, I.tok _, rfl, q⟩
theorem no_int {i : Int} {t : Tok} (I : Inv X pins σ H s) (hne : (Value.type "int" == Value.type T) = false) (m : typeOf (.type T) = pure (.type "type")) (sb : isSubtype (.type "int") (.type T) = pure false) (q : Q (.bl false) H) :
    wpAny (model X.prog X.w) X.A (call (.builtin "isinstance") [.int i t, .type T]) (EP X pins σ Q) X.xe s := PySem.call_isinstance (isinstance_false_int hne m sb) ⟨.bl false, H, I.tok _, rfl, q⟩
theorem no_str {z : Str} {t : Tok} (I : Inv X pins σ H s) (hne : (Value.type "str" == Value.type T) = false) (m : typeOf (.type T) = pure (.type "type")) (sb : isSubtype (.type "str") (.type T) = pure false) (q : Q (.bl false) H) :
    wpAny (model X.prog X.w) X.A (call (.builtin "isinstance") [.str z t, .type T]) (EP X pins σ Q) X.xe s := PySem.call_isinstance (isinstance_false_str hne m sb) ⟨.bl false, H, I.tok _, rfl, q⟩
theorem no_lst {xs : List V} (I : Inv X pins σ H s) (h : SqL X.K H p xs) (hne : (Value.type "list" == Value.type T) = false) (m : typeOf (.type T) = pure (.type "type")) (sb : isSubtype (.type "list") (.type T) = pure false) (q : Q (.bl false) H) :
    wpAny (model X.prog X.w) X.A (call (.builtin "isinstance") [.ref p, .type T]) (EP X pins σ Q) X.xe s := PySem.call_isinstance (isinstance_false_list hne m sb) ⟨lst_obj I h, ⟨.bl false, H, I.tok _, rfl, q⟩⟩
theorem no_tup {xs : List V} (I : Inv X pins σ H s) (h : SqT X.K H p xs) (hne : (Value.type "tuple" == Value.type T) = false) (m : typeOf (.type T) = pure (.type "type")) (sb : isSubtype (.type "tuple") (.type T) = pure false) (q : Q (.bl false) H) :
    wpAny (model X.prog X.w) X.A (call (.builtin "isinstance") [.ref p, .type T]) (EP X pins σ Q) X.xe s := PySem.call_isinstance (isinstance_false_tuple hne m sb) ⟨tup_obj I h, ⟨.bl false, H, I.tok _, rfl, q⟩⟩
theorem no_dk {kvs : List (Key × V)} (I : Inv X pins σ H s) (h : Rd H p (.dK kvs)) (hne : (Value.type "dict" == Value.type T) = false) (m : typeOf (.type T) = pure (.type "type")) (sb : isSubtype (.type "dict") (.type T) = pure false) (q : Q (.bl false) H) :
    wpAny (model X.prog X.w) X.A (call (.builtin "isinstance") [.ref p, .type T]) (EP X pins σ Q) X.xe s := PySem.call_isinstance (isinstance_false_dict hne m sb) ⟨dk_obj I h, ⟨.bl false, H, I.tok _, rfl, q⟩⟩
theorem no_obj (I : Inv X pins σ H s) (h : ObjK X.K H p) (m : typeOf (.type T) = pure (.type "type")) (n1 : (Value.type "list" == Value.type T) = false) (s1 : isSubtype (.type "list") (.type T) = pure false)
    (n2 : (Value.type "tuple" == Value.type T) = false) (s2 : isSubtype (.type "tuple") (.type T) = pure false) (n3 : (Value.type "dict" == Value.type T) = false) (s3 : isSubtype (.type "dict") (.type T) = pure false) (q : Q (.bl false) H) :
    wpAny (model X.prog X.w) X.A (call (.builtin "isinstance") [.ref p, .type T]) (EP X pins σ Q) X.xe s := by
  rcases h with ⟨xs, h⟩ | ⟨xs, h⟩ | ⟨kvs, h⟩
  · exact no_lst I h n1 m s1 q
  · exact no_tup I h n2 m s2 q
  · exact no_dk I h n3 m s3 q
end
theorem call_isInt : CallR X (.builtin "isinstance") (rIs "int" (isIntV X.K)) := by
  intro pins s σ H xs us Q I r h
  obtain ⟨x, b, rfl, hx, q⟩ := h
  obtain ⟨u, u', rfl, r1, r2⟩ := vals2 r
  cases r2
  cases x with
  | non => cases r1; cases (show b = false from hx); exact no_non I (by decide) meta_int sub_NoneType_int q
  | bl z => cases r1; cases (show b = true from hx); exact inst_yes I rfl meta_int sub_bool_int q
  | int z => obtain ⟨t, rfl⟩ := r1; cases (show b = true from hx); exact inst_yes I rfl meta_int sub_int_int q
  | str z => obtain ⟨t, rfl⟩ := r1; cases (show b = false from hx); exact no_str I (by decide) meta_int sub_str_int q
  | ref p => cases r1; obtain ⟨rfl, o⟩ := hx; exact no_obj I o meta_int (by decide) sub_list_int (by decide) sub_tuple_int (by decide) sub_dict_int q
  | _ => exact False.elim hx
theorem call_isBool : CallR X (.builtin "isinstance") (rIs "bool" (isBoolV X.K)) := by
  intro pins s σ H xs us Q I r h
  obtain ⟨x, b, rfl, hx, q⟩ := h
  obtain ⟨u, u', rfl, r1, r2⟩ := vals2 r
  cases r2
  cases x with
  | non => cases r1; cases (show b = false from hx); exact no_non I (by decide) meta_bool sub_NoneType_bool q
  | bl z => cases r1; cases (show b = true from hx); exact inst_yes I rfl meta_bool sub_bool_bool q
  | int z => obtain ⟨t, rfl⟩ := r1; cases (show b = false from hx); exact no_int I (by decide) meta_bool sub_int_bool q
  | str z => obtain ⟨t, rfl⟩ := r1; cases (show b = false from hx); exact no_str I (by decide) meta_bool sub_str_bool q
  | ref p => cases r1; obtain ⟨rfl, o⟩ := hx; exact no_obj I o meta_bool (by decide) sub_list_bool (by decide) sub_tuple_bool (by decide) sub_dict_bool q
  | _ => exact False.elim hx
theorem call_isStr : CallR X (.builtin "isinstance") (rIs "str" (isStrV X.K)) := by
  intro pins s σ H xs us Q I r h
  obtain ⟨x, b, rfl, hx, q⟩ := h
  obtain ⟨u, u', rfl, r1, r2⟩ := vals2 r
  cases r2
  cases x with
  | non => cases r1; cases (show b = false from hx); exact no_non I (by decide) meta_str sub_NoneType_str q
  | bl z => cases r1; cases (show b = false from hx); exact no_bl I (by decide) meta_str sub_bool_str q
  | int z => obtain ⟨t, rfl⟩ := r1; cases (show b = false from hx); exact no_int I (by decide) meta_str PyProof.Rows.sub_int_str q
  | str z => obtain ⟨t, rfl⟩ := r1; cases (show b = true from hx); exact inst_yes I rfl meta_str sub_str_str q
  | ref p => cases r1; obtain ⟨rfl, o⟩ := hx; exact no_obj I o meta_str (by decide) sub_list_str (by decide) sub_tuple_str (by decide) sub_dict_str q
  | _ => exact False.elim hx
theorem call_isTup : CallR X (.builtin "isinstance") (rIs "tuple" (isTupV X.K)) := by
  intro pins s σ H xs us Q I r h
  obtain ⟨x, b, rfl, hx, q⟩ := h
  obtain ⟨u, u', rfl, r1, r2⟩ := vals2 r
  cases r2
  cases x with
  | non => cases r1; cases (show b = false from hx); exact no_non I (by decide) meta_tuple sub_NoneType_tuple q
  | bl z => cases r1; cases (show b = false from hx); exact no_bl I (by decide) meta_tuple sub_bool_tuple q
  | int z => obtain ⟨t, rfl⟩ := r1; cases (show b = false from hx); exact no_int I (by decide) meta_tuple sub_int_tuple q
  | str z => obtain ⟨t, rfl⟩ := r1; cases (show b = false from hx); exact no_str I (by decide) meta_tuple sub_str_tuple q
  | ref p =>
    cases r1
    rcases hx with ⟨rfl, xs, o⟩ | ⟨rfl, ⟨xs, o⟩ | ⟨kvs, o⟩⟩
    · exact inst_yes I (tup_obj I o) meta_tuple sub_tuple_tuple q
    · exact no_lst I o (by decide) meta_tuple sub_list_tuple q
    · exact no_dk I o (by decide) meta_tuple sub_dict_tuple q
  | _ => exact False.elim hx
theorem call_isLst : CallR X (.builtin "isinstance") (rIs "list" (isLstV X.K)) := by
  intro pins s σ H xs us Q I r h
  obtain ⟨x, b, rfl, hx, q⟩ := h
  obtain ⟨u, u', rfl, r1, r2⟩ := vals2 r
  cases r2
  cases x with
  | non => cases r1; cases (show b = false from hx); exact no_non I (by decide) meta_list sub_NoneType_list q
  | bl z => cases r1; cases (show b = false from hx); exact no_bl I (by decide) meta_list sub_bool_list q
  | int z => obtain ⟨t, rfl⟩ := r1; cases (show b = false from hx); exact no_int I (by decide) meta_list sub_int_list q
  | str z => obtain ⟨t, rfl⟩ := r1; cases (show b = false from hx); exact no_str I (by decide) meta_list sub_str_list q
  | ref p =>
    cases r1
    rcases hx with ⟨rfl, xs, o⟩ | ⟨rfl, ⟨xs, o⟩ | ⟨kvs, o⟩⟩
    · exact inst_yes I (lst_obj I o) meta_list sub_list_list q
    · exact no_tup I o (by decide) meta_list sub_tuple_list q
    · exact no_dk I o (by decide) meta_list sub_dict_list q
  | _ => exact False.elim hx
end
end L2

namespace L2
open PySem PySem.Spec PyProof.Rows
theorem bt_len : bootBuiltins "len" = some (.builtin "len") := by decide +kernel
theorem bt_min : bootBuiltins "min" = some (.builtin "min") := by decide +kernel
theorem bt_max : bootBuiltins "max" = some (.builtin "max") := by decide +kernel
theorem bt_ord : bootBuiltins "ord" = some (.builtin "ord") := by decide +kernel
theorem bt_sum : bootBuiltins "sum" = some (.builtin "sum") := by decide +kernel
theorem bt_sorted : bootBuiltins "sorted" = some (.builtin "sorted") := by decide +kernel
theorem bt_isinstance : bootBuiltins "isinstance" = some (.builtin "isinstance") := by decide +kernel
theorem bt_int : bootBuiltins "int" = some (.type "int") := by decide +kernel
theorem bt_bool : bootBuiltins "bool" = some (.type "bool") := by decide +kernel
theorem bt_str : bootBuiltins "str" = some (.type "str") := by decide +kernel
theorem bt_list : bootBuiltins "list" = some (.type "list") := by decide +kernel
theorem bt_tuple : bootBuiltins "tuple" = some (.type "tuple") := by decide +kernel
theorem bt_dict : bootBuiltins "dict" = some (.type "dict") := by decide +kernel
theorem bt_set : bootBuiltins "set" = some (.type "set") := by decide +kernel

theorem Same.seqT {K : PySem.W.Frag} {H H' : Hp} {a : Addr} {xs : List V} (e : Same H H') (h : SqT K H a xs) : SqT K H' a xs := by
  rcases h with (h | ⟨o, h⟩) | h
  · exact .inl (.inl (e _ _ h))
  · exact .inl (.inr ⟨o, e _ _ h⟩)
  · exact .inr h
theorem Same.new {H : Hp} {p : Addr} {o : HO} (h : H p = none) : Same H (upd H p o) := fun b u e => by rw [upd_ne (ne_of_none e h)]; exact e
theorem Same.then {H H1 : Hp} {p : Addr} {o : HO} (s : Same H H1) (h : H1 p = none) : Same H (upd H1 p o) := s.trans (Same.new h)
theorem SqT.new {K : PySem.W.Frag} {H : Hp} {p : Addr} {xs : List V} : SqT K (upd H p (.tup xs)) p xs := SqT.of upd_same
theorem SqL.new {K : PySem.W.Frag} {H : Hp} {p : Addr} {xs : List V} : SqL K (upd H p (.lst xs)) p xs := SqL.of upd_same

/-! ### deeds -/
/-- a deed, its guard a value (None, or a tuple that stands in the heap) -/
inductive Deed where
  | put (x : Str) (n : Int) (g : V)
  | get (c x : Str) (g : V)
  | swap (c x : Str) (n : Int) (g : V)
  | fence (g : V)
  | bar (g : V)
def Deed.items : Deed → List V
  | .put x n g => [.str "put", .str x, .int n, g]
  | .get c x g => [.str "get", .str c, .str x, g]
  | .swap c x n g => [.str "swap", .str c, .str x, .int n, g]
  | .fence g => [.str "fence", g]
  | .bar g => [.str "bar", g]
def Deed.place : Deed → V
  | .put x _ _ => .str x | .get _ x _ => .str x | .swap _ x _ _ => .str x | _ => .non
def Deed.writes : Deed → Bool
  | .put _ _ _ => true | .swap _ _ _ _ => true | _ => false
def Deed.reads : Deed → Bool
  | .get _ _ _ => true | .swap _ _ _ _ => true | _ => false
def Deed.number : Deed → V
  | .put _ n _ => .int n | .swap _ _ n _ => .int n | _ => .non
def Deed.cup : Deed → V
  | .get c _ _ => .str c | .swap c _ _ _ => .str c | _ => .non
def Deed.guard : Deed → V
  | .put _ _ g => g | .get _ _ g => g | .swap _ _ _ g => g | .fence g => g | .bar g => g
/-- a guard as it stands in the heap -/
def Gd (K : PySem.W.Frag) (H : Hp) (g : V) : Prop := g = .non ∨ ∃ (q : Addr) (w c : Str) (n : Int), g = .ref q ∧ SqT K H q [.str w, .str c, .int n]
theorem Gd.same {K : PySem.W.Frag} {H H' : Hp} {g : V} (s : Same H H') (h : Gd K H g) : Gd K H' g := by
  rcases h with h | ⟨q, w, c, n, e, h⟩
  · exact .inl h
  · exact .inr ⟨q, w, c, n, e, s.seqT h⟩
end L2

namespace L2
open PySem PySem.Spec PyProof.Rows
section
variable {X : Cx} {st : Stmt} {rest : List Stmt} {t u : TS}
/-- a statement, then the rest, by a word R that holds between both -/
def tCut (t u : TS) : TS := fun D σ H => ∃ R : St → Hp → Prop, t { D with nx := R } σ H ∧ ∀ σ' H', R σ' H' → u D σ' H'
theorem pss_cut (h1 : PS X st t) (h2 : PSs X rest u) : PSs X (st :: rest) (tCut t u) := by
  intro pins s σ H D I h
  obtain ⟨R, h, hR⟩ := h
  refine wpAny_execs_cons (thn (h1 pins s σ H { D with nx := R } I h) fun f s1 q => ?_)
  cases f with
  | next =>
    obtain ⟨σ', H', I', q⟩ := q
    exact h2 pins s1 σ' H' D I' (hR σ' H' q)
  | brk => exact q
  | cont => exact q
  | ret v => exact q
end
theorem qb {Q : VK} {H : Hp} {b b' : Bool} (q : Q (.bl b) H) (e : b = b') : Q (.bl b') H := e ▸ q
theorem ifT {b : Bool} {A B : Prop} (e : b = true) (h : A) : if b = true then A else B := by rw [if_pos e]; exact h
theorem ifF {b : Bool} {A B : Prop} (e : b = false) (h : B) : if b = true then A else B := by rw [if_neg (by rw [e]; exact Bool.false_ne_true)]; exact h
theorem ifDt {c A B : Prop} [Decidable c] (hc : c) (h : A) : if decide c = true then A else B := ifT (decide_eq_true hc) h
theorem ifDf {c A B : Prop} [Decidable c] (hc : ¬ c) (h : B) : if decide c = true then A else B := ifF (decide_eq_false hc) h
theorem ifNt {c A B : Prop} [Decidable c] (hc : ¬ c) (h : A) : if (!decide c) = true then A else B := ifT (by rw [decide_eq_false hc]; rfl) h
theorem ifNf {c A B : Prop} [Decidable c] (hc : c) (h : B) : if (!decide c) = true then A else B := ifF (by rw [decide_eq_true hc]; rfl) h
theorem ifB {b : Bool} {A B : Prop} (h1 : b = true → A) (h2 : b = false → B) : if b = true then A else B := by
  cases b with
  | true => exact ifT rfl (h1 rfl)
  | false => exact ifF rfl (h2 rfl)
theorem ifD {c A B : Prop} [Decidable c] (h1 : c → A) (h2 : ¬ c → B) : if decide c = true then A else B := by
  by_cases h : c
  · exact ifDt h (h1 h)
  · exact ifDf h (h2 h)
end L2

set_option Elab.async false
set_option linter.all false
set_option maxRecDepth 100000
set_option maxHeartbeats 4100000
/-! RULES for dicts: list(d), dict(d), d == e. -/
namespace L2
open PySem PySem.Spec PyProof.Rows
theorem vals_of : ∀ {xs : List V} {us : List Value}, xs.length = us.length → (∀ (j : Nat) x u, xs[j]? = some x → us[j]? = some u → RelV x u) → Vals xs us
  | [], [], _, _ => .nil
  | x :: xs, u :: us, hl, h => .cons (h 0 x u rfl rfl) (vals_of (by simpa using hl) fun j y v e1 e2 => h (j + 1) y v (by simpa using e1) (by simpa using e2))
  | [], u :: us, hl, _ => absurd hl (by simp)
  | x :: xs, [], hl, _ => absurd hl (by simp)
theorem relV_key {k : Key} {v : Value} (h : keyIs k v = true) : RelV (kV k) v := by
  rcases keyIs_shape h with ⟨i, t, rfl, rfl⟩ | ⟨x, t, rfl, rfl⟩
  · exact ⟨t, rfl⟩
  · exact ⟨t, rfl⟩
section
variable {X : Cx}
theorem call_list_d (hc : X.calm = true) : CallR X (.type "list") (fun xs H Q => ∃ p kvs, xs = [.ref p] ∧ Rd H p (.dK kvs) ∧ ∀ l, H l = none → Q (.ref l) (upd H l (.lst (kvs.map fun kv => kV kv.1)))) := by
  intro pins s σ H xs us Q I r h
  obtain ⟨p, kvs, rfl, hd, q⟩ := h
  obtain ⟨u, rfl, ru⟩ := vals1 r
  cases ru
  obtain ⟨z, hs, vs, rel, dd⟩ := dk_rd I.hok hd
  obtain ⟨ep, hat⟩ := dd.dictAt
  refine PySem.W.kdl_call (PySem.W.kdl_dict (knd := mixKind X.prog X.w) (kvs := vs) (ep := ep) hs) (I.ok.hd hc) hat (by rw [← rel.length]; exact z) fun h' tk acc' c' hk hD hacc => ?_
  refine ⟨.ref s.heap.objs.size, _, I.laid (a := s.heap.objs.size) (o := .lst (kvs.map fun kv => kV kv.1)) (t' := tk) hk (Nat.le_refl _) ?_, rfl, q _ (I.hok.fresh (Nat.le_refl _))⟩
  have hl : kvs.length = vs.length := rel.length
  refine ⟨by rw [List.length_map]; exact z, acc'.toList, c', vals_of ?_ fun j x u e1 e2 => ?_, by rw [Array.toArray_toList]; exact hD⟩
  · have e1 : acc'.toList.length = acc'.size := Array.length_toList
    rw [List.length_map, e1, hacc.1, hl]
  · obtain ⟨k, y, e3, hk2⟩ := hacc.2 j u (by rw [← Array.getElem?_toList]; exact e2)
    have ek : kvs.map (·.1) = vs.map (·.1) := rel.keys
    have e4 : (vs.map (·.1))[j]? = some k := by rw [List.getElem?_map, e3]; rfl
    rw [← ek, List.getElem?_map] at e4
    rw [List.getElem?_map] at e1
    cases e5 : kvs[j]? with
    | none => rw [e5] at e1; cases e1
    | some kv =>
      rw [e5] at e1 e4
      have a1 : kV kv.1 = x := Option.some.inj e1
      have a2 : kv.1 = k := Option.some.inj e4
      rw [← a1, a2]
      exact relV_key hk2
theorem call_dict_of : CallR X (.type "dict") (fun xs H Q => ∃ p kvs, xs = [.ref p] ∧ Rd H p (.dK kvs) ∧ ∀ l, H l = none → Q (.ref l) (upd H l (.dK kvs))) := by
  intro pins s σ H xs us Q I r h
  obtain ⟨p, kvs, rfl, hd, q⟩ := h
  obtain ⟨u, rfl, ru⟩ := vals1 r
  cases ru
  exact d_copyOf I hd fun l s' hl I' => ⟨.ref l, _, I', rfl, q l hl⟩
theorem eqV_self {v : V} (h : flatV v = true) : eqV v v = true := by
  cases v with
  | non => rfl
  | bl b => simp [eqV]
  | int i => simp [eqV]
  | str x => simp [eqV]
  | _ => cases h
theorem hits_same {A : Around} {s : Shared} {kvs : List (Key × V)} {kb : List (Key × Value)} (rb : KV kvs kb) : ∀ {l : List (Key × V)} {ka : List (Key × Value)}, KV l ka →
    (∀ kv ∈ l, valV kvs kv.1 = some kv.2 ∧ flatV kv.2 = true) → PySem.W.KeqHits A s kb ka true := by
  intro l ka r
  induction r with
  | nil => intro _; exact .nil
  | @cons p q l' ka' hpq rest ih =>
    intro h
    obtain ⟨h1, h2⟩ := h p (List.mem_cons_self ..)
    obtain ⟨k, v⟩ := q
    obtain ⟨e1, e2⟩ := hpq
    have e1' : p.1 = k := e1
    have rv := KV.val rb k
    rw [← e1', h1] at rv
    cases hy : valueAt kb k with
    | none => rw [← e1'] at hy; rw [hy] at rv; exact rv.elim
    | some y =>
      have hy' := hy
      rw [← e1'] at hy'
      rw [hy'] at rv
      have t : PySem.SeqAt.EqAt A s v y (eqV p.2 p.2) := eqAt_V e2 rv h2 h2
      rw [eqV_self h2] at t
      exact PySem.W.KeqHits.hit (e := true) (b := true) hy t (ih fun kv hkv => h kv (List.mem_cons_of_mem _ hkv))
theorem valV_mem {kvs : List (Key × V)} (nd : (kvs.map (·.1)).Nodup) : ∀ kv ∈ kvs, valV kvs kv.1 = some kv.2 := by
  induction kvs with
  | nil => intro kv h; cases h
  | cons p r ih =>
    intro kv h
    have nd' : (p.1 :: r.map (·.1)).Nodup := nd
    obtain ⟨n1, n2⟩ := List.nodup_cons.mp nd'
    rcases List.mem_cons.mp h with rfl | h
    · exact valV_pos rfl
    · rw [valV_neg fun e => n1 (List.mem_map.mpr ⟨kv, h, e.symm⟩)]
      exact ih n2 kv h
theorem op_eqD (hu : X.A.units < cLine) : OpR X (compareOp .Eq) (fun x y H Q => ∃ a b kvs, x = .ref a ∧ y = .ref b ∧ Rd H a (.dK kvs) ∧ Rd H b (.dK kvs) ∧ (∀ kv ∈ kvs, flatV kv.2 = true) ∧ Q (.bl true) H) := by
  intro pins s σ H x y v u Q I rx ry h
  obtain ⟨a, b, kvs, rfl, rfl, ha, hb, hf, q⟩ := h
  cases rx
  cases ry
  obtain ⟨_, la, va, ra, da⟩ := dk_rd I.hok ha
  obtain ⟨_, lb, vb, rb, db⟩ := dk_rd I.hok hb
  have nd : (kvs.map (·.1)).Nodup := by
    rw [ra.keys]
    obtain ⟨o, es, ep, _, _, _, _, _, hn⟩ := da
    exact hn
  have hl : va.length = vb.length := by rw [← ra.length, ← rb.length]
  refine PySem.W.keq_eq la lb da db hu (fun _ => hits_same rb ra fun kv hkv => ⟨valV_mem nd kv hkv, hf kv hkv⟩) ?_
  have e : (va.length == vb.length && true) = true := by simp [hl]
  rw [e]
  exact ⟨.bl true, H, I, rfl, q⟩
end
end L2
namespace L2
open PySem PySem.Spec PyProof.Rows
theorem hu_of0 {A : Around} {k : Nat} (hr : Room k A) : A.units < cLine := hr.units0
end L2
namespace L2
open PySem PySem.Spec PyProof.Rows
theorem atI_ints {cs : List Int} {z : Int} (h0 : 0 ≤ z) (h1 : z < (cs.length : Int)) : atI (cs.map V.int) z = some (.int (cs.getD z.toNat 0)) := by
  obtain ⟨j, rfl⟩ := Int.eq_ofNat_of_zero_le h0
  have hj : j < cs.length := by omega
  refine atI_nat ?_
  rw [List.getElem?_map, List.getElem?_eq_getElem hj, Int.toNat_natCast, List.getD_eq_getElem?_getD, List.getElem?_eq_getElem hj]
  rfl
theorem cut_ints (ns : List Int) (lo hi : Option Int) : ∃ cs : List Int, cutV (ns.map V.int) lo hi = cs.map V.int ∧ cs.length ≤ ns.length :=
  ⟨(ns.drop (HT.sIx (ns.map V.int).length 0 lo)).take (HT.sIx (ns.map V.int).length (ns.map V.int).length hi - HT.sIx (ns.map V.int).length 0 lo), by rw [List.map_take, List.map_drop]; rfl, by rw [List.length_take, List.length_drop]; omega⟩
end L2

set_option Elab.async false
set_option linter.all false
set_option maxRecDepth 100000
set_option maxHeartbeats 4100000
/-! LIST COMPREHENSIONS over the layer: one clause, at most one test, any target. -/
namespace L2
open PySem PySem.Spec PyProof.Rows

/-- the tests of one clause, as the loop asks them -/
abbrev askAll (ifs : List Expr) (cenv : Env) : Sem Bool := forIn ifs true fun q r => if r = true then do let y ← isTrue q cenv (eval q cenv); pure (ForInStep.yield y) else pure (ForInStep.yield r)
abbrev NoEx : Value → Shared → Prop := fun _ _ => False
/-- a turn of a comprehension's loop, whatever its target -/
theorem codeAny_compLoop_any {prog : Program} {w : World} {A : Around} {R : Result → Shared → Prop} {s : Shared} {elt target iter : Expr} {ifs : List Expr} {scope : Scope} {pos : Pos} {it acc : Value} {cenv : Env} (W : Nat → Shared → Prop)
    (turn : ∀ n sa, W n sa → wpAny (model prog w) A (pyNext it) (fun got sb => match got with
      | none => R (.ok .next) sb
      | some v => wpAny (model prog w) A (letOwnedTupleGo target it v) (fun _ sc => wpAny (model prog w) A (assign target cenv v) (fun _ sd =>
          wpAny (model prog w) A (askAll ifs cenv) (fun yes se =>
            if yes = true then wpAny (model prog w) A (eval elt cenv) (fun x sf =>
              wpAny (model prog w) A (call (.builtin "list.append") [acc, x]) (fun _ sg => ∃ m, m < n ∧ W m sg) NoEx sf) NoEx se
            else ∃ m, m < n ∧ W m se) NoEx sd) NoEx sc) NoEx sb) NoEx sa)
    (n : Nat) (h : W n s) : codeAny (model prog w) A (.compLoop (.ListComp elt [⟨target, iter, ifs, 0⟩] scope pos) 0 it acc cenv) R s := by
  refine codeAny_loop rfl W (fun n sa hW => ?_) n h
  show wpAny _ A ((compTurn (.ListComp elt [⟨target, iter, ifs, 0⟩] scope pos) 0 it acc cenv).onRaise (fun x => do noteFrame x cenv; theTreesLotGoes x)) _ _ sa
  refine wpAny_noted ?_
  rw [compTurn_list]
  refine wpAny_bind (wpAny_standAt (wpAny_bind (wpAny_mono (turn n sa hW) (fun got sb hb => ?_) fun _ _ z => z.elim)))
  cases got with
  | none => exact wpAny_pure hb
  | some v =>
    refine wpAny_bind (wpAny_mono hb (fun _ sc hc => ?_) fun _ _ z => z.elim)
    refine wpAny_bind (wpAny_mono hc (fun _ sd hd => wpAny_bind (wpAny_mono hd (fun yes se he => ?_) fun _ _ z => z.elim)) fun _ _ z => z.elim)
    cases yes with
    | false => exact wpAny_pure (And.intro rfl he)
    | true =>
      exact wpAny_bind (wpAny_bind (wpAny_mono he (fun x sf hf => wpAny_bind (wpAny_mono hf (fun _ sg hg => wpAny_pure (wpAny_pure ⟨rfl, hg⟩)) fun _ _ z => z.elim)) fun _ _ z => z.elim))

/-- the context of a comprehension's block -/
def Cx.comp (X : Cx) (Nc : List Str) (scope : Scope) (cl : List (Str × Addr)) (C : Addr) (s3 : Shared) (H3 : Hp) (fp : List Addr) (pins : List (Addr × Obj)) : Cx :=
  { X with N := Nc, s₀ := s3, H₀ := H3, env := compEnvC scope cl C X.env, outer := X.stack, ex := fp, fn := fun _ => false, pn := X.pn ++ pins, xe := fun _ _ => False }
/-- the captured names: their slots around, their names -/
inductive Caps (X : Cx) (scope : Scope) : List Nat → List Str → Prop
  | nil : Caps X scope [] []
  | cons {j : Nat} {y : Str} {js : List Nat} {ys : List Str} : X.N[j]? = some y → X.env.kindOf y = some .cell → (relabel scope X.env).names.lookup y = some .cell → Caps X scope js ys → Caps X scope (j :: js) (y :: ys)
inductive CapsCl (X : Cx) : List (Str × Addr) → Prop
  | nil : CapsCl X []
  | cons {n : Str} {c : Addr} {r : List (Str × Addr)} : X.env.cells.lookup n = some c → CapsCl X r → CapsCl X ((n, c) :: r)
theorem CapsCl.at {X : Cx} : ∀ {cl : List (Str × Addr)}, CapsCl X cl → ∀ x c, cl.lookup x = some c → X.env.cells.lookup x = some c
  | _, .nil, _, _, h => by cases h
  | (n, d) :: r, .cons h1 h2, x, c, h => by
    rw [List.lookup_cons] at h
    cases e : x == n with
    | true =>
      rw [e] at h
      have : d = c := Option.some.inj h
      subst this
      rw [eq_of_beq e]
      exact h1
    | false => rw [e] at h; exact CapsCl.at h2 x c h
structure CompSc (X : Cx) (Nc : List Str) (nt : Nat) (js : List Nat) (scope : Scope) (cl : List (Str × Addr)) : Prop where
  clos : closureFor scope X.env = pure cl
  kind : scope.kind = .function
  cell : (scope.names.all fun y => y.2 != .cell) = true
  names : (scope.names.all fun y => y.2 != .local || scope.names.lookup y.1 == some .local) = true
  cls : CapsCl X cl
  has : (scope.names.all fun y => y.2 != .free || (cl.lookup y.1).isSome) = true
  caps : ∃ ts ys, Nc = ts ++ ys ∧ ts.length = nt ∧ Caps X scope js ys
def capsOf (σ : St) (nt : Nat) (js : List Nat) : St := List.replicate nt none ++ js.map fun j => (σ[j]?).getD none
theorem Caps.length {X : Cx} {scope : Scope} : ∀ {js : List Nat} {ys : List Str}, Caps X scope js ys → js.length = ys.length
  | _, _, .nil => rfl
  | _, _, .cons _ _ _ r => by rw [List.length_cons, List.length_cons, r.length]
theorem Caps.get {X : Cx} {scope : Scope} : ∀ {js : List Nat} {ys : List Str}, Caps X scope js ys → ∀ (i : Nat) y, ys[i]? = some y → ∃ j, js[i]? = some j ∧ X.N[j]? = some y ∧ X.env.kindOf y = some .cell ∧ (relabel scope X.env).names.lookup y = some .cell
  | _, _, .nil, i, y, h => by simp at h
  | _, _, .cons h1 h2 h3 r, 0, y, h => by
    simp at h; subst h
    exact ⟨_, rfl, h1, h2, h3⟩
  | _, _, .cons _ _ _ r, i + 1, y, h => by
    obtain ⟨j, a⟩ := r.get i y (by simpa using h)
    exact ⟨j, by simpa using a.1, a.2⟩
theorem relabel_free {scope : Scope} {env : Env} (hc : (scope.names.all fun y => y.2 != .cell) = true) {x : Str} {k : NameKind} (hk : k = .cell ∨ k = .free) (h : (relabel scope env).names.lookup x = some k) : (x, NameKind.free) ∈ scope.names := by
  have hm : (x, k) ∈ (relabel scope env).names := PySem.mem_of_lookup h
  obtain ⟨⟨n, k'⟩, hp, e⟩ := List.mem_map.mp hm
  have nc : k' ≠ .cell := by
    have := List.all_eq_true.mp hc _ hp
    simpa using this
  dsimp only at e
  split at e
  · rename_i cond
    have e1 : n = x := congrArg Prod.fst e
    have kf : k' = .free := by
      simp only [Bool.and_eq_true, beq_iff_eq] at cond
      exact cond.1.1
    rw [← e1, ← kf]
    exact hp
  · have e1 : n = x := congrArg Prod.fst e
    have e2 : k' = k := congrArg Prod.snd e
    rcases hk with z | z
    · exact absurd (e2.trans z) nc
    · rw [← e1, ← (e2.trans z)]
      exact hp
section
variable {X : Cx} {Nc : List Str} {nt : Nat} {js : List Nat} {scope : Scope} {cl : List (Str × Addr)}
theorem CompSc.lk (S : CompSc X Nc nt js scope cl) {x : Str} {k : NameKind} (hk : k = .cell ∨ k = .free) (h : (relabel scope X.env).names.lookup x = some k) : ∃ c, cl.lookup x = some c := by
  have hm := relabel_free S.cell hk h
  have := List.all_eq_true.mp S.has _ hm
  have h2 : (cl.lookup x).isSome = true := by simpa using this
  exact Option.isSome_iff_exists.mp h2
/-- the block's context is sound, and its invariant holds at its start -/
theorem comp_start {pins : List (Addr × Obj)} {σ : St} {H3 : Hp} {s3 : Shared} {fp : List Addr} {h1 : Heap} {m : Str → Option Value} {tk : Nat} (S : CompSc X Nc nt js scope cl) (I : Inv X pins σ H3 s3)
    (hf : ∀ b ∈ fp, FpOk X pins H3 b) (hfo : ∀ b ∈ fp, ∃ o, s3.heap.get? b = some o) (hns : h1.Ns s3.heap.objs.size m) (hk : ∀ b o, s3.heap.get? b = some o → h1.get? b = some o) :
    Inv (X.comp Nc scope cl s3.heap.objs.size s3 H3 fp pins) [] (capsOf σ nt js) H3 { s3 with heap := h1, toks := tk } := by
  have fresh : H3 s3.heap.objs.size = none := I.hok.fresh (Nat.le_refl _)
  have nst : ∀ b ∈ fp, b ∉ frs X.stack := fun b hb z => by
    obtain ⟨_, n1, n2, _⟩ := hf b hb
    rcases List.mem_cons.mp (I.stkSub b z) with e | e
    · exact n1 e
    · exact n2 e
  have ok : (X.comp Nc scope cl s3.heap.objs.size s3 H3 fp pins).Ok := by
    refine ⟨I.ok.mod, S.kind, I.ok.glob, I.ok.blt, Nat.le_refl _, fun x y c a b => I.ok.inj x y c (S.cls.at x c a) (S.cls.at y c b), fun x hx => ?_, fun x c z => ?_, I.ok.hd, I.ok.frames, .inl rfl, fun b hb => ⟨?_, fun x c e => ?_⟩, I.bs, Nat.le_trans I.ok.bsz I.sz, fun b o e hb => ?_, nst, I.stack, I.stkFree⟩
    · rcases hx with hx | hx
      · exact S.lk (.inl rfl) hx
      · exact S.lk (.inr rfl) hx
    · exact absurd (show false = true from z) Bool.false_ne_true
    · obtain ⟨o, ho⟩ := hfo b hb
      exact Nat.ne_of_lt (Heap.lt_size ho)
    · exact (hf b hb).2.2.2.2.1 x c (S.cls.at x c e)
    · rcases (hf b hb).2.2.2.1 with z | z
      · exact I.ok.noex b o e z
      · exact absurd (Nat.lt_of_lt_of_le (Heap.lt_size e) (Nat.le_trans I.ok.bsz z)) (Nat.lt_irrefl _)
  have cellAt : ∀ x c v, X.env.cells.lookup x = some c → s3.heap.IsCell c v → h1.IsCell c v := fun x c v _ ⟨o, ho, hd⟩ => ⟨o, hk _ _ ho, hd⟩
  refine ⟨ok, rfl, I.bare, Un.kept hk, ⟨m, hns, fun i y v e1 e2 e3 => ?_⟩, fun x c e => ?_, fresh, fun x c e => I.freeC x c (S.cls.at x c e), fun p hp => ?_, I.hok.kept hk, ?_⟩
  · obtain ⟨ts, ys, hN, hnt, hc⟩ := S.caps
    have e1 : Nc[i]? = some y := e1
    by_cases hi : i < nt
    · unfold capsOf at e2
      rw [List.getElem?_append_left (by simpa using hi), List.getElem?_replicate] at e2
      split at e2 <;> cases e2
    · rw [hN, List.getElem?_append_right (by omega)] at e1
      unfold capsOf at e2
      rw [List.getElem?_append_right (by simpa using hi), List.length_replicate, List.getElem?_map] at e2
      rw [hnt] at e1
      obtain ⟨j, a1, a2, a3, a4⟩ := hc.get _ y e1
      rw [a1] at e2
      have e2' : (σ[j]?).getD none = some v := Option.some.inj e2
      have e2'' : σ[j]? = some (some v) := by
        cases q : σ[j]? with
        | none => rw [q] at e2'; cases e2'
        | some z => rw [q] at e2'; exact congrArg some e2'
      obtain ⟨mX, hnX, hlX⟩ := I.loc
      obtain ⟨u, r, l⟩ := hlX j y v a2 e2'' (.inr (.inl a3))
      refine ⟨u, r, .inr ⟨.inl a4, ?_⟩⟩
      rcases l with ⟨k1, _⟩ | ⟨_, c, hc1, hc2⟩
      · rw [a3] at k1; cases k1
      · obtain ⟨c', hc'⟩ := S.lk (.inl rfl) a4
        have := S.cls.at y c' hc'
        rw [hc1] at this
        have e : c = c' := Option.some.inj this
        subst e
        exact ⟨c, hc', cellAt y c _ hc1 hc2⟩
  · obtain ⟨v, z⟩ := I.cell x c (S.cls.at x c e)
    exact ⟨v, cellAt x c v (S.cls.at x c e) z⟩
  · have hp' : p ∈ X.pn ++ pins := by
      have hp : p ∈ (X.pn ++ pins) ++ [] := hp
      rwa [List.append_nil] at hp
    obtain ⟨e, n, ne, nf, d⟩ := I.pin p hp'
    refine ⟨hk _ _ e, n, Nat.ne_of_lt (Heap.lt_size e), fun z => ?_, d⟩
    rcases List.mem_cons.mp (I.stkSub p.1 z) with q | q
    · exact ne q
    · exact nf q
  · obtain ⟨ts, ys, hN, hnt, hc⟩ := S.caps
    show (capsOf σ nt js).length = Nc.length
    unfold capsOf
    rw [hN, List.length_append, List.length_append, List.length_replicate, List.length_map, hc.length, hnt]
/-- behind the block -/
theorem comp_end {pins : List (Addr × Obj)} {σ : St} {H3 Hf : Hp} {s3 s' : Shared} {fp : List Addr} {σ' : St} {pins' : List (Addr × Obj)} (I : Inv X pins σ H3 s3) (hf : ∀ b ∈ fp, FpOk X pins H3 b)
    (Ic : Inv (X.comp Nc scope cl s3.heap.objs.size s3 H3 fp pins) pins' σ' Hf s') : Inv X pins σ Hf s' ∧ FpOk X pins Hf s3.heap.objs.size ∧ ∃ m, s'.heap.Ns s3.heap.objs.size m := by
  obtain ⟨m, hn, _⟩ := Ic.loc
  refine ⟨I.call' Ic.os Ic.base Ic.hok Ic.bare fun b hb => ?_, I.fpOk (Nat.le_refl _) Ic.free, m, hn⟩
  obtain ⟨_, n1, _, n3, n4, n5⟩ := hf b hb
  exact ⟨n3, n1, n4, n5⟩
end

/-- the tests of a clause -/
def PTs (X : Cx) (ifs : List Expr) (t : TT) : Prop :=
  ∀ (pins : List (Addr × Obj)) (s : Shared) (σ : St) (H : Hp) (Q : Bool → Hp → Prop), Inv X pins σ H s → t σ H Q →
    wpAny (model X.prog X.w) X.A (askAll ifs X.env) (TP X pins σ Q) X.xe s
def tTrue : TT := fun _ H Q => Q true H
theorem pts_nil {X : Cx} : PTs X [] tTrue := fun pins s σ H Q I h => wpAny_tests_nil ⟨H, I, h⟩
theorem pts_one {X : Cx} {c : Expr} {t : TT} (h : PT X c t) : PTs X [c] t := fun pins s σ H Q I q => wpAny_tests_one (h pins s σ H Q I q)
end L2

namespace L2
open PySem PySem.Spec PyProof.Rows
/-- what a comprehension walks, its list at D so far: W by the turn, a measure, the items so far, the heap -/
def tLoopC (g : TG) (tt : TT) (te : TE) (σc : St) (D : Addr) (J : It) (H : Hp) (F : Hp → Prop) : Prop :=
  ∃ W : Nat → Nat → St → List V → Hp → Prop, (∃ m, W 0 m σc [] (upd H D (.lst []))) ∧ ∀ i m σ ys H, W i m σ ys H → H D = some (.lst ys) ∧
    ((J.stop i H ∧ F H) ∨ (J.go i H ∧ ys.length < sizeLine ∧ ∃ N : St → List V → Hp → Prop, (∀ σ' ys' H', N σ' ys' H' → ∃ m', m' < m ∧ W (i + 1) m' σ' ys' H') ∧
      ∀ x H', J.yld i H x H' → g x σ H' fun σ2 H2 => tt σ2 H2 fun b H3 => if b = true then te σ2 H3 fun y H4 => H4 D = some (.lst ys) ∧ N σ2 (ys ++ [y]) (upd H4 D (.lst (ys ++ [y]))) else N σ2 ys H3))
def tComp (wi : TI) (g : TG) (tt : TT) (te : TE) (nt : Nat) (js : List Nat) : TE := fun σ H Q => wi σ H fun J H1 => ∀ D, H1 D = none → tLoopC g tt te (capsOf σ nt js) D J H1 fun Hf => Q (.ref D) Hf
section
variable {X : Cx} {Nc : List Str} {nt : Nat} {js : List Nat} {scope : Scope} {cl : List (Str × Addr)} {target elt iter : Expr} {ifs : List Expr} {pos : Pos} {g : TG} {tt : TT} {te : TE}
/-- the block, from its list to its end -/
theorem comp_block {pins : List (Addr × Obj)} {σ : St} {H2 : Hp} {s2 : Shared} {it : Addr} {fp : List Addr} {tn : Nat → Heap → Prop} {J : It} {F : Addr → Hp → Prop} {E : Value → Shared → Prop} {RR : Value → Addr → Result → Shared → Prop}
    (hcalm : X.calm = true) (S : CompSc X Nc nt js scope cl) (I : Inv X pins σ H2 s2) (T : Turn X.prog X.w X.K target J fp it tn) (st : tn 0 s2.heap) (hf : ∀ b ∈ fp, FpOk X pins H2 b)
    (body : ∀ C s3 H3 fp pins, PG (X.comp Nc scope cl C s3 H3 fp pins) target g ∧ PTs (X.comp Nc scope cl C s3 H3 fp pins) ifs tt ∧ PE (X.comp Nc scope cl C s3 H3 fp pins) elt te)
    (h : ∀ D, H2 D = none → tLoopC g tt te (capsOf σ nt js) D J H2 (F D))
    (hRR : ∀ (D C : Addr) (Hf : Hp) (s' : Shared), F D Hf → Inv X pins σ Hf s' → FpOk X pins Hf C → (∃ m, s'.heap.Ns C m) → RR (.ref D) C (.ok .next) s') :
    wpAny (model X.prog X.w) X.A (newList []) (fun acc s₃ => wpAny (model X.prog X.w) X.A (newFunctionEnv scope X.env.globals cl [] X.env.qual none .none (some X.env)) (fun cenv s₄ =>
      codeAny (model X.prog X.w) X.A (.compStart (.ListComp elt [⟨target, iter, ifs, 0⟩] scope pos) 0 (.ref it) acc { cenv with scope := relabel scope X.env }) (RR acc cenv.locals) s₄) E s₃) E s2 := by
  have hD : H2 s2.heap.objs.size = none := I.hok.fresh (Nat.le_refl _)
  obtain ⟨W, ⟨m0, w0⟩, turn⟩ := h _ hD
  have I3 : Inv X pins σ (upd H2 s2.heap.objs.size (.lst [])) { s2 with heap := s2.heap.push { cls := .type "list", data := .seq ([] : List Value).toArray } } :=
    I.laid (t' := s2.toks) (fun b u e => Heap.get?_push_of_some _ e) (Nat.le_refl _) ⟨Nat.zero_le _, [], 0, .nil, Heap.get?_push_size _ rfl⟩
  have neD : ∀ b ∈ fp, b ≠ s2.heap.objs.size := fun b hb => by
    obtain ⟨o, ho, _⟩ := T.obj _ _ st b hb
    exact Nat.ne_of_lt (Heap.lt_size ho)
  have hf3 : ∀ b ∈ fp, FpOk X pins (upd H2 s2.heap.objs.size (.lst [])) b := fun b hb => ⟨by rw [upd_ne (neD b hb)]; exact (hf b hb).1, (hf b hb).2⟩
  refine wpAny_newObj_type (wpAny_newFunctionEnv (fun y hy => ?_) (by intro y hy; simp at hy) (fun h1 hns1 hsb1 => ?_) S.kind) (by show 0 ≤ sizeLine; decide)
  · have := List.all_eq_true.mp S.cell y hy
    simpa using this
  generalize hs3 : ({ s2 with heap := s2.heap.push { cls := .type "list", data := .seq ([] : List Value).toArray } } : Shared) = s3 at I3
  have e3 : s2.heap.push { cls := .type "list", dict := none, data := .seq ([] : List Value).toArray } = s3.heap := by rw [← hs3]
  dsimp only at hns1 hsb1 ⊢
  rw [e3] at hns1 hsb1
  have old : ∀ b o, s3.heap.get? b = some o → h1.get? b = some o := fun b o e => (hsb1.2 b (Nat.ne_of_lt (Heap.lt_size e))).trans (Heap.get?_push_of_some _ e)
  have st3 : tn 0 s3.heap := T.keep _ _ _ st fun b _ o e => by rw [← e3]; exact Heap.get?_push_of_some _ e
  have hfo : ∀ b ∈ fp, ∃ o, s3.heap.get? b = some o := fun b hb => let ⟨o, ho, _⟩ := T.obj _ _ st3 b hb; ⟨o, ho⟩
  have Ic0 := comp_start (tk := s3.toks + ([] : List (Str × Value)).length) S I3 hf3 hfo hns1 old
  have st4 : tn 0 h1 := T.keep _ _ _ st3 fun b _ o e => old b o e
  obtain ⟨hg, ht, he⟩ := body s3.heap.objs.size s3 (upd H2 s2.heap.objs.size (.lst [])) fp pins
  generalize hX : X.comp Nc scope cl s3.heap.objs.size s3 (upd H2 s2.heap.objs.size (.lst [])) fp pins = Xc at Ic0 hg ht he
  have p1 : X.prog = Xc.prog := by rw [← hX]; rfl
  have p2 : X.w = Xc.w := by rw [← hX]; rfl
  have p3 : X.A = Xc.A := by rw [← hX]; rfl
  have p4 : Xc.K = X.K := by rw [← hX]; rfl
  have p5 : Xc.env = compEnvC scope cl s3.heap.objs.size X.env := by rw [← hX]; rfl
  have p6 : Xc.xe = fun _ _ => False := by rw [← hX]; rfl
  have p7 : Xc.calm = true := by rw [← hX]; exact hcalm
  have stat : ∀ {H' : Hp}, (∀ b ∈ fp, H' b = none) → ∀ b ∈ fp, FpOk Xc [] H' b := fun {H'} hn b hb => by
    rw [← hX]
    obtain ⟨n0, n1, n2, n3, n4, n5⟩ := hf3 b hb
    refine ⟨hn b hb, ?_, ?_, .inl hb, fun x c e => n4 x c (S.cls.at x c e), fun p hp => n5 p ?_⟩
    · obtain ⟨o, ho⟩ := hfo b hb
      exact Nat.ne_of_lt (Heap.lt_size ho)
    · intro z
      rcases List.mem_cons.mp (I3.stkSub b z) with e | e
      · exact n1 e
      · exact n2 e
    · have hp : p ∈ (X.pn ++ pins) ++ [] := hp
      rwa [List.append_nil] at hp
  have loop : codeAny (model X.prog X.w) X.A (.compLoop (.ListComp elt [⟨target, iter, ifs, 0⟩] scope pos) 0 (.ref it) (.ref s2.heap.objs.size) (compEnvC scope cl s3.heap.objs.size X.env)) (RR (.ref s2.heap.objs.size) s3.heap.objs.size)
      { s3 with heap := h1, toks := s3.toks + ([] : List (Str × Value)).length } := by
    rw [← p5]
    refine codeAny_compLoop_any (fun n s' => ∃ i σ' ys H', Inv Xc [] σ' H' s' ∧ tn i s'.heap ∧ (∀ b ∈ fp, H' b = none) ∧ W i n σ' ys H') ?_ m0 ⟨0, capsOf σ nt js, [], _, Ic0, st4, fun b hb => (hf3 b hb).1, w0⟩
    rintro n s5 ⟨i, σ5, ys, H5, I5, st5, fr5, w5⟩
    obtain ⟨hD5, w5⟩ := turn i n σ5 ys H5 w5
    rw [p3]
    rcases w5 with ⟨stop, fin⟩ | ⟨go, hlen, N, hN, step⟩
    · refine thn (T.done Xc p1.symm p2.symm p4 p7 i [] s5 σ5 H5 _ I5 (stat fr5) st5 stop) fun r s6 ⟨hr, I6⟩ => ?_
      subst hr
      rw [← hX] at I6
      obtain ⟨a1, a2, a3⟩ := comp_end I3 hf3 I6
      exact hRR _ _ H5 s6 fin a1 a2 a3
    · refine thn (T.item Xc p1.symm p2.symm p4 p7 i [] s5 σ5 H5 _ I5 (stat fr5) st5 go) fun r s6 ⟨u, hr, h6⟩ => ?_
      subst hr
      refine thn h6 fun _ s7 ⟨x, H7, I7, r7, y7, st7, fr7⟩ => ?_
      have I7' := I7.pinned (stat fr7) (T.obj _ _ st7)
      have hg' := hg _ s7 σ5 H7 x u _ I7' r7 (step x H7 y7)
      rw [p6, ← p1, ← p2] at hg'
      refine thn hg' fun _ s8 ⟨σ8, H8, I8, q8⟩ => ?_
      have ht' := ht _ s8 σ8 H8 _ I8 q8
      rw [p6, ← p1, ← p2] at ht'
      refine thn ht' fun ok s9 ⟨H9, I9, q9⟩ => ?_
      have again : ∀ {σ' : St} {H' : Hp} {ys' : List V} {sz : Shared}, Inv Xc ([] ++ pinsAt fp s7.heap) σ' H' sz → N σ' ys' H' → ∃ m, m < n ∧ ∃ i σ' ys H', Inv Xc [] σ' H' sz ∧ tn i sz.heap ∧ (∀ b ∈ fp, H' b = none) ∧ W i m σ' ys H' := fun {σ' H' ys' sz} Iz nz => by
        obtain ⟨m', hm, wz⟩ := hN σ' ys' H' nz
        refine ⟨m', hm, i + 1, σ', ys', H', Iz.unpinned, T.keep _ _ _ st7 fun b hb o e => (Iz.pin (b, o) (List.mem_append_right _ (List.mem_append_right _ (mem_pinsAt hb e)))).1, fun b hb => ?_, wz⟩
        obtain ⟨o, e, d⟩ := T.obj _ _ st7 b hb
        exact (Iz.pin (b, o) (List.mem_append_right _ (List.mem_append_right _ (mem_pinsAt hb e)))).2.1
      cases ok with
      | false => exact again I9 q9
      | true =>
        have he' := he _ s9 σ8 H9 _ I9 q9
        rw [p6, ← p1, ← p2] at he'
        refine thn he' fun v s10 ⟨y, H10, I10, r10, hD10, q10⟩ => ?_
        have mt := mt_append (X := Xc) _ s10 σ8 H10 (.ref s2.heap.objs.size) [y] (.ref s2.heap.objs.size) [v] (fun _ H' => N σ8 (ys ++ [y]) H') I10 rfl (.cons r10 .nil) ⟨_, ys, y, rfl, rfl, hD10, hlen, q10⟩
        rw [p6, ← p1, ← p2] at mt
        refine thn mt fun _ s11 ⟨_, H11, I11, _, q11⟩ => ?_
        exact again I11 q11
  exact codeAny_compStart_list loop (T.self _ 0 _ _ _ st4 loop)
end
end L2

namespace L2
open PySem PySem.Spec PyProof.Rows
section
variable {X : Cx} {Nc : List Str} {nt : Nat} {js : List Nat} {scope : Scope} {cl : List (Str × Addr)} {target elt iter : Expr} {ifs : List Expr} {pos spos py : Pos} {wi : TI} {g : TG} {tt : TT} {te : TE}
theorem names_ok (h : (scope.names.all fun y => y.2 != .local || scope.names.lookup y.1 == some .local) = true) : ∀ y ∈ scope.names, y.2 = .local → scope.names.lookup y.1 = some .local := fun y hy e => by
  have := List.all_eq_true.mp h y hy
  rw [e] at this
  simpa using this
theorem pe_comp (hcalm : X.calm = true) (S : CompSc X Nc nt js scope cl) (hi : PI X target iter wi)
    (body : ∀ C s3 H3 fp pins, PG (X.comp Nc scope cl C s3 H3 fp pins) target g ∧ PTs (X.comp Nc scope cl C s3 H3 fp pins) ifs tt ∧ PE (X.comp Nc scope cl C s3 H3 fp pins) elt te)
    (hs : ∀ x, foldedSetIterable iter X.env x = pure x := by intro _; rfl) : PE X (.ListComp elt [⟨target, iter, ifs, 0⟩] scope pos) (tComp wi g tt te nt js) := by
  intro pins s σ H Q I h
  rw [eval_ListComp]
  refine wpAny_comprehension_free (use := none) rfl hs S.clos S.kind (names_ok S.names) (thn (hi pins s σ H _ I h) fun v s1 h1 => thn h1 fun itv s2 h2 => ?_)
  obtain ⟨it, fp, tn, J, H2, e, I2, T, st2, f2, hL⟩ := h2
  subst e
  refine comp_block (RR := fun acc C => compPost (model X.prog X.w) X.A X.xe none (EP X pins σ Q) acc C) hcalm S I2 T st2 f2 body hL fun D C Hf s' q I' fC hn => ?_
  obtain ⟨m, hn⟩ := hn
  obtain ⟨f0, f1, _, f3, f4, f5⟩ := fC
  refine ⟨m, hn, fun h' hs' => ⟨.ref D, Hf, I'.turned (t' := s'.toks) (fun b o hb e => (hs'.2 b hb).trans e) f0 f1 f3 f4 f5, rfl, q⟩⟩
/-- name = [..]: the name is stored ahead of the variable's going -/
def tCompS (i : Nat) (wi : TI) (g : TG) (tt : TT) (te : TE) (nt : Nat) (js : List Nat) : TS := fun D σ H => tComp wi g tt te nt js σ H fun v H' => D.nx (σ.set i (some v)) H'
theorem ps_comp {i : Nat} {y : Str} (hcalm : X.calm = true) (hN : X.N.Nodup) (hy : X.N[i]? = some y) (hl : X.env.scope.names.lookup y = some .local) (S : CompSc X Nc nt js scope cl) (hi : PI X target iter wi)
    (body : ∀ C s3 H3 fp pins, PG (X.comp Nc scope cl C s3 H3 fp pins) target g ∧ PTs (X.comp Nc scope cl C s3 H3 fp pins) ifs tt ∧ PE (X.comp Nc scope cl C s3 H3 fp pins) elt te)
    (hsw : swapsWith (.ListComp elt [⟨target, iter, ifs, 0⟩] scope pos) (some (.Name y py)) spos.line X.env = pure true := by rfl)
    (hs : ∀ x, foldedSetIterable iter X.env x = pure x := by intro _; rfl) : PS X (.Assign [.Name y py] (.ListComp elt [⟨target, iter, ifs, 0⟩] scope pos) spos) (tCompS i wi g tt te nt js) := by
  intro pins s σ H D I h
  rw [exec_Assign_Name_used y py _ spos hsw]; refine wpAny_bind (wpAny_standAt (wpAny_bind ?_))
  show wpAny _ X.A (do let _ ← comprehension (.ListComp elt [⟨target, iter, ifs, 0⟩] scope pos) scope X.env _ (newList []) false (eval iter X.env) (some (assign (.Name y py) X.env))) _ _ s
  refine wpAny_bind (wpAny_mono (wpAny_comprehension_free (use := some (assign (.Name y py) X.env)) (Q := fun _ s' => SP X pins D .next s') rfl hs S.clos S.kind (names_ok S.names)
    (thn (hi pins s σ H _ I h) fun v s1 h1 => thn h1 fun itv s2 h2 => ?_)) (fun _ s' hq => wpAny_pure (wpAny_pure hq)) fun _ _ e => e)
  obtain ⟨it, fp, tn, J, H2, e, I2, T, st2, f2, hL⟩ := h2
  subst e
  refine comp_block (RR := fun acc C => compPost (model X.prog X.w) X.A X.xe (some (assign (.Name y py) X.env)) (fun _ s' => SP X pins D .next s') acc C) hcalm S I2 T st2 f2 body hL fun Da C Hf s' q I' fC hn => ?_
  obtain ⟨m, hn⟩ := hn
  obtain ⟨f0, f1, f2', f3, f4, f5⟩ := fC
  show wpAny _ X.A (assign (.Name y py) X.env (.ref Da)) _ _ _
  refine wpAny_assign_Name (store_ok2 I' hN hy (.inl hl) (v := .ref Da) rfl (fun s'' I'' ⟨a, hsb, ha⟩ => ?_) (.inr hl))
  have hCa : C ≠ a := by
    rcases ha with ha | ha
    · rw [ha]; exact f1
    · exact fun z => f4 _ _ ha z.symm
  refine ⟨m, hn.sameBut hsb hCa, fun h' hs' => ⟨_, Hf, I''.turned (t' := s''.toks) (fun b o hb e => (hs'.2 b hb).trans e) f0 f1 f3 f4 f5, q⟩⟩
end

/-! ### the forms one uses -/
/-- over a list that stays as it is -/
theorem comp_list {K : PySem.W.Frag} {a D : Addr} {xs : List V} {g : TG} {tt : TT} {te : TE} {σc : St} {H : Hp} {F : Hp → Prop} (Pv : Nat → St → List V → Hp → Prop) (h0 : Pv 0 σc [] (upd H D (.lst [])))
    (hl : ∀ i σ ys H, i ≤ xs.length → Pv i σ ys H → SqL K H a xs ∧ H D = some (.lst ys) ∧ ys.length ≤ i) (hz : xs.length ≤ sizeLine)
    (hs : ∀ i x σ ys H, xs[i]? = some x → Pv i σ ys H → g x σ H fun σ2 H2 => tt σ2 H2 fun b H3 => if b = true then te σ2 H3 fun y H4 => H4 D = some (.lst ys) ∧ Pv (i + 1) σ2 (ys ++ [y]) (upd H4 D (.lst (ys ++ [y]))) else Pv (i + 1) σ2 ys H3)
    (hd : ∀ σ ys H, Pv xs.length σ ys H → F H) : tLoopC g tt te σc D (Itl K a) H F := by
  refine ⟨fun i m σ ys H => m = xs.length - i ∧ i ≤ xs.length ∧ Pv i σ ys H, ⟨xs.length, by simp, Nat.zero_le _, h0⟩, ?_⟩
  rintro i m σ ys H ⟨rfl, hi, p⟩
  obtain ⟨q, hD, hy⟩ := hl i σ ys H hi p
  refine ⟨hD, ?_⟩
  by_cases hlt : i < xs.length
  · refine .inr ⟨⟨xs, xs[i], q, by simp [hlt]⟩, by omega, Pv (i + 1), fun σ' ys' H' p' => ⟨xs.length - (i + 1), by omega, rfl, hlt, p'⟩, fun x H' y => ?_⟩
    obtain ⟨e, y⟩ := y
    subst e
    exact hs i x σ ys _ (y xs q) p
  · have e : i = xs.length := by omega
    subst e
    exact .inl ⟨⟨xs, q, Nat.le_refl _⟩, hd σ ys H p⟩
theorem comp_range {D : Addr} {lo : Int} {n : Nat} {g : TG} {tt : TT} {te : TE} {σc : St} {H : Hp} {F : Hp → Prop} (Pv : Nat → St → List V → Hp → Prop) (h0 : Pv 0 σc [] (upd H D (.lst [])))
    (hl : ∀ i σ ys H, i ≤ n → Pv i σ ys H → H D = some (.lst ys) ∧ ys.length ≤ i) (hz : n ≤ sizeLine)
    (hs : ∀ i σ ys H, i < n → Pv i σ ys H → g (.int (lo + i)) σ H fun σ2 H2 => tt σ2 H2 fun b H3 => if b = true then te σ2 H3 fun y H4 => H4 D = some (.lst ys) ∧ Pv (i + 1) σ2 (ys ++ [y]) (upd H4 D (.lst (ys ++ [y]))) else Pv (i + 1) σ2 ys H3)
    (hd : ∀ σ ys H, Pv n σ ys H → F H) : tLoopC g tt te σc D (Itr lo n) H F := by
  refine ⟨fun i m σ ys H => m = n - i ∧ i ≤ n ∧ Pv i σ ys H, ⟨n, by simp, Nat.zero_le _, h0⟩, ?_⟩
  rintro i m σ ys H ⟨rfl, hi, p⟩
  obtain ⟨hD, hy⟩ := hl i σ ys H hi p
  refine ⟨hD, ?_⟩
  by_cases hlt : i < n
  · refine .inr ⟨hlt, by omega, Pv (i + 1), fun σ' ys' H' p' => ⟨n - (i + 1), by omega, rfl, hlt, p'⟩, fun x H' y => ?_⟩
    obtain ⟨e, y⟩ := y
    subst e y
    exact hs i σ ys _ hlt p
  · have e : i = n := by omega
    subst e
    exact .inl ⟨Nat.le_refl _, hd σ ys H p⟩
end L2

set_option Elab.async false
set_option linter.all false
set_option maxRecDepth 100000
set_option maxHeartbeats 4100000
/-! SETS OF TEXTS: set(list), sorted(set). -/
namespace L2
open PySem PySem.Spec PyProof.Rows

/-! ### draws -/
theorem perm_erase {α : Type} : ∀ (l : List α) (k : Nat) (h : k < l.length), (l[k] :: l.eraseIdx k).Perm l
  | x :: l, 0, _ => List.Perm.refl _
  | x :: l, k + 1, h => by
    have ih := perm_erase l k (by simpa using h)
    exact (List.Perm.swap _ _ _).trans (List.Perm.cons x ih)
section
variable {prog : Program} {w : World} {A : Around} {E : Value → Shared → Prop} {s : Shared}
theorem wpAny_draw {M : Model} {src : Source} {n : Nat} {Q : Nat → Shared → Prop} (hn : n ≠ 0) (h : ∀ k d, k < n → Q k { s with drawn := d }) : wpAny M A (choose src n) Q E s :=
  fun Γ p _ => ⟨hn, h _ _ (Nat.mod_lt _ (Nat.pos_of_ne_zero hn))⟩
theorem wpAny_drawOrder {M : Model} {α : Type} : ∀ (n : Nat) (xs : List α) (s : Shared) {Q : List α → Shared → Prop}, xs.length ≤ n → (∀ ys d, ys.Perm xs → Q ys { s with drawn := d }) → wpAny M A (drawOrder n xs) Q E s
  | 0, xs, s, Q, hl, h => by
    have e : xs = [] := List.length_eq_zero_iff.mp (Nat.le_zero.mp hl)
    subst e
    exact wpAny_pure (h [] s.drawn (List.Perm.refl _))
  | n + 1, [], s, Q, hl, h => wpAny_pure (h [] s.drawn (List.Perm.refl _))
  | n + 1, x :: xs, s, Q, hl, h => by
    show wpAny M A (choose .order (x :: xs).length >>= _) Q E s
    refine wpAny_bind (wpAny_draw (by simp) fun k d hk => ?_)
    have hk' : k < (x :: xs).length := hk
    show wpAny M A (match (x :: xs)[k]? with | some y => (do return y :: (← drawOrder n ((x :: xs).eraseIdx k))) | none => unsupported "internal:drawOrder") Q E _
    rw [List.getElem?_eq_getElem hk']
    dsimp only
    refine wpAny_bind (wpAny_drawOrder n _ _ ?_ fun ys d' hp => ?_)
    · rw [List.length_eraseIdx_of_lt hk']
      simp only [List.length_cons] at hl ⊢
      omega
    · refine wpAny_pure (h _ d' ?_)
      exact (List.Perm.cons _ hp).trans (perm_erase (x :: xs) k hk')
end

/-! ### the iterator's slots -/
theorem sl_set_iter : Slot "set" "__iter__" "set.__iter__" := PySem.F.slot_set_iter
theorem en_set_iter : entryFor table "set.__iter__" = some Builtin.«frozenset.__iter__» := entryFor_alias (id' := "frozenset.__iter__") (by kernel_rfl) rfl (by decide +kernel) (by kernel_rfl)
theorem ow_sit : Manifest.owners.lookup (String.ofList ['r', 'o', 't', 'a', 'r', 'e', 't', 'i', '_', 't', 'e', 's'].reverse) = some Manifest.sig_set_iterator := by kernel_rfl
theorem sl_sit_next : Slot "set_iterator" "__next__" "set_iterator.__next__" := .of (owner := "set_iterator") (n := "__next__") (by rw [typeLookup_type, builtinLookup_eq_fast]; kernel_rfl) (by decide +kernel) (by decide +kernel) (by decide +kernel) (by first | exact .inl (by decide +kernel) | exact .inr (by decide +kernel)) (by rw [isSubtype_type]; kernel_rfl)
theorem en_sit_next : entryFor table "set_iterator.__next__" = some Builtin.«set_iterator.__next__» := entryFor_of_tree (by kernel_rfl)
theorem ar_sit_next (a : Value) : argsOk "set_iterator.__next__" ⟨[a], []⟩ := by unfold argsOk; kernel_rfl

end L2

set_option Elab.async false
set_option linter.all false
set_option maxRecDepth 100000
set_option maxHeartbeats 4100000
namespace L2
open PySem PySem.Spec PyProof.Rows
/-! ### a set as it stands, its iterator -/
structure SetAt (h : Heap) (a : Addr) (es : Array (Int × Value)) (ep : Nat) (t : SetTable) : Prop where
  ob : ∃ o, h.get? a = some o ∧ o.ExactSet ∧ o.data = .set es ep t
  fit : t.fits es.size = true
def SitAt (h : Heap) (it : Addr) (fs : Array Value) : Prop := ∃ o, h.get? it = some o ∧ o.cls = .type "set_iterator" ∧ o.data = .fields fs
theorem SitAt.typeIs {s : Shared} {it : Addr} {fs : Array Value} (x : SitAt s.heap it fs) : s.TypeIs (.ref it) "set_iterator" := let ⟨o, h1, h2, _⟩ := x; ⟨o, h1, h2⟩
theorem SitAt.upd {h : Heap} {it : Addr} {fs : Array Value} (x : SitAt h it fs) (i : Nat) (v : Value) : SitAt (h.update it (Obj.mapFields (·.setIfInBounds i v))) it (fs.setIfInBounds i v) := by
  obtain ⟨o, h1, h2, h3⟩ := x
  exact ⟨_, Heap.get?_update_self _ h1 (Obj.isFreed_of_fields (Obj.data_mapFields h3 _)), (Obj.cls_mapFields ..).trans h2, Obj.data_mapFields h3 _⟩
section
variable {prog : Program} {w : World} {A : Around} {E : Value → Shared → Prop} {s : Shared}
theorem ret_ok {v : Value} {Q : Option Value → Shared → Prop} (q : Q (some v) s) : wpAny (model prog w) A.in1 (ret v) (fun fin s' => ∃ r, fin = Fin.done (Flow.ret r) ∧ wpAny (model prog w) A (pure (some r)) Q E s') (fun e s' => wpAny (model prog w) A (do
    let b ← isInstance e (Value.type "StopIteration")
    if b = true then pure none else throw e) Q E s') s := wpAny_pure ⟨v, rfl, wpAny_pure q⟩
/-- the end of the walk: StopIteration is raised, and taken by next -/
theorem stop_ok {Q : Option Value → Shared → Prop} (hh : A.handled = none) (q : ∀ h' : Heap, (∀ b o, s.heap.get? b = some o → h'.get? b = some o) → Q none { s with heap := h' }) :
    wpAny (model prog w) A.in1 (do let x ← newExc (Value.type "StopIteration") []; raiseNew x : Sem Fin) (fun fin s' => ∃ r, fin = Fin.done (Flow.ret r) ∧ wpAny (model prog w) A (pure (some r)) Q E s') (fun e s' => wpAny (model prog w) A (do
    let b ← isInstance e (Value.type "StopIteration")
    if b = true then pure none else throw e) Q E s') s := by
  refine wpAny_bind ?_
  simp only [newExc, newTuple]
  refine wpAny_bind (wpAny_newObj_type ?_ (by size_fits))
  refine wpAny_bind (m := firstArgMember _ _) (wpAny_of_eq (a := Value.none) (by first | rfl | (simp only [firstArgMember]; rfl)) ?_)
  refine wpAny_newObj_type ?_ (by size_fits)
  simp only [raiseNew]
  refine wpAny_bind (wpAny_handled ?_); rw [show A.in1.handled = none from hh]
  refine wpAny_bind (wpAny_pure (wpAny_throw ?_))
  refine wpAny_bind (wpAny_isInstance (T := "StopIteration") (b := true) ⟨_, Heap.get?_push_size _ rfl, rfl⟩ isSubtype_stop ?_)
  exact wpAny_pure (q _ fun b o e => Heap.get?_push_of_some _ (Heap.get?_push_of_some _ e))
theorem wpAny_byText {Q : Bool → Shared → Prop} (h : Q (w.params.followText "set-order") s) : wpAny (model prog w) A setsByText Q E s := by
  unfold setsByText
  exact wpAny_bind (wpAny_askSetting (wpAny_pure h))
theorem sit_int {it a : Addr} {sl k n ep : Nat} {es : Array (Int × Value)} {t : SetTable} {Q : Option Value → Shared → Prop} (hh : A.handled = none)
    (x : SitAt s.heap it #[rawInt sl, rawInt k, .ref a, rawInt n, rawInt ep]) (y : SetAt s.heap a es ep t) (hn : es.size = n) (r : Option (Value × Nat))
    (hr : ∀ R : Option (Value × Nat) → Shared → Prop, ∀ E', R r s → wpAny (model prog w) A.in1 (setNext a sl k ep) R E' s)
    (h : match r with
      | some (v, nx) => ∀ h', SitAt h' it #[rawInt nx, rawInt ((k : Int) + 1), .ref a, rawInt n, rawInt ep] → (∀ b o, b ≠ it → s.heap.get? b = some o → h'.get? b = some o) → Q (some v) { s with heap := h' }
      | none => ∀ h', (∀ b o, b ≠ it → s.heap.get? b = some o → h'.get? b = some o) → Q none { s with heap := h' }) :
    wpAny (model prog w) A (pyNext (.ref it)) Q E s := by
  obtain ⟨o, h1, h2, h3⟩ := id x
  obtain ⟨⟨os, g1, g2, g3⟩, hf⟩ := y
  unfold pyNext
  refine wpAny_bind (wpAny_attempt (wpAny_callSpecial?_slot (name := Str.ofString "__next__") x.typeIs sl_sit_next (wpAny_call_entry sl_sit_next x.typeIs en_sit_next ?_ (ar_sit_next _))))
  unfold Builtin.«set_iterator.__next__» slotArgs
  simp only [List.isEmpty_nil, Bool.not_true, Bool.false_eq_true, ↓reduceIte, List.length_nil, bne_self_eq_false]
  refine wpAny_bind (wpAny_pure ?_)
  refine wpAny_bind (wpAny_fieldsOf h1 h3 ?_)
  dsimp only [rawInt]
  refine wpAny_bind (wpAny_setEntries_of g1 g3 hf ?_)
  rw [if_neg (by simp [hn])]
  simp only [Int.toNat_natCast]
  refine wpAny_bind (hr _ _ ?_)
  cases r with
  | some p =>
    obtain ⟨v, nx⟩ := p
    dsimp only at h ⊢
    refine wpAny_bind (wpAny_setField h1 h3 (by simp) ?_)
    have x1 := x.upd 0 (.int nx 0)
    obtain ⟨o1, k1, k2, k3⟩ := id x1
    refine wpAny_bind (wpAny_setField (s := { s with heap := _ }) k1 k3 (by simp) ?_)
    have x2 := x1.upd 1 (.int ((k : Int) + 1) 0)
    refine ret_ok (h _ ?_ fun b o hb e => ?_)
    · simpa [rawInt] using x2
    · exact ((Heap.SameBut.update _ it _).2 b hb).trans (((Heap.SameBut.update _ it _).2 b hb).trans e)
  | none =>
    dsimp only at h ⊢
    refine wpAny_bind (wpAny_setField h1 h3 (by simp) ?_)
    refine stop_ok hh fun h' hk => ?_
    exact h h' fun b o hb e => hk b o (((Heap.SameBut.update _ it _).2 b hb).trans e)
theorem sit_ref {it a tp : Addr} {k n ep tn : Nat} {places : Array Value} {ot : Obj} {es : Array (Int × Value)} {t : SetTable} {Q : Option Value → Shared → Prop} (hh : A.handled = none)
    (x : SitAt s.heap it #[.ref tp, rawInt k, .ref a, rawInt n, rawInt ep]) (y : SetAt s.heap a es ep t) (hn : es.size = n) (ht : s.heap.get? tp = some ot) (hd : ot.data = .seq places tn) (r : Option Nat)
    (hp : places[k]? = r.map fun (j : Nat) => rawInt (j : Int)) (hj : ∀ j, r = some j → ∃ e, es[j]? = some e)
    (h : match r with
      | some j => ∀ e h', es[j]? = some e → SitAt h' it #[.ref tp, rawInt ((k : Int) + 1), .ref a, rawInt n, rawInt ep] → (∀ b o, b ≠ it → s.heap.get? b = some o → h'.get? b = some o) → Q (some e.2) { s with heap := h' }
      | none => ∀ h', (∀ b o, b ≠ it → s.heap.get? b = some o → h'.get? b = some o) → Q none { s with heap := h' }) :
    wpAny (model prog w) A (pyNext (.ref it)) Q E s := by
  obtain ⟨o, h1, h2, h3⟩ := id x
  obtain ⟨⟨os, g1, g2, g3⟩, hf⟩ := y
  unfold pyNext
  refine wpAny_bind (wpAny_attempt (wpAny_callSpecial?_slot (name := Str.ofString "__next__") x.typeIs sl_sit_next (wpAny_call_entry sl_sit_next x.typeIs en_sit_next ?_ (ar_sit_next _))))
  unfold Builtin.«set_iterator.__next__» slotArgs
  simp only [List.isEmpty_nil, Bool.not_true, Bool.false_eq_true, ↓reduceIte, List.length_nil, bne_self_eq_false]
  refine wpAny_bind (wpAny_pure ?_)
  refine wpAny_bind (wpAny_fieldsOf h1 h3 ?_)
  dsimp only [rawInt]
  refine wpAny_bind (wpAny_setEntries_of g1 g3 hf ?_)
  rw [if_neg (by simp [hn])]
  simp only [Int.toNat_natCast]
  refine wpAny_bind (wpAny_seqItems ht hd ?_)
  dsimp only
  rw [hp]
  cases r with
  | some j =>
    obtain ⟨e, he⟩ := hj j rfl
    dsimp only [Option.map, rawInt] at h ⊢
    try simp only [Int.toNat_natCast]
    refine wpAny_bind ?_
    unfold setNextDrawn
    refine wpAny_bind (wpAny_setState_of g1 g3 hf ?_)
    dsimp only
    rw [if_neg (by simp), he]
    refine wpAny_pure ?_
    refine wpAny_bind (wpAny_setField h1 h3 (by simp) ?_)
    have x2 := x.upd 1 (.int ((k : Int) + 1) 0)
    refine ret_ok (h e _ he ?_ fun b o hb e => ?_)
    · simpa [rawInt] using x2
    · exact ((Heap.SameBut.update _ it _).2 b hb).trans e
  | none =>
    dsimp only [Option.map] at h ⊢
    refine wpAny_bind (wpAny_setField h1 h3 (by simp) ?_)
    have x1 := x.upd 0 (.int 0 0)
    obtain ⟨o1, k1, k2, k3⟩ := id x1
    refine wpAny_bind (wpAny_setField (s := { s with heap := _ }) k1 k3 (by simp) ?_)
    refine stop_ok hh fun h' hk => ?_
    exact h h' fun b o hb e => hk b o (((Heap.SameBut.update _ it _).2 b hb).trans (((Heap.SameBut.update _ it _).2 b hb).trans e))

/-! ### what next tells, by the three ways of a walk -/
theorem pick_go {α : Type} (next : Nat → Nat) : ∀ (fuel k : Nat) (left : List α) (out : Array α), left.length ≤ fuel → (pickOrder.go next fuel k left out).toList.Perm (out.toList ++ left)
  | 0, k, left, out, h => by
    have e : left = [] := List.length_eq_zero_iff.mp (Nat.le_zero.mp h)
    subst e
    rw [List.append_nil]
    exact List.Perm.refl _
  | fuel + 1, k, left, out, h => by
    unfold pickOrder.go
    cases left with
    | nil => simp
    | cons x l =>
      have hk : next k % (x :: l).length < (x :: l).length := Nat.mod_lt _ (by simp)
      rw [List.getElem?_eq_getElem hk]
      dsimp only
      refine (pick_go next fuel (k + 1) _ _ ?_).trans ?_
      · rw [List.length_eraseIdx_of_lt hk]
        simp only [List.length_cons] at h ⊢
        omega
      · rw [Array.toList_push, List.append_assoc]
        exact List.Perm.append_left _ (perm_erase (x :: l) _ hk)
theorem pick_perm {α : Type} (next : Nat → Nat) (xs : Array α) : (pickOrder next xs).toList.Perm xs.toList := by
  have h := pick_go next xs.size 0 xs.toList #[] (by simp)
  show (pickOrder.go next xs.size 0 xs.toList #[]).toList.Perm xs.toList
  simpa using h
theorem next_text {a : Addr} {es : Array (Int × Value)} {sl k ep : Nat} {t : SetTable} (y : SetAt s.heap a es ep t) (hb : w.params.followText "set-order" = true) {R : Option (Value × Nat) → Shared → Prop} {E' : Value → Shared → Prop}
    (h : R (((pickOrder (w.params.setOrder a ep) es)[k]?).map fun e => (e.2, sl)) s) : wpAny (model prog w) A (setNext a sl k ep) R E' s := by
  obtain ⟨⟨os, g1, g2, g3⟩, hf⟩ := y
  unfold setNext
  refine wpAny_bind (wpAny_setState_of g1 g3 hf ?_)
  dsimp only
  refine wpAny_bind (wpAny_byText ?_)
  rw [hb, if_pos rfl, if_neg (by simp)]
  refine wpAny_bind ?_
  unfold setWalk
  refine wpAny_bind (wpAny_setState_of g1 g3 hf ?_)
  dsimp only
  refine wpAny_bind (wpAny_byText ?_)
  rw [hb, if_pos rfl]
  refine wpAny_bind (wpAny_askSetting (wpAny_pure (wpAny_pure h)))
theorem next_led {a : Addr} {es : Array (Int × Value)} {sl k ep : Nat} {t : SetTable} (y : SetAt s.heap a es ep t) (hb : w.params.followText "set-order" = false) (hl : t.led = true) (h1 : es.size ≤ 1) {R : Option (Value × Nat) → Shared → Prop} {E' : Value → Shared → Prop}
    (h : R (match es[SetTable.below t.place sl]?, t.place[SetTable.below t.place sl]? with | some (_, x), some j => some (x, j + 1) | _, _ => none) s) : wpAny (model prog w) A (setNext a sl k ep) R E' s := by
  obtain ⟨⟨os, g1, g2, g3⟩, hf⟩ := y
  unfold setNext
  refine wpAny_bind (wpAny_setState_of g1 g3 hf ?_)
  dsimp only
  refine wpAny_bind (wpAny_byText ?_)
  rw [hb, if_neg Bool.false_ne_true]
  split
  · rename_i hd
    have hd' : (!t.plain && decide (es.size > 1)) = true := hd
    have : es.size > 1 := by simp at hd'; exact hd'.2
    omega
  refine wpAny_bind ?_
  show wpAny _ _ (if (!t.led && !es.isEmpty) = true then unsupported "set:maker-not-led" else pure ()) _ _ _
  rw [hl, if_neg (by simp)]
  exact wpAny_pure (wpAny_pure h)
end
end L2

set_option Elab.async false
set_option linter.all false
set_option maxRecDepth 100000
set_option maxHeartbeats 4100000
namespace L2
open PySem PySem.Spec PyProof.Rows
theorem SetAt.keep {h h' : Heap} {a : Addr} {es : Array (Int × Value)} {ep : Nat} {t : SetTable} (y : SetAt h a es ep t) (k : ∀ o, h.get? a = some o → h'.get? a = some o) : SetAt h' a es ep t := by
  obtain ⟨⟨o, h1, h2, h3⟩, hf⟩ := y
  exact ⟨⟨o, k o h1, h2, h3⟩, hf⟩
theorem SitAt.keep {h h' : Heap} {it : Addr} {fs : Array Value} (x : SitAt h it fs) (k : ∀ o, h.get? it = some o → h'.get? it = some o) : SitAt h' it fs := by
  obtain ⟨o, h1, h2, h3⟩ := x
  exact ⟨o, k o h1, h2, h3⟩
theorem sl_sit_iter : Slot "set_iterator" "__iter__" "set_iterator.__iter__" := .of (owner := "set_iterator") (n := "__iter__") (by rw [typeLookup_type, builtinLookup_eq_fast]; kernel_rfl) (by decide +kernel) (by decide +kernel) (by decide +kernel) (by first | exact .inl (by decide +kernel) | exact .inr (by decide +kernel)) (by rw [isSubtype_type]; kernel_rfl)
theorem en_sit_iter : entryFor table "set_iterator.__iter__" = some Builtin.«dict_keyiterator.__iter__» := entryFor_alias (id' := "dict_keyiterator.__iter__") (by kernel_rfl) rfl (by decide +kernel) (by kernel_rfl)
theorem ar_sit_iter (a : Value) : argsOk "set_iterator.__iter__" ⟨[a], []⟩ := by unfold argsOk; kernel_rfl
theorem ar_set_iter (a : Value) : argsOk "set.__iter__" ⟨[a], []⟩ := by unfold argsOk; kernel_rfl
section
variable {prog : Program} {w : World} {A : Around} {E : Value → Shared → Prop} {s : Shared}
theorem sit_self {it : Addr} {fs : Array Value} {Q : Value → Shared → Prop} (x : SitAt s.heap it fs) (q : Q (.ref it) s) : wpAny (model prog w) A (pyIter (.ref it)) Q E s := by
  refine wpAny_pyIter_slot x.typeIs sl_sit_iter (wpAny_call_entry sl_sit_iter x.typeIs en_sit_iter ?_ (ar_sit_iter _))
  show wpAny _ _ (ret (.ref it)) _ _ s
  exact wpAny_pure ⟨_, rfl, "set_iterator", _, x.typeIs, sl_sit_next.lookup, q⟩
/-- the walk by the text's order -/
theorem walk_text {it a : Addr} {es : Array (Int × Value)} {ep : Nat} {t : SetTable} (hne : a ≠ it) (hh : A.handled = none) (hb : w.params.followText "set-order" = true) :
    Walks prog w A it [it, a] [it] es.size (fun i v => ∃ e, (pickOrder (w.params.setOrder a ep) es).toList[i]? = some e ∧ v = e.2) (fun i h => SitAt h it #[rawInt 0, rawInt i, .ref a, rawInt es.size, rawInt ep] ∧ SetAt h a es ep t) where
  sub := fun b hb => by simp at hb; simp [hb]
  frame := fun i h h' st k => ⟨st.1.keep fun o e => k it (by simp) o e, st.2.keep fun o e => k a (by simp) o e⟩
  item := fun i s Q E hi st hQ => by
    have hp := pick_perm (w.params.setOrder a ep) es
    have hl : i < (pickOrder (w.params.setOrder a ep) es).toList.length := by rw [hp.length_eq]; simpa using hi
    have hg : (pickOrder (w.params.setOrder a ep) es)[i]? = some (pickOrder (w.params.setOrder a ep) es).toList[i] := by rw [← Array.getElem?_toList, List.getElem?_eq_getElem hl]
    refine sit_int (sl := 0) (k := i) hh st.1 st.2 rfl (some ((pickOrder (w.params.setOrder a ep) es).toList[i].2, 0)) (fun R E' hR => next_text st.2 hb (by rw [hg]; exact hR)) ?_
    intro h' x' k
    exact hQ _ h' s.toks ⟨_, List.getElem?_eq_getElem hl, rfl⟩ ⟨by simpa using x', st.2.keep fun o e => k a o hne e⟩ fun b o hb e => k b o (fun z => hb (by simp [z])) e
  done := fun s Q E st hQ => by
    have hp := pick_perm (w.params.setOrder a ep) es
    have hg : (pickOrder (w.params.setOrder a ep) es)[es.size]? = none := by
      rw [← Array.getElem?_toList]
      exact List.getElem?_eq_none (by rw [hp.length_eq]; simp)
    refine sit_int (sl := 0) (k := es.size) hh st.1 st.2 rfl none (fun R E' hR => next_text st.2 hb (by rw [hg]; exact hR)) ?_
    exact fun h' k => hQ h' s.toks fun b o hb e => k b o (fun z => hb (by simp [z])) e
  self := fun i s Q E st q => sit_self st.1 q
/-- the walk by drawn places -/
theorem walk_drawn {it a tp : Addr} {es : Array (Int × Value)} {ep : Nat} {t : SetTable} {js : List Nat} (hne : a ≠ it) (hnt : tp ≠ it) (hh : A.handled = none) (hjs : js.Perm (List.range es.size)) :
    Walks prog w A it [it, a, tp] [it] es.size (fun i v => ∃ j e, js[i]? = some j ∧ es[j]? = some e ∧ v = e.2)
      (fun i h => SitAt h it #[.ref tp, rawInt i, .ref a, rawInt es.size, rawInt ep] ∧ SetAt h a es ep t ∧ ∃ o n, h.get? tp = some o ∧ o.data = .seq (js.map fun (j : Nat) => rawInt (j : Int)).toArray n) where
  sub := fun b hb => by simp at hb; simp [hb]
  frame := fun i h h' st k => ⟨st.1.keep fun o e => k it (by simp) o e, st.2.1.keep fun o e => k a (by simp) o e, let ⟨o, n, e, d⟩ := st.2.2; ⟨o, n, k tp (by simp) o e, d⟩⟩
  item := fun i s Q E hi st hQ => by
    obtain ⟨st1, st2, o, n, e1, e2⟩ := st
    have hl : i < js.length := by rw [hjs.length_eq]; simpa using hi
    have hj : js[i] < es.size := by
      have := hjs.mem_iff.mp (List.getElem_mem hl)
      simpa using this
    refine sit_ref (k := i) hh st1 st2 rfl e1 e2 (some js[i]) ?_ (fun j ej => ?_) ?_
    · rw [List.getElem?_toArray, List.getElem?_map, List.getElem?_eq_getElem hl]
    · cases ej
      exact ⟨_, Array.getElem?_eq_getElem hj⟩
    · intro e h' he x' k
      exact hQ _ h' s.toks ⟨_, e, List.getElem?_eq_getElem hl, he, rfl⟩ ⟨by simpa using x', st2.keep fun o e => k a o hne e, o, n, k tp o hnt e1, e2⟩ fun b o hb e => k b o (fun z => hb (by simp [z])) e
  done := fun s Q E st hQ => by
    obtain ⟨st1, st2, o, n, e1, e2⟩ := st
    refine sit_ref (k := es.size) hh st1 st2 rfl e1 e2 none ?_ (fun j ej => by cases ej) ?_
    · rw [List.getElem?_toArray]
      exact List.getElem?_eq_none (by rw [List.length_map, hjs.length_eq]; simp)
    · exact fun h' k => hQ h' s.toks fun b o hb e => k b o (fun z => hb (by simp [z])) e
  self := fun i s Q E st q => sit_self st.1 q
theorem arr_one {α : Type} : ∀ {xs : Array α}, xs.size = 1 → ∃ x, xs = #[x]
  | ⟨[x]⟩, _ => ⟨x, rfl⟩
  | ⟨[]⟩, h => absurd h (by simp)
  | ⟨_ :: _ :: _⟩, h => absurd h (by simp)
/-- the slot from which the walk of at most one goes on -/
def ledSlot (t : SetTable) (i : Nat) : Nat := if i = 0 then 0 else t.place.getD 0 0 + 1
theorem below_one {j x : Nat} : SetTable.below #[j] x = if j < x then 1 else 0 := by
  unfold SetTable.below
  show SetTable.below.go #[j] x 1 0 1 = _
  unfold SetTable.below.go
  simp only [Nat.lt_one_iff, ↓reduceIte]
  by_cases h : j < x
  · simp [h, SetTable.below.go]
  · simp [h, SetTable.below.go]
theorem walk_led {it a : Addr} {es : Array (Int × Value)} {ep : Nat} {t : SetTable} (hne : a ≠ it) (hh : A.handled = none) (hb : w.params.followText "set-order" = false) (hled : t.led = true) (h1 : es.size ≤ 1) :
    Walks prog w A it [it, a] [it] es.size (fun i v => ∃ e, es[i]? = some e ∧ v = e.2) (fun i h => SitAt h it #[rawInt (ledSlot t i), rawInt i, .ref a, rawInt es.size, rawInt ep] ∧ SetAt h a es ep t) where
  sub := fun b hb => by simp at hb; simp [hb]
  frame := fun i h h' st k => ⟨st.1.keep fun o e => k it (by simp) o e, st.2.keep fun o e => k a (by simp) o e⟩
  item := fun i s Q E hi st hQ => by
    have hs : es.size = 1 := by omega
    have hi0 : i = 0 := by omega
    subst hi0
    obtain ⟨e, he⟩ : ∃ e, es = #[e] := arr_one hs
    have hf := st.2.fit
    have hp : t.place.size = 1 := by
      simp only [SetTable.fits, Bool.and_eq_true, beq_iff_eq] at hf
      rw [hf.1, hs]
    obtain ⟨j, hj⟩ : ∃ j, t.place = #[j] := arr_one hp
    refine sit_int (sl := ledSlot t 0) (k := 0) hh st.1 st.2 rfl (some (e.2, j + 1)) (fun R E' hR => next_led st.2 hb hled h1 ?_) ?_
    · have e0 : SetTable.below t.place (ledSlot t 0) = 0 := by rw [hj, below_one]; simp [ledSlot]
      rw [e0, he, hj]
      exact hR
    · intro h' x' k
      refine hQ _ h' s.toks ⟨e, by rw [he]; rfl, rfl⟩ ⟨?_, st.2.keep fun o e => k a o hne e⟩ fun b o hb e => k b o (fun z => hb (by simp [z])) e
      have e1 : ledSlot t (0 + 1) = j + 1 := by simp [ledSlot, hj]
      rw [e1]
      simpa using x'
  done := fun s Q E st hQ => by
    refine sit_int (sl := ledSlot t es.size) (k := es.size) hh st.1 st.2 rfl none (fun R E' hR => next_led st.2 hb hled h1 ?_) ?_
    · have : es[SetTable.below t.place (ledSlot t es.size)]? = none := by
        have hf := st.2.fit
        have hp : t.place.size = es.size := by
          simp only [SetTable.fits, Bool.and_eq_true, beq_iff_eq] at hf
          exact hf.1
        rcases Nat.lt_or_ge es.size 1 with hz | hz
        · have z : es.size = 0 := by omega
          exact Array.getElem?_eq_none (by omega)
        · have hs : es.size = 1 := by omega
          obtain ⟨j, hj⟩ : ∃ j, t.place = #[j] := arr_one (hp.trans hs)
          have e0 : SetTable.below t.place (ledSlot t es.size) = 1 := by rw [hj, below_one]; simp [ledSlot, hj, hs]
          rw [e0]
          exact Array.getElem?_eq_none (by omega)
      rw [this]
      exact hR
    · exact fun h' k => hQ h' s.toks fun b o hb e => k b o (fun z => hb (by simp [z])) e
  self := fun i s Q E st q => sit_self st.1 q
end
end L2

set_option Elab.async false
set_option linter.all false
set_option maxRecDepth 100000
set_option maxHeartbeats 4100000
namespace L2
open PySem PySem.Spec PyProof.Rows
theorem walks_mono {prog : Program} {w : World} {A : Around} {I : Addr} {fp wr : List Addr} {n : Nat} {P P' : Nat → Value → Prop} {St : Nat → Heap → Prop} (W : Walks prog w A I fp wr n P St) (h : ∀ i v, P i v → P' i v) : Walks prog w A I fp wr n P' St :=
  ⟨W.sub, W.frame, fun i s Q E hi st hQ => W.item i s Q E hi st fun v h' tk hp => hQ v h' tk (h i v hp), W.done, W.self⟩
section
variable {prog : Program} {w : World} {A : Around} {E : Value → Shared → Prop} {s : Shared}
def nthV (es : Array (Int × Value)) (j : Nat) : Value := ((es[j]?).map (·.2)).getD .none
theorem nthV_range (es : Array (Int × Value)) : (List.range es.size).map (nthV es) = es.toList.map (·.2) := by
  refine List.ext_getElem? fun i => ?_
  rw [List.getElem?_map, List.getElem?_map]
  by_cases h : i < es.size
  · rw [List.getElem?_eq_getElem (by simpa using h), Array.getElem?_toList, Array.getElem?_eq_getElem h]
    simp [nthV, h]
  · rw [List.getElem?_eq_none (by simpa using h), List.getElem?_eq_none (by simpa using h)]
    rfl
/-- an iterator over a set stands: it walks the members in some order -/
structure SetWalk (prog : Program) (w : World) (s : Shared) (a : Addr) (es : Array (Int × Value)) (I : Addr) (h' : Heap) (fp : List Addr) (vs : List Value) (St : Nat → Heap → Prop) : Prop where
  old : ∀ b o, s.heap.get? b = some o → h'.get? b = some o
  walks : ∀ A' : Around, A'.handled = none → Walks prog w A' I fp [I] es.size (fun i v => vs[i]? = some v) St
  st : St 0 h'
  there : ∀ b ∈ fp, b < h'.objs.size
  new : s.heap.objs.size ≤ I
  apart : ∀ b ∈ fp, b = a ∨ s.heap.objs.size ≤ b
  perm : vs.Perm (es.toList.map (·.2))
theorem iter_tail {a : Addr} {first : Value} {es : Array (Int × Value)} {ep : Nat} {t : SetTable} {sx : Shared} (y : SetAt sx.heap a es ep t) {Q : Value → Shared → Prop}
    (h : SitAt (sx.heap.push { cls := .type "set_iterator", data := .fields #[first, rawInt 0, .ref a, rawInt es.size, rawInt ep] }) sx.heap.objs.size #[first, rawInt ((0 : Nat) : Int), .ref a, rawInt es.size, rawInt ep] →
      Q (.ref sx.heap.objs.size) { sx with heap := sx.heap.push { cls := .type "set_iterator", data := .fields #[first, rawInt 0, .ref a, rawInt es.size, rawInt ep] } }) :
    wpAny (model prog w) A (do ret (← newFields "set_iterator" [first, rawInt 0, .ref a, rawInt es.size, rawInt (← setEpoch a)]) : Sem Fin) (fun fin s' => ∃ v, fin = .done (.ret v) ∧ ∃ T' r, s'.TypeIs v T' ∧ typeLookup (.type T') "__next__" = pure (some r) ∧ Q v s') E sx := by
  obtain ⟨⟨o, g1, g2, g3⟩, hf⟩ := y
  refine wpAny_bind (wpAny_setEpoch_of g1 g3 hf ?_)
  refine wpAny_bind ?_
  simp only [newFields]
  refine wpAny_newObj_type ?_ (by size_fits)
  have x : SitAt (sx.heap.push { cls := .type "set_iterator", data := .fields #[first, rawInt 0, .ref a, rawInt es.size, rawInt ep] }) sx.heap.objs.size #[first, rawInt ((0 : Nat) : Int), .ref a, rawInt es.size, rawInt ep] := ⟨_, Heap.get?_push_size _ rfl, rfl, rfl⟩
  exact wpAny_pure ⟨_, rfl, "set_iterator", _, x.typeIs (s := { sx with heap := _ }), sl_sit_next.lookup, h x⟩
theorem pyIter_set {a : Addr} {es : Array (Int × Value)} {ep : Nat} {t : SetTable} (y : SetAt s.heap a es ep t) (hsz : es.size ≤ sizeLine) (hled : t.led = !(w.params.followText "set-order")) (hpl : es.size ≤ 1 ∨ t.plain = false) {Q : Value → Shared → Prop}
    (h : ∀ (I : Addr) (h' : Heap) (d : Drawn) (fp : List Addr) (vs : List Value) (St : Nat → Heap → Prop), SetWalk prog w s a es I h' fp vs St → Q (.ref I) { s with heap := h', drawn := d }) : wpAny (model prog w) A (pyIter (.ref a)) Q E s := by
  obtain ⟨⟨o, g1, g2, g3⟩, hf⟩ := id y
  have hT : s.TypeIs (.ref a) "set" := ⟨o, g1, g2.1⟩
  refine wpAny_pyIter_slot hT sl_set_iter (wpAny_call_entry sl_set_iter hT en_set_iter ?_ (ar_set_iter _))
  unfold Builtin.«frozenset.__iter__» Builtin.Frozenset.slot0 slotArgs
  simp only [List.isEmpty_nil, Bool.not_true, Bool.false_eq_true, ↓reduceIte, bind_assoc, List.length_nil, bne_self_eq_false]
  unfold Builtin.Frozenset.addrOf Builtin.Frozenset.sizeOf
  refine wpAny_bind (wpAny_pure ?_)
  try dsimp only
  refine wpAny_bind (wpAny_pure ?_)
  refine wpAny_bind (wpAny_bind (wpAny_setEntries_of g1 g3 hf (wpAny_pure ?_)))
  have ha : a < s.heap.objs.size := Heap.lt_size g1
  have hD : ∀ {R : Bool → Shared → Prop} {E' : Value → Shared → Prop}, R (!(w.params.followText "set-order") && (!t.plain && decide (es.size > 1))) s → wpAny (model prog w) A.in1 (setDrawn a) R E' s := fun {R E'} hR => by
    unfold setDrawn
    refine wpAny_bind (wpAny_setState_of g1 g3 hf ?_)
    dsimp only
    exact wpAny_bind (wpAny_byText (wpAny_pure hR))
  refine wpAny_bind (hD ?_)
  have keepP : ∀ (x : Obj) b ob, s.heap.get? b = some ob → (s.heap.push x).get? b = some ob := fun x b ob e => Heap.get?_push_of_some _ e
  cases hbt : w.params.followText "set-order" with
  | true =>
    rw [hbt] at hled
    show wpAny _ _ (if false = true then _ else _) _ _ _
    rw [if_neg Bool.false_ne_true]
    refine wpAny_bind (wpAny_pure ?_)
    refine iter_tail y fun x => ?_
    have pp := pick_perm (w.params.setOrder a ep) es
    refine h _ _ s.drawn [s.heap.objs.size, a] ((pickOrder (w.params.setOrder a ep) es).toList.map (·.2)) _ ⟨keepP _, fun A' hA => walks_mono (walk_text (ep := ep) (t := t) (Nat.ne_of_lt ha) hA hbt) fun i v ⟨e, e1, e2⟩ => by rw [List.getElem?_map, e1, e2]; rfl, ⟨x, y.keep fun o e => keepP _ _ _ e⟩, fun b hb => ?_, Nat.le_refl _, fun b hb => ?_, pp.map _⟩
    · rw [Heap.size_push]
      rcases List.mem_cons.mp hb with z | z
      · rw [z]; exact Nat.lt_succ_self _
      · rw [List.mem_singleton.mp z]; exact Nat.lt_succ_of_lt ha
    · rcases List.mem_cons.mp hb with z | z
      · rw [z]; exact .inr (Nat.le_refl _)
      · exact .inl (List.mem_singleton.mp z)
  | false =>
    rw [hbt] at hled
    have hled' : t.led = true := hled
    by_cases h1 : es.size ≤ 1
    · have e : (!false && (!t.plain && decide (es.size > 1))) = false := by
        rw [decide_eq_false (by omega)]; simp
      rw [e, if_neg Bool.false_ne_true]
      refine wpAny_bind (wpAny_pure ?_)
      refine iter_tail y fun x => ?_
      refine h _ _ s.drawn [s.heap.objs.size, a] (es.toList.map (·.2)) _ ⟨keepP _, fun A' hA => walks_mono (walk_led (ep := ep) (t := t) (Nat.ne_of_lt ha) hA hbt hled' h1) fun i v ⟨e, e1, e2⟩ => by rw [List.getElem?_map, Array.getElem?_toList, e1, e2]; rfl, ⟨x, y.keep fun o e => keepP _ _ _ e⟩, fun b hb => ?_, Nat.le_refl _, fun b hb => ?_, List.Perm.refl _⟩
      · rw [Heap.size_push]
        rcases List.mem_cons.mp hb with z | z
        · rw [z]; exact Nat.lt_succ_self _
        · rw [List.mem_singleton.mp z]; exact Nat.lt_succ_of_lt ha
      · rcases List.mem_cons.mp hb with z | z
        · rw [z]; exact .inr (Nat.le_refl _)
        · exact .inl (List.mem_singleton.mp z)
    · have hp : t.plain = false := hpl.resolve_left h1
      have e : (!false && (!t.plain && decide (es.size > 1))) = true := by
        rw [hp, decide_eq_true (by omega)]; rfl
      rw [e, if_pos rfl]
      refine wpAny_bind (wpAny_drawOrder _ _ _ (by simp) fun js d hjs => ?_)
      refine wpAny_bind ?_
      simp only [newTuple]
      refine wpAny_newObj_type ?_ (by show (List.map (fun (i : Nat) => rawInt (i : Int)) js).toArray.size ≤ sizeLine; rw [List.size_toArray, List.length_map, hjs.length_eq, List.length_range]; exact hsz)
      have y2 : SetAt (s.heap.push { cls := .type "tuple", data := .seq (js.map fun (i : Nat) => rawInt (i : Int)).toArray }) a es ep t := y.keep fun o e => keepP _ _ _ e
      refine iter_tail (sx := { s with heap := s.heap.push { cls := .type "tuple", data := .seq (js.map fun (i : Nat) => rawInt (i : Int)).toArray }, drawn := d }) y2 fun x => ?_
      have hz : (s.heap.push { cls := .type "tuple", data := .seq (js.map fun (i : Nat) => rawInt (i : Int)).toArray }).objs.size = s.heap.objs.size + 1 := Heap.size_push _ _
      have hI : a ≠ (s.heap.push { cls := .type "tuple", data := .seq (js.map fun (i : Nat) => rawInt (i : Int)).toArray }).objs.size := by rw [hz]; exact Nat.ne_of_lt (Nat.lt_succ_of_lt ha)
      have hI2 : s.heap.objs.size ≠ (s.heap.push { cls := .type "tuple", data := .seq (js.map fun (i : Nat) => rawInt (i : Int)).toArray }).objs.size := by rw [hz]; exact Nat.ne_of_lt (Nat.lt_succ_self _)
      refine h _ _ d [_, a, s.heap.objs.size] (js.map (nthV es)) _ ⟨fun b o e => Heap.get?_push_of_some _ (keepP _ _ _ e), fun A' hA => walks_mono (walk_drawn (ep := ep) (t := t) (js := js) hI hI2 hA hjs) fun i v ⟨j, e, e1, e2, e3⟩ => ?_, ⟨x, y2.keep fun o e => Heap.get?_push_of_some _ e, _, _, Heap.get?_push_of_some _ (Heap.get?_push_size _ rfl), rfl⟩, fun b hb => ?_, ?_, fun b hb => ?_, ?_⟩
      · rw [List.getElem?_map, e1, e3]
        show some (nthV es j) = _
        unfold nthV
        rw [e2]; rfl
      · rw [Heap.size_push, hz]
        rcases List.mem_cons.mp hb with z | z
        · rw [z, hz]; exact Nat.lt_succ_self _
        · rcases List.mem_cons.mp z with z | z
          · rw [z]; exact Nat.lt_succ_of_lt (Nat.lt_succ_of_lt ha)
          · rw [List.mem_singleton.mp z]; exact Nat.lt_succ_of_lt (Nat.lt_succ_self _)
      · rw [hz]; exact Nat.le_succ _
      · rcases List.mem_cons.mp hb with z | z
        · rw [z, hz]; exact .inr (Nat.le_succ _)
        · rcases List.mem_cons.mp z with z | z
          · exact .inl z
          · rw [List.mem_singleton.mp z]; exact .inr (Nat.le_refl _)
      · rw [← nthV_range es]
        exact hjs.map _
end
end L2

set_option Elab.async false
set_option linter.all false
set_option maxRecDepth 100000
set_option maxHeartbeats 4100000
namespace L2
open PySem PySem.Spec PyProof.Rows
section
variable {prog : Program} {w : World} {A : Around} {E : Value → Shared → Prop} {s : Shared}
theorem hint_set {r : Addr} {Q : Bool → Shared → Prop} (hT : s.TypeIs (.ref r) "set") (h : Q false s) : wpAny (model prog w) A (Builtin.List.listLengthHint (.ref r)) Q E s := by
  unfold Builtin.List.listLengthHint
  refine wpAny_bind (wpAny_specialOf hT PySem.F.slot_set_len.lookup ?_)
  generalize hid : ("set.__len__" : String) = id0
  wp_delta
  rw [show splitId id0 = some ("set", "__len__") from by subst hid; decide +kernel]
  subst hid
  refine wpAny_bind (wpAny_isInstance (T := "set") (b := true) hT (by rw [isSubtype_type]; kernel_rfl) ?_)
  refine wpAny_ite_split (fun hab => absurd hab (by decide)) (fun _ => ?_)
  refine wpAny_ite_split (fun _ => ?_) (fun hab => absurd (by decide +kernel) hab)
  exact wpAny_bind (wpAny_typeOf hT (wpAny_pure h))
/-- a list taken up from a set, its members in some order -/
theorem extend_set {R : Result → Shared → Prop} {a L : Addr} {es : Array (Int × Value)} {ep : Nat} {t : SetTable} {c₀ : Nat} (hh : A.handled = none) (y : SetAt s.heap a es ep t) (hsz : es.size ≤ sizeLine) (hled : t.led = !(w.params.followText "set-order")) (hpl : es.size ≤ 1 ∨ t.plain = false)
    (hLa : L ≠ a) (hL : s.heap.get? L = some { cls := .type "list", data := .seq #[] c₀ }) (res : Value)
    (hR : ∀ (h' : Heap) (d : Drawn) (tk : Nat) (vs : List Value) (c' : Nat), (∀ b o, b ≠ L → s.heap.get? b = some o → h'.get? b = some o) → h'.get? L = some { cls := .type "list", dict := none, data := .seq vs.toArray c', slots := #[] } → vs.Perm (es.toList.map (·.2)) → R (.ok (.ret res)) { s with heap := h', drawn := d, toks := tk }) :
    wpAny (model prog w) A.in1 (Builtin.List.listExtendWith (.ref L) (.ref a) res) (fun fin s' => match fin with | .done f => R (.ok f) s' | .again c' => c'.quiet = true ∧ codeAny (model prog w) A c' R s') (fun e s' => R (.error e) s') s := by
  obtain ⟨⟨o, g1, g2, g3⟩, hf⟩ := id y
  have hT : s.TypeIs (.ref a) "set" := ⟨o, g1, g2.1⟩
  unfold Builtin.List.listExtendWith
  refine wpAny_bind (wpAny_typeOf (T := "set") hT ?_)
  have n1 : Builtin.List.listSameRef (.ref L) (.ref a) = false := by simp [Builtin.List.listSameRef, hLa]
  have n2 : (Value.type "set" == Value.type "list") = false := by decide
  have n3 : (Value.type "set" == Value.type "tuple") = false := by decide
  simp only [n1, n2, n3, Bool.or_false, Bool.false_eq_true, if_false]
  refine wpAny_bind (pyIter_set y hsz hled hpl fun I h' d fp vs St W => ?_)
  have hT' : Shared.TypeIs { s with heap := h', drawn := d } (.ref a) "set" := ⟨o, W.old _ _ g1, g2.1⟩
  have hL1 := W.old _ _ hL
  have hLf : L ∉ fp := fun hm => by
    rcases W.apart L hm with z | z
    · exact hLa z
    · exact absurd (Heap.lt_size hL) (Nat.not_lt.mpr z)
  have fin : ∀ (h1 : Heap) (c₁ : Nat), St 0 h1 → (∀ b o, b ≠ L → s.heap.get? b = some o → h1.get? b = some o) → h1.get? L = some { cls := .type "list", data := .seq #[] c₁ } →
      codeAny (model prog w) A (.builtin "list.extend.loop" ⟨[.ref L, .ref I, res], []⟩) R { s with heap := h1, drawn := d } := fun h1 c₁ st1 k1 l1 => by
    refine codeAny_extend_loopS (W.walks A.in1 hh).toS hsz L hLf res es.size 0 _ #[] c₁ rfl (Nat.zero_le _) st1 l1 (ItemsOf.nil _) fun s' acc c' hm hl' hacc => ?_
    have eacc : acc.toList = vs := by
      refine List.ext_getElem? fun i => ?_
      have hlen : vs.length = es.size := by rw [W.perm.length_eq]; simp
      by_cases hi : i < es.size
      · have hia : i < acc.size := by rw [hacc.1]; exact hi
        have := hacc.2 i acc[i] (Array.getElem?_eq_getElem hia)
        rw [Array.getElem?_toList, Array.getElem?_eq_getElem hia]
        exact this.symm
      · rw [Array.getElem?_toList, Array.getElem?_eq_none (by rw [hacc.1]; omega), List.getElem?_eq_none (by omega)]
    rw [Moved.eq_with hm]
    refine hR s'.heap d s'.toks vs c' (fun b o hb e => hm.heap b o (fun hmem => ?_) (k1 b o hb e)) ?_ W.perm
    · rcases List.mem_cons.mp hmem with z | z
      · exact hb z
      · have z' := List.mem_singleton.mp z
        exact absurd (Heap.lt_size e) (Nat.not_lt.mpr (by rw [z']; exact W.new))
    · rw [← eacc, Array.toArray_toList]; exact hl'
  refine wpAny_bind (wpAny_holding (hint_set hT' ?_))
  refine wpAny_ite_split (fun _ => ?_) (fun _ => wpAny_pure ⟨plainId_quiet PySem.F.plain_extend_loop _, fin _ c₀ W.st (fun b o _ e => W.old b o e) hL1⟩)
  refine wpAny_bind (wpAny_rule ?_)
  refine wpAny_bind ?_
  show wpAny _ _ (updateSeq L (·.push .none) >>= fun _ => updateSeq L (·.pop)) _ _ _
  refine wpAny_bind (wpAny_updateSeq hL1 rfl ?_)
  have l2 := Heap.get?_update_self (Obj.mapSeq (·.push Value.none)) hL1 rfl
  refine wpAny_updateSeq (hz := by seq_fits) l2 rfl ?_
  have l3 := Heap.get?_update_self (Obj.mapSeq (·.pop)) l2 rfl
  refine wpAny_pure ⟨plainId_quiet PySem.F.plain_extend_loop _, fin _ _ ?_ (fun b o hb e => ?_) l3⟩
  · refine (W.walks A.in1 hh).frame 0 _ _ W.st fun b hb o e => ?_
    have hbL : L ≠ b := fun z => hLf (by rw [z]; exact hb)
    exact (Heap.get?_update_other _ _ hbL).trans ((Heap.get?_update_other _ _ hbL).trans e)
  · exact (Heap.get?_update_other _ _ (Ne.symm hb)).trans ((Heap.get?_update_other _ _ (Ne.symm hb)).trans (W.old b o e))
theorem collect_set {R : List Value → Shared → Prop} {a : Addr} {es : Array (Int × Value)} {ep : Nat} {t : SetTable} (hh : A.handled = none) (y : SetAt s.heap a es ep t) (hsz : es.size ≤ sizeLine) (hled : t.led = !(w.params.followText "set-order")) (hpl : es.size ≤ 1 ∨ t.plain = false)
    (h : ∀ (h' : Heap) (d : Drawn) (tk : Nat) (vs : List Value), (∀ b o, s.heap.get? b = some o → h'.get? b = some o) → s.heap.objs.size < h'.objs.size → vs.Perm (es.toList.map (·.2)) → R vs { s with heap := h', drawn := d, toks := tk }) :
    wpAny (model prog w) A (collect (.ref a)) R E s := by
  obtain ⟨⟨o, g1, g2, g3⟩, hf⟩ := id y
  have ha : a < s.heap.objs.size := Heap.lt_size g1
  unfold collect
  refine wpAny_bind (wpAny_runValue (codeAny_builtin entry_proto_collect' ?_)); rw [Around.under_plainId PySem.F.plain_proto_collect _]
  show wpAny _ A.in1 (newList [] >>= fun l => again (.builtin "list.__iadd__" ⟨[l, .ref a], []⟩)) _ _ s
  refine wpAny_bind (wpAny_newObj_type ?_ (by show 0 ≤ sizeLine; decide))
  refine wpAny_pure ⟨plainId_quiet PySem.F.plain_list_iadd _, codeAny_builtin entry_list_iadd' ?_⟩; rw [Around.under_plainId PySem.F.plain_list_iadd _]
  have hL : (s.heap.push { cls := .type "list", data := .seq ([] : List Value).toArray }).get? s.heap.objs.size = some { cls := .type "list", data := .seq #[] } := Heap.get?_push_size _ rfl
  show wpAny _ A.in1 (Builtin.List.listExtendWith (.ref s.heap.objs.size) (.ref a) (.ref s.heap.objs.size)) _ _ _
  have key := extend_set (A := A) (w := w) (prog := prog) (s := { s with heap := s.heap.push { cls := .type "list", data := .seq ([] : List Value).toArray } }) (L := s.heap.objs.size)
    (R := fun (q : Result) (s' : Shared) => ∃ (h' : Heap) (d : Drawn) (tk : Nat) (vs : List Value) (c' : Nat), q = .ok (.ret (.ref s.heap.objs.size)) ∧ s' = { s with heap := h', drawn := d, toks := tk } ∧
      (∀ b o, s.heap.get? b = some o → h'.get? b = some o) ∧ h'.get? s.heap.objs.size = some { cls := .type "list", dict := none, data := .seq vs.toArray c', slots := #[] } ∧ vs.Perm (es.toList.map (·.2)))
    hh (y.keep fun o e => Heap.get?_push_of_some _ e) hsz hled hpl (Nat.ne_of_gt ha) hL (.ref s.heap.objs.size)
    fun h' d tk vs c' hk hl' hp => ⟨h', d, tk, vs, c', rfl, rfl, fun b o e => hk b o (Nat.ne_of_lt (Heap.lt_size e)) (Heap.get?_push_of_some _ e), hl', hp⟩
  have fin : ∀ (s' : Shared), (∃ (h' : Heap) (d : Drawn) (tk : Nat) (vs : List Value) (c' : Nat), s' = { s with heap := h', drawn := d, toks := tk } ∧ (∀ b o, s.heap.get? b = some o → h'.get? b = some o) ∧ h'.get? s.heap.objs.size = some { cls := .type "list", dict := none, data := .seq vs.toArray c', slots := #[] } ∧ vs.Perm (es.toList.map (·.2))) →
      wpAny (model prog w) A (load s.heap.objs.size >>= fun o => match o.data with | .seq xs _ => pure xs.toList | _ => unsupported "internal:collect") R E s' := by
    rintro s' ⟨h', d, tk, vs, c', rfl, hk, hl', hp⟩
    refine wpAny_bind (wpAny_load hl' ?_)
    refine wpAny_pure ?_
    have := h h' d tk vs hk (Heap.lt_size hl') hp
    simpa using this
  refine wpAny_mono key (fun f s' x => ?_) fun e s' x => ?_
  · cases f with
    | done fl =>
      obtain ⟨h', d, tk, vs, c', e, r⟩ := x
      cases e
      exact fin s' ⟨h', d, tk, vs, c', r⟩
    | again c₁ =>
      refine ⟨x.1, codeAny_mono x.2 fun q s₂ z => ?_⟩
      obtain ⟨h', d, tk, vs, c', rfl, r⟩ := z
      exact fin s₂ ⟨h', d, tk, vs, c', r⟩
  · obtain ⟨_, _, _, _, _, e', _⟩ := x
    cases e'
end
end L2

set_option Elab.async false
set_option linter.all false
set_option maxRecDepth 100000
set_option maxHeartbeats 4100000
namespace L2
open PySem PySem.Spec PyProof.Rows
/-- the members are these texts, in the table's order -/
structure StrSet (w : World) (h : Heap) (a : Addr) (es : Array (Int × Value)) (ep : Nat) (t : SetTable) (ss : List Str) : Prop where
  at_ : SetAt h a es ep t
  led : t.led = !(w.params.followText "set-order")
  plain : es.size = 0 ∨ t.plain = false
  txt : StrsAre (es.toList.map (·.2)) ss
  hash : ∀ e ∈ es.toList, ∃ x tk, e = (hashStr w x, Value.str x tk)
  nd : ss.Nodup
theorem StrSet.keep {w : World} {h h' : Heap} {a : Addr} {es : Array (Int × Value)} {ep : Nat} {t : SetTable} {ss : List Str} (x : StrSet w h a es ep t ss) (k : ∀ o, h.get? a = some o → h'.get? a = some o) : StrSet w h' a es ep t ss :=
  ⟨x.at_.keep k, x.led, x.plain, x.txt, x.hash, x.nd⟩
def IsStrSet (w : World) (h : Heap) (a : Addr) (ss : List Str) : Prop := ∃ es ep t, StrSet w h a es ep t ss
/-- a tracked set of texts -/
def setO (w : World) (a : Addr) (ss : List Str) : HO := .ext fun h => IsStrSet w h a ss
theorem setO_ok {P : Program} {w : World} {H : Hp} {h : Heap} {a : Addr} {ss : List Str} (x : IsStrSet w h a ss) : ObjOk P w H h a (setO w a ss) := by
  obtain ⟨es, ep, t, y⟩ := x
  obtain ⟨⟨o, h1, h2⟩, _⟩ := y.at_
  exact ⟨⟨es, ep, t, y⟩, ⟨o, h1⟩, fun h1 h2 ⟨es, ep, t, y⟩ k => ⟨es, ep, t, y.keep k⟩⟩
theorem strs_len : ∀ {vs : List Value} {ss : List Str}, StrsAre vs ss → vs.length = ss.length
  | _, _, .nil => rfl
  | _, _, .cons _ _ r => congrArg (· + 1) (strs_len r)
theorem strs_perm : ∀ {us vs : List Value}, us.Perm vs → ∀ {ss : List Str}, StrsAre vs ss → ∃ ss', StrsAre us ss' ∧ ss'.Perm ss := by
  intro us vs p
  induction p with
  | nil => intro ss h; cases h; exact ⟨[], .nil, List.Perm.refl _⟩
  | cons x _ ih =>
    intro ss h
    cases h with
    | cons y t r =>
      obtain ⟨ss', h1, h2⟩ := ih r
      exact ⟨y :: ss', .cons y t h1, h2.cons y⟩
  | swap x y l =>
    intro ss h
    cases h with
    | cons a t r =>
      cases r with
      | cons b u r2 => exact ⟨b :: a :: _, .cons b u (.cons a t r2), List.Perm.swap _ _ _⟩
  | trans _ _ ih1 ih2 =>
    intro ss h
    obtain ⟨s2, a1, a2⟩ := ih2 h
    obtain ⟨s1, b1, b2⟩ := ih1 a1
    exact ⟨s1, b1, b2.trans a2⟩
theorem vals_strs : ∀ {vs : List Value} {ss : List Str}, StrsAre vs ss → Vals (ss.map V.str) vs
  | _, _, .nil => .nil
  | _, _, .cons y t r => .cons ⟨t, rfl⟩ (vals_strs r)
theorem strs_vals : ∀ {ss : List Str} {vs : List Value}, Vals (ss.map V.str) vs → StrsAre vs ss
  | [], _, .nil => .nil
  | s :: ss, _, .cons ⟨t, e⟩ r => by subst e; exact .cons s t (strs_vals r)
section
variable {prog : Program} {w : World} {A : Around} {E : Value → Shared → Prop} {s : Shared}
theorem sorted_set {a : Addr} {es : Array (Int × Value)} {ep : Nat} {t : SetTable} {ss : List Str} {Q : Value → Shared → Prop} (hh : A.handled = none) (y : StrSet w s.heap a es ep t ss) (h64 : ss.length < 64)
    (h : ∀ (D : Addr) (h' : Heap) (d : Drawn) (tk e : Nat) (out : List Value) (ss' : List Str), (∀ b o, s.heap.get? b = some o → h'.get? b = some o) → s.heap.objs.size ≤ D → h'.get? D = some (seqObj "list" out.toArray e) → StrsAre out ss' → ss'.Perm ss → sortedS ss' = true → Q (.ref D) { s with heap := h', drawn := d, toks := tk }) :
    wpAny (model prog w) A (call (.builtin "sorted") [.ref a]) Q E s := by
  have hes : es.size = ss.length := by have := strs_len y.txt; simpa using this
  have hline : es.size ≤ sizeLine := by rw [hes, sizeLine_eq]; omega
  refine Calls.call_function_entry kind_sorted plain_sorted entry_sorted (args_sorted1 _) ?_
  unfold Builtin.«sorted»
  refine wpAny_bind (m := checkCount "sorted" 1 1 _) (wpAny_pure ?_)
  refine wpAny_bind (collect_set (A := A.in1) hh y.at_ hline y.led (y.plain.imp (fun z => by omega) id) fun h1 d tk vs hk hlt1 hp => ?_)
  obtain ⟨sv, b1, b2⟩ := strs_perm hp y.txt
  have hvl : vs.length = ss.length := by rw [strs_len b1, b2.length_eq]
  refine wpAny_bind (wpAny_newList ?_ (by show vs.toArray.size ≤ sizeLine; rw [List.size_toArray, hvl, sizeLine_eq]; omega))
  have hoL : (h1.push (seqObj "list" vs.toArray 0)).get? h1.objs.size = some (seqObj "list" vs.toArray 0) := Heap.get?_push_size _ rfl
  refine wpAny_bind (wpAny_holding (wpAny_call_entry slot_list_sort ⟨_, hoL, rfl⟩ PyProof.Rows.entry_list_sort (list_sort_treeK (n := 0) strKind_oneLt hoL b1.keysOf (fun v₁ v₂ rest e => keyKind_strs (by rw [← e]; exact b1)) (by omega) fun st' a1 a2 => ⟨_, rfl, ?_⟩) (args_list_sort _)))
  obtain ⟨ss', c1, c2, c3⟩ := sorted_out_str b1 a1 a2
  obtain ⟨e, he⟩ := sortedHeap_at (out := (arrOf st').map (·.2)) hoL
  refine wpAny_pure ⟨_, rfl, ?_⟩
  refine h h1.objs.size _ d tk e _ ss' (fun b o hb => ?_) ?_ (by rw [Array.toArray_toList]; exact he) c1 (c2.trans b2) c3
  · have hb1 := hk b o hb
    have hlt : b < h1.objs.size := Heap.lt_size hb1
    rw [sortedHeap_old (Nat.ne_of_lt hlt) (by rw [size_push']; exact Nat.lt_succ_of_lt hlt)]
    exact Heap.get?_push_of_some _ hb1
  · exact Nat.le_of_lt hlt1
end
end L2

set_option Elab.async false
set_option linter.all false
set_option maxRecDepth 100000
set_option maxHeartbeats 4100000
namespace L2
open PySem PySem.Spec PyProof.Rows
theorem standIn_led (t : SetTable) (n : Nat) : (t.standIn n).led = t.led := rfl
theorem orStandIn_led (t : SetTable) (n : Nat) : (t.orStandIn n).led = t.led := by
  unfold SetTable.orStandIn
  split <;> rfl
theorem layNew_led (t : SetTable) (es : Array (Int × Value)) (h : Int) (x : Value) : (layNew t es h x).2.1.led = t.led := by
  unfold layNew
  split
  · dsimp only
    rw [orStandIn_led]; rfl
  · rfl
theorem relaid_is {t t' : SetTable} {hs : Array Int} {n : Nat} {o : Array Nat} (h : t.relaid hs n = some (t', o)) : t'.led = t.led ∧ t'.plain = t.plain := by
  unfold SetTable.relaid SetTable.laid at h
  cases e : SetTable.layClean (SetTable.sizeAbove n - 1) hs with
  | none => rw [e] at h; cases h
  | some ow =>
    rw [e] at h
    have h' := Option.some.inj h
    have h1 := congrArg (fun q : SetTable × Array Nat => (q.1.led, q.1.plain)) h'
    have h2 : (t.led, t.plain) = (t'.led, t'.plain) := h1
    exact ⟨(congrArg Prod.fst h2).symm, (congrArg Prod.snd h2).symm⟩
theorem relayAll_led (t : SetTable) (es : Array (Int × Value)) (n : Nat) : (relayAll t es n).2.1.led = t.led := by
  unfold relayAll
  split
  · rename_i t' o e
    dsimp only
    split
    · exact (relaid_is e).1
    · rfl
  · rfl
theorem relayAll_plain (t : SetTable) (es : Array (Int × Value)) (n : Nat) (hp : t.plain = false) : (relayAll t es n).2.1.plain = false := by
  unfold relayAll
  split
  · rename_i t' o e
    dsimp only
    split
    · exact (relaid_is e).2.trans hp
    · rfl
  · rfl
theorem SetAt.store {h : Heap} {a : Addr} {es es' : Array (Int × Value)} {ep : Nat} {t t' : SetTable} (y : SetAt h a es ep t) (hf : t'.fits es'.size = true) : SetAt (h.update a (Obj.putSet es' t')) a es' (ep + 1) t' := by
  obtain ⟨⟨o, h1, h2, h3⟩, _⟩ := y
  have hg := Heap.get?_update_self (Obj.putSet es' t') h1 (by rw [putSet_of es' t' h3]; rfl)
  rw [putSet_of es' t' h3] at hg
  exact ⟨⟨_, hg, h2, rfl⟩, hf⟩
theorem mem_strs {x : Str} : ∀ {vs : List Value} {ss : List Str}, StrsAre vs ss → (x ∈ ss ↔ ∃ v ∈ vs, Value.isStrOf x v = true)
  | _, _, .nil => by simp
  | _, _, .cons y t r => by
    rw [List.mem_cons, mem_strs r]
    constructor
    · rintro (rfl | ⟨v, hv, e⟩)
      · exact ⟨_, List.mem_cons_self .., by simp [Value.isStrOf]⟩
      · exact ⟨v, List.mem_cons_of_mem _ hv, e⟩
    · rintro ⟨v, hv, e⟩
      rcases List.mem_cons.mp hv with rfl | hv
      · obtain ⟨u, eu⟩ := Value.isStrOf_shape e
        injection eu with e1 _
        exact .inl e1.symm
      · exact .inr ⟨v, hv, e⟩
section
variable {prog : Program} {w : World} {A : Around} {E : Value → Shared → Prop} {s : Shared}
theorem StrSet.elems {h : Heap} {a : Addr} {es : Array (Int × Value)} {ep : Nat} {t : SetTable} {ss : List Str} (y : StrSet w h a es ep t ss) : ElemsOf (PySem.strKind prog w) es.toList := fun e he => by
  obtain ⟨x, tk, rfl⟩ := y.hash e he
  exact ⟨⟨x, by show Value.isStrOf x (.str x tk) = true; simp [Value.isStrOf], rfl⟩, rfl⟩
theorem StrSet.size {h : Heap} {a : Addr} {es : Array (Int × Value)} {ep : Nat} {t : SetTable} {ss : List Str} (y : StrSet w h a es ep t ss) : es.size = ss.length := by
  have := strs_len y.txt
  simpa using this
/-- the table laid anew with a text more -/
theorem StrSet.more {h h' : Heap} {a : Addr} {es es' : Array (Int × Value)} {ep ep' : Nat} {t t' : SetTable} {ss : List Str} {x : Str} {tk : Tok} (y : StrSet w h a es ep t ss) (hx : x ∉ ss) (st : SetAt h' a es' ep' t') (hl : t'.led = t.led) (hp : t'.plain = false)
    (pm : es'.toList.Perm (es.toList ++ [(hashStr w x, .str x tk)])) : ∃ ss', StrSet w h' a es' ep' t' ss' ∧ (∀ z, z ∈ ss' ↔ z ∈ ss ∨ z = x) ∧ ss'.length = ss.length + 1 := by
  have pm2 : (es'.toList.map (·.2)).Perm (es.toList.map (·.2) ++ [.str x tk]) := by
    have := pm.map (·.2)
    rwa [List.map_append] at this
  have happ : ∀ {vs : List Value} {zs : List Str}, StrsAre vs zs → StrsAre (vs ++ [.str x tk]) (zs ++ [x]) := fun {vs zs} r => by
    induction r with
    | nil => exact .cons x tk .nil
    | cons a t _ ih => exact .cons a t ih
  obtain ⟨ss', h1, h2⟩ := strs_perm pm2 (happ y.txt)
  refine ⟨ss', ⟨st, hl.trans y.led, .inr hp, h1, fun e he => ?_, ?_⟩, fun z => ?_, ?_⟩
  · rcases List.mem_append.mp (pm.mem_iff.mp he) with q | q
    · exact y.hash e q
    · exact ⟨x, tk, List.mem_singleton.mp q⟩
  · exact h2.nodup_iff.mpr (nd_snoc y.nd hx)
  · rw [h2.mem_iff, List.mem_append, List.mem_singleton]
  · rw [h2.length_eq, List.length_append]; rfl
/-- the note that a table gave way -/
def gq : Bool → Sem Unit
  | true => rule "set.scan.the-table-gave-way"
  | false => pure ()
theorem add_str {S : Addr} {es : Array (Int × Value)} {ep : Nat} {t : SetTable} {ss : List Str} {x : Str} {tk : Tok} {Q : Bool → Shared → Prop} (y : StrSet w s.heap S es ep t ss) (hb : ss.length + 1 < scanBound)
    (h : ∀ h' es' ep' t' ss' b, Heap.SameBut S s.heap h' → StrSet w h' S es' ep' t' ss' → (∀ z, z ∈ ss' ↔ z ∈ ss ∨ z = x) → ss'.length ≤ ss.length + 1 → Q b { s with heap := h' }) :
    wpAny (model prog w) A (setAddHashed S (.str x tk) (hashStr w x)) Q E s := by
  have hel : ElemsOf (PySem.strKind prog w) es.toList := y.elems
  have hsz := y.size
  obtain ⟨⟨o, g1, g2, g3⟩, hf⟩ := id y.at_
  have gw : ∀ (b : Bool) {s₁ : Shared} {Q' : Unit → Shared → Prop} {E' : Value → Shared → Prop}, Q' () s₁ → wpAny (model prog w) A (gq b) Q' E' s₁ := fun b s₁ Q' E' hq => by cases b <;> first | exact wpAny_pure hq | exact wpAny_rule hq
  have hkey : (PySem.strKind prog w).is x (.str x tk) = true := by show Value.isStrOf x (.str x tk) = true; simp [Value.isStrOf]
  unfold setAddHashed setAddHashedIn
  refine wpAny_holding (wpAny_bind (wpAny_setState_of g1 g3 hf ?_))
  dsimp only
  rw [byScan_of (knd := PySem.strKind prog w) (x := .str x tk) rfl (by omega) hel]
  simp only [↓reduceIte]
  unfold setAddByScan
  refine wpAny_bind (wpAny_bind (wpAny_rule (wpAny_bind (wpAny_setScan_of (knd := PySem.strKind prog w) hkey g1 g3 hf hel ?_))))
  cases hr : List.findIdx? (fun e => (PySem.strKind prog w).is x e.2) es.toList with
  | some j =>
    dsimp only
    obtain ⟨hj, hpj, _⟩ := List.findIdx?_eq_some_iff_getElem.mp hr
    have hx : x ∈ ss := (mem_strs y.txt).mpr ⟨_, List.mem_map.mpr ⟨_, List.getElem_mem hj, rfl⟩, hpj⟩
    refine wpAny_pure (wpAny_pure ?_)
    exact h s.heap es ep t ss _ (Heap.SameBut.refl S s.heap) y (fun z => ⟨.inl, fun q => q.elim id fun e => e ▸ hx⟩) (Nat.le_succ _)
  | none =>
    dsimp only
    have hx : x ∉ ss := fun hx => by
      obtain ⟨v, hv, e⟩ := (mem_strs y.txt).mp hx
      obtain ⟨p, hp, rfl⟩ := List.mem_map.mp hv
      have := List.findIdx?_eq_none_iff.mp hr p hp
      rw [show (PySem.strKind prog w).is x p.2 = Value.isStrOf x p.2 from rfl, e] at this
      cases this
    have lp := layNew_perm t es (hashStr w x) (.str x tk)
    have lf := layNew_fits t es (hashStr w x) (.str x tk)
    have ll := layNew_led t es (hashStr w x) (.str x tk)
    rw [Array.toList_push] at lp
    refine wpAny_bind (gw _ ?_)
    generalize hL : layNew t es (hashStr w x) (.str x tk) = L at lp lf ll ⊢
    obtain ⟨es1, t1, wd, gv⟩ := L
    dsimp only at lp lf ll ⊢
    have hb1 : es1.size < scanBound := by
      have := lp.length_eq
      rw [List.length_append] at this
      simp at this
      omega
    have tail : ∀ {t2 : SetTable} {E' : Value → Shared → Prop}, t2.fits es1.size = true → t2.led = t.led → t2.plain = false → wpAny (model prog w) A (do
        storeSet S es1 t2
        if (!wd && t2.tooFull) = true then do
          gq (relayAll t2 es1 (SetTable.grown es1.size)).2.2
          storeSet S (relayAll t2 es1 (SetTable.grown es1.size)).1 (relayAll t2 es1 (SetTable.grown es1.size)).2.1
          pure (some true)
        else pure (some true)) (fun (r : Option Bool) s' => ∃ h' es' ep' t' ss', r = some true ∧ s' = { s with heap := h' } ∧ Heap.SameBut S s.heap h' ∧ StrSet w h' S es' ep' t' ss' ∧ (∀ z, z ∈ ss' ↔ z ∈ ss ∨ z = x) ∧ ss'.length = ss.length + 1) E' s := fun {t2 E'} f2 l2 p2 => by
      refine wpAny_bind (wpAny_storeSet_of g1 g3 ?_ (fits_of_scanBound hb1))
      have y1 := y.at_.store (es' := es1) (t' := t2) f2
      obtain ⟨⟨o1, k1, k2, k3⟩, _⟩ := id y1
      have sb1 := Heap.SameBut.update s.heap S (Obj.putSet es1 t2)
      split
      · have rp := relayAll_perm t2 es1 (SetTable.grown es1.size)
        have rf := relayAll_fits t2 es1 (SetTable.grown es1.size)
        have rl := relayAll_led t2 es1 (SetTable.grown es1.size)
        have rq := relayAll_plain t2 es1 (SetTable.grown es1.size) p2
        have rz : (relayAll t2 es1 (SetTable.grown es1.size)).1.size = es1.size := by rw [← Array.length_toList, rp.length_eq, Array.length_toList]
        refine wpAny_bind (gw _ ?_)
        refine wpAny_bind (wpAny_storeSet_of k1 k3 ?_ (fits_of_scanBound (by rw [rz]; exact hb1)))
        obtain ⟨ss', a1, a2, a3⟩ := y.more hx (y1.store (es' := (relayAll t2 es1 (SetTable.grown es1.size)).1) (t' := (relayAll t2 es1 (SetTable.grown es1.size)).2.1) rf) (rl.trans l2) rq (rp.trans lp)
        exact wpAny_pure ⟨_, _, _, _, ss', rfl, rfl, sb1.trans (Heap.SameBut.update _ S _), a1, a2, a3⟩
      · obtain ⟨ss', a1, a2, a3⟩ := y.more hx y1 l2 p2 lp
        exact wpAny_pure ⟨_, _, _, _, ss', rfl, rfl, sb1, a1, a2, a3⟩
    have fin : ∀ (r : Option Bool) (s' : Shared), (∃ h' es' ep' t' ss', r = some true ∧ s' = { s with heap := h' } ∧ Heap.SameBut S s.heap h' ∧ StrSet w h' S es' ep' t' ss' ∧ (∀ z, z ∈ ss' ↔ z ∈ ss ∨ z = x) ∧ ss'.length = ss.length + 1) →
        wpAny (model prog w) A (match r with | some added => pure added | none => setAddHashedIn S (.str x tk) (hashStr w x) 99999) Q E s' := by
      rintro r s' ⟨h', es', ep', t', ss', rfl, rfl, a1, a2, a3, a4⟩
      exact wpAny_pure (h h' es' ep' t' ss' true a1 a2 a3 (Nat.le_of_eq a4))
    split
    · refine wpAny_bind ?_
      rw [hashByValue_scannable 8 rfl]
      refine wpAny_pure ?_
      simp only [plainKind, Bool.false_eq_true, if_false]
      exact wpAny_mono (tail (SetTable.fits_plain_off lf) ll rfl) fin fun _ _ e => e
    · rename_i hpl
      refine wpAny_bind (wpAny_pure ?_)
      simp only [if_true]
      exact wpAny_mono (tail lf ll (by simpa using hpl)) fin fun _ _ e => e
end
end L2

set_option Elab.async false
set_option linter.all false
set_option maxRecDepth 100000
set_option maxHeartbeats 4100000
namespace L2
open PySem PySem.Spec PyProof.Rows
section
variable {prog : Program} {w : World} {A : Around} {E : Value → Shared → Prop} {s : Shared}
theorem upd_loop {R : Result → Shared → Prop} {I S : Addr} {fp wr : List Addr} {P : Nat → Value → Prop} {St : Nat → Heap → Prop} {xs : List Str} (W : Walks prog w A.in1 I fp wr xs.length P St) (hSf : S ∉ fp)
    (hval : ∀ i v, P i v → ∃ x t, xs[i]? = some x ∧ v = .str x t) (hb : xs.length + 1 < scanBound) :
    ∀ (k i : Nat) (s : Shared) (es : Array (Int × Value)) (ep : Nat) (t : SetTable) (ss : List Str), xs.length - i = k → i ≤ xs.length → St i s.heap → StrSet w s.heap S es ep t ss → (∀ z, z ∈ ss ↔ z ∈ xs.take i) → ss.length ≤ i →
      (∀ h' tk es' ep' t' ss', (∀ b o, b ≠ S → b ∉ wr → s.heap.get? b = some o → h'.get? b = some o) → StrSet w h' S es' ep' t' ss' → (∀ z, z ∈ ss' ↔ z ∈ xs) → ss'.length ≤ xs.length → R (.ok (.ret .none)) { s with heap := h', toks := tk }) →
      codeAny (model prog w) A (.builtin "set.update.loop" ⟨[.ref S, .ref I], []⟩) R s := by
  have hSw : S ∉ wr := fun h => hSf (W.sub _ h)
  intro k
  induction k with
  | zero =>
    intro i s es ep t ss hk hi hst y hm hlen hR
    have hin : i = xs.length := by omega
    subst hin
    refine codeAny_builtin PyProof.Rows.F.entry_set_update_loop ?_
    rw [Around.under_plainId PyProof.Rows.F.plain_set_update_loop _]
    show wpAny _ A.in1 (pyNext (.ref I) >>= _) _ _ s
    refine wpAny_bind (W.done s _ _ hst fun h' tk kp => ?_)
    refine wpAny_pure (hR h' tk es ep t ss (fun b o _ hbw e => kp b o hbw e) (y.keep fun o e => kp S o hSw e) (fun z => ?_) hlen)
    rw [hm z, List.take_of_length_le (Nat.le_refl _)]
  | succ k ih =>
    intro i s es ep t ss hk hi hst y hm hlen hR
    have hlt : i < xs.length := by omega
    refine codeAny_builtin PyProof.Rows.F.entry_set_update_loop ?_
    rw [Around.under_plainId PyProof.Rows.F.plain_set_update_loop _]
    show wpAny _ A.in1 (pyNext (.ref I) >>= _) _ _ s
    refine wpAny_bind (W.item i s _ _ hlt hst fun v h1 tk1 hP st1 kp => ?_)
    obtain ⟨x, tx, ex, rfl⟩ := hval i v hP
    have y1 : StrSet w h1 S es ep t ss := y.keep fun o e => kp S o hSw e
    show wpAny _ A.in1 (holding [Value.str x tx] (setAdd S (.str x tx)) >>= _) _ _ _
    refine wpAny_bind (wpAny_holding ?_)
    unfold setAdd
    refine wpAny_holding (wpAny_bind (wpAny_pyHash_str ?_))
    refine add_str (s := { s with heap := h1, toks := _ }) y1 (by omega) fun h2 es2 ep2 t2 ss2 b sb y2 hm2 hl2 => ?_
    refine wpAny_pure ⟨plainId_quiet PyProof.Rows.F.plain_set_update_loop _, ih (i + 1) _ es2 ep2 t2 ss2 (by omega) hlt (W.frame _ _ _ st1 fun b hb o e => ?_) y2 (fun z => ?_) (by omega) fun h3 tk3 es3 ep3 t3 ss3 k3 y3 m3 l3 => ?_⟩
    · exact (sb.2 b fun z => hSf (z ▸ hb)).trans e
    · rw [hm2 z, hm z, List.take_add_one, ex, List.mem_append]
      simp
    · exact hR h3 tk3 es3 ep3 t3 ss3 (fun b o hbS hbw e => k3 b o hbS hbw ((sb.2 b hbS).trans (kp b o hbw e))) y3 m3 l3
theorem strs_at : ∀ {vs : List Value} {ss : List Str}, StrsAre vs ss → ∀ {i : Nat} {v : Value}, vs[i]? = some v → ∃ x t, ss[i]? = some x ∧ v = .str x t
  | _, _, .nil, i, v, h => by simp at h
  | _, _, .cons y t r, 0, v, h => by simp at h; exact ⟨y, t, rfl, h.symm⟩
  | _, _, .cons y t r, i + 1, v, h => by
    obtain ⟨x, u, a, b⟩ := strs_at r (i := i) (by simpa using h)
    exact ⟨x, u, by simpa using a, b⟩
/-- a new set, led where its walk is not by the text -/
abbrev newSetO (w : World) : Obj := { cls := .type "set", dict := none, data := .set #[] 0 (.fresh 0 0 (!(w.params.followText "set-order"))) }
theorem set_new (a : Value) {K : Value → Shared → Prop} (h : K (.ref s.heap.objs.size) { s with heap := s.heap.push (newSetO w) }) :
    codeAny (model prog w) A (.call (.builtin "set.__new__") ⟨[.type "set", a], []⟩) (wants K E) s := by
  refine codeAny_of_tree ?_
  show wpAny _ A.in1 (do checkBuiltinCall "set.__new__" ⟨[.type "set", a], []⟩; again (.builtin "set.__new__" ⟨[.type "set", a], []⟩)) _ _ s
  refine wpAny_bind (wpAny_of_eq (PySem.F.newCall_set_1 a) (wpAny_pure ⟨plainId_quiet PySem.F.plain_set_new _, codeAny_builtin PySem.F.entry_set_new ?_⟩))
  rw [Around.under_plainId PySem.F.plain_set_new _]; unfold Builtin.«set.__new__» Builtin.Frozenset.newClass
  have hsub := sub_set_self
  obtain ⟨hp, g, d, tk, os⟩ := s
  dsimp only
  wp_walk
  refine wpAny_askSetting (wpAny_pure ?_)
  dsimp only
  simp only [newObj]
  exact wpAny_bind (wpAny_alloc (wpAny_pure (wpAny_pure h)))
theorem new_is (h : Heap) : StrSet w (h.push (newSetO w)) h.objs.size #[] 0 (.fresh 0 0 (!(w.params.followText "set-order"))) [] :=
  ⟨⟨⟨_, Heap.get?_push_size _ rfl, ⟨rfl, rfl, rfl⟩, rfl⟩, by rfl⟩, rfl, .inl rfl, .nil, fun e he => by simp at he, List.nodup_nil⟩
theorem set_of_list {l : Addr} {items : Array Value} {xs : List Str} {Q : Value → Shared → Prop} (hh : A.handled = none) (hl : s.heap.IsList l items) (hi : StrsAre items.toList xs) (hb : xs.length + 1 < scanBound)
    (h : ∀ (h' : Heap) (tk : Nat) es ep t ss, StrSet w h' s.heap.objs.size es ep t ss → (∀ z, z ∈ ss ↔ z ∈ xs) → ss.length ≤ xs.length → (∀ b o, s.heap.get? b = some o → h'.get? b = some o) → Q (.ref s.heap.objs.size) { s with heap := h', toks := tk }) :
    wpAny (model prog w) A (call (.type "set") [.ref l]) Q E s := by
  obtain ⟨cm, tl, hmro⟩ := PySem.F.called_set.mro
  have hmade := PySem.F.called_set.made
  have hsub := PySem.F.called_set.sub
  refine wpAny_call (codeAny_of_tree ?_)
  show wpAny _ _ (callAny (.type "set") _) _ _ _
  refine wpAny_pure ⟨Code.quiet_builtin _ (by decide +kernel), codeAny_builtin F.entry_type_call ?_⟩
  rw [Around.under_plain (weight_type_call_type "set" [.ref l] []) rfl]
  have w1 := PySem.F.called_set.notType
  have w2 := PySem.F.called_set.canCreate
  have w3 := PySem.F.typeCall_set_1 (.ref l)
  repeat any_goals first | assumption | wp_step
  refine codeAny_mono (set_new (.ref l) (E := E) (K := fun obj s₁ => obj = .ref s.heap.objs.size ∧ s₁ = { s with heap := s.heap.push (newSetO w) }) ⟨rfl, rfl⟩) fun r s₁ hr => ?_
  cases r with
  | error e => exact hr
  | ok fl =>
    cases fl with
    | ret obj =>
      obtain ⟨rfl, rfl⟩ := hr
      have hN := new_is (w := w) s.heap
      have hT : Shared.TypeIs { s with heap := s.heap.push (newSetO w) } (.ref s.heap.objs.size) "set" := ⟨_, Heap.get?_push_size _ rfl, rfl⟩
      have w4 := PySem.F.called_set.init.lookup
      have w5 := PySem.F.called_set.init.bind (.ref s.heap.objs.size)
      repeat any_goals first | assumption | wp_step
      refine codeAny_mono (codeAny_call_builtin (R := wants (fun r s₂ => r = .none ∧ ∃ h' tk es ep t ss, s₂ = { s with heap := h', toks := tk } ∧ StrSet w h' s.heap.objs.size es ep t ss ∧ (∀ z, z ∈ ss ↔ z ∈ xs) ∧ ss.length ≤ xs.length ∧ (∀ b o, s.heap.get? b = some o → h'.get? b = some o)) E)
        PySem.F.called_set.init.plain PySem.F.entry_set_init (check_set_init_1 hT ?_)) fun r₂ s₂ hr₂ => ?_
      · obtain ⟨ol, hol, hcl, nl, hdl⟩ := hl
        obtain ⟨ocls, odict, odata, oslots⟩ := ol
        simp only at hcl hdl
        subst hcl; subst hdl
        have hol' : (s.heap.push (newSetO w)).get? l = some { cls := .type "list", dict := odict, data := .seq items nl, slots := oslots } := Heap.get?_push_of_some _ hol
        have v1 := PySem.F.sub_list_set
        have v2 := PySem.F.sub_list_frozenset
        have v3 : (Value.type "list" == Value.type "dict") = false := by decide
        have hl1 : (s.heap.push (newSetO w)).IsList l items := ⟨_, hol', rfl, nl, rfl⟩
        have hz : items.size = xs.length := by have := strs_len hi; simpa using this
        have hlS : l < s.heap.objs.size := Heap.lt_size hol
        have hsz : (s.heap.push (newSetO w)).objs.size = s.heap.objs.size + 1 := Heap.size_push _ _
        unfold Builtin.«set.__init__» noKeywords Builtin.Frozenset.updateFrom
        generalize hPI : pyIter = PI
        wp_walk
        subst hPI
        refine wpAny_pyIter_list hl1 (wpAny_bind (wpAny_runValue ?_))
        have W := Walks.list (prog := prog) (w := w) (A := A.in1.in1.in1) (by simp [hh]) (s.heap.push (newSetO w)).objs.size l (by rw [hsz]; exact Nat.ne_of_lt (Nat.lt_succ_of_lt hlS)) items
        rw [hz] at W
        refine upd_loop (S := s.heap.objs.size) W ?_ (fun i v hv => ?_) hb xs.length 0 _ #[] 0 _ [] (by omega) (Nat.zero_le _) ⟨⟨_, Heap.get?_push_size _ rfl, rfl, rfl⟩, hl1.push _⟩ (hN.keep fun o e => Heap.get?_push_of_some _ e) (fun z => by simp) (Nat.le_refl _) fun h' tk es ep t ss kp y m hlen => ?_
        · rw [hsz]
          simp only [List.mem_cons, List.not_mem_nil, or_false, not_or]
          exact ⟨Nat.ne_of_lt (Nat.lt_succ_self _), Nat.ne_of_gt hlS⟩
        · have hv' : items.toList[i]? = some v := by rw [Array.getElem?_toList]; exact hv
          exact strs_at hi hv'
        · refine wpAny_pure (wpAny_pure ⟨rfl, h', tk, es, ep, t, ss, rfl, y, m, hlen, fun b o e => kp b o (Nat.ne_of_lt (Heap.lt_size e)) ?_ (Heap.get?_push_of_some _ (Heap.get?_push_of_some _ e))⟩)
          rw [hsz]
          intro hm
          have hm' := List.mem_singleton.mp hm
          exact absurd (Heap.lt_size e) (by rw [hm']; exact Nat.not_lt.mpr (Nat.le_succ _))
      · cases r₂ with
        | error e => exact hr₂
        | ok fl₂ =>
          cases fl₂ with
          | ret r =>
            obtain ⟨rfl, h', tk, es, ep, t, ss, rfl, y, m, hlen, kp⟩ := hr₂
            repeat any_goals first | assumption | wp_step
            exact h _ _ es ep t ss y m hlen kp
          | _ => exact hr₂.elim
    | _ => exact hr.elim
end
end L2

set_option Elab.async false
set_option linter.all false
set_option maxRecDepth 100000
set_option maxHeartbeats 4100000
namespace L2
open PySem PySem.Spec PyProof.Rows
section
variable {X : Cx} {pins : List (Addr × Obj)} {σ : St} {H : Hp} {s : Shared} {h' : Heap}
/-- records of ours have turned, and a new object is laid and tracked -/
theorem Inv.turnLay {fp : List Addr} {T : Addr} {o : HO} {t' : Nat} {d' : Drawn} (I : Inv X pins σ H s) (hf : ∀ b ∈ fp, FpOk X pins H b) (hT : s.heap.objs.size ≤ T) (k : ∀ b ob, b ∉ fp → s.heap.get? b = some ob → h'.get? b = some ob)
    (new : ObjOk X.prog X.w (upd H T o) h' T o) : Inv X pins σ (upd H T o) { s with heap := h', toks := t', drawn := d' } := by
  have hTn : H T = none := I.hok.fresh hT
  have nfp : ∀ b u, H b = some u → b ∉ fp := fun b u e hb => by rw [(hf b hb).1] at e; cases e
  have lt : ∀ b ob, s.heap.get? b = some ob → b ≠ T := fun b ob e => Nat.ne_of_lt (Nat.lt_of_lt_of_le (Heap.lt_size e) hT)
  refine I.step (g' := s.gens) (d' := d') (ch := fp) (fun b hb => ?_) (fun b ob _ _ hc e _ => k b ob hc e) (fun b ob _ _ hc e _ => ⟨ob.slots, k b ob hc e⟩) (fun b ob hc e n => by rw [upd_ne (lt b ob e)]; exact n)
    (fun b ob hc e => ⟨ob, k b ob hc e⟩) (fun b xs e => by rw [upd_ne (ne_of_none e hTn)]; exact e) (fun b ob u e => by rw [upd_ne (ne_of_none e hTn)]; exact e) (fun b ps e => ⟨#[], by rw [upd_ne (ne_of_none e hTn), e]; simp⟩) (fun m hm => ?_) (fun b u e => ?_) I.bare
  · obtain ⟨_, n1, _, n3, n4, n5⟩ := hf b hb
    exact ⟨n3, n1, n4, n5⟩
  · obtain ⟨ob, es, ep, ho, r⟩ := hm
    exact ⟨ob, es, ep, k _ ob (fun hb => (hf _ hb).2.1 rfl) ho, r⟩
  · by_cases hb : b = T
    · subst hb
      rw [upd_same] at e
      cases e
      exact new
    · rw [upd_ne hb] at e
      refine (I.hok b u e).stay (fun c v hc q => k c v ?_ q) (fun c q => by rw [upd_ne (ne_of_none q hTn)]; exact q) fun c xs q => by rw [upd_ne (ne_of_none q hTn)]; exact q
      rcases hc with z | z
      · rw [z]; exact nfp b u e
      · exact nfp c _ z
theorem Inv.turnedL {fp : List Addr} {t' : Nat} (I : Inv X pins σ H s) (hf : ∀ b ∈ fp, FpOk X pins H b) (k : ∀ b ob, b ∉ fp → s.heap.get? b = some ob → h'.get? b = some ob) : Inv X pins σ H { s with heap := h', toks := t' } := by
  have nfp : ∀ b u, H b = some u → b ∉ fp := fun b u e hb => by rw [(hf b hb).1] at e; cases e
  refine I.step (g' := s.gens) (d' := s.drawn) (ch := fp) (fun b hb => ?_) (fun b ob _ _ hc e _ => k b ob hc e) (fun b ob _ _ hc e _ => ⟨ob.slots, k b ob hc e⟩) (fun b ob hc e n => n)
    (fun b ob hc e => ⟨ob, k b ob hc e⟩) (fun b xs e => e) (fun b ob u e => e) (fun b ps e => ⟨#[], by rw [e]; simp⟩) (fun m hm => ?_) (fun b u e => ?_) I.bare
  · obtain ⟨_, n1, _, n3, n4, n5⟩ := hf b hb
    exact ⟨n3, n1, n4, n5⟩
  · obtain ⟨ob, es, ep, ho, r⟩ := hm
    exact ⟨ob, es, ep, k _ ob (fun hb => (hf _ hb).2.1 rfl) ho, r⟩
  · refine (I.hok b u e).stay (fun c v hc q => k c v ?_ q) (fun _ q => q) fun _ _ q => q
    rcases hc with z | z
    · rw [z]; exact nfp b u e
    · exact nfp c _ z
end

/-! ### enumerate -/
def Ite (K : PySem.W.Frag) (a : Addr) : It :=
  ⟨fun i H => ∃ xs x, SqL K H a xs ∧ xs[i]? = some x, fun i H y H' => ∃ p x, y = .ref p ∧ H p = none ∧ (∀ xs, SqL K H a xs → xs[i]? = some x) ∧ H' = upd H p (.tup [.int i, x]), fun i H => ∃ xs, SqL K H a xs ∧ xs.length ≤ i⟩
theorem turn_enum {P : Program} {w : World} {K : PySem.W.Frag} {elts : List Expr} {kk : Nat} {tpos : Pos} {a e it : Addr} (hne : e ≠ it) :
    Turn P w K (.Tuple elts kk tpos) (Ite K a) [e, it] e (fun i h => (∃ old, IsEnum h e it i old) ∧ h.IsListIter it a i) where
  mem := by simp
  obj := fun i h st b hb => by
    obtain ⟨⟨old, s1⟩, o2, s2, c2, d2⟩ := st
    rcases List.mem_cons.mp hb with z | z
    · subst z
      exact ⟨_, s1, fun v q => by cases q⟩
    · rw [List.mem_singleton.mp z]
      exact ⟨o2, s2, fun v q => by rw [d2] at q; cases q⟩
  keep := fun i h h' st k => ⟨let ⟨old, s1⟩ := st.1; ⟨old, k e (by simp) _ s1⟩, st.2.at fun o q => k it (by simp) o q⟩
  item := by
    intro X hP hw hK hc i pins s σ H E I hf st hg
    subst hP hw hK
    obtain ⟨⟨old, s1⟩, s2⟩ := st
    obtain ⟨xs, x, hq, hx⟩ := hg
    obtain ⟨its, rv, p, hz⟩ := I.list hq
    obtain ⟨u, hu, ru⟩ := rv.get hx
    refine wpAny_pyNext_enum_item s1 s2 p.isList (x := u) (by simpa using hu) hne fun h1 o1 i1 t1 z1 k1 => ⟨_, rfl, ?_⟩
    refine wpAny_letOwnedTupleGo_enum (s := { s with heap := h1, toks := s.toks + 1 }) o1 fun h2 e2 sb => ?_
    have lt : ∀ b ob, s.heap.get? b = some ob → b ≠ s.heap.objs.size := fun b ob q => Nat.ne_of_lt (Heap.lt_size q)
    have k2 : ∀ b ob, b ∉ [e, it] → s.heap.get? b = some ob → h2.get? b = some ob := fun b ob hb q => by
      have n1 : b ≠ e := fun z => hb (by simp [z])
      have n2 : b ≠ it := fun z => hb (by simp [z])
      exact (sb.2 b n1).trans (k1 b ob n1 n2 q)
    have eT : e ≠ s.heap.objs.size := lt e _ s1
    have iT : it ≠ s.heap.objs.size := let ⟨o, q, _⟩ := s2; lt it o q
    have new : ObjOk X.prog X.w (upd H s.heap.objs.size (.tup [.int i, x])) h2 s.heap.objs.size (.tup [.int i, x]) :=
      ⟨by show 2 ≤ sizeLine; decide, [.int i s.toks, u], .cons ⟨_, rfl⟩ (.cons ru .nil), ⟨_, (sb.2 _ (Ne.symm eT)).trans t1, rfl, _, rfl⟩⟩
    refine ⟨.ref s.heap.objs.size, _, I.turnLay (t' := s.toks + 1) (d' := s.drawn) hf (Nat.le_refl _) k2 new, rfl, ⟨_, x, rfl, I.hok.fresh (Nat.le_refl _), fun ys hy => by rw [I.list_inj hy hq]; exact hx, rfl⟩, ⟨⟨_, by simpa using e2⟩, i1.at fun o q => (sb.2 it hne.symm).trans q⟩, fun b hb => ?_⟩
    have hbT : b ≠ s.heap.objs.size := by
      rcases List.mem_cons.mp hb with z | z
      · rw [z]; exact eT
      · rw [List.mem_singleton.mp z]; exact iT
    rw [upd_ne hbT]
    exact (hf b hb).1
  done := by
    intro X hP hw hK hc i pins s σ H E I hf st hg
    subst hP hw hK
    obtain ⟨⟨old, s1⟩, s2⟩ := st
    obtain ⟨xs, hq, hx⟩ := hg
    obtain ⟨its, rv, p, hz⟩ := I.list hq
    refine wpAny_pyNext_enum_end (I.ok.hd hc) s1 s2 p.isList (by rw [List.getElem?_toArray]; exact List.getElem?_eq_none (by rw [← rv.length]; exact hx)) fun h1 k1 => ⟨rfl, I.turnedL (t' := s.toks) hf fun b ob hb q => k1 b ob (fun z => hb (by simp [z])) q⟩
  self := fun A i s Q E st q => wpAny_pyIter_enum st.1.choose_spec q
def iEnum (K : PySem.W.Frag) (ta : TA) : TI := fun σ H R => ta σ H fun vs H1 => ∃ a, vs = [.ref a] ∧ (∃ xs, SqL K H1 a xs) ∧ R (Ite K a) H1
section
variable {X : Cx} {elts : List Expr} {kk : Nat} {tpos : Pos}
theorem pi_enum {l : Expr} {ta : TA} {p pos : Pos} (hg : Gl X "enumerate") (hm : X.mg "enumerate" = none) (ha : PA X [l] ta) (hs : starEach [l] X.env = [(false, eval l X.env)] := by rfl) : PI X (.Tuple elts kk tpos) (.Call (.Name "enumerate" p) [l] [] pos) (iEnum X.K ta) := by
  intro pins s σ H R I h
  refine Call_ (ld_blt I hg hm boot_enumerate (PyProof.Rows.callWith_type1 (thn (ha pos pins s σ H _ I h) fun us s1 ⟨vs, H1, I1, r1, q1⟩ => ?_) hs rfl))
  obtain ⟨a, rfl, ⟨xs, hq⟩, q⟩ := q1
  obtain ⟨u, rfl, ru⟩ := vals1 r1
  cases ru
  obtain ⟨its, rv, pl, hz⟩ := I1.list hq
  refine call_enumerate_list pl.isList fun h1 e1 i1 z1 k1 => ?_
  refine wpAny_pyIter_enum e1 ?_
  have I2 : Inv X pins σ H1 { s1 with heap := h1 } := I1.kept (t' := s1.toks) k1
  refine ⟨s1.heap.objs.size + 1, [s1.heap.objs.size + 1, s1.heap.objs.size], _, Ite X.K a, H1, rfl, I2, turn_enum (Nat.succ_ne_self _), ⟨⟨_, by simpa using e1⟩, i1⟩, fun b hb => ?_, q⟩
  rcases List.mem_cons.mp hb with z | z
  · rw [z]; exact I1.fpOk (Nat.le_succ _) (I1.hok.fresh (Nat.le_succ _))
  · rw [List.mem_singleton.mp z]; exact I1.fpOk (Nat.le_refl _) (I1.hok.fresh (Nat.le_refl _))
end
/-- over the pairs of a list that stays as it is -/
theorem for_enum {K : PySem.W.Frag} {a : Addr} {xs : List V} {g : TG} {tb : TS} {D : Ends} {σ : St} {H : Hp} (Pv : Nat → St → Hp → Prop) (h0 : Pv 0 σ H) (hl : ∀ i σ H, i ≤ xs.length → Pv i σ H → SqL K H a xs)
    (hs : ∀ i x σ H p, xs[i]? = some x → Pv i σ H → H p = none → g (.ref p) σ (upd H p (.tup [.int i, x])) fun σ2 H2 => tb { D with nx := Pv (i + 1), ct := Pv (i + 1), bk := D.nx } σ2 H2) (hd : ∀ σ H, Pv xs.length σ H → D.nx σ H) :
    ∃ W : Nat → Nat → St → Hp → Prop, (∃ m, W 0 m σ H) ∧ ∀ i m σ H, W i m σ H →
      ((Ite K a).stop i H ∧ D.nx σ H) ∨ ((Ite K a).go i H ∧ ∃ N : St → Hp → Prop, (∀ σ' H', N σ' H' → ∃ m', m' < m ∧ W (i + 1) m' σ' H') ∧ ∀ x H', (Ite K a).yld i H x H' → g x σ H' fun σ2 H2 => tb { D with nx := N, ct := N, bk := D.nx } σ2 H2) := by
  refine ⟨fun i m σ H => m = xs.length - i ∧ i ≤ xs.length ∧ Pv i σ H, ⟨xs.length, by simp, Nat.zero_le _, h0⟩, ?_⟩
  rintro i m σ H ⟨rfl, hi, p⟩
  have q := hl i σ H hi p
  by_cases hlt : i < xs.length
  · refine .inr ⟨⟨xs, xs[i], q, by simp [hlt]⟩, Pv (i + 1), fun σ' H' p' => ⟨xs.length - (i + 1), by omega, rfl, hlt, p'⟩, fun y H' hy => ?_⟩
    obtain ⟨pp, x, rfl, hn, hx, rfl⟩ := hy
    exact hs i x σ H pp (hx xs q) p hn
  · have e : i = xs.length := by omega
    subst e
    exact .inl ⟨⟨xs, q, Nat.le_refl _⟩, hd σ H p⟩
end L2

set_option Elab.async false
set_option linter.all false
set_option maxRecDepth 100000
set_option maxHeartbeats 4100000
namespace L2
open PySem PySem.Spec PyProof.Rows
/-! ### zip of two lists -/
def Itz (K : PySem.W.Frag) (a b : Addr) : It :=
  ⟨fun i H => ∃ xs ys x y, SqL K H a xs ∧ SqL K H b ys ∧ xs[i]? = some x ∧ ys[i]? = some y,
   fun i H v H' => ∃ p x y, v = .ref p ∧ H p = none ∧ (∀ xs, SqL K H a xs → xs[i]? = some x) ∧ (∀ ys, SqL K H b ys → ys[i]? = some y) ∧ H' = upd H p (.tup [x, y]),
   fun i H => ∃ xs ys, SqL K H a xs ∧ SqL K H b ys ∧ (xs.length ≤ i ∨ ys.length ≤ i)⟩
theorem turn_zip {P : Program} {w : World} {K : PySem.W.Frag} {elts : List Expr} {kk : Nat} {tpos : Pos} {a b z TI TO i1 i2 : Addr} (D : ZipApart z TI TO i1 i2 a b) :
    Turn P w K (.Tuple elts kk tpos) (Itz K a b) [z, TI, TO, i1, i2] z (fun i h => IsZip h z TI TO .none ∧ IsPair h TI (.ref i1) (.ref i2) ∧ (∃ u v, IsPair h TO u v) ∧ h.IsListIter i1 a i ∧ h.IsListIter i2 b i) where
  mem := by simp
  obj := fun i h st c hc => by
    obtain ⟨s1, s2, ⟨u, v, s3⟩, ⟨o4, s4, _, d4⟩, ⟨o5, s5, _, d5⟩⟩ := st
    simp only [List.mem_cons, List.not_mem_nil, or_false] at hc
    rcases hc with rfl | rfl | rfl | rfl | rfl
    · exact ⟨_, s1, fun v q => by cases q⟩
    · exact ⟨_, s2, fun v q => by cases q⟩
    · exact ⟨_, s3, fun v q => by cases q⟩
    · exact ⟨o4, s4, fun v q => by rw [d4] at q; cases q⟩
    · exact ⟨o5, s5, fun v q => by rw [d5] at q; cases q⟩
  keep := fun i h h' st k => by
    obtain ⟨s1, s2, ⟨u, v, s3⟩, s4, s5⟩ := st
    exact ⟨k z (by simp) _ s1, k TI (by simp) _ s2, ⟨u, v, k TO (by simp) _ s3⟩, s4.at fun o q => k i1 (by simp) o q, s5.at fun o q => k i2 (by simp) o q⟩
  item := by
    intro X hP hw hK hc i pins s σ H E I hf st hg
    subst hP hw hK
    obtain ⟨s1, s2, ⟨u, v, s3⟩, s4, s5⟩ := st
    obtain ⟨xs, ys, x, y, hq, hq', hx, hy⟩ := hg
    obtain ⟨its, rv, p, hz⟩ := I.list hq
    obtain ⟨its', rv', p', hz'⟩ := I.list hq'
    obtain ⟨ux, hux, rux⟩ := rv.get hx
    obtain ⟨uy, huy, ruy⟩ := rv'.get hy
    refine wpAny_pyNext_zip_item D s1 s2 s3 s4 s5 p.isList p'.isList (x := ux) (y := uy) (by simpa using hux) (by simpa using huy) fun h1 a1 a2 a3 a4 a5 a6 k1 => ⟨_, rfl, ?_⟩
    refine wpAny_letOwnedTupleGo_zip (s := { s with heap := h1 }) a1 fun h2 e2 sb => ?_
    have lt : ∀ c ob, s.heap.get? c = some ob → c ≠ s.heap.objs.size := fun c ob q => Nat.ne_of_lt (Heap.lt_size q)
    have zT : z ≠ s.heap.objs.size := lt z _ s1
    have k2 : ∀ c ob, c ∉ [z, TI, TO, i1, i2] → s.heap.get? c = some ob → h2.get? c = some ob := fun c ob hb q => by
      have n1 : c ≠ z := fun t => hb (by simp [t])
      exact (sb.2 c n1).trans (k1 c ob n1 (fun t => hb (by simp [t])) (fun t => hb (by simp [t])) (fun t => hb (by simp [t])) q)
    have new : ObjOk X.prog X.w (upd H s.heap.objs.size (.tup [x, y])) h2 s.heap.objs.size (.tup [x, y]) :=
      ⟨by show 2 ≤ sizeLine; decide, [ux, uy], .cons rux (.cons ruy .nil), ⟨_, (sb.2 _ (Ne.symm zT)).trans a5, rfl, _, rfl⟩⟩
    refine ⟨.ref s.heap.objs.size, _, I.turnLay (t' := s.toks) (d' := s.drawn) hf (Nat.le_refl _) k2 new, rfl, ⟨_, x, y, rfl, I.hok.fresh (Nat.le_refl _), fun zs hzs => by rw [I.list_inj hzs hq]; exact hx, fun zs hzs => by rw [I.list_inj hzs hq']; exact hy, rfl⟩,
      ⟨e2, (sb.2 _ D.TIz).trans (k1 _ _ D.TIz D.TITO D.TIi1 D.TIi2 s2), ⟨_, _, (sb.2 _ D.TOz).trans a2⟩, a3.at fun o q => (sb.2 _ D.i1z).trans q, a4.at fun o q => (sb.2 _ D.i2z).trans q⟩, fun c hc => ?_⟩
    have hcT : c ≠ s.heap.objs.size := by
      simp only [List.mem_cons, List.not_mem_nil, or_false] at hc
      rcases hc with rfl | rfl | rfl | rfl | rfl
      · exact zT
      · exact lt _ _ s2
      · exact lt _ _ s3
      · exact let ⟨o, q, _⟩ := s4; lt _ o q
      · exact let ⟨o, q, _⟩ := s5; lt _ o q
    rw [upd_ne hcT]
    exact (hf c hc).1
  done := by
    intro X hP hw hK hc i pins s σ H E I hf st hg
    subst hP hw hK
    obtain ⟨s1, s2, ⟨u, v, s3⟩, s4, s5⟩ := st
    obtain ⟨xs, ys, hq, hq', hx⟩ := hg
    obtain ⟨its, rv, p, hz⟩ := I.list hq
    obtain ⟨its', rv', p', hz'⟩ := I.list hq'
    refine wpAny_pyNext_zip_end (I.ok.hd hc) D s1 s2 s3 s4 s5 p.isList p'.isList (hx.imp (fun t => ?_) (fun t => ?_)) fun h1 k1 => ⟨rfl, I.turnedL (t' := s.toks) hf fun c ob hb q => k1 c ob (fun t => hb (by simp [t])) (fun t => hb (by simp [t])) (fun t => hb (by simp [t])) (fun t => hb (by simp [t])) q⟩
    · rw [List.getElem?_toArray]; exact List.getElem?_eq_none (by rw [← rv.length]; exact t)
    · rw [List.getElem?_toArray]; exact List.getElem?_eq_none (by rw [← rv'.length]; exact t)
  self := fun A i s Q E st q => wpAny_pyIter_zip st.1 q
def iZip (K : PySem.W.Frag) (ta : TA) : TI := fun σ H R => ta σ H fun vs H1 => ∃ a b, vs = [.ref a, .ref b] ∧ (∃ xs, SqL K H1 a xs) ∧ (∃ ys, SqL K H1 b ys) ∧ R (Itz K a b) H1
section
variable {X : Cx} {elts : List Expr} {kk : Nat} {tpos : Pos}
theorem pi_zip {l r : Expr} {ta : TA} {p pos : Pos} (hg : Gl X "zip") (hm : X.mg "zip" = none) (ha : PA X [l, r] ta) (hs : starEach [l, r] X.env = [(false, eval l X.env), (false, eval r X.env)] := by rfl) (hs2 : starEach [r] X.env = [(false, eval r X.env)] := by rfl) :
    PI X (.Tuple elts kk tpos) (.Call (.Name "zip" p) [l, r] [] pos) (iZip X.K ta) := by
  intro pins s σ H R I h
  refine Call_ (ld_blt I hg hm boot_zip (PyProof.Rows.callWith_type1 (thn (ha pos pins s σ H _ I h) fun us s1 ⟨vs, H1, I1, r1, q1⟩ => ?_) (by rw [hs, hs2]) (by rw [hs2]; rfl)))
  obtain ⟨a, b, rfl, ⟨xs, hq⟩, ⟨ys, hq'⟩, q⟩ := q1
  obtain ⟨u, u', rfl, ru, ru'⟩ := vals2 r1
  cases ru
  cases ru'
  obtain ⟨its, rv, pl, hz⟩ := I1.list hq
  obtain ⟨its', rv', pl', hz'⟩ := I1.list hq'
  have la : a < s1.heap.objs.size := let ⟨o, n, e, _⟩ := pl; Heap.lt_size e
  have lb : b < s1.heap.objs.size := let ⟨o, n, e, _⟩ := pl'; Heap.lt_size e
  refine call_zip_2 pl.isList pl'.isList fun h1 a1 a2 a3 a4 a5 a6 k1 => ?_
  refine wpAny_pyIter_zip a1 ?_
  have I2 : Inv X pins σ H1 { s1 with heap := h1 } := I1.kept (t' := s1.toks) k1
  refine ⟨_, [s1.heap.objs.size + 4, s1.heap.objs.size + 2, s1.heap.objs.size + 3, s1.heap.objs.size, s1.heap.objs.size + 1], _, Itz X.K a b, H1, rfl, I2, turn_zip (zipApart_new la lb), ⟨a1, a2, ⟨_, _, a3⟩, a4, a5⟩, fun c hc => ?_, q⟩
  have up : ∀ n, FpOk X pins H1 (s1.heap.objs.size + n) := fun n => I1.fpOk (Nat.le_add_right _ n) (I1.hok.fresh (Nat.le_add_right _ n))
  simp only [List.mem_cons, List.not_mem_nil, or_false] at hc
  rcases hc with rfl | rfl | rfl | rfl | rfl
  · exact up 4
  · exact up 2
  · exact up 3
  · exact up 0
  · exact up 1
end
/-- over the pairs of two lists of one length that stay as they are -/
theorem for_zip {K : PySem.W.Frag} {a b : Addr} {xs ys : List V} {g : TG} {tb : TS} {D : Ends} {σ : St} {H : Hp} (hlen : xs.length = ys.length) (Pv : Nat → St → Hp → Prop) (h0 : Pv 0 σ H) (hl : ∀ i σ H, i ≤ xs.length → Pv i σ H → SqL K H a xs ∧ SqL K H b ys)
    (hs : ∀ i x y σ H p, xs[i]? = some x → ys[i]? = some y → Pv i σ H → H p = none → g (.ref p) σ (upd H p (.tup [x, y])) fun σ2 H2 => tb { D with nx := Pv (i + 1), ct := Pv (i + 1), bk := D.nx } σ2 H2) (hd : ∀ σ H, Pv xs.length σ H → D.nx σ H) :
    ∃ W : Nat → Nat → St → Hp → Prop, (∃ m, W 0 m σ H) ∧ ∀ i m σ H, W i m σ H →
      ((Itz K a b).stop i H ∧ D.nx σ H) ∨ ((Itz K a b).go i H ∧ ∃ N : St → Hp → Prop, (∀ σ' H', N σ' H' → ∃ m', m' < m ∧ W (i + 1) m' σ' H') ∧ ∀ x H', (Itz K a b).yld i H x H' → g x σ H' fun σ2 H2 => tb { D with nx := N, ct := N, bk := D.nx } σ2 H2) := by
  refine ⟨fun i m σ H => m = xs.length - i ∧ i ≤ xs.length ∧ Pv i σ H, ⟨xs.length, by simp, Nat.zero_le _, h0⟩, ?_⟩
  rintro i m σ H ⟨rfl, hi, p⟩
  obtain ⟨q, q'⟩ := hl i σ H hi p
  by_cases hlt : i < xs.length
  · refine .inr ⟨⟨xs, ys, xs[i], ys[i]'(hlen ▸ hlt), q, q', by simp [hlt], by simp [hlen ▸ hlt]⟩, Pv (i + 1), fun σ' H' p' => ⟨xs.length - (i + 1), by omega, rfl, hlt, p'⟩, fun v H' hy => ?_⟩
    obtain ⟨pp, x, y, rfl, hn, hx, hy, rfl⟩ := hy
    exact hs i x y σ H pp (hx xs q) (hy ys q') p hn
  · have e : i = xs.length := by omega
    subst e
    exact .inl ⟨⟨xs, ys, q, q', .inl (Nat.le_refl _)⟩, hd σ H p⟩

/-! ### set(list of texts), sorted of it -/
section
variable {X : Cx}
theorem call_set_of (hcalm : X.calm = true) : CallR X (.type "set") (fun xs H Q => ∃ (p : Addr) (ss : List Str), xs = [.ref p] ∧ SqL X.K H p (ss.map V.str) ∧ ss.length + 1 < 4096 ∧
    ∀ (l : Addr) (us : List Str), H l = none → us.Nodup → (∀ z, z ∈ us ↔ z ∈ ss) → us.length ≤ ss.length → Q (.ref l) (upd H l (setO X.w l us))) := by
  intro pins s σ H xs us Q I r h
  obtain ⟨p, ss, rfl, hp, hb, q⟩ := h
  obtain ⟨u, rfl, ru⟩ := vals1 r
  cases ru
  obtain ⟨its, rv, pl, hz⟩ := I.list hp
  refine set_of_list (xs := ss) (I.ok.hd hcalm) pl.isList (strs_vals rv) hb fun h' tk es ep t us y m hlen k => ?_
  exact ⟨.ref s.heap.objs.size, _, I.laid (t' := tk) (o := setO X.w s.heap.objs.size us) k (Nat.le_refl _) (setO_ok ⟨es, ep, t, y⟩), rfl, q _ us (I.hok.fresh (Nat.le_refl _)) y.nd m hlen⟩
/-- strictly rising texts -/
def RisingT (ss : List Str) : Prop := ss.Pairwise fun a b => a.cps.toList < b.cps.toList
theorem rising_le {p : Str} : ∀ {r : List Str}, risingS p r = true → ∀ x ∈ r, ¬ x.cps.toList < p.cps.toList
  | [], _, x, h => by cases h
  | y :: r, h, x, hx => by
    have h' : (!ltCps y.cps.toList p.cps.toList && risingS y r) = true := h
    rw [Bool.and_eq_true] at h'
    have hy : ¬ y.cps.toList < p.cps.toList := by
      have := h'.1
      rw [ltCps_eq] at this
      simpa using this
    rcases List.mem_cons.mp hx with rfl | hx
    · exact hy
    · have := rising_le h'.2 x hx
      exact List.not_lt.mpr (List.le_trans (List.not_lt.mp hy) (List.not_lt.mp this))
theorem rising_of : ∀ {ss : List Str}, sortedS ss = true → ss.Nodup → RisingT ss
  | [], _, _ => List.Pairwise.nil
  | p :: r, h, nd => by
    obtain ⟨n1, n2⟩ := List.nodup_cons.mp nd
    refine List.Pairwise.cons (fun x hx => ?_) (rising_of (ss := r) ?_ n2)
    · have h1 := rising_le (p := p) (r := r) h x hx
      by_cases z : p.cps.toList < x.cps.toList
      · exact z
      · have : p = x := PyProof.Rows.ext_toList (List.le_antisymm (List.not_lt.mp h1) (List.not_lt.mp z))
        exact absurd (this ▸ hx) n1
    · cases r with
      | nil => rfl
      | cons y r' =>
        have h' : (!ltCps y.cps.toList p.cps.toList && risingS y r') = true := h
        rw [Bool.and_eq_true] at h'
        exact h'.2
theorem call_sorted_set (hcalm : X.calm = true) : CallR X (.builtin "sorted") (fun xs H Q => ∃ (p : Addr) (ss : List Str), xs = [.ref p] ∧ H p = some (setO X.w p ss) ∧ ss.length < 64 ∧ ss.Nodup ∧
    ∀ (l : Addr) (us : List Str), H l = none → us.Perm ss → RisingT us → Q (.ref l) (upd H l (.lst (us.map V.str)))) := by
  intro pins s σ H xs us Q I r h
  obtain ⟨p, ss, rfl, hp, h64, hnd, q⟩ := h
  obtain ⟨u, rfl, ru⟩ := vals1 r
  cases ru
  obtain ⟨⟨es, ep, t, y⟩, _⟩ := I.hok p _ hp
  refine sorted_set (I.ok.hd hcalm) y h64 fun D h' d tk e out ss' k hD hD2 c1 c2 c3 => ?_
  have hl : ss'.length ≤ sizeLine := by rw [c2.length_eq, sizeLine_eq]; omega
  have new : ObjOk X.prog X.w (upd H D (.lst (ss'.map V.str))) h' D (.lst (ss'.map V.str)) := ⟨by rw [List.length_map]; exact hl, out, e, vals_strs c1, hD2⟩
  exact ⟨.ref D, _, I.turnLay (fp := []) (fun b hb => nomatch hb) hD (fun b ob _ q => k b ob q) new, rfl, q D ss' (I.hok.fresh hD) c2 (rising_of c3 (c2.nodup_iff.mpr hnd))⟩
/-- two strictly rising lists with the same members are one -/
theorem rising_one : ∀ {xs ys : List Str}, RisingT xs → RisingT ys → (∀ z, z ∈ xs ↔ z ∈ ys) → xs = ys
  | [], [], _, _, _ => rfl
  | [], y :: ys, _, _, h => by have := (h y).mpr (List.mem_cons_self ..); cases this
  | x :: xs, [], _, _, h => by have := (h x).mp (List.mem_cons_self ..); cases this
  | x :: xs, y :: ys, hx, hy, h => by
    obtain ⟨x1, x2⟩ := List.pairwise_cons.mp hx
    obtain ⟨y1, y2⟩ := List.pairwise_cons.mp hy
    have e : x = y := by
      rcases List.mem_cons.mp ((h x).mp (List.mem_cons_self ..)) with z | z
      · exact z
      · rcases List.mem_cons.mp ((h y).mpr (List.mem_cons_self ..)) with t | t
        · exact t.symm
        · exact absurd (List.lt_trans (y1 x z) (x1 y t)) (List.lt_irrefl _)
    subst e
    congr 1
    refine rising_one x2 y2 fun z => ⟨fun hz => ?_, fun hz => ?_⟩
    · rcases List.mem_cons.mp ((h z).mp (List.mem_cons_of_mem _ hz)) with t | t
      · subst t; exact absurd (x1 z hz) (List.lt_irrefl _)
      · exact t
    · rcases List.mem_cons.mp ((h z).mpr (List.mem_cons_of_mem _ hz)) with t | t
      · subst t; exact absurd (y1 z hz) (List.lt_irrefl _)
      · exact t
end
end L2

set_option Elab.async false
set_option linter.all false
set_option maxRecDepth 100000
set_option maxHeartbeats 4100000
namespace L2
open PySem PySem.Spec PyProof.Rows
section
variable {X : Cx}
/-- a number at the file's top -/
theorem pe_globI {x : Str} {v : V} {pos : Pos} (hg : Gl X x) (hm : ∃ u, X.mg x = some u ∧ RelV v u) (hd : (x == ("__debug__" : Str)) = false := by decide) : PE X (.Name x pos) (tC v) := by
  obtain ⟨u, h1, h2⟩ := hm
  exact pe_glob hg h1 h2 hd

/-! ### xs.insert(i, y) -/
def rInsert : V → List V → Hp → VK → Prop := fun x vs H Q => ∃ (l : Addr) (xs : List V) (y : V) (i : Nat), x = .ref l ∧ vs = [.int i, y] ∧ H l = some (.lst xs) ∧ xs.length < sizeLine ∧ i ≤ xs.length ∧ Q .non (upd H l (.lst (xs.take i ++ y :: xs.drop i)))
theorem mt_insert : MtM X "list.insert" rInsert := by
  intro pins s σ H x vs v us Q I rx rv h
  obtain ⟨l, xs, y, i, rfl, rfl, hH, hz, hi, q⟩ := h
  cases rx
  obtain ⟨u1, u2, rfl, r1, r2⟩ := rv.two
  obtain ⟨t, rfl⟩ := r1
  obtain ⟨z, its, n, r, hl, e⟩ := I.lstM hH
  have hb : (i : Int) < 2 ^ 63 := by
    have hs : sizeLine < 2 ^ 62 := by rw [sizeLine_eq]; decide
    omega
  have hfit : Builtin.List.listFitsIndex (i : Int) = true := fitsIndex_both (by omega) hb
  have hits : its.toArray.size ≤ sizeLine := by rw [List.size_toArray]; omega
  have hlen : (xs.take i ++ y :: xs.drop i).length ≤ sizeLine := by
    rw [List.length_append, List.length_cons, List.length_take, List.length_drop]
    omega
  have hk : (if (i : Int) < 0 then ((i : Int) + (its.toArray.size : Int)).toNat else min (i : Int).toNat its.toArray.size) = i := by
    rw [if_neg (by omega), Int.toNat_natCast, List.size_toArray]; omega
  have hf : (fun zs : Array Value => have k := if (i : Int) < 0 then ((i : Int) + (zs.size : Int)).toNat else min (i : Int).toNat zs.size; (zs.extract 0 k).push u2 ++ zs.extract k) its.toArray = (its.take i ++ u2 :: its.drop i).toArray := by
    show (its.toArray.extract 0 (if (i : Int) < 0 then ((i : Int) + (its.toArray.size : Int)).toNat else min (i : Int).toNat its.toArray.size)).push u2 ++ its.toArray.extract (if (i : Int) < 0 then ((i : Int) + (its.toArray.size : Int)).toNat else min (i : Int).toNat its.toArray.size) = _
    rw [hk]
    exact PySem.W.kl_ins_eq its i u2
  have hfin := I.lset (t' := s.toks) (f := fun zs : Array Value => have k := if (i : Int) < 0 then ((i : Int) + (zs.size : Int)).toNat else min (i : Int).toNat zs.size; (zs.extract 0 k).push u2 ++ zs.extract k) (its' := its.take i ++ u2 :: its.drop i) (ys := xs.take i ++ y :: xs.drop i) hH e hf ((r.take i).append (.cons r2 (r.drop i))) hlen
  have hnf : ¬(!Builtin.List.listFitsIndex (i : Int)) = true := by rw [hfit]; exact Bool.false_ne_true
  clear hb hfit hlen hk hf
  generalize hx : (i : Int) = x at hfin hnf
  exact call_meets F.slot_list_insert ⟨_, e, rfl⟩ F.entry_list_insert (F.args_list_insert_3 _ _ _) (AutoSeq1.list_insert_list_int_val_1 l its.toArray n x t u2 hnf hits) ⟨e, .non, _, hfin, rfl, q⟩

/-! ### sum of a list of ints -/
theorem preSum_take (ns : List Int) : ∀ n, n ≤ ns.length → preSum (fun i => ns.getD i 0) n = (ns.take n).sum
  | 0, _ => by simp [preSum]
  | n + 1, h => by
    have hn : n < ns.length := by omega
    rw [preSum, preSum_take ns n (by omega), List.take_add_one, List.getElem?_eq_getElem hn, List.sum_append]
    have : ns.getD n 0 = ns[n] := by rw [List.getD_eq_getElem?_getD, List.getElem?_eq_getElem hn]; rfl
    show _ + ns.getD n 0 = _
    rw [this]
    simp
theorem call_sum_ints (hcalm : X.calm = true) : CallR X (.builtin "sum") (fun xs H Q => ∃ (p : Addr) (ns : List Int), xs = [.ref p] ∧ SqL X.K H p (ns.map V.int) ∧ Q (.int ns.sum) H) := by
  intro pins s σ H xs us Q I r h
  obtain ⟨p, ns, rfl, hp, q⟩ := h
  obtain ⟨u, rfl, ru⟩ := vals1 r
  cases ru
  obtain ⟨its, rv, pl, hz⟩ := I.list hp
  have hlt : p < s.heap.objs.size := let ⟨o, n, e, _⟩ := pl; Heap.lt_size e
  have hlen : its.length = ns.length := by rw [← rv.length, List.length_map]
  refine call_sum_walkG (wpAny_pyIter_list pl.isList ?_)
  refine ⟨s.heap.objs.size, _, _, _, _, _, fun i => ns.getD i 0, rfl, Walks.list (A := X.A.in1) (I.ok.hd hcalm) _ p (Nat.ne_of_lt hlt) its.toArray, ⟨⟨_, Heap.get?_push_size _ rfl, rfl, rfl⟩, pl.isList.push _⟩, fun b hb => ?_, fun i v hv => ?_, fun h' tk t' hk => ?_⟩
  · show b < (s.heap.push _).objs.size
    rw [Heap.size_push]
    rcases List.mem_cons.mp hb with z | z
    · rw [z]; exact Nat.lt_succ_self _
    · rw [List.mem_singleton.mp z]; exact Nat.lt_succ_of_lt hlt
  · have hv' : its[i]? = some v := by
      have hv2 : its.toArray[i]? = some v := hv
      rwa [List.getElem?_toArray] at hv2
    have hi : i < ns.length := by
      have := (List.getElem?_eq_some_iff.mp hv').1
      omega
    obtain ⟨u, hu, t, ht⟩ := rv.get (i := i) (x := .int ns[i]) (by rw [List.getElem?_map, List.getElem?_eq_getElem hi]; rfl)
    rw [hv'] at hu
    refine ⟨t, ?_⟩
    have : ns.getD i 0 = ns[i] := by rw [List.getD_eq_getElem?_getD, List.getElem?_eq_getElem hi]; rfl
    show v = Value.int (ns.getD i 0) t
    rw [this, Option.some.inj hu]
    exact ht
  · have e : preSum (fun i => ns.getD i 0) its.toArray.size = ns.sum := by
      rw [List.size_toArray, hlen, preSum_take ns _ (Nat.le_refl _), List.take_of_length_le (Nat.le_refl _)]
    rw [e]
    refine ⟨.int ns.sum, H, I.kept (t' := tk) fun b o eb => hk b o (fun hm => ?_) (Heap.get?_push_of_some _ eb), ⟨t', rfl⟩, q⟩
    have hm' := List.mem_singleton.mp hm
    exact absurd (Heap.lt_size eb) (by rw [hm']; exact Nat.lt_irrefl _)

/-! ### texts' slices -/
def rSlS : V → Option Int → Option Int → Hp → VK → Prop := fun x lo hi H Q => ∃ z : Str, x = .str z ∧ z.length ≤ sizeLine ∧ Q (.str (Txt.slice z lo hi)) H
theorem sl_str : SlR X rSlS := by
  intro pins s σ H x v vl vu lo hi sl Q I rx hs pl pu h
  obtain ⟨z, rfl, hz, q⟩ := h
  obtain ⟨t, rfl⟩ := rx
  refine ⟨"str", _, F.slot_str_getitem.lookup, typeIs_str _ _ _, ?_⟩
  have fin : ∀ (y : Str) (t' : Tok) (k : Nat), y = Txt.slice z lo hi → EP X pins σ Q (.str y t') { s with toks := k } := fun y t' k e => ⟨.str y, H, I.tok k, ⟨t', rfl⟩, by rw [e]; exact q⟩
  obtain ⟨o, o1, o2, o3⟩ := hs
  cases pl with
  | none =>
    cases pu with
    | none => exact wpAny_getItem_str_slice (l := none) (u := none) (st := none) ⟨o, o1, o2, o3⟩ rfl (post_val_or_str ⟨Nat.le_trans (Txt.slice_le z _ _) hz, fun t' k => fin _ t' k rfl⟩)
    | int j uj => exact wpAny_getItem_str_slice (l := none) (u := some (j, uj)) (st := none) ⟨o, o1, o2, o3⟩ rfl (post_val_or_str ⟨Nat.le_trans (Txt.slice_le z _ _) hz, fun t' k => fin _ t' k rfl⟩)
  | int i ui =>
    cases pu with
    | none => exact wpAny_getItem_str_slice (l := some (i, ui)) (u := none) (st := none) ⟨o, o1, o2, o3⟩ rfl (post_val_or_str ⟨Nat.le_trans (Txt.slice_le z _ _) hz, fun t' k => fin _ t' k rfl⟩)
    | int j uj => exact wpAny_getItem_str_slice (l := some (i, ui)) (u := some (j, uj)) (st := none) ⟨o, o1, o2, o3⟩ rfl (post_val_or_str ⟨Nat.le_trans (Txt.slice_le z _ _) hz, fun t' k => fin _ t' k rfl⟩)
end

/-! ### == and != of lists and tuples at depth, where all is alike -/
inductive DEq (K : PySem.W.Frag) (H : Hp) : Nat → V → V → Prop
  | flat {n : Nat} {x y : V} : flatV x = true → flatV y = true → eqV x y = true → DEq K H n x y
  | same {n : Nat} {p : Addr} : DEq K H n (.ref p) (.ref p)
  | lst {n : Nat} {a b : Addr} {xs ys : List V} : SqL K H a xs → SqL K H b ys → xs.length = ys.length → (∀ (i : Nat) x y, xs[i]? = some x → ys[i]? = some y → DEq K H n x y) → DEq K H (n + 1) (.ref a) (.ref b)
  | tup {n : Nat} {a b : Addr} {xs ys : List V} : SqT K H a xs → SqT K H b ys → xs.length = ys.length → (∀ (i : Nat) x y, xs[i]? = some x → ys[i]? = some y → DEq K H n x y) → DEq K H (n + 1) (.ref a) (.ref b)
theorem DEq.self {K : PySem.W.Frag} {H : Hp} {n : Nat} {x : V} (h : flatV x = true ∨ ∃ p, x = .ref p) : DEq K H n x x := by
  rcases h with h | ⟨p, rfl⟩
  · exact .flat h h (eqV_self h)
  · exact .same
theorem in1_units {A : Around} : A.in1.units = A.units + 1 := rfl
section
variable {X : Cx} {pins : List (Addr × Obj)} {σ : St} {H : Hp} {s : Shared}
theorem items_at {xs : List V} {its : List Value} (r : Vals xs its) {j : Nat} (h : j < its.toArray.size) : ∃ x, xs[j]? = some x ∧ RelV x its.toArray[j] := by
  have hj : j < its.length := by simpa using h
  have hx : j < xs.length := by rw [r.length]; exact hj
  obtain ⟨u, hu, ru⟩ := r.get (List.getElem?_eq_getElem hx)
  refine ⟨xs[j], List.getElem?_eq_getElem hx, ?_⟩
  rw [List.getElem?_eq_getElem hj] at hu
  have : its.toArray[j] = u := by simpa using Option.some.inj hu
  rw [this]
  exact ru
theorem deq_at {n : Nat} {x y : V} (d : DEq X.K H n x y) (I : Inv X pins σ H s) : ∀ {A : Around} {u v : Value}, RelV x u → RelV y v → A.units + n < cLine → SeqAt.EqAt A s u v true := by
  induction d with
  | @flat n x y fx fy e =>
    intro A u v ru rv _
    have := eqAt_V (A := A) (s := s) ru rv fx fy
    rwa [e] at this
  | same =>
    intro A u v ru rv _
    cases ru
    cases rv
    exact SeqAt.EqAt.same _
  | @lst n a b xs ys ha hb hl hi ih =>
    intro A u v ru rv hu
    cases ru
    cases rv
    by_cases hab : a = b
    · subst hab; exact SeqAt.EqAt.same _
    · obtain ⟨ia, ra, pa, _⟩ := I.list ha
      obtain ⟨ib, rb, pb, _⟩ := I.list hb
      refine SeqAt.EqAt.of_refs hab ?_
      have key := SeqAt.RcAt.lists (A := A) (e := fun _ => true) pa.isList pb.isList (by rw [List.size_toArray, List.size_toArray, ← ra.length, ← rb.length]; exact hl) (by omega) fun j h1 h2 => by
        obtain ⟨x, ex, rx⟩ := items_at ra h1
        obtain ⟨y, ey, ry⟩ := items_at rb h2
        exact ih j x y ex ey rx ry (by rw [in1_units]; omega)
      have e : (List.range ia.toArray.size).all (fun _ => true) = true := by simp
      rw [e] at key
      exact key
  | @tup n a b xs ys ha hb hl hi ih =>
    intro A u v ru rv hu
    cases ru
    cases rv
    by_cases hab : a = b
    · subst hab; exact SeqAt.EqAt.same _
    · obtain ⟨ia, ra, pa, _⟩ := I.tuple ha
      obtain ⟨ib, rb, pb, _⟩ := I.tuple hb
      refine SeqAt.EqAt.of_refs hab ?_
      have key := SeqAt.RcAt.tuples (A := A) (e := fun _ => true) (show s.heap.IsTuple a ia.toArray from pa) (show s.heap.IsTuple b ib.toArray from pb) (by omega) fun j h1 h2 => by
        obtain ⟨x, ex, rx⟩ := items_at ra h1
        obtain ⟨y, ey, ry⟩ := items_at rb h2
        exact ih j x y ex ey rx ry (by rw [in1_units]; omega)
      have e : ((List.range (min ia.toArray.size ib.toArray.size)).all (fun _ => true) && ia.toArray.size == ib.toArray.size) = true := by
        have : ia.toArray.size = ib.toArray.size := by rw [List.size_toArray, List.size_toArray, ← ra.length, ← rb.length]; exact hl
        simp [this]
      rw [e] at key
      exact key
/-- two lists, or two tuples, whose items are alike -/
def DTop (K : PySem.W.Frag) (H : Hp) (a b : Addr) : Prop := ∃ xs ys : List V, ((SqL K H a xs ∧ SqL K H b ys) ∨ (SqT K H a xs ∧ SqT K H b ys)) ∧ xs.length = ys.length ∧ ∀ (i : Nat) x y, xs[i]? = some x → ys[i]? = some y → DEq K H 8 x y
end
section
variable {X : Cx}
theorem op_eqDeep (hu : X.A.units + 10 < cLine) : OpR X (compareOp .Eq) (fun x y H Q => ∃ a b, x = .ref a ∧ y = .ref b ∧ DTop X.K H a b ∧ Q (.bl true) H) := by
  intro pins s σ H x y v u Q I rx ry h
  obtain ⟨a, b, rfl, rfl, ⟨xs, ys, hab, hl, hi⟩, q⟩ := h
  cases rx
  cases ry
  rcases hab with ⟨ha, hb⟩ | ⟨ha, hb⟩
  · obtain ⟨ia, ra, pa, _⟩ := I.list ha
    obtain ⟨ib, rb, pb, _⟩ := I.list hb
    refine SeqAt.eq_listAt (e := fun _ => true) pa.isList pb.isList (by rw [List.size_toArray, List.size_toArray, ← ra.length, ← rb.length]; exact hl) (by omega) (fun j h1 h2 => ?_) ?_
    · obtain ⟨x, ex, rx⟩ := items_at ra h1
      obtain ⟨y, ey, ry⟩ := items_at rb h2
      exact deq_at (hi j x y ex ey) I rx ry (by rw [in1_units]; omega)
    · have e : (List.range ia.toArray.size).all (fun _ => true) = true := by simp
      rw [e]
      exact ⟨.bl true, H, I, rfl, q⟩
  · obtain ⟨ia, ra, pa, _⟩ := I.tuple ha
    obtain ⟨ib, rb, pb, _⟩ := I.tuple hb
    refine SeqAt.eq_tupleAt (e := fun _ => true) (show s.heap.IsTuple a ia.toArray from pa) (show s.heap.IsTuple b ib.toArray from pb) (by omega) (fun j h1 h2 => ?_) ?_
    · obtain ⟨x, ex, rx⟩ := items_at ra h1
      obtain ⟨y, ey, ry⟩ := items_at rb h2
      exact deq_at (hi j x y ex ey) I rx ry (by rw [in1_units]; omega)
    · have e : ((List.range (min ia.toArray.size ib.toArray.size)).all (fun _ => true) && ia.toArray.size == ib.toArray.size) = true := by
        have : ia.toArray.size = ib.toArray.size := by rw [List.size_toArray, List.size_toArray, ← ra.length, ← rb.length]; exact hl
        simp [this]
      rw [e]
      exact ⟨.bl true, H, I, rfl, q⟩
theorem op_neDeep (hu : X.A.units + 10 < cLine) : OpR X (compareOp .NotEq) (fun x y H Q => ∃ a b, x = .ref a ∧ y = .ref b ∧ DTop X.K H a b ∧ Q (.bl false) H) := by
  intro pins s σ H x y v u Q I rx ry h
  obtain ⟨a, b, rfl, rfl, ⟨xs, ys, hab, hl, hi⟩, q⟩ := h
  cases rx
  cases ry
  rcases hab with ⟨ha, hb⟩ | ⟨ha, hb⟩
  · obtain ⟨ia, ra, pa, _⟩ := I.list ha
    obtain ⟨ib, rb, pb, _⟩ := I.list hb
    refine SeqAt.RcNeAt.lists (e := fun _ => true) pa.isList pb.isList (by rw [List.size_toArray, List.size_toArray, ← ra.length, ← rb.length]; exact hl) (by omega) (fun j h1 h2 => ?_) _ _ _ _ ?_
    · obtain ⟨x, ex, rx⟩ := items_at ra h1
      obtain ⟨y, ey, ry⟩ := items_at rb h2
      exact deq_at (hi j x y ex ey) I rx ry (by rw [in1_units]; omega)
    · have e : (!(List.range ia.toArray.size).all (fun _ => true)) = false := by simp
      rw [e]
      exact ⟨.bl false, H, I, rfl, q⟩
  · obtain ⟨ia, ra, pa, _⟩ := I.tuple ha
    obtain ⟨ib, rb, pb, _⟩ := I.tuple hb
    refine SeqAt.RcNeAt.tuples (e := fun _ => true) (show s.heap.IsTuple a ia.toArray from pa) (show s.heap.IsTuple b ib.toArray from pb) (by omega) (fun j h1 h2 => ?_) _ _ _ _ ?_
    · obtain ⟨x, ex, rx⟩ := items_at ra h1
      obtain ⟨y, ey, ry⟩ := items_at rb h2
      exact deq_at (hi j x y ex ey) I rx ry (by rw [in1_units]; omega)
    · have e : (!((List.range (min ia.toArray.size ib.toArray.size)).all (fun _ => true) && ia.toArray.size == ib.toArray.size)) = false := by
        have : ia.toArray.size = ib.toArray.size := by rw [List.size_toArray, List.size_toArray, ← ra.length, ← rb.length]; exact hl
        simp [this]
      rw [e]
      exact ⟨.bl false, H, I, rfl, q⟩
end
theorem hu_deep {A : Around} {k : Nat} (hr : Room k A) : A.units + 10 < cLine := by have := hr.units; omega

/-! ### within a comprehension's block the text's K is named -/
theorem call_len_seqK {X : Cx} {K : PySem.W.Frag} (hK : X.K = K) : CallR X (.builtin "len") (fun xs H Q => ∃ p ys, xs = [.ref p] ∧ (SqL K H p ys ∨ SqT K H p ys) ∧ Q (.int ys.length) H) := hK ▸ call_len_seq
theorem call_list_ofK {X : Cx} {K : PySem.W.Frag} (hK : X.K = K) : CallR X (.type "list") (fun xs H Q => ∃ p ys, xs = [.ref p] ∧ (SqL K H p ys ∨ SqT K H p ys) ∧ ∀ l, H l = none → Q (.ref l) (upd H l (.lst ys))) := hK ▸ call_list_of

/-! ### the heap -/
theorem Same.at {H H' : Hp} {D : Addr} {o : HO} (hD : H D = none) (s : Same H H') : Same H (upd H' D o) := fun b u e => by rw [upd_ne (ne_of_none e hD)]; exact s b u e
theorem SqT.lset {K : PySem.W.Frag} {H : Hp} {a l : Addr} {xs zs ys : List V} (hl : H l = some (.lst zs)) (h : SqT K H a xs) : SqT K (upd H l (.lst ys)) a xs := by
  rcases h with (h | ⟨o, h⟩) | h
  · exact .inl (.inl (by rw [upd_ne (ne_of h hl (by intro z; cases z))]; exact h))
  · exact .inl (.inr ⟨o, by rw [upd_ne (ne_of h hl (by intro z; cases z))]; exact h⟩)
  · exact .inr h
theorem SqL.other {K : PySem.W.Frag} {H : Hp} {a l : Addr} {xs : List V} {o : HO} (hne : a ≠ l) (h : SqL K H a xs) : SqL K (upd H l o) a xs := by
  rcases h with (h | ⟨o', h⟩) | h
  · exact .inl (.inl (by rw [upd_ne hne]; exact h))
  · exact .inl (.inr ⟨o', by rw [upd_ne hne]; exact h⟩)
  · exact .inr h
end L2

set_option Elab.async false
set_option linter.all false
set_option maxRecDepth 100000
set_option maxHeartbeats 4100000
namespace L2
open PySem PySem.Spec PyProof.Rows
/-! ### texts: split, join, startswith; str, int of texts; all -/
theorem vals_txt : ∀ l : List (Str × Tok), Vals (l.map fun p => V.str p.1) (strValues l)
  | [] => .nil
  | p :: l => .cons ⟨p.2, rfl⟩ (vals_txt l)
theorem txt_vals : ∀ {ss : List Str} {us : List Value}, Vals (ss.map V.str) us → ∃ l : List (Str × Tok), us = strValues l ∧ l.map (·.1) = ss := by
  intro ss
  induction ss with
  | nil => intro us r; cases r; exact ⟨[], rfl, rfl⟩
  | cons z ss ih =>
    intro us r
    cases r with
    | cons r rs =>
      obtain ⟨t, rfl⟩ := r
      obtain ⟨l, rfl, e⟩ := ih rs
      exact ⟨(z, t) :: l, rfl, by rw [List.map_cons, e]⟩
theorem partsFrom_len (x : Str) (w : Nat) : ∀ (cuts : List Nat) (a : Nat), (StrLaws.partsFrom x w a cuts).length = cuts.length + 1
  | [], _ => rfl
  | c :: r, a => by
    show (StrLaws.partsFrom x w (c + w) r).length + 1 = _
    rw [partsFrom_len x w r]; rfl
theorem split_len (z y : Str) : (Txt.split z y).length ≤ z.length + 2 := by
  unfold Txt.split
  split
  · simp
  · split
    · simp
    · have h := StrLaws.occ_length_le z y 0 z.length (z.length + 1)
      rw [StrLaws.partsBetween_eq, partsFrom_len]
      omega
section
variable {X : Cx}
def rSplit : V → List V → Hp → VK → Prop := fun x vs H Q => ∃ z y, x = .str z ∧ vs = [.str y] ∧ (y.length == 0) = false ∧ z.length + 2 ≤ sizeLine ∧ ∀ l, H l = none → Q (.ref l) (upd H l (.lst ((Txt.split z y).map V.str)))
theorem mt_split : MtR X "str.split" rSplit := by
  intro pins s σ H x vs v us Q I rx rv h
  obtain ⟨z, y, rfl, rfl, hy, hz, q⟩ := h
  obtain ⟨t, rfl⟩ := rx
  obtain ⟨u, rfl, ru⟩ := vals1 rv
  obtain ⟨t2, rfl⟩ := ru
  have hlen := split_len z y
  have one : Txt.split z y = [z] → EP X pins σ Q (.ref s.heap.objs.size) { s with heap := s.heap.push { cls := .type "list", data := .seq [Value.str z t].toArray } } := fun e =>
    ⟨.ref s.heap.objs.size, _, I.lnew (t' := s.toks) (ys := (Txt.split z y).map V.str) (its := [.str z t]) (by rw [e]; exact .cons ⟨t, rfl⟩ .nil) (by rw [List.length_map]; omega), rfl, q _ I.fresh⟩
  cases h1 : (decide (z.length < y.length) || decide (Builtin.Str.strKind z < Builtin.Str.strKind y)) with
  | true => exact call_meets F.slot_str_split (typeIs_str _ _ _) F.entry_str_split (F.args_str_split_2 _ _) (meets_str_split_cannot_occur z y t t2 h1) (one (by unfold Txt.split; rw [if_pos h1]))
  | false =>
    cases hf : (Builtin.Str.occurrences z y 0 z.length (z.length + 1)).isEmpty with
    | true => exact call_meets F.slot_str_split (typeIs_str _ _ _) F.entry_str_split (F.args_str_split_2 _ _) (meets_str_split_not_found z y t t2 h1 hy hf) (one (by unfold Txt.split; rw [if_neg (ne_true_of_eq_false h1), if_pos hf]))
    | false =>
      have e : Txt.split z y = Builtin.Str.partsBetween z (Builtin.Str.occurrences z y 0 z.length (z.length + 1)) y.length := by
        unfold Txt.split; rw [if_neg (ne_true_of_eq_false h1), if_neg (ne_true_of_eq_false hf)]
      refine call_meets F.slot_str_split (typeIs_str _ _ _) F.entry_str_split (F.args_str_split_2 _ _) (meets_str_split_sep z y t t2 h1 hy hf (by omega) (by rw [← e]; omega)) ?_
      rw [← e, strsFrom_eq]
      refine ⟨.ref s.heap.objs.size, _, I.lnew (ys := (Txt.split z y).map V.str) ?_ (by rw [List.length_map]; omega), rfl, q _ I.fresh⟩
      have hv := vals_txt (numbered s.toks (Txt.split z y))
      have e2 : (numbered s.toks (Txt.split z y)).map (fun p => V.str p.1) = (Txt.split z y).map V.str := by
        rw [← numbered_texts s.toks (Txt.split z y), List.map_map]
        rw [numbered_texts s.toks (Txt.split z y)]; rfl
      rw [e2] at hv
      exact hv
def rJoin (K : PySem.W.Frag) : V → List V → Hp → VK → Prop := fun x vs H Q => ∃ (sep : Str) (p : Addr) (ss : List Str), x = .str sep ∧ vs = [.ref p] ∧ SqL K H p (ss.map V.str) ∧ JoinOk sep ss = true ∧ Q (.str (Str.join sep ss)) H
theorem mt_join : MtR X "str.join" (rJoin X.K) := by
  intro pins s σ H x vs v us Q I rx rv h
  obtain ⟨sep, p, ss, rfl, rfl, hp, hok, q⟩ := h
  obtain ⟨t, rfl⟩ := rx
  obtain ⟨u, rfl, ru⟩ := vals1 rv
  cases ru
  obtain ⟨its, r, pl, hz⟩ := I.list hp
  obtain ⟨l, rfl, e⟩ := txt_vals r
  refine SC.join pl.isList e hok fun t' k => ⟨.str (Str.join sep ss), H, I.tok k, ⟨t', ?_⟩, q⟩
  show Value.str (Builtin.Str.glued sep ss) t' = _
  rw [StrLaws.glued_eq_join]
theorem joinOk_of {sep : Str} {ss : List Str} {B : Nat} (hB : ∀ y ∈ ss, y.length ≤ B) (h : ss.length * B + ss.length * sep.length ≤ 16777216) : JoinOk sep ss = true := by
  unfold JoinOk
  rw [StrLaws.joinFits hB h]; rfl
theorem mt_startswith : MtR X "str.startswith" (fun x vs H Q => ∃ z y, x = .str z ∧ vs = [.str y] ∧ Q (.bl (Txt.startswith z y)) H) := by
  intro pins s σ H x vs v us Q I rx rv h
  obtain ⟨z, y, rfl, rfl, q⟩ := h
  obtain ⟨t, rfl⟩ := rx
  obtain ⟨u, rfl, ru⟩ := vals1 rv
  obtain ⟨t2, rfl⟩ := ru
  exact SC.startswith ⟨.bl _, H, I, rfl, q⟩
theorem call_str_any : CallR X (.type "str") (fun xs H Q => (∃ z, xs = [.str z] ∧ Q (.str z) H) ∨ ∃ i, xs = [.int i] ∧ i.natAbs.log2 < 1920 ∧ Q (.str (toString i)) H) := by
  refine CallR.or ?_ call_str_int
  intro pins s σ H xs us Q I r h
  obtain ⟨z, rfl, q⟩ := h
  obtain ⟨u, rfl, ru⟩ := vals1 r
  obtain ⟨t, rfl⟩ := ru
  exact P.str_of_str ⟨.str z, H, I, ⟨t, rfl⟩, q⟩
theorem call_int_text : CallR X (.type "int") (fun xs H Q => ∃ z n, xs = [.str z] ∧ intText? z = some n ∧ z.length ≤ 640 ∧ Q (.int n) H) := by
  intro pins s σ H xs us Q I r h
  obtain ⟨z, n, rfl, hn, hl, q⟩ := h
  obtain ⟨u, rfl, ru⟩ := vals1 r
  obtain ⟨t, rfl⟩ := ru
  exact PySem.W.KIN.call_text hn hl ⟨.int n, H, I.tok _, ⟨_, rfl⟩, q⟩
theorem call_all_bools (hcalm : X.calm = true) : CallR X (.builtin "all") (fun xs H Q => ∃ (p : Addr) (bs : List Bool), xs = [.ref p] ∧ SqL X.K H p (bs.map V.bl) ∧ Q (.bl (bs.all id)) H) := by
  intro pins s σ H xs us Q I r h
  obtain ⟨p, bs, rfl, hp, q⟩ := h
  obtain ⟨u, rfl, ru⟩ := vals1 r
  cases ru
  obtain ⟨its, rv, pl, hz⟩ := I.list hp
  have hlt : p < s.heap.objs.size := let ⟨o, n, e, _⟩ := pl; Heap.lt_size e
  have hlen : its.length = bs.length := by rw [← rv.length, List.length_map]
  have hrg : (List.range its.toArray.size).all (fun i => bs.getD i false) = bs.all id := by
    rw [List.size_toArray, hlen]
    clear hlen rv hp q hz
    induction bs with
    | nil => rfl
    | cons b bs ih =>
      rw [List.length_cons, List.range_succ_eq_map, List.all_cons, List.all_cons, List.all_map, ← ih]
      rfl
  refine call_all_walk (wpAny_pyIter_list pl.isList ?_)
  refine ⟨s.heap.objs.size, _, _, _, _, _, fun i => bs.getD i false, rfl, Walks.list (A := X.A.in1) (I.ok.hd hcalm) _ p (Nat.ne_of_lt hlt) its.toArray, ⟨⟨_, Heap.get?_push_size _ rfl, rfl, rfl⟩, pl.isList.push _⟩, fun i v s' Q' E' hv hq => ?_, fun h' tk hk => ?_⟩
  · have hv' : its[i]? = some v := by
      have hv2 : its.toArray[i]? = some v := hv
      rwa [List.getElem?_toArray] at hv2
    have hi : i < bs.length := by
      have := (List.getElem?_eq_some_iff.mp hv').1
      omega
    obtain ⟨u, hu, ht⟩ := rv.get (i := i) (x := .bl bs[i]) (by rw [List.getElem?_map, List.getElem?_eq_getElem hi]; rfl)
    rw [hv'] at hu
    have e : bs.getD i false = bs[i] := by rw [List.getD_eq_getElem?_getD, List.getElem?_eq_getElem hi]; rfl
    rw [Option.some.inj hu, show u = Value.bool bs[i] from ht, ← e]
    exact wpAny_truthy_bool hq
  · rw [hrg]
    refine ⟨.bl _, H, I.kept (t' := tk) fun b o eb => hk b o (fun hm => ?_) (Heap.get?_push_of_some _ eb), rfl, q⟩
    have hm' := List.mem_singleton.mp hm
    exact absurd (Heap.lt_size eb) (by rw [hm']; exact Nat.lt_irrefl _)
end

/-! ### == and != of lists and tuples at depth, whatever comes out -/
inductive DC (K : PySem.W.Frag) (H : Hp) : Nat → V → V → Bool → Prop
  | flat {n : Nat} {x y : V} : flatV x = true → flatV y = true → DC K H n x y (eqV x y)
  | same {n : Nat} {p : Addr} : DC K H n (.ref p) (.ref p) true
  | lst {n : Nat} {a b : Addr} {xs ys : List V} (e : Nat → Bool) : SqL K H a xs → SqL K H b ys → xs.length = ys.length → (∀ (i : Nat) x y, xs[i]? = some x → ys[i]? = some y → DC K H n x y (e i)) → DC K H (n + 1) (.ref a) (.ref b) ((List.range xs.length).all e)
  | len {n : Nat} {a b : Addr} {xs ys : List V} : SqL K H a xs → SqL K H b ys → xs.length ≠ ys.length → DC K H (n + 1) (.ref a) (.ref b) false
  | tup {n : Nat} {a b : Addr} {xs ys : List V} (e : Nat → Bool) : SqT K H a xs → SqT K H b ys → (∀ (i : Nat) x y, xs[i]? = some x → ys[i]? = some y → DC K H n x y (e i)) → DC K H (n + 1) (.ref a) (.ref b) ((List.range (min xs.length ys.length)).all e && xs.length == ys.length)
section
variable {X : Cx} {pins : List (Addr × Obj)} {σ : St} {H : Hp} {s : Shared}
theorem DC.ref_same {K : PySem.W.Frag} {H : Hp} {n : Nat} {x y : V} {k : Bool} (d : DC K H n x y k) : ∀ {p : Addr}, x = .ref p → y = .ref p → (∀ q xs, SqT K H q xs → ∀ ys, SqT K H q ys → ys = xs) → (∀ q xs, SqL K H q xs → ∀ ys, SqL K H q ys → ys = xs) → k = true := by
  induction d with
  | @flat n x y fx fy => intro p e1 e2 _ _; subst e1; cases fx
  | same => intros; rfl
  | @lst n a b xs ys e ha hb hl hi ih =>
    intro p e1 e2 jt jl
    cases e1
    cases e2
    have exy := jl _ _ ha _ hb
    subst exy
    rw [List.all_eq_true]
    intro i hi'
    have hlt := List.mem_range.mp hi'
    have := hi i _ _ (List.getElem?_eq_getElem hlt) (List.getElem?_eq_getElem hlt)
    cases hx : ys[i] with
    | ref q => exact ih i _ _ (List.getElem?_eq_getElem hlt) (List.getElem?_eq_getElem hlt) hx hx jt jl
    | _ =>
      rw [hx] at this
      generalize e i = k at this
      cases this with
      | flat f1 f2 => exact eqV_self f1
  | @len n a b xs ys ha hb hl =>
    intro p e1 e2 jt jl
    cases e1
    cases e2
    exact absurd (by rw [jl _ _ ha _ hb]) hl
  | @tup n a b xs ys e ha hb hi ih =>
    intro p e1 e2 jt jl
    cases e1
    cases e2
    have exy := jt _ _ ha _ hb
    subst exy
    rw [Nat.min_self, Bool.and_eq_true, List.all_eq_true]
    refine ⟨fun i hi' => ?_, beq_self_eq_true _⟩
    have hlt := List.mem_range.mp hi'
    have := hi i _ _ (List.getElem?_eq_getElem hlt) (List.getElem?_eq_getElem hlt)
    cases hx : ys[i] with
    | ref q => exact ih i _ _ (List.getElem?_eq_getElem hlt) (List.getElem?_eq_getElem hlt) hx hx jt jl
    | _ =>
      rw [hx] at this
      generalize e i = k at this
      cases this with
      | flat f1 f2 => exact eqV_self f1
theorem dc_at {n : Nat} {x y : V} {k : Bool} (d : DC X.K H n x y k) (I : Inv X pins σ H s) : ∀ {A : Around} {u v : Value}, RelV x u → RelV y v → A.units + n < cLine → SeqAt.EqAt A s u v k := by
  have jt : ∀ q xs, SqT X.K H q xs → ∀ ys, SqT X.K H q ys → ys = xs := fun q xs h1 ys h2 => I.tuple_inj h2 h1
  have jl : ∀ q xs, SqL X.K H q xs → ∀ ys, SqL X.K H q ys → ys = xs := fun q xs h1 ys h2 => I.list_inj h2 h1
  induction d with
  | @flat n x y fx fy => intro A u v ru rv _; exact eqAt_V (A := A) (s := s) ru rv fx fy
  | same => intro A u v ru rv _; cases ru; cases rv; exact SeqAt.EqAt.same _
  | @lst n a b xs ys e ha hb hl hi ih =>
    intro A u v ru rv hu
    cases ru
    cases rv
    by_cases hab : a = b
    · subst hab
      have e1 := (DC.lst (n := n) e ha hb hl hi).ref_same rfl rfl jt jl
      rw [e1]; exact SeqAt.EqAt.same _
    · obtain ⟨ia, ra, pa, _⟩ := I.list ha
      obtain ⟨ib, rb, pb, _⟩ := I.list hb
      refine SeqAt.EqAt.of_refs hab ?_
      have key := SeqAt.RcAt.lists (A := A) (e := e) pa.isList pb.isList (by rw [List.size_toArray, List.size_toArray, ← ra.length, ← rb.length]; exact hl) (by omega) fun j h1 h2 => by
        obtain ⟨x, ex, rx⟩ := items_at ra h1
        obtain ⟨y, ey, ry⟩ := items_at rb h2
        exact ih j x y ex ey rx ry (by rw [in1_units]; omega)
      rwa [List.size_toArray, ← ra.length] at key
  | @len n a b xs ys ha hb hl =>
    intro A u v ru rv hu
    cases ru
    cases rv
    have hab : a ≠ b := fun z => hl (by subst z; rw [I.list_inj ha hb])
    obtain ⟨ia, ra, pa, _⟩ := I.list ha
    obtain ⟨ib, rb, pb, _⟩ := I.list hb
    exact SeqAt.EqAt.of_refs hab (SeqAt.RcAt.lists_lengths (A := A) pa.isList pb.isList (by rw [List.size_toArray, List.size_toArray, ← ra.length, ← rb.length]; exact bne_iff_ne.mpr hl) (by omega))
  | @tup n a b xs ys e ha hb hi ih =>
    intro A u v ru rv hu
    cases ru
    cases rv
    by_cases hab : a = b
    · subst hab
      have e1 := (DC.tup (n := n) e ha hb hi).ref_same rfl rfl jt jl
      rw [e1]; exact SeqAt.EqAt.same _
    · obtain ⟨ia, ra, pa, _⟩ := I.tuple ha
      obtain ⟨ib, rb, pb, _⟩ := I.tuple hb
      refine SeqAt.EqAt.of_refs hab ?_
      have key := SeqAt.RcAt.tuples (A := A) (e := e) (show s.heap.IsTuple a ia.toArray from pa) (show s.heap.IsTuple b ib.toArray from pb) (by omega) fun j h1 h2 => by
        obtain ⟨x, ex, rx⟩ := items_at ra h1
        obtain ⟨y, ey, ry⟩ := items_at rb h2
        exact ih j x y ex ey rx ry (by rw [in1_units]; omega)
      rwa [List.size_toArray, List.size_toArray, ← ra.length, ← rb.length] at key
end
section
variable {X : Cx}
/-- two lists, or two tuples, and whether their items are alike -/
inductive DT (K : PySem.W.Frag) (H : Hp) : Addr → Addr → Bool → Prop
  | lst {a b : Addr} {xs ys : List V} (e : Nat → Bool) : SqL K H a xs → SqL K H b ys → xs.length = ys.length → (∀ (i : Nat) x y, xs[i]? = some x → ys[i]? = some y → DC K H 8 x y (e i)) → DT K H a b ((List.range xs.length).all e)
  | len {a b : Addr} {xs ys : List V} : SqL K H a xs → SqL K H b ys → xs.length ≠ ys.length → DT K H a b false
  | tup {a b : Addr} {xs ys : List V} (e : Nat → Bool) : SqT K H a xs → SqT K H b ys → (∀ (i : Nat) x y, xs[i]? = some x → ys[i]? = some y → DC K H 8 x y (e i)) → DT K H a b ((List.range (min xs.length ys.length)).all e && xs.length == ys.length)
theorem op_eqC (hu : X.A.units + 10 < cLine) : OpR X (compareOp .Eq) (fun x y H Q => ∃ a b k, x = .ref a ∧ y = .ref b ∧ DT X.K H a b k ∧ Q (.bl k) H) := by
  intro pins s σ H x y v u Q I rx ry h
  obtain ⟨a, b, k, rfl, rfl, d, q⟩ := h
  cases rx
  cases ry
  cases d with
  | @lst xs ys e ha hb hl hi =>
    obtain ⟨ia, ra, pa, _⟩ := I.list ha
    obtain ⟨ib, rb, pb, _⟩ := I.list hb
    refine SeqAt.eq_listAt (e := e) pa.isList pb.isList (by rw [List.size_toArray, List.size_toArray, ← ra.length, ← rb.length]; exact hl) (by omega) (fun j h1 h2 => ?_) ?_
    · obtain ⟨x, ex, rx⟩ := items_at ra h1
      obtain ⟨y, ey, ry⟩ := items_at rb h2
      exact dc_at (hi j x y ex ey) I rx ry (by rw [in1_units]; omega)
    · rw [List.size_toArray, ← ra.length]
      exact ⟨.bl _, H, I, rfl, q⟩
  | @len xs ys ha hb hl =>
    obtain ⟨ia, ra, pa, _⟩ := I.list ha
    obtain ⟨ib, rb, pb, _⟩ := I.list hb
    exact SeqAt.eq_list_lengthsAt pa.isList pb.isList (by rw [List.size_toArray, List.size_toArray, ← ra.length, ← rb.length]; exact bne_iff_ne.mpr hl) (by omega) ⟨.bl _, H, I, rfl, q⟩
  | @tup xs ys e ha hb hi =>
    obtain ⟨ia, ra, pa, _⟩ := I.tuple ha
    obtain ⟨ib, rb, pb, _⟩ := I.tuple hb
    refine SeqAt.eq_tupleAt (e := e) (show s.heap.IsTuple a ia.toArray from pa) (show s.heap.IsTuple b ib.toArray from pb) (by omega) (fun j h1 h2 => ?_) ?_
    · obtain ⟨x, ex, rx⟩ := items_at ra h1
      obtain ⟨y, ey, ry⟩ := items_at rb h2
      exact dc_at (hi j x y ex ey) I rx ry (by rw [in1_units]; omega)
    · rw [List.size_toArray, List.size_toArray, ← ra.length, ← rb.length]
      exact ⟨.bl _, H, I, rfl, q⟩
theorem op_neC (hu : X.A.units + 10 < cLine) : OpR X (compareOp .NotEq) (fun x y H Q => ∃ a b k, x = .ref a ∧ y = .ref b ∧ DT X.K H a b k ∧ Q (.bl (!k)) H) := by
  intro pins s σ H x y v u Q I rx ry h
  obtain ⟨a, b, k, rfl, rfl, d, q⟩ := h
  cases rx
  cases ry
  cases d with
  | @lst xs ys e ha hb hl hi =>
    obtain ⟨ia, ra, pa, _⟩ := I.list ha
    obtain ⟨ib, rb, pb, _⟩ := I.list hb
    refine SeqAt.RcNeAt.lists (e := e) pa.isList pb.isList (by rw [List.size_toArray, List.size_toArray, ← ra.length, ← rb.length]; exact hl) (by omega) (fun j h1 h2 => ?_) _ _ _ _ ?_
    · obtain ⟨x, ex, rx⟩ := items_at ra h1
      obtain ⟨y, ey, ry⟩ := items_at rb h2
      exact dc_at (hi j x y ex ey) I rx ry (by rw [in1_units]; omega)
    · rw [List.size_toArray, ← ra.length]
      exact ⟨.bl _, H, I, rfl, q⟩
  | @len xs ys ha hb hl =>
    obtain ⟨ia, ra, pa, _⟩ := I.list ha
    obtain ⟨ib, rb, pb, _⟩ := I.list hb
    exact SeqAt.RcNeAt.lists_lengths pa.isList pb.isList (by rw [List.size_toArray, List.size_toArray, ← ra.length, ← rb.length]; exact bne_iff_ne.mpr hl) (by omega) _ _ _ _ ⟨.bl _, H, I, rfl, q⟩
  | @tup xs ys e ha hb hi =>
    obtain ⟨ia, ra, pa, _⟩ := I.tuple ha
    obtain ⟨ib, rb, pb, _⟩ := I.tuple hb
    refine SeqAt.RcNeAt.tuples (e := e) (show s.heap.IsTuple a ia.toArray from pa) (show s.heap.IsTuple b ib.toArray from pb) (by omega) (fun j h1 h2 => ?_) _ _ _ _ ?_
    · obtain ⟨x, ex, rx⟩ := items_at ra h1
      obtain ⟨y, ey, ry⟩ := items_at rb h2
      exact dc_at (hi j x y ex ey) I rx ry (by rw [in1_units]; omega)
    · rw [List.size_toArray, List.size_toArray, ← ra.length, ← rb.length]
      exact ⟨.bl _, H, I, rfl, q⟩
end

/-! ### a top-level dict of tuples of texts, by texts -/
def shH (K : PySem.W.Frag) : Hp := fun b => if (K.lookup b).isSome = true then none else some (.tup [])
def KTab (K : PySem.W.Frag) (a : Addr) (D : List (Str × List Str)) : Prop :=
  KTD.tabLook (KTD.datLooks fun b => K.lookup b) (fun b => K.lookup b) a (D.map fun p => (p.1, KTD.Dat.tup (p.2.map PyData.str))) = true
def KTup (K : PySem.W.Frag) (a : Addr) (ws : List Str) : Prop := KTD.datLooks (fun b => K.lookup b) (.tup (ws.map PyData.str)) (.ref a) = true
def inTab (D : List (Str × List Str)) (z : Str) : Bool := D.any fun p => decide (z = p.1)
def atTab (D : List (Str × List Str)) (z : Str) : Option (List Str) := (D.find? fun p => decide (z = p.1)).map (·.2)
section
variable {X : Cx} {pins : List (Addr × Obj)} {σ : St} {H : Hp} {s : Shared}
theorem tab_here {a : Addr} {D : List (Str × List Str)} (I : Inv X pins σ H s) (h : KTab X.K a D) : KTD.Here (hidT s.heap (shH X.K)) s.heap a (D.map fun p => (p.1, KTD.Dat.tup (p.2.map PyData.str))) := by
  refine ⟨KTD.text_of_look (fun b o e => hidT_get (I.kIn b o e) ?_) h, fun b o e => (of_hidT e).1⟩
  have e' : X.K.lookup b = some o := e
  unfold shH
  rw [e']; rfl
theorem in_keys (z : Str) : ∀ D : List (Str × List Str), KTD.inKeys z (D.map fun p => (p.1, KTD.Dat.tup (p.2.map PyData.str))) = inTab D z
  | [] => rfl
  | p :: D => by
    show (decide (z = p.1) || KTD.inKeys z _) = (decide (z = p.1) || inTab D z)
    rw [in_keys z D]
theorem at_keys (z : Str) : ∀ D : List (Str × List Str), KTD.datumAt z (D.map fun p => (p.1, KTD.Dat.tup (p.2.map PyData.str))) = (atTab D z).map fun ws => KTD.Dat.tup (ws.map PyData.str)
  | [] => rfl
  | p :: D => by
    show (if decide (z = p.1) = true then _ else KTD.datumAt z _) = _
    unfold atTab
    rw [List.find?_cons]
    cases h : decide (z = p.1) with
    | true => rfl
    | false => rw [if_neg (by decide), at_keys z D]; rfl
theorem flats_strs : ∀ {ws : List Str} {vs : List Value}, KTD.Flats vs (ws.map PyData.str) → Vals (ws.map V.str) vs
  | [], _, h => by cases h; exact .nil
  | w :: ws, _, h => by
    cases h with
    | cons h1 h2 =>
      obtain ⟨t, rfl⟩ := h1.str_inv
      exact .cons ⟨t, rfl⟩ (flats_strs h2)
end
section
variable {X : Cx}
theorem op_inTab : OpR X (compareOp .In) (fun x y H Q => ∃ z a D, x = .str z ∧ y = .ref a ∧ KTab X.K a D ∧ Q (.bl (inTab D z)) H) := by
  intro pins s σ H x y v u Q I rx ry h
  obtain ⟨z, a, D, rfl, rfl, hD, q⟩ := h
  obtain ⟨t, rfl⟩ := rx
  cases ry
  refine KTD.in_text (tab_here I hD) ?_
  rw [in_keys]
  exact ⟨.bl _, H, I.tok _, rfl, q⟩
theorem op_notInTab : OpR X (compareOp .NotIn) (fun x y H Q => ∃ z a D, x = .str z ∧ y = .ref a ∧ KTab X.K a D ∧ Q (.bl (!inTab D z)) H) := by
  intro pins s σ H x y v u Q I rx ry h
  obtain ⟨z, a, D, rfl, rfl, hD, q⟩ := h
  obtain ⟨t, rfl⟩ := rx
  cases ry
  refine KTD.notin_text (tab_here I hD) ?_
  rw [in_keys]
  exact ⟨.bl _, H, I.tok _, rfl, q⟩
end
theorem KTup.sq {K : PySem.W.Frag} {H : Hp} {a : Addr} {ws : List Str} (h : KTup K a ws) (hn : ws.length ≤ 1000) : SqT K H a (ws.map V.str) := by
  have h1 : (match K.lookup a with | some o => o.cls == .type "tuple" && (match o.data with | .seq vs _ => KTD.flatsLook (ws.map PyData.str) vs.toList | _ => false) | none => false) = true := h
  cases e : K.lookup a with
  | none => rw [e] at h1; cases h1
  | some o =>
    rw [e] at h1
    have h2 : (o.cls == .type "tuple" && (match o.data with | .seq vs _ => KTD.flatsLook (ws.map PyData.str) vs.toList | _ => false)) = true := h1
    rw [Bool.and_eq_true] at h2
    obtain ⟨c, d⟩ := h2
    split at d
    · rename_i vs n hd
      have hv := flats_strs (KTD.flats_of_look d)
      have hlen := hv.length
      rw [List.length_map] at hlen
      exact .inr ⟨o, vs, n, e, beq_iff_eq.mp c, hd, by rw [← Array.length_toList, ← hlen]; exact Nat.le_of_lt (small1000 hn), hv⟩
    · cases d
theorem pg_tupK {X : Cx} {K : PySem.W.Frag} {es : List Expr} {k : Nat} {t : TGs} {pos : Pos} (n : Nat) (hK : X.K = K) (hc : X.calm = true) (h : PGs X es t) (hn : (assignEach es X.env).length = n) (hst : (assignEach es X.env).findIdx? (·.1) = none) :
    PG X (.Tuple es k pos) (gTup K n t) := hK ▸ pg_tup hc h hn hst
theorem bt_all : bootBuiltins "all" = some (.builtin "all") := by decide +kernel
theorem at0 {x : V} {xs : List V} : atI (x :: xs) 0 = some x := atI_nat (j := 0) rfl
/-- a value cut off from what follows -/
def tCutE (t : TE) : TE := fun σ H Q => ∃ R : VK, t σ H R ∧ ∀ v H', R v H' → Q v H'
theorem pe_cut {X : Cx} {e : Expr} {t : TE} (h : PE X e t) : PE X e (tCutE t) := fun pins s σ H Q I q => by
  obtain ⟨R, h1, h2⟩ := q
  exact thn (h pins s σ H R I h1) fun u s1 ⟨v, H1, I1, r1, q1⟩ => ⟨v, H1, I1, r1, h2 v H1 q1⟩
theorem big_ok {n : Nat} (h : n ≤ 200000) : n < sizeLine := by rw [sizeLine_eq]; omega
theorem split_part (z y : Str) : ∀ p ∈ Txt.split z y, p.length ≤ z.length := by
  intro p hp
  unfold Txt.split at hp
  split at hp
  · rw [List.mem_singleton.mp hp]; exact Nat.le_refl _
  · split at hp
    · rw [List.mem_singleton.mp hp]; exact Nat.le_refl _
    · unfold Builtin.Str.partsBetween at hp
      obtain ⟨q, _, rfl⟩ := List.mem_map.mp hp
      exact strSub_length_le ..
/-- SHAPES[z]: what stands there is a tuple of texts -/
def tTab (K : PySem.W.Frag) (td ty : TE) : TE := fun σ H Q => td σ H fun x H1 => ty σ H1 fun y H2 => ∃ a D z ws, x = .ref a ∧ y = .str z ∧ KTab K a D ∧ atTab D z = some ws ∧ ws.length ≤ 1000 ∧ ∀ t, SqT K H2 t (ws.map V.str) → Q (.ref t) H2
theorem eachL_tab {h : Heap} {z : Str} {P : Value → Prop} : ∀ {D : List (Str × List Str)} {ws : List Str}, atTab D z = some ws → (∀ a vs, IsTup h a (List.toArray vs) → KTD.Flats vs (ws.map PyData.str) → P (.ref a)) →
    KTD.EachL h z P (D.map fun p => (p.1, KTD.Dat.tup (p.2.map PyData.str)))
  | [], _, e, _ => by cases e
  | p :: D, ws, e, hp => by
    unfold atTab at e
    rw [List.find?_cons] at e
    by_cases c : z = p.1
    · rw [decide_eq_true c] at e
      have e2 : p.2 = ws := Option.some.inj e
      exact KTD.eachL_hit c (KTD.opened_tup (by rw [e2]; exact hp))
    · rw [decide_eq_false c] at e
      exact KTD.eachL_miss c (eachL_tab (D := D) e hp)
theorem inTab_of {D : List (Str × List Str)} {z : Str} {ws : List Str} (h : atTab D z = some ws) : inTab D z = true := by
  unfold atTab at h
  unfold inTab
  cases e : D.find? fun p => decide (z = p.1) with
  | none => rw [e] at h; cases h
  | some p =>
    have h2 := List.find?_some e
    exact List.any_eq_true.mpr ⟨p, List.mem_of_find?_eq_some e, h2⟩
theorem pe_tab {X : Cx} {o i : Expr} {td ty : TE} {pos : Pos} (ho : PE X o td) (hi : PE X i ty) (hs : PlainIx i) (hg : ∀ (a : Addr) (r : Value), letTemporaryGo o (.ref a) r = pure () := by intro _ _; with_unfolding_all rfl) :
    PE X (.Subscript o i pos) (tTab X.K td ty) := by
  intro pins s σ H Q I h
  refine Subscript_ (binT ho hi I h fun v u s2 x y H2 I2 rx ry q => ?_)
  obtain ⟨a, D, z, ws, rfl, rfl, hD, hz, hn, q⟩ := q
  cases rx
  obtain ⟨t, rfl⟩ := ry
  refine KTD.item_text (tab_here I2 hD) ((in_keys z D).trans (inTab_of hz)) (eachL_tab hz fun b vs hb hv => ?_) (hs _ _) (hg a)
  obtain ⟨ob, e1, c1, n1, d1⟩ := hb
  obtain ⟨e2, e3⟩ := of_hidT e1
  have hk : X.K.lookup b = some ob := by
    unfold shH at e3
    cases e4 : X.K.lookup b with
    | none => rw [e4, if_neg (by decide)] at e3; cases e3
    | some ob' =>
      have := I2.kIn b ob' e4
      rw [this] at e2
      exact e2
  have hvs := flats_strs hv
  have hlen : vs.length = ws.length := by rw [← hvs.length, List.length_map]
  exact ⟨.ref b, H2, I2.tok _, rfl, q b (.inr ⟨ob, vs.toArray, n1, hk, c1, d1, by rw [List.size_toArray, hlen]; exact Nat.le_of_lt (small1000 hn), hvs⟩)⟩
end L2

set_option Elab.async false
set_option linter.all false
set_option maxRecDepth 100000
set_option maxHeartbeats 4100000
namespace L2
open PySem PySem.Spec PyProof.Rows
/-! ### the signs of a text -/
def Itx (z : Str) : It := ⟨fun i _ => i < z.cps.size, fun i H x H' => H' = H ∧ ∃ c, z.cps[i]? = some c ∧ x = .str ⟨#[c]⟩, fun i _ => z.cps.size ≤ i⟩
theorem turn_text {P : Program} {w : World} {K : PySem.W.Frag} {tg : Expr} {nm : String} (hnm : nm = "str_ascii_iterator" ∨ nm = "str_iterator") (it : Addr) (z : Str) (t : Tok) : Turn P w K tg (Itx z) [it] it (fun i h => h.IsStrIter it nm z t i) where
  mem := List.mem_singleton.mpr rfl
  obj := fun i h st b hb => by
    obtain ⟨o, e, c, d⟩ := st
    rw [List.mem_singleton.mp hb]
    exact ⟨o, e, fun v q => by rw [d] at q; cases q⟩
  keep := fun i h h' st k => let ⟨o, e, r⟩ := st; ⟨o, k it (List.mem_singleton.mpr rfl) o e, r⟩
  item := by
    intro X hP hw hK hc i pins s σ H E I hf st hg
    subst hP hw hK
    obtain ⟨f0, f1, f2, f3, f4, f5⟩ := hf it (List.mem_singleton.mpr rfl)
    have hi : i < z.cps.size := hg
    have hx : z.cps[i]? = some z.cps[i] := by simp [hi]
    rcases hnm with rfl | rfl
    · refine wpAny_pyNext_ascii_item st hx fun h' st' sb => ?_
      have I1 : Inv X pins σ H { s with heap := h', toks := s.toks + 1 } := I.turned (fun b o hb e => (sb.2 b hb).trans e) f0 f1 f3 f4 f5
      obtain ⟨o, e, c, d⟩ := id st'
      exact ⟨_, rfl, go_of (s := { s with heap := h', toks := s.toks + 1 }) e c d (by decide) ⟨.str ⟨#[z.cps[i]]⟩, H, I1, ⟨_, rfl⟩, ⟨rfl, _, hx, rfl⟩, st', fun b hb => (hf b hb).1⟩⟩
    · refine wpAny_pyNext_wide_item st hx fun h' st' sb => ?_
      have I1 : Inv X pins σ H { s with heap := h', toks := s.toks + 1 } := I.turned (fun b o hb e => (sb.2 b hb).trans e) f0 f1 f3 f4 f5
      obtain ⟨o, e, c, d⟩ := id st'
      exact ⟨_, rfl, go_of (s := { s with heap := h', toks := s.toks + 1 }) e c d (by decide) ⟨.str ⟨#[z.cps[i]]⟩, H, I1, ⟨_, rfl⟩, ⟨rfl, _, hx, rfl⟩, st', fun b hb => (hf b hb).1⟩⟩
  done := by
    intro X hP hw hK hc i pins s σ H E I hf st hg
    subst hP hw hK
    obtain ⟨f0, f1, f2, f3, f4, f5⟩ := hf it (List.mem_singleton.mpr rfl)
    have hi : z.cps.size ≤ i := hg
    have hx : z.cps[i]? = none := by simp [hi]
    rcases hnm with rfl | rfl
    · exact wpAny_pyNext_ascii_end (I.ok.hd hc) st hx fun h' eb => ⟨rfl, I.turned (t' := s.toks) (fun b o hb e => eb b o hb e) f0 f1 f3 f4 f5⟩
    · exact wpAny_pyNext_wide_end (I.ok.hd hc) st hx fun h' eb => ⟨rfl, I.turned (t' := s.toks) (fun b o hb e => eb b o hb e) f0 f1 f3 f4 f5⟩
  self := by
    intro A i s Q E st q
    rcases hnm with rfl | rfl
    · exact wpAny_pyIter_striter_ascii st q
    · exact wpAny_pyIter_striter_wide st q
def iText (tl : TE) : TI := fun σ H R => tl σ H fun x H1 => ∃ z, x = .str z ∧ R (Itx z) H1
theorem pi_text {X : Cx} {tg l : Expr} {tl : TE} (hl : PE X l tl) : PI X tg l (iText tl) := by
  intro pins s σ H R I h
  refine thn (hl pins s σ H _ I h) fun v s1 ⟨x, H1, I1, r1, z, e, q⟩ => ?_
  subst e
  obtain ⟨t, rfl⟩ := r1
  have fin : ∀ nm : String, nm = "str_ascii_iterator" ∨ nm = "str_iterator" → PIE X pins σ tg R (.ref s1.heap.objs.size) { s1 with heap := s1.heap.push { cls := .type nm, data := .fields #[.str z t, .int 0 0] } } := fun nm hnm => by
    refine ⟨s1.heap.objs.size, [s1.heap.objs.size], _, _, H1, rfl, I1.kept (t' := s1.toks) fun b o e => Heap.get?_push_of_some _ e, turn_text hnm _ z t, ⟨_, Heap.get?_push_size _ rfl, rfl, rfl⟩, fun b hb => ?_, q⟩
    rw [List.mem_singleton.mp hb]
    exact I1.fpOk (Nat.le_refl _) (I1.hok.fresh (Nat.le_refl _))
  cases ha : z.cps.all (· < 128) with
  | true => exact wpAny_pyIter_ascii ha (fin _ (.inl rfl))
  | false => exact wpAny_pyIter_wide ha (fin _ (.inr rfl))
theorem comp_text {D : Addr} {z : Str} {g : TG} {tt : TT} {te : TE} {σc : St} {H : Hp} {F : Hp → Prop} (Pv : Nat → St → List V → Hp → Prop) (h0 : Pv 0 σc [] (upd H D (.lst [])))
    (hl : ∀ i σ ys H, i ≤ z.cps.size → Pv i σ ys H → H D = some (.lst ys) ∧ ys.length ≤ i) (hz : z.cps.size ≤ sizeLine)
    (hs : ∀ i c σ ys H, z.cps[i]? = some c → Pv i σ ys H → g (.str ⟨#[c]⟩) σ H fun σ2 H2 => tt σ2 H2 fun b H3 => if b = true then te σ2 H3 fun y H4 => H4 D = some (.lst ys) ∧ Pv (i + 1) σ2 (ys ++ [y]) (upd H4 D (.lst (ys ++ [y]))) else Pv (i + 1) σ2 ys H3)
    (hd : ∀ σ ys H, Pv z.cps.size σ ys H → F H) : tLoopC g tt te σc D (Itx z) H F := by
  refine ⟨fun i m σ ys H => m = z.cps.size - i ∧ i ≤ z.cps.size ∧ Pv i σ ys H, ⟨z.cps.size, by simp, Nat.zero_le _, h0⟩, ?_⟩
  rintro i m σ ys H ⟨rfl, hi, p⟩
  obtain ⟨hD, hy⟩ := hl i σ ys H hi p
  refine ⟨hD, ?_⟩
  by_cases hlt : i < z.cps.size
  · refine .inr ⟨hlt, by omega, Pv (i + 1), fun σ' ys' H' p' => ⟨z.cps.size - (i + 1), by omega, rfl, hlt, p'⟩, fun x H' y => ?_⟩
    obtain ⟨e, c, hc, rfl⟩ := y
    subst e
    exact hs i c σ ys _ hc p
  · have e : i = z.cps.size := by omega
    subst e
    exact .inl ⟨Nat.le_refl _, hd σ ys H p⟩
/-- over a tuple -/
theorem comp_tup {K : PySem.W.Frag} {a D : Addr} {xs : List V} {g : TG} {tt : TT} {te : TE} {σc : St} {H : Hp} {F : Hp → Prop} (Pv : Nat → St → List V → Hp → Prop) (h0 : Pv 0 σc [] (upd H D (.lst [])))
    (hl : ∀ i σ ys H, i ≤ xs.length → Pv i σ ys H → SqT K H a xs ∧ H D = some (.lst ys) ∧ ys.length ≤ i) (hz : xs.length ≤ sizeLine)
    (hs : ∀ i x σ ys H, xs[i]? = some x → Pv i σ ys H → g x σ H fun σ2 H2 => tt σ2 H2 fun b H3 => if b = true then te σ2 H3 fun y H4 => H4 D = some (.lst ys) ∧ Pv (i + 1) σ2 (ys ++ [y]) (upd H4 D (.lst (ys ++ [y]))) else Pv (i + 1) σ2 ys H3)
    (hd : ∀ σ ys H, Pv xs.length σ ys H → F H) : tLoopC g tt te σc D (Itt K a) H F := by
  refine ⟨fun i m σ ys H => m = xs.length - i ∧ i ≤ xs.length ∧ Pv i σ ys H, ⟨xs.length, by simp, Nat.zero_le _, h0⟩, ?_⟩
  rintro i m σ ys H ⟨rfl, hi, p⟩
  obtain ⟨q, hD, hy⟩ := hl i σ ys H hi p
  refine ⟨hD, ?_⟩
  by_cases hlt : i < xs.length
  · refine .inr ⟨⟨xs, xs[i], q, by simp [hlt]⟩, by omega, Pv (i + 1), fun σ' ys' H' p' => ⟨xs.length - (i + 1), by omega, rfl, hlt, p'⟩, fun x H' y => ?_⟩
    obtain ⟨e, y⟩ := y
    subst e
    exact hs i x σ ys _ (y xs q) p
  · have e : i = xs.length := by omega
    subst e
    exact .inl ⟨⟨xs, q, Nat.le_refl _⟩, hd σ ys H p⟩
end L2

set_option Elab.async false
set_option linter.all false
set_option maxRecDepth 100000
set_option maxHeartbeats 4100000
namespace L2
open PySem PySem.Spec PyProof.Rows
/-! ### zip of a list and a tuple -/
section
variable {prog : Program} {w : World} {A : Around} {E : Value → Shared → Prop} {s : Shared}
theorem nextOf_tup {it t : Addr} {i : Nat} {zs : Array Value} {y : Value} {Q : Value → Shared → Prop} (g : s.heap.IsTupleIter it t i) (gt : s.heap.IsTuple t zs) (gy : zs[i]? = some y)
    (q : ∀ h', h'.IsTupleIter it t (i + 1) → Heap.SameBut it s.heap h' → Q y { s with heap := h' }) : wpAny (model prog w) A (Builtin.SmallTypes.nextOf (.ref it)) Q E s := by
  obtain ⟨o, e1, c1, d1⟩ := id g
  obtain ⟨oo, e2, _, m, d2⟩ := gt
  unfold Builtin.SmallTypes.nextOf
  refine wpAny_bind (wpAny_callSpecial?_slot (name := Str.ofString "__next__") g.typeIs F.slot_tuple_iterator_next (wpAny_call_entry F.slot_tuple_iterator_next g.typeIs F.entry_tuple_iterator_next ?_ (F.args_tuple_iterator_next_1 _)))
  show wpAny _ _ (field (.ref it) 0 >>= _) _ _ s; refine wpAny_bind (wpAny_field e1 d1 (x := .ref t) rfl ?_)
  show wpAny _ _ (if (Value.ref t == Value.none) = true then _ else _) _ _ s; rw [if_neg (show ¬ ((Value.ref t == Value.none) = true) from Bool.false_ne_true)]
  show wpAny _ _ (field (.ref it) 1 >>= _) _ _ s; refine wpAny_bind (wpAny_field e1 d1 (x := .int i 0) rfl ?_)
  show wpAny _ _ (seqItems? (.ref t) >>= _) _ _ s; refine wpAny_bind (wpAny_seqItems e2 d2 ?_)
  simp only [Int.toNat_natCast, gy]
  refine wpAny_bind (wpAny_setField e1 d1 (by simp) (wpAny_pure ⟨y, rfl, wpAny_pure (q _ ⟨_, Heap.get?_update_self _ e1 (Obj.isFreed_of_fields (Obj.data_mapFields d1 _)), (Obj.cls_mapFields ..).trans c1, ?_⟩ (Heap.SameBut.update ..))⟩))
  rw [Obj.data_mapFields d1]; simp [rawInt]
theorem zipT_item {z TI TO i1 i2 l t : Addr} {k1 k2 : Nat} {xs ys : Array Value} {x y a b : Value} {Q : Value → Shared → Prop} (D : ZipApart z TI TO i1 i2 l t)
    (gz : IsZip s.heap z TI TO .none) (gI : IsPair s.heap TI (.ref i1) (.ref i2)) (gO : IsPair s.heap TO a b) (g1 : s.heap.IsListIter i1 l k1) (g2 : s.heap.IsTupleIter i2 t k2) (gl : s.heap.IsList l xs) (gt : s.heap.IsTuple t ys) (ex : xs[k1]? = some x) (ey : ys[k2]? = some y)
    (q : ∀ h', IsZip h' z TI TO (rawInt s.heap.objs.size) → IsPair h' TO x y → h'.IsListIter i1 l (k1 + 1) → h'.IsTupleIter i2 t (k2 + 1) → IsPair h' s.heap.objs.size x y → h'.objs.size = s.heap.objs.size + 1 →
      (∀ c o, c ≠ z → c ≠ TO → c ≠ i1 → c ≠ i2 → s.heap.get? c = some o → h'.get? c = some o) → Q (.ref s.heap.objs.size) { s with heap := h' }) :
    wpAny (model prog w) A (Builtin.«zip.__next__» ⟨[.ref z], []⟩) (fun fin s' => ∃ v, fin = .done (.ret v) ∧ Q v s') E s := by
  show wpAny _ _ (field (.ref z) 2 >>= _) _ _ _; refine wpAny_bind (wpAny_field gz rfl (x := .bool false) rfl ?_)
  show wpAny _ _ (field (.ref z) 3 >>= _) _ _ _; refine wpAny_bind (wpAny_field gz rfl (x := .ref TI) rfl (wpAny_bind (wpAny_seqItems gI rfl ?_)))
  show wpAny _ _ (Builtin.SmallTypes.ownedTupleIsFree (.ref z) >>= _) _ _ _; refine wpAny_bind ?_
  unfold Builtin.SmallTypes.ownedTupleIsFree; refine wpAny_bind (wpAny_field gz rfl (x := .none) rfl (wpAny_pure ?_))
  simp only [if_true]; refine wpAny_bind (wpAny_rule (wpAny_bind (wpAny_field gz rfl (x := .ref TO) rfl (wpAny_bind (wpAny_setField_rec gz (by simp) fun ha za sa => ?_)))))
  replace za : IsZip ha z TI TO .ellipsis := za
  refine wpAny_bind ?_; simp only [List.zipIdx_cons, List.zipIdx_nil, List.forIn_cons, List.forIn_nil]
  refine wpAny_bind (wpAny_bind (wpAny_onRaise ?_)); show wpAny _ _ (Builtin.SmallTypes.nextOf (.ref i1) >>= _) _ _ _
  refine wpAny_bind (wpAny_nextOf_list_item (g1.extBut sa.extBut D.i1z) (gl.extBut sa.extBut D.l1z) ex fun hb b1 sb => wpAny_pure ?_)
  have Ob : IsPair hb TO a b := sb.extBut _ _ D.TOi1 (sa.extBut _ _ D.TOz gO)
  refine wpAny_bind (wpAny_seqItems Ob rfl (wpAny_bind (wpAny_updateSeq_pair Ob fun hc Oc sc => ?_)))
  replace Oc : IsPair hc TO x b := Oc
  refine wpAny_bind (wpAny_letGo (wpAny_pure (wpAny_bind (wpAny_bind (wpAny_onRaise ?_))))); show wpAny _ _ (Builtin.SmallTypes.nextOf (.ref i2) >>= _) _ _ _
  have g2c : hc.IsTupleIter i2 t k2 := g2.at fun o e => sc.extBut _ _ D.TOi2.symm (sb.extBut _ _ D.i12.symm (sa.extBut _ _ D.i2z e))
  have gtc : hc.IsTuple t ys := gt.at fun o e => sc.extBut _ _ D.l2TO (sb.extBut _ _ D.l2i1 (sa.extBut _ _ D.l2z e))
  refine wpAny_bind (nextOf_tup (s := { s with heap := hc }) g2c gtc ey fun hd d2 sd => wpAny_pure ?_)
  have Od : IsPair hd TO x b := sd.extBut _ _ D.TOi2 Oc
  refine wpAny_bind (wpAny_seqItems Od rfl (wpAny_bind (wpAny_updateSeq_pair Od fun he Oe se => ?_)))
  replace Oe : IsPair he TO x y := Oe
  refine wpAny_bind (wpAny_letGo (wpAny_pure (wpAny_pure (wpAny_bind (wpAny_seqItems Oe rfl (wpAny_bind (wpAny_newTuple ?_)))))))
  have sz : he.objs.size = s.heap.objs.size := by rw [se.1, sd.1, sc.1, sb.1, sa.1]
  have ze : IsZip he z TI TO .ellipsis := se.extBut _ _ D.TOz.symm (sd.extBut _ _ D.i2z.symm (sc.extBut _ _ D.TOz.symm (sb.extBut _ _ D.i1z.symm za)))
  have ke : ∀ c o, c ≠ z → c ≠ TO → c ≠ i1 → c ≠ i2 → s.heap.get? c = some o → he.get? c = some o := fun c o n1 n2 n3 n4 e =>
    se.extBut _ _ n2 (sd.extBut _ _ n4 (sc.extBut _ _ n2 (sb.extBut _ _ n3 (sa.extBut _ _ n1 e))))
  have e1 : he.IsListIter i1 l (k1 + 1) := ((b1.extBut sc.extBut D.TOi1.symm).extBut sd.extBut D.i12).extBut se.extBut D.TOi1.symm
  have e2 : he.IsTupleIter i2 t (k2 + 1) := d2.at fun o e => se.extBut _ _ D.TOi2.symm e
  have zlt : z < he.objs.size := Heap.lt_size ze
  show wpAny _ _ (Builtin.SmallTypes.ownedTupleHandOut (.ref z) (.ref he.objs.size) >>= _) _ _ _; refine wpAny_bind ?_
  unfold Builtin.SmallTypes.ownedTupleHandOut
  have zf : IsZip (he.push { cls := .type "tuple", data := .seq #[x, y] }) z TI TO .ellipsis := Heap.get?_push_of_some _ ze
  refine wpAny_bind (wpAny_setField_rec zf (by simp) fun hg zg sg => ?_)
  replace zg : IsZip hg z TI TO (rawInt he.objs.size) := zg
  refine wpAny_setField_rec zg (by simp) fun hi zi si => ?_
  replace zi : IsZip hi z TI TO (rawInt he.objs.size) := zi
  have up : ∀ c o, c ≠ z → he.get? c = some o → hi.get? c = some o := fun c o n1 e => si.extBut _ _ n1 (sg.extBut _ _ n1 (Heap.get?_push_of_some _ e))
  have Ti : IsPair hi he.objs.size x y := si.extBut _ _ (Nat.ne_of_gt zlt) (sg.extBut _ _ (Nat.ne_of_gt zlt) (Heap.get?_push_size _ rfl))
  have zsz : hi.objs.size = he.objs.size + 1 := by rw [si.1, sg.1, Heap.size_push]
  rw [sz] at zi Ti zsz
  refine wpAny_pure ⟨_, rfl, ?_⟩
  show Q (.ref he.objs.size) _; rw [sz]
  exact q hi zi (up _ _ D.TOz Oe) (e1.at fun o e => up _ o D.i1z e) (e2.at fun o e => up _ o D.i2z e) Ti zsz fun c o n1 n2 n3 n4 e => up c o n1 (ke c o n1 n2 n3 n4 e)
theorem zipT_end {z TI TO i1 i2 l t : Addr} {k1 : Nat} {xs : Array Value} {a b : Value} {Q : Fin → Shared → Prop} (hh : A.handled = none) (D : ZipApart z TI TO i1 i2 l t)
    (gz : IsZip s.heap z TI TO .none) (gI : IsPair s.heap TI (.ref i1) (.ref i2)) (gO : IsPair s.heap TO a b) (g1 : s.heap.IsListIter i1 l k1) (gl : s.heap.IsList l xs) (ex : xs[k1]? = none)
    (q : ∀ h' e, (∀ c o, c ≠ z → c ≠ TO → c ≠ i1 → c ≠ i2 → s.heap.get? c = some o → h'.get? c = some o) → (∃ o, h'.get? e = some o ∧ o.cls = .type "StopIteration") → E (.ref e) { s with heap := h' }) :
    wpAny (model prog w) A (Builtin.«zip.__next__» ⟨[.ref z], []⟩) Q E s := by
  show wpAny _ _ (field (.ref z) 2 >>= _) _ _ _; refine wpAny_bind (wpAny_field gz rfl (x := .bool false) rfl ?_)
  show wpAny _ _ (field (.ref z) 3 >>= _) _ _ _; refine wpAny_bind (wpAny_field gz rfl (x := .ref TI) rfl (wpAny_bind (wpAny_seqItems gI rfl ?_)))
  show wpAny _ _ (Builtin.SmallTypes.ownedTupleIsFree (.ref z) >>= _) _ _ _; refine wpAny_bind ?_
  unfold Builtin.SmallTypes.ownedTupleIsFree; refine wpAny_bind (wpAny_field gz rfl (x := .none) rfl (wpAny_pure ?_))
  simp only [if_true]; refine wpAny_bind (wpAny_rule (wpAny_bind (wpAny_field gz rfl (x := .ref TO) rfl (wpAny_bind (wpAny_setField_rec gz (by simp) fun ha za sa => ?_)))))
  replace za : IsZip ha z TI TO .ellipsis := za
  refine wpAny_bind ?_; simp only [List.zipIdx_cons, List.zipIdx_nil, List.forIn_cons, List.forIn_nil]
  refine wpAny_bind (wpAny_bind (wpAny_onRaise ?_)); show wpAny _ _ (Builtin.SmallTypes.nextOf (.ref i1) >>= _) _ _ _
  refine wpAny_bind (wpAny_nextOf_list_end hh (g1.extBut sa.extBut D.i1z) (gl.extBut sa.extBut D.l1z) ex fun hb e sb he => ?_)
  obtain ⟨oe, eo, ec⟩ := he
  have zb : IsZip hb z TI TO .ellipsis := sb _ _ D.i1z.symm za
  have ne : e ≠ z := fun j => by subst j; rw [zb] at eo; cases eo; simp at ec
  exact wpAny_setField_rec zb (by simp) fun hc _ sc => q hc e (fun c o n1 _ n3 _ j => sc.extBut _ _ n1 (sb _ _ n3 (sa.extBut _ _ n1 j))) ⟨oe, sc.extBut _ _ ne eo, ec⟩
theorem next_zipT {z TI TO i1 i2 l t : Addr} {k1 k2 : Nat} {xs ys : Array Value} {x y a b : Value} {Q : Option Value → Shared → Prop} (D : ZipApart z TI TO i1 i2 l t)
    (gz : IsZip s.heap z TI TO .none) (gI : IsPair s.heap TI (.ref i1) (.ref i2)) (gO : IsPair s.heap TO a b) (g1 : s.heap.IsListIter i1 l k1) (g2 : s.heap.IsTupleIter i2 t k2) (gl : s.heap.IsList l xs) (gt : s.heap.IsTuple t ys) (ex : xs[k1]? = some x) (ey : ys[k2]? = some y)
    (q : ∀ h', IsZip h' z TI TO (rawInt s.heap.objs.size) → IsPair h' TO x y → h'.IsListIter i1 l (k1 + 1) → h'.IsTupleIter i2 t (k2 + 1) → IsPair h' s.heap.objs.size x y → h'.objs.size = s.heap.objs.size + 1 →
      (∀ c o, c ≠ z → c ≠ TO → c ≠ i1 → c ≠ i2 → s.heap.get? c = some o → h'.get? c = some o) → Q (some (.ref s.heap.objs.size)) { s with heap := h' }) : wpAny (model prog w) A (pyNext (.ref z)) Q E s := by
  have T : s.TypeIs (.ref z) "zip" := ⟨_, gz, rfl⟩
  unfold pyNext
  exact wpAny_bind (wpAny_attempt (wpAny_callSpecial?_slot (name := Str.ofString "__next__") T F.slot_zip_next (wpAny_call_entry F.slot_zip_next T F.entry_zip_next (zipT_item D gz gI gO g1 g2 gl gt ex ey fun h' a1 a2 a3 a4 a5 a6 a7 => wpAny_pure (q h' a1 a2 a3 a4 a5 a6 a7)) (F.args_zip_next_1 _))))
theorem next_zipT_end {z TI TO i1 i2 l t : Addr} {k1 : Nat} {xs : Array Value} {a b : Value} {Q : Option Value → Shared → Prop} (hh : A.handled = none) (D : ZipApart z TI TO i1 i2 l t)
    (gz : IsZip s.heap z TI TO .none) (gI : IsPair s.heap TI (.ref i1) (.ref i2)) (gO : IsPair s.heap TO a b) (g1 : s.heap.IsListIter i1 l k1) (gl : s.heap.IsList l xs) (ex : xs[k1]? = none)
    (q : ∀ h', (∀ c o, c ≠ z → c ≠ TO → c ≠ i1 → c ≠ i2 → s.heap.get? c = some o → h'.get? c = some o) → Q none { s with heap := h' }) : wpAny (model prog w) A (pyNext (.ref z)) Q E s := by
  have T : s.TypeIs (.ref z) "zip" := ⟨_, gz, rfl⟩
  unfold pyNext
  refine wpAny_bind (wpAny_attempt (wpAny_callSpecial?_slot (name := Str.ofString "__next__") T F.slot_zip_next (wpAny_call_entry F.slot_zip_next T F.entry_zip_next (zipT_end hh D gz gI gO g1 gl ex fun h' e k he => ?_) (F.args_zip_next_1 _))))
  obtain ⟨o, ho, hc⟩ := he
  exact wpAny_bind (wpAny_isInstance (T := "StopIteration") (b := true) ⟨o, ho, hc⟩ isSubtype_stop (wpAny_pure (q _ k)))
end
abbrev zt1 (h : Heap) (l : Addr) : Heap := h.push { cls := .type "list_iterator", data := .fields #[.ref l, .int 0 0] }
abbrev zt2 (h : Heap) (l t : Addr) : Heap := (zt1 h l).push { cls := .type "tuple_iterator", data := .fields #[.ref t, .int 0 0] }
abbrev zt3 (h : Heap) (l t : Addr) : Heap := (zt2 h l t).push { cls := .type "tuple", data := .seq #[.ref h.objs.size, .ref (zt1 h l).objs.size] }
abbrev zt4 (h : Heap) (l t : Addr) : Heap := (zt3 h l t).push { cls := .type "tuple", data := .seq #[.none, .none] }
abbrev zt5 (h : Heap) (l t : Addr) : Heap := (zt4 h l t).push { cls := .type "zip", data := .fields #[.none, .bool false, .bool false, .ref (zt2 h l t).objs.size, .ref (zt3 h l t).objs.size] }
theorem zipT_new (l t : Addr) (xs ys : Array Value) : Meets (Builtin.«zip.__new__» ⟨[.type "zip", .ref l, .ref t], []⟩) (fun _ R s => s.heap.IsList l xs ∧ s.heap.IsTuple t ys ∧ R (.ok (.ret (.ref (zt4 s.heap l t).objs.size))) { s with heap := zt5 s.heap l t }) :=
  .of_wp fun prog w A R s h => by
    obtain ⟨hp, g, d, tk, os⟩ := s
    obtain ⟨hl, ht, h⟩ := h
    have hsub := sub_zip
    have L1 : Heap.IsList (Shared.heap ⟨hp, g, d, tk, os⟩) l xs := hl
    have L2' : Heap.IsTuple (Shared.heap ⟨hp.push { cls := .type "list_iterator", data := .fields #[.ref l, .int 0 0] }, g, d, tk, os⟩) t ys := ht.at fun o e => Heap.get?_push_of_some _ e
    wp_walk using wpAny_pyIter_list L1, wpAny_pyIter_tuple L2'
    exact ⟨_, rfl, h⟩
section
variable {prog : Program} {w : World} {A : Around} {E : Value → Shared → Prop} {s : Shared}
theorem call_zipT {l t : Addr} {xs ys : Array Value} {Q : Value → Shared → Prop} (hl : s.heap.IsList l xs) (ht : s.heap.IsTuple t ys)
    (q : ∀ h', IsZip h' (s.heap.objs.size + 4) (s.heap.objs.size + 2) (s.heap.objs.size + 3) .none → IsPair h' (s.heap.objs.size + 2) (.ref s.heap.objs.size) (.ref (s.heap.objs.size + 1)) →
      IsPair h' (s.heap.objs.size + 3) .none .none → h'.IsListIter s.heap.objs.size l 0 → h'.IsTupleIter (s.heap.objs.size + 1) t 0 → (∀ c o, s.heap.get? c = some o → h'.get? c = some o) → Q (.ref (s.heap.objs.size + 4)) { s with heap := h' }) :
    wpAny (model prog w) A (call (.type "zip") [.ref l, .ref t]) Q E s := by
  refine callType_new F.called_zip (by decide) (F.typeCall_zip_2 _ _) (F.newCall_zip_2 _ _) (fun obj => F.args_object_init_3 obj _ _) F.entry_zip_new (zipT_new l t xs ys) ⟨hl, ht, ?_⟩
  have z1 : (zt1 s.heap l).objs.size = s.heap.objs.size + 1 := Heap.size_push ..
  have z2 : (zt2 s.heap l t).objs.size = s.heap.objs.size + 2 := by rw [Heap.size_push, z1]
  have z3 : (zt3 s.heap l t).objs.size = s.heap.objs.size + 3 := by rw [Heap.size_push, z2]
  have z4 : (zt4 s.heap l t).objs.size = s.heap.objs.size + 4 := by rw [Heap.size_push, z3]
  have p5 : (zt5 s.heap l t).get? (zt4 s.heap l t).objs.size = some _ := Heap.get?_push_size _ rfl
  have p4 : (zt5 s.heap l t).get? (zt3 s.heap l t).objs.size = some _ := Heap.get?_push_of_some _ (Heap.get?_push_size _ rfl)
  have p3 : (zt5 s.heap l t).get? (zt2 s.heap l t).objs.size = some _ := Heap.get?_push_of_some _ (Heap.get?_push_of_some _ (Heap.get?_push_size _ rfl))
  have p2 : (zt5 s.heap l t).get? (zt1 s.heap l).objs.size = some _ := Heap.get?_push_of_some _ (Heap.get?_push_of_some _ (Heap.get?_push_of_some _ (Heap.get?_push_size _ rfl)))
  have p1 : (zt5 s.heap l t).get? s.heap.objs.size = some _ := Heap.get?_push_of_some _ (Heap.get?_push_of_some _ (Heap.get?_push_of_some _ (Heap.get?_push_of_some _ (Heap.get?_push_size _ rfl))))
  show _ ∧ _
  rw [z2, z3, z4] at p5
  rw [z1, z2] at p3
  rw [z3] at p4
  rw [z1] at p2
  rw [z4]
  exact ⟨⟨_, p5, rfl⟩, q _ p5 p3 p4 ⟨_, p1, rfl, rfl⟩ ⟨_, p2, rfl, rfl⟩ fun c o j => Heap.get?_push_of_some _ (Heap.get?_push_of_some _ (Heap.get?_push_of_some _ (Heap.get?_push_of_some _ (Heap.get?_push_of_some _ j))))⟩
end
def Izt (K : PySem.W.Frag) (a b : Addr) : It :=
  ⟨fun i H => ∃ xs ys x y, SqL K H a xs ∧ SqT K H b ys ∧ xs[i]? = some x ∧ ys[i]? = some y,
   fun i H v H' => ∃ p x y, v = .ref p ∧ H p = none ∧ (∀ xs, SqL K H a xs → xs[i]? = some x) ∧ (∀ ys, SqT K H b ys → ys[i]? = some y) ∧ H' = upd H p (.tup [x, y]),
   fun i H => ∃ xs, SqL K H a xs ∧ xs.length ≤ i⟩
theorem turn_zipT {P : Program} {w : World} {K : PySem.W.Frag} {elts : List Expr} {kk : Nat} {tpos : Pos} {a b z TI TO i1 i2 : Addr} (D : ZipApart z TI TO i1 i2 a b) :
    Turn P w K (.Tuple elts kk tpos) (Izt K a b) [z, TI, TO, i1, i2] z (fun i h => IsZip h z TI TO .none ∧ IsPair h TI (.ref i1) (.ref i2) ∧ (∃ u v, IsPair h TO u v) ∧ h.IsListIter i1 a i ∧ h.IsTupleIter i2 b i) where
  mem := by simp
  obj := fun i h st c hc => by
    obtain ⟨s1, s2, ⟨u, v, s3⟩, ⟨o4, s4, _, d4⟩, ⟨o5, s5, _, d5⟩⟩ := st
    simp only [List.mem_cons, List.not_mem_nil, or_false] at hc
    rcases hc with rfl | rfl | rfl | rfl | rfl
    · exact ⟨_, s1, fun v q => by cases q⟩
    · exact ⟨_, s2, fun v q => by cases q⟩
    · exact ⟨_, s3, fun v q => by cases q⟩
    · exact ⟨o4, s4, fun v q => by rw [d4] at q; cases q⟩
    · exact ⟨o5, s5, fun v q => by rw [d5] at q; cases q⟩
  keep := fun i h h' st k => by
    obtain ⟨s1, s2, ⟨u, v, s3⟩, s4, s5⟩ := st
    exact ⟨k z (by simp) _ s1, k TI (by simp) _ s2, ⟨u, v, k TO (by simp) _ s3⟩, s4.at fun o q => k i1 (by simp) o q, s5.at fun o q => k i2 (by simp) o q⟩
  item := by
    intro X hP hw hK hc i pins s σ H E I hf st hg
    subst hP hw hK
    obtain ⟨s1, s2, ⟨u, v, s3⟩, s4, s5⟩ := st
    obtain ⟨xs, ys, x, y, hq, hq', hx, hy⟩ := hg
    obtain ⟨its, rv, p, hz⟩ := I.list hq
    obtain ⟨its', rv', p', hz'⟩ := I.tuple hq'
    obtain ⟨ux, hux, rux⟩ := rv.get hx
    obtain ⟨uy, huy, ruy⟩ := rv'.get hy
    refine next_zipT D s1 s2 s3 s4 s5 p.isList (show s.heap.IsTuple b its'.toArray from p') (x := ux) (y := uy) (by simpa using hux) (by simpa using huy) fun h1 a1 a2 a3 a4 a5 a6 k1 => ⟨_, rfl, ?_⟩
    refine wpAny_letOwnedTupleGo_zip (s := { s with heap := h1 }) a1 fun h2 e2 sb => ?_
    have lt : ∀ c ob, s.heap.get? c = some ob → c ≠ s.heap.objs.size := fun c ob q => Nat.ne_of_lt (Heap.lt_size q)
    have zT : z ≠ s.heap.objs.size := lt z _ s1
    have k2 : ∀ c ob, c ∉ [z, TI, TO, i1, i2] → s.heap.get? c = some ob → h2.get? c = some ob := fun c ob hb q => by
      have n1 : c ≠ z := fun t => hb (by simp [t])
      exact (sb.2 c n1).trans (k1 c ob n1 (fun t => hb (by simp [t])) (fun t => hb (by simp [t])) (fun t => hb (by simp [t])) q)
    have new : ObjOk X.prog X.w (upd H s.heap.objs.size (.tup [x, y])) h2 s.heap.objs.size (.tup [x, y]) :=
      ⟨by show 2 ≤ sizeLine; decide, [ux, uy], .cons rux (.cons ruy .nil), ⟨_, (sb.2 _ (Ne.symm zT)).trans a5, rfl, _, rfl⟩⟩
    refine ⟨.ref s.heap.objs.size, _, I.turnLay (t' := s.toks) (d' := s.drawn) hf (Nat.le_refl _) k2 new, rfl, ⟨_, x, y, rfl, I.hok.fresh (Nat.le_refl _), fun zs hzs => by rw [I.list_inj hzs hq]; exact hx, fun zs hzs => by rw [I.tuple_inj hzs hq']; exact hy, rfl⟩,
      ⟨e2, (sb.2 _ D.TIz).trans (k1 _ _ D.TIz D.TITO D.TIi1 D.TIi2 s2), ⟨_, _, (sb.2 _ D.TOz).trans a2⟩, a3.at fun o q => (sb.2 _ D.i1z).trans q, a4.at fun o q => (sb.2 _ D.i2z).trans q⟩, fun c hc => ?_⟩
    have hcT : c ≠ s.heap.objs.size := by
      simp only [List.mem_cons, List.not_mem_nil, or_false] at hc
      rcases hc with rfl | rfl | rfl | rfl | rfl
      · exact zT
      · exact lt _ _ s2
      · exact lt _ _ s3
      · exact let ⟨o, q, _⟩ := s4; lt _ o q
      · exact let ⟨o, q, _⟩ := s5; lt _ o q
    rw [upd_ne hcT]
    exact (hf c hc).1
  done := by
    intro X hP hw hK hc i pins s σ H E I hf st hg
    subst hP hw hK
    obtain ⟨s1, s2, ⟨u, v, s3⟩, s4, s5⟩ := st
    obtain ⟨xs, hq, hx⟩ := hg
    obtain ⟨its, rv, p, hz⟩ := I.list hq
    refine next_zipT_end (I.ok.hd hc) D s1 s2 s3 s4 p.isList ?_ fun h1 k1 => ⟨rfl, I.turnedL (t' := s.toks) hf fun c ob hb q => k1 c ob (fun t => hb (by simp [t])) (fun t => hb (by simp [t])) (fun t => hb (by simp [t])) (fun t => hb (by simp [t])) q⟩
    rw [List.getElem?_toArray]; exact List.getElem?_eq_none (by rw [← rv.length]; exact hx)
  self := fun A i s Q E st q => wpAny_pyIter_zip st.1 q
def iZipT (K : PySem.W.Frag) (ta : TA) : TI := fun σ H R => ta σ H fun vs H1 => ∃ a b, vs = [.ref a, .ref b] ∧ (∃ xs, SqL K H1 a xs) ∧ (∃ ys, SqT K H1 b ys) ∧ R (Izt K a b) H1
theorem pi_zipT {X : Cx} {elts : List Expr} {kk : Nat} {tpos : Pos} {l r : Expr} {ta : TA} {p pos : Pos} (hg : Gl X "zip") (hm : X.mg "zip" = none) (ha : PA X [l, r] ta) (hs : starEach [l, r] X.env = [(false, eval l X.env), (false, eval r X.env)] := by rfl) (hs2 : starEach [r] X.env = [(false, eval r X.env)] := by rfl) :
    PI X (.Tuple elts kk tpos) (.Call (.Name "zip" p) [l, r] [] pos) (iZipT X.K ta) := by
  intro pins s σ H R I h
  refine Call_ (ld_blt I hg hm boot_zip (PyProof.Rows.callWith_type1 (thn (ha pos pins s σ H _ I h) fun us s1 ⟨vs, H1, I1, r1, q1⟩ => ?_) (by rw [hs, hs2]) (by rw [hs2]; rfl)))
  obtain ⟨a, b, rfl, ⟨xs, hq⟩, ⟨ys, hq'⟩, q⟩ := q1
  obtain ⟨u, u', rfl, ru, ru'⟩ := vals2 r1
  cases ru
  cases ru'
  obtain ⟨its, rv, pl, hz⟩ := I1.list hq
  obtain ⟨its', rv', pl', hz'⟩ := I1.tuple hq'
  have la : a < s1.heap.objs.size := let ⟨o, n, e, _⟩ := pl; Heap.lt_size e
  have lb : b < s1.heap.objs.size := let ⟨o, e, _⟩ := pl'; Heap.lt_size e
  refine call_zipT pl.isList (show s1.heap.IsTuple b its'.toArray from pl') fun h1 a1 a2 a3 a4 a5 k1 => ?_
  refine wpAny_pyIter_zip a1 ?_
  have I2 : Inv X pins σ H1 { s1 with heap := h1 } := I1.kept (t' := s1.toks) k1
  refine ⟨_, [s1.heap.objs.size + 4, s1.heap.objs.size + 2, s1.heap.objs.size + 3, s1.heap.objs.size, s1.heap.objs.size + 1], _, Izt X.K a b, H1, rfl, I2, turn_zipT (zipApart_new la lb), ⟨a1, a2, ⟨_, _, a3⟩, a4, a5⟩, fun c hc => ?_, q⟩
  have up : ∀ n, FpOk X pins H1 (s1.heap.objs.size + n) := fun n => I1.fpOk (Nat.le_add_right _ n) (I1.hok.fresh (Nat.le_add_right _ n))
  simp only [List.mem_cons, List.not_mem_nil, or_false] at hc
  rcases hc with rfl | rfl | rfl | rfl | rfl
  · exact up 4
  · exact up 2
  · exact up 3
  · exact up 0
  · exact up 1
/-- over the pairs of a list and a tuple of one length that stay as they are -/
theorem comp_zipT {K : PySem.W.Frag} {a b D : Addr} {xs ys : List V} {g : TG} {tt : TT} {te : TE} {σc : St} {H : Hp} {F : Hp → Prop} (hlen : xs.length = ys.length) (Pv : Nat → St → List V → Hp → Prop) (h0 : Pv 0 σc [] (upd H D (.lst [])))
    (hl : ∀ i σ zs H, i ≤ xs.length → Pv i σ zs H → SqL K H a xs ∧ SqT K H b ys ∧ H D = some (.lst zs) ∧ zs.length ≤ i) (hz : xs.length ≤ sizeLine)
    (hs : ∀ i x y σ zs H p, xs[i]? = some x → ys[i]? = some y → Pv i σ zs H → H p = none → g (.ref p) σ (upd H p (.tup [x, y])) fun σ2 H2 => tt σ2 H2 fun b H3 => if b = true then te σ2 H3 fun y H4 => H4 D = some (.lst zs) ∧ Pv (i + 1) σ2 (zs ++ [y]) (upd H4 D (.lst (zs ++ [y]))) else Pv (i + 1) σ2 zs H3)
    (hd : ∀ σ zs H, Pv xs.length σ zs H → F H) : tLoopC g tt te σc D (Izt K a b) H F := by
  refine ⟨fun i m σ zs H => m = xs.length - i ∧ i ≤ xs.length ∧ Pv i σ zs H, ⟨xs.length, by simp, Nat.zero_le _, h0⟩, ?_⟩
  rintro i m σ zs H ⟨rfl, hi, p⟩
  obtain ⟨q, q', hD, hy⟩ := hl i σ zs H hi p
  refine ⟨hD, ?_⟩
  by_cases hlt : i < xs.length
  · refine .inr ⟨⟨xs, ys, xs[i], ys[i]'(hlen ▸ hlt), q, q', by simp [hlt], by simp [hlen ▸ hlt]⟩, by omega, Pv (i + 1), fun σ' zs' H' p' => ⟨xs.length - (i + 1), by omega, rfl, hlt, p'⟩, fun v H' y => ?_⟩
    obtain ⟨pp, x, y, rfl, hn, hx, hy, rfl⟩ := y
    exact hs i x y σ zs H pp (hx xs q) (hy ys q') p hn
  · have e : i = xs.length := by omega
    subst e
    exact .inl ⟨⟨xs, q, Nat.le_refl _⟩, hd σ zs H p⟩
end L2

set_option Elab.async false
set_option linter.all false
set_option maxRecDepth 100000
set_option maxHeartbeats 4100000
namespace L2
open PySem PySem.Spec PyProof.Rows
/-! ### what is joined is split again -/
abbrev sg (x : Str) : List Nat := x.cps.toList
theorem sg_inj {a b : Str} (h : sg a = sg b) : a = b := Str.ext' (Array.toList_inj.mp h)
theorem sg_len (x : Str) : (sg x).length = x.length := Array.length_toList
theorem sg_app (a b : Str) : sg (a ++ b) = sg a ++ sg b := by
  show (a ++ b).cps.toList = _
  rw [Str.cps_append, Array.toList_append]
theorem sg_sub (s : Str) (i j : Nat) : sg (Builtin.Str.strSub s i j) = ((sg s).drop i).take (j - i) := StrLaws.strSub_toList s i j
theorem sg_join2 (sep p q : Str) (r : List Str) : sg (Str.join sep (p :: q :: r)) = sg p ++ (sg sep ++ sg (Str.join sep (q :: r))) := by
  show sg (p ++ sep ++ Str.join sep (q :: r)) = _
  rw [sg_app, sg_app, List.append_assoc]
theorem at_iff {x y : Str} {k : Nat} (hy : 1 ≤ y.length) : StrLaws.At x y x.length k ↔ ((sg x).drop k).take y.length = sg y := by
  unfold StrLaws.At
  rw [StrLaws.subAt_eq, beq_iff_eq]
  refine ⟨fun h => h.2, fun h => ⟨?_, h⟩⟩
  have hl := congrArg List.length h
  rw [List.length_take, List.length_drop, sg_len, sg_len] at hl
  omega
theorem at_char {x y : Str} {k o c : Nat} (h : StrLaws.At x y x.length k) (ho : (sg y)[o]? = some c) : (sg x)[k + o]? = some c := by
  have ho' : o < y.length := by
    have := (List.getElem?_eq_some_iff.mp ho).1
    rwa [sg_len] at this
  have e := (at_iff (by omega)).mp h
  rw [← e, List.getElem?_take_of_lt ho', List.getElem?_drop] at ho
  exact ho
theorem parts_of_join {sep : Str} {c o : Nat} (ho : (sg sep)[o]? = some c) (hu : ∀ j, (sg sep)[j]? = some c → j = o) (x : Str) : ∀ (parts : List Str), parts ≠ [] → (∀ p ∈ parts, c ∉ sg p) →
    ∀ (a : Nat), a ≤ x.length → (sg x).drop a = sg (Str.join sep parts) → ∀ (cuts : List Nat) (f : Nat), StrLaws.ChainG x sep x.length a cuts f → (∀ k, f ≤ k → ¬ StrLaws.At x sep x.length k) → StrLaws.partsFrom x sep.length a cuts = parts
  | [], hne, _, _, _, _, _, _, _, _ => absurd rfl hne
  | [p], _, hf, a, ha, hx, cuts, f, hc, hn => by
    have free : ∀ k, a ≤ k → ¬ StrLaws.At x sep x.length k := fun k hk hA => by
      have h1 := at_char hA ho
      have e : (sg x)[k + o]? = ((sg x).drop a)[k + o - a]? := by rw [List.getElem?_drop]; congr 1; omega
      rw [e, hx] at h1
      exact hf p (List.mem_singleton.mpr rfl) (List.mem_of_getElem? h1)
    cases cuts with
    | cons c0 r => exact absurd hc.2.1 (free c0 hc.1)
    | nil =>
      have e : Builtin.Str.strSub x a x.length = p := by
        apply sg_inj
        rw [sg_sub, hx]
        refine List.take_of_length_le ?_
        rw [← hx, List.length_drop, sg_len]
        omega
      show [Builtin.Str.strSub x a x.length] = [p]
      rw [e]
  | p :: q :: r, _, hf, a, ha, hx, cuts, f, hc, hn => by
    have hs1 : 1 ≤ sep.length := by
      have := (List.getElem?_eq_some_iff.mp ho).1
      rw [sg_len] at this
      omega
    rw [sg_join2] at hx
    have hd : (sg x).drop (a + p.length) = sg sep ++ sg (Str.join sep (q :: r)) := by
      rw [← List.drop_drop, hx, ← sg_len p, List.drop_left]
    have hA : StrLaws.At x sep x.length (a + p.length) := by
      rw [at_iff hs1, hd, ← sg_len sep, List.take_left]
    cases cuts with
    | nil =>
      have e : f = a := hc
      exact absurd hA (hn _ (by omega))
    | cons c0 r' =>
      have h1 : c0 ≤ a + p.length := Nat.le_of_not_lt fun z => hc.2.2.1 (a + p.length) (by omega) z hA
      have h2 : a + p.length ≤ c0 := Nat.le_of_not_lt fun z => by
        have h3 := at_char hc.2.1 ho
        have hac := hc.1
        have e : (sg x)[c0 + o]? = ((sg x).drop a)[c0 + o - a]? := by rw [List.getElem?_drop]; congr 1; omega
        rw [e, hx] at h3
        by_cases hj : c0 + o - a < (sg p).length
        · rw [List.getElem?_append_left hj] at h3
          exact hf p (List.mem_cons_self ..) (List.mem_of_getElem? h3)
        · rw [List.getElem?_append_right (by omega)] at h3
          have ho' := (List.getElem?_eq_some_iff.mp ho).1
          rw [sg_len] at hj h3
          rw [List.getElem?_append_left (by omega)] at h3
          have := hu _ h3
          omega
      have e0 : c0 = a + p.length := by omega
      subst e0
      have e1 : Builtin.Str.strSub x a (a + p.length) = p := by
        apply sg_inj
        rw [sg_sub, hx, Nat.add_sub_cancel_left, ← sg_len p, List.take_left]
      have e2 := parts_of_join ho hu x (q :: r) (by simp) (fun z hz => hf z (List.mem_cons_of_mem _ hz)) (a + p.length + sep.length) hA.1 (by rw [← List.drop_drop, hd, ← sg_len sep, List.drop_left]) r' f hc.2.2.2 hn
      show Builtin.Str.strSub x a (a + p.length) :: StrLaws.partsFrom x sep.length (a + p.length + sep.length) r' = _
      rw [e1, e2]
theorem kind_one (x : Str) : 1 ≤ Builtin.Str.strKind x := by
  unfold Builtin.Str.strKind
  split
  · exact Nat.le_refl _
  · split <;> decide
theorem split_join {sep : Str} {c o : Nat} (ho : (sg sep)[o]? = some c) (hu : ∀ j, (sg sep)[j]? = some c → j = o) (hk : Builtin.Str.strKind sep = 1) {parts : List Str} (hne : parts ≠ []) (hf : ∀ p ∈ parts, c ∉ sg p) : Txt.split (Str.join sep parts) sep = parts := by
  have hs1 : 1 ≤ sep.length := by
    have := (List.getElem?_eq_some_iff.mp ho).1
    rw [sg_len] at this
    omega
  obtain ⟨f, hc, hn⟩ := StrLaws.occ_tight (Str.join sep parts) sep hs1
  have key := parts_of_join ho hu (Str.join sep parts) parts hne hf 0 (Nat.zero_le _) (by rw [List.drop_zero]) _ f hc hn
  unfold Txt.split
  split
  · rename_i h
    match parts, hne, hf, key, h with
    | [p], _, _, _, _ => rfl
    | p :: q :: r, _, _, _, h =>
      exfalso
      have l1 := congrArg List.length (sg_join2 sep p q r)
      rw [List.length_append, List.length_append, sg_len, sg_len, sg_len, sg_len] at l1
      have k1 := kind_one (Str.join sep (p :: q :: r))
      rw [Bool.or_eq_true, decide_eq_true_eq, decide_eq_true_eq, hk] at h
      omega
  · split
    · rename_i h1 h2
      rw [List.isEmpty_iff.mp h2] at key
      have k2 : [Builtin.Str.strSub (Str.join sep parts) 0 (Str.join sep parts).length] = parts := key
      rw [StrLaws.sub_whole] at k2
      exact k2
    · rw [StrLaws.partsBetween_eq]
      exact key
theorem split_ne (z y : Str) : Txt.split z y ≠ [] := by
  unfold Txt.split
  split
  · simp
  · split
    · simp
    · rw [StrLaws.partsBetween_eq]
      obtain ⟨p, r, e⟩ := StrLaws.partsFrom_ne z y.length 0 (Builtin.Str.occurrences z y 0 z.length (z.length + 1))
      rw [e]; simp

/-! ### numbers written -/
abbrev numT (n : Int) : Str := (toString n : String)
def digs (m : Nat) : List Nat := (Nat.toDigits 10 m).map Char.toNat
theorem digs_lt {m : Nat} (h : m < 10) : digs m = [48 + m] := by
  unfold digs
  rw [Nat.toDigits_of_lt_base h]
  show [(Nat.digitChar m).toNat] = [48 + m]
  match m, h with
  | 0, _ => rfl | 1, _ => rfl | 2, _ => rfl | 3, _ => rfl | 4, _ => rfl | 5, _ => rfl | 6, _ => rfl | 7, _ => rfl | 8, _ => rfl | 9, _ => rfl
theorem digs_ge {m : Nat} (h : 10 ≤ m) : digs m = digs (m / 10) ++ [48 + m % 10] := by
  have hm : m % 10 < 10 := Nat.mod_lt m (by decide)
  have t : Nat.toDigits 10 (m / 10) ++ Nat.toDigits 10 (m % 10) = Nat.toDigits 10 (10 * (m / 10) + m % 10) := Nat.toDigits_append_toDigits (by decide) (by omega) hm
  rw [Nat.div_add_mod] at t
  have e := digs_lt hm
  unfold digs at e ⊢
  rw [← t, List.map_append, e]
theorem digs_all (m : Nat) : ∀ c ∈ digs m, 48 ≤ c ∧ c ≤ 57 := by
  induction m using Nat.strongRecOn with
  | _ m ih =>
    by_cases h : m < 10
    · rw [digs_lt h]
      intro c hc
      rw [List.mem_singleton.mp hc]
      omega
    · rw [digs_ge (by omega)]
      intro c hc
      rcases List.mem_append.mp hc with hc | hc
      · exact ih (m / 10) (by omega) c hc
      · rw [List.mem_singleton.mp hc]
        omega
theorem digs_ne (m : Nat) : digs m ≠ [] := by
  by_cases h : m < 10
  · rw [digs_lt h]; simp
  · rw [digs_ge (by omega)]; simp
theorem digs_len : ∀ (k m : Nat), m < 10 ^ (k + 1) → (digs m).length ≤ k + 1
  | 0, m, h => by rw [digs_lt (by simpa using h)]; exact Nat.le_refl _
  | k + 1, m, h => by
    by_cases c : m < 10
    · rw [digs_lt c]; simp
    · rw [digs_ge (by omega), List.length_append, List.length_singleton]
      have e : 10 ^ (k + 1 + 1) = 10 ^ (k + 1) * 10 := Nat.pow_succ ..
      have := digs_len k (m / 10) (by omega)
      omega
theorem digs_head (m : Nat) : 0 < m → (digs m).head? ≠ some 48 := by
  induction m using Nat.strongRecOn with
  | _ m ih =>
    intro h0
    by_cases h : m < 10
    · rw [digs_lt h]
      intro e
      have := Option.some.inj e
      omega
    · rw [digs_ge (by omega)]
      have := ih (m / 10) (by omega) (by omega)
      cases e : digs (m / 10) with
      | nil => exact absurd e (digs_ne _)
      | cons d r => rw [e] at this; exact this
theorem sg_pos (m : Nat) : sg (numT (m : Int)) = digs m := PySem.W.KIN.signs_num m
theorem sg_neg (k : Nat) : sg (numT (Int.negSucc k)) = 45 :: digs (k + 1) := by
  show (Str.ofString (toString (Int.negSucc k))).cps.toList = _
  rw [signs_ofString]
  have e : (toString (Int.negSucc k) : String) = "-" ++ Nat.repr (k + 1) := rfl
  rw [e]
  unfold digs
  rw [← Nat.toList_repr]
  simp
theorem num_val (m : Nat) : NumText.digitsVal (digs m) = m := PySem.W.KIN.val_back m
theorem num_back (n : Int) (h : n.natAbs < 10 ^ 60) : intText? (numT n) = some n := by
  cases n with
  | ofNat m =>
    have hl : (numT (m : Int)).length ≤ 60 := by
      rw [← sg_len, sg_pos]
      exact digs_len 59 m h
    have e := intText_digits (x := numT (m : Int)) (by rw [show (numT (m : Int)).cps.toList = digs m from sg_pos m]; exact digs_all m) (by rw [show (numT (m : Int)).cps.toList = digs m from sg_pos m]; exact digs_ne m) (by omega)
    rw [show (numT (m : Int)).cps.toList = digs m from sg_pos m, num_val] at e
    exact e
  | negSucc k =>
    have hl : (numT (Int.negSucc k)).length ≤ 61 := by
      rw [← sg_len, sg_neg, List.length_cons]
      have := digs_len 59 (k + 1) h
      omega
    have e := intText_neg (x := numT (Int.negSucc k)) (cs := digs (k + 1)) (sg_neg k) (digs_all _) (digs_ne _) (by omega)
    rw [num_val] at e
    exact e
theorem num_len (n : Int) (h : n.natAbs < 10 ^ 60) : (numT n).length ≤ 61 := by
  cases n with
  | ofNat m =>
    rw [← sg_len, show sg (numT (Int.ofNat m)) = digs m from sg_pos m]
    exact Nat.le_succ_of_le (digs_len 59 m h)
  | negSucc k =>
    rw [← sg_len, sg_neg, List.length_cons]
    exact Nat.succ_le_succ (digs_len 59 (k + 1) h)
theorem log_small (n : Int) (h : n.natAbs < 10 ^ 60) : n.natAbs.log2 < 1920 := by
  by_cases c : n.natAbs = 0
  · rw [c]; decide
  · rw [Nat.log2_lt c]
    exact Nat.lt_of_lt_of_le h (by decide +kernel)

/-! ### what a word, a deed, a hand is -/
abbrev FIG : Str := "0123456789"
abbrev LET : Str := "abcdefghijklmnopqrstuvwxyz"
theorem fig_mem (c : Nat) : c ∈ sg FIG ↔ 48 ≤ c ∧ c ≤ 57 := by
  have e : sg FIG = [48, 49, 50, 51, 52, 53, 54, 55, 56, 57] := by decide +kernel
  rw [e]
  simp only [List.mem_cons, List.not_mem_nil, or_false]
  omega
theorem let_mem (c : Nat) : c ∈ sg LET ↔ 97 ≤ c ∧ c ≤ 122 := by
  have e : sg LET = [97, 98, 99, 100, 101, 102, 103, 104, 105, 106, 107, 108, 109, 110, 111, 112, 113, 114, 115, 116, 117, 118, 119, 120, 121, 122] := by decide +kernel
  rw [e]
  simp only [List.mem_cons, List.not_mem_nil, or_false]
  omega
def madeOf (z s : Str) (m : Int) : Bool := decide ((1 : Int) ≤ z.length) && decide ((z.length : Int) ≤ m) && (sg z).all fun c => decide (c ∈ sg s)
def figT (z : Str) : Str := if Txt.startswith z "-" = true then Txt.slice z (some 1) none else z
def isNum (z : Str) : Bool := madeOf (figT z) FIG 60 && (decide (z = "0") || !Txt.startswith (figT z) "0")
def isNam (z : Str) : Bool := madeOf z LET 8
theorem sw_one (z : Str) (c : Nat) : Txt.startswith z ⟨#[c]⟩ = decide ((sg z).head? = some c) := by
  have h := StrLaws.subAt_one z c 0
  have e : (sg z).head? = z.cps.toList[0]? := List.head?_eq_getElem? ..
  rw [e]
  unfold Txt.startswith
  by_cases k : z.cps.toList[0]? = some c
  · rw [decide_eq_true k]
    have := h.mpr k
    rw [Bool.and_eq_true, decide_eq_true_eq]
    exact this
  · rw [decide_eq_false k, Bool.eq_false_iff]
    intro q
    rw [Bool.and_eq_true, decide_eq_true_eq] at q
    exact k (h.mp q)
theorem sw_minus (z : Str) : Txt.startswith z "-" = decide ((sg z).head? = some 45) := sw_one z 45
theorem sw_nought (z : Str) : Txt.startswith z "0" = decide ((sg z).head? = some 48) := sw_one z 48
theorem slice_none (l : Option Int) (n : Nat) : Builtin.Str.strSliceIndices l none 1 n = Builtin.Str.strSliceIndices l (some (n : Int)) 1 n := by
  unfold Builtin.Str.strSliceIndices
  have e : (max 0 (min (if (n : Int) < 0 then (n : Int) + (n : Int) else (n : Int)) (n : Int))) = (n : Int) := by
    rw [if_neg (by omega)]; omega
  simp only [show (1 : Int) > 0 by decide, if_true, e]
theorem slice_one {z : Str} (hz : 1 ≤ z.length) : sg (Txt.slice z (some 1) none) = (sg z).drop 1 := by
  unfold Txt.slice
  have e := StrLaws.strSliceIndices_plain (a := 1) (b := z.length) (len := z.length) hz (Nat.le_refl _)
  have p := StrLaws.sliced_plain z (a := 1) (b := z.length) hz (Nat.le_refl _)
  rw [slice_none]
  have e1 : ((1 : Nat) : Int) = 1 := rfl
  rw [e1] at e p
  split
  · rename_i h
    rw [e, List.length_map, List.length_range] at h
    simp at h
    omega
  · show ((List.filterMap _ _).toArray).toList = _
    rw [p, List.toList_toArray]
    refine List.take_of_length_le ?_
    rw [List.length_drop]
    exact Nat.sub_le_sub_right (by rw [← sg_len]; exact Nat.le_refl _) _
theorem isNum_num (n : Int) (h : n.natAbs < 10 ^ 60) : isNum (numT n) = true := by
  have made : ∀ {z : Str} {m : Nat}, sg z = digs m → m < 10 ^ 60 → madeOf z FIG 60 = true := fun {z m} e hm => by
    have l1 := digs_len 59 m hm
    have l2 : (digs m).length ≠ 0 := fun k => digs_ne m (List.length_eq_zero_iff.mp k)
    unfold madeOf
    rw [← sg_len, e, Bool.and_eq_true, Bool.and_eq_true, decide_eq_true_eq, decide_eq_true_eq, List.all_eq_true]
    exact ⟨⟨by omega, by omega⟩, fun c hc => decide_eq_true ((fig_mem c).mpr (digs_all m c hc))⟩
  unfold isNum
  cases n with
  | ofNat m =>
    have e : sg (numT (Int.ofNat m)) = digs m := sg_pos m
    have hfig : figT (numT (Int.ofNat m)) = numT (Int.ofNat m) := by
      unfold figT
      rw [sw_minus, e, if_neg]
      intro k
      have k' := of_decide_eq_true k
      have := digs_all m 45 (List.mem_of_mem_head? k')
      omega
    rw [hfig, made e h, Bool.true_and, sw_nought, e]
    by_cases h0 : m = 0
    · subst h0; rfl
    · rw [decide_eq_false (digs_head m (by omega))]
      simp
  | negSucc k =>
    have e := sg_neg k
    have hl : 1 ≤ (numT (Int.negSucc k)).length := by rw [← sg_len, e]; simp
    have hfig : sg (figT (numT (Int.negSucc k))) = digs (k + 1) := by
      unfold figT
      rw [sw_minus, e, if_pos (by rfl), slice_one hl, e]
      rfl
    rw [made hfig h, Bool.true_and, sw_nought, hfig, decide_eq_false (digs_head _ (by omega))]
    simp
theorem nam_signs {z : Str} (h : isNam z = true) : 1 ≤ z.length ∧ z.length ≤ 8 ∧ ∀ c ∈ sg z, 97 ≤ c ∧ c ≤ 122 := by
  unfold isNam madeOf at h
  rw [Bool.and_eq_true, Bool.and_eq_true, decide_eq_true_eq, decide_eq_true_eq, List.all_eq_true] at h
  obtain ⟨⟨h1, h2⟩, h3⟩ := h
  exact ⟨by omega, by omega, fun c hc => (let_mem c).mp (of_decide_eq_true (h3 c hc))⟩
theorem nam_of {z : Str} (h1 : 1 ≤ z.length) (h2 : z.length ≤ 8) (h3 : ∀ c ∈ sg z, 97 ≤ c ∧ c ≤ 122) : isNam z = true := by
  unfold isNam madeOf
  rw [Bool.and_eq_true, Bool.and_eq_true, decide_eq_true_eq, decide_eq_true_eq, List.all_eq_true]
  exact ⟨⟨by omega, by omega⟩, fun c hc => decide_eq_true ((let_mem c).mpr (h3 c hc))⟩
theorem isNum_nam {z : Str} (h : isNam z = true) : isNum z = false := by
  obtain ⟨h1, h2, h3⟩ := nam_signs h
  have hne : sg z ≠ [] := fun k => by have := congrArg List.length k; rw [sg_len] at this; simp at this; omega
  obtain ⟨c, r, e⟩ : ∃ c r, sg z = c :: r := List.exists_cons_of_ne_nil hne
  have hc := h3 c (by rw [e]; exact List.mem_cons_self ..)
  have hfig : figT z = z := by
    unfold figT
    rw [sw_minus, e, if_neg]
    intro k
    have := Option.some.inj (of_decide_eq_true k)
    omega
  unfold isNum
  rw [hfig]
  have : madeOf z FIG 60 = false := by
    unfold madeOf
    rw [e, List.all_cons, decide_eq_false (p := c ∈ sg FIG) (fun k => by have := (fig_mem c).mp k; omega)]
    simp
  rw [this]; rfl
end L2

set_option Elab.async false
set_option linter.all false
set_option maxRecDepth 100000
set_option maxHeartbeats 4100000
namespace Own
open PySem L2
/-! ### words, deeds, hands, programs and their texts -/
inductive Wd where
  | s (x : Str)
  | n (i : Int)
def Wd.v : Wd → V | .s x => .str x | .n i => .int i
def Wd.t : Wd → Str | .s x => x | .n i => numT i
def Wd.ok : Wd → Prop | .s x => isNam x = true | .n i => i.natAbs < 10 ^ 60
def SH : List (Str × List Str) := [("put", ["name", "number"]), ("get", ["name", "name"]), ("swap", ["name", "name", "number"]), ("fence", []), ("bar", [])]
def fitsT (ws ks : List Str) : Bool := decide (ws.length = ks.length) && (ws.zip ks).all fun p => if p.2 = "number" then isNum p.1 else isNam p.1
def isGuardT (ws : List Str) : Bool := match ws with
  | [] => true
  | w :: r => (decide (w = "when") || decide (w = "unless")) && fitsT r ["name", "number"]
def isDeedT (z : Str) : Bool := match Txt.split z " " with
  | [] => false
  | w :: r => match atTab SH w with
    | none => false
    | some sh => fitsT (r.take sh.length) sh && isGuardT (r.drop sh.length)
def isHandT (z : Str) : Bool := decide (z = "idle") || (Txt.split z "; ").all isDeedT
def FitsW : List Wd → List Str → Prop
  | [], [] => True
  | w :: ws, k :: ks => (if k = "number" then ∃ i, w = .n i ∧ i.natAbs < 10 ^ 60 else ∃ x, w = .s x ∧ isNam x = true) ∧ FitsW ws ks
  | _, _ => False
structure DOk (ws g : List Wd) : Prop where
  d : ∃ k sh rest, ws = .s k :: rest ∧ atTab SH k = some sh ∧ FitsW rest sh
  g : g = [] ∨ ∃ w rest, g = .s w :: rest ∧ (w = "when" ∨ w = "unless") ∧ FitsW rest ["name", "number"]
abbrev Dat := List Wd × List Wd
def wtx (d : Dat) : List Str := (d.1 ++ d.2).map Wd.t
def dtx (d : Dat) : Str := Str.join " " (wtx d)
def htx (ds : List Dat) : Str := if ds.isEmpty = true then "idle" else Str.join "; " (ds.map dtx)
def ptx (hs : List (List Dat)) : Str := Str.join " | " (hs.map htx)
theorem FitsW.ok : ∀ {ws : List Wd} {ks : List Str}, FitsW ws ks → ∀ w ∈ ws, w.ok
  | w :: ws, k :: ks, h, u, hu => by
    rcases List.mem_cons.mp hu with rfl | hu
    · have h1 := h.1
      split at h1
      · obtain ⟨i, rfl, hi⟩ := h1; exact hi
      · obtain ⟨x, rfl, hx⟩ := h1; exact hx
    · exact FitsW.ok h.2 u hu
  | [], _, _, _, hu => by cases hu
  | _ :: _, [], h, _, _ => h.elim
theorem FitsW.len : ∀ {ws : List Wd} {ks : List Str}, FitsW ws ks → ws.length = ks.length
  | [], [], _ => rfl
  | w :: ws, k :: ks, h => by rw [List.length_cons, List.length_cons, FitsW.len h.2]
  | [], _ :: _, h => h.elim
  | _ :: _, [], h => h.elim
theorem fits_all : ∀ {ws : List Wd} {ks : List Str}, FitsW ws ks → ((ws.map Wd.t).zip ks).all (fun p => if p.2 = "number" then isNum p.1 else isNam p.1) = true
  | [], [], _ => rfl
  | w :: ws, k :: ks, h => by
    rw [List.map_cons, List.zip_cons_cons, List.all_cons, fits_all h.2, Bool.and_true]
    have h1 := h.1
    show (if k = "number" then isNum w.t else isNam w.t) = true
    split
    · rename_i e
      rw [if_pos e] at h1
      obtain ⟨i, rfl, hi⟩ := h1
      exact isNum_num i hi
    · rename_i e
      rw [if_neg e] at h1
      obtain ⟨x, rfl, hx⟩ := h1
      exact hx
  | [], _ :: _, h => h.elim
  | _ :: _, [], h => h.elim
theorem fits_true {ws : List Wd} {ks : List Str} (h : FitsW ws ks) : fitsT (ws.map Wd.t) ks = true := by
  unfold fitsT
  rw [fits_all h, List.length_map, decide_eq_true h.len]; rfl
theorem sh_cases {k : Str} {sh : List Str} (h : atTab SH k = some sh) : (k, sh) ∈ SH := by
  unfold atTab at h
  cases e : SH.find? fun p => decide (k = p.1) with
  | none => rw [e] at h; cases h
  | some p =>
    rw [e] at h
    have h1 := List.mem_of_find?_eq_some e
    have h2' := List.find?_some e
    have h2 : k = p.1 := of_decide_eq_true h2'
    have h3 : p.2 = sh := Option.some.inj h
    rw [h2, ← h3]; exact h1
theorem nam_kinds : ∀ p ∈ SH, isNam p.1 = true ∧ p.2.length ≤ 3 ∧ (sg p.1).head? ≠ some 105 := by decide +kernel
theorem nam_guards : isNam "when" = true ∧ isNam "unless" = true := by decide +kernel
theorem DOk.ok {ws g : List Wd} (h : DOk ws g) : ∀ w ∈ ws ++ g, w.ok := by
  intro w hw
  rcases List.mem_append.mp hw with hw | hw
  · obtain ⟨k, sh, rest, rfl, h2, h3⟩ := h.d
    rcases List.mem_cons.mp hw with rfl | hw
    · exact (nam_kinds _ (sh_cases h2)).1
    · exact h3.ok w hw
  · rcases h.g with rfl | ⟨k, rest, rfl, h2, h3⟩
    · cases hw
    · rcases List.mem_cons.mp hw with rfl | hw
      · rcases h2 with rfl | rfl
        · exact nam_guards.1
        · exact nam_guards.2
      · exact h3.ok w hw
theorem DOk.len {ws g : List Wd} (h : DOk ws g) : 1 ≤ ws.length ∧ (ws ++ g).length ≤ 7 := by
  obtain ⟨k, sh, rest, rfl, h2, h3⟩ := h.d
  have l1 := h3.len
  have l2 := (nam_kinds _ (sh_cases h2)).2.1
  have l2' : sh.length ≤ 3 := l2
  rw [List.length_append, List.length_cons]
  rcases h.g with rfl | ⟨w, r, rfl, _, h4⟩
  · simp; omega
  · have l3 := h4.len
    rw [List.length_cons]
    simp at l3
    omega
theorem ok_signs {w : Wd} (h : w.ok) : 1 ≤ w.t.length ∧ w.t.length ≤ 61 ∧ ∀ c ∈ sg w.t, c = 45 ∨ (48 ≤ c ∧ c ≤ 57) ∨ (97 ≤ c ∧ c ≤ 122) := by
  cases w with
  | s x =>
    obtain ⟨h1, h2, h3⟩ := nam_signs h
    exact ⟨h1, Nat.le_trans h2 (by decide), fun c hc => .inr (.inr (h3 c hc))⟩
  | n i =>
    refine ⟨?_, num_len i h, fun c hc => ?_⟩
    · show 1 ≤ (numT i).length
      rw [← sg_len]
      cases i with
      | ofNat m =>
        have e : sg (numT (Int.ofNat m)) = digs m := sg_pos m
        rw [e]
        exact List.length_pos_iff.mpr (digs_ne m)
      | negSucc k => rw [sg_neg]; simp
    · cases i with
      | ofNat m =>
        have e : sg (numT (Int.ofNat m)) = digs m := sg_pos m
        have hc' : c ∈ sg (numT (Int.ofNat m)) := hc
        rw [e] at hc'
        exact .inr (.inl (digs_all m c hc'))
      | negSucc k =>
        have hc' : c ∈ sg (numT (Int.negSucc k)) := hc
        rw [sg_neg] at hc'
        rcases List.mem_cons.mp hc' with hc' | hc'
        · exact .inl hc'
        · exact .inr (.inl (digs_all _ c hc'))
theorem join_mem {sep : Str} {c : Nat} : ∀ {parts : List Str}, c ∈ sg (Str.join sep parts) → c ∈ sg sep ∨ ∃ p ∈ parts, c ∈ sg p
  | [], h => by
    have h' : c ∈ ([] : List Nat) := h
    cases h'
  | [p], h => .inr ⟨p, List.mem_singleton.mpr rfl, h⟩
  | p :: q :: r, h => by
    rw [sg_join2] at h
    rcases List.mem_append.mp h with h | h
    · exact .inr ⟨p, List.mem_cons_self .., h⟩
    · rcases List.mem_append.mp h with h | h
      · exact .inl h
      · rcases join_mem h with h | ⟨z, hz, h⟩
        · exact .inl h
        · exact .inr ⟨z, List.mem_cons_of_mem _ hz, h⟩
theorem join_len {sep : Str} {parts : List Str} {B : Nat} (h : ∀ p ∈ parts, p.length ≤ B) : (Str.join sep parts).length ≤ parts.length * B + parts.length * sep.length :=
  Nat.le_trans (StrLaws.join_length_le sep parts) (Nat.add_le_add_right (StrLaws.sumLen_le parts h) _)
abbrev DOkD (d : Dat) : Prop := DOk d.1 d.2
theorem sp_sg : sg (" " : Str) = [32] := by decide +kernel
theorem sc_sg : sg ("; " : Str) = [59, 32] := by decide +kernel
theorem bl_sg : sg (" | " : Str) = [32, 124, 32] := by decide +kernel
theorem wtx_ok {d : Dat} (h : DOkD d) : ∀ p ∈ wtx d, 1 ≤ p.length ∧ p.length ≤ 61 ∧ ∀ c ∈ sg p, c = 45 ∨ (48 ≤ c ∧ c ≤ 57) ∨ (97 ≤ c ∧ c ≤ 122) := by
  intro p hp
  obtain ⟨w, hw, rfl⟩ := List.mem_map.mp hp
  exact ok_signs (h.ok w hw)
theorem wtx_len {d : Dat} (h : DOkD d) : 1 ≤ (wtx d).length ∧ (wtx d).length ≤ 7 := by
  obtain ⟨h1, h2⟩ := h.len
  unfold wtx
  rw [List.length_map]
  rw [List.length_append] at h2 ⊢
  omega
theorem dtx_split {d : Dat} (h : DOkD d) : Txt.split (dtx d) " " = wtx d := by
  refine split_join (c := 32) (o := 0) (by rw [sp_sg]; rfl) (fun j hj => ?_) (by decide +kernel) (fun e => ?_) fun p hp hc => ?_
  · rw [sp_sg] at hj
    cases j with
    | zero => rfl
    | succ j => simp at hj
  · have := (wtx_len h).1
    rw [e] at this
    simp at this
  · have := (wtx_ok h p hp).2.2 32 hc
    omega
theorem dtx_signs {d : Dat} (h : DOkD d) : ∀ c ∈ sg (dtx d), c = 32 ∨ c = 45 ∨ (48 ≤ c ∧ c ≤ 57) ∨ (97 ≤ c ∧ c ≤ 122) := by
  intro c hc
  rcases join_mem hc with hc | ⟨p, hp, hc⟩
  · rw [sp_sg] at hc
    exact .inl (List.mem_singleton.mp hc)
  · exact .inr ((wtx_ok h p hp).2.2 c hc)
theorem dtx_len {d : Dat} (h : DOkD d) : (dtx d).length ≤ 500 := by
  have h1 := join_len (sep := " ") fun p hp => (wtx_ok h p hp).2.1
  have h2 := (wtx_len h).2
  have h3 : (" " : Str).length = 1 := rfl
  rw [h3] at h1
  unfold dtx
  omega
theorem dtx_head {d : Dat} (h : DOkD d) : (sg (dtx d)).head? ≠ some 105 := by
  obtain ⟨k, sh, rest, e, h2, h3⟩ := h.d
  have hk := nam_kinds _ (sh_cases h2)
  obtain ⟨l1, _, _⟩ := nam_signs hk.1
  have hne : sg k ≠ [] := fun z => by have := congrArg List.length z; rw [sg_len] at this; simp at this; have : 1 ≤ k.length := l1; omega
  obtain ⟨c, r, ec⟩ := List.exists_cons_of_ne_nil hne
  have hc : c ≠ 105 := fun z => hk.2.2 (by show (sg k).head? = _; rw [ec, z]; rfl)
  have : ∃ r', sg (dtx d) = c :: r' := by
    unfold dtx wtx
    rw [e]
    show ∃ r', sg (Str.join " " (k :: (rest ++ d.2).map Wd.t)) = c :: r'
    cases (rest ++ d.2).map Wd.t with
    | nil => exact ⟨r, ec⟩
    | cons q z => rw [sg_join2, ec]; exact ⟨_, rfl⟩
  obtain ⟨r', e'⟩ := this
  rw [e']
  intro z
  exact hc (Option.some.inj z)
theorem isDeed_dtx {d : Dat} (h : DOkD d) : isDeedT (dtx d) = true := by
  unfold isDeedT
  rw [dtx_split h]
  obtain ⟨k, sh, rest, e, h2, h3⟩ := h.d
  have ew : wtx d = k :: (rest.map Wd.t ++ d.2.map Wd.t) := by
    unfold wtx
    rw [e, List.cons_append, List.map_cons, List.map_append]; rfl
  rw [ew]
  have l1 : (rest.map Wd.t).length = sh.length := by rw [List.length_map, h3.len]
  show (match atTab SH k with | none => false | some sh => fitsT ((rest.map Wd.t ++ d.2.map Wd.t).take sh.length) sh && isGuardT ((rest.map Wd.t ++ d.2.map Wd.t).drop sh.length)) = true
  rw [h2]
  show (fitsT ((rest.map Wd.t ++ d.2.map Wd.t).take sh.length) sh && isGuardT ((rest.map Wd.t ++ d.2.map Wd.t).drop sh.length)) = true
  rw [← l1, List.take_left, List.drop_left, fits_true h3, Bool.true_and]
  rcases h.g with e | ⟨w, r, e, hw, h4⟩
  · rw [e]; rfl
  · rw [e]
    show ((decide (w = "when") || decide (w = "unless")) && fitsT (r.map Wd.t) ["name", "number"]) = true
    rw [fits_true h4, Bool.and_true]
    rcases hw with rfl | rfl <;> simp
theorem htx_split {ds : List Dat} (h : ∀ d ∈ ds, DOkD d) (hne : ds ≠ []) : htx ds = Str.join "; " (ds.map dtx) ∧ Txt.split (htx ds) "; " = ds.map dtx := by
  have e : htx ds = Str.join "; " (ds.map dtx) := by
    unfold htx
    rw [if_neg]
    intro z
    exact hne (List.isEmpty_iff.mp z)
  refine ⟨e, ?_⟩
  rw [e]
  refine split_join (c := 59) (o := 0) (by rw [sc_sg]; rfl) (fun j hj => ?_) (by decide +kernel) (by simpa using hne) fun p hp hc => ?_
  · rw [sc_sg] at hj
    match j, hj with
    | 0, _ => rfl
    | 1, hj => simp at hj
    | j + 2, hj => simp at hj
  · obtain ⟨d, hd, rfl⟩ := List.mem_map.mp hp
    have := dtx_signs (h d hd) 59 hc
    omega
theorem idle_sg : sg ("idle" : Str) = [105, 100, 108, 101] := by decide +kernel
theorem htx_signs {ds : List Dat} (h : ∀ d ∈ ds, DOkD d) : ∀ c ∈ sg (htx ds), c ≠ 124 := by
  intro c hc
  cases ds with
  | nil =>
    have hc' : c ∈ sg ("idle" : Str) := hc
    rw [idle_sg] at hc'
    simp at hc'
    omega
  | cons d ds =>
    rw [(htx_split h (by simp)).1] at hc
    rcases join_mem hc with hc | ⟨p, hp, hc⟩
    · rw [sc_sg] at hc
      simp at hc
      omega
    · obtain ⟨d', hd, rfl⟩ := List.mem_map.mp hp
      have := dtx_signs (h d' hd) c hc
      omega
theorem htx_not {ds : List Dat} (h : ∀ d ∈ ds, DOkD d) (hne : ds ≠ []) : htx ds ≠ "idle" := by
  intro e
  rw [(htx_split h hne).1] at e
  cases ds with
  | nil => exact hne rfl
  | cons d ds =>
    have h1 := dtx_head (h d (List.mem_cons_self ..))
    have h2 := congrArg sg e
    rw [idle_sg] at h2
    cases ds with
    | nil =>
      have h3 : sg (dtx d) = [105, 100, 108, 101] := h2
      rw [h3] at h1
      exact h1 rfl
    | cons d2 ds =>
      rw [List.map_cons, List.map_cons, sg_join2] at h2
      cases e3 : sg (dtx d) with
      | nil =>
        have := wtx_len (h d (List.mem_cons_self ..))
        obtain ⟨k, sh, rest, ee, _, _⟩ := (h d (List.mem_cons_self ..)).d
        rw [e3, List.nil_append, sc_sg] at h2
        simp at h2
      | cons c r =>
        rw [e3] at h1 h2
        have : c = 105 := by
          have := List.cons.inj h2
          exact this.1
        exact h1 (by rw [this]; rfl)
theorem htx_len {ds : List Dat} (h : ∀ d ∈ ds, DOkD d) (h40 : ds.length ≤ 40) : (htx ds).length ≤ 20100 := by
  cases ds with
  | nil => show ("idle" : Str).length ≤ 20100; exact (by decide : 4 ≤ 20100)
  | cons d ds =>
    rw [(htx_split h (by simp)).1]
    have h1 := join_len (sep := "; ") (parts := (d :: ds).map dtx) (B := 500) fun p hp => by
      obtain ⟨d', hd, rfl⟩ := List.mem_map.mp hp
      exact dtx_len (h d' hd)
    have h3 : ("; " : Str).length = 2 := rfl
    rw [h3, List.length_map] at h1
    omega
theorem isHand_htx {ds : List Dat} (h : ∀ d ∈ ds, DOkD d) : isHandT (htx ds) = true := by
  unfold isHandT
  cases ds with
  | nil => rfl
  | cons d ds =>
    rw [(htx_split h (by simp)).2, List.all_eq_true.mpr, Bool.or_true]
    intro z hz
    obtain ⟨d', hd, rfl⟩ := List.mem_map.mp hz
    exact isDeed_dtx (h d' hd)
theorem ptx_split {hs : List (List Dat)} (h : ∀ ds ∈ hs, ∀ d ∈ ds, DOkD d) (hne : hs ≠ []) : Txt.split (ptx hs) " | " = hs.map htx := by
  refine split_join (c := 124) (o := 1) (by rw [bl_sg]; rfl) (fun j hj => ?_) (by decide +kernel) (by simpa using hne) fun p hp hc => ?_
  · rw [bl_sg] at hj
    match j, hj with
    | 0, hj => simp at hj
    | 1, _ => rfl
    | 2, hj => simp at hj
    | j + 3, hj => simp at hj
  · obtain ⟨ds, hd, rfl⟩ := List.mem_map.mp hp
    exact htx_signs (h ds hd) 124 hc rfl
theorem ptx_len {hs : List (List Dat)} (h : ∀ ds ∈ hs, ∀ d ∈ ds, DOkD d) (h6 : hs.length ≤ 6) (h40 : ∀ ds ∈ hs, ds.length ≤ 40) : (ptx hs).length ≤ 130000 := by
  have h1 := join_len (sep := " | ") (parts := hs.map htx) (B := 20100) fun p hp => by
    obtain ⟨ds, hd, rfl⟩ := List.mem_map.mp hp
    exact htx_len (h ds hd) (h40 ds hd)
  have h3 : (" | " : Str).length = 3 := rfl
  rw [h3, List.length_map] at h1
  unfold ptx
  omega
end Own

set_option Elab.async false
set_option linter.all false
set_option maxRecDepth 100000
set_option maxHeartbeats 4100000
namespace Own
open PySem L2
def top (i : Nat) : Stmt := PySem.Challenge.pw_latewrite_k04_whole_texts_read_again.main.body.getD i (.Pass ⟨0, 0, 0, 0⟩)
abbrev s_guardof : Stmt := top 1
abbrev s_read : Stmt := top 16
abbrev s_shown : Stmt := top 17
abbrev s_showhand : Stmt := top 18
abbrev s_showdeed : Stmt := top 19
abbrev s_ishand : Stmt := top 20
abbrev s_isdeed : Stmt := top 21
abbrev s_deedsize : Stmt := top 22
abbrev s_isguard : Stmt := top 23
abbrev s_fits : Stmt := top 24
abbrev s_isname : Stmt := top 25
abbrev s_isnumber : Stmt := top 26
abbrev s_madeof : Stmt := top 27
abbrev s_readhand : Stmt := top 28
abbrev s_readdeed : Stmt := top 29
abbrev s_Lcellat : Stmt := top 31
abbrev s_Lpart : Stmt := top 32
abbrev s_Lname : Stmt := top 33
abbrev s_Lnames : Stmt := top 34
abbrev s_Lnumber : Stmt := top 35
abbrev s_Ldeed : Stmt := top 36
abbrev s_Lprogram : Stmt := top 37
abbrev s_Lwritten : Stmt := top 38
abbrev s_Lword : Stmt := top 39
abbrev s_Lalike : Stmt := top 40
abbrev s_law : Stmt := top 41
structure Txt (K : PySem.W.Frag) (mg : Str → Option Value) : Prop where
  n_all : mg "all" = none
  n_bool : mg "bool" = none
  n_enumerate : mg "enumerate" = none
  n_int : mg "int" = none
  n_isinstance : mg "isinstance" = none
  n_len : mg "len" = none
  n_list : mg "list" = none
  n_ord : mg "ord" = none
  n_range : mg "range" = none
  n_str : mg "str" = none
  n_sum : mg "sum" = none
  n_tuple : mg "tuple" = none
  n_zip : mg "zip" = none
  g_FIGURES : ∃ u, mg "FIGURES" = some u ∧ RelV (.str "0123456789") u
  g_GUARD_SHAPE : ∃ a, mg "GUARD_SHAPE" = some (.ref a) ∧ KTup K a ["name", "number"]
  g_GUARD_WORDS : ∃ a, mg "GUARD_WORDS" = some (.ref a) ∧ KTup K a ["when", "unless"]
  g_LETTERS : ∃ u, mg "LETTERS" = some u ∧ RelV (.str "abcdefghijklmnopqrstuvwxyz") u
  g_MOST_DEEDS : ∃ u, mg "MOST_DEEDS" = some u ∧ RelV (.int 40) u
  g_MOST_FIGURES : ∃ u, mg "MOST_FIGURES" = some u ∧ RelV (.int 60) u
  g_MOST_HANDS : ∃ u, mg "MOST_HANDS" = some u ∧ RelV (.int 6) u
  g_MOST_LETTERS : ∃ u, mg "MOST_LETTERS" = some u ∧ RelV (.int 8) u
  g_SHAPES : ∃ a, mg "SHAPES" = some (.ref a) ∧ KTab K a [("put", ["name", "number"]), ("get", ["name", "name"]), ("swap", ["name", "name", "number"]), ("fence", []), ("bar", [])]
/-! ### what stands in the heap -/
structure Dd where
  a : Addr
  d : Dat
def isG (K : PySem.W.Frag) (H : Hp) (gv : V) (g : List Wd) : Prop := (g = [] ∧ gv = .non) ∨ (g ≠ [] ∧ ∃ q, gv = .ref q ∧ SqT K H q (g.map Wd.v))
structure IsD (K : PySem.W.Frag) (H : Hp) (x : Dd) : Prop where
  t : ∃ gv, SqT K H x.a (x.d.1.map Wd.v ++ [gv]) ∧ isG K H gv x.d.2
  ok : DOkD x.d
structure IsH (K : PySem.W.Frag) (H : Hp) (a : Addr) (ds : List Dd) : Prop where
  l : SqL K H a (ds.map fun x => V.ref x.a)
  dd : ∀ x ∈ ds, IsD K H x
  n : ds.length ≤ 40
abbrev Hands := List (Addr × List Dd)
structure IsP (K : PySem.W.Frag) (H : Hp) (p : Addr) (hs : Hands) : Prop where
  l : SqL K H p (hs.map fun h => V.ref h.1)
  hh : ∀ h ∈ hs, IsH K H h.1 h.2
  n : hs.length ≤ 6
def dat (ds : List Dd) : List Dat := ds.map (·.d)
def pdat (hs : Hands) : List (List Dat) := hs.map fun h => dat h.2
section
variable {K : PySem.W.Frag} {H H' : Hp}
theorem isG.same {gv : V} {g : List Wd} (s : Same H H') (h : isG K H gv g) : isG K H' gv g := by
  rcases h with h | ⟨h1, q, h2, h3⟩
  · exact .inl h
  · exact .inr ⟨h1, q, h2, s.seqT h3⟩
theorem isG.lset {gv : V} {g : List Wd} {l : Addr} {xs ys : List V} (hl : H l = some (.lst xs)) (h : isG K H gv g) : isG K (upd H l (.lst ys)) gv g := by
  rcases h with h | ⟨h1, q, h2, h3⟩
  · exact .inl h
  · exact .inr ⟨h1, q, h2, SqT.lset hl h3⟩
theorem IsD.same {x : Dd} (s : Same H H') (h : IsD K H x) : IsD K H' x := by
  obtain ⟨⟨gv, h1, h2⟩, h3⟩ := h
  exact ⟨⟨gv, s.seqT h1, h2.same s⟩, h3⟩
theorem IsD.lset {x : Dd} {l : Addr} {xs ys : List V} (hl : H l = some (.lst xs)) (h : IsD K H x) : IsD K (upd H l (.lst ys)) x := by
  obtain ⟨⟨gv, h1, h2⟩, h3⟩ := h
  exact ⟨⟨gv, SqT.lset hl h1, h2.lset hl⟩, h3⟩
theorem IsH.same {a : Addr} {ds : List Dd} (s : Same H H') (h : IsH K H a ds) : IsH K H' a ds := ⟨s.seq h.l, fun x hx => (h.dd x hx).same s, h.n⟩
theorem IsP.same {p : Addr} {hs : Hands} (s : Same H H') (h : IsP K H p hs) : IsP K H' p hs := ⟨s.seq h.l, fun x hx => (h.hh x hx).same s, h.n⟩
theorem IsH.ok {a : Addr} {ds : List Dd} (h : IsH K H a ds) : ∀ d ∈ dat ds, DOkD d := fun d hd => by
  obtain ⟨x, hx, rfl⟩ := List.mem_map.mp hd
  exact (h.dd x hx).ok
theorem IsP.ok {p : Addr} {hs : Hands} (h : IsP K H p hs) : ∀ ds ∈ pdat hs, ∀ d ∈ ds, DOkD d := fun ds hd => by
  obtain ⟨x, hx, rfl⟩ := List.mem_map.mp hd
  exact (h.hh x hx).ok
theorem IsP.n40 {p : Addr} {hs : Hands} (h : IsP K H p hs) : ∀ ds ∈ pdat hs, ds.length ≤ 40 := fun ds hd => by
  obtain ⟨x, hx, rfl⟩ := List.mem_map.mp hd
  show (dat x.2).length ≤ 40
  unfold dat
  rw [List.length_map]
  exact (h.hh x hx).n
theorem refs_get {α : Type} {xs : List α} {f : α → V} {i : Nat} {v : V} (h : (xs.map f)[i]? = some v) : ∃ x, xs[i]? = some x ∧ v = f x := by
  rw [List.getElem?_map] at h
  cases e : xs[i]? with
  | none => rw [e] at h; cases h
  | some x => rw [e] at h; exact ⟨x, rfl, (Option.some.inj h).symm⟩
theorem take_map_succ {α β : Type} {f : α → β} {xs : List α} {i : Nat} {x : α} (h : xs[i]? = some x) : (xs.take (i + 1)).map f = (xs.take i).map f ++ [f x] := by
  rw [List.take_add_one, h, List.map_append]; rfl
theorem take_map_all {α β : Type} {f : α → β} {xs : List α} {ys : List β} (h : ys.length = xs.length) : (xs.take ys.length).map f = xs.map f := by
  rw [h, List.take_of_length_le (Nat.le_refl _)]
end
theorem cut_front (ws : List V) (gv : V) : cutV (ws ++ [gv]) none (some (-1)) = ws := by
  unfold cutV
  have e1 : HT.sIx (ws ++ [gv]).length 0 none = 0 := rfl
  have e2 : HT.sIx (ws ++ [gv]).length (ws ++ [gv]).length (some (-1)) = ws.length := by
    have e3 : HT.sIx (ws ++ [gv]).length (ws ++ [gv]).length (some (-1)) = ((-1 : Int) + ((ws ++ [gv]).length : Int)).toNat := by unfold HT.sIx; exact if_pos (by decide)
    rw [e3, List.length_append, List.length_singleton]
    omega
  rw [e1, e2, List.drop_zero, Nat.sub_zero, List.take_left]
theorem cut_from (xs : List V) (k : Nat) : cutV xs (some (k : Int)) none = xs.drop k := by
  unfold cutV
  have e1 : HT.sIx xs.length 0 (some (k : Int)) = min k xs.length := HT.sIx_nat ..
  have e2 : HT.sIx xs.length xs.length none = xs.length := rfl
  rw [e1, e2]
  by_cases c : k ≤ xs.length
  · rw [Nat.min_eq_left c]
    exact List.take_of_length_le (by rw [List.length_drop]; exact Nat.le_refl _)
  · rw [Nat.min_eq_right (by omega), List.drop_of_length_le (Nat.le_refl _), List.drop_of_length_le (by omega)]
    simp
theorem cut_to (xs : List V) (k : Nat) : cutV xs none (some (k : Int)) = xs.take k := by
  unfold cutV
  have e1 : HT.sIx xs.length 0 none = 0 := rfl
  have e2 : HT.sIx xs.length xs.length (some (k : Int)) = min k xs.length := HT.sIx_nat ..
  rw [e1, e2, List.drop_zero, Nat.sub_zero]
  by_cases c : k ≤ xs.length
  · rw [Nat.min_eq_left c]
  · rw [Nat.min_eq_right (by omega), List.take_of_length_le (Nat.le_refl _), List.take_of_length_le (by omega)]
theorem cut_mid (xs : List V) (k : Nat) (h : 1 ≤ xs.length) : cutV xs (some 1) (some (1 + (k : Int))) = (xs.drop 1).take k := by
  unfold cutV
  have e0 : (1 : Int) + (k : Int) = ((1 + k : Nat) : Int) := by omega
  have e1 : HT.sIx xs.length 0 (some 1) = min 1 xs.length := HT.sIx_nat (k := 1) ..
  have e2 : HT.sIx xs.length xs.length (some ((1 + k : Nat) : Int)) = min (1 + k) xs.length := HT.sIx_nat ..
  rw [e0, e1, e2, Nat.min_eq_left h]
  by_cases c : 1 + k ≤ xs.length
  · rw [Nat.min_eq_left c, Nat.add_sub_cancel_left]
  · rw [Nat.min_eq_right (by omega), List.take_of_length_le (by rw [List.length_drop]; exact Nat.le_refl _), List.take_of_length_le (by rw [List.length_drop]; omega)]
/-! ### the promises -/
def sp_guardof (K : PySem.W.Frag) : Sp := fun vs H Q _ => ∃ (p : Addr) (xs : List V) (gv : V), vs = [.ref p] ∧ SqT K H p (xs ++ [gv]) ∧ Q gv H
def sp_showdeed (K : PySem.W.Frag) : Sp := fun vs H Q _ => ∃ (x : Dd), vs = [.ref x.a] ∧ IsD K H x ∧ ∀ H', Same H H' → Q (.str (dtx x.d)) H'
def sp_showhand (K : PySem.W.Frag) : Sp := fun vs H Q _ => ∃ (a : Addr) (ds : List Dd), vs = [.ref a] ∧ IsH K H a ds ∧ ∀ H', Same H H' → Q (.str (htx (dat ds))) H'
def sp_shown (K : PySem.W.Frag) : Sp := fun vs H Q _ => ∃ (p : Addr) (hs : Hands), vs = [.ref p] ∧ IsP K H p hs ∧ ∀ H', Same H H' → Q (.str (ptx (pdat hs))) H'
def sp_madeof (K : PySem.W.Frag) : Sp := fun vs H Q _ => ∃ (z s : Str) (m : Int), vs = [.str z, .str s, .int m] ∧ z.length ≤ 200000 ∧ ∀ H', Same H H' → Q (.bl (madeOf z s m)) H'
def sp_isname (K : PySem.W.Frag) : Sp := fun vs H Q _ => ∃ (z : Str), vs = [.str z] ∧ z.length ≤ 200000 ∧ ∀ H', Same H H' → Q (.bl (isNam z)) H'
def sp_isnumber (K : PySem.W.Frag) : Sp := fun vs H Q _ => ∃ (z : Str), vs = [.str z] ∧ z.length ≤ 200000 ∧ ∀ H', Same H H' → Q (.bl (isNum z)) H'
def sp_fits (K : PySem.W.Frag) : Sp := fun vs H Q _ => ∃ (a t : Addr) (ws ks : List Str), vs = [.ref a, .ref t] ∧ SqL K H a (ws.map V.str) ∧ SqT K H t (ks.map V.str) ∧ ws.length ≤ 200000 ∧ (∀ w ∈ ws, w.length ≤ 200000) ∧ ∀ H', Same H H' → Q (.bl (fitsT ws ks)) H'
def sp_deedsize (K : PySem.W.Frag) : Sp := fun vs H Q _ => ∃ (a : Addr) (w : Str) (ws sh : List Str), vs = [.ref a] ∧ SqL K H a ((w :: ws).map V.str) ∧ atTab SH w = some sh ∧ Q (.int (1 + (sh.length : Int))) H
def sp_isguard (K : PySem.W.Frag) : Sp := fun vs H Q _ => ∃ (a : Addr) (ws : List Str), vs = [.ref a] ∧ SqL K H a (ws.map V.str) ∧ ws.length ≤ 200000 ∧ (∀ w ∈ ws, w.length ≤ 200000) ∧ ∀ H', Same H H' → Q (.bl (isGuardT ws)) H'
def sp_isdeed (K : PySem.W.Frag) : Sp := fun vs H Q _ => ∃ (z : Str), vs = [.str z] ∧ z.length ≤ 190000 ∧ ∀ H', Same H H' → Q (.bl (isDeedT z)) H'
def sp_ishand (K : PySem.W.Frag) : Sp := fun vs H Q _ => ∃ (z : Str), vs = [.str z] ∧ z.length ≤ 190000 ∧ ∀ H', Same H H' → Q (.bl (isHandT z)) H'
section
variable {P : Program} {w : World} {K : PySem.W.Frag} {mg : Str → Option Value} {base : Heap}
theorem sc_guardof : FnScope ["deed"] ["deed"] (defScope s_guardof) := ⟨rfl, rfl, rfl, by decide +kernel, rfl, by decide +kernel, by decide +kernel⟩
theorem ok_guardof {f : Addr} {fd : FuncData} (F : Fun K "guard_of" "guard_of" s_guardof f fd) (T : Txt K mg)  : FnOk P w K mg base CX0 1 f fd ["deed"] (sp_guardof K) := by
  refine F.ok (k := 0) sc_guardof (fun vs H Q E h => ?_) (fun cdv A outer s H vs Q E hr h => ?_)
  · obtain ⟨p, xs, gv, rfl, _⟩ := h
    rfl
  · obtain ⟨p, xs, gv, rfl, hS, q⟩ := h
    refine ⟨_, (pss_one (ps_ret (pe_ix ix_tup (pv 0) (pe_un un_neg pe_int) (fun _ _ => rfl)))), ?_⟩
    exact ⟨_, rfl, _, rfl, p, _, _, _, rfl, rfl, hS, atI_last xs gv, q⟩
theorem sc_madeof : FnScope ["word", "signs", "most"] ["word", "signs", "most"] (defScope s_madeof) := ⟨rfl, rfl, rfl, by decide +kernel, rfl, by decide +kernel, by decide +kernel⟩
theorem ok_madeof {f : Addr} {fd : FuncData} (F : Fun K "made_of" "made_of" s_madeof f fd) (T : Txt K mg)  : FnOk P w K mg base CX0 1 f fd ["word", "signs", "most"] (sp_madeof K) := by
  refine F.ok (k := 0) sc_madeof (fun vs H Q E h => ?_) (fun cdv A outer s H vs Q E hr h => ?_)
  · obtain ⟨z, s, m, rfl, _⟩ := h
    rfl
  · obtain ⟨z, s, m, rfl, hz, q⟩ := h
    refine ⟨_, (pss_one (ps_ret (pe_and (pe_chain op_le op_le pe_int (pe_callB call_len_str rfl T.n_len bt_len (pa_cons (pv 0) pa_nil)) (pv 2)) (pe_one (pe_callB (call_all_bools rfl) rfl T.n_all bt_all (pa_cons (pe_comp (Nc := ["sign", "signs"]) (nt := 1) (js := [1]) rfl ⟨rfl, rfl, rfl, rfl, (.cons rfl .nil), rfl, ⟨["sign"], ["signs"], rfl, rfl, (.cons rfl rfl rfl .nil)⟩⟩ (pi_text (pv 0)) (fun C s3 H3 fp pins => ⟨(pg_name (i := 0) (show (["sign", "signs"] : List Str).Nodup by decide +kernel) rfl (Or.inl rfl)), pts_nil, (pe_cmpR op_in_str (pv 0) (pv 1) (by with_unfolding_all rfl))⟩)) pa_nil)))))), ?_⟩
    refine ⟨_, rfl, z, rfl, Nat.le_of_lt (big_ok hz), _, _, rfl, rfl, _, rfl, ite2 (fun c1 => ⟨_, rfl, _, _, rfl, rfl, _, rfl, ite2 (fun c2 => ?_) (fun c2 => ?_)⟩) (fun c1 => ⟨_, rfl, iteF ?_⟩)⟩
    · refine ⟨_, rfl, z, rfl, fun D hD => comp_text (fun i σ ys H' => Same H H' ∧ H' D = some (.lst ys) ∧ ys = ((sg z).take i).map (fun c => V.bl (decide (c ∈ sg s))) ∧ ∃ v, σ = [v, some (.str s)]) ?_ ?_ ?_ ?_ ?_⟩
      · exact ⟨Same.new hD, upd_same, rfl, none, rfl⟩
      · rintro i σ ys H' hi ⟨s1, hD', rfl, v, rfl⟩
        refine ⟨hD', ?_⟩
        rw [List.length_map, List.length_take]
        omega
      · exact Nat.le_of_lt (big_ok hz)
      · rintro i c σ ys H' hc ⟨s1, hD', rfl, v, rfl⟩
        have hc' : (sg z)[i]? = some c := by rw [show (sg z)[i]? = z.cps[i]? from Array.getElem?_toList]; exact hc
        refine ⟨_, rfl, _, rfl, _, _, rfl, rfl, hD', Same.at hD s1, upd_same, ?_, _, rfl⟩
        rw [take_map_succ hc', StrLaws.found_one]
      · rintro σ ys H' ⟨s1, hD', rfl, v, rfl⟩
        refine ⟨D, (sg z).map (fun c => decide (c ∈ sg s)), rfl, ?_, ?_⟩
        · rw [List.map_map]
          have e : ((sg z).take z.cps.size).map (fun c => V.bl (decide (c ∈ sg s))) = (sg z).map (fun c => V.bl (decide (c ∈ sg s))) := by
            rw [List.take_of_length_le (by rw [sg_len]; exact Nat.le_refl _)]
          rw [e] at hD'
          exact SqL.of hD'
        · refine qb (q _ s1) ?_
          unfold madeOf
          rw [c1, c2, List.all_map]
          rfl
    · refine qb (q _ (Same.refl _)) ?_
      unfold madeOf
      rw [c1, Bool.eq_false_iff.mpr c2]
      rfl
    · refine qb (q _ (Same.refl _)) ?_
      unfold madeOf
      rw [Bool.eq_false_iff.mpr c1]
      rfl
theorem sc_isname : FnScope ["word"] ["word"] (defScope s_isname) := ⟨rfl, rfl, rfl, by decide +kernel, rfl, by decide +kernel, by decide +kernel⟩
theorem ok_isname {f : Addr} {fd : FuncData} (F : Fun K "is_name" "is_name" s_isname f fd) (T : Txt K mg) (h_madeof : Has P w K mg base 1 "made_of" ["word", "signs", "most"] (sp_madeof K)) : FnOk P w K mg base CX0 2 f fd ["word"] (sp_isname K) := by
  refine F.ok (k := 1) sc_isname (fun vs H Q E h => ?_) (fun cdv A outer s H vs Q E hr h => ?_)
  · obtain ⟨z, rfl, _⟩ := h
    rfl
  · obtain ⟨z, rfl, hz, q⟩ := h
    refine ⟨_, (pss_one (ps_ret (pe_fn h_madeof (hr.mono (by decide)) (pa_cons (pv 0) (pa_cons (pe_globI rfl T.g_LETTERS) (pa_cons (pe_globI rfl T.g_MOST_LETTERS) pa_nil)))))), ?_⟩
    exact ⟨_, rfl, z, LET, 8, rfl, hz, q⟩
theorem sc_isnumber : FnScope ["word", "figures"] ["word"] (defScope s_isnumber) := ⟨rfl, rfl, rfl, by decide +kernel, rfl, by decide +kernel, by decide +kernel⟩
theorem ok_isnumber {f : Addr} {fd : FuncData} (F : Fun K "is_number" "is_number" s_isnumber f fd) (T : Txt K mg) (h_madeof : Has P w K mg base 1 "made_of" ["word", "signs", "most"] (sp_madeof K)) : FnOk P w K mg base CX0 2 f fd ["word"] (sp_isnumber K) := by
  refine F.ok (k := 1) sc_isnumber (fun vs H Q E h => ?_) (fun cdv A outer s H vs Q E hr h => ?_)
  · obtain ⟨z, rfl, _⟩ := h
    rfl
  · obtain ⟨z, rfl, hz, q⟩ := h
    refine ⟨_, (pss_cons (ps_set (i := 1) sc_isnumber.nd rfl (Or.inl rfl) (pe_cut (pe_ifExp (pt_val (pe_bm PySem.F.plainAttrs_str PySem.F.slot_str_startswith PySem.F.type_str_startswith mt_startswith (pv 0) (pa_cons pe_str pa_nil))) (pe_slice sl_str (pv 0) (po_some pe_int) po_none) (pv 0))))
      (pss_cons (ps_if (pt_not (pt_val (pe_fn h_madeof (hr.mono (by decide)) (pa_cons (pv 1) (pa_cons (pe_globI rfl T.g_FIGURES) (pa_cons (pe_globI rfl T.g_MOST_FIGURES) pa_nil))))))
      (pss_one (ps_ret pe_bl))
      pss_nil)
      (pss_one (ps_ret (pe_or (pe_cmpR op_eq (pv 0) pe_str (nomark _)) (pe_one (pe_not (pe_bm PySem.F.plainAttrs_str PySem.F.slot_str_startswith PySem.F.type_str_startswith mt_startswith (pv 1) (pa_cons pe_str pa_nil))))))))), ?_⟩
    refine ⟨fun v H' => H' = H ∧ v = .str (figT z), ?_, ?_⟩
    · refine ⟨_, rfl, rfl, z, "-", rfl, rfl, _, rfl, ifB (fun c => ?_) (fun c => ?_)⟩
      · refine ⟨_, rfl, _, rfl, z, rfl, Nat.le_of_lt (big_ok hz), rfl, ?_⟩
        unfold figT
        rw [if_pos c]
      · refine ⟨_, rfl, rfl, ?_⟩
        unfold figT
        rw [if_neg (by rw [c]; decide)]
    · rintro v H' ⟨rfl, rfl⟩
      have hfl : (figT z).length ≤ 200000 := by
        unfold figT
        split
        · exact Nat.le_trans (Txt.slice_le z _ _) hz
        · exact hz
      refine ⟨_, rfl, figT z, FIG, 60, rfl, hfl, fun H1 s1 => ⟨_, rfl, ifB (fun c => ?_) (fun c => ?_)⟩⟩
      · refine qb (q _ s1) ?_
        unfold isNum
        have c' : madeOf (figT z) FIG 60 = false := by simpa using c
        rw [c']; rfl
      · have c' : madeOf (figT z) FIG 60 = true := by simpa using c
        refine ⟨_, rfl, rfl, _, rfl, ifB (fun c2 => ?_) (fun c2 => ?_)⟩
        · refine qb (q _ s1) ?_
          unfold isNum
          rw [c', decide_eq_true (by simpa using c2)]; rfl
        · refine ⟨_, rfl, rfl, figT z, "0", rfl, rfl, _, rfl, ?_⟩
          refine qb (q _ s1) ?_
          unfold isNum
          rw [c', decide_eq_false (by simpa using c2)]; rfl
theorem sc_fits : FnScope ["words", "shape"] ["words", "shape"] (defScope s_fits) := ⟨rfl, rfl, rfl, by decide +kernel, rfl, by decide +kernel, by decide +kernel⟩
theorem ok_fits {f : Addr} {fd : FuncData} (F : Fun K "fits" "fits" s_fits f fd) (T : Txt K mg) (h_isnumber : Has P w K mg base 2 "is_number" ["word"] (sp_isnumber K)) (h_isname : Has P w K mg base 2 "is_name" ["word"] (sp_isname K)) : FnOk P w K mg base CX0 3 f fd ["words", "shape"] (sp_fits K) := by
  refine F.ok (k := 2) sc_fits (fun vs H Q E h => ?_) (fun cdv A outer s H vs Q E hr h => ?_)
  · obtain ⟨a, t, ws, ks, rfl, _⟩ := h
    rfl
  · obtain ⟨a, t, ws, ks, rfl, hL, hT, hn, hw, q⟩ := h
    refine ⟨_, (pss_cons (ps_if (pt_cmpR op_ne (pe_callB call_len_seq rfl T.n_len bt_len (pa_cons (pv 0) pa_nil)) (pe_callB call_len_seq rfl T.n_len bt_len (pa_cons (pv 1) pa_nil)) (nomark _))
      (pss_one (ps_ret pe_bl))
      pss_nil)
      (pss_one (ps_ret (pe_callB (call_all_bools rfl) rfl T.n_all bt_all (pa_cons (pe_comp (Nc := ["word", "kind"]) (nt := 2) (js := []) rfl ⟨rfl, rfl, rfl, rfl, .nil, rfl, ⟨["word", "kind"], [], rfl, rfl, .nil⟩⟩ (pi_zipT rfl T.n_zip (pa_cons (pv 0) (pa_cons (pv 1) pa_nil))) (fun C s3 H3 fp pins => ⟨(pg_tupK (K := K) 2 rfl rfl (pgs_cons (pg_name (i := 0) (show (["word", "kind"] : List Str).Nodup by decide +kernel) rfl (Or.inl rfl) (hf := Or.inr rfl)) (pgs_cons (pg_name (i := 1) (show (["word", "kind"] : List Str).Nodup by decide +kernel) rfl (Or.inl rfl) (hf := Or.inr rfl)) pgs_nil)) rfl rfl), pts_nil, (pe_cut (pe_ifExp (pt_cmpR op_eq (pv 1) pe_str (nomark _)) (pe_fn h_isnumber (hr.mono (by decide)) (pa_cons (pv 0) pa_nil)) (pe_fn h_isname (hr.mono (by decide)) (pa_cons (pv 0) pa_nil))))⟩)) pa_nil))))), ?_⟩
    refine ⟨_, rfl, a, _, rfl, .inl hL, _, rfl, t, _, rfl, .inr hT, rfl, _, rfl, ifB (fun c => ?_) (fun c => ?_)⟩
    · refine qb (q _ (Same.refl _)) ?_
      unfold fitsT
      rw [List.length_map, List.length_map] at c
      rw [decide_eq_false (fun z => by rw [z] at c; simp at c)]; rfl
    · rw [List.length_map, List.length_map] at c
      have hlen : ws.length = ks.length := by
        have c' : decide (V.int (ws.length : Int) = V.int (ks.length : Int)) = true := by simpa using c
        have := V.int.inj (of_decide_eq_true c')
        omega
      refine ⟨_, rfl, _, rfl, a, t, rfl, ⟨_, hL⟩, ⟨_, hT⟩, fun D hD => comp_zipT (xs := ws.map V.str) (ys := ks.map V.str) (by rw [List.length_map, List.length_map, hlen]) (fun i σ ys H' => Same H H' ∧ H' D = some (.lst ys) ∧ ys = ((ws.zip ks).take i).map (fun (p : Str × Str) => V.bl (if p.2 = "number" then isNum p.1 else isNam p.1)) ∧ ∃ v1 v2, σ = [v1, v2]) ?_ ?_ ?_ ?_ ?_⟩
      · exact ⟨Same.new hD, upd_same, rfl, none, none, rfl⟩
      · rintro i σ ys H' hi ⟨s1, hD', rfl, v1, v2, rfl⟩
        refine ⟨s1.seq hL, s1.seqT hT, hD', ?_⟩
        rw [List.length_map, List.length_take]
        omega
      · rw [List.length_map]; exact Nat.le_of_lt (big_ok hn)
      · rintro i x y σ ys H' pp hx hy ⟨s1, hD', rfl, v1, v2, rfl⟩ hpp
        obtain ⟨wx, hwx, rfl⟩ := refs_get hx
        obtain ⟨ky, hky, rfl⟩ := refs_get hy
        have s2 : Same H' (upd H' pp (.tup [.str wx, .str ky])) := Same.new hpp
        have hz : (ws.zip ks)[i]? = some (wx, ky) := by rw [List.getElem?_zip_eq_some]; exact ⟨hwx, hky⟩
        have hwl := hw wx (List.mem_of_getElem? hwx)
        refine ⟨pp, _, rfl, SqT.new, rfl, _, _, rfl, _, _, rfl, rfl, ?_⟩
        refine ⟨fun v H2 => Same H' H2 ∧ v = .bl (if ky = "number" then isNum wx else isNam wx), ?_, ?_⟩
        · refine ⟨_, rfl, rfl, _, rfl, ifB (fun c2 => ?_) (fun c2 => ?_)⟩
          · refine ⟨_, rfl, wx, rfl, hwl, fun H2 s3 => ⟨s2.trans s3, ?_⟩⟩
            rw [if_pos (by simpa using c2)]
          · refine ⟨_, rfl, wx, rfl, hwl, fun H2 s3 => ⟨s2.trans s3, ?_⟩⟩
            rw [if_neg (by simpa using c2)]
        · rintro v H2 ⟨s3, rfl⟩
          refine ⟨s3 _ _ hD', Same.at hD (s1.trans s3), upd_same, ?_, _, _, rfl⟩
          rw [take_map_succ hz]
      · rintro σ ys H' ⟨s1, hD', rfl, v1, v2, rfl⟩
        refine ⟨D, (ws.zip ks).map (fun (p : Str × Str) => if p.2 = "number" then isNum p.1 else isNam p.1), rfl, ?_, ?_⟩
        · rw [List.map_map]
          have e : (ws.zip ks).take (ws.map V.str).length = ws.zip ks := List.take_of_length_le (by rw [List.length_map, List.length_zip, hlen]; omega)
          rw [e] at hD'
          exact SqL.of hD'
        · refine qb (q _ s1) ?_
          unfold fitsT
          rw [decide_eq_true hlen, List.all_map, Bool.true_and]
          rfl
theorem sc_deedsize : FnScope ["words"] ["words"] (defScope s_deedsize) := ⟨rfl, rfl, rfl, by decide +kernel, rfl, by decide +kernel, by decide +kernel⟩
theorem ok_deedsize {f : Addr} {fd : FuncData} (F : Fun K "deed_size" "deed_size" s_deedsize f fd) (T : Txt K mg)  : FnOk P w K mg base CX0 1 f fd ["words"] (sp_deedsize K) := by
  refine F.ok (k := 0) sc_deedsize (fun vs H Q E h => ?_) (fun cdv A outer s H vs Q E hr h => ?_)
  · obtain ⟨a, w, ws, sh, rfl, _⟩ := h
    rfl
  · obtain ⟨a, w, ws, sh, rfl, hL, hsh, q⟩ := h
    obtain ⟨ag_SHAPES, mg_SHAPES, kt_SHAPES⟩ := T.g_SHAPES
    refine ⟨_, (pss_one (ps_ret (pe_op op_add pe_int (pe_callB call_len_seq rfl T.n_len bt_len (pa_cons (pe_tab (pe_glob (v := .ref ag_SHAPES) rfl mg_SHAPES rfl) (pe_ix ix_list (pv 0) pe_int (fun _ _ => rfl)) (fun _ _ => rfl)) pa_nil))))), ?_⟩
    have hn : sh.length ≤ 3 := (nam_kinds _ (sh_cases hsh)).2.1
    refine ⟨_, rfl, a, _, _, _, rfl, rfl, hL, at0, ag_SHAPES, SH, w, sh, rfl, rfl, kt_SHAPES, hsh, by omega, fun t ht => ⟨t, _, rfl, .inr ht, _, _, rfl, rfl, ?_⟩⟩
    rw [List.length_map]
    exact q
theorem inV_two (w : Str) : inV (.str w) [.str "when", .str "unless"] = (decide (w = "when") || decide (w = "unless")) := by
  have e : ∀ k : Str, eqV (.str k) (.str w) = decide (w = k) := fun k => by
    show (k == w) = decide (w = k)
    by_cases c : w = k
    · rw [c, decide_eq_true rfl, beq_self_eq_true]
    · rw [decide_eq_false c, beq_eq_false_iff_ne.mpr fun z => c z.symm]
  unfold inV
  rw [List.any_cons, List.any_cons, List.any_nil, e, e, Bool.or_false]
theorem sc_isguard : FnScope ["words"] ["words"] (defScope s_isguard) := ⟨rfl, rfl, rfl, by decide +kernel, rfl, by decide +kernel, by decide +kernel⟩
theorem ok_isguard {f : Addr} {fd : FuncData} (F : Fun K "is_guard" "is_guard" s_isguard f fd) (T : Txt K mg) (h_fits : Has P w K mg base 3 "fits" ["words", "shape"] (sp_fits K)) : FnOk P w K mg base CX0 4 f fd ["words"] (sp_isguard K) := by
  refine F.ok (k := 3) sc_isguard (fun vs H Q E h => ?_) (fun cdv A outer s H vs Q E hr h => ?_)
  · obtain ⟨a, ws, rfl, _⟩ := h
    rfl
  · obtain ⟨a, ws, rfl, hL, hn, hw, q⟩ := h
    obtain ⟨ag_GUARD_WORDS, mg_GUARD_WORDS, kt_GUARD_WORDS⟩ := T.g_GUARD_WORDS
    obtain ⟨ag_GUARD_SHAPE, mg_GUARD_SHAPE, kt_GUARD_SHAPE⟩ := T.g_GUARD_SHAPE
    refine ⟨_, (pss_one (ps_ret (pe_or (pe_cmpR (op_eqC (hu_deep hr)) (pv 0) (pe_lst pa_nil) (nomark _)) (pe_one (pe_and (pe_cmpR op_in_seq (pe_ix ix_list (pv 0) pe_int (fun _ _ => rfl)) (pe_glob (v := .ref ag_GUARD_WORDS) rfl mg_GUARD_WORDS rfl) (by with_unfolding_all rfl)) (pe_one (pe_fn h_fits (hr.mono (by decide)) (pa_cons (pe_slice sl_list (pv 0) (po_some pe_int) po_none) (pa_cons (pe_glob (v := .ref ag_GUARD_SHAPE) rfl mg_GUARD_SHAPE rfl) pa_nil))))))))), ?_⟩
    refine ⟨_, rfl, by decide, fun l hl => ?_⟩
    have s1 : Same H (upd H l (.lst [])) := Same.new hl
    cases ws with
    | nil =>
      refine ⟨a, l, _, rfl, rfl, .lst (fun _ => true) (s1.seq hL) SqL.new rfl (fun i x y hx => by cases hx), _, rfl, iteT ?_⟩
      exact qb (q _ s1) rfl
    | cons w ws =>
      refine ⟨a, l, _, rfl, rfl, .len (s1.seq hL) SqL.new (by simp), _, rfl, iteF ?_⟩
      refine ⟨_, rfl, a, _, _, _, rfl, rfl, s1.seq hL, at0, ag_GUARD_WORDS, _, rfl, .inr (kt_GUARD_WORDS.sq (by decide)), rfl, rfl, _, rfl, ifB (fun c => ?_) (fun c => ?_)⟩
      · have c' : (decide (w = "when") || decide (w = "unless")) = true := by rw [← inV_two]; exact c
        refine ⟨_, rfl, _, rfl, a, _, rfl, s1.seq hL, fun p hp => ?_⟩
        have s2 := s1.then (o := .lst (cutV ((w :: ws).map V.str) (some 1) none)) hp
        refine ⟨p, ag_GUARD_SHAPE, ws, _, rfl, ?_, kt_GUARD_SHAPE.sq (by decide), ?_, fun u hu => hw u (List.mem_cons_of_mem _ hu), fun H' s3 => ?_⟩
        · have e : cutV ((w :: ws).map V.str) (some 1) none = ws.map V.str := cut_from _ 1
          rw [e]
          exact SqL.new
        · rw [List.length_cons] at hn; omega
        · refine qb (q _ (s2.trans s3)) ?_
          show ((decide (w = "when") || decide (w = "unless")) && fitsT ws ["name", "number"]) = _
          rw [c', Bool.true_and]
      · have c' : (decide (w = "when") || decide (w = "unless")) = false := by rw [← inV_two]; exact c
        refine qb (q _ s1) ?_
        show ((decide (w = "when") || decide (w = "unless")) && fitsT ws ["name", "number"]) = _
        rw [c', Bool.false_and]
end
end Own


set_option Elab.async false
set_option linter.all false
set_option maxRecDepth 100000
set_option maxHeartbeats 4100000
namespace Own
open PySem L2
theorem atTab_none {D : List (Str × List Str)} {w : Str} (h : inTab D w = false) : atTab D w = none := by
  cases e : atTab D w with
  | none => rfl
  | some ws => rw [inTab_of e] at h; cases h
theorem atTab_some {D : List (Str × List Str)} {w : Str} (h : inTab D w = true) : ∃ sh, atTab D w = some sh := by
  unfold inTab at h
  obtain ⟨p, hp, e⟩ := List.any_eq_true.mp h
  unfold atTab
  cases e2 : D.find? fun p => decide (w = p.1) with
  | none => exact absurd e (by simpa using List.find?_eq_none.mp e2 p hp)
  | some p => exact ⟨p.2, rfl⟩
section
variable {P : Program} {w : World} {K : PySem.W.Frag} {mg : Str → Option Value} {base : Heap}
theorem sc_isdeed : FnScope ["text", "words", "size"] ["text"] (defScope s_isdeed) := ⟨rfl, rfl, rfl, by decide +kernel, rfl, by decide +kernel, by decide +kernel⟩
theorem ok_isdeed {f : Addr} {fd : FuncData} (F : Fun K "is_deed" "is_deed" s_isdeed f fd) (T : Txt K mg) (h_deedsize : Has P w K mg base 1 "deed_size" ["words"] (sp_deedsize K)) (h_fits : Has P w K mg base 3 "fits" ["words", "shape"] (sp_fits K)) (h_isguard : Has P w K mg base 4 "is_guard" ["words"] (sp_isguard K)) : FnOk P w K mg base CX0 5 f fd ["text"] (sp_isdeed K) := by
  refine F.ok (k := 4) sc_isdeed (fun vs H Q E h => ?_) (fun cdv A outer s H vs Q E hr h => ?_)
  · obtain ⟨z, rfl, _⟩ := h
    rfl
  · obtain ⟨z, rfl, hz, q⟩ := h
    obtain ⟨ag_SHAPES, mg_SHAPES, kt_SHAPES⟩ := T.g_SHAPES
    refine ⟨_, (pss_cons (ps_set (i := 1) sc_isdeed.nd rfl (Or.inl rfl) (pe_bm PySem.F.plainAttrs_str PySem.F.slot_str_split PySem.F.type_str_split mt_split (pv 0) (pa_cons pe_str pa_nil)))
      (pss_cons (ps_if (pt_cmpR op_notInTab (pe_ix ix_list (pv 1) pe_int (fun _ _ => rfl)) (pe_glob (v := .ref ag_SHAPES) rfl mg_SHAPES rfl) (by with_unfolding_all rfl))
      (pss_one (ps_ret pe_bl))
      pss_nil)
      (pss_cons (ps_set (i := 2) sc_isdeed.nd rfl (Or.inl rfl) (pe_fn h_deedsize (hr.mono (by decide)) (pa_cons (pv 1) pa_nil)))
      (pss_one (ps_ret (pe_and (pe_fn h_fits (hr.mono (by decide)) (pa_cons (pe_slice sl_list (pv 1) (po_some pe_int) (po_some (pv 2))) (pa_cons (pe_tab (pe_glob (v := .ref ag_SHAPES) rfl mg_SHAPES rfl) (pe_ix ix_list (pv 1) pe_int (fun _ _ => rfl)) (fun _ _ => rfl)) pa_nil))) (pe_one (pe_fn h_isguard (hr.mono (by decide)) (pa_cons (pe_slice sl_list (pv 1) (po_some (pv 2)) po_none) pa_nil))))))))), ?_⟩
    refine ⟨_, rfl, rfl, z, " ", rfl, rfl, rfl, (Nat.le_of_lt (big_ok (by omega))), fun l hl => ?_⟩
    have hparts := split_part z " "
    have hcount := split_len z " "
    have hq : isDeedT z = match Txt.split z " " with | [] => false | w :: r => match atTab SH w with | none => false | some sh => fitsT (r.take sh.length) sh && isGuardT (r.drop sh.length) := rfl
    have hne := split_ne z " "
    generalize Txt.split z " " = ws0 at hparts hcount hq hne
    cases ws0 with
    | nil => exact absurd rfl hne
    | cons w ws =>
      have s1 : Same H (upd H l (.lst ((w :: ws).map V.str))) := Same.new hl
      have hL : SqL K (upd H l (.lst ((w :: ws).map V.str))) l ((w :: ws).map V.str) := SqL.new
      generalize upd H l (.lst ((w :: ws).map V.str)) = H1 at s1 hL
      rw [List.length_cons] at hcount
      refine ⟨_, rfl, l, _, _, _, rfl, rfl, hL, at0, w, ag_SHAPES, SH, rfl, rfl, kt_SHAPES, _, rfl, ifB (fun c => ?_) (fun c => ?_)⟩
      · refine qb (q _ s1) ?_
        have e : atTab SH w = none := atTab_none (by simpa using c)
        rw [hq]
        show (match atTab SH w with | none => false | some sh => fitsT (ws.take sh.length) sh && isGuardT (ws.drop sh.length)) = false
        rw [e]
      · obtain ⟨sh, hsh⟩ := atTab_some (show inTab SH w = true by simpa using c)
        have hn3 : sh.length ≤ 3 := (nam_kinds _ (sh_cases hsh)).2.1
        have hq' : isDeedT z = (fitsT (ws.take sh.length) sh && isGuardT (ws.drop sh.length)) := by
          rw [hq]
          show (match atTab SH w with | none => false | some sh => fitsT (ws.take sh.length) sh && isGuardT (ws.drop sh.length)) = _
          rw [hsh]
        refine ⟨_, rfl, l, w, ws, sh, rfl, hL, hsh, ?_⟩
        refine ⟨_, rfl, _, rfl, _, rfl, _, rfl, l, _, rfl, hL, fun p1 hp1 => ?_⟩
        have e1 : cutV ((w :: ws).map V.str) (some 1) (some (1 + (sh.length : Int))) = (ws.take sh.length).map V.str := by
          rw [cut_mid _ _ (by simp), List.map_take]; rfl
        rw [e1]
        have s2 : Same H1 (upd H1 p1 (.lst ((ws.take sh.length).map V.str))) := Same.new hp1
        have hP1 : SqL K (upd H1 p1 (.lst ((ws.take sh.length).map V.str))) p1 ((ws.take sh.length).map V.str) := SqL.new
        generalize upd H1 p1 (.lst ((ws.take sh.length).map V.str)) = H2 at s2 hP1
        refine ⟨_, rfl, l, _, _, _, rfl, rfl, s2.seq hL, at0, ag_SHAPES, SH, w, sh, rfl, rfl, kt_SHAPES, hsh, by omega, fun t ht => ?_⟩
        refine ⟨p1, t, ws.take sh.length, sh, rfl, hP1, ht, by rw [List.length_take]; omega, fun u hu => Nat.le_trans (hparts u (List.mem_cons_of_mem _ (List.mem_of_mem_take hu))) (by omega), fun H3 s3 => ⟨_, rfl, ifB (fun c2 => ?_) (fun c2 => ?_)⟩⟩
        · have s13 := s2.trans s3
          refine ⟨_, rfl, _, rfl, _, rfl, l, _, rfl, s13.seq hL, fun p2 hp2 => ?_⟩
          have e2 : cutV ((w :: ws).map V.str) (some (1 + (sh.length : Int))) none = (ws.drop sh.length).map V.str := by
            have e0 : (1 : Int) + (sh.length : Int) = ((1 + sh.length : Nat) : Int) := by omega
            rw [e0, cut_from, List.map_drop, List.map_cons, Nat.add_comm, List.drop_succ_cons]
          rw [e2]
          refine ⟨p2, ws.drop sh.length, rfl, SqL.new, by rw [List.length_drop]; omega, fun u hu => Nat.le_trans (hparts u (List.mem_cons_of_mem _ (List.mem_of_mem_drop hu))) (by omega), fun H4 s4 => ?_⟩
          refine qb (q _ (s1.trans (s13.trans ((Same.new hp2).trans s4)))) ?_
          rw [hq', c2, Bool.true_and]
        · refine qb (q _ (s1.trans (s2.trans s3))) ?_
          rw [hq', c2, Bool.false_and]
theorem sc_ishand : FnScope ["text"] ["text"] (defScope s_ishand) := ⟨rfl, rfl, rfl, by decide +kernel, rfl, by decide +kernel, by decide +kernel⟩
theorem ok_ishand {f : Addr} {fd : FuncData} (F : Fun K "is_hand" "is_hand" s_ishand f fd) (T : Txt K mg) (h_isdeed : Has P w K mg base 5 "is_deed" ["text"] (sp_isdeed K)) : FnOk P w K mg base CX0 6 f fd ["text"] (sp_ishand K) := by
  refine F.ok (k := 5) sc_ishand (fun vs H Q E h => ?_) (fun cdv A outer s H vs Q E hr h => ?_)
  · obtain ⟨z, rfl, _⟩ := h
    rfl
  · obtain ⟨z, rfl, hz, q⟩ := h
    refine ⟨_, (pss_one (ps_ret (pe_or (pe_cmpR op_eq (pv 0) pe_str (nomark _)) (pe_one (pe_callB (call_all_bools rfl) rfl T.n_all bt_all (pa_cons (pe_comp (Nc := ["part"]) (nt := 1) (js := []) rfl ⟨rfl, rfl, rfl, rfl, .nil, rfl, ⟨["part"], [], rfl, rfl, .nil⟩⟩ (pi_list (pe_bm PySem.F.plainAttrs_str PySem.F.slot_str_split PySem.F.type_str_split mt_split (pv 0) (pa_cons pe_str pa_nil))) (fun C s3 H3 fp pins => ⟨(pg_name (i := 0) (show (["part"] : List Str).Nodup by decide +kernel) rfl (Or.inl rfl)), pts_nil, (pe_fn h_isdeed (hr.mono (by decide)) (pa_cons (pv 0) pa_nil))⟩)) pa_nil)))))), ?_⟩
    refine ⟨_, rfl, rfl, _, rfl, ifB (fun c => ?_) (fun c => ?_)⟩
    · refine qb (q _ (Same.refl _)) ?_
      unfold isHandT
      rw [decide_eq_true (by simpa using c)]; rfl
    · have hcount := split_len z "; "
      have hparts := split_part z "; "
      have hq : isHandT z = (Txt.split z "; ").all isDeedT := by
        unfold isHandT
        rw [decide_eq_false (by simpa using c)]; rfl
      refine ⟨_, rfl, rfl, z, "; ", rfl, rfl, rfl, (Nat.le_of_lt (big_ok (by omega))), fun l hl => ⟨l, rfl, ⟨_, SqL.new⟩, fun D hD => ?_⟩⟩
      generalize Txt.split z "; " = ws at hcount hparts hq hD
      have s1 : Same H (upd H l (.lst (ws.map V.str))) := Same.new hl
      have hL : SqL K (upd H l (.lst (ws.map V.str))) l (ws.map V.str) := SqL.new
      generalize upd H l (.lst (ws.map V.str)) = H1 at s1 hL hD
      refine comp_list (xs := ws.map V.str) (fun i σ ys H' => Same H1 H' ∧ H' D = some (.lst ys) ∧ ys = (ws.take i).map (fun u => V.bl (isDeedT u)) ∧ ∃ v, σ = [v]) ?_ ?_ ?_ ?_ ?_
      · exact ⟨Same.new hD, upd_same, rfl, none, rfl⟩
      · rintro i σ ys H' hi ⟨s2, hD', rfl, v, rfl⟩
        refine ⟨s2.seq hL, hD', ?_⟩
        rw [List.length_map, List.length_take]
        omega
      · rw [List.length_map]; exact Nat.le_of_lt (big_ok (by omega))
      · rintro i x σ ys H' hx ⟨s2, hD', rfl, v, rfl⟩
        obtain ⟨u, hu, rfl⟩ := refs_get hx
        refine ⟨_, rfl, u, rfl, Nat.le_trans (hparts u (List.mem_of_getElem? hu)) hz, fun H2 s3 => ⟨s3 _ _ hD', Same.at hD (s2.trans s3), upd_same, ?_, _, rfl⟩⟩
        rw [take_map_succ hu]
      · rintro σ ys H' ⟨s2, hD', rfl, v, rfl⟩
        refine ⟨D, ws.map isDeedT, rfl, ?_, ?_⟩
        · rw [List.length_map, List.take_of_length_le (Nat.le_refl _)] at hD'
          rw [List.map_map]
          exact SqL.of hD'
        · refine qb (q _ (s1.trans s2)) ?_
          rw [hq, List.all_map]
          rfl
theorem sc_showdeed : FnScope ["deed", "guard", "words"] ["deed"] (defScope s_showdeed) := ⟨rfl, rfl, rfl, by decide +kernel, rfl, by decide +kernel, by decide +kernel⟩
theorem ok_showdeed {f : Addr} {fd : FuncData} (F : Fun K "show_deed" "show_deed" s_showdeed f fd) (T : Txt K mg) (h_guardof : Has P w K mg base 1 "guard_of" ["deed"] (sp_guardof K)) : FnOk P w K mg base CX0 2 f fd ["deed"] (sp_showdeed K) := by
  refine F.ok (k := 1) sc_showdeed (fun vs H Q E h => ?_) (fun cdv A outer s H vs Q E hr h => ?_)
  · obtain ⟨x, rfl, _⟩ := h
    rfl
  · obtain ⟨x, rfl, hx, q⟩ := h
    refine ⟨_, (pss_cons (ps_set (i := 1) sc_showdeed.nd rfl (Or.inl rfl) (pe_fn h_guardof (hr.mono (by decide)) (pa_cons (pv 0) pa_nil)))
      (pss_cons (ps_set (i := 2) sc_showdeed.nd rfl (Or.inl rfl) (pe_cut (pe_ifExp (pt_cmpR op_isN (pv 1) pe_non (nomark _)) (pe_slice sl_tup (pv 0) po_none (po_some (pe_un un_neg pe_int))) (pe_op op_catT (pe_slice sl_tup (pv 0) po_none (po_some (pe_un un_neg pe_int))) (pv 1)))))
      (pss_one (ps_ret (pe_bm PySem.F.plainAttrs_str PySem.F.slot_str_join PySem.F.type_str_join mt_join pe_str (pa_cons (pe_comp (Nc := ["word"]) (nt := 1) (js := []) rfl ⟨rfl, rfl, rfl, rfl, .nil, rfl, ⟨["word"], [], rfl, rfl, .nil⟩⟩ (pi_tup (pv 2)) (fun C s3 H3 fp pins => ⟨(pg_name (i := 0) (show (["word"] : List Str).Nodup by decide +kernel) rfl (Or.inl rfl)), pts_nil, (pe_callTy call_str_any rfl T.n_str bt_str (pa_cons (pv 0) pa_nil))⟩)) pa_nil)))))), ?_⟩
    obtain ⟨⟨gv, hS, hg⟩, hok⟩ := hx
    have hl7 := hok.len
    rw [List.length_append] at hl7
    have nw : ¬ (HT.sIx (x.d.1.map Wd.v ++ [gv]).length 0 none = 0 ∧ HT.sIx (x.d.1.map Wd.v ++ [gv]).length (x.d.1.map Wd.v ++ [gv]).length (some (-1)) = (x.d.1.map Wd.v ++ [gv]).length) := fun z => by
      have z2 := z.2
      have e2 : HT.sIx (x.d.1.map Wd.v ++ [gv]).length (x.d.1.map Wd.v ++ [gv]).length (some (-1)) = (x.d.1.map Wd.v).length := by
        have e3 : HT.sIx (x.d.1.map Wd.v ++ [gv]).length (x.d.1.map Wd.v ++ [gv]).length (some (-1)) = ((-1 : Int) + ((x.d.1.map Wd.v ++ [gv]).length : Int)).toNat := by unfold HT.sIx; exact if_pos (by decide)
        rw [e3, List.length_append, List.length_singleton]
        omega
      rw [e2, List.length_append, List.length_singleton] at z2
      omega
    refine ⟨_, rfl, x.a, _, gv, rfl, hS, ?_⟩
    refine ⟨fun v H' => ∃ tw, v = .ref tw ∧ Same H H' ∧ SqT K H' tw ((x.d.1 ++ x.d.2).map Wd.v), ?_, ?_⟩
    · rcases hg with ⟨eg, rfl⟩ | ⟨ng, gq, rfl, hgq⟩
      · refine ⟨_, rfl, rfl, _, rfl, ifDt rfl ⟨_, rfl, _, rfl, _, rfl, x.a, _, rfl, hS, nw, fun p hp => ⟨p, rfl, Same.new hp, ?_⟩⟩⟩
        rw [cut_front, eg, List.append_nil]
        exact SqT.new
      · refine ⟨_, rfl, rfl, _, rfl, ifDf (fun z => by cases z) ⟨_, rfl, _, rfl, _, rfl, x.a, _, rfl, hS, nw, fun p hp => ?_⟩⟩
        rw [cut_front]
        have s1 : Same H (upd H p (.tup (x.d.1.map Wd.v))) := Same.new hp
        refine ⟨_, rfl, p, gq, _, _, rfl, rfl, SqT.new, s1.seqT hgq, ?_, ?_, fun z => ?_, fun _ p2 hp2 => ⟨p2, rfl, s1.then hp2, ?_⟩⟩
        · intro z
          have y := List.map_eq_nil_iff.mp z
          rw [y] at hl7
          exact absurd hl7.1 (by decide)
        · rw [List.length_map, List.length_map]
          exact Nat.le_of_lt (small1000 (by omega))
        · exact absurd (List.map_eq_nil_iff.mp z) ng
        · rw [List.map_append]
          exact SqT.new
    · rintro v H1 ⟨tw, rfl, s1, hT⟩
      refine ⟨rfl, _, rfl, tw, rfl, ⟨_, hT⟩, fun D hD => comp_tup (xs := (x.d.1 ++ x.d.2).map Wd.v) (fun i σ ys H' => Same H1 H' ∧ H' D = some (.lst ys) ∧ ys = ((x.d.1 ++ x.d.2).take i).map (fun u => V.str u.t) ∧ ∃ v, σ = [v]) ?_ ?_ ?_ ?_ ?_⟩
      · exact ⟨Same.new hD, upd_same, rfl, none, rfl⟩
      · rintro i σ ys H' hi ⟨s2, hD', rfl, v, rfl⟩
        refine ⟨s2.seqT hT, hD', ?_⟩
        rw [List.length_map, List.length_take]
        omega
      · rw [List.length_map, List.length_append]; exact Nat.le_of_lt (small1000 (by omega))
      · rintro i y σ ys H' hy ⟨s2, hD', rfl, v, rfl⟩
        obtain ⟨u, hu, rfl⟩ := refs_get hy
        have hu' := hok.ok u (List.mem_of_getElem? hu)
        have fin : H' D = some (.lst (((x.d.1 ++ x.d.2).take i).map fun u => V.str u.t)) ∧ (Same H1 (upd H' D (.lst ((((x.d.1 ++ x.d.2).take i).map fun u => V.str u.t) ++ [V.str u.t]))) ∧ upd H' D (.lst ((((x.d.1 ++ x.d.2).take i).map fun u => V.str u.t) ++ [V.str u.t])) D = some (.lst ((((x.d.1 ++ x.d.2).take i).map fun u => V.str u.t) ++ [V.str u.t])) ∧ (((x.d.1 ++ x.d.2).take i).map (fun u => V.str u.t)) ++ [V.str u.t] = ((x.d.1 ++ x.d.2).take (i + 1)).map (fun u => V.str u.t) ∧ ∃ v, [some u.v] = [v]) :=
          ⟨hD', Same.at hD s2, upd_same, by rw [take_map_succ hu], _, rfl⟩
        cases u with
        | s z => exact ⟨_, rfl, .inl ⟨z, rfl, fin⟩⟩
        | n k => exact ⟨_, rfl, .inr ⟨k, rfl, log_small k hu', fin⟩⟩
      · rintro σ ys H' ⟨s2, hD', rfl, v, rfl⟩
        rw [List.length_map, List.take_of_length_le (Nat.le_refl _)] at hD'
        refine ⟨" ", D, wtx x.d, rfl, rfl, ?_, ?_, q _ (s1.trans s2)⟩
        · unfold wtx
          rw [List.map_map]
          exact SqL.of hD'
        · have h2 := wtx_len hok
          exact joinOk_of (B := 61) (fun y hy => (wtx_ok hok y hy).2.1) (by show (wtx x.d).length * 61 + (wtx x.d).length * 1 ≤ 16777216; omega)
theorem sc_showhand : FnScope ["hand"] ["hand"] (defScope s_showhand) := ⟨rfl, rfl, rfl, by decide +kernel, rfl, by decide +kernel, by decide +kernel⟩
theorem ok_showhand {f : Addr} {fd : FuncData} (F : Fun K "show_hand" "show_hand" s_showhand f fd) (T : Txt K mg) (h_showdeed : Has P w K mg base 2 "show_deed" ["deed"] (sp_showdeed K)) : FnOk P w K mg base CX0 3 f fd ["hand"] (sp_showhand K) := by
  refine F.ok (k := 2) sc_showhand (fun vs H Q E h => ?_) (fun cdv A outer s H vs Q E hr h => ?_)
  · obtain ⟨a, ds, rfl, _⟩ := h
    rfl
  · obtain ⟨a, ds, rfl, hH, q⟩ := h
    refine ⟨_, (pss_one (ps_ret (pe_cut (pe_ifExp (pt_cmpR (op_neC (hu_deep hr)) (pv 0) (pe_lst pa_nil) (nomark _)) (pe_bm PySem.F.plainAttrs_str PySem.F.slot_str_join PySem.F.type_str_join mt_join pe_str (pa_cons (pe_comp (Nc := ["deed"]) (nt := 1) (js := []) rfl ⟨rfl, rfl, rfl, rfl, .nil, rfl, ⟨["deed"], [], rfl, rfl, .nil⟩⟩ (pi_list (pv 0)) (fun C s3 H3 fp pins => ⟨(pg_name (i := 0) (show (["deed"] : List Str).Nodup by decide +kernel) rfl (Or.inl rfl)), pts_nil, (pe_fn h_showdeed (hr.mono (by decide)) (pa_cons (pv 0) pa_nil))⟩)) pa_nil)) pe_str)))), ?_⟩
    refine ⟨fun v H' => Same H H' ∧ v = .str (htx (dat ds)), ?_, ?_⟩
    · refine ⟨_, rfl, by decide, fun l hl => ?_⟩
      have s1 : Same H (upd H l (.lst [])) := Same.new hl
      have hok := hH.ok
      have hn := hH.n
      cases ds with
      | nil => exact ⟨a, l, _, rfl, rfl, .lst (fun _ => true) (s1.seq hH.l) SqL.new rfl (fun i x y hx => by cases hx), _, rfl, ifF rfl ⟨s1, rfl⟩⟩
      | cons d0 ds0 =>
        generalize hds : d0 :: ds0 = ds at hH q hok hn
        have hne : dat ds ≠ [] := by rw [← hds]; simp [dat]
        refine ⟨a, l, _, rfl, rfl, .len (s1.seq hH.l) SqL.new (by rw [← hds]; simp), _, rfl, ifT rfl ?_⟩
        have hH1 := hH.same s1
        generalize upd H l (.lst []) = H1 at s1 hH1
        refine ⟨rfl, _, rfl, a, rfl, ⟨_, hH1.l⟩, fun D hD => comp_list (xs := ds.map fun x => V.ref x.a) (fun i σ ys H' => Same H1 H' ∧ H' D = some (.lst ys) ∧ ys = (ds.take i).map (fun u => V.str (dtx u.d)) ∧ ∃ v, σ = [v]) ?_ ?_ ?_ ?_ ?_⟩
        · exact ⟨Same.new hD, upd_same, rfl, none, rfl⟩
        · rintro i σ ys H' hi ⟨s2, hD', rfl, v, rfl⟩
          refine ⟨s2.seq hH1.l, hD', ?_⟩
          rw [List.length_map, List.length_take]
          omega
        · rw [List.length_map]; exact Nat.le_of_lt (small1000 (by omega))
        · rintro i x σ ys H' hx ⟨s2, hD', rfl, v, rfl⟩
          obtain ⟨u, hu, rfl⟩ := refs_get hx
          refine ⟨_, rfl, u, rfl, (hH1.dd u (List.mem_of_getElem? hu)).same s2, fun H2 s3 => ⟨s3 _ _ hD', Same.at hD (s2.trans s3), upd_same, ?_, _, rfl⟩⟩
          rw [take_map_succ hu]
        · rintro σ ys H' ⟨s2, hD', rfl, v, rfl⟩
          rw [List.length_map, List.take_of_length_le (Nat.le_refl _)] at hD'
          refine ⟨"; ", D, (dat ds).map dtx, rfl, rfl, ?_, ?_, s1.trans s2, ?_⟩
          · unfold dat
            rw [List.map_map, List.map_map]
            exact SqL.of hD'
          · refine joinOk_of (B := 500) (fun y hy => ?_) ?_
            · obtain ⟨d, hd, rfl⟩ := List.mem_map.mp hy
              exact dtx_len (hok d hd)
            · show ((dat ds).map dtx).length * 500 + ((dat ds).map dtx).length * 2 ≤ 16777216
              unfold dat
              rw [List.length_map, List.length_map]
              omega
          · rw [(htx_split hok hne).1]
    · rintro v H1 ⟨s1, rfl⟩
      exact q _ s1
theorem sc_shown : FnScope ["program"] ["program"] (defScope s_shown) := ⟨rfl, rfl, rfl, by decide +kernel, rfl, by decide +kernel, by decide +kernel⟩
theorem ok_shown {f : Addr} {fd : FuncData} (F : Fun K "shown" "shown" s_shown f fd) (T : Txt K mg) (h_showhand : Has P w K mg base 3 "show_hand" ["hand"] (sp_showhand K)) : FnOk P w K mg base CX0 4 f fd ["program"] (sp_shown K) := by
  refine F.ok (k := 3) sc_shown (fun vs H Q E h => ?_) (fun cdv A outer s H vs Q E hr h => ?_)
  · obtain ⟨p, hs, rfl, _⟩ := h
    rfl
  · obtain ⟨p, hs, rfl, hP, q⟩ := h
    refine ⟨_, (pss_one (ps_ret (pe_bm PySem.F.plainAttrs_str PySem.F.slot_str_join PySem.F.type_str_join mt_join pe_str (pa_cons (pe_comp (Nc := ["hand"]) (nt := 1) (js := []) rfl ⟨rfl, rfl, rfl, rfl, .nil, rfl, ⟨["hand"], [], rfl, rfl, .nil⟩⟩ (pi_list (pv 0)) (fun C s3 H3 fp pins => ⟨(pg_name (i := 0) (show (["hand"] : List Str).Nodup by decide +kernel) rfl (Or.inl rfl)), pts_nil, (pe_fn h_showhand (hr.mono (by decide)) (pa_cons (pv 0) pa_nil))⟩)) pa_nil)))), ?_⟩
    have hn := hP.n
    refine ⟨rfl, _, rfl, p, rfl, ⟨_, hP.l⟩, fun D hD => comp_list (xs := hs.map fun h => V.ref h.1) (fun i σ ys H' => Same H H' ∧ H' D = some (.lst ys) ∧ ys = (hs.take i).map (fun h => V.str (htx (dat h.2))) ∧ ∃ v, σ = [v]) ?_ ?_ ?_ ?_ ?_⟩
    · exact ⟨Same.new hD, upd_same, rfl, none, rfl⟩
    · rintro i σ ys H' hi ⟨s2, hD', rfl, v, rfl⟩
      refine ⟨s2.seq hP.l, hD', ?_⟩
      rw [List.length_map, List.length_take]
      omega
    · rw [List.length_map]; exact Nat.le_of_lt (small1000 (by omega))
    · rintro i x σ ys H' hx ⟨s2, hD', rfl, v, rfl⟩
      obtain ⟨u, hu, rfl⟩ := refs_get hx
      refine ⟨_, rfl, u.1, u.2, rfl, (hP.hh u (List.mem_of_getElem? hu)).same s2, fun H2 s3 => ⟨s3 _ _ hD', Same.at hD (s2.trans s3), upd_same, ?_, _, rfl⟩⟩
      rw [take_map_succ hu]
    · rintro σ ys H' ⟨s2, hD', rfl, v, rfl⟩
      rw [List.length_map, List.take_of_length_le (Nat.le_refl _)] at hD'
      refine ⟨" | ", D, (pdat hs).map htx, rfl, rfl, ?_, ?_, q _ s2⟩
      · unfold pdat
        rw [List.map_map, List.map_map]
        exact SqL.of hD'
      · refine joinOk_of (B := 20100) (fun y hy => ?_) ?_
        · obtain ⟨d, hd, rfl⟩ := List.mem_map.mp hy
          exact htx_len (hP.ok d hd) (hP.n40 d hd)
        · show ((pdat hs).map htx).length * 20100 + ((pdat hs).map htx).length * 3 ≤ 16777216
          unfold pdat
          rw [List.length_map, List.length_map]
          omega
end
end Own


set_option Elab.async false
set_option linter.all false
set_option maxRecDepth 100000
set_option maxHeartbeats 4100000
namespace Own
open PySem L2
def sp_readdeed (K : PySem.W.Frag) : Sp := fun vs H Q _ => ∃ (d : Dat), vs = [.str (dtx d)] ∧ DOkD d ∧ ∀ (x : Dd) H', Same H H' → IsD K H' x → x.d = d → Q (.ref x.a) H'
def sp_readhand (K : PySem.W.Frag) : Sp := fun vs H Q _ => ∃ (ds : List Dat), vs = [.str (htx ds)] ∧ (∀ d ∈ ds, DOkD d) ∧ ds.length ≤ 40 ∧ ∀ l (xs : List Dd) H', Same H H' → H l = none → H' l = some (.lst (xs.map fun x => V.ref x.a)) → (∀ x ∈ xs, IsD K H' x) → dat xs = ds → Q (.ref l) H'
/-- a program that is new -/
structure NewP (K : PySem.W.Frag) (H H' : Hp) (p : Addr) (ps : Hands) : Prop where
  l : H' p = some (.lst (ps.map fun h => V.ref h.1))
  fr : H p = none
  at_ : ∀ h ∈ ps, H' h.1 = some (.lst (h.2.map fun x => V.ref x.a)) ∧ H h.1 = none
  nd : (ps.map (·.1)).Nodup
  pn : p ∉ ps.map (·.1)
  ds : ∀ h ∈ ps, ∀ x ∈ h.2, IsD K H' x
def sp_read (K : PySem.W.Frag) : Sp := fun vs H Q _ => ∃ (hs : List (List Dat)), vs = [.str (ptx hs)] ∧ (∀ ds ∈ hs, ∀ d ∈ ds, DOkD d) ∧ hs ≠ [] ∧ hs.length ≤ 6 ∧ (∀ ds ∈ hs, ds.length ≤ 40) ∧ (hs.map fun ds => (ds.length : Int)).sum ≤ 40 ∧
  ∀ p ps H', Same H H' → NewP K H H' p ps → pdat ps = hs → Q (.ref p) H'
theorem wtx_get {d : Dat} {i : Nat} {v : V} (h : ((wtx d).map V.str)[i]? = some v) : ∃ u, (d.1 ++ d.2)[i]? = some u ∧ v = .str u.t := by
  obtain ⟨z, hz, rfl⟩ := refs_get h
  unfold wtx at hz
  rw [List.getElem?_map] at hz
  cases e : (d.1 ++ d.2)[i]? with
  | none => rw [e] at hz; cases hz
  | some u => rw [e] at hz; exact ⟨u, rfl, by rw [← Option.some.inj hz]⟩
section
variable {P : Program} {w : World} {K : PySem.W.Frag} {mg : Str → Option Value} {base : Heap}
theorem sc_readdeed : FnScope ["text", "words", "values", "size", "guard"] ["text"] (defScope s_readdeed) := ⟨rfl, rfl, rfl, by decide +kernel, rfl, by decide +kernel, by decide +kernel⟩
theorem ok_readdeed {f : Addr} {fd : FuncData} (F : Fun K "read_deed" "read_deed" s_readdeed f fd) (T : Txt K mg) (h_deedsize : Has P w K mg base 1 "deed_size" ["words"] (sp_deedsize K)) (h_isnumber : Has P w K mg base 2 "is_number" ["word"] (sp_isnumber K)) : FnOk P w K mg base CX0 3 f fd ["text"] (sp_readdeed K) := by
  refine F.ok (k := 2) sc_readdeed (fun vs H Q E h => ?_) (fun cdv A outer s H vs Q E hr h => ?_)
  · obtain ⟨d, rfl, _⟩ := h
    rfl
  · obtain ⟨d, rfl, hok, q⟩ := h
    refine ⟨_, (pss_cons (ps_set (i := 1) sc_readdeed.nd rfl (Or.inl rfl) (pe_bm PySem.F.plainAttrs_str PySem.F.slot_str_split PySem.F.type_str_split mt_split (pv 0) (pa_cons pe_str pa_nil)))
      (pss_cons (ps_comp (i := 2) (Nc := ["word"]) (nt := 1) (js := []) rfl sc_readdeed.nd rfl rfl ⟨rfl, rfl, rfl, rfl, .nil, rfl, ⟨["word"], [], rfl, rfl, .nil⟩⟩ (pi_list (pv 1)) (fun C s3 H3 fp pins => ⟨(pg_name (i := 0) (show (["word"] : List Str).Nodup by decide +kernel) rfl (Or.inl rfl)), pts_nil, (pe_cut (pe_ifExp (pt_val (pe_fn h_isnumber (hr.mono (by decide)) (pa_cons (pv 0) pa_nil))) (pe_callTy call_int_text rfl T.n_int bt_int (pa_cons (pv 0) pa_nil)) (pv 0)))⟩))
      (pss_cons (ps_set (i := 3) sc_readdeed.nd rfl (Or.inl rfl) (pe_fn h_deedsize (hr.mono (by decide)) (pa_cons (pv 1) pa_nil)))
      (pss_cons (ps_set (i := 4) sc_readdeed.nd rfl (Or.inl rfl) (pe_cut (pe_ifExp (pt_cmpR op_gt (pe_callB call_len_seq rfl T.n_len bt_len (pa_cons (pv 2) pa_nil)) (pv 3) (nomark _)) (pe_callTy call_tuple_of rfl T.n_tuple bt_tuple (pa_cons (pe_slice sl_list (pv 2) (po_some (pv 3)) po_none) pa_nil)) pe_non)))
      (pss_one (ps_ret (pe_callTy call_tuple_of rfl T.n_tuple bt_tuple (pa_cons (pe_op op_cat (pe_slice sl_list (pv 2) po_none (po_some (pv 3))) (pe_lst (pa_cons (pv 4) pa_nil))) pa_nil)))))))), ?_⟩
    have hl := dtx_len hok
    have hl7 := hok.len
    rw [List.length_append] at hl7
    refine ⟨_, rfl, rfl, dtx d, " ", rfl, rfl, rfl, Nat.le_of_lt (small1000 (by omega)), fun l hll => ?_⟩
    rw [dtx_split hok]
    have s1 : Same H (upd H l (.lst ((wtx d).map V.str))) := Same.new hll
    have hL : SqL K (upd H l (.lst ((wtx d).map V.str))) l ((wtx d).map V.str) := SqL.new
    generalize upd H l (.lst ((wtx d).map V.str)) = H1 at s1 hL
    refine ⟨_, rfl, l, rfl, ⟨_, hL⟩, fun D hD => comp_list (xs := (wtx d).map V.str) (fun i σ ys H' => Same H1 H' ∧ H' D = some (.lst ys) ∧ ys = ((d.1 ++ d.2).take i).map Wd.v ∧ ∃ v, σ = [v]) ?_ ?_ ?_ ?_ ?_⟩
    · exact ⟨Same.new hD, upd_same, rfl, none, rfl⟩
    · rintro i σ ys H' hi ⟨s2, hD', rfl, v, rfl⟩
      refine ⟨s2.seq hL, hD', ?_⟩
      rw [List.length_map, List.length_take]
      omega
    · have := (wtx_len hok).2
      rw [List.length_map]; exact Nat.le_of_lt (small1000 (by omega))
    · rintro i y σ ys H' hy ⟨s2, hD', rfl, v, rfl⟩
      obtain ⟨u, hu, rfl⟩ := wtx_get hy
      have huo := hok.ok u (List.mem_of_getElem? hu)
      have hsg := ok_signs huo
      refine ⟨fun v H2 => Same H' H2 ∧ v = u.v, ?_, ?_⟩
      · refine ⟨_, rfl, u.t, rfl, by omega, fun H2 s3 => ⟨_, rfl, ifB (fun c => ?_) (fun c => ?_)⟩⟩
        · cases u with
          | s z =>
            have hn : isNum z = false := isNum_nam huo
            have c' : isNum z = true := c
            rw [hn] at c'; cases c'
          | n k => exact ⟨_, rfl, numT k, k, rfl, num_back k huo, by have := num_len k huo; omega, s3, rfl⟩
        · cases u with
          | s z => exact ⟨_, rfl, s3, rfl⟩
          | n k =>
            have hn : isNum (numT k) = true := isNum_num k huo
            have c' : isNum (numT k) = false := c
            rw [hn] at c'; cases c'
      · rintro v H2 ⟨s3, rfl⟩
        refine ⟨s3 _ _ hD', Same.at hD (s2.trans s3), upd_same, ?_, _, rfl⟩
        rw [take_map_succ hu]
    · rintro σ ys H' ⟨s2, hD', rfl, v, rfl⟩
      have elen : ((wtx d).map V.str).length = (d.1 ++ d.2).length := by unfold wtx; rw [List.length_map, List.length_map]
      rw [elen, List.take_of_length_le (Nat.le_refl _)] at hD'
      obtain ⟨k, sh, rest, ek, hsh, hfit⟩ := hok.d
      have ew : wtx d = k :: (rest ++ d.2).map Wd.t := by
        unfold wtx
        rw [ek, List.cons_append, List.map_cons]; rfl
      have hlf := hfit.len
      have hl1 : d.1.length = 1 + sh.length := by rw [ek, List.length_cons, hlf]; omega
      have hLk := s2.seq hL
      rw [ew] at hLk
      refine ⟨_, rfl, l, k, _, sh, rfl, hLk, hsh, ?_⟩
      have ec : (1 : Int) + (sh.length : Int) = ((d.1.length : Nat) : Int) := by omega
      rw [ec]
      have hDs : SqL K H' D ((d.1 ++ d.2).map Wd.v) := SqL.of hD'
      refine ⟨fun v H2 => Same H' H2 ∧ isG K H2 v d.2, ?_, ?_⟩
      · refine ⟨_, rfl, D, _, rfl, .inl hDs, _, rfl, _, _, rfl, rfl, _, rfl, ite2 (fun c => ?_) (fun c => ?_)⟩
        · have c' := of_decide_eq_true c
          rw [List.length_map, List.length_append] at c'
          refine ⟨_, rfl, _, rfl, _, rfl, D, _, rfl, hDs, fun p hp => ⟨p, _, rfl, .inl ⟨SqL.new, fun t ht => ⟨(Same.new hp).then ht, .inr ⟨?_, t, rfl, ?_⟩⟩⟩⟩⟩
          · intro z
            rw [z] at c'
            simp at c'
          · rw [cut_from, List.map_append, ← List.length_map (f := Wd.v), List.drop_left]
            exact SqT.new
        · have c' : ¬ ((d.1.length : Int) < (((d.1 ++ d.2).map Wd.v).length : Int)) := fun z => c (decide_eq_true z)
          rw [List.length_map, List.length_append] at c'
          refine ⟨Same.refl _, .inl ⟨?_, rfl⟩⟩
          cases e : d.2 with
          | nil => rfl
          | cons a b => rw [e] at c'; simp at c'; omega
      · rintro gv H2 ⟨s3, hg⟩
        refine ⟨_, rfl, _, rfl, _, rfl, D, _, rfl, s3.seq hDs, fun p hp => ?_⟩
        have e1 : cutV ((d.1 ++ d.2).map Wd.v) none (some (d.1.length : Int)) = d.1.map Wd.v := by
          rw [cut_to, List.map_append, ← List.length_map (f := Wd.v), List.take_left]
        rw [e1]
        have s4 : Same H2 (upd H2 p (.lst (d.1.map Wd.v))) := Same.new hp
        refine ⟨_, rfl, by show 1 ≤ sizeLine; decide, fun l2 hl2 => ?_⟩
        have s5 : Same (upd H2 p (.lst (d.1.map Wd.v))) (upd (upd H2 p (.lst (d.1.map Wd.v))) l2 (.lst [gv])) := Same.new hl2
        refine ⟨p, l2, _, _, rfl, rfl, s5 _ _ upd_same, upd_same, ?_, fun p3 hp3 => ⟨p3, _, rfl, .inl ⟨SqL.new, fun t ht => ?_⟩⟩⟩
        · rw [List.length_map]
          exact Nat.le_of_lt (small1000 (by show d.1.length + 1 ≤ 1000; omega))
        · have s6 := s5.then (o := .lst (d.1.map Wd.v ++ [gv])) hp3
          have s7 := s6.then (o := .tup (d.1.map Wd.v ++ [gv])) ht
          exact q ⟨t, d⟩ _ (s1.trans (s2.trans (s3.trans (s4.trans s7)))) ⟨⟨gv, SqT.new, hg.same (s4.trans s7)⟩, hok⟩ rfl
theorem sc_readhand : FnScope ["text"] ["text"] (defScope s_readhand) := ⟨rfl, rfl, rfl, by decide +kernel, rfl, by decide +kernel, by decide +kernel⟩
theorem ok_readhand {f : Addr} {fd : FuncData} (F : Fun K "read_hand" "read_hand" s_readhand f fd) (T : Txt K mg) (h_readdeed : Has P w K mg base 3 "read_deed" ["text"] (sp_readdeed K)) : FnOk P w K mg base CX0 4 f fd ["text"] (sp_readhand K) := by
  refine F.ok (k := 3) sc_readhand (fun vs H Q E h => ?_) (fun cdv A outer s H vs Q E hr h => ?_)
  · obtain ⟨ds, rfl, _⟩ := h
    rfl
  · obtain ⟨ds, rfl, hok, hn, q⟩ := h
    refine ⟨_, (pss_one (ps_ret (pe_cut (pe_ifExp (pt_cmpR op_eq (pv 0) pe_str (nomark _)) (pe_lst pa_nil) (pe_comp (Nc := ["part"]) (nt := 1) (js := []) rfl ⟨rfl, rfl, rfl, rfl, .nil, rfl, ⟨["part"], [], rfl, rfl, .nil⟩⟩ (pi_list (pe_bm PySem.F.plainAttrs_str PySem.F.slot_str_split PySem.F.type_str_split mt_split (pv 0) (pa_cons pe_str pa_nil))) (fun C s3 H3 fp pins => ⟨(pg_name (i := 0) (show (["part"] : List Str).Nodup by decide +kernel) rfl (Or.inl rfl)), pts_nil, (pe_fn h_readdeed (hr.mono (by decide)) (pa_cons (pv 0) pa_nil))⟩)))))), ?_⟩
    refine ⟨fun v H' => ∃ (l : Addr) (xs : List Dd), v = .ref l ∧ Same H H' ∧ H l = none ∧ H' l = some (.lst (xs.map fun x => V.ref x.a)) ∧ (∀ x ∈ xs, IsD K H' x) ∧ dat xs = ds, ?_, ?_⟩
    · refine ⟨_, rfl, rfl, _, rfl, ifB (fun c => ?_) (fun c => ?_)⟩
      · have e : ds = [] := Classical.byContradiction fun z => htx_not hok z (by simpa using c)
        exact ⟨by decide, fun l hl => ⟨l, [], rfl, Same.new hl, hl, upd_same, (fun x hx => by cases hx), e.symm⟩⟩
      · have hne : ds ≠ [] := fun z => by subst z; simp [htx] at c
        have hl := htx_len hok hn
        refine ⟨_, rfl, rfl, htx ds, "; ", rfl, rfl, rfl, Nat.le_of_lt (big_ok (by omega)), fun l0 hl0 => ?_⟩
        rw [(htx_split hok hne).2]
        have s1 : Same H (upd H l0 (.lst ((ds.map dtx).map V.str))) := Same.new hl0
        have hL : SqL K (upd H l0 (.lst ((ds.map dtx).map V.str))) l0 ((ds.map dtx).map V.str) := SqL.new
        generalize upd H l0 (.lst ((ds.map dtx).map V.str)) = H1 at s1 hL
        refine ⟨l0, rfl, ⟨_, hL⟩, fun D hD => comp_list (xs := (ds.map dtx).map V.str) (fun i σ ys H' => ∃ (xs : List Dd) (v : Option V), Same H1 H' ∧ H' D = some (.lst ys) ∧ ys = xs.map (fun x => V.ref x.a) ∧ (∀ x ∈ xs, IsD K H' x) ∧ dat xs = ds.take i ∧ σ = [v]) ?_ ?_ ?_ ?_ ?_⟩
        · exact ⟨[], none, Same.new hD, upd_same, rfl, (fun x hx => by cases hx), rfl, rfl⟩
        · rintro i σ ys H' hi ⟨xs, v, s2, hD', rfl, hxs, e, rfl⟩
          refine ⟨s2.seq hL, hD', ?_⟩
          have := congrArg List.length e
          unfold dat at this
          rw [List.length_map, List.length_take] at this
          rw [List.length_map]
          omega
        · rw [List.length_map, List.length_map]; exact Nat.le_of_lt (small1000 (by omega))
        · rintro i y σ ys H' hy ⟨xs, v, s2, hD', rfl, hxs, e, rfl⟩
          obtain ⟨z, hz, rfl⟩ := refs_get hy
          rw [List.getElem?_map] at hz
          cases ed : ds[i]? with
          | none => rw [ed] at hz; cases hz
          | some d =>
            rw [ed] at hz
            have ez : dtx d = z := Option.some.inj hz
            subst ez
            refine ⟨_, rfl, d, rfl, hok d (List.mem_of_getElem? ed), fun x H2 s3 hx ex => ⟨s3 _ _ hD', xs ++ [x], _, Same.at hD (s2.trans s3), upd_same, by rw [List.map_append]; rfl, fun x' hx' => ?_, ?_, rfl⟩⟩
            · rcases List.mem_append.mp hx' with hx' | hx'
              · exact ((hxs x' hx').same s3).lset (s3 _ _ hD')
              · rw [List.mem_singleton.mp hx']
                exact hx.lset (s3 _ _ hD')
            · unfold dat at e ⊢
              rw [List.map_append, e, List.take_add_one, ed, List.map_singleton, ex]; rfl
        · rintro σ ys H' ⟨xs, v, s2, hD', rfl, hxs, e, rfl⟩
          rw [List.length_map, List.length_map, List.take_of_length_le (Nat.le_refl _)] at e
          exact ⟨D, xs, rfl, s1.trans s2, s1.free hD, hD', hxs, e⟩
    · rintro v H1 ⟨l, xs, rfl, s1, h1, h2, h3, h4⟩
      exact q l xs H1 s1 h1 h2 h3 h4
theorem sc_read : FnScope ["text", "hands", "h", "hand", "program"] ["text"] (defScope s_read) := ⟨rfl, rfl, rfl, by decide +kernel, rfl, by decide +kernel, by decide +kernel⟩
theorem ok_read {f : Addr} {fd : FuncData} (F : Fun K "read" "read" s_read f fd) (T : Txt K mg) (h_readhand : Has P w K mg base 4 "read_hand" ["text"] (sp_readhand K)) (h_ishand : Has P w K mg base 6 "is_hand" ["text"] (sp_ishand K)) : FnOk P w K mg base CX0 7 f fd ["text"] (sp_read K) := by
  refine F.ok (k := 6) sc_read (fun vs H Q E h => ?_) (fun cdv A outer s H vs Q E hr h => ?_)
  · obtain ⟨hs, rfl, _⟩ := h
    rfl
  · obtain ⟨hs, rfl, hok, hne, h6, h40, hsum, q⟩ := h
    refine ⟨_, (pss_cons (ps_set (i := 1) sc_read.nd rfl (Or.inl rfl) (pe_bm PySem.F.plainAttrs_str PySem.F.slot_str_split PySem.F.type_str_split mt_split (pv 0) (pa_cons pe_str pa_nil)))
      (pss_cons (ps_for PassesOwn.never rfl (pi_enum rfl T.n_enumerate (pa_cons (pv 1) pa_nil)) (pg_tup rfl (pgs_cons (pg_name (i := 2) sc_read.nd rfl (Or.inl rfl)) (pgs_cons (pg_name (i := 3) sc_read.nd rfl (Or.inl rfl)) pgs_nil)))
      (pss_one (ps_if (pt_not (pt_val (pe_fn h_ishand (hr.mono (by decide)) (pa_cons (pv 3) pa_nil))))
      (pss_one ps_never)
      pss_nil)))
      (pss_cons (ps_comp (i := 4) (Nc := ["hand"]) (nt := 1) (js := []) rfl sc_read.nd rfl rfl ⟨rfl, rfl, rfl, rfl, .nil, rfl, ⟨["hand"], [], rfl, rfl, .nil⟩⟩ (pi_list (pv 1)) (fun C s3 H3 fp pins => ⟨(pg_name (i := 0) (show (["hand"] : List Str).Nodup by decide +kernel) rfl (Or.inl rfl)), pts_nil, (pe_fn h_readhand (hr.mono (by decide)) (pa_cons (pv 0) pa_nil))⟩))
      (pss_cons (ps_if (PW.pt (pw_or (pt_cmpR op_gt (pe_callB call_len_seq rfl T.n_len bt_len (pa_cons (pv 4) pa_nil)) (pe_globI rfl T.g_MOST_HANDS) (nomark _)) (pw_or1 (pt_cmpR op_gt (pe_callB (call_sum_ints rfl) rfl T.n_sum bt_sum (pa_cons (pe_comp (Nc := ["hand"]) (nt := 1) (js := []) rfl ⟨rfl, rfl, rfl, rfl, .nil, rfl, ⟨["hand"], [], rfl, rfl, .nil⟩⟩ (pi_list (pv 4)) (fun C s3 H3 fp pins => ⟨(pg_name (i := 0) (show (["hand"] : List Str).Nodup by decide +kernel) rfl (Or.inl rfl)), pts_nil, (pe_callB (call_len_seqK (K := K) rfl) rfl T.n_len bt_len (pa_cons (pv 0) pa_nil))⟩)) pa_nil)) (pe_globI rfl T.g_MOST_DEEDS) (nomark _)))))
      (pss_one ps_never)
      pss_nil)
      (pss_one (ps_ret (pv 4))))))), ?_⟩
    have hl := ptx_len hok h6 h40
    refine ⟨_, rfl, rfl, ptx hs, " | ", rfl, rfl, rfl, Nat.le_of_lt (big_ok (by omega)), fun l0 hl0 => ?_⟩
    rw [ptx_split hok hne]
    have s1 : Same H (upd H l0 (.lst ((hs.map htx).map V.str))) := Same.new hl0
    have hL : SqL K (upd H l0 (.lst ((hs.map htx).map V.str))) l0 ((hs.map htx).map V.str) := SqL.new
    generalize upd H l0 (.lst ((hs.map htx).map V.str)) = H1 at s1 hL
    have part : ∀ {i : Nat} {y : V}, ((hs.map htx).map V.str)[i]? = some y → ∃ ds, hs[i]? = some ds ∧ y = .str (htx ds) := fun {i y} hy => by
      obtain ⟨z, hz, rfl⟩ := refs_get hy
      rw [List.getElem?_map] at hz
      cases ed : hs[i]? with
      | none => rw [ed] at hz; cases hz
      | some ds => rw [ed] at hz; exact ⟨ds, rfl, by rw [← Option.some.inj hz]⟩
    refine ⟨_, rfl, l0, rfl, ⟨_, hL⟩, for_enum (xs := (hs.map htx).map V.str) (fun i σ H' => ∃ v2 v3 : Option V, Same H1 H' ∧ σ = [some (.str (ptx hs)), some (.ref l0), v2, v3, none]) ?_ ?_ ?_ ?_⟩
    · exact ⟨none, none, Same.refl _, rfl⟩
    · rintro i σ H' _ ⟨v2, v3, s2, _⟩
      exact s2.seq hL
    · rintro i y σ H' pp hy ⟨v2, v3, s2, rfl⟩ hpp
      obtain ⟨ds, hds, rfl⟩ := part hy
      have hm := List.mem_of_getElem? hds
      have s3 : Same H' (upd H' pp (.tup [.int i, .str (htx ds)])) := Same.new hpp
      refine ⟨pp, _, rfl, SqT.new, rfl, _, _, rfl, _, _, rfl, rfl, ?_⟩
      have hhl := htx_len (hok ds hm) (h40 ds hm)
      refine ⟨_, rfl, htx ds, rfl, by omega, fun H2 s4 => ⟨_, rfl, ifF ?_ ⟨_, _, s2.trans (s3.trans s4), rfl⟩⟩⟩
      rw [isHand_htx (hok ds hm)]; rfl
    · rintro σ H2 ⟨v2, v3, s2, rfl⟩
      refine ⟨_, rfl, l0, rfl, ⟨_, s2.seq hL⟩, fun D hD => comp_list (xs := (hs.map htx).map V.str) (fun i σ ys H' => ∃ (ps : Hands) (v : Option V), Same H2 H' ∧ H' D = some (.lst ys) ∧ ys = ps.map (fun h => V.ref h.1) ∧ (∀ h ∈ ps, H' h.1 = some (.lst (h.2.map fun x => V.ref x.a)) ∧ H2 h.1 = none ∧ h.1 ≠ D) ∧ (ps.map (·.1)).Nodup ∧ (∀ h ∈ ps, ∀ x ∈ h.2, IsD K H' x) ∧ pdat ps = hs.take i ∧ σ = [v]) ?_ ?_ ?_ ?_ ?_⟩
      · exact ⟨[], none, Same.new hD, upd_same, rfl, (fun x hx => by cases hx), List.nodup_nil, (fun x hx => by cases hx), rfl, rfl⟩
      · rintro i σ ys H' hi ⟨ps, v, s3, hD', rfl, hps, nd, hds, e, rfl⟩
        refine ⟨(s2.trans s3).seq hL, hD', ?_⟩
        have := congrArg List.length e
        unfold pdat at this
        rw [List.length_map, List.length_take] at this
        rw [List.length_map]
        omega
      · rw [List.length_map, List.length_map]; exact Nat.le_of_lt (small1000 (by omega))
      · rintro i y σ ys H' hy ⟨ps, v, s3, hD', rfl, hps, nd, hds, e, rfl⟩
        obtain ⟨ds, hds', rfl⟩ := part hy
        have hm := List.mem_of_getElem? hds'
        refine ⟨_, rfl, ds, rfl, hok ds hm, h40 ds hm, fun l xs H3 s4 hl hl3 hx ex => ?_⟩
        have hlD : l ≠ D := fun z => by rw [z, hD'] at hl; cases hl
        refine ⟨s4 _ _ hD', ps ++ [(l, xs)], _, Same.at hD (s3.trans s4), upd_same, by rw [List.map_append]; rfl, fun h hh => ?_, ?_, fun h hh x hx' => ?_, ?_, rfl⟩
        · rcases List.mem_append.mp hh with hh | hh
          · obtain ⟨a1, a2, a3⟩ := hps h hh
            exact ⟨by rw [upd_ne a3]; exact s4 _ _ a1, a2, a3⟩
          · rw [List.mem_singleton.mp hh]
            exact ⟨by show upd H3 D _ l = _; rw [upd_ne hlD]; exact hl3, s3.free hl, hlD⟩
        · rw [List.map_append]
          refine List.nodup_append.mpr ⟨nd, (by simp), fun a ha b hb => ?_⟩
          have eb : b = l := List.mem_singleton.mp hb
          obtain ⟨h, hh, rfl⟩ := List.mem_map.mp ha
          intro z
          have a1 := (hps h hh).1
          rw [z, eb, hl] at a1
          cases a1
        · rcases List.mem_append.mp hh with hh | hh
          · exact ((hds h hh x hx').same s4).lset (s4 _ _ hD')
          · rw [List.mem_singleton.mp hh] at hx'
            exact (hx x hx').lset (s4 _ _ hD')
        · unfold pdat at e ⊢
          rw [List.map_append, e, List.take_add_one, hds', List.map_singleton, ex]; rfl
      · rintro σ ys H3 ⟨ps, v, s3, hD', rfl, hps, nd, hds, e, rfl⟩
        rw [List.length_map, List.length_map, List.take_of_length_le (Nat.le_refl _)] at e
        have hpl : ps.length = hs.length := by
          have := congrArg List.length e
          unfold pdat at this
          rwa [List.length_map] at this
        refine ⟨_, rfl, D, _, rfl, .inl (SqL.of hD'), _, _, rfl, rfl, _, rfl, ifDf (by rw [List.length_map]; omega) ?_⟩
        refine ⟨_, rfl, D, rfl, ⟨_, SqL.of hD'⟩, fun D2 hD2 => comp_list (xs := ps.map fun h => V.ref h.1) (fun i σ ys H' => Same H3 H' ∧ H' D2 = some (.lst ys) ∧ ys = (ps.take i).map (fun h => V.int (h.2.length : Int)) ∧ ∃ v, σ = [v]) ?_ ?_ ?_ ?_ ?_⟩
        · exact ⟨Same.new hD2, upd_same, rfl, none, rfl⟩
        · rintro i σ ys H' hi ⟨s4, hD2', rfl, v, rfl⟩
          refine ⟨SqL.of (s4 _ _ hD'), hD2', ?_⟩
          rw [List.length_map, List.length_take]
          omega
        · rw [List.length_map]; exact Nat.le_of_lt (small1000 (by omega))
        · rintro i y σ ys H' hy ⟨s4, hD2', rfl, v, rfl⟩
          obtain ⟨h, hh, rfl⟩ := refs_get hy
          have hh3 := (hps h (List.mem_of_getElem? hh)).1
          refine ⟨_, rfl, h.1, _, rfl, .inl (SqL.of (s4 _ _ hh3)), hD2', Same.at hD2 s4, upd_same, ?_, _, rfl⟩
          rw [take_map_succ hh, List.length_map]
        · rintro σ ys H4 ⟨s4, hD2', rfl, v, rfl⟩
          rw [List.length_map, List.take_of_length_le (Nat.le_refl _)] at hD2'
          have esum : (ps.map fun h => (h.2.length : Int)).sum = (hs.map fun ds => (ds.length : Int)).sum := by
            rw [← e]
            unfold pdat dat
            rw [List.map_map]
            congr 1
            refine List.map_congr_left fun h _ => ?_
            show (h.2.length : Int) = (((h.2.map (·.d)).length : Nat) : Int)
            rw [List.length_map]
          refine ⟨D2, ps.map fun h => (h.2.length : Int), rfl, ?_, _, _, rfl, rfl, _, rfl, ifDf (by omega) ?_⟩
          · rw [List.map_map]; exact SqL.of hD2'
          · have s14 := s1.trans (s2.trans (s3.trans s4))
            have s12 := s1.trans s2
            refine ⟨_, rfl, q D ps H4 s14 ⟨s4 _ _ hD', s12.free hD, fun h hh => ?_, nd, fun z => ?_, fun h hh x hx => (hds h hh x hx).same s4⟩ e⟩
            · obtain ⟨a1, a2, _⟩ := hps h hh
              exact ⟨s4 _ _ a1, s12.free a2⟩
            · obtain ⟨h, hh, ee⟩ := List.mem_map.mp z
              exact (hps h hh).2.2 ee
end
end Own


set_option Elab.async false
set_option linter.all false
set_option maxRecDepth 100000
set_option maxHeartbeats 4100000
namespace Own
open PySem L2
abbrev NamS (x : Str) : Prop := isNam x = true
abbrev lets (x : Str) : Prop := ∀ c ∈ sg x, 97 ≤ c ∧ c ≤ 122
def sp_Lcellat (K : PySem.W.Frag) : Sp := fun vs H Q _ => ∃ (a : Addr) (ns : List Int) (k : Int), vs = [.ref a, .int k] ∧ SqL K H a (ns.map V.int) ∧ 0 ≤ k ∧ Q (.int (ns.getD k.toNat 0)) H
def sp_Lname (K : PySem.W.Frag) : Sp := fun vs H Q _ => ∃ (c : Int), vs = [.int c] ∧ ∀ x : Str, NamS x → Q (.str x) H
def sp_Lnumber (K : PySem.W.Frag) : Sp := fun vs H Q _ => ∃ (c : Int), vs = [.int c] ∧ ∀ n : Int, n.natAbs < 10 ^ 60 → Q (.int n) H
def sp_Lpart (K : PySem.W.Frag) : Sp := fun vs H Q _ => ∃ (c k m : Int), vs = [.int c, .int k, .int m] ∧ 0 ≤ k ∧ k < 8 ∧ 0 < m ∧ ∀ r H', Same H H' → 0 ≤ r → r < m → Q (.int r) H'
def sp_Lnames (K : PySem.W.Frag) : Sp := fun vs H Q _ => ∃ (c y : Int), vs = [.int c, .int y] ∧ 0 ≤ y ∧ ∀ l (S : List Str) H', Same H H' → H' l = some (.lst (S.map V.str)) → S.length = 3 → (∀ x ∈ S, NamS x) → Q (.ref l) H'
def sp_Ldeed (K : PySem.W.Frag) : Sp := fun vs H Q _ => ∃ (c kd : Int) (sl hl : Addr) (S C : List Str), vs = [.int c, .int kd, .ref sl, .ref hl] ∧ SqL K H sl (S.map V.str) ∧ SqL K H hl (C.map V.str) ∧ S.length = 3 ∧ C.length = 3 ∧ (∀ x ∈ S, NamS x) ∧ (∀ x ∈ C, NamS x) ∧
  ∀ (x : Dd) H', Same H H' → IsD K H' x → Q (.ref x.a) H'
theorem len_one (c : Nat) : (⟨#[c]⟩ : Str).length = 1 := rfl
theorem len_app (a b : Str) : (a ++ b).length = a.length + b.length := by rw [← sg_len, sg_app, List.length_append, sg_len, sg_len]
theorem lets_app {a b : Str} (h : lets a) (g : lets b) : lets (a ++ b) := fun c hc => by
  rw [sg_app] at hc
  rcases List.mem_append.mp hc with hc | hc
  · exact h c hc
  · exact g c hc
theorem lets_one {c : Nat} (h : 97 ≤ c ∧ c ≤ 122) : lets ⟨#[c]⟩ := fun d hd => by
  rw [List.mem_singleton.mp (show d ∈ [c] from hd)]; exact h
theorem letters_len : ("abcdefghijklmnopqrstuvwxyz" : Str).cps.toList.length = 26 := by decide +kernel
theorem letters_fit : ("abcdefghijklmnopqrstuvwxyz" : Str).length ≤ sizeLine := by rw [sizeLine_eq]; decide +kernel
theorem letter_at {i : Int} (h0 : 0 ≤ i) (h1 : i < 26) : ∃ c, atI ("abcdefghijklmnopqrstuvwxyz" : Str).cps.toList i = some c ∧ 97 ≤ c ∧ c ≤ 122 := by
  obtain ⟨j, rfl⟩ := Int.eq_ofNat_of_zero_le h0
  have hj : j < ("abcdefghijklmnopqrstuvwxyz" : Str).cps.toList.length := by rw [letters_len]; omega
  exact ⟨_, atI_nat (List.getElem?_eq_getElem hj), (let_mem _).mp (List.getElem_mem hj)⟩
theorem sign_at {x : Str} {i : Int} (h0 : 0 ≤ i) (h1 : i < x.length) : ∃ c, atI x.cps.toList i = some c := by
  obtain ⟨j, rfl⟩ := Int.eq_ofNat_of_zero_le h0
  have hj : j < x.cps.toList.length := by rw [show x.cps.toList.length = x.length from sg_len x]; omega
  exact ⟨_, atI_nat (List.getElem?_eq_getElem hj)⟩
theorem strs_atI {S : List Str} {i : Int} (h0 : 0 ≤ i) (h1 : i < S.length) : ∃ z ∈ S, atI (S.map V.str) i = some (.str z) := by
  obtain ⟨j, rfl⟩ := Int.eq_ofNat_of_zero_le h0
  have hj : j < S.length := by omega
  exact ⟨S[j], List.getElem_mem hj, atI_nat (by rw [List.getElem?_map, List.getElem?_eq_getElem hj]; rfl)⟩
theorem slice_to {z : Str} {k : Nat} (h : k ≤ z.length) : sg (Txt.slice z none (some (k : Int))) = (sg z).take k := by
  have e := StrLaws.strSliceIndices_plain (a := 0) (b := k) (len := z.length) (Nat.zero_le _) h
  have p := StrLaws.sliced_plain z (a := 0) (b := k) (Nat.zero_le _) h
  have e0 : Builtin.Str.strSliceIndices none (some (k : Int)) 1 z.length = Builtin.Str.strSliceIndices (some ((0 : Nat) : Int)) (some (k : Int)) 1 z.length := by
    unfold Builtin.Str.strSliceIndices
    have e : max 0 (min (if ((0 : Nat) : Int) < 0 then ((0 : Nat) : Int) + (z.length : Int) else ((0 : Nat) : Int)) (z.length : Int)) = 0 := by
      rw [if_neg (by omega)]; omega
    simp only [show (1 : Int) > 0 by decide, if_true, e]
  unfold Txt.slice
  rw [e0]
  split
  · rename_i c
    rw [e, List.length_map, List.length_range] at c
    have c2 : k = z.length := by simpa using c
    rw [c2, List.take_of_length_le (by rw [sg_len]; exact Nat.le_refl _)]
  · show ((List.filterMap _ _).toArray).toList = _
    rw [p, List.toList_toArray, List.drop_zero, Nat.sub_zero]
theorem slice_from {z : Str} {k : Nat} (h : k ≤ z.length) : sg (Txt.slice z (some (k : Int)) none) = (sg z).drop k := by
  have e := StrLaws.strSliceIndices_plain (a := k) (b := z.length) (len := z.length) h (Nat.le_refl _)
  have p := StrLaws.sliced_plain z (a := k) (b := z.length) h (Nat.le_refl _)
  unfold Txt.slice
  rw [slice_none]
  split
  · rename_i c
    rw [e, List.length_map, List.length_range] at c
    have c2 : z.length - k = z.length := by simpa using c
    by_cases hz : z.length = 0
    · have : sg z = [] := List.length_eq_zero_iff.mp (by rw [sg_len]; exact hz)
      rw [this]; simp
    · have : k = 0 := by omega
      rw [this, List.drop_zero]
  · show ((List.filterMap _ _).toArray).toList = _
    rw [p, List.toList_toArray]
    exact List.take_of_length_le (by rw [List.length_drop, show z.cps.toList.length = z.length from sg_len z]; exact Nat.le_refl _)
theorem lets_sub {z u : Str} (h : lets z) (hu : ∀ c ∈ sg u, c ∈ sg z) : lets u := fun c hc => h c (hu c hc)
section
variable {P : Program} {w : World} {K : PySem.W.Frag} {mg : Str → Option Value} {base : Heap}
theorem sc_Lcellat : FnScope ["_law_script", "_law_k"] ["_law_script", "_law_k"] (defScope s_Lcellat) := ⟨rfl, rfl, rfl, by decide +kernel, rfl, by decide +kernel, by decide +kernel⟩
theorem ok_Lcellat {f : Addr} {fd : FuncData} (F : Fun K "_law_cell_at" "_law_cell_at" s_Lcellat f fd) (T : Txt K mg)  : FnOk P w K mg base CX0 1 f fd ["_law_script", "_law_k"] (sp_Lcellat K) := by
  refine F.ok (k := 0) sc_Lcellat (fun vs H Q E h => ?_) (fun cdv A outer s H vs Q E hr h => ?_)
  · obtain ⟨a, ns, k, rfl, _⟩ := h
    rfl
  · obtain ⟨a, ns, k, rfl, hS, h0, q⟩ := h
    refine ⟨_, (pss_cons (ps_if (pt_cmpR op_lt (pv 1) (pe_callB call_len_seq rfl T.n_len bt_len (pa_cons (pv 0) pa_nil)) (nomark _))
      (pss_one (ps_ret (pe_ix ix_list (pv 0) (pv 1) (fun _ _ => rfl))))
      pss_nil)
      (pss_one (ps_ret pe_int))), ?_⟩
    refine ⟨_, rfl, _, rfl, a, _, rfl, .inl hS, _, _, rfl, rfl, _, rfl, ite2 (fun c => ?_) (fun c => ?_)⟩
    · have c' : k < ((ns.map V.int).length : Int) := of_decide_eq_true c
      rw [List.length_map] at c'
      obtain ⟨j, rfl⟩ := Int.eq_ofNat_of_zero_le h0
      have hj : j < ns.length := by omega
      refine ⟨_, rfl, _, rfl, a, _, _, _, rfl, rfl, hS, atI_nat (v := V.int ns[j]) (by rw [List.getElem?_map, List.getElem?_eq_getElem hj]; rfl), ?_⟩
      have e : ns.getD ((j : Int)).toNat 0 = ns[j] := by rw [Int.toNat_natCast, List.getD_eq_getElem?_getD, List.getElem?_eq_getElem hj]; rfl
      rw [e] at q
      exact q
    · have c' : ¬ k < ((ns.map V.int).length : Int) := fun z => c (decide_eq_true z)
      rw [List.length_map] at c'
      have e : ns.getD k.toNat 0 = 0 := by rw [List.getD_eq_getElem?_getD, List.getElem?_eq_none (by omega)]; rfl
      rw [e] at q
      exact q
theorem sc_Lname : FnScope ["_law_cell", "_law_letters", "_law_rest", "_law_name_here", "_law_k"] ["_law_cell"] (defScope s_Lname) := ⟨rfl, rfl, rfl, by decide +kernel, rfl, by decide +kernel, by decide +kernel⟩
theorem ok_Lname {f : Addr} {fd : FuncData} (F : Fun K "_law_name" "_law_name" s_Lname f fd) (T : Txt K mg)  : FnOk P w K mg base CX0 1 f fd ["_law_cell"] (sp_Lname K) := by
  refine F.ok (k := 0) sc_Lname (fun vs H Q E h => ?_) (fun cdv A outer s H vs Q E hr h => ?_)
  · obtain ⟨c, rfl, _⟩ := h
    rfl
  · obtain ⟨c, rfl, q⟩ := h
    refine ⟨_, (pss_cons (ps_set (i := 1) sc_Lname.nd rfl (Or.inl rfl) pe_str)
      (pss_cons (ps_set (i := 2) sc_Lname.nd rfl (Or.inl rfl) (pe_op op_mod (pe_op op_mul (pv 0) pe_int) pe_int))
      (pss_cons (ps_set (i := 3) sc_Lname.nd rfl (Or.inl rfl) pe_str)
      (pss_cons (ps_for PassesOwn.never rfl (pi_range1 rfl T.n_range (pa_cons (pe_op op_add pe_int (pe_op op_mod (pv 2) pe_int)) pa_nil)) (pg_name (i := 4) sc_Lname.nd rfl (Or.inl rfl))
      (pss_cons (ps_set (i := 2) sc_Lname.nd rfl (Or.inl rfl) (pe_op op_fdiv (pv 2) pe_int))
      (pss_one (ps_set (i := 3) sc_Lname.nd rfl (Or.inl rfl) (pe_op op_add_str (pv 3) (pe_ix ix_str (pv 1) (pe_op op_mod (pv 2) pe_int) (fun _ _ => rfl)))))))
      (pss_one (ps_ret (pv 3))))))), ?_⟩
    have hb : (c * 982451653 % 1000000000039 % 8) < 8 := Int.emod_lt_of_pos _ (by decide)
    have hb0 : 0 ≤ (c * 982451653 % 1000000000039 % 8) := Int.emod_nonneg _ (by decide)
    refine ⟨_, rfl, _, _, rfl, rfl, .inr ⟨by decide, by decide⟩, _, _, rfl, rfl, (by show (0 : Int) < 1000000000039; decide), ?_⟩
    refine ⟨_, rfl, _, _, rfl, rfl, (by show (0 : Int) < 8; decide), _, _, rfl, rfl, _, rfl, by omega, by omega, for_range (n := (1 + c * 982451653 % 1000000000039 % 8).toNat) (fun i σ H' => H' = H ∧ ∃ (r : Int) (x : Str) (v : Option V), σ = [some (.int c), some (.str "abcdefghijklmnopqrstuvwxyz"), some (.int r), some (.str x), v] ∧ x.length = i ∧ lets x) ?_ ?_ ?_⟩
    · exact ⟨rfl, _, _, none, rfl, rfl, fun c hc => by cases (show c ∈ ([] : List Nat) from hc)⟩
    · rintro i σ H' hi ⟨rfl, r, x, v, rfl, hx, hlx⟩
      have hi' : i < 8 := by omega
      have h1 : 0 ≤ r / 8 % 26 := Int.emod_nonneg _ (by decide)
      have h2 : r / 8 % 26 < 26 := Int.emod_lt_of_pos _ (by decide)
      obtain ⟨z, hz, hzr⟩ := letter_at h1 h2
      refine ⟨_, rfl, _, _, rfl, rfl, ⟨by decide, by decide⟩, ?_⟩
      refine ⟨_, rfl, _, rfl, _, rfl, _, _, rfl, rfl, (by show (0 : Int) < 26; decide), _, _, z, rfl, rfl, letters_fit, hz, _, _, rfl, rfl, ?_, ?_⟩
      · rw [len_one, sizeLine_eq]; omega
      · exact ⟨rfl, _, _, _, rfl, by rw [len_app, len_one]; omega, lets_app hlx (lets_one hzr)⟩
    · rintro σ H' ⟨rfl, r, x, v, rfl, hx, hlx⟩
      exact ⟨_, rfl, q x (nam_of (by omega) (by omega) hlx)⟩
theorem ten60 : (10 : Int) ^ ((60 : Int).toNat) = 1000000000000000000000000000000000000000000000000000000000000 := by decide +kernel
theorem ten60n : (10 : Nat) ^ 60 = 1000000000000000000000000000000000000000000000000000000000000 := by decide +kernel
theorem sc_Lnumber : FnScope ["_law_cell"] ["_law_cell"] (defScope s_Lnumber) := ⟨rfl, rfl, rfl, by decide +kernel, rfl, by decide +kernel, by decide +kernel⟩
theorem ok_Lnumber {f : Addr} {fd : FuncData} (F : Fun K "_law_number" "_law_number" s_Lnumber f fd) (T : Txt K mg)  : FnOk P w K mg base CX0 1 f fd ["_law_cell"] (sp_Lnumber K) := by
  refine F.ok (k := 0) sc_Lnumber (fun vs H Q E h => ?_) (fun cdv A outer s H vs Q E hr h => ?_)
  · obtain ⟨c, rfl, _⟩ := h
    rfl
  · obtain ⟨c, rfl, q⟩ := h
    refine ⟨_, (pss_cons (ps_if (pt_cmpR op_eq (pe_op op_mod (pv 0) pe_int) pe_int (nomark _))
      (pss_one (ps_ret (pe_op op_sub (pe_op op_mod (pe_op op_fdiv (pv 0) pe_int) (pe_op op_sub (pe_op op_mul pe_int (pe_op op_pow pe_int pe_int)) pe_int)) (pe_op op_sub (pe_op op_pow pe_int pe_int) pe_int))))
      pss_nil)
      (pss_one (ps_ret (pe_op op_sub (pe_op op_mod (pe_op op_fdiv (pv 0) pe_int) pe_int) pe_int)))), ?_⟩
    refine ⟨_, rfl, _, _, rfl, rfl, (by show (0 : Int) < 3; decide), rfl, _, rfl, ite2 (fun _ => ?_) (fun _ => ?_)⟩
    · refine ⟨_, rfl, _, _, rfl, rfl, ⟨by decide, by decide⟩, _, _, rfl, rfl, ⟨by decide, by decide, by decide⟩, _, _, rfl, rfl, .inl ⟨by decide, by decide⟩, _, _, rfl, rfl, _, _, rfl, rfl, (by show (0 : Int) < 2 * 10 ^ 60 - 1; decide), _, _, rfl, rfl, ⟨by decide, by decide, by decide⟩, _, _, rfl, rfl, _, _, rfl, rfl, q _ ?_⟩
      rw [ten60, ten60n]
      have a1 := Int.emod_nonneg (c / 3) (b := 2 * 1000000000000000000000000000000000000000000000000000000000000 - 1) (by decide)
      have a2 := Int.emod_lt_of_pos (c / 3) (b := 2 * 1000000000000000000000000000000000000000000000000000000000000 - 1) (by decide)
      omega
    · refine ⟨_, rfl, _, _, rfl, rfl, ⟨by decide, by decide⟩, _, _, rfl, rfl, (by show (0 : Int) < 7; decide), _, _, rfl, rfl, q _ ?_⟩
      rw [ten60n]
      omega
theorem sc_Lpart : FnScope ["_law_cell", "_law_k", "_law_many", "_law_by", "_law_primes"] ["_law_cell", "_law_k", "_law_many"] (defScope s_Lpart) := ⟨rfl, rfl, rfl, by decide +kernel, rfl, by decide +kernel, by decide +kernel⟩
theorem ok_Lpart {f : Addr} {fd : FuncData} (F : Fun K "_law_part" "_law_part" s_Lpart f fd) (T : Txt K mg)  : FnOk P w K mg base CX0 1 f fd ["_law_cell", "_law_k", "_law_many"] (sp_Lpart K) := by
  refine F.ok (k := 0) sc_Lpart (fun vs H Q E h => ?_) (fun cdv A outer s H vs Q E hr h => ?_)
  · obtain ⟨c, k, m, rfl, _⟩ := h
    rfl
  · obtain ⟨c, k, m, rfl, k0, k8, hm, q⟩ := h
    refine ⟨_, (pss_cons (ps_set (i := 3) sc_Lpart.nd rfl (Or.inl rfl) (pe_tup (pa_cons pe_int (pa_cons pe_int (pa_cons pe_int (pa_cons pe_int (pa_cons pe_int (pa_cons pe_int (pa_cons pe_int (pa_cons pe_int pa_nil))))))))))
      (pss_cons (ps_set (i := 4) sc_Lpart.nd rfl (Or.inl rfl) (pe_tup (pa_cons pe_int (pa_cons pe_int (pa_cons pe_int (pa_cons pe_int (pa_cons pe_int (pa_cons pe_int (pa_cons pe_int (pa_cons pe_int pa_nil))))))))))
      (pss_one (ps_ret (pe_op op_mod (pe_op op_mod (pe_op op_mul (pv 0) (pe_ix ix_tup (pv 3) (pv 1) (fun _ _ => rfl))) (pe_ix ix_tup (pv 4) (pv 1) (fun _ _ => rfl))) (pv 2)))))), ?_⟩
    refine ⟨by decide, fun t1 h1 => ⟨by decide, fun t2 h2 => ?_⟩⟩
    have key : ∃ b p : Int, atI [V.int 982451653, .int 961748941, .int 941083987, .int 920419823, .int 899809363, .int 879190841, .int 858599509, .int 838041647] k = some (.int b) ∧ atI [V.int 1000003, .int 1000033, .int 1000037, .int 1000039, .int 1000081, .int 1000099, .int 1000117, .int 1000121] k = some (.int p) ∧ 0 ≤ b ∧ b ≤ 1000000000 ∧ 0 < p := by
      obtain ⟨j, rfl⟩ := Int.eq_ofNat_of_zero_le k0
      have hj : j < 8 := by omega
      match j, hj with
      | 0, _ => exact ⟨_, _, rfl, rfl, by decide, by decide, by decide⟩
      | 1, _ => exact ⟨_, _, rfl, rfl, by decide, by decide, by decide⟩
      | 2, _ => exact ⟨_, _, rfl, rfl, by decide, by decide, by decide⟩
      | 3, _ => exact ⟨_, _, rfl, rfl, by decide, by decide, by decide⟩
      | 4, _ => exact ⟨_, _, rfl, rfl, by decide, by decide, by decide⟩
      | 5, _ => exact ⟨_, _, rfl, rfl, by decide, by decide, by decide⟩
      | 6, _ => exact ⟨_, _, rfl, rfl, by decide, by decide, by decide⟩
      | 7, _ => exact ⟨_, _, rfl, rfl, by decide, by decide, by decide⟩
    obtain ⟨b, p, hb, hp, b0, b1, p0⟩ := key
    have s2 := Same.new (o := .tup [V.int 1000003, .int 1000033, .int 1000037, .int 1000039, .int 1000081, .int 1000099, .int 1000117, .int 1000121]) h2
    refine ⟨_, rfl, _, rfl, _, rfl, t1, _, _, _, rfl, rfl, s2.seqT SqT.new, hb, _, _, rfl, rfl, .inr ⟨by omega, by omega⟩, _, rfl, _, rfl, t2, _, _, _, rfl, rfl, SqT.new, hp, _, _, rfl, rfl, p0, _, rfl, _, _, rfl, rfl, hm, q _ _ ((Same.new h1).trans s2) (Int.emod_nonneg _ (by omega)) (Int.emod_lt_of_pos _ hm)⟩
theorem sc_Lnames : FnScope ["_law_cell", "_law_way", "_law_letters", "_law_base", "_law_at", "_law_found", "_law_k", "_law_sign"] ["_law_cell", "_law_way"] (defScope s_Lnames) := ⟨rfl, rfl, rfl, by decide +kernel, rfl, by decide +kernel, by decide +kernel⟩
theorem ok_Lnames {f : Addr} {fd : FuncData} (F : Fun K "_law_names" "_law_names" s_Lnames f fd) (T : Txt K mg) (h_Lname : Has P w K mg base 1 "_law_name" ["_law_cell"] (sp_Lname K)) : FnOk P w K mg base CX0 2 f fd ["_law_cell", "_law_way"] (sp_Lnames K) := by
  refine F.ok (k := 1) sc_Lnames (fun vs H Q E h => ?_) (fun cdv A outer s H vs Q E hr h => ?_)
  · obtain ⟨c, y, rfl, _⟩ := h
    rfl
  · obtain ⟨c, y, rfl, y0, q⟩ := h
    refine ⟨_, (pss_cons (ps_set (i := 2) sc_Lnames.nd rfl (Or.inl rfl) pe_str)
      (pss_cons (ps_set (i := 3) sc_Lnames.nd rfl (Or.inl rfl) (pe_fn h_Lname (hr.mono (by decide)) (pa_cons (pv 0) pa_nil)))
      (pss_cons (ps_set (i := 4) sc_Lnames.nd rfl (Or.inl rfl) (pe_op op_mod (pe_op op_fdiv (pv 1) pe_int) (pe_callB call_len_str rfl T.n_len bt_len (pa_cons (pv 3) pa_nil))))
      (pss_cons (ps_if (pt_cmpR op_eq (pe_op op_mod (pv 1) pe_int) pe_int (nomark _))
      (pss_one (ps_ret (pe_lst (pa_cons (pv 3) (pa_cons (pe_fn h_Lname (hr.mono (by decide)) (pa_cons (pe_op op_add (pe_op op_add (pe_op op_mul (pv 0) pe_int) (pv 1)) pe_int) pa_nil)) (pa_cons (pe_fn h_Lname (hr.mono (by decide)) (pa_cons (pe_op op_add (pe_op op_add (pe_op op_mul (pv 0) pe_int) (pv 1)) pe_int) pa_nil)) pa_nil))))))
      pss_nil)
      (pss_cons (ps_if (PW.pt (pw_and (pt_cmpR op_eq (pe_op op_mod (pv 1) pe_int) pe_int (nomark _)) (pw_and1 (pt_cmpR op_lt (pe_callB call_len_str rfl T.n_len bt_len (pa_cons (pv 3) pa_nil)) pe_int (nomark _)))))
      (pss_one (ps_ret (pe_lst (pa_cons (pv 3) (pa_cons (pe_op op_add_str (pv 3) (pe_ix ix_str (pv 2) (pe_op op_mod (pe_op op_fdiv (pv 1) pe_int) pe_int) (fun _ _ => rfl))) (pa_cons (pe_op op_add_str (pe_op op_add_str (pv 3) (pe_ix ix_str (pv 2) (pe_op op_mod (pe_op op_fdiv (pv 1) pe_int) pe_int) (fun _ _ => rfl))) pe_str) pa_nil))))))
      pss_nil)
      (pss_cons (ps_set (i := 5) sc_Lnames.nd rfl (Or.inl rfl) (pe_lst pa_nil))
      (pss_cons (ps_for PassesOwn.never rfl (pi_range1 rfl T.n_range (pa_cons pe_int pa_nil)) (pg_name (i := 6) sc_Lnames.nd rfl (Or.inl rfl))
      (pss_cons (ps_set (i := 7) sc_Lnames.nd rfl (Or.inl rfl) (pe_ix ix_str (pv 2) (pe_op op_mod (pe_op op_add (pe_callB call_ord rfl T.n_ord bt_ord (pa_cons (pe_ix ix_str (pv 3) (pv 4) (fun _ _ => rfl)) pa_nil)) (pe_op op_mul (pv 6) (pe_op op_add pe_int (pe_op op_mod (pe_op op_fdiv (pv 1) pe_int) pe_int)))) pe_int) (fun _ _ => rfl)))
      (pss_one (ps_expr (pe_bm PySem.F.plainAttrs_list PySem.F.slot_list_append PySem.F.type_list_append mt_append (pv 5) (pa_cons (pe_op op_add_str (pe_op op_add_str (pe_slice sl_str (pv 3) po_none (po_some (pv 4))) (pv 7)) (pe_slice sl_str (pv 3) (po_some (pe_op op_add (pv 4) pe_int)) po_none)) pa_nil))))))
      (pss_one (ps_ret (pv 5)))))))))), ?_⟩
    refine ⟨_, rfl, c, rfl, fun b bnam => ?_⟩
    obtain ⟨b1, b8, blet⟩ := nam_signs bnam
    have bz : b.length ≤ sizeLine := Nat.le_of_lt (small1000 (by omega))
    have at0 : 0 ≤ y / 4 % (b.length : Int) := Int.emod_nonneg _ (by omega)
    have at1 : y / 4 % (b.length : Int) < (b.length : Int) := Int.emod_lt_of_pos _ (by omega)
    refine ⟨_, rfl, _, _, rfl, rfl, ⟨by decide, by decide⟩, _, rfl, b, rfl, bz, _, _, rfl, rfl, (by show (0 : Int) < (b.length : Int); omega), ?_⟩
    generalize hat : y / 4 % (b.length : Int) = pat at at0 at1
    have made_nam : ∀ {z : Nat}, 97 ≤ z ∧ z ≤ 122 → NamS (Txt.slice b none (some pat) ++ ⟨#[z]⟩ ++ Txt.slice b (some (pat + 1)) none) := fun {z} hz => by
      obtain ⟨k, rfl⟩ := Int.eq_ofNat_of_zero_le at0
      have e1 : sg (Txt.slice b none (some ((k : Nat) : Int))) = (sg b).take k := slice_to (by omega)
      have e2 : sg (Txt.slice b (some ((k : Nat) + 1 : Int)) none) = (sg b).drop (k + 1) := slice_from (k := k + 1) (by omega)
      refine nam_of ?_ ?_ (lets_app (lets_app (lets_sub blet fun c hc => ?_) (lets_one hz)) (lets_sub blet fun c hc => ?_))
      · rw [len_app, len_app, len_one]; omega
      · rw [len_app, len_app, len_one, ← sg_len, ← sg_len, e1, e2, List.length_take, List.length_drop, sg_len]
        omega
      · rw [e1] at hc; exact List.mem_of_mem_take hc
      · rw [e2] at hc; exact List.mem_of_mem_drop hc
    refine ⟨_, rfl, _, _, rfl, rfl, (by show (0 : Int) < 4; decide), rfl, _, rfl, ite2 (fun _ => ?_) (fun _ => ?_)⟩
    · refine ⟨_, rfl, _, rfl, _, _, rfl, rfl, .inr ⟨by decide, by decide⟩, _, rfl, _, _, rfl, rfl, _, _, rfl, rfl, _, rfl, fun x1 x1n => ?_⟩
      refine ⟨_, rfl, _, _, rfl, rfl, .inr ⟨by decide, by decide⟩, _, rfl, _, _, rfl, rfl, _, _, rfl, rfl, _, rfl, fun x2 x2n => ⟨(by show 3 ≤ sizeLine; decide), fun l hl => ?_⟩⟩
      exact q l [b, x1, x2] _ (Same.new hl) upd_same rfl (fun x hx => by simp only [List.mem_cons, List.not_mem_nil, or_false] at hx; rcases hx with rfl | rfl | rfl <;> assumption)
    refine ⟨_, rfl, _, _, rfl, rfl, (by show (0 : Int) < 4; decide), rfl, _, rfl, ite2 (fun _ => ⟨_, rfl, b, rfl, bz, _, _, rfl, rfl, _, rfl, ite2 (fun c7 => ?_) (fun _ => ?_)⟩) (fun _ => iteF ?_)⟩
    · have c7' := of_decide_eq_true c7
      obtain ⟨z1, hz1, hz1r⟩ := letter_at (i := y / 4 % 26) (Int.emod_nonneg _ (by decide)) (Int.emod_lt_of_pos _ (by decide))
      obtain ⟨z2, hz2, hz2r⟩ := letter_at (i := y / 104 % 26) (Int.emod_nonneg _ (by decide)) (Int.emod_lt_of_pos _ (by decide))
      refine ⟨_, rfl, _, rfl, _, rfl, _, rfl, _, _, rfl, rfl, ⟨by decide, by decide⟩, _, _, rfl, rfl, (by show (0 : Int) < 26; decide), _, _, z1, rfl, rfl, letters_fit, hz1, _, _, rfl, rfl, (by rw [len_one]; exact Nat.le_of_lt (small1000 (by omega))), ?_⟩
      refine ⟨_, rfl, _, rfl, _, rfl, _, _, rfl, rfl, ⟨by decide, by decide⟩, _, _, rfl, rfl, (by show (0 : Int) < 26; decide), _, _, z2, rfl, rfl, letters_fit, hz2, _, _, rfl, rfl, (by rw [len_one]; exact Nat.le_of_lt (small1000 (by omega))), _, _, rfl, rfl, (by rw [len_app, len_one]; exact Nat.le_of_lt (small1000 (by show _ + 1 ≤ 1000; omega))), ?_⟩
      refine ⟨(by show 3 ≤ sizeLine; decide), fun l hl => q l [b, b ++ ⟨#[z1]⟩, b ++ ⟨#[z2]⟩ ++ "a"] _ (Same.new hl) upd_same rfl (fun x hx => ?_)⟩
      have la : lets ("a" : Str) := lets_one (c := 97) (by omega)
      simp only [List.mem_cons, List.not_mem_nil, or_false] at hx
      rcases hx with rfl | rfl | rfl
      · exact bnam
      · exact nam_of (by rw [len_app]; omega) (by rw [len_app, len_one]; omega) (lets_app blet (lets_one hz1r))
      · exact nam_of (by rw [len_app, len_app]; omega) (by rw [len_app, len_app, len_one]; show _ + 1 ≤ 8; omega) (lets_app (lets_app blet (lets_one hz2r)) la)
    all_goals
      refine ⟨by decide, fun f hf => ⟨3, rfl, by decide, by decide, for_range (n := 3) (fun i σ H' => ∃ (S : List Str) (v6 v7 : Option V), Same H H' ∧ H' f = some (.lst (S.map V.str)) ∧ S.length = i ∧ (∀ x ∈ S, NamS x) ∧ σ = [some (.int c), some (.int y), some (.str "abcdefghijklmnopqrstuvwxyz"), some (.str b), some (.int pat), some (.ref f), v6, v7]) ?_ ?_ ?_⟩⟩
      · exact ⟨[], none, none, Same.new hf, upd_same, rfl, (fun x hx => by cases hx), by rw [← hat]; rfl⟩
      · rintro i σ H' hi ⟨S, v6, v7, s, hf', hS, hSn, rfl⟩
        obtain ⟨c0, hc0⟩ := sign_at at0 at1
        obtain ⟨z, hz, hzr⟩ := letter_at (i := ((((⟨#[c0]⟩ : Str).cps.getD 0 0 : Nat) : Int) + (0 + (i : Int)) * (1 + y / 32 % 5)) % 26) (Int.emod_nonneg _ (by decide)) (Int.emod_lt_of_pos _ (by decide))
        have l1 := Txt.slice_le b none (some pat)
        have l2 := Txt.slice_le b (some (pat + 1)) none
        refine ⟨_, rfl, _, rfl, _, rfl, _, _, c0, rfl, rfl, bz, hc0, _, rfl, rfl, _, rfl, _, rfl, _, _, rfl, rfl, ⟨by decide, by decide⟩, _, _, rfl, rfl, (by show (0 : Int) < 5; decide), _, _, rfl, rfl, _, _, rfl, rfl, .inl ⟨by omega, by omega⟩, _, _, rfl, rfl, _, _, rfl, rfl, (by show (0 : Int) < 26; decide), _, _, z, rfl, rfl, letters_fit, hz, ?_⟩
        refine ⟨_, rfl, .inl ⟨rfl, _, SqL.of hf'⟩, _, rfl, _, rfl, _, rfl, b, rfl, bz, _, rfl, _, _, rfl, rfl, (by rw [len_one]; exact Nat.le_of_lt (small1000 (by omega))), _, rfl, _, rfl, _, _, rfl, rfl, _, rfl, b, rfl, bz, _, _, rfl, rfl, (by rw [len_app, len_one]; exact Nat.le_of_lt (small1000 (by omega))), ?_⟩
        refine ⟨f, _, _, rfl, rfl, hf', (by rw [List.length_map]; exact small1000 (by omega)), S ++ [_], _, _, Same.at hf s, (by rw [upd_same, List.map_append]; rfl), (by rw [List.length_append, hS]; rfl), (fun x hx => ?_), rfl⟩
        rcases List.mem_append.mp hx with hx | hx
        · exact hSn x hx
        · rw [List.mem_singleton.mp hx]
          exact made_nam hzr
      · rintro σ H' ⟨S, v6, v7, s, hf', hS, hSn, rfl⟩
        exact ⟨_, rfl, q f S H' s hf' hS hSn⟩
theorem fits2 {x : Str} {n : Int} (hx : NamS x) (hn : n.natAbs < 10 ^ 60) : FitsW [.s x, .n n] ["name", "number"] := ⟨by rw [if_neg (by decide +kernel)]; exact ⟨x, rfl, hx⟩, by rw [if_pos rfl]; exact ⟨n, rfl, hn⟩, trivial⟩
theorem fitsN2 {x y : Str} (hx : NamS x) (hy : NamS y) : FitsW [.s x, .s y] ["name", "name"] := ⟨by rw [if_neg (by decide +kernel)]; exact ⟨x, rfl, hx⟩, by rw [if_neg (by decide +kernel)]; exact ⟨y, rfl, hy⟩, trivial⟩
theorem fits3 {x y : Str} {n : Int} (hx : NamS x) (hy : NamS y) (hn : n.natAbs < 10 ^ 60) : FitsW [.s x, .s y, .n n] ["name", "name", "number"] :=
  ⟨by rw [if_neg (by decide +kernel)]; exact ⟨x, rfl, hx⟩, by rw [if_neg (by decide +kernel)]; exact ⟨y, rfl, hy⟩, by rw [if_pos rfl]; exact ⟨n, rfl, hn⟩, trivial⟩
def GOk (g : List Wd) : Prop := g = [] ∨ ∃ w rest, g = .s w :: rest ∧ (w = "when" ∨ w = "unless") ∧ FitsW rest ["name", "number"]
theorem sc_Ldeed : FnScope ["_law_cell", "_law_kind", "_law_spots", "_law_held", "_law_guard", "_law_word_here", "_law_spot", "_law_cup"] ["_law_cell", "_law_kind", "_law_spots", "_law_held"] (defScope s_Ldeed) := ⟨rfl, rfl, rfl, by decide +kernel, rfl, by decide +kernel, by decide +kernel⟩
theorem ok_Ldeed {f : Addr} {fd : FuncData} (F : Fun K "_law_deed" "_law_deed" s_Ldeed f fd) (T : Txt K mg) (h_Lpart : Has P w K mg base 1 "_law_part" ["_law_cell", "_law_k", "_law_many"] (sp_Lpart K)) (h_Lnumber : Has P w K mg base 1 "_law_number" ["_law_cell"] (sp_Lnumber K)) : FnOk P w K mg base CX0 2 f fd ["_law_cell", "_law_kind", "_law_spots", "_law_held"] (sp_Ldeed K) := by
  refine F.ok (k := 1) sc_Ldeed (fun vs H Q E h => ?_) (fun cdv A outer s H vs Q E hr h => ?_)
  · obtain ⟨c, kd, sl, hl, S, C, rfl, _⟩ := h
    rfl
  · obtain ⟨c, kd, sl, hl, S, C, rfl, hsl, hhl, nS, nC, mS, mC, q⟩ := h
    refine ⟨_, (pss_cons (ps_set (i := 4) sc_Ldeed.nd rfl (Or.inl rfl) pe_non)
      (pss_cut (ps_if (pt_cmpR op_gt (pe_fn h_Lpart (hr.mono (by decide)) (pa_cons (pv 0) (pa_cons pe_int (pa_cons pe_int pa_nil)))) pe_int (nomark _))
      (pss_cons (ps_set (i := 5) sc_Ldeed.nd rfl (Or.inl rfl) (pe_ix ix_list (pe_lst (pa_cons pe_str (pa_cons pe_str pa_nil))) (pe_fn h_Lpart (hr.mono (by decide)) (pa_cons (pv 0) (pa_cons pe_int (pa_cons pe_int pa_nil)))) (fun _ _ => rfl)))
      (pss_one (ps_set (i := 4) sc_Ldeed.nd rfl (Or.inl rfl) (pe_tup (pa_cons (pv 5) (pa_cons (pe_ix ix_list (pv 3) (pe_fn h_Lpart (hr.mono (by decide)) (pa_cons (pv 0) (pa_cons pe_int (pa_cons pe_int pa_nil)))) (fun _ _ => rfl)) (pa_cons (pe_fn h_Lnumber (hr.mono (by decide)) (pa_cons (pe_op op_add (pe_op op_fdiv (pv 0) pe_int) pe_int) pa_nil)) pa_nil)))))))
      pss_nil)
      (pss_cons (ps_set (i := 6) sc_Ldeed.nd rfl (Or.inl rfl) (pe_ix ix_list (pv 2) (pe_fn h_Lpart (hr.mono (by decide)) (pa_cons (pv 0) (pa_cons pe_int (pa_cons pe_int pa_nil)))) (fun _ _ => rfl)))
      (pss_cons (ps_set (i := 7) sc_Ldeed.nd rfl (Or.inl rfl) (pe_ix ix_list (pv 3) (pe_fn h_Lpart (hr.mono (by decide)) (pa_cons (pv 0) (pa_cons pe_int (pa_cons pe_int pa_nil)))) (fun _ _ => rfl)))
      (pss_cons (ps_if (pt_cmpR op_eq (pv 1) pe_int (nomark _))
      (pss_one (ps_ret (pe_tup (pa_cons pe_str (pa_cons (pv 6) (pa_cons (pe_fn h_Lnumber (hr.mono (by decide)) (pa_cons (pv 0) pa_nil)) (pa_cons (pv 4) pa_nil)))))))
      pss_nil)
      (pss_cons (ps_if (pt_cmpR op_eq (pv 1) pe_int (nomark _))
      (pss_one (ps_ret (pe_tup (pa_cons pe_str (pa_cons (pv 7) (pa_cons (pv 6) (pa_cons (pv 4) pa_nil)))))))
      pss_nil)
      (pss_cons (ps_if (pt_cmpR op_eq (pv 1) pe_int (nomark _))
      (pss_one (ps_ret (pe_tup (pa_cons pe_str (pa_cons (pv 7) (pa_cons (pv 6) (pa_cons (pe_fn h_Lnumber (hr.mono (by decide)) (pa_cons (pv 0) pa_nil)) (pa_cons (pv 4) pa_nil))))))))
      pss_nil)
      (pss_one (ps_ret (pe_tup (pa_cons (pe_ix ix_list (pe_lst (pa_cons pe_str (pa_cons pe_str pa_nil))) (pe_op op_mod (pv 1) pe_int) (fun _ _ => rfl)) (pa_cons (pv 4) pa_nil)))))))))))), ?_⟩
    refine ⟨fun σ' H' => ∃ (gv : V) (g : List Wd) (v5 : Option V), Same H H' ∧ isG K H' gv g ∧ GOk g ∧ σ' = [some (.int c), some (.int kd), some (.ref sl), some (.ref hl), some gv, v5, none, none], ?_, ?_⟩
    · refine ⟨_, rfl, c, 3, 3, rfl, by decide, by decide, by decide, fun r H1 s1 r0 r1 => ⟨_, _, rfl, rfl, _, rfl, ite2 (fun _ => ?_) (fun _ => ?_)⟩⟩
      · refine ⟨by decide, fun l2 hl2 => ⟨_, rfl, c, 4, 2, rfl, by decide, by decide, by decide, fun r2 H2 s2 r20 r21 => ?_⟩⟩
        have hw : ∃ w : Str, atI [V.str "when", .str "unless"] r2 = some (.str w) ∧ (w = "when" ∨ w = "unless") := by
          obtain ⟨j, rfl⟩ := Int.eq_ofNat_of_zero_le r20
          have hj : j < 2 := by omega
          match j, hj with
          | 0, _ => exact ⟨_, rfl, .inl rfl⟩
          | 1, _ => exact ⟨_, rfl, .inr rfl⟩
        obtain ⟨w, hw, hww⟩ := hw
        refine ⟨l2, _, _, _, rfl, rfl, s2.seq SqL.new, hw, ?_⟩
        have s02 := s1.trans ((Same.new hl2).trans s2)
        refine ⟨_, rfl, _, rfl, _, rfl, c, 5, 3, rfl, by decide, by decide, by decide, fun r3 H3 s3 r30 r31 => ?_⟩
        obtain ⟨z, hzC, hz⟩ := strs_atI (S := C) r30 (by rw [nC]; exact r31)
        refine ⟨hl, _, _, _, rfl, rfl, (s02.trans s3).seq hhl, hz, _, rfl, _, _, rfl, rfl, ⟨by decide, by decide⟩, _, _, rfl, rfl, _, rfl, fun n hn => ⟨(by show 3 ≤ sizeLine; decide), fun t ht => ?_⟩⟩
        exact ⟨.ref t, [.s w, .s z, .n n], _, (s02.trans s3).then ht, .inr ⟨by simp, t, rfl, SqT.new⟩, .inr ⟨w, _, rfl, hww, fits2 (mC z hzC) hn⟩, rfl⟩
      · exact ⟨.non, [], _, s1, .inl ⟨rfl, rfl⟩, .inl rfl, rfl⟩
    · rintro σ' H1 ⟨gv, g, v5, s1, hg, hgo, rfl⟩
      refine ⟨_, rfl, _, rfl, c, 1, 3, rfl, by decide, by decide, by decide, fun r H2 s2 r0 r1 => ?_⟩
      obtain ⟨sp, hspS, hsp⟩ := strs_atI (S := S) r0 (by rw [nS]; exact r1)
      refine ⟨sl, _, _, _, rfl, rfl, (s1.trans s2).seq hsl, hsp, _, rfl, _, rfl, c, 2, 3, rfl, by decide, by decide, by decide, fun r2 H3 s3 r20 r21 => ?_⟩
      obtain ⟨cu, hcuC, hcu⟩ := strs_atI (S := C) r20 (by rw [nC]; exact r21)
      have s13 := s2.trans s3
      have s03 := s1.trans s13
      have nsp := mS sp hspS
      have ncu := mC cu hcuC
      refine ⟨hl, _, _, _, rfl, rfl, s03.seq hhl, hcu, ?_⟩
      refine ⟨_, rfl, rfl, _, rfl, ite2 (fun _ => ?_) (fun _ => ?_)⟩
      · refine ⟨_, rfl, _, rfl, _, rfl, fun n hn => ⟨_, rfl, (by show 4 ≤ sizeLine; decide), fun t ht => ?_⟩⟩
        exact q ⟨t, [.s "put", .s sp, .n n], g⟩ _ (s03.then ht) ⟨⟨gv, SqT.new, hg.same (s13.then ht)⟩, ⟨"put", _, _, rfl, rfl, fits2 nsp hn⟩, hgo⟩
      refine ⟨_, rfl, rfl, _, rfl, ite2 (fun _ => ?_) (fun _ => ?_)⟩
      · refine ⟨_, rfl, _, rfl, _, rfl, (by show 4 ≤ sizeLine; decide), fun t ht => ?_⟩
        exact q ⟨t, [.s "get", .s cu, .s sp], g⟩ _ (s03.then ht) ⟨⟨gv, SqT.new, hg.same (s13.then ht)⟩, ⟨"get", _, _, rfl, rfl, fitsN2 ncu nsp⟩, hgo⟩
      refine ⟨_, rfl, rfl, _, rfl, ite2 (fun _ => ?_) (fun _ => ?_)⟩
      · refine ⟨_, rfl, _, rfl, _, rfl, _, rfl, fun n hn => ⟨_, rfl, (by show 5 ≤ sizeLine; decide), fun t ht => ?_⟩⟩
        exact q ⟨t, [.s "swap", .s cu, .s sp, .n n], g⟩ _ (s03.then ht) ⟨⟨gv, SqT.new, hg.same (s13.then ht)⟩, ⟨"swap", _, _, rfl, rfl, fits3 ncu nsp hn⟩, hgo⟩
      · refine ⟨by decide, fun l2 hl2 => ⟨_, rfl, _, _, rfl, rfl, (by show (0 : Int) < 2; decide), ?_⟩⟩
        have sl2 := Same.new (o := .lst [V.str "fence", .str "bar"]) hl2
        rcases (by omega : kd % 2 = 0 ∨ kd % 2 = 1) with e2 | e2
        · have h2 : atI [V.str "fence", .str "bar"] (kd % 2) = some (.str "fence") := by rw [e2]; rfl
          refine ⟨l2, _, _, _, rfl, rfl, SqL.new, h2, _, rfl, (by show 2 ≤ sizeLine; decide), fun t ht => ?_⟩
          exact q ⟨t, [.s "fence"], g⟩ _ (s03.trans (sl2.then ht)) ⟨⟨gv, SqT.new, hg.same (s13.trans (sl2.then ht))⟩, ⟨"fence", _, _, rfl, rfl, trivial⟩, hgo⟩
        · have h2 : atI [V.str "fence", .str "bar"] (kd % 2) = some (.str "bar") := by rw [e2]; rfl
          refine ⟨l2, _, _, _, rfl, rfl, SqL.new, h2, _, rfl, (by show 2 ≤ sizeLine; decide), fun t ht => ?_⟩
          exact q ⟨t, [.s "bar"], g⟩ _ (s03.trans (sl2.then ht)) ⟨⟨gv, SqT.new, hg.same (s13.trans (sl2.then ht))⟩, ⟨"bar", _, _, rfl, rfl, trivial⟩, hgo⟩
end
end Own


set_option Elab.async false
set_option linter.all false
set_option maxRecDepth 100000
set_option maxHeartbeats 4100000
namespace Own
open PySem L2
abbrev szs (hs : Hands) : Int := (hs.map fun h => (h.2.length : Int)).sum
def sp_Lprogram (K : PySem.W.Frag) : Sp := fun vs H Q _ => ∃ (a : Addr) (ns : List Int), vs = [.ref a] ∧ SqL K H a (ns.map V.int) ∧ ∀ p hs H', Same H H' → IsP K H' p hs → hs ≠ [] → szs hs ≤ 40 → Q (.ref p) H'
/-- all stays but what stands at as -/
def SameEx (as : List Addr) (H H' : Hp) : Prop := ∀ b u, b ∉ as → H b = some u → H' b = some u
theorem SameEx.seq {K : PySem.W.Frag} {as : List Addr} {H H' : Hp} {a : Addr} {xs : List V} (s : SameEx as H H') (ha : a ∉ as) (h : SqL K H a xs) : SqL K H' a xs := by
  rcases h with (h | ⟨o, h⟩) | h
  · exact .inl (.inl (s _ _ ha h))
  · exact .inl (.inr ⟨o, s _ _ ha h⟩)
  · exact .inr h
theorem SameEx.then {as : List Addr} {H H1 H2 : Hp} (s : SameEx as H H1) (t : Same H1 H2) : SameEx as H H2 := fun b u hb e => t b u (s b u hb e)
theorem SameEx.put {as : List Addr} {H H1 : Hp} {l : Addr} {o : HO} (s : SameEx as H H1) (hl : l ∈ as) : SameEx as H (upd H1 l o) := fun b u hb e => by
  rw [upd_ne (fun (z : b = l) => hb (z ▸ hl))]
  exact s b u hb e
theorem nodup_inj {as : List Addr} (h : as.Nodup) : ∀ {i j : Nat} {a : Addr}, as[i]? = some a → as[j]? = some a → i = j := by
  induction as with
  | nil => intro i j a e; simp at e
  | cons x as ih =>
    obtain ⟨n1, n2⟩ := List.nodup_cons.mp h
    intro i j a e1 e2
    cases i with
    | zero =>
      cases j with
      | zero => rfl
      | succ j =>
        simp at e1 e2
        exact absurd (e1 ▸ List.mem_of_getElem? e2) n1
    | succ i =>
      cases j with
      | zero =>
        simp at e1 e2
        exact absurd (e2 ▸ List.mem_of_getElem? e1) n1
      | succ j =>
        simp at e1 e2
        rw [ih n2 e1 e2]
theorem sum_set {f : Addr × List Dd → Int} : ∀ {hs : Hands} {r : Nat} {h h' : Addr × List Dd}, hs[r]? = some h → ((hs.set r h').map f).sum = (hs.map f).sum - f h + f h'
  | [], r, h, h', e => by simp at e
  | x :: hs, 0, h, h', e => by
    have e' : x = h := by simpa using e
    subst e'
    rw [List.set_cons_zero, List.map_cons, List.map_cons, List.sum_cons, List.sum_cons]
    omega
  | x :: hs, r + 1, h, h', e => by
    have e' : hs[r]? = some h := by simpa using e
    rw [List.set_cons_succ, List.map_cons, List.map_cons, List.sum_cons, List.sum_cons, sum_set e']
    omega
theorem szs_nn : ∀ hs : Hands, 0 ≤ szs hs
  | [] => Int.le_refl 0
  | h :: hs => by
    have := szs_nn hs
    show 0 ≤ ((h :: hs).map fun h => (h.2.length : Int)).sum
    rw [List.map_cons, List.sum_cons]
    have e : szs hs = (hs.map fun h => (h.2.length : Int)).sum := rfl
    omega
theorem szs_mem : ∀ {hs : Hands} {h : Addr × List Dd}, h ∈ hs → (h.2.length : Int) ≤ szs hs
  | x :: hs, h, hm => by
    have e : szs (x :: hs) = (x.2.length : Int) + szs hs := by
      show ((x :: hs).map fun h => (h.2.length : Int)).sum = _
      rw [List.map_cons, List.sum_cons]
    have n := szs_nn hs
    rcases List.mem_cons.mp hm with z | hm
    · rw [z, e]; omega
    · have := szs_mem hm
      rw [e]; omega
/-- the hands as they are being filled -/
structure Filling (K : PySem.W.Frag) (H0 H' : Hp) (as : List Addr) (n : Nat) (p : Addr) (hs : Hands) : Prop where
  l : H' p = some (.lst (as.map V.ref))
  eq : hs.map (·.1) = as
  at_ : ∀ (j : Nat) h, hs[j]? = some h → H' h.1 = some (.lst (h.2.map fun x => V.ref x.a))
  ds : ∀ (j : Nat) h, hs[j]? = some h → ∀ x ∈ h.2, IsD K H' x
  len : szs hs = n
  ex : SameEx as H0 H'
section
variable {K : PySem.W.Frag} {H0 H1 H2 : Hp} {as : List Addr} {n : Nat} {p : Addr} {hs : Hands}
theorem Filling.same (F : Filling K H0 H1 as n p hs) (s : Same H1 H2) : Filling K H0 H2 as n p hs :=
  ⟨s _ _ F.l, F.eq, fun j h e => s _ _ (F.at_ j h e), fun j h e x hx => (F.ds j h e x hx).same s, F.len, F.ex.then s⟩
theorem Filling.more (F : Filling K H0 H1 as n p hs) (nd : as.Nodup) (hp : p ∉ as) {r : Nat} {h : Addr × List Dd} (e : hs[r]? = some h) {x : Dd} (hx : IsD K H1 x) :
    Filling K H0 (upd H1 h.1 (.lst ((h.2.map fun x => V.ref x.a) ++ [V.ref x.a]))) as (n + 1) p (hs.set r (h.1, h.2 ++ [x])) := by
  have hr : r < hs.length := (List.getElem?_eq_some_iff.mp e).1
  have hh := F.at_ r h e
  have ha : as[r]? = some h.1 := by rw [← F.eq, List.getElem?_map, e]; rfl
  have hm : h.1 ∈ as := List.mem_of_getElem? ha
  have at2 : ∀ (j : Nat) h', (hs.set r (h.1, h.2 ++ [x]))[j]? = some h' → (j = r ∧ h' = (h.1, h.2 ++ [x])) ∨ (j ≠ r ∧ hs[j]? = some h') := fun j h' e' => by
    rw [List.getElem?_set] at e'
    by_cases c : r = j
    · rw [if_pos c, if_pos (c ▸ hr)] at e'
      exact .inl ⟨c.symm, (Option.some.inj e').symm⟩
    · rw [if_neg c] at e'
      exact .inr ⟨fun z => c z.symm, e'⟩
  refine ⟨?_, ?_, fun j h' e' => ?_, fun j h' e' y hy => ?_, ?_, F.ex.put hm⟩
  · rw [upd_ne (fun (z : p = h.1) => hp (z ▸ hm))]; exact F.l
  · rw [← F.eq]
    refine List.ext_getElem? fun j => ?_
    rw [List.getElem?_map, List.getElem?_map, List.getElem?_set]
    by_cases c : r = j
    · rw [if_pos c, if_pos (c ▸ hr), ← c, e]; rfl
    · rw [if_neg c]
  · rcases at2 j h' e' with ⟨_, rfl⟩ | ⟨hj, e2⟩
    · rw [upd_same, List.map_append]; rfl
    · have hne : h'.1 ≠ h.1 := fun z => hj (nodup_inj nd (by rw [← F.eq, List.getElem?_map, e2]; rfl) (z ▸ ha))
      rw [upd_ne hne]
      exact F.at_ j h' e2
  · rcases at2 j h' e' with ⟨_, rfl⟩ | ⟨hj, e2⟩
    · rcases List.mem_append.mp hy with hy | hy
      · exact (F.ds r h e y hy).lset hh
      · rw [List.mem_singleton.mp hy]
        exact hx.lset hh
    · exact (F.ds j h' e2 y hy).lset hh
  · have := F.len
    show ((hs.set r (h.1, h.2 ++ [x])).map fun h => (h.2.length : Int)).sum = _
    rw [sum_set e]
    show szs hs - _ + (((h.2 ++ [x]).length : Nat) : Int) = _
    rw [this, List.length_append, List.length_singleton]
    omega
end
theorem nd_snoc {as : List Addr} {t : Addr} (nd : as.Nodup) (h : t ∉ as) : (as ++ [t]).Nodup := by
  refine List.nodup_append.mpr ⟨nd, (by simp), fun a ha b hb z => ?_⟩
  rw [List.mem_singleton.mp hb] at z
  exact h (z ▸ ha)
section
variable {P : Program} {w : World} {K : PySem.W.Frag} {mg : Str → Option Value} {base : Heap}
theorem sc_Lprogram : FnScope ["_law_script", "_law_first", "_law_spots", "_law_held", "_law_program_here", "_law_cells", "_law_cell", "_law_h"] ["_law_script"] (defScope s_Lprogram) := ⟨rfl, rfl, rfl, by decide +kernel, rfl, by decide +kernel, by decide +kernel⟩
theorem ok_Lprogram {f : Addr} {fd : FuncData} (F : Fun K "_law_program" "_law_program" s_Lprogram f fd) (T : Txt K mg) (h_Lcellat : Has P w K mg base 1 "_law_cell_at" ["_law_script", "_law_k"] (sp_Lcellat K)) (h_Lnames : Has P w K mg base 2 "_law_names" ["_law_cell", "_law_way"] (sp_Lnames K)) (h_Lpart : Has P w K mg base 1 "_law_part" ["_law_cell", "_law_k", "_law_many"] (sp_Lpart K)) (h_Ldeed : Has P w K mg base 2 "_law_deed" ["_law_cell", "_law_kind", "_law_spots", "_law_held"] (sp_Ldeed K)) : FnOk P w K mg base CX0 3 f fd ["_law_script"] (sp_Lprogram K) := by
  refine F.ok (k := 2) sc_Lprogram (fun vs H Q E h => ?_) (fun cdv A outer s H vs Q E hr h => ?_)
  · obtain ⟨a, ns, rfl, _⟩ := h
    rfl
  · obtain ⟨a, ns, rfl, hS, q⟩ := h
    refine ⟨_, (pss_cons (ps_set (i := 1) sc_Lprogram.nd rfl (Or.inr rfl) (pe_fn h_Lcellat (hr.mono (by decide)) (pa_cons (pv 0) (pa_cons pe_int pa_nil))))
      (pss_cons (ps_set (i := 2) sc_Lprogram.nd rfl (Or.inl rfl) (pe_fn h_Lnames (hr.mono (by decide)) (pa_cons (pe_fn h_Lcellat (hr.mono (by decide)) (pa_cons (pv 0) (pa_cons pe_int pa_nil))) (pa_cons (pe_op op_mod (pe_fn h_Lcellat (hr.mono (by decide)) (pa_cons (pv 0) (pa_cons pe_int pa_nil))) pe_int) pa_nil))))
      (pss_cons (ps_set (i := 3) sc_Lprogram.nd rfl (Or.inl rfl) (pe_fn h_Lnames (hr.mono (by decide)) (pa_cons (pe_fn h_Lcellat (hr.mono (by decide)) (pa_cons (pv 0) (pa_cons pe_int pa_nil))) (pa_cons (pe_op op_mod (pe_fn h_Lcellat (hr.mono (by decide)) (pa_cons (pv 0) (pa_cons pe_int pa_nil))) pe_int) pa_nil))))
      (pss_cons (ps_comp (i := 4) (Nc := ["_law_k"]) (nt := 1) (js := []) rfl sc_Lprogram.nd rfl rfl ⟨rfl, rfl, rfl, rfl, .nil, rfl, ⟨["_law_k"], [], rfl, rfl, .nil⟩⟩ (pi_range1 rfl T.n_range (pa_cons (pe_op op_add pe_int (pe_fn h_Lpart (hr.mono (by decide)) (pa_cons (pv 1) (pa_cons pe_int (pa_cons pe_int pa_nil))))) pa_nil)) (fun C s3 H3 fp pins => ⟨(pg_name (i := 0) (show (["_law_k"] : List Str).Nodup by decide +kernel) rfl (Or.inl rfl)), pts_nil, (pe_lst pa_nil)⟩))
      (pss_cons (ps_set (i := 5) sc_Lprogram.nd rfl (Or.inl rfl) (pe_slice sl_list (pv 0) (po_some pe_int) (po_some pe_int)))
      (pss_cut (ps_if (pt_cmpR op_eq (pe_op op_mod (pv 1) pe_int) pe_int (nomark _))
      (pss_one (ps_comp (i := 5) (Nc := ["_law_k", "_law_first"]) (nt := 1) (js := [1]) rfl sc_Lprogram.nd rfl rfl ⟨rfl, rfl, rfl, rfl, (.cons rfl .nil), rfl, ⟨["_law_k"], ["_law_first"], rfl, rfl, (.cons rfl rfl rfl .nil)⟩⟩ (pi_range1 rfl T.n_range (pa_cons pe_int pa_nil)) (fun C s3 H3 fp pins => ⟨(pg_name (i := 0) (show (["_law_k", "_law_first"] : List Str).Nodup by decide +kernel) rfl (Or.inl rfl)), pts_nil, (pe_op op_add (pe_op op_mod (pv 1) (pe_op op_pow pe_int pe_int)) (pe_op op_mul (pe_op op_mul (pv 0) (pv 0)) pe_int))⟩)))
      pss_nil)
      (pss_cons (ps_for PassesOwn.never rfl (pi_list (pv 5)) (pg_name (i := 6) sc_Lprogram.nd rfl (Or.inl rfl))
      (pss_cons (ps_set (i := 7) sc_Lprogram.nd rfl (Or.inl rfl) (pe_fn h_Lpart (hr.mono (by decide)) (pa_cons (pv 6) (pa_cons pe_int (pa_cons (pe_callB call_len_seq rfl T.n_len bt_len (pa_cons (pv 4) pa_nil)) pa_nil)))))
      (pss_one (ps_expr (pe_bm PySem.F.plainAttrs_list PySem.F.slot_list_append PySem.F.type_list_append mt_append (pe_ix ix_list (pv 4) (pv 7) (fun _ _ => rfl)) (pa_cons (pe_fn h_Ldeed (hr.mono (by decide)) (pa_cons (pv 6) (pa_cons (pe_fn h_Lpart (hr.mono (by decide)) (pa_cons (pv 6) (pa_cons pe_int (pa_cons pe_int pa_nil)))) (pa_cons (pv 2) (pa_cons (pv 3) pa_nil))))) pa_nil))))))
      (pss_one (ps_ret (pv 4)))))))))), ?_⟩
    refine ⟨_, rfl, a, ns, 0, rfl, hS, by decide, ?_⟩
    generalize ns.getD (0 : Int).toNat 0 = first
    refine ⟨_, rfl, a, ns, 1, rfl, hS, by decide, _, rfl, a, ns, 2, rfl, hS, by decide, _, _, rfl, rfl, (by show (0 : Int) < 100003; decide), _, _, rfl, Int.emod_nonneg _ (by decide), fun sl S H1 s1 hsl nS mS => ?_⟩
    have hS1 := s1.seq hS
    refine ⟨_, rfl, a, ns, 2, rfl, hS1, by decide, _, rfl, a, ns, 1, rfl, hS1, by decide, _, _, rfl, rfl, (by show (0 : Int) < 100019; decide), _, _, rfl, Int.emod_nonneg _ (by decide), fun hl C H2 s2 hhl nC mC => ?_⟩
    have s02 := s1.trans s2
    -- hands that are new and empty
    have mk : ∀ {Hx Hy : Hp} {D : Addr} {nn : Nat} {F : Hp → Prop} {σc : St}, σc = [none] → nn ≤ 10 → Hy D = none → (∀ (as : List Addr) Hz, Same Hy Hz → Hz D = some (.lst (as.map V.ref)) → as.Nodup → D ∉ as → as.length = nn → (∀ b ∈ as, Hz b = some (.lst []) ∧ Hy b = none) → F Hz) →
        tLoopC (gName 0) tTrue (tLst tNil) σc D (Itr 0 nn) Hy F := fun {Hx Hy D nn F σc} hσ hnn hD fin => by
      subst hσ
      refine comp_range (fun i σ ys H3 => ∃ (as : List Addr) (v : Option V), Same Hy H3 ∧ H3 D = some (.lst ys) ∧ ys = as.map V.ref ∧ as.Nodup ∧ D ∉ as ∧ as.length = i ∧ (∀ b ∈ as, H3 b = some (.lst []) ∧ Hy b = none) ∧ σ = [v]) ?_ ?_ ?_ ?_ ?_
      · exact ⟨[], none, Same.new hD, upd_same, rfl, List.nodup_nil, (fun z => by cases z), rfl, (fun b hb => by cases hb), rfl⟩
      · rintro i σ ys H3 hi ⟨as, v, s3, hD3, rfl, nd, hDn, hl3, hb, rfl⟩
        exact ⟨hD3, by rw [List.length_map]; omega⟩
      · exact Nat.le_of_lt (small1000 (by omega))
      · rintro i σ ys H3 hi ⟨as, v, s3, hD3, rfl, nd, hDn, hl3, hb, rfl⟩
        refine ⟨by decide, fun t ht => ?_⟩
        have hta : t ∉ as := fun z => by rw [(hb t z).1] at ht; cases ht
        have hDt : D ≠ t := ne_of_none hD3 ht
        refine ⟨by rw [upd_ne hDt]; exact hD3, as ++ [t], _, Same.at hD (s3.then ht), upd_same, by rw [List.map_append]; rfl, nd_snoc nd hta, fun z => ?_, by rw [List.length_append, hl3]; rfl, fun b hb' => ?_, rfl⟩
        · rcases List.mem_append.mp z with z | z
          · exact hDn z
          · exact hDt (List.mem_singleton.mp z)
        · rcases List.mem_append.mp hb' with z | z
          · have hbt : b ≠ t := fun e => hta (e ▸ z)
            have hbD : b ≠ D := fun e => hDn (e ▸ z)
            rw [upd_ne hbD, upd_ne hbt]
            exact hb b z
          · have e := List.mem_singleton.mp z
            subst e
            rw [upd_ne (Ne.symm hDt), upd_same]
            exact ⟨rfl, s3.free ht⟩
      · rintro σ ys H3 ⟨as, v, s3, hD3, rfl, nd, hDn, hl3, hb, rfl⟩
        exact fin as H3 s3 hD3 nd hDn hl3 hb
    refine ⟨_, rfl, first, 0, 6, rfl, by decide, by decide, by decide, fun r1 H3 s3 r10 r11 => ⟨_, _, rfl, rfl, _, rfl, by omega, by omega, fun D hD => mk (Hx := H) rfl (by omega) hD fun as H4 s4 hD4 nd hDn hla hb => ?_⟩⟩
    refine ⟨_, rfl, _, rfl, _, rfl, a, _, rfl, (s02.trans (s3.trans s4)).seq hS, fun cl hcl => ?_⟩
    obtain ⟨cs, hcs, hcl40⟩ : ∃ cs : List Int, cutV (ns.map V.int) (some 3) (some 43) = cs.map V.int ∧ cs.length ≤ 40 := by
      refine ⟨(ns.drop (HT.sIx (ns.map V.int).length 0 (some 3))).take (HT.sIx (ns.map V.int).length (ns.map V.int).length (some 43) - HT.sIx (ns.map V.int).length 0 (some 3)), by rw [List.map_take, List.map_drop]; rfl, ?_⟩
      rw [List.length_take, List.length_drop]
      simp only [HT.sIx, List.length_map]
      rw [if_neg (by decide), if_neg (by decide)]
      have e43 : Int.toNat 43 = 43 := rfl
      have e3 : Int.toNat 3 = 3 := rfl
      omega
    rw [hcs]
    have s04 := s02.trans (s3.trans s4)
    refine ⟨fun σ' H' => ∃ (cl : Addr) (cs : List Int), Same H4 H' ∧ SqL K H' cl (cs.map V.int) ∧ cl ∉ as ∧ cs.length ≤ 40 ∧ σ' = [some (.ref a), some (.int first), some (.ref sl), some (.ref hl), some (.ref D), some (.ref cl), none, none], ?_, ?_⟩
    · have sc : Same H4 (upd H4 cl (.lst (cs.map V.int))) := Same.new hcl
      refine ⟨_, rfl, _, _, rfl, rfl, (by show (0 : Int) < 8; decide), rfl, _, rfl, ite2 (fun _ => ?_) (fun _ => ?_)⟩
      · refine ⟨40, rfl, by decide, by decide, fun E hE => ?_⟩
        refine comp_range (n := 40) (fun i σ ys H9 => ∃ (cs' : List Int) (v : Option V), Same (upd H4 cl (.lst (cs.map V.int))) H9 ∧ H9 E = some (.lst ys) ∧ ys = cs'.map V.int ∧ cs'.length = i ∧ σ = [v, some (.int first)]) ?_ ?_ ?_ ?_ ?_
        · exact ⟨[], none, Same.new hE, upd_same, rfl, rfl, rfl⟩
        · rintro i σ ys H9 hi ⟨cs, v, s9, hE9, rfl, hc, rfl⟩
          exact ⟨hE9, by rw [List.length_map]; omega⟩
        · exact Nat.le_of_lt (small1000 (by omega))
        · rintro i σ ys H9 hi ⟨cs, v, s9, hE9, rfl, hc, rfl⟩
          refine ⟨_, rfl, _, _, rfl, rfl, ⟨by decide, by decide, by decide⟩, _, _, rfl, rfl, (by show (0 : Int) < 10 ^ 60; decide), _, rfl, _, rfl, _, _, rfl, rfl, .inl ⟨by omega, by omega⟩, _, _, rfl, rfl, .inr ⟨by decide, by decide⟩, _, _, rfl, rfl, hE9, cs ++ [_], _, Same.at hE s9, upd_same, by rw [List.map_append]; rfl, by rw [List.length_append, hc]; rfl, rfl⟩
        · rintro σ ys H9 ⟨cs, v, s9, hE9, rfl, hc, rfl⟩
          refine ⟨E, cs, sc.trans s9, SqL.of hE9, fun z => ?_, by omega, rfl⟩
          have := sc _ _ (hb E z).1
          rw [hE] at this
          cases this
      · refine ⟨cl, cs, sc, SqL.new, fun z => ?_, hcl40, rfl⟩
        have := (hb cl z).1
        rw [hcl] at this
        cases this
    · rintro σ' H5 ⟨cl2, cs2, s45, hcl5, hcn, hc40, rfl⟩
      have s25 := s3.trans (s4.trans s45)
      have hb5 : ∀ b ∈ as, H5 b = some (.lst []) ∧ H b = none ∧ H2 b = none := fun b hb' => by
        obtain ⟨x1, x2⟩ := hb b hb'
        have y2 := s3.free x2
        exact ⟨s45 _ _ x1, s02.free y2, y2⟩
      have hslx : sl ∉ as := fun z => by have := s2 _ _ hsl; rw [(hb5 sl z).2.2] at this; cases this
      have hhlx : hl ∉ as := fun z => by rw [(hb5 hl z).2.2] at hhl; cases hhl
      have hsl5 : SqL K H5 sl (S.map V.str) := SqL.of (s25 _ _ (s2 _ _ hsl))
      have hhl5 : SqL K H5 hl (C.map V.str) := SqL.of (s25 _ _ hhl)
      refine ⟨_, rfl, cl2, rfl, ⟨_, hcl5⟩, for_list (xs := cs2.map V.int) (fun i σ H' => ∃ (hs : Hands) (v6 v7 : Option V), Filling K H5 H' as i D hs ∧ σ = [some (.ref a), some (.int first), some (.ref sl), some (.ref hl), some (.ref D), some (.ref cl2), v6, v7]) ?_ ?_ ?_ ?_⟩
      · refine ⟨as.map fun b => (b, []), none, none, ⟨s45 _ _ hD4, ?_, fun j h e => ?_, fun j h e x hx => ?_, ?_, fun b u _ e => e⟩, rfl⟩
        · rw [List.map_map]; exact List.map_id' as
        · obtain ⟨b, hb6, e2⟩ : ∃ b, as[j]? = some b ∧ h = (b, []) := by
            rw [List.getElem?_map] at e
            cases e3 : as[j]? with
            | none => rw [e3] at e; cases e
            | some b => rw [e3] at e; exact ⟨b, rfl, (Option.some.inj e).symm⟩
          rw [e2]
          exact (hb5 b (List.mem_of_getElem? hb6)).1
        · have e2 : h.2 = [] := by
            rw [List.getElem?_map] at e
            cases e3 : as[j]? with
            | none => rw [e3] at e; cases e
            | some b => rw [e3] at e; rw [← Option.some.inj e]
          rw [e2] at hx
          cases hx
        · show ((as.map fun b => ((b, []) : Addr × List Dd)).map fun h => (h.2.length : Int)).sum = 0
          rw [List.map_map]
          clear hb hla hDn nd hD4 hcn hb5 hslx hhlx
          induction as with
          | nil => rfl
          | cons b as ih => rw [List.map_cons, List.sum_cons, ih]; rfl
      · rintro i σ H6 _ ⟨hs, v6, v7, F, _⟩
        exact F.ex.seq hcn hcl5
      · rintro i y σ H6 hy ⟨hs, v6, v7, F, rfl⟩
        obtain ⟨cc, hcc, rfl⟩ := refs_get hy
        have hi' : i < cs2.length := (List.getElem?_eq_some_iff.mp hcc).1
        have hlen : hs.length = as.length := by rw [← F.eq, List.length_map]
        refine ⟨_, rfl, _, rfl, D, _, rfl, .inl (SqL.of F.l), cc, 7, _, rfl, by decide, by decide, (by rw [List.length_map]; omega), fun r H7 s7 r0 r1 => ?_⟩
        rw [List.length_map] at r1
        have F7 := F.same s7
        obtain ⟨j, rfl⟩ := Int.eq_ofNat_of_zero_le r0
        have hjl : j < hs.length := by omega
        have ej : hs[j]? = some hs[j] := List.getElem?_eq_getElem hjl
        have ea : as[j]? = some hs[j].1 := by rw [← F7.eq, List.getElem?_map, ej]; rfl
        have hh7 := F7.at_ j _ ej
        refine ⟨_, rfl, _, rfl, D, _, _, _, rfl, rfl, SqL.of F7.l, atI_nat (v := V.ref hs[j].1) (by rw [List.getElem?_map, ea]; rfl), .inl ⟨rfl, _, SqL.of hh7⟩, _, rfl, _, rfl, cc, 0, 5, rfl, by decide, by decide, by decide, fun kd H8 s8 _ _ => ?_⟩
        have F8 := F7.same s8
        refine ⟨_, rfl, _, rfl, _, _, sl, hl, S, C, rfl, F8.ex.seq hslx hsl5, F8.ex.seq hhlx hhl5, nS, nC, mS, mC, fun x H9 s9 hx => ?_⟩
        have F9 := F8.same s9
        have hl9 := szs_mem (List.mem_of_getElem? ej)
        have hl0 := F9.len
        refine ⟨hs[j].1, _, _, rfl, rfl, F9.at_ j _ ej, (by rw [List.length_map]; exact small1000 (by omega)), _, _, _, F9.more nd hDn ej hx, rfl⟩
      · rintro σ H6 ⟨hs, v6, v7, F, rfl⟩
        have hlen : hs.length = as.length := by rw [← F.eq, List.length_map]
        have hl0 := F.len
        have hsz : szs hs ≤ 40 := by rw [hl0, List.length_map]; omega
        refine ⟨_, rfl, q D hs H6 (fun b u e => F.ex b u (fun z => by rw [(hb5 b z).2.1] at e; cases e) (s02.trans s25 b u e)) ⟨?_, fun h hm => ?_, by omega⟩ (fun z => by rw [z] at hlen; simp at hlen; omega) hsz⟩
        · have e : (hs.map fun h => V.ref h.1) = as.map V.ref := by rw [← F.eq, List.map_map]; rfl
          rw [e]
          exact SqL.of F.l
        · obtain ⟨j, e⟩ := List.getElem?_of_mem hm
          have hl9 := szs_mem hm
          exact ⟨SqL.of (F.at_ j h e), fun x hx => F.ds j h e x hx, by omega⟩
end
end Own


set_option Elab.async false
set_option linter.all false
set_option maxRecDepth 100000
set_option maxHeartbeats 4100000
namespace Own
open PySem L2
def sp_Lwritten (K : PySem.W.Frag) : Sp := fun vs H Q _ => ∃ (p : Addr) (hs : Hands), vs = [.ref p] ∧ IsP K H p hs ∧ ∀ H', Same H H' → Q (.str (ptx (pdat hs))) H'
def sp_Lword (K : PySem.W.Frag) : Sp := fun vs H Q _ => ((∃ u : Wd, vs = [u.v, u.v]) ∨ vs = [.non, .non] ∨ ∃ (p r : Addr) (w c : Str) (n : Int), vs = [.ref p, .ref r] ∧ SqT K H p [.str w, .str c, .int n] ∧ SqT K H r [.str w, .str c, .int n]) ∧ Q (.bl true) H
def sp_Lalike (K : PySem.W.Frag) : Sp := fun vs H Q _ => ∃ (p r : Addr) (hs hs' : Hands), vs = [.ref p, .ref r] ∧ IsP K H p hs ∧ IsP K H r hs' ∧ pdat hs = pdat hs' ∧ ∀ H', Same H H' → Q (.bl true) H'
/-- a guard that is one: three words -/
theorem guard3 {ws g : List Wd} (h : DOk ws g) (ne : g ≠ []) : ∃ w c n, g = [.s w, .s c, .n n] ∧ n.natAbs < 10 ^ 60 := by
  rcases h.g with e | ⟨w, rest, e, _, hf⟩
  · exact absurd e ne
  · match rest, hf with
    | [a, b], hf =>
      obtain ⟨h1, h2, _⟩ := hf
      rw [if_neg (by decide +kernel)] at h1
      rw [if_pos rfl] at h2
      obtain ⟨x, rfl, _⟩ := h1
      obtain ⟨n, rfl, hn⟩ := h2
      exact ⟨w, x, n, e, hn⟩
    | [], hf => exact hf.elim
    | [a], hf => exact hf.2.elim
    | a :: b :: c :: r, hf => exact hf.2.2.elim
/-- the words behind k parts of the tuple -/
def txts (d : Dat) (k : Nat) : List Str := if k ≤ d.1.length then (d.1.take k).map Wd.t else wtx d
section
variable {P : Program} {w : World} {K : PySem.W.Frag} {mg : Str → Option Value} {base : Heap}
theorem sc_Lwritten : FnScope ["_law_program_here", "_law_parts", "_law_hand", "_law_rows", "_law_deed_here", "_law_words", "_law_part_here"] ["_law_program_here"] (defScope s_Lwritten) := ⟨rfl, rfl, rfl, by decide +kernel, rfl, by decide +kernel, by decide +kernel⟩
theorem ok_Lwritten {f : Addr} {fd : FuncData} (F : Fun K "_law_written" "_law_written" s_Lwritten f fd) (T : Txt K mg)  : FnOk P w K mg base CX0 1 f fd ["_law_program_here"] (sp_Lwritten K) := by
  refine F.ok (k := 0) sc_Lwritten (fun vs H Q E h => ?_) (fun cdv A outer s H vs Q E hr h => ?_)
  · obtain ⟨p, hs, rfl, _⟩ := h
    rfl
  · obtain ⟨p, hs, rfl, hP, q⟩ := h
    refine ⟨_, (pss_cons (ps_set (i := 1) sc_Lwritten.nd rfl (Or.inl rfl) (pe_lst pa_nil))
      (pss_cons (ps_for PassesOwn.never rfl (pi_list (pv 0)) (pg_name (i := 2) sc_Lwritten.nd rfl (Or.inl rfl))
      (pss_cons (ps_set (i := 3) sc_Lwritten.nd rfl (Or.inl rfl) (pe_lst pa_nil))
      (pss_cons (ps_for PassesOwn.never rfl (pi_list (pv 2)) (pg_name (i := 4) sc_Lwritten.nd rfl (Or.inl rfl))
      (pss_cons (ps_set (i := 5) sc_Lwritten.nd rfl (Or.inl rfl) (pe_lst pa_nil))
      (pss_cons (ps_for PassesOwn.never rfl (pi_tup (pv 4)) (pg_name (i := 6) sc_Lwritten.nd rfl (Or.inl rfl))
      (pss_one (ps_if (pt_val (pe_callB call_isTup rfl T.n_isinstance bt_isinstance (pa_cons (pv 6) (pa_cons (pe_bltn (v := .ty "tuple") rfl T.n_tuple bt_tuple rfl) pa_nil))))
      (pss_one (ps_set (i := 5) sc_Lwritten.nd rfl (Or.inl rfl) (pe_op op_cat (pv 5) (pe_lst (pa_cons (pe_ix ix_tup (pv 6) pe_int (fun _ _ => rfl)) (pa_cons (pe_ix ix_tup (pv 6) pe_int (fun _ _ => rfl)) (pa_cons (pe_callTy call_str_any rfl T.n_str bt_str (pa_cons (pe_ix ix_tup (pv 6) pe_int (fun _ _ => rfl)) pa_nil)) pa_nil)))))))
      (pss_one (ps_if (pt_cmpR op_notN (pv 6) pe_non (nomark _))
      (pss_one (ps_expr (pe_bm PySem.F.plainAttrs_list PySem.F.slot_list_append PySem.F.type_list_append mt_append (pv 5) (pa_cons (pe_callTy call_str_any rfl T.n_str bt_str (pa_cons (pv 6) pa_nil)) pa_nil))))
      pss_nil)))))
      (pss_one (ps_expr (pe_bm PySem.F.plainAttrs_list PySem.F.slot_list_append PySem.F.type_list_append mt_append (pv 3) (pa_cons (pe_bm PySem.F.plainAttrs_str PySem.F.slot_str_join PySem.F.type_str_join mt_join pe_str (pa_cons (pv 5) pa_nil)) pa_nil)))))))
      (pss_cut (ps_if (pt_cmpR op_eq (pe_callB call_len_seq rfl T.n_len bt_len (pa_cons (pv 3) pa_nil)) pe_int (nomark _))
      (pss_one (ps_set (i := 3) sc_Lwritten.nd rfl (Or.inl rfl) (pe_lst (pa_cons pe_str pa_nil))))
      pss_nil)
      (pss_one (ps_expr (pe_bm PySem.F.plainAttrs_list PySem.F.slot_list_append PySem.F.type_list_append mt_append (pv 1) (pa_cons (pe_bm PySem.F.plainAttrs_str PySem.F.slot_str_join PySem.F.type_str_join mt_join pe_str (pa_cons (pv 3) pa_nil)) pa_nil))))))))
      (pss_one (ps_ret (pe_bm PySem.F.plainAttrs_str PySem.F.slot_str_join PySem.F.type_str_join mt_join pe_str (pa_cons (pv 1) pa_nil)))))), ?_⟩
    have h6 := hP.n
    refine ⟨by decide, fun pl hpl => ⟨_, rfl, p, rfl, ⟨_, (Same.new hpl).seq hP.l⟩, for_list (xs := hs.map fun h => V.ref h.1) (fun i σ H' => ∃ v2 v3 v4 v5 v6 : Option V, Same H H' ∧ H' pl = some (.lst ((hs.take i).map fun h => V.str (htx (dat h.2)))) ∧ σ = [some (.ref p), some (.ref pl), v2, v3, v4, v5, v6]) ?_ ?_ ?_ ?_⟩⟩
    · exact ⟨none, none, none, none, none, Same.new hpl, upd_same, rfl⟩
    · rintro i σ H' _ ⟨v2, v3, v4, v5, v6, s, _⟩
      exact s.seq hP.l
    · rintro i y σ H1 hy ⟨v2, v3, v4, v5, v6, s1, hpl1, rfl⟩
      obtain ⟨hd, hx, rfl⟩ := refs_get hy
      have hmem := List.mem_of_getElem? hx
      have hilt : i < hs.length := (List.getElem?_eq_some_iff.mp hx).1
      have hH := (hP.hh hd hmem).same s1
      have hn40 := hH.n
      refine ⟨by decide, fun rl hrl => ?_⟩
      refine ⟨_, rfl, hd.1, rfl, ⟨_, (Same.new hrl).seq hH.l⟩, for_list (xs := hd.2.map fun x => V.ref x.a) (fun j σ H' => ∃ v4 v5 v6 : Option V, Same H1 H' ∧ H' rl = some (.lst ((hd.2.take j).map fun x => V.str (dtx x.d))) ∧ σ = [some (.ref p), some (.ref pl), some (.ref hd.1), some (.ref rl), v4, v5, v6]) ?_ ?_ ?_ ?_⟩
      · exact ⟨_, _, _, Same.new hrl, upd_same, rfl⟩
      · rintro j σ H' _ ⟨v4, v5, v6, s, _⟩
        exact s.seq hH.l
      · rintro j y σ H2 hy ⟨v4, v5, v6, s2, hrl2, rfl⟩
        obtain ⟨x, hxj, rfl⟩ := refs_get hy
        have hxm := List.mem_of_getElem? hxj
        have hjlt : j < hd.2.length := (List.getElem?_eq_some_iff.mp hxj).1
        have hD := (hH.dd x hxm).same s2
        obtain ⟨⟨gv, hT, hg⟩, hok⟩ := hD
        have hl7 := hok.len
        rw [List.length_append] at hl7
        refine ⟨by decide, fun wl0 hwl0 => ?_⟩
        refine ⟨_, rfl, x.a, rfl, ⟨_, (Same.new hwl0).seqT hT⟩, for_tup (xs := x.d.1.map Wd.v ++ [gv]) (fun k σ H' => ∃ (wl : Addr) (v6 : Option V), Same H2 H' ∧ H2 wl = none ∧ H' wl = some (.lst ((txts x.d k).map V.str)) ∧ σ = [some (.ref p), some (.ref pl), some (.ref hd.1), some (.ref rl), some (.ref x.a), some (.ref wl), v6]) ?_ ?_ ?_ ?_⟩
        · exact ⟨wl0, _, Same.new hwl0, hwl0, by rw [upd_same]; rfl, rfl⟩
        · rintro k σ H' _ ⟨wl, v6, s, _⟩
          exact s.seqT hT
        · rintro k y σ H3 hy ⟨wl, v6, s3, hwl, hwl3, rfl⟩
          by_cases hk : k < x.d.1.length
          · rw [List.getElem?_append_left (by rw [List.length_map]; exact hk)] at hy
            obtain ⟨u, hu, rfl⟩ := refs_get hy
            have huo := hok.ok u (List.mem_append_left _ (List.mem_of_getElem? hu))
            have e1 : (txts x.d (k + 1)).map V.str = (txts x.d k).map V.str ++ [V.str u.t] := by
              unfold txts
              rw [if_pos (by omega), if_pos (by omega), List.map_map, List.map_map]
              exact take_map_succ hu
            have hlen : ((txts x.d k).map V.str).length < sizeLine := by
              unfold txts
              rw [if_pos (by omega), List.length_map, List.length_map, List.length_take]
              exact small1000 (by omega)
            have fin : ∃ (wl' : Addr) (v6 : Option V), Same H2 (upd H3 wl (.lst ((txts x.d k).map V.str ++ [V.str u.t]))) ∧ H2 wl' = none ∧ upd H3 wl (.lst ((txts x.d k).map V.str ++ [V.str u.t])) wl' = some (.lst ((txts x.d (k + 1)).map V.str)) ∧ [some (V.ref p), some (.ref pl), some (.ref hd.1), some (.ref rl), some (.ref x.a), some (.ref wl), some u.v] = [some (.ref p), some (.ref pl), some (.ref hd.1), some (.ref rl), some (.ref x.a), some (.ref wl'), v6] :=
              ⟨wl, _, Same.at hwl s3, hwl, by rw [upd_same, e1], rfl⟩
            cases u with
            | s z => exact ⟨_, rfl, _, _, rfl, rfl, _, rfl, iteF ⟨_, rfl, rfl, _, rfl, ifNt (fun z => by cases z) ⟨_, rfl, .inl ⟨rfl, _, SqL.of hwl3⟩, _, rfl, .inl ⟨z, rfl, wl, _, _, rfl, rfl, hwl3, hlen, fin⟩⟩⟩⟩
            | n m => exact ⟨_, rfl, _, _, rfl, rfl, _, rfl, iteF ⟨_, rfl, rfl, _, rfl, ifNt (fun z => by cases z) ⟨_, rfl, .inl ⟨rfl, _, SqL.of hwl3⟩, _, rfl, .inr ⟨m, rfl, log_small m huo, wl, _, _, rfl, rfl, hwl3, hlen, fin⟩⟩⟩⟩
          · rw [List.getElem?_append_right (by rw [List.length_map]; omega), List.length_map] at hy
            have hk0 : k = x.d.1.length := by
              have := (List.getElem?_eq_some_iff.mp hy).1
              simp at this
              omega
            subst hk0
            rw [Nat.sub_self] at hy
            have ey : gv = y := by simpa using hy
            subst ey
            have et : txts x.d x.d.1.length = x.d.1.map Wd.t := by
              unfold txts
              rw [if_pos (Nat.le_refl _), List.take_of_length_le (Nat.le_refl _)]
            have et1 : txts x.d (x.d.1.length + 1) = wtx x.d := by
              unfold txts
              rw [if_neg (by omega)]
            rcases hg with ⟨eg, rfl⟩ | ⟨ng, gq, rfl, hgq⟩
            · refine ⟨_, rfl, _, _, rfl, rfl, _, rfl, iteF ⟨_, rfl, rfl, _, rfl, ifNf rfl ⟨wl, _, s3, hwl, ?_, rfl⟩⟩⟩
              rw [hwl3, et, et1]
              unfold wtx
              rw [eg, List.append_nil]
            · obtain ⟨w1, c1, n1, e3, hn1⟩ := guard3 hok ng
              rw [e3] at hgq
              have hgq3 := s3.seqT hgq
              refine ⟨_, rfl, _, _, rfl, .inl ⟨rfl, _, hgq3⟩, _, rfl, iteT ?_⟩
              refine ⟨_, rfl, _, rfl, gq, _, _, _, rfl, rfl, hgq3, rfl, _, rfl, gq, _, _, _, rfl, rfl, hgq3, rfl, _, rfl, gq, _, _, _, rfl, rfl, hgq3, rfl, .inr ⟨n1, rfl, log_small n1 hn1, (by show 3 ≤ sizeLine; decide), fun l3 hl3 => ?_⟩⟩
              have s4 : Same H3 (upd H3 l3 (.lst [.str w1, .str c1, .str (numT n1)])) := Same.new hl3
              refine ⟨wl, l3, _, _, rfl, rfl, s4 _ _ hwl3, upd_same, ?_, fun l4 hl4 => ⟨l4, _, s3.trans (s4.then hl4), (s3.trans s4).free hl4, ?_, rfl⟩⟩
              · rw [List.length_map, et, List.length_map]
                exact Nat.le_of_lt (small1000 (by show x.d.1.length + 3 ≤ 1000; omega))
              · rw [upd_same, et1, et]
                unfold wtx
                rw [e3, List.map_append, List.map_append]
                rfl
        · rintro σ H3 ⟨wl, v6, s3, hwl, hwl3, rfl⟩
          have et1 : txts x.d (x.d.1.map Wd.v ++ [gv]).length = wtx x.d := by
            unfold txts
            rw [List.length_append, List.length_map, List.length_singleton, if_neg (by omega)]
          rw [et1] at hwl3
          have h2 := wtx_len hok
          refine ⟨_, rfl, .inl ⟨rfl, _, SqL.of (s3 _ _ hrl2)⟩, rfl, _, rfl, " ", wl, wtx x.d, rfl, rfl, SqL.of hwl3, ?_, ?_⟩
          · exact joinOk_of (B := 61) (fun y hy => (wtx_ok hok y hy).2.1) (by show (wtx x.d).length * 61 + (wtx x.d).length * 1 ≤ 16777216; omega)
          · refine ⟨rl, _, _, rfl, rfl, s3 _ _ hrl2, ?_, _, _, _, Same.at hrl (s2.trans s3), ?_, rfl⟩
            · rw [List.length_map, List.length_take]
              exact small1000 (by omega)
            · rw [upd_same, take_map_succ hxj]; rfl
      · rintro σ H2 ⟨v4, v5, v6, s2, hrl2, rfl⟩
        rw [List.length_map, List.take_of_length_le (Nat.le_refl _)] at hrl2
        have hok := hH.ok
        refine ⟨fun σ' H' => ∃ (rl' : Addr), Same H1 H' ∧ SqL K H' rl' ((if (dat hd.2).isEmpty = true then [("idle" : Str)] else (dat hd.2).map dtx).map V.str) ∧ σ' = [some (.ref p), some (.ref pl), some (.ref hd.1), some (.ref rl'), v4, v5, v6], ?_, ?_⟩
        · refine ⟨_, rfl, rl, _, rfl, .inl (SqL.of hrl2), rfl, _, rfl, ifB (fun c => ?_) (fun c => ?_)⟩
          · refine ⟨by show 1 ≤ sizeLine; decide, fun l hl => ⟨l, s2.then hl, ?_, rfl⟩⟩
            have e0 : hd.2 = [] := by
              rw [List.length_map] at c
              have := V.int.inj (of_decide_eq_true c)
              exact List.length_eq_zero_iff.mp (by omega)
            rw [e0]
            exact SqL.new
          · refine ⟨rl, s2, ?_, rfl⟩
            have e0 : ¬ (dat hd.2).isEmpty = true := fun z => by
              have e1 : hd.2 = [] := by simpa [dat] using z
              rw [List.length_map, e1] at c
              simp at c
            rw [if_neg e0]
            unfold dat
            rw [List.map_map, List.map_map]
            exact SqL.of hrl2
        · rintro σ' H3 ⟨rl', s3, hL3, rfl⟩
          refine ⟨_, rfl, .inl ⟨rfl, _, SqL.of (s3 _ _ hpl1)⟩, rfl, _, rfl, "; ", rl', _, rfl, rfl, hL3, ?_, ?_⟩
          · refine joinOk_of (B := 500) (fun y hy => ?_) ?_
            · split at hy
              · rw [List.mem_singleton.mp hy]; exact (by decide : 4 ≤ 500)
              · obtain ⟨d, hd', rfl⟩ := List.mem_map.mp hy
                exact dtx_len (hok d hd')
            · have : (if (dat hd.2).isEmpty = true then [("idle" : Str)] else (dat hd.2).map dtx).length ≤ 41 := by
                split
                · exact (by decide : 1 ≤ 41)
                · unfold dat
                  rw [List.length_map, List.length_map]; omega
              show _ * 500 + _ * 2 ≤ 16777216
              omega
          · have ej : Str.join "; " (if (dat hd.2).isEmpty = true then [("idle" : Str)] else (dat hd.2).map dtx) = htx (dat hd.2) := by
              unfold htx
              split <;> rfl
            rw [ej]
            refine ⟨pl, _, _, rfl, rfl, s3 _ _ hpl1, ?_, _, _, _, _, _, Same.at hpl (s1.trans s3), ?_, rfl⟩
            · rw [List.length_map, List.length_take]
              exact small1000 (by omega)
            · rw [upd_same, take_map_succ hx]
    · rintro σ H1 ⟨v2, v3, v4, v5, v6, s1, hpl1, rfl⟩
      rw [List.length_map, List.take_of_length_le (Nat.le_refl _)] at hpl1
      refine ⟨rfl, _, rfl, " | ", pl, (pdat hs).map htx, rfl, rfl, ?_, ?_, q _ s1⟩
      · unfold pdat
        rw [List.map_map, List.map_map]
        exact SqL.of hpl1
      · refine joinOk_of (B := 20100) (fun y hy => ?_) ?_
        · obtain ⟨d, hd, rfl⟩ := List.mem_map.mp hy
          exact htx_len (hP.ok d hd) (hP.n40 d hd)
        · show ((pdat hs).map htx).length * 20100 + ((pdat hs).map htx).length * 3 ≤ 16777216
          unfold pdat
          rw [List.length_map, List.length_map]
          omega
end
end Own


set_option Elab.async false
set_option linter.all false
set_option maxRecDepth 100000
set_option maxHeartbeats 4100000
namespace Own
open PySem L2
section
variable {P : Program} {w : World} {K : PySem.W.Frag} {mg : Str → Option Value} {base : Heap}
theorem sc_Lword : FnScope ["_law_found", "_law_due"] ["_law_found", "_law_due"] (defScope s_Lword) := ⟨rfl, rfl, rfl, by decide +kernel, rfl, by decide +kernel, by decide +kernel⟩
theorem ok_Lword {f : Addr} {fd : FuncData} (F : Fun K "_law_word" "_law_word" s_Lword f fd) (T : Txt K mg)  : FnOk P w K mg base CX0 1 f fd ["_law_found", "_law_due"] (sp_Lword K) := by
  refine F.ok (k := 0) sc_Lword (fun vs H Q E h => ?_) (fun cdv A outer s H vs Q E hr h => ?_)
  · obtain ⟨h, _⟩ := h
    rcases h with ⟨u, rfl⟩ | rfl | ⟨p, r, w1, c1, n1, rfl, _⟩ <;> rfl
  · obtain ⟨h, q⟩ := h
    refine ⟨_, (pss_cons (ps_if (pt_val (pe_callB call_isStr rfl T.n_isinstance bt_isinstance (pa_cons (pv 1) (pa_cons (pe_bltn (v := .ty "str") rfl T.n_str bt_str rfl) pa_nil))))
      (pss_one (ps_ret (pe_and (pe_callB call_isStr rfl T.n_isinstance bt_isinstance (pa_cons (pv 0) (pa_cons (pe_bltn (v := .ty "str") rfl T.n_str bt_str rfl) pa_nil))) (pe_one (pe_cmpR (OpR.or op_eq (op_eqC (hu_deep hr))) (pv 0) (pv 1) (nomark _))))))
      pss_nil)
      (pss_cons (ps_if (pt_val (pe_callB call_isInt rfl T.n_isinstance bt_isinstance (pa_cons (pv 1) (pa_cons (pe_bltn (v := .ty "int") rfl T.n_int bt_int rfl) pa_nil))))
      (pss_one (ps_ret (pe_and (pe_callB call_isInt rfl T.n_isinstance bt_isinstance (pa_cons (pv 0) (pa_cons (pe_bltn (v := .ty "int") rfl T.n_int bt_int rfl) pa_nil))) (pe_and (pe_not (pe_callB call_isBool rfl T.n_isinstance bt_isinstance (pa_cons (pv 0) (pa_cons (pe_bltn (v := .ty "bool") rfl T.n_bool bt_bool rfl) pa_nil)))) (pe_one (pe_cmpR (OpR.or op_eq (op_eqC (hu_deep hr))) (pv 0) (pv 1) (nomark _)))))))
      pss_nil)
      (pss_cons (ps_if (pt_cmpR op_isN (pv 1) pe_non (nomark _))
      (pss_one (ps_ret (pe_cmpR op_isN (pv 0) pe_non (nomark _))))
      pss_nil)
      (pss_cons (ps_if (PW.pt (pw_or (pt_not (pt_val (pe_callB call_isTup rfl T.n_isinstance bt_isinstance (pa_cons (pv 0) (pa_cons (pe_bltn (v := .ty "tuple") rfl T.n_tuple bt_tuple rfl) pa_nil))))) (pw_or1 (pt_cmpR op_ne (pe_callB call_len_seq rfl T.n_len bt_len (pa_cons (pv 0) pa_nil)) pe_int (nomark _)))))
      (pss_one (ps_ret pe_bl))
      pss_nil)
      (pss_cons (ps_if (PW.pt (pw_or (pt_not (pt_val (pe_callB call_isStr rfl T.n_isinstance bt_isinstance (pa_cons (pe_ix ix_tup (pv 0) pe_int (fun _ _ => rfl)) (pa_cons (pe_bltn (v := .ty "str") rfl T.n_str bt_str rfl) pa_nil))))) (pw_or1 (pt_not (pt_val (pe_callB call_isStr rfl T.n_isinstance bt_isinstance (pa_cons (pe_ix ix_tup (pv 0) pe_int (fun _ _ => rfl)) (pa_cons (pe_bltn (v := .ty "str") rfl T.n_str bt_str rfl) pa_nil))))))))
      (pss_one (ps_ret pe_bl))
      pss_nil)
      (pss_one (ps_ret (pe_and (pe_callB call_isInt rfl T.n_isinstance bt_isinstance (pa_cons (pe_ix ix_tup (pv 0) pe_int (fun _ _ => rfl)) (pa_cons (pe_bltn (v := .ty "int") rfl T.n_int bt_int rfl) pa_nil))) (pe_and (pe_not (pe_callB call_isBool rfl T.n_isinstance bt_isinstance (pa_cons (pe_ix ix_tup (pv 0) pe_int (fun _ _ => rfl)) (pa_cons (pe_bltn (v := .ty "bool") rfl T.n_bool bt_bool rfl) pa_nil)))) (pe_one (pe_cmpR (OpR.or op_eq (op_eqC (hu_deep hr))) (pv 0) (pv 1) (nomark _)))))))))))), ?_⟩
    rcases h with ⟨u, rfl⟩ | rfl | ⟨p, r, w1, c1, n1, rfl, hp, hr'⟩
    · cases u with
      | s z => exact ⟨_, rfl, _, _, rfl, rfl, _, rfl, iteT ⟨_, rfl, _, _, rfl, rfl, _, rfl, iteT ⟨_, rfl, _, rfl, .inl ⟨rfl, qb q (decide_eq_true rfl).symm⟩⟩⟩⟩
      | n m => exact ⟨_, rfl, _, _, rfl, rfl, _, rfl, iteF ⟨_, rfl, _, _, rfl, rfl, _, rfl, iteT ⟨_, rfl, _, _, rfl, rfl, _, rfl, iteT ⟨_, rfl, _, _, rfl, rfl, _, rfl, _, rfl, iteT ⟨_, rfl, _, rfl, .inl ⟨rfl, qb q (decide_eq_true rfl).symm⟩⟩⟩⟩⟩⟩
    · exact ⟨_, rfl, _, _, rfl, rfl, _, rfl, iteF ⟨_, rfl, _, _, rfl, rfl, _, rfl, iteF ⟨_, rfl, rfl, _, rfl, ifDt rfl ⟨_, rfl, rfl, qb q (decide_eq_true rfl).symm⟩⟩⟩⟩
    · refine ⟨_, rfl, _, _, rfl, ⟨rfl, .inr (.inl ⟨_, hr'⟩)⟩, _, rfl, iteF ⟨_, rfl, _, _, rfl, ⟨rfl, .inr (.inl ⟨_, hr'⟩)⟩, _, rfl, iteF ⟨_, rfl, rfl, _, rfl, ifDf (fun z => by cases z) ?_⟩⟩⟩
      refine ⟨_, rfl, _, _, rfl, .inl ⟨rfl, _, hp⟩, _, rfl, iteF ⟨_, rfl, p, _, rfl, .inr hp, rfl, _, rfl, ifNf rfl ?_⟩⟩
      refine ⟨_, rfl, p, _, _, _, rfl, rfl, hp, rfl, _, _, rfl, rfl, _, rfl, iteF ⟨_, rfl, p, _, _, _, rfl, rfl, hp, rfl, _, _, rfl, rfl, _, rfl, iteF ?_⟩⟩
      refine ⟨_, rfl, p, _, _, _, rfl, rfl, hp, rfl, _, _, rfl, rfl, _, rfl, iteT ⟨_, rfl, p, _, _, _, rfl, rfl, hp, rfl, _, _, rfl, rfl, _, rfl, _, rfl, iteT ⟨_, rfl, _, rfl, .inr ⟨p, r, true, rfl, rfl, ?_, q⟩⟩⟩⟩
      have d := DT.tup (K := K) (H := H) (fun _ => true) hp hr' fun i x y hx hy => by
        rw [hx] at hy
        cases hy
        have hf : flatV x = true := by
          match i, hx with
          | 0, hx => simp at hx; subst hx; rfl
          | 1, hx => simp at hx; subst hx; rfl
          | 2, hx => simp at hx; subst hx; rfl
          | i + 3, hx => simp at hx
        have := DC.flat (K := K) (H := H) (n := 8) hf hf
        rwa [eqV_self hf] at this
      exact d
theorem pdat_get {hs hs' : Hands} (e : pdat hs = pdat hs') {i : Nat} {h h' : Addr × List Dd} (a : hs[i]? = some h) (b : hs'[i]? = some h') : dat h.2 = dat h'.2 := by
  have := congrArg (fun l : List (List Dat) => l[i]?) e
  simp only [pdat, List.getElem?_map, a, b, Option.map_some] at this
  exact Option.some.inj this
theorem pdat_len {hs hs' : Hands} (e : pdat hs = pdat hs') : hs.length = hs'.length := by
  have := congrArg List.length e
  simpa [pdat] using this
theorem dat_get {ds ds' : List Dd} (e : dat ds = dat ds') {i : Nat} {x y : Dd} (a : ds[i]? = some x) (b : ds'[i]? = some y) : x.d = y.d := by
  have := congrArg (fun l : List Dat => l[i]?) e
  simp only [dat, List.getElem?_map, a, b, Option.map_some] at this
  exact Option.some.inj this
theorem dat_len {ds ds' : List Dd} (e : dat ds = dat ds') : ds.length = ds'.length := by
  have := congrArg List.length e
  simpa [dat] using this
/-- two deeds with the same words, part by part -/
theorem part_word {H : Hp} {x y : Dd} (hx : IsD K H x) (hy : IsD K H y) (e : x.d = y.d) : ∃ xs ys : List V, SqT K H x.a xs ∧ SqT K H y.a ys ∧ xs.length = ys.length ∧ xs.length ≤ 8 ∧ ∀ (i : Nat) a b, xs[i]? = some a → ys[i]? = some b →
    ((∃ u : Wd, a = u.v ∧ b = u.v) ∨ (a = .non ∧ b = .non) ∨ ∃ (p r : Addr) (w c : Str) (n : Int), a = .ref p ∧ b = .ref r ∧ SqT K H p [.str w, .str c, .int n] ∧ SqT K H r [.str w, .str c, .int n]) := by
  obtain ⟨⟨gx, tx, hgx⟩, okx⟩ := hx
  obtain ⟨⟨gy, ty, hgy⟩, oky⟩ := hy
  have hl7 := okx.len
  rw [List.length_append] at hl7
  refine ⟨_, _, tx, ty, by rw [e, List.length_append, List.length_append]; rfl, by rw [List.length_append, List.length_map]; show _ + 1 ≤ 8; omega, fun i a b ha hb => ?_⟩
  by_cases hi : i < x.d.1.length
  · rw [List.getElem?_append_left (by rw [List.length_map]; exact hi)] at ha
    rw [List.getElem?_append_left (by rw [List.length_map, ← e]; exact hi), ← e, ha] at hb
    cases hb
    obtain ⟨u, _, rfl⟩ := refs_get ha
    exact .inl ⟨u, rfl, rfl⟩
  · rw [List.getElem?_append_right (by rw [List.length_map]; omega)] at ha
    rw [List.getElem?_append_right (by rw [List.length_map, ← e]; omega)] at hb
    have ea : a = gx := by
      have h0 := (List.getElem?_eq_some_iff.mp ha).1
      simp only [List.length_singleton] at h0
      have e0 : i - (x.d.1.map Wd.v).length = 0 := by omega
      rw [e0] at ha
      exact (Option.some.inj ha).symm
    have eb : b = gy := by
      have h0 := (List.getElem?_eq_some_iff.mp hb).1
      simp only [List.length_singleton] at h0
      have e0 : i - (y.d.1.map Wd.v).length = 0 := by omega
      rw [e0] at hb
      exact (Option.some.inj hb).symm
    subst ea eb
    rcases hgx with ⟨e1, rfl⟩ | ⟨ng, q1, rfl, t1⟩
    · rcases hgy with ⟨_, rfl⟩ | ⟨ng2, _⟩
      · exact .inr (.inl ⟨rfl, rfl⟩)
      · exact absurd (e ▸ e1) ng2
    · rcases hgy with ⟨e1, _⟩ | ⟨ng2, q2, rfl, t2⟩
      · exact absurd (by rw [e]; exact e1) ng
      · obtain ⟨w1, c1, n1, e3, _⟩ := guard3 okx ng
        rw [← e, e3] at t2
        rw [e3] at t1
        exact .inr (.inr ⟨q1, q2, w1, c1, n1, rfl, rfl, t1, t2⟩)
theorem sc_Lalike : FnScope ["_law_found", "_law_due", "_law_hand", "_law_right", "_law_deed_here", "_law_other", "_law_k"] ["_law_found", "_law_due"] (defScope s_Lalike) := ⟨rfl, rfl, rfl, by decide +kernel, rfl, by decide +kernel, by decide +kernel⟩
theorem ok_Lalike {f : Addr} {fd : FuncData} (F : Fun K "_law_alike" "_law_alike" s_Lalike f fd) (T : Txt K mg) (h_Lword : Has P w K mg base 1 "_law_word" ["_law_found", "_law_due"] (sp_Lword K)) : FnOk P w K mg base CX0 2 f fd ["_law_found", "_law_due"] (sp_Lalike K) := by
  refine F.ok (k := 1) sc_Lalike (fun vs H Q E h => ?_) (fun cdv A outer s H vs Q E hr h => ?_)
  · obtain ⟨p, r, hs, hs', rfl, _⟩ := h
    rfl
  · obtain ⟨p, r, hs, hs', rfl, hP, hR, e, q⟩ := h
    refine ⟨_, (pss_cons (ps_if (PW.pt (pw_or (pt_not (pt_val (pe_callB call_isLst rfl T.n_isinstance bt_isinstance (pa_cons (pv 0) (pa_cons (pe_bltn (v := .ty "list") rfl T.n_list bt_list rfl) pa_nil))))) (pw_or1 (pt_cmpR op_ne (pe_callB call_len_seq rfl T.n_len bt_len (pa_cons (pv 0) pa_nil)) (pe_callB call_len_seq rfl T.n_len bt_len (pa_cons (pv 1) pa_nil)) (nomark _)))))
      (pss_one (ps_ret pe_bl))
      pss_nil)
      (pss_cons (ps_for PassesOwn.never rfl (pi_zip rfl T.n_zip (pa_cons (pv 0) (pa_cons (pv 1) pa_nil))) (pg_tup rfl (pgs_cons (pg_name (i := 2) sc_Lalike.nd rfl (Or.inl rfl)) (pgs_cons (pg_name (i := 3) sc_Lalike.nd rfl (Or.inl rfl)) pgs_nil)))
      (pss_cons (ps_if (PW.pt (pw_or (pt_not (pt_val (pe_callB call_isLst rfl T.n_isinstance bt_isinstance (pa_cons (pv 2) (pa_cons (pe_bltn (v := .ty "list") rfl T.n_list bt_list rfl) pa_nil))))) (pw_or1 (pt_cmpR op_ne (pe_callB call_len_seq rfl T.n_len bt_len (pa_cons (pv 2) pa_nil)) (pe_callB call_len_seq rfl T.n_len bt_len (pa_cons (pv 3) pa_nil)) (nomark _)))))
      (pss_one (ps_ret pe_bl))
      pss_nil)
      (pss_one (ps_for PassesOwn.never rfl (pi_zip rfl T.n_zip (pa_cons (pv 2) (pa_cons (pv 3) pa_nil))) (pg_tup rfl (pgs_cons (pg_name (i := 4) sc_Lalike.nd rfl (Or.inl rfl)) (pgs_cons (pg_name (i := 5) sc_Lalike.nd rfl (Or.inl rfl)) pgs_nil)))
      (pss_cons (ps_if (PW.pt (pw_or (pt_not (pt_val (pe_callB call_isTup rfl T.n_isinstance bt_isinstance (pa_cons (pv 4) (pa_cons (pe_bltn (v := .ty "tuple") rfl T.n_tuple bt_tuple rfl) pa_nil))))) (pw_or1 (pt_cmpR op_ne (pe_callB call_len_seq rfl T.n_len bt_len (pa_cons (pv 4) pa_nil)) (pe_callB call_len_seq rfl T.n_len bt_len (pa_cons (pv 5) pa_nil)) (nomark _)))))
      (pss_one (ps_ret pe_bl))
      pss_nil)
      (pss_one (ps_for PassesOwn.never rfl (pi_range1 rfl T.n_range (pa_cons (pe_callB call_len_seq rfl T.n_len bt_len (pa_cons (pv 5) pa_nil)) pa_nil)) (pg_name (i := 6) sc_Lalike.nd rfl (Or.inl rfl))
      (pss_one (ps_if (pt_not (pt_val (pe_fn h_Lword (hr.mono (by decide)) (pa_cons (pe_ix ix_tup (pv 4) (pv 6) (fun _ _ => rfl)) (pa_cons (pe_ix ix_tup (pv 5) (pv 6) (fun _ _ => rfl)) pa_nil)))))
      (pss_one (ps_ret pe_bl))
      pss_nil)))))))))
      (pss_one (ps_ret pe_bl)))), ?_⟩
    have hl := pdat_len e
    refine ⟨_, rfl, _, _, rfl, .inl ⟨rfl, _, hP.l⟩, _, rfl, iteF ⟨_, rfl, p, _, rfl, .inl hP.l, _, rfl, r, _, rfl, .inl hR.l, rfl, _, rfl, ifNf (by rw [List.length_map, List.length_map, hl]) ?_⟩⟩
    refine ⟨_, rfl, _, rfl, p, r, rfl, ⟨_, hP.l⟩, ⟨_, hR.l⟩, for_zip (xs := hs.map fun h => V.ref h.1) (ys := hs'.map fun h => V.ref h.1) (by rw [List.length_map, List.length_map, hl]) (fun i σ H' => ∃ v2 v3 v4 v5 v6 : Option V, Same H H' ∧ σ = [some (.ref p), some (.ref r), v2, v3, v4, v5, v6]) ⟨none, none, none, none, none, Same.refl _, rfl⟩ ?_ ?_ ?_⟩
    · rintro i σ H' _ ⟨v2, v3, v4, v5, v6, s, _⟩
      exact ⟨s.seq hP.l, s.seq hR.l⟩
    · rintro i x y σ H1 pp hx hy ⟨v2, v3, v4, v5, v6, s, rfl⟩ hpp
      obtain ⟨h1, hh1, rfl⟩ := refs_get hx
      obtain ⟨h2, hh2, rfl⟩ := refs_get hy
      have s1 : Same H1 (upd H1 pp (.tup [.ref h1.1, .ref h2.1])) := Same.new hpp
      have hA := ((hP.hh h1 (List.mem_of_getElem? hh1)).same s).same s1
      have hB := ((hR.hh h2 (List.mem_of_getElem? hh2)).same s).same s1
      have e2 := pdat_get e hh1 hh2
      have hl2 := dat_len e2
      have ss := s.trans s1
      refine ⟨pp, _, rfl, SqT.new, rfl, _, _, rfl, _, _, rfl, rfl, ?_⟩
      generalize upd H1 pp (.tup [.ref h1.1, .ref h2.1]) = H2 at s1 hA hB ss
      refine ⟨_, rfl, _, _, rfl, .inl ⟨rfl, _, hA.l⟩, _, rfl, iteF ⟨_, rfl, h1.1, _, rfl, .inl hA.l, _, rfl, h2.1, _, rfl, .inl hB.l, rfl, _, rfl, ifNf (by rw [List.length_map, List.length_map, hl2]) ?_⟩⟩
      refine ⟨_, rfl, _, rfl, h1.1, h2.1, rfl, ⟨_, hA.l⟩, ⟨_, hB.l⟩, for_zip (xs := h1.2.map fun x => V.ref x.a) (ys := h2.2.map fun x => V.ref x.a) (by rw [List.length_map, List.length_map, hl2]) (fun i σ H' => ∃ v4 v5 v6 : Option V, Same H2 H' ∧ σ = [some (.ref p), some (.ref r), some (.ref h1.1), some (.ref h2.1), v4, v5, v6]) ⟨_, _, _, Same.refl _, rfl⟩ ?_ ?_ ?_⟩
      · rintro i σ H' _ ⟨v4, v5, v6, s, _⟩
        exact ⟨s.seq hA.l, s.seq hB.l⟩
      · rintro j x y σ H3 pq hx hy ⟨v4, v5, v6, s3, rfl⟩ hpq
        obtain ⟨d1, hd1, rfl⟩ := refs_get hx
        obtain ⟨d2, hd2, rfl⟩ := refs_get hy
        have s4 : Same H3 (upd H3 pq (.tup [.ref d1.a, .ref d2.a])) := Same.new hpq
        have i1 := ((hA.dd d1 (List.mem_of_getElem? hd1)).same s3).same s4
        have i2 := ((hB.dd d2 (List.mem_of_getElem? hd2)).same s3).same s4
        have s34 := s3.trans s4
        refine ⟨pq, _, rfl, SqT.new, rfl, _, _, rfl, _, _, rfl, rfl, ?_⟩
        generalize upd H3 pq (.tup [.ref d1.a, .ref d2.a]) = H4 at s4 i1 i2 s34
        obtain ⟨xs, ys, t1, t2, hxy, h8, hpart⟩ := part_word i1 i2 (dat_get e2 hd1 hd2)
        refine ⟨_, rfl, _, _, rfl, .inl ⟨rfl, _, t1⟩, _, rfl, iteF ⟨_, rfl, d1.a, _, rfl, .inr t1, _, rfl, d2.a, _, rfl, .inr t2, rfl, _, rfl, ifNf (by rw [hxy]) ?_⟩⟩
        refine ⟨_, rfl, d2.a, _, rfl, .inr t2, _, rfl, by omega, by omega, for_range (n := ((ys.length : Nat) : Int).toNat) (fun k σ H' => H' = H4 ∧ ∃ v6 : Option V, σ = [some (.ref p), some (.ref r), some (.ref h1.1), some (.ref h2.1), some (.ref d1.a), some (.ref d2.a), v6]) ⟨rfl, _, rfl⟩ ?_ ?_⟩
        · rintro k σ H' hk ⟨rfl, v6, rfl⟩
          have hk' : k < ys.length := by omega
          have ek : (0 : Int) + (k : Int) = (k : Int) := by omega
          have a1 : xs[k]? = some (xs[k]'(by omega)) := List.getElem?_eq_getElem (by omega)
          have a2 : ys[k]? = some ys[k] := List.getElem?_eq_getElem hk'
          refine ⟨_, rfl, _, rfl, d1.a, _, _, _, rfl, rfl, t1, by rw [ek]; exact atI_nat a1, _, rfl, _, rfl, d2.a, _, _, _, rfl, rfl, t2, by rw [ek]; exact atI_nat a2, ?_, ?_⟩
          · rcases hpart k _ _ a1 a2 with ⟨u, e3, e4⟩ | ⟨e3, e4⟩ | ⟨p1, r1, w1, c1, n1, e3, e4, e5, e6⟩
            · exact .inl ⟨u, by rw [e3, e4]; rfl⟩
            · exact .inr (.inl (by rw [e3, e4]; rfl))
            · exact .inr (.inr ⟨p1, r1, w1, c1, n1, by rw [e3, e4]; rfl, e5, e6⟩)
          · exact ⟨_, rfl, iteF ⟨rfl, _, rfl⟩⟩
        · rintro σ H' ⟨rfl, v6, rfl⟩
          exact ⟨_, _, _, s34, rfl⟩
      · rintro σ H3 ⟨v4, v5, v6, s3, rfl⟩
        exact ⟨_, _, _, _, _, ss.trans s3, rfl⟩
    · rintro σ H1 ⟨v2, v3, v4, v5, v6, s, rfl⟩
      exact q _ s
end
end Own


set_option Elab.async false
set_option linter.all false
set_option maxRecDepth 100000
set_option maxHeartbeats 4100000
namespace Own
open PySem L2
section
variable {K : PySem.W.Frag} {H : Hp}
theorem DC.tupT {n : Nat} {a b : Addr} {xs ys : List V} (ha : SqT K H a xs) (hb : SqT K H b ys) (hl : xs.length = ys.length) (h : ∀ (i : Nat) x y, xs[i]? = some x → ys[i]? = some y → DC K H n x y true) : DC K H (n + 1) (.ref a) (.ref b) true := by
  have d := DC.tup (fun _ => true) ha hb h
  have e : ((List.range (min xs.length ys.length)).all (fun _ => true) && xs.length == ys.length) = true := by simp [hl]
  rwa [e] at d
theorem DT.lstT {a b : Addr} {xs ys : List V} (ha : SqL K H a xs) (hb : SqL K H b ys) (hl : xs.length = ys.length) (h : ∀ (i : Nat) x y, xs[i]? = some x → ys[i]? = some y → DC K H 8 x y true) : DT K H a b true := by
  have d := DT.lst (fun _ => true) ha hb hl h
  have e : (List.range xs.length).all (fun _ => true) = true := by simp
  rwa [e] at d
theorem DC.lstT {n : Nat} {a b : Addr} {xs ys : List V} (ha : SqL K H a xs) (hb : SqL K H b ys) (hl : xs.length = ys.length) (h : ∀ (i : Nat) x y, xs[i]? = some x → ys[i]? = some y → DC K H n x y true) : DC K H (n + 1) (.ref a) (.ref b) true := by
  have d := DC.lst (fun _ => true) ha hb hl h
  have e : (List.range xs.length).all (fun _ => true) = true := by simp
  rwa [e] at d
theorem DC.self {n : Nat} {x : V} (h : flatV x = true) : DC K H n x x true := by
  have d := DC.flat (K := K) (H := H) (n := n) h h
  rwa [eqV_self h] at d
theorem wd_flat (u : Wd) : flatV u.v = true := by cases u <;> rfl
theorem deed_dc {x y : Dd} (hx : IsD K H x) (hy : IsD K H y) (e : x.d = y.d) : DC K H 8 (.ref x.a) (.ref y.a) true := by
  obtain ⟨xs, ys, t1, t2, hl, _, hp⟩ := part_word hx hy e
  refine DC.tupT t1 t2 hl fun i a b ha hb => ?_
  rcases hp i a b ha hb with ⟨u, rfl, rfl⟩ | ⟨rfl, rfl⟩ | ⟨p, r, w, c, n, rfl, rfl, e5, e6⟩
  · exact DC.self (wd_flat u)
  · exact DC.self rfl
  · refine DC.tupT e5 e6 rfl fun j a b ha hb => ?_
    rw [ha] at hb
    cases hb
    refine DC.self ?_
    match j, ha with
    | 0, ha => simp at ha; subst ha; rfl
    | 1, ha => simp at ha; subst ha; rfl
    | 2, ha => simp at ha; subst ha; rfl
    | j + 3, ha => simp at ha
theorem hand_dt {a b : Addr} {ds ds' : List Dd} (ha : SqL K H a (ds.map fun x => V.ref x.a)) (hb : SqL K H b (ds'.map fun x => V.ref x.a)) (i1 : ∀ x ∈ ds, IsD K H x) (i2 : ∀ x ∈ ds', IsD K H x) (e : dat ds = dat ds') : DT K H a b true := by
  refine DT.lstT ha hb (by rw [List.length_map, List.length_map, dat_len e]) fun i x y hx hy => ?_
  obtain ⟨d1, h1, rfl⟩ := refs_get hx
  obtain ⟨d2, h2, rfl⟩ := refs_get hy
  exact deed_dc (i1 d1 (List.mem_of_getElem? h1)) (i2 d2 (List.mem_of_getElem? h2)) (dat_get e h1 h2)
theorem prog_dt {p r : Addr} {hs hs' : Hands} (hP : IsP K H p hs) (hR : IsP K H r hs') (e : hs.map (·.2) = hs'.map (·.2)) : DT K H p r true := by
  have hl : hs.length = hs'.length := by simpa using congrArg List.length e
  refine DT.lstT hP.l hR.l (by rw [List.length_map, List.length_map, hl]) fun i x y hx hy => ?_
  obtain ⟨h1, e1, rfl⟩ := refs_get hx
  obtain ⟨h2, e2, rfl⟩ := refs_get hy
  have e3 : h1.2 = h2.2 := by
    have := congrArg (fun l : List (List Dd) => l[i]?) e
    simp only [List.getElem?_map, e1, e2, Option.map_some] at this
    exact Option.some.inj this
  refine DC.lstT (n := 7) (hP.hh h1 (List.mem_of_getElem? e1)).l (hR.hh h2 (List.mem_of_getElem? e2)).l (by rw [e3]) fun j a b ha hb => ?_
  rw [e3, hb] at ha
  cases ha
  obtain ⟨d, _, rfl⟩ := refs_get hb
  exact DC.same
end
theorem pdat_of {hs hs' : Hands} (e : hs.map (·.2) = hs'.map (·.2)) : pdat hs = pdat hs' := by
  have h : ∀ l : Hands, pdat l = (l.map (·.2)).map dat := fun l => by unfold pdat; rw [List.map_map]; rfl
  rw [h, h, e]
theorem NewP.isP {K : PySem.W.Frag} {H H' : Hp} {p : Addr} {ps : Hands} (h : NewP K H H' p ps) (n6 : ps.length ≤ 6) (n40 : ∀ h ∈ ps, h.2.length ≤ 40) : IsP K H' p ps :=
  ⟨SqL.of h.l, fun x hx => ⟨SqL.of (h.at_ x hx).1, h.ds x hx, n40 x hx⟩, n6⟩
def sp_law (K : PySem.W.Frag) : Sp := fun vs H Q _ => ∃ (a : Addr) (ns : List Int), vs = [.ref a] ∧ SqL K H a (ns.map V.int) ∧ ns.length ≤ 63 ∧ ∀ H', Q (.bl true) H'
section
variable {P : Program} {w : World} {K : PySem.W.Frag} {mg : Str → Option Value} {base : Heap}
theorem sc_law : FnScope ["_law_script", "_law_program_here", "_law_handed", "_law_found", "_law_due", "_law_again", "_law_h", "_law_other"] ["_law_script"] (defScope s_law) := ⟨rfl, rfl, rfl, by decide +kernel, rfl, by decide +kernel, by decide +kernel⟩
theorem ok_law {f : Addr} {fd : FuncData} (F : Fun K "law" "law" s_law f fd) (T : Txt K mg) (h_Lprogram : Has P w K mg base 3 "_law_program" ["_law_script"] (sp_Lprogram K)) (h_shown : Has P w K mg base 4 "shown" ["program"] (sp_shown K)) (h_Lwritten : Has P w K mg base 1 "_law_written" ["_law_program_here"] (sp_Lwritten K)) (h_read : Has P w K mg base 7 "read" ["text"] (sp_read K)) (h_Lalike : Has P w K mg base 2 "_law_alike" ["_law_found", "_law_due"] (sp_Lalike K)) (h_Lcellat : Has P w K mg base 1 "_law_cell_at" ["_law_script", "_law_k"] (sp_Lcellat K)) : FnOk P w K mg base CX0 8 f fd ["_law_script"] (sp_law K) := by
  refine F.ok (k := 7) sc_law (fun vs H Q E h => ?_) (fun cdv A outer s H vs Q E hr h => ?_)
  · obtain ⟨a, ns, rfl, _⟩ := h
    rfl
  · obtain ⟨a, ns, rfl, hS, _, q⟩ := h
    refine ⟨_, (pss_cons (ps_set (i := 1) sc_law.nd rfl (Or.inl rfl) (pe_fn h_Lprogram (hr.mono (by decide)) (pa_cons (pv 0) pa_nil)))
      (pss_cons (ps_comp (i := 2) (Nc := ["_law_hand"]) (nt := 1) (js := []) rfl sc_law.nd rfl rfl ⟨rfl, rfl, rfl, rfl, .nil, rfl, ⟨["_law_hand"], [], rfl, rfl, .nil⟩⟩ (pi_list (pv 1)) (fun C s3 H3 fp pins => ⟨(pg_name (i := 0) (show (["_law_hand"] : List Str).Nodup by decide +kernel) rfl (Or.inl rfl)), pts_nil, (pe_callTy (call_list_ofK (K := K) rfl) rfl T.n_list bt_list (pa_cons (pv 0) pa_nil))⟩))
      (pss_cons (ps_set (i := 3) sc_law.nd rfl (Or.inl rfl) (pe_fn h_shown (hr.mono (by decide)) (pa_cons (pv 2) pa_nil)))
      (pss_cons (ps_set (i := 4) sc_law.nd rfl (Or.inl rfl) (pe_fn h_Lwritten (hr.mono (by decide)) (pa_cons (pv 1) pa_nil)))
      (pss_cons (ps_if (PW.pt (pw_or (pt_not (pt_val (pe_callB call_isStr rfl T.n_isinstance bt_isinstance (pa_cons (pv 3) (pa_cons (pe_bltn (v := .ty "str") rfl T.n_str bt_str rfl) pa_nil))))) (pw_or (pt_cmpR op_ne (pv 3) (pv 4) (nomark _)) (pw_or1 (pt_cmpR (op_neC (hu_deep hr)) (pv 2) (pv 1) (nomark _))))))
      (pss_one (ps_ret pe_bl))
      pss_nil)
      (pss_cons (ps_set (i := 5) sc_law.nd rfl (Or.inl rfl) (pe_fn h_read (hr.mono (by decide)) (pa_cons (pv 4) pa_nil)))
      (pss_cons (ps_if (pt_not (pt_val (pe_fn h_Lalike (hr.mono (by decide)) (pa_cons (pv 5) (pa_cons (pv 1) pa_nil)))))
      (pss_one (ps_ret pe_bl))
      pss_nil)
      (pss_cons (ps_set (i := 6) sc_law.nd rfl (Or.inl rfl) (pe_op op_mod (pe_fn h_Lcellat (hr.mono (by decide)) (pa_cons (pv 0) (pa_cons pe_int pa_nil))) (pe_callB call_len_seq rfl T.n_len bt_len (pa_cons (pv 1) pa_nil))))
      (pss_cons (ps_expr (pe_bm PySem.F.plainAttrs_list PySem.F.slot_list_append PySem.F.type_list_append mt_append (pe_ix ix_list (pv 5) (pv 6) (fun _ _ => rfl)) (pa_cons (pe_tup (pa_cons pe_str (pa_cons pe_non pa_nil))) pa_nil)))
      (pss_cons (ps_for PassesOwn.never rfl (pi_range1 rfl T.n_range (pa_cons (pe_callB call_len_seq rfl T.n_len bt_len (pa_cons (pv 1) pa_nil)) pa_nil)) (pg_name (i := 7) sc_law.nd rfl (Or.inl rfl))
      (pss_one (ps_if (PW.pt (pw_and (pt_cmpR op_ne (pv 7) (pv 6) (nomark _)) (pw_and1 (pt_cmpR (op_neC (hu_deep hr)) (pe_ix ix_list (pv 5) (pv 7) (fun _ _ => rfl)) (pe_ix ix_list (pv 1) (pv 7) (fun _ _ => rfl)) (nomark _)))))
      (pss_one (ps_ret pe_bl))
      pss_nil)))
      (pss_cons (ps_expr (pe_bm PySem.F.plainAttrs_list PySem.F.slot_list_append PySem.F.type_list_append mt_append (pv 5) (pa_cons (pe_lst pa_nil) pa_nil)))
      (pss_one (ps_ret (pe_and (pe_fn h_Lalike (hr.mono (by decide)) (pa_cons (pe_fn h_read (hr.mono (by decide)) (pa_cons (pv 4) pa_nil)) (pa_cons (pv 1) pa_nil))) (pe_one (pe_cmpR op_eq (pe_fn h_shown (hr.mono (by decide)) (pa_cons (pv 2) pa_nil)) (pv 4) (nomark _))))))))))))))))), ?_⟩
    refine ⟨_, rfl, a, ns, rfl, hS, fun p hs H1 s1 hP hne hsz => ?_⟩
    have h6 := hP.n
    have hS1 := s1.seq hS
    refine ⟨_, rfl, p, rfl, ⟨_, hP.l⟩, fun D hD => comp_list (xs := hs.map fun h => V.ref h.1) (fun i σ ys H' => ∃ (hs2 : Hands) (v : Option V), Same H1 H' ∧ H' D = some (.lst ys) ∧ ys = hs2.map (fun h => V.ref h.1) ∧ (∀ h ∈ hs2, H' h.1 = some (.lst (h.2.map fun x => V.ref x.a)) ∧ h.1 ≠ D) ∧ hs2.map (·.2) = (hs.take i).map (·.2) ∧ σ = [v]) ?_ ?_ ?_ ?_ ?_⟩
    · exact ⟨[], none, Same.new hD, upd_same, rfl, (fun x hx => by cases hx), rfl, rfl⟩
    · rintro i σ ys H' hi ⟨hs2, v, s2, hD', rfl, hat, e, rfl⟩
      refine ⟨s2.seq hP.l, hD', ?_⟩
      have := congrArg List.length e
      rw [List.length_map, List.length_map, List.length_take] at this
      rw [List.length_map]
      omega
    · rw [List.length_map]; exact Nat.le_of_lt (small1000 (by omega))
    · rintro i y σ ys H' hy ⟨hs2, v, s2, hD', rfl, hat, e, rfl⟩
      obtain ⟨hd, hh, rfl⟩ := refs_get hy
      refine ⟨_, rfl, hd.1, _, rfl, .inl (s2.seq (hP.hh hd (List.mem_of_getElem? hh)).l), fun l hl => ?_⟩
      have hlD : l ≠ D := fun z => by rw [z, hD'] at hl; cases hl
      have hDl : upd H' l (.lst (hd.2.map fun x => V.ref x.a)) D = some (.lst (hs2.map fun h => V.ref h.1)) := by rw [upd_ne (Ne.symm hlD)]; exact hD'
      refine ⟨hDl, hs2 ++ [(l, hd.2)], _, Same.at hD (s2.then hl), upd_same, by rw [List.map_append]; rfl, fun h hm => ?_, ?_, rfl⟩
      · rcases List.mem_append.mp hm with hm | hm
        · obtain ⟨a1, a2⟩ := hat h hm
          exact ⟨by rw [upd_ne a2, upd_ne (ne_of_none a1 hl)]; exact a1, a2⟩
        · rw [List.mem_singleton.mp hm]
          exact ⟨by show upd _ D _ l = _; rw [upd_ne hlD, upd_same], hlD⟩
      · rw [List.map_append, e, take_map_succ hh]; rfl
    · rintro σ ys H2 ⟨hs2, v, s2, hD2, rfl, hat, e, rfl⟩
      rw [List.length_map, List.take_of_length_le (Nat.le_refl _)] at e
      have hl2 : hs2.length = hs.length := by simpa using congrArg List.length e
      have hP2 := hP.same s2
      have hD : IsP K H2 D hs2 := ⟨SqL.of hD2, fun h hm => by
        obtain ⟨i, hi⟩ := List.getElem?_of_mem hm
        have hlt : i < hs.length := by have := (List.getElem?_eq_some_iff.mp hi).1; omega
        have e3 : h.2 = hs[i].2 := by
          have := congrArg (fun l : List (List Dd) => l[i]?) e
          simp only [List.getElem?_map, hi, List.getElem?_eq_getElem hlt, Option.map_some] at this
          exact Option.some.inj this
        have hH := hP2.hh hs[i] (List.getElem_mem hlt)
        exact ⟨SqL.of (hat h hm).1, fun x hx => hH.dd x (e3 ▸ hx), by rw [e3]; exact hH.n⟩, by omega⟩
      have epd := pdat_of e
      refine ⟨_, rfl, D, hs2, rfl, hD, fun H3 s3 => ?_⟩
      rw [epd]
      refine ⟨_, rfl, p, hs, rfl, hP2.same s3, fun H4 s4 => ?_⟩
      have s24 := s3.trans s4
      have hP4 := hP2.same s24
      have hD4 := hD.same s24
      refine ⟨_, rfl, _, _, rfl, rfl, _, rfl, iteF ⟨_, rfl, _, rfl, rfl, _, rfl, ifNf rfl ⟨_, rfl, _, rfl, D, p, true, rfl, rfl, prog_dt hD4 hP4 e, _, rfl, iteF ?_⟩⟩⟩
      have n40 := hP4.n40
      have hpl : (pdat hs).length ≤ 6 := by unfold pdat; rw [List.length_map]; exact h6
      have hpne : pdat hs ≠ [] := fun z => hne (by simpa [pdat] using z)
      have hpsz : ((pdat hs).map fun ds => (ds.length : Int)).sum ≤ 40 := by
        have ee : ((pdat hs).map fun ds => (ds.length : Int)) = hs.map fun h => (h.2.length : Int) := by
          unfold pdat dat
          rw [List.map_map]
          refine List.map_congr_left fun h _ => ?_
          show (((h.2.map (·.d)).length : Nat) : Int) = _
          rw [List.length_map]
        rw [ee]; exact hsz
      refine ⟨_, rfl, pdat hs, rfl, hP4.ok, hpne, hpl, n40, hpsz, fun p' ps H5 s5 hN ep => ?_⟩
      have hpsl : ps.length = hs.length := pdat_len ep
      have nps40 : ∀ h ∈ ps, h.2.length ≤ 40 := fun h hm => by
        have := n40 (dat h.2) (by rw [← ep]; exact List.mem_map.mpr ⟨h, hm, rfl⟩)
        unfold dat at this
        rwa [List.length_map] at this
      have hN5 := hN.isP (by omega) nps40
      have hP5 := hP4.same s5
      refine ⟨_, rfl, _, rfl, p', p, ps, hs, rfl, hN5, hP5, ep, fun H6 s6 => ⟨_, rfl, iteF ?_⟩⟩
      have hP6 := hP5.same s6
      have s16 := s2.trans (s24.trans (s5.trans s6))
      have hS6 := (s1.trans s16).seq hS
      have hlp : 0 < hs.length := List.length_pos_iff.mpr hne
      refine ⟨_, rfl, a, ns, 2, rfl, hS6, by decide, _, rfl, p, _, rfl, .inl hP6.l, _, _, rfl, rfl, (by rw [List.length_map]; omega), ?_⟩
      rw [List.length_map]
      have m0 : 0 ≤ ns.getD (2 : Int).toNat 0 % (hs.length : Int) := Int.emod_nonneg _ (by omega)
      have m1 : ns.getD (2 : Int).toNat 0 % (hs.length : Int) < (hs.length : Int) := Int.emod_lt_of_pos _ (by omega)
      obtain ⟨j, hj0⟩ := Int.eq_ofNat_of_zero_le m0
      have hj : j < ps.length := by omega
      have ej : ps[j]? = some ps[j] := List.getElem?_eq_getElem hj
      have hNl6 : H6 p' = some (.lst (ps.map fun h => V.ref h.1)) := s6 _ _ hN.l
      have hat6 : ∀ h ∈ ps, H6 h.1 = some (.lst (h.2.map fun x => V.ref x.a)) := fun h hm => s6 _ _ (hN.at_ h hm).1
      have hj6 := hat6 ps[j] (List.getElem_mem hj)
      have hjf : H4 ps[j].1 = none := (hN.at_ ps[j] (List.getElem_mem hj)).2
      have atj : atI (ps.map fun h => V.ref h.1) (ns.getD (2 : Int).toNat 0 % (hs.length : Int)) = some (.ref ps[j].1) := by rw [hj0]; exact atI_nat (by rw [List.getElem?_map, ej]; rfl)
      refine ⟨_, rfl, _, rfl, p', _, _, _, rfl, rfl, SqL.of hNl6, atj, .inl ⟨rfl, _, SqL.of hj6⟩, (by show 2 ≤ sizeLine; decide), fun tb htb => ?_⟩
      have s7 : Same H6 (upd H6 tb (.tup [.str "bar", .non])) := Same.new htb
      generalize upd H6 tb (.tup [.str "bar", .non]) = H7 at s7
      have hj7 := s7 _ _ hj6
      have hlj := nps40 ps[j] (List.getElem_mem hj)
      refine ⟨ps[j].1, _, _, rfl, rfl, hj7, (by rw [List.length_map]; exact small1000 (by omega)), ?_⟩
      have s47 : Same H4 H7 := s5.trans (s6.trans s7)
      have s48 : Same H4 (upd H7 ps[j].1 (.lst ((ps[j].2.map fun x => V.ref x.a) ++ [V.ref tb]))) := Same.at hjf s47
      have hP8 := hP4.same s48
      have hNl8 : upd H7 ps[j].1 (.lst ((ps[j].2.map fun x => V.ref x.a) ++ [V.ref tb])) p' = some (.lst (ps.map fun h => V.ref h.1)) := by
        rw [upd_ne (fun (z : p' = ps[j].1) => hN.pn (z ▸ List.mem_map.mpr ⟨ps[j], List.getElem_mem hj, rfl⟩))]
        exact s7 _ _ hNl6
      have hat8 : ∀ (i : Nat) h, ps[i]? = some h → i ≠ j → SqL K (upd H7 ps[j].1 (.lst ((ps[j].2.map fun x => V.ref x.a) ++ [V.ref tb]))) h.1 (h.2.map fun x => V.ref x.a) ∧ ∀ x ∈ h.2, IsD K (upd H7 ps[j].1 (.lst ((ps[j].2.map fun x => V.ref x.a) ++ [V.ref tb]))) x := fun i h hi hij => by
        have hm := List.mem_of_getElem? hi
        have hne' : h.1 ≠ ps[j].1 := fun z => hij (nodup_inj hN.nd (a := h.1) (by rw [List.getElem?_map, hi]; rfl) (by rw [List.getElem?_map, ej, z]; rfl))
        refine ⟨SqL.of (by rw [upd_ne hne']; exact s7 _ _ (hat6 h hm)), fun x hx => ?_⟩
        exact (((hN.ds h hm x hx).same s6).same s7).lset hj7
      generalize upd H7 ps[j].1 (.lst ((ps[j].2.map fun x => V.ref x.a) ++ [V.ref tb])) = H8 at s48 hP8 hNl8 hat8
      refine ⟨_, rfl, p, _, rfl, .inl hP8.l, _, rfl, by omega, by rw [List.length_map]; omega, for_range (n := (((hs.map fun (h : Addr × List Dd) => V.ref h.1).length : Nat) : Int).toNat) (fun k σ H' => H' = H8 ∧ ∃ v7 : Option V, σ = [some (.ref a), some (.ref p), some (.ref D), some (.str (ptx (pdat hs))), some (.str (ptx (pdat hs))), some (.ref p'), some (.int (ns.getD (2 : Int).toNat 0 % (hs.length : Int))), v7]) ?_ ?_ ?_⟩
      · exact ⟨rfl, none, rfl⟩
      · rintro k σ H' hk ⟨rfl, v7, rfl⟩
        rw [List.length_map] at hk
        have hk1 : k < hs.length := by omega
        have hk2 : k < ps.length := by omega
        have ek : (0 : Int) + (k : Int) = (k : Int) := by omega
        have e1 : ps[k]? = some ps[k] := List.getElem?_eq_getElem hk2
        have e2 : hs[k]? = some hs[k] := List.getElem?_eq_getElem hk1
        refine ⟨_, rfl, _, rfl, rfl, _, rfl, ifB (fun c => ?_) (fun c => iteF ⟨rfl, _, rfl⟩)⟩
        have hkj : k ≠ j := fun z => by
          have c' : (!decide (V.int (0 + (k : Int)) = V.int (ns.getD (2 : Int).toNat 0 % (hs.length : Int)))) = true := c
          rw [ek, hj0, z, decide_eq_true rfl] at c'
          cases c'
        obtain ⟨l1, i1⟩ := hat8 k _ e1 hkj
        have atk1 : atI (ps.map fun h => V.ref h.1) (0 + (k : Int)) = some (.ref ps[k].1) := by rw [ek]; exact atI_nat (by rw [List.getElem?_map, e1]; rfl)
        have atk2 : atI (hs.map fun h => V.ref h.1) (0 + (k : Int)) = some (.ref hs[k].1) := by rw [ek]; exact atI_nat (by rw [List.getElem?_map, e2]; rfl)
        have hH8 := hP8.hh hs[k] (List.getElem_mem hk1)
        refine ⟨_, rfl, _, rfl, p', _, _, _, rfl, rfl, SqL.of hNl8, atk1, _, rfl, _, rfl, p, _, _, _, rfl, rfl, hP8.l, atk2, ps[k].1, hs[k].1, true, rfl, rfl, hand_dt l1 hH8.l i1 hH8.dd (pdat_get ep e1 e2), _, rfl, iteF ⟨rfl, _, rfl⟩⟩
      · rintro σ H' ⟨rfl, v7, rfl⟩
        refine ⟨_, rfl, .inl ⟨rfl, _, SqL.of hNl8⟩, by decide, fun l9 hl9 => ?_⟩
        have s9 : Same H' (upd H' l9 (.lst [])) := Same.new hl9
        refine ⟨p', _, _, rfl, rfl, s9 _ _ hNl8, (by rw [List.length_map]; exact small1000 (by omega)), ?_⟩
        have s49 : Same H4 (upd (upd H' l9 (.lst [])) p' (.lst ((ps.map fun h => V.ref h.1) ++ [V.ref l9]))) := Same.at hN.fr (s48.trans s9)
        generalize upd (upd H' l9 (.lst [])) p' (.lst ((ps.map fun h => V.ref h.1) ++ [V.ref l9])) = H9 at s49
        refine ⟨_, rfl, pdat hs, rfl, hP4.ok, hpne, hpl, n40, hpsz, fun p2 ps2 H10 s10 hN2 ep2 => ?_⟩
        have hps2l : ps2.length = hs.length := pdat_len ep2
        have nps2 : ∀ h ∈ ps2, h.2.length ≤ 40 := fun h hm => by
          have := n40 (dat h.2) (by rw [← ep2]; exact List.mem_map.mpr ⟨h, hm, rfl⟩)
          unfold dat at this
          rwa [List.length_map] at this
        refine ⟨_, rfl, p2, p, ps2, hs, rfl, hN2.isP (by omega) nps2, (hP4.same s49).same s10, ep2, fun H11 s11 => ⟨_, rfl, iteT ?_⟩⟩
        refine ⟨_, rfl, D, hs2, rfl, ((hD4.same s49).same s10).same s11, fun H12 s12 => ?_⟩
        rw [epd]
        exact ⟨_, rfl, rfl, qb (q _) (decide_eq_true rfl).symm⟩
end
end Own


set_option Elab.async false
set_option linter.all false
set_option maxRecDepth 100000
set_option maxHeartbeats 4100000
namespace Own
open PySem L2
theorem all_mk {l : PySem.W.OpenLaw} {w : World} {K : PySem.W.Frag} {h : Heap} {mg : Str → Option Value} {fa : Addr} (X : K.In h) (G : h.Ns mainGlobals mg) (hfa : mg "law" = some (.ref fa))
    {f0 f1 f2 f3 f4 f5 f6 f7 f8 f9 f10 f11 f12 f13 f14 f15 f16 f17 f18 f19 f20 f21 f22 f23 f24 f25 : Addr} {od0 an0 od1 an1 od2 an2 od3 an3 od4 an4 od5 an5 od6 an6 od7 an7 od8 an8 od9 an9 od10 an10 od11 an11 od12 an12 od13 an13 od14 an14 od15 an15 od16 an16 od17 an17 od18 an18 od19 an19 od20 an20 od21 an21 od22 an22 od23 an23 od24 an24 od25 an25 : Option Addr} {sl0 sl1 sl2 sl3 sl4 sl5 sl6 sl7 sl8 sl9 sl10 sl11 sl12 sl13 sl14 sl15 sl16 sl17 sl18 sl19 sl20 sl21 sl22 sl23 sl24 sl25 : Array (Option Value)} {oc0 kV0 dc0 pm0 cd0 ct0 oc1 kV1 dc1 pm1 cd1 ct1 oc2 kV2 dc2 pm2 cd2 ct2 oc3 kV3 dc3 pm3 cd3 ct3 oc4 kV4 dc4 pm4 cd4 ct4 oc5 kV5 dc5 pm5 cd5 ct5 oc6 kV6 dc6 pm6 cd6 ct6 oc7 kV7 dc7 pm7 cd7 ct7 oc8 kV8 dc8 pm8 cd8 ct8 oc9 kV9 dc9 pm9 cd9 ct9 oc10 kV10 dc10 pm10 cd10 ct10 oc11 kV11 dc11 pm11 cd11 ct11 oc12 kV12 dc12 pm12 cd12 ct12 oc13 kV13 dc13 pm13 cd13 ct13 oc14 kV14 dc14 pm14 cd14 ct14 oc15 kV15 dc15 pm15 cd15 ct15 oc16 kV16 dc16 pm16 cd16 ct16 oc17 kV17 dc17 pm17 cd17 ct17 oc18 kV18 dc18 pm18 cd18 ct18 oc19 kV19 dc19 pm19 cd19 ct19 oc20 kV20 dc20 pm20 cd20 ct20 oc21 kV21 dc21 pm21 cd21 ct21 oc22 kV22 dc22 pm22 cd22 ct22 oc23 kV23 dc23 pm23 cd23 ct23 oc24 kV24 dc24 pm24 cd24 ct24 oc25 kV25 dc25 pm25 cd25 ct25 : Value}
    {t_FIGURES t_LETTERS t_MOST_DEEDS t_MOST_FIGURES t_MOST_HANDS t_MOST_LETTERS : Tok}
    {r_GUARD_SHAPE r_GUARD_WORDS r_SHAPES : Addr}
    (a0 : PySem.W.nsIn K mainGlobals "guard_of" = some (some (.ref f0))) (l0 : K.lookup f0 = some ⟨oc0, od0, .func (PySem.W.fnOf "guard_of" "guard_of" (defArgs s_guardof) (defBody s_guardof) (defScope s_guardof) .none kV0 dc0 pm0 an0 cd0 ct0), sl0⟩) (c0 : PySem.W.codeIn K cd0 "guard_of" = true) (k0 : PySem.W.keepIn K (.ref f0) = true)
    (a1 : PySem.W.nsIn K mainGlobals "deed_size" = some (some (.ref f1))) (l1 : K.lookup f1 = some ⟨oc1, od1, .func (PySem.W.fnOf "deed_size" "deed_size" (defArgs s_deedsize) (defBody s_deedsize) (defScope s_deedsize) .none kV1 dc1 pm1 an1 cd1 ct1), sl1⟩) (c1 : PySem.W.codeIn K cd1 "deed_size" = true) (k1 : PySem.W.keepIn K (.ref f1) = true)
    (a2 : PySem.W.nsIn K mainGlobals "made_of" = some (some (.ref f2))) (l2 : K.lookup f2 = some ⟨oc2, od2, .func (PySem.W.fnOf "made_of" "made_of" (defArgs s_madeof) (defBody s_madeof) (defScope s_madeof) .none kV2 dc2 pm2 an2 cd2 ct2), sl2⟩) (c2 : PySem.W.codeIn K cd2 "made_of" = true) (k2 : PySem.W.keepIn K (.ref f2) = true)
    (a3 : PySem.W.nsIn K mainGlobals "is_number" = some (some (.ref f3))) (l3 : K.lookup f3 = some ⟨oc3, od3, .func (PySem.W.fnOf "is_number" "is_number" (defArgs s_isnumber) (defBody s_isnumber) (defScope s_isnumber) .none kV3 dc3 pm3 an3 cd3 ct3), sl3⟩) (c3 : PySem.W.codeIn K cd3 "is_number" = true) (k3 : PySem.W.keepIn K (.ref f3) = true)
    (a4 : PySem.W.nsIn K mainGlobals "read_deed" = some (some (.ref f4))) (l4 : K.lookup f4 = some ⟨oc4, od4, .func (PySem.W.fnOf "read_deed" "read_deed" (defArgs s_readdeed) (defBody s_readdeed) (defScope s_readdeed) .none kV4 dc4 pm4 an4 cd4 ct4), sl4⟩) (c4 : PySem.W.codeIn K cd4 "read_deed" = true) (k4 : PySem.W.keepIn K (.ref f4) = true)
    (a5 : PySem.W.nsIn K mainGlobals "read_hand" = some (some (.ref f5))) (l5 : K.lookup f5 = some ⟨oc5, od5, .func (PySem.W.fnOf "read_hand" "read_hand" (defArgs s_readhand) (defBody s_readhand) (defScope s_readhand) .none kV5 dc5 pm5 an5 cd5 ct5), sl5⟩) (c5 : PySem.W.codeIn K cd5 "read_hand" = true) (k5 : PySem.W.keepIn K (.ref f5) = true)
    (a6 : PySem.W.nsIn K mainGlobals "is_name" = some (some (.ref f6))) (l6 : K.lookup f6 = some ⟨oc6, od6, .func (PySem.W.fnOf "is_name" "is_name" (defArgs s_isname) (defBody s_isname) (defScope s_isname) .none kV6 dc6 pm6 an6 cd6 ct6), sl6⟩) (c6 : PySem.W.codeIn K cd6 "is_name" = true) (k6 : PySem.W.keepIn K (.ref f6) = true)
    (a7 : PySem.W.nsIn K mainGlobals "fits" = some (some (.ref f7))) (l7 : K.lookup f7 = some ⟨oc7, od7, .func (PySem.W.fnOf "fits" "fits" (defArgs s_fits) (defBody s_fits) (defScope s_fits) .none kV7 dc7 pm7 an7 cd7 ct7), sl7⟩) (c7 : PySem.W.codeIn K cd7 "fits" = true) (k7 : PySem.W.keepIn K (.ref f7) = true)
    (a8 : PySem.W.nsIn K mainGlobals "is_guard" = some (some (.ref f8))) (l8 : K.lookup f8 = some ⟨oc8, od8, .func (PySem.W.fnOf "is_guard" "is_guard" (defArgs s_isguard) (defBody s_isguard) (defScope s_isguard) .none kV8 dc8 pm8 an8 cd8 ct8), sl8⟩) (c8 : PySem.W.codeIn K cd8 "is_guard" = true) (k8 : PySem.W.keepIn K (.ref f8) = true)
    (a9 : PySem.W.nsIn K mainGlobals "is_deed" = some (some (.ref f9))) (l9 : K.lookup f9 = some ⟨oc9, od9, .func (PySem.W.fnOf "is_deed" "is_deed" (defArgs s_isdeed) (defBody s_isdeed) (defScope s_isdeed) .none kV9 dc9 pm9 an9 cd9 ct9), sl9⟩) (c9 : PySem.W.codeIn K cd9 "is_deed" = true) (k9 : PySem.W.keepIn K (.ref f9) = true)
    (a10 : PySem.W.nsIn K mainGlobals "is_hand" = some (some (.ref f10))) (l10 : K.lookup f10 = some ⟨oc10, od10, .func (PySem.W.fnOf "is_hand" "is_hand" (defArgs s_ishand) (defBody s_ishand) (defScope s_ishand) .none kV10 dc10 pm10 an10 cd10 ct10), sl10⟩) (c10 : PySem.W.codeIn K cd10 "is_hand" = true) (k10 : PySem.W.keepIn K (.ref f10) = true)
    (a11 : PySem.W.nsIn K mainGlobals "read" = some (some (.ref f11))) (l11 : K.lookup f11 = some ⟨oc11, od11, .func (PySem.W.fnOf "read" "read" (defArgs s_read) (defBody s_read) (defScope s_read) .none kV11 dc11 pm11 an11 cd11 ct11), sl11⟩) (c11 : PySem.W.codeIn K cd11 "read" = true) (k11 : PySem.W.keepIn K (.ref f11) = true)
    (a12 : PySem.W.nsIn K mainGlobals "show_deed" = some (some (.ref f12))) (l12 : K.lookup f12 = some ⟨oc12, od12, .func (PySem.W.fnOf "show_deed" "show_deed" (defArgs s_showdeed) (defBody s_showdeed) (defScope s_showdeed) .none kV12 dc12 pm12 an12 cd12 ct12), sl12⟩) (c12 : PySem.W.codeIn K cd12 "show_deed" = true) (k12 : PySem.W.keepIn K (.ref f12) = true)
    (a13 : PySem.W.nsIn K mainGlobals "show_hand" = some (some (.ref f13))) (l13 : K.lookup f13 = some ⟨oc13, od13, .func (PySem.W.fnOf "show_hand" "show_hand" (defArgs s_showhand) (defBody s_showhand) (defScope s_showhand) .none kV13 dc13 pm13 an13 cd13 ct13), sl13⟩) (c13 : PySem.W.codeIn K cd13 "show_hand" = true) (k13 : PySem.W.keepIn K (.ref f13) = true)
    (a14 : PySem.W.nsIn K mainGlobals "shown" = some (some (.ref f14))) (l14 : K.lookup f14 = some ⟨oc14, od14, .func (PySem.W.fnOf "shown" "shown" (defArgs s_shown) (defBody s_shown) (defScope s_shown) .none kV14 dc14 pm14 an14 cd14 ct14), sl14⟩) (c14 : PySem.W.codeIn K cd14 "shown" = true) (k14 : PySem.W.keepIn K (.ref f14) = true)
    (a15 : PySem.W.nsIn K mainGlobals "_law_cell_at" = some (some (.ref f15))) (l15 : K.lookup f15 = some ⟨oc15, od15, .func (PySem.W.fnOf "_law_cell_at" "_law_cell_at" (defArgs s_Lcellat) (defBody s_Lcellat) (defScope s_Lcellat) .none kV15 dc15 pm15 an15 cd15 ct15), sl15⟩) (c15 : PySem.W.codeIn K cd15 "_law_cell_at" = true) (k15 : PySem.W.keepIn K (.ref f15) = true)
    (a16 : PySem.W.nsIn K mainGlobals "_law_part" = some (some (.ref f16))) (l16 : K.lookup f16 = some ⟨oc16, od16, .func (PySem.W.fnOf "_law_part" "_law_part" (defArgs s_Lpart) (defBody s_Lpart) (defScope s_Lpart) .none kV16 dc16 pm16 an16 cd16 ct16), sl16⟩) (c16 : PySem.W.codeIn K cd16 "_law_part" = true) (k16 : PySem.W.keepIn K (.ref f16) = true)
    (a17 : PySem.W.nsIn K mainGlobals "_law_name" = some (some (.ref f17))) (l17 : K.lookup f17 = some ⟨oc17, od17, .func (PySem.W.fnOf "_law_name" "_law_name" (defArgs s_Lname) (defBody s_Lname) (defScope s_Lname) .none kV17 dc17 pm17 an17 cd17 ct17), sl17⟩) (c17 : PySem.W.codeIn K cd17 "_law_name" = true) (k17 : PySem.W.keepIn K (.ref f17) = true)
    (a18 : PySem.W.nsIn K mainGlobals "_law_names" = some (some (.ref f18))) (l18 : K.lookup f18 = some ⟨oc18, od18, .func (PySem.W.fnOf "_law_names" "_law_names" (defArgs s_Lnames) (defBody s_Lnames) (defScope s_Lnames) .none kV18 dc18 pm18 an18 cd18 ct18), sl18⟩) (c18 : PySem.W.codeIn K cd18 "_law_names" = true) (k18 : PySem.W.keepIn K (.ref f18) = true)
    (a19 : PySem.W.nsIn K mainGlobals "_law_number" = some (some (.ref f19))) (l19 : K.lookup f19 = some ⟨oc19, od19, .func (PySem.W.fnOf "_law_number" "_law_number" (defArgs s_Lnumber) (defBody s_Lnumber) (defScope s_Lnumber) .none kV19 dc19 pm19 an19 cd19 ct19), sl19⟩) (c19 : PySem.W.codeIn K cd19 "_law_number" = true) (k19 : PySem.W.keepIn K (.ref f19) = true)
    (a20 : PySem.W.nsIn K mainGlobals "_law_deed" = some (some (.ref f20))) (l20 : K.lookup f20 = some ⟨oc20, od20, .func (PySem.W.fnOf "_law_deed" "_law_deed" (defArgs s_Ldeed) (defBody s_Ldeed) (defScope s_Ldeed) .none kV20 dc20 pm20 an20 cd20 ct20), sl20⟩) (c20 : PySem.W.codeIn K cd20 "_law_deed" = true) (k20 : PySem.W.keepIn K (.ref f20) = true)
    (a21 : PySem.W.nsIn K mainGlobals "_law_program" = some (some (.ref f21))) (l21 : K.lookup f21 = some ⟨oc21, od21, .func (PySem.W.fnOf "_law_program" "_law_program" (defArgs s_Lprogram) (defBody s_Lprogram) (defScope s_Lprogram) .none kV21 dc21 pm21 an21 cd21 ct21), sl21⟩) (c21 : PySem.W.codeIn K cd21 "_law_program" = true) (k21 : PySem.W.keepIn K (.ref f21) = true)
    (a22 : PySem.W.nsIn K mainGlobals "_law_written" = some (some (.ref f22))) (l22 : K.lookup f22 = some ⟨oc22, od22, .func (PySem.W.fnOf "_law_written" "_law_written" (defArgs s_Lwritten) (defBody s_Lwritten) (defScope s_Lwritten) .none kV22 dc22 pm22 an22 cd22 ct22), sl22⟩) (c22 : PySem.W.codeIn K cd22 "_law_written" = true) (k22 : PySem.W.keepIn K (.ref f22) = true)
    (a23 : PySem.W.nsIn K mainGlobals "_law_word" = some (some (.ref f23))) (l23 : K.lookup f23 = some ⟨oc23, od23, .func (PySem.W.fnOf "_law_word" "_law_word" (defArgs s_Lword) (defBody s_Lword) (defScope s_Lword) .none kV23 dc23 pm23 an23 cd23 ct23), sl23⟩) (c23 : PySem.W.codeIn K cd23 "_law_word" = true) (k23 : PySem.W.keepIn K (.ref f23) = true)
    (a24 : PySem.W.nsIn K mainGlobals "_law_alike" = some (some (.ref f24))) (l24 : K.lookup f24 = some ⟨oc24, od24, .func (PySem.W.fnOf "_law_alike" "_law_alike" (defArgs s_Lalike) (defBody s_Lalike) (defScope s_Lalike) .none kV24 dc24 pm24 an24 cd24 ct24), sl24⟩) (c24 : PySem.W.codeIn K cd24 "_law_alike" = true) (k24 : PySem.W.keepIn K (.ref f24) = true)
    (a25 : PySem.W.nsIn K mainGlobals "law" = some (some (.ref f25))) (l25 : K.lookup f25 = some ⟨oc25, od25, .func (PySem.W.fnOf "law" "law" (defArgs s_law) (defBody s_law) (defScope s_law) .none kV25 dc25 pm25 an25 cd25 ct25), sl25⟩) (c25 : PySem.W.codeIn K cd25 "law" = true) (k25 : PySem.W.keepIn K (.ref f25) = true)
    (z_all : PySem.W.nsIn K mainGlobals "all" = some none) (z_bool : PySem.W.nsIn K mainGlobals "bool" = some none) (z_enumerate : PySem.W.nsIn K mainGlobals "enumerate" = some none) (z_int : PySem.W.nsIn K mainGlobals "int" = some none) (z_isinstance : PySem.W.nsIn K mainGlobals "isinstance" = some none) (z_len : PySem.W.nsIn K mainGlobals "len" = some none) (z_list : PySem.W.nsIn K mainGlobals "list" = some none) (z_ord : PySem.W.nsIn K mainGlobals "ord" = some none) (z_range : PySem.W.nsIn K mainGlobals "range" = some none) (z_str : PySem.W.nsIn K mainGlobals "str" = some none) (z_sum : PySem.W.nsIn K mainGlobals "sum" = some none) (z_tuple : PySem.W.nsIn K mainGlobals "tuple" = some none) (z_zip : PySem.W.nsIn K mainGlobals "zip" = some none) (y_FIGURES : PySem.W.nsIn K mainGlobals "FIGURES" = some (some (.str "0123456789" t_FIGURES))) (y_LETTERS : PySem.W.nsIn K mainGlobals "LETTERS" = some (some (.str "abcdefghijklmnopqrstuvwxyz" t_LETTERS))) (y_MOST_DEEDS : PySem.W.nsIn K mainGlobals "MOST_DEEDS" = some (some (.int 40 t_MOST_DEEDS))) (y_MOST_FIGURES : PySem.W.nsIn K mainGlobals "MOST_FIGURES" = some (some (.int 60 t_MOST_FIGURES))) (y_MOST_HANDS : PySem.W.nsIn K mainGlobals "MOST_HANDS" = some (some (.int 6 t_MOST_HANDS))) (y_MOST_LETTERS : PySem.W.nsIn K mainGlobals "MOST_LETTERS" = some (some (.int 8 t_MOST_LETTERS))) (y_GUARD_SHAPE : PySem.W.nsIn K mainGlobals "GUARD_SHAPE" = some (some (.ref r_GUARD_SHAPE))) (w_GUARD_SHAPE : KTup K r_GUARD_SHAPE ["name", "number"]) (y_GUARD_WORDS : PySem.W.nsIn K mainGlobals "GUARD_WORDS" = some (some (.ref r_GUARD_WORDS))) (w_GUARD_WORDS : KTup K r_GUARD_WORDS ["when", "unless"]) (y_SHAPES : PySem.W.nsIn K mainGlobals "SHAPES" = some (some (.ref r_SHAPES))) (w_SHAPES : KTab K r_SHAPES [("put", ["name", "number"]), ("get", ["name", "name"]), ("swap", ["name", "name", "number"]), ("fence", []), ("bar", [])]) :
    ∃ fd : FuncData, (∀ (s : Shared) (v : Value), BindsTo s fd ⟨[v], []⟩ [("_law_script", v)]) ∧ ∀ base : Heap, K.In base → base.Ns mainGlobals mg → FnOk l.prog w K mg base CX0 8 fa fd ["_law_script"] (sp_law K) := by
  have e := hfa.symm.trans (PySem.W.mg_of X G a25)
  cases e
  have T : Txt K mg := ⟨PySem.W.mg_none_of X G z_all, PySem.W.mg_none_of X G z_bool, PySem.W.mg_none_of X G z_enumerate, PySem.W.mg_none_of X G z_int, PySem.W.mg_none_of X G z_isinstance, PySem.W.mg_none_of X G z_len, PySem.W.mg_none_of X G z_list, PySem.W.mg_none_of X G z_ord, PySem.W.mg_none_of X G z_range, PySem.W.mg_none_of X G z_str, PySem.W.mg_none_of X G z_sum, PySem.W.mg_none_of X G z_tuple, PySem.W.mg_none_of X G z_zip, ⟨_, PySem.W.mg_of X G y_FIGURES, ⟨_, rfl⟩⟩, ⟨_, PySem.W.mg_of X G y_GUARD_SHAPE, w_GUARD_SHAPE⟩, ⟨_, PySem.W.mg_of X G y_GUARD_WORDS, w_GUARD_WORDS⟩, ⟨_, PySem.W.mg_of X G y_LETTERS, ⟨_, rfl⟩⟩, ⟨_, PySem.W.mg_of X G y_MOST_DEEDS, ⟨_, rfl⟩⟩, ⟨_, PySem.W.mg_of X G y_MOST_FIGURES, ⟨_, rfl⟩⟩, ⟨_, PySem.W.mg_of X G y_MOST_HANDS, ⟨_, rfl⟩⟩, ⟨_, PySem.W.mg_of X G y_MOST_LETTERS, ⟨_, rfl⟩⟩, ⟨_, PySem.W.mg_of X G y_SHAPES, w_SHAPES⟩⟩
  have F0 := fun_mk (st := s_guardof) l0 c0 k0
  have b0 := F0.binds (ps := ["deed"]) fun _ _ _ _ _ _ us hl => match us, hl with | [_], _ => rfl
  have F1 := fun_mk (st := s_deedsize) l1 c1 k1
  have b1 := F1.binds (ps := ["words"]) fun _ _ _ _ _ _ us hl => match us, hl with | [_], _ => rfl
  have F2 := fun_mk (st := s_madeof) l2 c2 k2
  have b2 := F2.binds (ps := ["word", "signs", "most"]) fun _ _ _ _ _ _ us hl => match us, hl with | [_, _, _], _ => rfl
  have F3 := fun_mk (st := s_isnumber) l3 c3 k3
  have b3 := F3.binds (ps := ["word"]) fun _ _ _ _ _ _ us hl => match us, hl with | [_], _ => rfl
  have F4 := fun_mk (st := s_readdeed) l4 c4 k4
  have b4 := F4.binds (ps := ["text"]) fun _ _ _ _ _ _ us hl => match us, hl with | [_], _ => rfl
  have F5 := fun_mk (st := s_readhand) l5 c5 k5
  have b5 := F5.binds (ps := ["text"]) fun _ _ _ _ _ _ us hl => match us, hl with | [_], _ => rfl
  have F6 := fun_mk (st := s_isname) l6 c6 k6
  have b6 := F6.binds (ps := ["word"]) fun _ _ _ _ _ _ us hl => match us, hl with | [_], _ => rfl
  have F7 := fun_mk (st := s_fits) l7 c7 k7
  have b7 := F7.binds (ps := ["words", "shape"]) fun _ _ _ _ _ _ us hl => match us, hl with | [_, _], _ => rfl
  have F8 := fun_mk (st := s_isguard) l8 c8 k8
  have b8 := F8.binds (ps := ["words"]) fun _ _ _ _ _ _ us hl => match us, hl with | [_], _ => rfl
  have F9 := fun_mk (st := s_isdeed) l9 c9 k9
  have b9 := F9.binds (ps := ["text"]) fun _ _ _ _ _ _ us hl => match us, hl with | [_], _ => rfl
  have F10 := fun_mk (st := s_ishand) l10 c10 k10
  have b10 := F10.binds (ps := ["text"]) fun _ _ _ _ _ _ us hl => match us, hl with | [_], _ => rfl
  have F11 := fun_mk (st := s_read) l11 c11 k11
  have b11 := F11.binds (ps := ["text"]) fun _ _ _ _ _ _ us hl => match us, hl with | [_], _ => rfl
  have F12 := fun_mk (st := s_showdeed) l12 c12 k12
  have b12 := F12.binds (ps := ["deed"]) fun _ _ _ _ _ _ us hl => match us, hl with | [_], _ => rfl
  have F13 := fun_mk (st := s_showhand) l13 c13 k13
  have b13 := F13.binds (ps := ["hand"]) fun _ _ _ _ _ _ us hl => match us, hl with | [_], _ => rfl
  have F14 := fun_mk (st := s_shown) l14 c14 k14
  have b14 := F14.binds (ps := ["program"]) fun _ _ _ _ _ _ us hl => match us, hl with | [_], _ => rfl
  have F15 := fun_mk (st := s_Lcellat) l15 c15 k15
  have b15 := F15.binds (ps := ["_law_script", "_law_k"]) fun _ _ _ _ _ _ us hl => match us, hl with | [_, _], _ => rfl
  have F16 := fun_mk (st := s_Lpart) l16 c16 k16
  have b16 := F16.binds (ps := ["_law_cell", "_law_k", "_law_many"]) fun _ _ _ _ _ _ us hl => match us, hl with | [_, _, _], _ => rfl
  have F17 := fun_mk (st := s_Lname) l17 c17 k17
  have b17 := F17.binds (ps := ["_law_cell"]) fun _ _ _ _ _ _ us hl => match us, hl with | [_], _ => rfl
  have F18 := fun_mk (st := s_Lnames) l18 c18 k18
  have b18 := F18.binds (ps := ["_law_cell", "_law_way"]) fun _ _ _ _ _ _ us hl => match us, hl with | [_, _], _ => rfl
  have F19 := fun_mk (st := s_Lnumber) l19 c19 k19
  have b19 := F19.binds (ps := ["_law_cell"]) fun _ _ _ _ _ _ us hl => match us, hl with | [_], _ => rfl
  have F20 := fun_mk (st := s_Ldeed) l20 c20 k20
  have b20 := F20.binds (ps := ["_law_cell", "_law_kind", "_law_spots", "_law_held"]) fun _ _ _ _ _ _ us hl => match us, hl with | [_, _, _, _], _ => rfl
  have F21 := fun_mk (st := s_Lprogram) l21 c21 k21
  have b21 := F21.binds (ps := ["_law_script"]) fun _ _ _ _ _ _ us hl => match us, hl with | [_], _ => rfl
  have F22 := fun_mk (st := s_Lwritten) l22 c22 k22
  have b22 := F22.binds (ps := ["_law_program_here"]) fun _ _ _ _ _ _ us hl => match us, hl with | [_], _ => rfl
  have F23 := fun_mk (st := s_Lword) l23 c23 k23
  have b23 := F23.binds (ps := ["_law_found", "_law_due"]) fun _ _ _ _ _ _ us hl => match us, hl with | [_, _], _ => rfl
  have F24 := fun_mk (st := s_Lalike) l24 c24 k24
  have b24 := F24.binds (ps := ["_law_found", "_law_due"]) fun _ _ _ _ _ _ us hl => match us, hl with | [_, _], _ => rfl
  have F25 := fun_mk (st := s_law) l25 c25 k25
  have b25 := F25.binds (ps := ["_law_script"]) fun _ _ _ _ _ _ us hl => match us, hl with | [_], _ => rfl
  refine ⟨PySem.W.fnOf "law" "law" (defArgs s_law) (defBody s_law) (defScope s_law) .none kV25 dc25 pm25 an25 cd25 ct25, fun s v => .of_eq rfl, fun base _ _ => ?_⟩
  have h_guardof : Has l.prog w K mg base 1 "guard_of" ["deed"] (sp_guardof K) := ⟨_, _, ok_guardof F0 T , PySem.W.mg_of X G a0, k0, b0⟩
  have h_deedsize : Has l.prog w K mg base 1 "deed_size" ["words"] (sp_deedsize K) := ⟨_, _, ok_deedsize F1 T , PySem.W.mg_of X G a1, k1, b1⟩
  have h_madeof : Has l.prog w K mg base 1 "made_of" ["word", "signs", "most"] (sp_madeof K) := ⟨_, _, ok_madeof F2 T , PySem.W.mg_of X G a2, k2, b2⟩
  have h_isnumber : Has l.prog w K mg base 2 "is_number" ["word"] (sp_isnumber K) := ⟨_, _, ok_isnumber F3 T h_madeof, PySem.W.mg_of X G a3, k3, b3⟩
  have h_readdeed : Has l.prog w K mg base 3 "read_deed" ["text"] (sp_readdeed K) := ⟨_, _, ok_readdeed F4 T h_deedsize h_isnumber, PySem.W.mg_of X G a4, k4, b4⟩
  have h_readhand : Has l.prog w K mg base 4 "read_hand" ["text"] (sp_readhand K) := ⟨_, _, ok_readhand F5 T h_readdeed, PySem.W.mg_of X G a5, k5, b5⟩
  have h_isname : Has l.prog w K mg base 2 "is_name" ["word"] (sp_isname K) := ⟨_, _, ok_isname F6 T h_madeof, PySem.W.mg_of X G a6, k6, b6⟩
  have h_fits : Has l.prog w K mg base 3 "fits" ["words", "shape"] (sp_fits K) := ⟨_, _, ok_fits F7 T h_isnumber h_isname, PySem.W.mg_of X G a7, k7, b7⟩
  have h_isguard : Has l.prog w K mg base 4 "is_guard" ["words"] (sp_isguard K) := ⟨_, _, ok_isguard F8 T h_fits, PySem.W.mg_of X G a8, k8, b8⟩
  have h_isdeed : Has l.prog w K mg base 5 "is_deed" ["text"] (sp_isdeed K) := ⟨_, _, ok_isdeed F9 T h_deedsize h_fits h_isguard, PySem.W.mg_of X G a9, k9, b9⟩
  have h_ishand : Has l.prog w K mg base 6 "is_hand" ["text"] (sp_ishand K) := ⟨_, _, ok_ishand F10 T h_isdeed, PySem.W.mg_of X G a10, k10, b10⟩
  have h_read : Has l.prog w K mg base 7 "read" ["text"] (sp_read K) := ⟨_, _, ok_read F11 T h_readhand h_ishand, PySem.W.mg_of X G a11, k11, b11⟩
  have h_showdeed : Has l.prog w K mg base 2 "show_deed" ["deed"] (sp_showdeed K) := ⟨_, _, ok_showdeed F12 T h_guardof, PySem.W.mg_of X G a12, k12, b12⟩
  have h_showhand : Has l.prog w K mg base 3 "show_hand" ["hand"] (sp_showhand K) := ⟨_, _, ok_showhand F13 T h_showdeed, PySem.W.mg_of X G a13, k13, b13⟩
  have h_shown : Has l.prog w K mg base 4 "shown" ["program"] (sp_shown K) := ⟨_, _, ok_shown F14 T h_showhand, PySem.W.mg_of X G a14, k14, b14⟩
  have h_Lcellat : Has l.prog w K mg base 1 "_law_cell_at" ["_law_script", "_law_k"] (sp_Lcellat K) := ⟨_, _, ok_Lcellat F15 T , PySem.W.mg_of X G a15, k15, b15⟩
  have h_Lpart : Has l.prog w K mg base 1 "_law_part" ["_law_cell", "_law_k", "_law_many"] (sp_Lpart K) := ⟨_, _, ok_Lpart F16 T , PySem.W.mg_of X G a16, k16, b16⟩
  have h_Lname : Has l.prog w K mg base 1 "_law_name" ["_law_cell"] (sp_Lname K) := ⟨_, _, ok_Lname F17 T , PySem.W.mg_of X G a17, k17, b17⟩
  have h_Lnames : Has l.prog w K mg base 2 "_law_names" ["_law_cell", "_law_way"] (sp_Lnames K) := ⟨_, _, ok_Lnames F18 T h_Lname, PySem.W.mg_of X G a18, k18, b18⟩
  have h_Lnumber : Has l.prog w K mg base 1 "_law_number" ["_law_cell"] (sp_Lnumber K) := ⟨_, _, ok_Lnumber F19 T , PySem.W.mg_of X G a19, k19, b19⟩
  have h_Ldeed : Has l.prog w K mg base 2 "_law_deed" ["_law_cell", "_law_kind", "_law_spots", "_law_held"] (sp_Ldeed K) := ⟨_, _, ok_Ldeed F20 T h_Lpart h_Lnumber, PySem.W.mg_of X G a20, k20, b20⟩
  have h_Lprogram : Has l.prog w K mg base 3 "_law_program" ["_law_script"] (sp_Lprogram K) := ⟨_, _, ok_Lprogram F21 T h_Lcellat h_Lnames h_Lpart h_Ldeed, PySem.W.mg_of X G a21, k21, b21⟩
  have h_Lwritten : Has l.prog w K mg base 1 "_law_written" ["_law_program_here"] (sp_Lwritten K) := ⟨_, _, ok_Lwritten F22 T , PySem.W.mg_of X G a22, k22, b22⟩
  have h_Lword : Has l.prog w K mg base 1 "_law_word" ["_law_found", "_law_due"] (sp_Lword K) := ⟨_, _, ok_Lword F23 T , PySem.W.mg_of X G a23, k23, b23⟩
  have h_Lalike : Has l.prog w K mg base 2 "_law_alike" ["_law_found", "_law_due"] (sp_Lalike K) := ⟨_, _, ok_Lalike F24 T h_Lword, PySem.W.mg_of X G a24, k24, b24⟩
  exact ok_law F25 T h_Lprogram h_shown h_Lwritten h_read h_Lalike h_Lcellat
theorem walk {l : PySem.W.OpenLaw} {q : Program} {loose : List Str} {XP : (Str → Option Value) → Heap → Prop} {YP : World → Heap → Prop} {d : DefRec} {K : Params → PySem.W.Frag} (hn : l.most = some 63) (hdf : d.params.defaults = [])
    (hY : ∀ (w : World) (h : Heap), YP w h → (K w.params).In h)
    (F : ∀ (w : World) (mg : Str → Option Value) (fa : Addr) (h : Heap), (K w.params).In h → h.Ns mainGlobals mg → mg d.name = some (.ref fa) →
      ∃ fd : FuncData, (∀ (s : Shared) (u : Value), BindsTo s fd ⟨[u], []⟩ [("_law_script", u)]) ∧ ∀ base : Heap, (K w.params).In base → base.Ns mainGlobals mg → FnOk l.prog w (K w.params) mg base CX0 8 fa fd ["_law_script"] (sp_law (K w.params))) :
    PySem.W.WalkO q loose XP YP l.row.toRowW d [] (fun f vs => PySem.call f vs) :=
  L2.walk_of (n := 63) (k := 8) (x := "_law_script") (CX := fun _ => CX0) (sp := fun w => sp_law (K w.params)) hn (by decide) hdf ⟨rfl, by decide, by decide⟩ hY F (fun _ _ a ns hl _ hS => ⟨a, ns, rfl, hS, hl, fun _ => rfl⟩) fun _ _ _ _ _ z => z
end Own
open PySem PySem.W PyProof.Rows
set_option maxRecDepth 100000 in
set_option maxHeartbeats 0 in
theorem PySem.Challenge.cw_latewrite_k04_whole_texts_read_again_holds : PySem.Challenge.rw_latewrite_k04_whole_texts_read_again.Holds := by
  w_on; o_law; k_head; (case hw => w_witness2)
  k_fill
  refine Own.walk (l := PySem.Challenge.rw_latewrite_k04_whole_texts_read_again) rfl rfl (fun w h Y => PySem.W.kIn_of Y) ?F
  case F =>
    intro w mg fa h KX G hmg
    refine' Own.all_mk KX G hmg ?a0 ?l0 ?c0 ?k0 ?a1 ?l1 ?c1 ?k1 ?a2 ?l2 ?c2 ?k2 ?a3 ?l3 ?c3 ?k3 ?a4 ?l4 ?c4 ?k4 ?a5 ?l5 ?c5 ?k5 ?a6 ?l6 ?c6 ?k6 ?a7 ?l7 ?c7 ?k7 ?a8 ?l8 ?c8 ?k8 ?a9 ?l9 ?c9 ?k9 ?a10 ?l10 ?c10 ?k10 ?a11 ?l11 ?c11 ?k11 ?a12 ?l12 ?c12 ?k12 ?a13 ?l13 ?c13 ?k13 ?a14 ?l14 ?c14 ?k14 ?a15 ?l15 ?c15 ?k15 ?a16 ?l16 ?c16 ?k16 ?a17 ?l17 ?c17 ?k17 ?a18 ?l18 ?c18 ?k18 ?a19 ?l19 ?c19 ?k19 ?a20 ?l20 ?c20 ?k20 ?a21 ?l21 ?c21 ?k21 ?a22 ?l22 ?c22 ?k22 ?a23 ?l23 ?c23 ?k23 ?a24 ?l24 ?c24 ?k24 ?a25 ?l25 ?c25 ?k25 ?z_all ?z_bool ?z_enumerate ?z_int ?z_isinstance ?z_len ?z_list ?z_ord ?z_range ?z_str ?z_sum ?z_tuple ?z_zip ?y_FIGURES ?y_LETTERS ?y_MOST_DEEDS ?y_MOST_FIGURES ?y_MOST_HANDS ?y_MOST_LETTERS ?y_GUARD_SHAPE ?w_GUARD_SHAPE ?y_GUARD_WORDS ?w_GUARD_WORDS ?y_SHAPES ?w_SHAPES
    (case a0 => k_is)
    (case l0 => k_is)
    (case c0 => k_is)
    (case k0 => k_is)
    (case a1 => k_is)
    (case l1 => k_is)
    (case c1 => k_is)
    (case k1 => k_is)
    (case a2 => k_is)
    (case l2 => k_is)
    (case c2 => k_is)
    (case k2 => k_is)
    (case a3 => k_is)
    (case l3 => k_is)
    (case c3 => k_is)
    (case k3 => k_is)
    (case a4 => k_is)
    (case l4 => k_is)
    (case c4 => k_is)
    (case k4 => k_is)
    (case a5 => k_is)
    (case l5 => k_is)
    (case c5 => k_is)
    (case k5 => k_is)
    (case a6 => k_is)
    (case l6 => k_is)
    (case c6 => k_is)
    (case k6 => k_is)
    (case a7 => k_is)
    (case l7 => k_is)
    (case c7 => k_is)
    (case k7 => k_is)
    (case a8 => k_is)
    (case l8 => k_is)
    (case c8 => k_is)
    (case k8 => k_is)
    (case a9 => k_is)
    (case l9 => k_is)
    (case c9 => k_is)
    (case k9 => k_is)
    (case a10 => k_is)
    (case l10 => k_is)
    (case c10 => k_is)
    (case k10 => k_is)
    (case a11 => k_is)
    (case l11 => k_is)
    (case c11 => k_is)
    (case k11 => k_is)
    (case a12 => k_is)
    (case l12 => k_is)
    (case c12 => k_is)
    (case k12 => k_is)
    (case a13 => k_is)
    (case l13 => k_is)
    (case c13 => k_is)
    (case k13 => k_is)
    (case a14 => k_is)
    (case l14 => k_is)
    (case c14 => k_is)
    (case k14 => k_is)
    (case a15 => k_is)
    (case l15 => k_is)
    (case c15 => k_is)
    (case k15 => k_is)
    (case a16 => k_is)
    (case l16 => k_is)
    (case c16 => k_is)
    (case k16 => k_is)
    (case a17 => k_is)
    (case l17 => k_is)
    (case c17 => k_is)
    (case k17 => k_is)
    (case a18 => k_is)
    (case l18 => k_is)
    (case c18 => k_is)
    (case k18 => k_is)
    (case a19 => k_is)
    (case l19 => k_is)
    (case c19 => k_is)
    (case k19 => k_is)
    (case a20 => k_is)
    (case l20 => k_is)
    (case c20 => k_is)
    (case k20 => k_is)
    (case a21 => k_is)
    (case l21 => k_is)
    (case c21 => k_is)
    (case k21 => k_is)
    (case a22 => k_is)
    (case l22 => k_is)
    (case c22 => k_is)
    (case k22 => k_is)
    (case a23 => k_is)
    (case l23 => k_is)
    (case c23 => k_is)
    (case k23 => k_is)
    (case a24 => k_is)
    (case l24 => k_is)
    (case c24 => k_is)
    (case k24 => k_is)
    (case a25 => k_is)
    (case l25 => k_is)
    (case c25 => k_is)
    (case k25 => k_is)
    (case z_all => k_is)
    (case z_bool => k_is)
    (case z_enumerate => k_is)
    (case z_int => k_is)
    (case z_isinstance => k_is)
    (case z_len => k_is)
    (case z_list => k_is)
    (case z_ord => k_is)
    (case z_range => k_is)
    (case z_str => k_is)
    (case z_sum => k_is)
    (case z_tuple => k_is)
    (case z_zip => k_is)
    (case y_FIGURES => k_is)
    (case y_LETTERS => k_is)
    (case y_MOST_DEEDS => k_is)
    (case y_MOST_FIGURES => k_is)
    (case y_MOST_HANDS => k_is)
    (case y_MOST_LETTERS => k_is)
    (case y_GUARD_SHAPE => k_is)
    (case w_GUARD_SHAPE => (first | (unfold L2.KTup; kernel_rfl) | (unfold L2.KTab; kernel_rfl)))
    (case y_GUARD_WORDS => k_is)
    (case w_GUARD_WORDS => (first | (unfold L2.KTup; kernel_rfl) | (unfold L2.KTab; kernel_rfl)))
    (case y_SHAPES => k_is)
    (case w_SHAPES => (first | (unfold L2.KTup; kernel_rfl) | (unfold L2.KTab; kernel_rfl)))


