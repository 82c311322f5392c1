import PyProof.Rows.All
import Wide.All
import OpenK.AllK
import OpenK.ZGo
import Wide.FinOn
import Lean
import PyProof.EqAt
import PyProof.EqKinds
import PyProof.TupleCall
import PyProof.NeKinds
import PySem.Challenge.RW_latewrite_k61_stops_put_in
set_option Elab.async false
set_option linter.all false
set_option maxRecDepth 100000
universe u0 u1 u2 u3 u4 u5
inductive Ex_1_1 {t0 : Sort u0} (P0 : t0 → Prop) : Prop
  | mk (x0 : t0) (h0 : P0 x0) : Ex_1_1 P0
inductive Ex_1_2 {t0 : Sort u0} (P0 P1 : t0 → Prop) : Prop
  | mk (x0 : t0) (h0 : P0 x0) (h1 : P1 x0) : Ex_1_2 P0 P1
inductive Ex_1_3 {t0 : Sort u0} (P0 P1 P2 : t0 → Prop) : Prop
  | mk (x0 : t0) (h0 : P0 x0) (h1 : P1 x0) (h2 : P2 x0) : Ex_1_3 P0 P1 P2
inductive Ex_1_4 {t0 : Sort u0} (P0 P1 P2 P3 : t0 → Prop) : Prop
  | mk (x0 : t0) (h0 : P0 x0) (h1 : P1 x0) (h2 : P2 x0) (h3 : P3 x0) : Ex_1_4 P0 P1 P2 P3
inductive Ex_2_1 {t0 : Sort u0} {t1 : Sort u1} (P0 : t0 → t1 → Prop) : Prop
  | mk (x0 : t0) (x1 : t1) (h0 : P0 x0 x1) : Ex_2_1 P0
inductive Ex_2_2 {t0 : Sort u0} {t1 : Sort u1} (P0 P1 : t0 → t1 → Prop) : Prop
  | mk (x0 : t0) (x1 : t1) (h0 : P0 x0 x1) (h1 : P1 x0 x1) : Ex_2_2 P0 P1
inductive Ex_2_3 {t0 : Sort u0} {t1 : Sort u1} (P0 P1 P2 : t0 → t1 → Prop) : Prop
  | mk (x0 : t0) (x1 : t1) (h0 : P0 x0 x1) (h1 : P1 x0 x1) (h2 : P2 x0 x1) : Ex_2_3 P0 P1 P2
inductive Ex_2_4 {t0 : Sort u0} {t1 : Sort u1} (P0 P1 P2 P3 : t0 → t1 → Prop) : Prop
  | mk (x0 : t0) (x1 : t1) (h0 : P0 x0 x1) (h1 : P1 x0 x1) (h2 : P2 x0 x1) (h3 : P3 x0 x1) : Ex_2_4 P0 P1 P2 P3
inductive Ex_2_5 {t0 : Sort u0} {t1 : Sort u1} (P0 P1 P2 P3 P4 : t0 → t1 → Prop) : Prop
  | mk (x0 : t0) (x1 : t1) (h0 : P0 x0 x1) (h1 : P1 x0 x1) (h2 : P2 x0 x1) (h3 : P3 x0 x1) (h4 : P4 x0 x1) : Ex_2_5 P0 P1 P2 P3 P4
inductive Ex_2_6 {t0 : Sort u0} {t1 : Sort u1} (P0 P1 P2 P3 P4 P5 : t0 → t1 → Prop) : Prop
  | mk (x0 : t0) (x1 : t1) (h0 : P0 x0 x1) (h1 : P1 x0 x1) (h2 : P2 x0 x1) (h3 : P3 x0 x1) (h4 : P4 x0 x1) (h5 : P5 x0 x1) : Ex_2_6 P0 P1 P2 P3 P4 P5
inductive Ex_2_8 {t0 : Sort u0} {t1 : Sort u1} (P0 P1 P2 P3 P4 P5 P6 P7 : t0 → t1 → Prop) : Prop
  | mk (x0 : t0) (x1 : t1) (h0 : P0 x0 x1) (h1 : P1 x0 x1) (h2 : P2 x0 x1) (h3 : P3 x0 x1) (h4 : P4 x0 x1) (h5 : P5 x0 x1) (h6 : P6 x0 x1) (h7 : P7 x0 x1) : Ex_2_8 P0 P1 P2 P3 P4 P5 P6 P7
inductive Ex_3_1 {t0 : Sort u0} {t1 : Sort u1} {t2 : Sort u2} (P0 : t0 → t1 → t2 → Prop) : Prop
  | mk (x0 : t0) (x1 : t1) (x2 : t2) (h0 : P0 x0 x1 x2) : Ex_3_1 P0
inductive Ex_3_3 {t0 : Sort u0} {t1 : Sort u1} {t2 : Sort u2} (P0 P1 P2 : t0 → t1 → t2 → Prop) : Prop
  | mk (x0 : t0) (x1 : t1) (x2 : t2) (h0 : P0 x0 x1 x2) (h1 : P1 x0 x1 x2) (h2 : P2 x0 x1 x2) : Ex_3_3 P0 P1 P2
inductive Ex_3_4 {t0 : Sort u0} {t1 : Sort u1} {t2 : Sort u2} (P0 P1 P2 P3 : t0 → t1 → t2 → Prop) : Prop
  | mk (x0 : t0) (x1 : t1) (x2 : t2) (h0 : P0 x0 x1 x2) (h1 : P1 x0 x1 x2) (h2 : P2 x0 x1 x2) (h3 : P3 x0 x1 x2) : Ex_3_4 P0 P1 P2 P3
inductive Ex_3_5 {t0 : Sort u0} {t1 : Sort u1} {t2 : Sort u2} (P0 P1 P2 P3 P4 : t0 → t1 → t2 → Prop) : Prop
  | mk (x0 : t0) (x1 : t1) (x2 : t2) (h0 : P0 x0 x1 x2) (h1 : P1 x0 x1 x2) (h2 : P2 x0 x1 x2) (h3 : P3 x0 x1 x2) (h4 : P4 x0 x1 x2) : Ex_3_5 P0 P1 P2 P3 P4
inductive Ex_3_6 {t0 : Sort u0} {t1 : Sort u1} {t2 : Sort u2} (P0 P1 P2 P3 P4 P5 : t0 → t1 → t2 → Prop) : Prop
  | mk (x0 : t0) (x1 : t1) (x2 : t2) (h0 : P0 x0 x1 x2) (h1 : P1 x0 x1 x2) (h2 : P2 x0 x1 x2) (h3 : P3 x0 x1 x2) (h4 : P4 x0 x1 x2) (h5 : P5 x0 x1 x2) : Ex_3_6 P0 P1 P2 P3 P4 P5
inductive Ex_3_7 {t0 : Sort u0} {t1 : Sort u1} {t2 : Sort u2} (P0 P1 P2 P3 P4 P5 P6 : t0 → t1 → t2 → Prop) : Prop
  | mk (x0 : t0) (x1 : t1) (x2 : t2) (h0 : P0 x0 x1 x2) (h1 : P1 x0 x1 x2) (h2 : P2 x0 x1 x2) (h3 : P3 x0 x1 x2) (h4 : P4 x0 x1 x2) (h5 : P5 x0 x1 x2) (h6 : P6 x0 x1 x2) : Ex_3_7 P0 P1 P2 P3 P4 P5 P6
inductive Ex_4_2 {t0 : Sort u0} {t1 : Sort u1} {t2 : Sort u2} {t3 : Sort u3} (P0 P1 : t0 → t1 → t2 → t3 → Prop) : Prop
  | mk (x0 : t0) (x1 : t1) (x2 : t2) (x3 : t3) (h0 : P0 x0 x1 x2 x3) (h1 : P1 x0 x1 x2 x3) : Ex_4_2 P0 P1
inductive Ex_4_4 {t0 : Sort u0} {t1 : Sort u1} {t2 : Sort u2} {t3 : Sort u3} (P0 P1 P2 P3 : t0 → t1 → t2 → t3 → Prop) : Prop
  | mk (x0 : t0) (x1 : t1) (x2 : t2) (x3 : t3) (h0 : P0 x0 x1 x2 x3) (h1 : P1 x0 x1 x2 x3) (h2 : P2 x0 x1 x2 x3) (h3 : P3 x0 x1 x2 x3) : Ex_4_4 P0 P1 P2 P3
inductive Ex_4_5 {t0 : Sort u0} {t1 : Sort u1} {t2 : Sort u2} {t3 : Sort u3} (P0 P1 P2 P3 P4 : t0 → t1 → t2 → t3 → Prop) : Prop
  | mk (x0 : t0) (x1 : t1) (x2 : t2) (x3 : t3) (h0 : P0 x0 x1 x2 x3) (h1 : P1 x0 x1 x2 x3) (h2 : P2 x0 x1 x2 x3) (h3 : P3 x0 x1 x2 x3) (h4 : P4 x0 x1 x2 x3) : Ex_4_5 P0 P1 P2 P3 P4
inductive Ex_4_6 {t0 : Sort u0} {t1 : Sort u1} {t2 : Sort u2} {t3 : Sort u3} (P0 P1 P2 P3 P4 P5 : t0 → t1 → t2 → t3 → Prop) : Prop
  | mk (x0 : t0) (x1 : t1) (x2 : t2) (x3 : t3) (h0 : P0 x0 x1 x2 x3) (h1 : P1 x0 x1 x2 x3) (h2 : P2 x0 x1 x2 x3) (h3 : P3 x0 x1 x2 x3) (h4 : P4 x0 x1 x2 x3) (h5 : P5 x0 x1 x2 x3) : Ex_4_6 P0 P1 P2 P3 P4 P5
inductive Ex_4_7 {t0 : Sort u0} {t1 : Sort u1} {t2 : Sort u2} {t3 : Sort u3} (P0 P1 P2 P3 P4 P5 P6 : t0 → t1 → t2 → t3 → Prop) : Prop
  | mk (x0 : t0) (x1 : t1) (x2 : t2) (x3 : t3) (h0 : P0 x0 x1 x2 x3) (h1 : P1 x0 x1 x2 x3) (h2 : P2 x0 x1 x2 x3) (h3 : P3 x0 x1 x2 x3) (h4 : P4 x0 x1 x2 x3) (h5 : P5 x0 x1 x2 x3) (h6 : P6 x0 x1 x2 x3) : Ex_4_7 P0 P1 P2 P3 P4 P5 P6
inductive Ex_4_11 {t0 : Sort u0} {t1 : Sort u1} {t2 : Sort u2} {t3 : Sort u3} (P0 P1 P2 P3 P4 P5 P6 P7 P8 P9 P10 : t0 → t1 → t2 → t3 → Prop) : Prop
  | mk (x0 : t0) (x1 : t1) (x2 : t2) (x3 : t3) (h0 : P0 x0 x1 x2 x3) (h1 : P1 x0 x1 x2 x3) (h2 : P2 x0 x1 x2 x3) (h3 : P3 x0 x1 x2 x3) (h4 : P4 x0 x1 x2 x3) (h5 : P5 x0 x1 x2 x3) (h6 : P6 x0 x1 x2 x3) (h7 : P7 x0 x1 x2 x3) (h8 : P8 x0 x1 x2 x3) (h9 : P9 x0 x1 x2 x3) (h10 : P10 x0 x1 x2 x3) : Ex_4_11 P0 P1 P2 P3 P4 P5 P6 P7 P8 P9 P10
inductive Ex_5_2 {t0 : Sort u0} {t1 : Sort u1} {t2 : Sort u2} {t3 : Sort u3} {t4 : Sort u4} (P0 P1 : t0 → t1 → t2 → t3 → t4 → Prop) : Prop
  | mk (x0 : t0) (x1 : t1) (x2 : t2) (x3 : t3) (x4 : t4) (h0 : P0 x0 x1 x2 x3 x4) (h1 : P1 x0 x1 x2 x3 x4) : Ex_5_2 P0 P1
inductive Ex_5_4 {t0 : Sort u0} {t1 : Sort u1} {t2 : Sort u2} {t3 : Sort u3} {t4 : Sort u4} (P0 P1 P2 P3 : t0 → t1 → t2 → t3 → t4 → Prop) : Prop
  | mk (x0 : t0) (x1 : t1) (x2 : t2) (x3 : t3) (x4 : t4) (h0 : P0 x0 x1 x2 x3 x4) (h1 : P1 x0 x1 x2 x3 x4) (h2 : P2 x0 x1 x2 x3 x4) (h3 : P3 x0 x1 x2 x3 x4) : Ex_5_4 P0 P1 P2 P3
inductive Ex_5_6 {t0 : Sort u0} {t1 : Sort u1} {t2 : Sort u2} {t3 : Sort u3} {t4 : Sort u4} (P0 P1 P2 P3 P4 P5 : t0 → t1 → t2 → t3 → t4 → Prop) : Prop
  | mk (x0 : t0) (x1 : t1) (x2 : t2) (x3 : t3) (x4 : t4) (h0 : P0 x0 x1 x2 x3 x4) (h1 : P1 x0 x1 x2 x3 x4) (h2 : P2 x0 x1 x2 x3 x4) (h3 : P3 x0 x1 x2 x3 x4) (h4 : P4 x0 x1 x2 x3 x4) (h5 : P5 x0 x1 x2 x3 x4) : Ex_5_6 P0 P1 P2 P3 P4 P5
inductive Ex_6_6 {t0 : Sort u0} {t1 : Sort u1} {t2 : Sort u2} {t3 : Sort u3} {t4 : Sort u4} {t5 : Sort u5} (P0 P1 P2 P3 P4 P5 : t0 → t1 → t2 → t3 → t4 → t5 → Prop) : Prop
  | mk (x0 : t0) (x1 : t1) (x2 : t2) (x3 : t3) (x4 : t4) (x5 : t5) (h0 : P0 x0 x1 x2 x3 x4 x5) (h1 : P1 x0 x1 x2 x3 x4 x5) (h2 : P2 x0 x1 x2 x3 x4 x5) (h3 : P3 x0 x1 x2 x3 x4 x5) (h4 : P4 x0 x1 x2 x3 x4 x5) (h5 : P5 x0 x1 x2 x3 x4 x5) : Ex_6_6 P0 P1 P2 P3 P4 P5
inductive Ex_6_8 {t0 : Sort u0} {t1 : Sort u1} {t2 : Sort u2} {t3 : Sort u3} {t4 : Sort u4} {t5 : Sort u5} (P0 P1 P2 P3 P4 P5 P6 P7 : t0 → t1 → t2 → t3 → t4 → t5 → Prop) : Prop
  | mk (x0 : t0) (x1 : t1) (x2 : t2) (x3 : t3) (x4 : t4) (x5 : t5) (h0 : P0 x0 x1 x2 x3 x4 x5) (h1 : P1 x0 x1 x2 x3 x4 x5) (h2 : P2 x0 x1 x2 x3 x4 x5) (h3 : P3 x0 x1 x2 x3 x4 x5) (h4 : P4 x0 x1 x2 x3 x4 x5) (h5 : P5 x0 x1 x2 x3 x4 x5) (h6 : P6 x0 x1 x2 x3 x4 x5) (h7 : P7 x0 x1 x2 x3 x4 x5) : Ex_6_8 P0 P1 P2 P3 P4 P5 P6 P7
theorem L2.hid {P : Prop} (h : ∀ G : Prop, P = G → G) : P := h P rfl
namespace L2
open PySem PySem.Spec PyProof.Rows

noncomputable abbrev Key := Sum Int Str
noncomputable def keyIs : Key → Value → Bool
  | .inl k, v => Value.isInt k v
  | .inr x, v => Value.isStrOf x v
noncomputable def keyH (w : World) : Key → Int
  | .inl k => hashInt k
  | .inr x => hashStr w x
theorem keyIs_shape : ∀ {k : Key} {v : Value}, keyIs k v = true → (Ex_2_2 (fun i t => k = Sum.inl i) (fun i t => v = Value.int i t)) ∨ (Ex_2_2 (fun x t => k = Sum.inr x) (fun x t => v = Value.str x t))
  | .inl i, v, h => by
    obtain ⟨t, e⟩ := Value.isInt_shape (k := i) (v := v) h
    exact .inl ⟨i, t, rfl, e⟩
  | .inr x, v, h => by
    obtain ⟨t, e⟩ := Value.isStrOf_shape (x := x) (v := v) h
    exact .inr ⟨x, t, rfl, e⟩
theorem keyIs_int (i : Int) (t : Tok) : keyIs (.inl i) (.int i t) = true := by simp [keyIs, Value.isInt]
theorem keyIs_str (x : Str) (t : Tok) : keyIs (.inr x) (.str x t) = true := by simp [keyIs, Value.isStrOf]
theorem key_ll (a b : Int) : decide ((Sum.inl a : Key) = Sum.inl b) = (a == b) := by
  by_cases e : a = b
  · subst e; simp
  · have h : ¬ (Sum.inl a : Key) = Sum.inl b := fun q => e (Sum.inl.inj q)
    rw [decide_eq_false h]
    exact (beq_eq_false_iff_ne.mpr e).symm
theorem key_rr (a b : Str) : decide ((Sum.inr a : Key) = Sum.inr b) = decide (a = b) := by
  by_cases e : a = b
  · subst e; simp
  · have h : ¬ (Sum.inr a : Key) = Sum.inr b := fun q => e (Sum.inr.inj q)
    rw [decide_eq_false h, decide_eq_false e]
theorem key_lr (a : Int) (b : Str) : decide ((Sum.inl a : Key) = Sum.inr b) = false := decide_eq_false (fun q => nomatch q)
theorem key_rl (a : Str) (b : Int) : decide ((Sum.inr a : Key) = Sum.inl b) = false := decide_eq_false (fun q => nomatch q)

noncomputable def mixKind (prog : Program) (w : World) : PySem.KeyKind prog w Key where
  is := keyIs
  hash := keyH w
  inj := fun v a b ha hb => by
    rcases keyIs_shape ha with ⟨i, t, rfl, rfl⟩ | ⟨x, t, rfl, rfl⟩
    · rcases keyIs_shape hb with ⟨j, u, rfl, e⟩ | ⟨y, u, rfl, e⟩
      · injection e with e1 _; rw [e1]
      · exact nomatch e
    · rcases keyIs_shape hb with ⟨j, u, rfl, e⟩ | ⟨y, u, rfl, e⟩
      · exact nomatch e
      · injection e with e1 _; rw [e1]
  byValue := fun k v h => by
    rcases keyIs_shape h with ⟨i, t, rfl, rfl⟩ | ⟨x, t, rfl, rfl⟩ <;> rfl
  pyHash := fun hv h => by
    rcases keyIs_shape hv with ⟨i, t, rfl, rfl⟩ | ⟨x, t, rfl, rfl⟩
    · exact wpAny_pyHash_int h
    · exact wpAny_pyHash_str h
  eqBool := fun hu hv h => by
    rcases keyIs_shape hu with ⟨i, t, rfl, rfl⟩ | ⟨x, t, rfl, rfl⟩
    · rcases keyIs_shape hv with ⟨j, u, rfl, rfl⟩ | ⟨y, u, rfl, rfl⟩
      · rw [key_ll] at h; exact wpAny_eqBool_int h
      · rw [key_lr] at h; exact SeqAt.EqAt.int_str i t y u _ _ _ _ h
    · rcases keyIs_shape hv with ⟨j, u, rfl, rfl⟩ | ⟨y, u, rfl, rfl⟩
      · rw [key_rl] at h; exact SeqAt.EqAt.str_int x t j u _ _ _ _ h
      · rw [key_rr] at h; exact wpAny_eqBool_str h
  «strs» := fun k x t v h => by
    rcases keyIs_shape h with ⟨i, u, rfl, e⟩ | ⟨y, u, rfl, e⟩
    · exact nomatch e
    · injection e with e1 _
      subst e1
      cases v <;> rfl

theorem mixKind_int (prog : Program) (w : World) (i : Int) (t : Tok) : (mixKind prog w).is (.inl i) (.int i t) = true := keyIs_int i t
theorem mixKind_str (prog : Program) (w : World) (x : Str) (t : Tok) : (mixKind prog w).is (.inr x) (.str x t) = true := keyIs_str x t
end L2

namespace L2
open PySem PySem.Spec PyProof.Rows

inductive V where
  | non | bl (b : Bool) | int (i : Int) | str (x : Str) | byt (b : Array UInt8) | flt (b : UInt64) | ref (a : Addr) | ty (n : String)
  deriving DecidableEq

noncomputable def RelV : V → Value → Prop
  | .non, u => u = Value.none
  | .bl b, u => u = Value.bool b
  | .int i, u => ∃ t, u = Value.int i t
  | .str x, u => ∃ t, u = Value.str x t
  | .byt b, u => ∃ t, u = Value.bytes b t
  | .flt b, u => ∃ t, u = Value.float b t
  | .ref a, u => u = Value.ref a
  | .ty n, u => u = Value.type n

noncomputable abbrev Vals : List V → List Value → Prop := Paired RelV
theorem Vals.length {xs : List V} {us : List Value} (r : Vals xs us) : xs.length = us.length := Paired.length r
theorem Vals.get : ∀ {xs : List V} {us : List Value} {i : Nat} {x : V}, Vals xs us → xs[i]? = some x → ∃ u, us[i]? = some u ∧ RelV x u
  | _, _, _, _, .nil, e => by simp at e
  | _, _, 0, _, .cons r _, e => by simp at e; subst e; exact ⟨_, rfl, r⟩
  | _, _, i + 1, x, .cons _ t, e => by
    obtain ⟨u, h1, h2⟩ := Vals.get (i := i) (x := x) t (by simpa using e)
    exact ⟨u, by simpa using h1, h2⟩
theorem Vals.set {x : V} {u : Value} (r : RelV x u) : ∀ {xs : List V} {us : List Value} (i : Nat), Vals xs us → Vals (xs.set i x) (us.set i u)
  | _, _, _, .nil => .nil
  | _, _, 0, .cons _ t => .cons r t
  | _, _, i + 1, .cons q t => .cons q (Vals.set r i t)
theorem Vals.append : ∀ {xs ys : List V} {us ws : List Value}, Vals xs us → Vals ys ws → Vals (xs ++ ys) (us ++ ws)
  | _, _, _, _, .nil, s => s
  | _, _, _, _, .cons r t, s => .cons r (Vals.append t s)
theorem Vals.take : ∀ {xs : List V} {us : List Value} (n : Nat), Vals xs us → Vals (xs.take n) (us.take n)
  | _, _, 0, _ => .nil
  | _, _, _ + 1, .nil => .nil
  | _, _, n + 1, .cons r t => .cons r (Vals.take n t)
theorem Vals.drop : ∀ {xs : List V} {us : List Value} (n : Nat), Vals xs us → Vals (xs.drop n) (us.drop n)
  | _, _, 0, r => r
  | _, _, _ + 1, .nil => .nil
  | _, _, n + 1, .cons _ t => Vals.drop n t
noncomputable def RelO : Option V → Option Value → Prop
  | some v, some u => RelV v u
  | none, none => True
  | _, _ => False
noncomputable def KV {κ : Type} : List (κ × V) → List (κ × Value) → Prop := Paired fun (p : κ × V) (q : κ × Value) => p.1 = q.1 ∧ RelV p.2 q.2

noncomputable def kV : Key → V
  | .inl i => .int i
  | .inr x => .str x

inductive HO where
  | lst (xs : List V)
  | tup (xs : List V)
  | dK (kvs : List (Key × V)) | dT (kvs : List (List Key × V))
  | set (S : Int → Bool) (n : Nat)
  | ins (C dx : Addr) (fs : List (Str × V))
  | own (x : Addr)
  | xd (fs : List (Str × V))
  | met (f x : Addr)
  | rng (lo hi : Int)
  | frz (o : Obj) (u : HO)
  | tbl (ps : Array Value)
  | ext (φ : Heap → Prop)

noncomputable abbrev Hp := Addr → Option HO
noncomputable def upd (H : Hp) (a : Addr) (o : HO) : Hp := fun b => if b = a then some o else H b
theorem upd_same {H : Hp} {a : Addr} {o : HO} : upd H a o a = some o := by unfold upd; rw [if_pos rfl]
theorem upd_ne {H : Hp} {a b : Addr} {o : HO} (h : b ≠ a) : upd H a o b = H b := by unfold upd; rw [if_neg h]
theorem upd_upd {H : Hp} {a : Addr} {o u : HO} : upd (upd H a o) a u = upd H a u := by
  funext b; unfold upd; split <;> rfl
theorem ne_of {H : Hp} {a b : Addr} {o u : HO} (h : H a = some o) (h' : H b = some u) (d : o ≠ u) : a ≠ b := by
  intro e; subst e; rw [h] at h'; exact d (Option.some.inj h')
theorem ne_of_none {H : Hp} {a b : Addr} {o : HO} (h : H a = some o) (h' : H b = none) : a ≠ b := by
  intro e; subst e; rw [h] at h'; cases h'

section
variable (P : Program) (w : World)
noncomputable def ObjOk (H : Hp) (h : Heap) (a : Addr) : HO → Prop
  | .lst xs => xs.length ≤ sizeLine ∧ ∃ (its : List Value) (n : Nat), Vals xs its ∧ h.get? a = some { cls := .type "list", data := .seq its.toArray n }
  | .tup xs => xs.length ≤ sizeLine ∧ ∃ its : List Value, Vals xs its ∧ IsTup h a its.toArray
  | .dK kvs => kvs.length ≤ sizeLine ∧ (a == sysModules) = false ∧ ∃ vs, KV kvs vs ∧ h.DictOf (mixKind P w) a vs
  | .dT kvs => kvs.length ≤ sizeLine ∧ (a == sysModules) = false ∧ ∃ xs : List (List Key × Addr × Value),
      Paired (fun (p : List Key × V) (q : List Key × Addr × Value) => p.1 = q.1 ∧ H q.2.1 = some (.tup (p.1.map kV)) ∧ RelV p.2 q.2.2) kvs xs ∧
      ∃ o es ep, h.get? a = some o ∧ o.ExactDict ∧ o.data = .dict es ep ∧ es.toList = xs.map (entryOfKey (tupleKind (mixKind P w))) ∧ (xs.map (·.1)).Nodup
  | .set S n => h.SetOf (intKind P w) a S n
  | .ins C dx fs => H dx = some (.own a) ∧ fs.length ≤ 1000 ∧ dx ≠ a ∧ h.get? a = some (PySem.W.instObj C dx) ∧
      ∃ mA, h.Ns1 dx mA ∧ (∀ f, RelO (fs.lookup f) (mA f)) ∧ PySem.Within mA (fs.map (·.1))
  | .own _ => ∃ o, h.get? a = some o
  | .xd fs => ∃ mA, h.Ns1 a mA ∧ ∀ f, RelO (fs.lookup f) (mA f)
  | .rng lo hi => ∃ t u v, h.get? a = some { cls := .type "range", data := .fields #[.int lo t, .int hi u, .int 1 v] }
  | .frz o u => h.get? a = some o ∧ ObjOk H h a u
  | .tbl ps => h.get? a = some { cls := .none, data := .fields ps }
  | .met f x => h.get? a = some (PySem.W.methodObj (.ref f) (.ref x))
  | .ext φ => φ h ∧ (∃ o, h.get? a = some o) ∧ ∀ h1 h2 : Heap, φ h1 → (∀ o, h1.get? a = some o → h2.get? a = some o) → φ h2
noncomputable def HOk (H : Hp) (h : Heap) : Prop := ∀ a o, H a = some o → ObjOk P w H h a o
end

section
variable {P : Program} {w : World} {H H' : Hp} {h h' : Heap} {a : Addr} {o : HO}
theorem ObjOk.lt (x : ObjOk P w H h a o) : a < h.objs.size := by
  cases o with
  | lst xs => obtain ⟨_, _, _, _, e⟩ := x; exact Heap.lt_size e
  | tup xs => obtain ⟨_, _, _, p⟩ := x; exact p.lt
  | dK kvs => obtain ⟨_, _, _, _, o, _, _, e, _⟩ := x; exact Heap.lt_size e
  | dT kvs => obtain ⟨_, _, _, _, o, _, _, e, _⟩ := x; exact Heap.lt_size e
  | set S n => obtain ⟨o, _, _, _, e, _⟩ := x; exact Heap.lt_size e
  | ins C dx fs => obtain ⟨_, _, _, e, _⟩ := x; exact Heap.lt_size e
  | own y => obtain ⟨_, e⟩ := x; exact Heap.lt_size e
  | xd fs => obtain ⟨_, ⟨_, _, _, e, _⟩, _⟩ := x; exact Heap.lt_size e
  | rng lo hi => obtain ⟨_, _, _, e⟩ := x; exact Heap.lt_size e
  | frz ob u => obtain ⟨e, _⟩ := x; exact Heap.lt_size e
  | tbl ps => exact Heap.lt_size (show h.get? a = some _ from x)
  | met f y => exact Heap.lt_size (show h.get? a = some _ from x)
  | ext φ => obtain ⟨_, ⟨_, e⟩, _⟩ := x; exact Heap.lt_size e
theorem Paired.mapP {α β : Type} {F G : α → β → Prop} : ∀ {l₁ : List α} {l₂ : List β}, Paired F l₁ l₂ → (∀ a b, F a b → G a b) → Paired G l₁ l₂
  | _, _, .nil, _ => .nil
  | _, _, .cons r t, f => .cons (f _ _ r) (Paired.mapP t f)
theorem ObjOk.stay (x : ObjOk P w H h a o) (k : ∀ b u, (b = a ∨ H b = some (.own a)) → h.get? b = some u → h'.get? b = some u)
    (ho : ∀ b, H b = some (.own a) → H' b = some (.own a)) (ht : ∀ b xs, H b = some (.tup xs) → H' b = some (.tup xs)) : ObjOk P w H' h' a o := by
  induction o with
  | lst xs => obtain ⟨z, its, n, r, e⟩ := x; exact ⟨z, its, n, r, k _ _ (.inl rfl) e⟩
  | tup xs => obtain ⟨z, its, r, ob, e, c⟩ := x; exact ⟨z, its, r, ob, k _ _ (.inl rfl) e, c⟩
  | dK kvs => obtain ⟨z, y, vs, r, ob, es, ep, e, c⟩ := x; exact ⟨z, y, vs, r, ob, es, ep, k _ _ (.inl rfl) e, c⟩
  | dT kvs =>
    obtain ⟨z, y, xs, r, ob, es, ep, e, c⟩ := x
    exact ⟨z, y, xs, Paired.mapP r fun p q z => ⟨z.1, ht _ _ z.2.1, z.2.2⟩, ob, es, ep, k _ _ (.inl rfl) e, c⟩
  | set S n => obtain ⟨ob, es, ep, t, e, c⟩ := x; exact ⟨ob, es, ep, t, k _ _ (.inl rfl) e, c⟩
  | ins C dx fs =>
    obtain ⟨d, z, ne, e, mA, ⟨od, es, ep, e2, c⟩, r⟩ := x
    exact ⟨ho _ d, z, ne, k _ _ (.inl rfl) e, mA, ⟨od, es, ep, k _ _ (.inr d) e2, c⟩, r⟩
  | own y => obtain ⟨ob, e⟩ := x; exact ⟨ob, k _ _ (.inl rfl) e⟩
  | xd fs => obtain ⟨mA, ⟨od, es, ep, e, c⟩, r⟩ := x; exact ⟨mA, ⟨od, es, ep, k _ _ (.inl rfl) e, c⟩, r⟩
  | rng lo hi => obtain ⟨t, u, v, e⟩ := x; exact ⟨t, u, v, k _ _ (.inl rfl) e⟩
  | frz ob u ih => obtain ⟨e, q⟩ := x; exact ⟨k _ _ (.inl rfl) e, ih q⟩
  | tbl ps =>
    have e : h.get? a = some { cls := .none, data := .fields ps } := x
    show h'.get? a = some { cls := .none, data := .fields ps }
    exact k a _ (.inl rfl) e
  | met f y =>
    have e : h.get? a = some (PySem.W.methodObj (.ref f) (.ref y)) := x
    show h'.get? a = some (PySem.W.methodObj (.ref f) (.ref y))
    exact k a _ (.inl rfl) e
  | ext φ => obtain ⟨p, ⟨o, e⟩, st⟩ := x; exact ⟨st _ _ p fun o q => k _ _ (.inl rfl) q, ⟨o, k _ _ (.inl rfl) e⟩, st⟩
theorem HOk.lt (x : HOk P w H h) (e : H a = some o) : a < h.objs.size := (x a o e).lt
theorem HOk.fresh (x : HOk P w H h) (e : h.objs.size ≤ a) : H a = none := by
  cases q : H a with
  | none => rfl
  | some u => exact absurd (Nat.lt_of_lt_of_le (x.lt q) e) (Nat.lt_irrefl _)
theorem HOk.kept (x : HOk P w H h) (k : ∀ b u, h.get? b = some u → h'.get? b = some u) : HOk P w H h' := fun a o e =>
  (x a o e).stay (fun b u _ q => k b u q) (fun _ q => q) fun _ _ q => q
theorem HOk.laid (x : HOk P w H h) (k : ∀ b u, h.get? b = some u → h'.get? b = some u) (hp : h.objs.size ≤ a) (new : ObjOk P w (upd H a o) h' a o) : HOk P w (upd H a o) h' := fun b u e => by
  have hn := x.fresh hp
  by_cases hb : b = a
  · subst hb; rw [upd_same] at e; cases e; exact new
  · rw [upd_ne hb] at e
    exact (x b u e).stay (fun c v _ q => k c v q) (fun c q => by rw [upd_ne (ne_of_none q hn)]; exact q) fun c xs q => by rw [upd_ne (ne_of_none q hn)]; exact q
end

noncomputable def Rd (H : Hp) (a : Addr) (u : HO) : Prop := H a = some u ∨ ∃ o, H a = some (.frz o u)
theorem Rd.of {H : Hp} {a : Addr} {u : HO} (h : H a = some u) : Rd H a u := .inl h
theorem Rd.ok {P : Program} {w : World} {H : Hp} {h : Heap} {a : Addr} {u : HO} (r : Rd H a u) (x : HOk P w H h) : ObjOk P w H h a u := by
  rcases r with r | ⟨o, r⟩
  · exact x a u r
  · obtain ⟨_, q⟩ := x a _ r
    exact q
noncomputable def Mut : Option HO → Prop
  | some (.lst _) => True
  | some (.dK _) => True
  | some (.dT _) => True
  | some (.set _ _) => True
  | some (.ins _ _ _) => True
  | some (.ext _) => True
  | _ => False
section
variable {P : Program} {w : World} {H : Hp} {h h' : Heap} {x e : Addr} {o' : HO}
theorem HOk.write (ok : HOk P w H h) (mu : Mut (H x)) (he : e = x ∨ H e = some (.own x)) (k : ∀ b u, b ≠ e → h.get? b = some u → h'.get? b = some u) (heo : ∃ u, h'.get? e = some u)
    (new : ObjOk P w (upd H x o') h' x o') : HOk P w (upd H x o') h' := fun b u q => by
  have nown : ∀ c y, H c = some (.own y) → c ≠ x := fun c y r z => by subst z; rw [r] at mu; exact mu
  have ntup : ∀ c xs, H c = some (.tup xs) → c ≠ x := fun c xs r z => by subst z; rw [r] at mu; exact mu
  by_cases hb : b = x
  · subst hb; rw [upd_same] at q; cases q; exact new
  · rw [upd_ne hb] at q
    by_cases hbe : b = e
    · have q' : H b = some (.own x) := by
        rcases he with z | z
        · exact absurd (hbe.trans z) hb
        · rw [hbe]; exact z
      rw [q] at q'; cases q'
      obtain ⟨v, hv⟩ := heo
      exact ⟨v, by rw [hbe]; exact hv⟩
    · refine (ok b u q).stay (fun c v hc r => k c v ?_ r) (fun c r => by rw [upd_ne (nown c b r)]; exact r) fun c xs r => by rw [upd_ne (ntup c xs r)]; exact r
      rcases hc with rfl | hc
      · exact hbe
      · rintro rfl
        rcases he with z | z
        · exact nown c b hc z
        · rw [hc] at z; cases z; exact hb rfl
end

structure Un (fs ex : List Addr) (H H' : Hp) (h h' : Heap) : Prop where
  keep : ∀ b o, h.get? b = some o → H b = none → b ∉ fs → b ∉ ex → h'.get? b = some o
  slot : ∀ b o, h.get? b = some o → H b = none → b ∈ fs → b ∉ ex → ∃ sl, h'.get? b = some { o with slots := sl }
  free : ∀ b o, h.get? b = some o → H b = none → b ∉ ex → H' b = none
  there : ∀ b o, h.get? b = some o → b ∉ ex → ∃ o', h'.get? b = some o'
  tups : ∀ b xs, H b = some (.tup xs) → H' b = some (.tup xs)
  frzs : ∀ b o u, H b = some (.frz o u) → H' b = some (.frz o u)
  tbls : ∀ b ps, H b = some (.tbl ps) → ∃ more, H' b = some (.tbl (ps ++ more))
section
variable {fs fs' ex ex' : List Addr} {H H1 H2 : Hp} {h h1 h2 h' : Heap} {a x e : Addr} {o : HO}
theorem Un.any (u : Un fs ex H H1 h h1) {b : Addr} {ob : Obj} (q : h.get? b = some ob) (n : H b = none) (hx : b ∉ ex) : ∃ sl, h1.get? b = some { ob with slots := sl } := by
  by_cases hb : b ∈ fs
  · exact u.slot b ob q n hb hx
  · exact ⟨ob.slots, u.keep b ob q n hb hx⟩
theorem Un.trans (a : Un fs ex H H1 h h1) (b : Un fs ex H1 H2 h1 h2) : Un fs ex H H2 h h2 where
  keep := fun c ob q n hc hx => b.keep c ob (a.keep c ob q n hc hx) (a.free c ob q n hx) hc hx
  slot := fun c ob q n hc hx => by
    obtain ⟨sl, e1⟩ := a.slot c ob q n hc hx
    obtain ⟨sl', e2⟩ := b.slot c _ e1 (a.free c ob q n hx) hc hx
    exact ⟨sl', e2⟩
  free := fun c ob q n hx => by
    obtain ⟨o', e1⟩ := a.there c ob q hx
    exact b.free c o' e1 (a.free c ob q n hx) hx
  there := fun c ob q hx => by
    obtain ⟨o', e1⟩ := a.there c ob q hx
    exact b.there c o' e1 hx
  tups := fun c xs q => b.tups c xs (a.tups c xs q)
  frzs := fun c ob xs q => b.frzs c ob xs (a.frzs c ob xs q)
  tbls := fun c ps q => by
    obtain ⟨m1, e1⟩ := a.tbls c ps q
    obtain ⟨m2, e2⟩ := b.tbls c _ e1
    exact ⟨m1 ++ m2, by rw [e2, Array.append_assoc]⟩
theorem Un.kept (k : ∀ b u, h.get? b = some u → h'.get? b = some u) : Un fs ex H H h h' :=
  ⟨fun b ob q _ _ _ => k b ob q, fun b ob q _ _ _ => ⟨ob.slots, k b ob q⟩, fun _ _ _ n _ => n, fun b ob q _ => ⟨ob, k b ob q⟩, fun _ _ q => q, fun _ _ _ q => q, fun _ ps q => ⟨#[], by rw [q]; simp⟩⟩
theorem Un.refl : Un fs ex H H h h := Un.kept fun _ _ q => q
theorem Un.laid (k : ∀ b u, h.get? b = some u → h'.get? b = some u) (hp : h.objs.size ≤ a) (hn : H a = none) : Un fs ex H (upd H a o) h h' where
  keep := fun b u q _ _ _ => k b u q
  slot := fun b u q _ _ _ => ⟨u.slots, k b u q⟩
  free := fun b u q n _ => by rw [upd_ne (Nat.ne_of_lt (Nat.lt_of_lt_of_le (Heap.lt_size q) hp))]; exact n
  there := fun b u q _ => ⟨u, k b u q⟩
  tups := fun b xs q => by rw [upd_ne (ne_of_none q hn)]; exact q
  frzs := fun b u xs q => by rw [upd_ne (ne_of_none q hn)]; exact q
  tbls := fun b ps q => ⟨#[], by rw [upd_ne (ne_of_none q hn), q]; simp⟩
theorem Un.write (mu : Mut (H x)) (he : e = x ∨ H e = some (.own x)) (k : ∀ b u, b ≠ e → h.get? b = some u → h'.get? b = some u) (heo : ∃ u, h'.get? e = some u) : Un fs ex H (upd H x o) h h' := by
  have hx : ∀ b, H b = none → b ≠ x := fun b n z => by subst z; rw [n] at mu; exact mu
  have hb : ∀ b, H b = none → b ≠ e := fun b n z => by
    subst z
    rcases he with r | r
    · exact hx b n r
    · rw [n] at r; cases r
  have hm : ∀ b u, H b = some u → ¬ Mut (some u) → b ≠ x := fun b u q nm z => by subst z; rw [q] at mu; exact nm mu
  refine ⟨fun b u q n _ _ => k b u (hb b n) q, fun b u q n _ _ => ⟨u.slots, k b u (hb b n) q⟩, fun b u q n _ => by rw [upd_ne (hx b n)]; exact n, fun b u q _ => ?_,
    fun b xs q => by rw [upd_ne (hm b _ q fun z => z)]; exact q, fun b u xs q => by rw [upd_ne (hm b _ q fun z => z)]; exact q, fun b ps q => ⟨#[], by rw [upd_ne (hm b _ q fun z => z), q]; simp⟩⟩
  by_cases hbe : b = e
  · subst hbe; exact heo
  · exact ⟨u, k b u hbe q⟩
theorem Un.mono (u : Un fs ex H H1 h h1) (hs : ∀ b ∈ fs, b ∈ fs') (hx : ∀ b ∈ ex, b ∈ ex') : Un fs' ex' H H1 h h1 :=
  ⟨fun b ob q n hb he => u.keep b ob q n (fun z => hb (hs b z)) fun z => he (hx b z), fun _ _ q n _ he => u.any q n fun z => he (hx _ z), fun b ob q n he => u.free b ob q n fun z => he (hx b z), fun b ob q he => u.there b ob q fun z => he (hx b z), u.tups, u.frzs, u.tbls⟩
end

noncomputable def trk (h : Heap) (H : Hp) : List Addr := (List.range h.objs.size).filter fun a => (H a).isSome
noncomputable def hidT (h : Heap) (H : Hp) : Heap := PySem.W.hideAll h (trk h H)
theorem hidT_size (h : Heap) (H : Hp) : (hidT h H).objs.size = h.objs.size := PySem.W.hideAll_size _ _
theorem hidT_get {h : Heap} {H : Hp} {b : Addr} {o : Obj} (e : h.get? b = some o) (n : H b = none) : (hidT h H).get? b = some o :=
  PySem.W.hideAll_get _ e fun hm => by
    have q : (H b).isSome = true := (List.mem_filter.mp hm).2
    rw [n] at q; simp at q
theorem of_hidT {h : Heap} {H : Hp} {b : Addr} {o : Obj} (e : (hidT h H).get? b = some o) : h.get? b = some o ∧ H b = none := by
  have e' : h.get? b = some o := PySem.W.of_hideAll (trk h H) e
  refine ⟨e', ?_⟩
  cases q : H b with
  | none => rfl
  | some x =>
    have hm : b ∈ trk h H := List.mem_filter.mpr ⟨List.mem_range.mpr (Heap.lt_size e'), by simp [q]⟩
    have z : (hidT h H).get? b = none := PySem.W.hideAll_none (trk h H) hm
    rw [z] at e; cases e

noncomputable def allNews (g h : Heap) (L : Addr) : List (Addr × Obj) := (List.range h.objs.size).filterMap fun a => if a = L ∨ (g.get? a).isSome = true then none else (h.get? a).map fun o => (a, o)
noncomputable def rest (g h : Heap) (L d : Addr) : List (Addr × Obj) := (allNews g h L).filter fun p => decide (p.1 ≠ d)
end L2

namespace L2
open PySem PySem.Spec PyProof.Rows

structure Mod (K : PySem.W.Frag) (mg : Str → Option Value) (base : Heap) : Prop where
  kin : K.In base
  glob : base.Ns mainGlobals mg
  blt : ∃ mb, base.Ns builtinsNs mb ∧ ∀ x : Str, x ≠ "__name__" → mb x = bootBuiltins x
  nolimit : base.NoLimit

/-- the context: a def's body (or a comprehension's block) running. base: fixed through the whole law; s₀, H₀: the entry; outer: the frames whose slots others may change (a def's callers); stack: all frames that run;
   ex: iterators that were made ahead of the entry and are walked here (a comprehension's); fn: the names whose cells were made at the entry (a def: all; a comprehension's block: its own); calm: not within an except suite; pn: pins that every state bears; xe: what is wanted of an exception that leaves the code -/
structure Cx where
  prog : Program
  w : World
  K : PySem.W.Frag
  mg : Str → Option Value
  base : Heap
  A : Around
  N : List Str
  s₀ : Shared
  H₀ : Hp
  env : Env
  outer : List Env
  stack : List Env
  ex : List Addr
  fn : Str → Bool
  calm : Bool
  pn : List (Addr × Obj)
  xe : Value → Shared → Prop
noncomputable def frs (l : List Env) : List Addr := l.filterMap (·.frame)
noncomputable abbrev Cx.fs (X : Cx) : List Addr := frs X.outer

noncomputable def Vis (sc : Scope) (x : Str) : Prop := sc.names.lookup x = some .local ∨ sc.names.lookup x = some .cell ∨ sc.names.lookup x = some .free
noncomputable def Loc (sc : Scope) (x : Str) : Prop := sc.names.lookup x = some .local ∨ sc.names.lookup x = some .cell
noncomputable def Look (env : Env) (h : Heap) (m : Str → Option Value) (x : Str) (u : Value) : Prop :=
  (env.kindOf x = some .local ∧ m x = some u) ∨ ((env.kindOf x = some .cell ∨ env.kindOf x = some .free) ∧ ∃ c, env.cells.lookup x = some c ∧ h.IsCell c (some u))

structure Cx.Ok (X : Cx) : Prop where
  mod : Mod X.K X.mg X.base
  kind : X.env.scope.kind = .function
  glob : X.env.globals = mainGlobals
  blt : X.env.builtins = builtinsNs
  above : X.s₀.heap.objs.size ≤ X.env.locals
  inj : ∀ x y c, X.env.cells.lookup x = some c → X.env.cells.lookup y = some c → x = y
  has : ∀ x, (X.env.kindOf x = some .cell ∨ X.env.kindOf x = some .free) → ∃ c, X.env.cells.lookup x = some c
  cab : ∀ x c, X.fn x = true → X.env.cells.lookup x = some c → X.s₀.heap.objs.size ≤ c
  hd : X.calm = true → X.A.handled = none
  frames : X.A.frames = some X.stack
  stk : X.stack = X.outer ∨ (X.stack = X.env :: X.outer ∧ X.env.frame = some X.env.locals)
  exf : ∀ b ∈ X.ex, b ≠ X.env.locals ∧ ∀ x c, X.env.cells.lookup x = some c → c ≠ b
  bs : ∀ b o, X.base.get? b = some o → X.s₀.heap.get? b = some o ∧ X.H₀ b = none
  bsz : X.base.objs.size ≤ X.s₀.heap.objs.size
  noex : ∀ b o, X.base.get? b = some o → b ∉ X.ex
  exfs : ∀ b ∈ X.ex, b ∉ X.fs
  funs : X.s₀.heap.FunFrames X.base X.outer
  frf : ∀ b ∈ X.fs, X.H₀ b = none

structure Inv (X : Cx) (pins : List (Addr × Obj)) (σ : List (Option V)) (H : Hp) (s : Shared) : Prop where
  ok : X.Ok
  os : s.os = X.s₀.os
  bare : AllBare s.gens
  base : Un X.fs X.ex X.H₀ H X.s₀.heap s.heap
  loc : ∃ m, s.heap.Ns X.env.locals m ∧ ∀ (i : Nat) (x : Str) (v : V), X.N[i]? = some x → σ[i]? = some (some v) → Vis X.env.scope x → ∃ u, RelV v u ∧ Look X.env s.heap m x u
  cell : ∀ x c, X.env.cells.lookup x = some c → ∃ v, s.heap.IsCell c v
  free : H X.env.locals = none
  freeC : ∀ x c, X.env.cells.lookup x = some c → H c = none
  pin : ∀ p ∈ X.pn ++ pins, s.heap.get? p.1 = some p.2 ∧ H p.1 = none ∧ p.1 ≠ X.env.locals ∧ p.1 ∉ X.fs ∧ ∀ v, p.2.data ≠ .cell v
  hok : HOk X.prog X.w H s.heap
  len : σ.length = X.N.length

section
variable {X : Cx} {pins : List (Addr × Obj)} {σ : List (Option V)} {H H' : Hp} {s : Shared} {h' : Heap}

theorem Cx.Ok.nofr (ok : X.Ok) {b : Addr} {o : Obj} (e : X.base.get? b = some o) : b ∉ X.fs := fun hb => by
  have := (ok.funs.mem hb).1
  rw [e] at this; cases this
theorem Inv.bs (I : Inv X pins σ H s) : ∀ b o, X.base.get? b = some o → s.heap.get? b = some o ∧ H b = none := fun b o e =>
  ⟨I.base.keep b o (I.ok.bs b o e).1 (I.ok.bs b o e).2 (I.ok.nofr e) (I.ok.noex b o e), I.base.free b o (I.ok.bs b o e).1 (I.ok.bs b o e).2 (I.ok.noex b o e)⟩
theorem Inv.bk (I : Inv X pins σ H s) : ∀ b o, X.base.get? b = some o → s.heap.get? b = some o := fun b o e => (I.bs b o e).1
theorem Inv.mod (I : Inv X pins σ H s) : Mod X.K X.mg X.base := I.ok.mod
theorem Inv.kIn (I : Inv X pins σ H s) : X.K.In s.heap := I.ok.mod.kin.keeps I.bk
theorem Inv.nolimit (I : Inv X pins σ H s) : s.heap.NoLimit := I.ok.mod.nolimit.keeps I.bk
theorem Inv.fr (I : Inv X pins σ H s) : ∃ m, Fr X.base X.env.locals s.heap m :=
  let ⟨m, hn, _⟩ := I.loc
  ⟨m, hn, I.bk, Nat.le_trans I.ok.bsz I.ok.above⟩
theorem Inv.lt (I : Inv X pins σ H s) : X.env.locals < s.heap.objs.size := let ⟨_, hn, _⟩ := I.loc; hn.lt
theorem Inv.sz (I : Inv X pins σ H s) : X.s₀.heap.objs.size ≤ s.heap.objs.size := Nat.le_trans I.ok.above (Nat.le_of_lt I.lt)
theorem Inv.nofs (I : Inv X pins σ H s) {a : Addr} (h : s.heap.objs.size ≤ a) : a ∉ X.fs := fun hb => by
  obtain ⟨_, o, ho, _⟩ := I.ok.funs.mem hb
  exact absurd (Nat.lt_of_lt_of_le (Heap.lt_size ho) (Nat.le_trans I.sz h)) (Nat.lt_irrefl _)
theorem Inv.cne (I : Inv X pins σ H s) : ∀ x c, X.env.cells.lookup x = some c → c ≠ X.env.locals := fun x c e z => by
  obtain ⟨v, o, ho, hd⟩ := I.cell x c e
  obtain ⟨m, ⟨o', es, ep, ho', hd', _⟩, _⟩ := I.loc
  rw [z, ho'] at ho; cases ho; rw [hd'] at hd; cases hd
theorem Inv.funs (I : Inv X pins σ H s) : s.heap.FunFrames X.base X.outer := by
  have all : ∀ (l : List Env), (∀ b ∈ frs l, b ∈ X.fs) → X.s₀.heap.FunFrames X.base l → s.heap.FunFrames X.base l := by
    intro l
    induction l with
    | nil => intro _ _; trivial
    | cons env r ih =>
      intro hs hl
      obtain ⟨hk, ⟨L, o, hf, hn, ho, hd⟩, hr⟩ := hl
      have hL : L ∈ X.fs := hs L (by unfold frs; rw [List.filterMap_cons, hf]; exact List.mem_cons_self)
      obtain ⟨sl, e⟩ := I.base.slot L o ho (I.ok.frf L hL) hL fun z => I.ok.exfs L z hL
      exact ⟨hk, ⟨L, _, hf, hn, e, hd⟩, ih (fun b hb => hs b (by unfold frs; rw [List.filterMap_cons, hf]; exact List.mem_cons_of_mem _ hb)) hr⟩
  exact all X.outer (fun _ hb => hb) I.ok.funs

theorem Inv.stack (I : Inv X pins σ H s) : s.heap.FunFrames X.base X.stack := by
  rcases I.ok.stk with e | ⟨e, hf⟩
  · rw [e]; exact I.funs
  · rw [e]
    obtain ⟨m, hn, _⟩ := I.loc
    refine .cons (by rw [I.ok.kind]; decide) hf hn ?_ I.funs
    exact Heap.get?_none_of_le (Nat.le_trans I.ok.bsz I.ok.above)
theorem Inv.stkSub (I : Inv X pins σ H s) : ∀ b ∈ frs X.stack, b ∈ X.env.locals :: X.fs := fun b hb => by
  rcases I.ok.stk with e | ⟨e, hf⟩
  · rw [e] at hb; exact List.mem_cons_of_mem _ hb
  · rw [e] at hb
    unfold frs at hb
    rw [List.filterMap_cons, hf] at hb
    exact hb
theorem Inv.stkFree (I : Inv X pins σ H s) : ∀ b ∈ frs X.stack, H b = none := fun b hb => by
  rcases List.mem_cons.mp (I.stkSub b hb) with e | hb
  · rw [e]; exact I.free
  · obtain ⟨_, o, ho, _⟩ := I.ok.funs.mem hb
    exact I.base.free b o ho (I.ok.frf b hb) fun z => I.ok.exfs b z hb

theorem Inv.step {g' : Array GenState} {t' : Nat} {d' : Drawn} {ch : List Addr} (I : Inv X pins σ H s)
    (hch : ∀ b ∈ ch, (b ∈ X.ex ∨ X.s₀.heap.objs.size ≤ b) ∧ b ≠ X.env.locals ∧ (∀ x c, X.env.cells.lookup x = some c → c ≠ b) ∧ ∀ p ∈ X.pn ++ pins, p.1 ≠ b)
    (keep : ∀ b o, b ≠ X.env.locals → b ∉ X.fs → b ∉ ch → s.heap.get? b = some o → H b = none → h'.get? b = some o)
    (slot : ∀ b o, b ≠ X.env.locals → b ∈ X.fs → b ∉ ch → s.heap.get? b = some o → H b = none → ∃ sl, h'.get? b = some { o with slots := sl }) (free : ∀ b o, b ∉ ch → s.heap.get? b = some o → H b = none → H' b = none)
    (there : ∀ b o, b ∉ ch → s.heap.get? b = some o → ∃ o', h'.get? b = some o')
    (tups : ∀ b xs, H b = some (.tup xs) → H' b = some (.tup xs)) (frzs : ∀ b o u, H b = some (.frz o u) → H' b = some (.frz o u)) (tbls : ∀ b ps, H b = some (.tbl ps) → ∃ more, H' b = some (.tbl (ps ++ more)))
    (ns : ∀ m, s.heap.Ns X.env.locals m → h'.Ns X.env.locals m) (hok : HOk X.prog X.w H' h') (hg : AllBare g') :
    Inv X pins σ H' { s with heap := h', gens := g', drawn := d', toks := t' } := by
  have neL : ∀ b o, X.s₀.heap.get? b = some o → b ≠ X.env.locals := fun b o e => Nat.ne_of_lt (Nat.lt_of_lt_of_le (Heap.lt_size e) I.ok.above)
  have neC : ∀ b o, X.s₀.heap.get? b = some o → b ∉ X.ex → b ∉ ch := fun b o e hx hb => by
    rcases (hch b hb).1 with z | z
    · exact hx z
    · exact absurd (Nat.lt_of_lt_of_le (Heap.lt_size e) z) (Nat.lt_irrefl _)
  have cellK : ∀ x c, X.env.cells.lookup x = some c → ∀ v, s.heap.IsCell c v → h'.IsCell c v := fun x c e v ⟨o, ho, hd⟩ => by
    have nch : c ∉ ch := fun z => (hch c z).2.2.1 x c e rfl
    by_cases hc : c ∈ X.fs
    · obtain ⟨sl, q⟩ := slot c o (I.cne x c e) hc nch ho (I.freeC x c e)
      exact ⟨_, q, hd⟩
    · exact ⟨o, keep c o (I.cne x c e) hc nch ho (I.freeC x c e), hd⟩
  refine ⟨I.ok, I.os, hg, ⟨fun b o e n hb hx => ?_, fun b o e n hb hx => ?_, fun b o e n hx => ?_, fun b o e hx => ?_, fun b xs e => tups b xs (I.base.tups b xs e), fun b o xs e => frzs b o xs (I.base.frzs b o xs e), fun b ps e => ?_⟩, ?_, fun x c e => ?_, ?_, fun x c e => ?_, fun p hp => ?_, hok, I.len⟩
  · exact keep b o (neL b o e) hb (neC b o e hx) (I.base.keep b o e n hb hx) (I.base.free b o e n hx)
  · obtain ⟨sl, e1⟩ := I.base.slot b o e n hb hx
    obtain ⟨sl', e2⟩ := slot b _ (neL b o e) hb (neC b o e hx) e1 (I.base.free b o e n hx)
    exact ⟨sl', e2⟩
  · obtain ⟨o', e1⟩ := I.base.there b o e hx
    exact free b o' (neC b o e hx) e1 (I.base.free b o e n hx)
  · obtain ⟨o', e1⟩ := I.base.there b o e hx
    exact there b o' (neC b o e hx) e1
  · obtain ⟨m1, e1⟩ := I.base.tbls b ps e
    obtain ⟨m2, e2⟩ := tbls b _ e1
    exact ⟨m1 ++ m2, by rw [e2, Array.append_assoc]⟩
  · obtain ⟨m, hn, hl⟩ := I.loc
    refine ⟨m, ns m hn, fun i x v e1 e2 e3 => ?_⟩
    obtain ⟨u, r, l⟩ := hl i x v e1 e2 e3
    refine ⟨u, r, ?_⟩
    rcases l with l | ⟨k, c, e, z⟩
    · exact .inl l
    · exact .inr ⟨k, c, e, cellK x c e _ z⟩
  · obtain ⟨v, z⟩ := I.cell x c e
    exact ⟨v, cellK x c e v z⟩
  · obtain ⟨m, ⟨o, _, _, ho, _⟩, _⟩ := I.loc
    exact free _ o (fun z => (hch _ z).2.1 rfl) ho I.free
  · obtain ⟨v, o, ho, hd⟩ := I.cell x c e
    exact free c o (fun z => (hch c z).2.2.1 x c e rfl) ho (I.freeC x c e)
  · obtain ⟨e, n, ne, nf, d⟩ := I.pin p hp
    have nch : p.1 ∉ ch := fun z => (hch p.1 z).2.2.2 p hp rfl
    exact ⟨keep p.1 p.2 ne nf nch e n, free p.1 p.2 nch e n, ne, nf, d⟩
theorem Inv.un {t' : Nat} (I : Inv X pins σ H s) (u : Un X.fs [] H H' s.heap h') (hok : HOk X.prog X.w H' h') : Inv X pins σ H' { s with heap := h', toks := t' } := by
  obtain ⟨m, ⟨o, es, ep, ho, r⟩, _⟩ := id I.loc
  obtain ⟨sl, hL⟩ := u.any ho I.free (by simp)
  exact I.step (g' := s.gens) (d' := s.drawn) (ch := []) (fun _ z => nomatch z) (fun b o _ hb _ e n => u.keep b o e n hb (by simp)) (fun b o _ hb _ e n => u.slot b o e n hb (by simp)) (fun b o _ e n => u.free b o e n (by simp)) (fun b o _ e => u.there b o e (by simp)) u.tups u.frzs u.tbls (fun m' hm => by
    obtain ⟨o', es', ep', ho', r'⟩ := hm
    rw [ho] at ho'; cases ho'
    exact ⟨_, es', ep', hL, r'⟩) hok I.bare
theorem Inv.call {g' : Array GenState} {t' : Nat} {d' : Drawn} {ch : List Addr} (I : Inv X pins σ H s) (u : Un (frs X.stack) ch H H' s.heap h') (hok : HOk X.prog X.w H' h') (hg : AllBare g')
    (hch : ∀ b ∈ ch, (b ∈ X.ex ∨ X.s₀.heap.objs.size ≤ b) ∧ b ≠ X.env.locals ∧ (∀ x c, X.env.cells.lookup x = some c → c ≠ b) ∧ ∀ p ∈ X.pn ++ pins, p.1 ≠ b) :
    Inv X pins σ H' { s with heap := h', gens := g', drawn := d', toks := t' } := by
  obtain ⟨m, ⟨o, es, ep, ho, r⟩, _⟩ := id I.loc
  obtain ⟨sl, hL⟩ := u.any ho I.free fun z => (hch _ z).2.1 rfl
  exact I.step (ch := ch) hch (fun b o hL hb hc e n => u.keep b o e n (fun z => (List.mem_cons.mp (I.stkSub b z)).elim hL hb) hc) (fun b o _ _ hc e n => u.any e n hc) (fun b o hc e n => u.free b o e n hc) (fun b o hc e => u.there b o e hc) u.tups u.frzs u.tbls (fun m' hm => by
    obtain ⟨o', es', ep', ho', r'⟩ := hm
    rw [ho] at ho'; cases ho'
    exact ⟨_, es', ep', hL, r'⟩) hok hg
theorem Inv.turned {t' : Nat} {it : Addr} (I : Inv X pins σ H s) (k : ∀ b o, b ≠ it → s.heap.get? b = some o → h'.get? b = some o) (hn : H it = none) (hL : it ≠ X.env.locals)
    (h1 : it ∈ X.ex ∨ X.s₀.heap.objs.size ≤ it) (h2 : ∀ x c, X.env.cells.lookup x = some c → c ≠ it) (h3 : ∀ p ∈ X.pn ++ pins, p.1 ≠ it) : Inv X pins σ H { s with heap := h', toks := t' } := by
  have nit : ∀ b u, H b = some u → b ≠ it := fun b u e z => by rw [z, hn] at e; cases e
  refine I.step (g' := s.gens) (d' := s.drawn) (ch := [it]) (fun b hb => ?_) (fun b o _ _ hc e _ => k b o (fun z => hc (by simp [z])) e) (fun b o _ _ hc e _ => ⟨o.slots, k b o (fun z => hc (by simp [z])) e⟩) (fun _ _ _ _ n => n)
    (fun b o hc e => ⟨o, k b o (fun z => hc (by simp [z])) e⟩) (fun _ _ e => e) (fun _ _ _ e => e) (fun b ps e => ⟨#[], by rw [e]; simp⟩) (fun m hm => ?_) (fun b u e => ?_) I.bare
  · have e : b = it := by simpa using hb
    subst e
    exact ⟨h1, hL, h2, h3⟩
  · obtain ⟨o, es, ep, ho, r⟩ := hm
    exact ⟨o, es, ep, k _ o (Ne.symm hL) ho, r⟩
  · refine (I.hok b u e).stay (fun c v hc q => k c v ?_ q) (fun _ q => q) fun _ _ q => q
    rcases hc with z | z
    · rw [z]; exact nit b u e
    · exact nit c _ z
theorem Inv.tok (I : Inv X pins σ H s) (t : Nat) : Inv X pins σ H { s with toks := t } := I.un (h' := s.heap) (t' := t) Un.refl I.hok
theorem Inv.kept {t' : Nat} (I : Inv X pins σ H s) (k : ∀ b u, s.heap.get? b = some u → h'.get? b = some u) : Inv X pins σ H { s with heap := h', toks := t' } := I.un (Un.kept k) (I.hok.kept k)
theorem Inv.laid {a : Addr} {o : HO} {t' : Nat} (I : Inv X pins σ H s) (k : ∀ b u, s.heap.get? b = some u → h'.get? b = some u) (hp : s.heap.objs.size ≤ a) (new : ObjOk X.prog X.w (upd H a o) h' a o) :
    Inv X pins σ (upd H a o) { s with heap := h', toks := t' } := I.un (Un.laid k hp (I.hok.fresh hp)) (I.hok.laid k hp new)
theorem Inv.write {x e : Addr} {o : HO} {t' : Nat} (I : Inv X pins σ H s) (mu : Mut (H x)) (he : e = x ∨ H e = some (.own x)) (k : ∀ b u, b ≠ e → s.heap.get? b = some u → h'.get? b = some u) (heo : ∃ u, h'.get? e = some u)
    (new : ObjOk X.prog X.w (upd H x o) h' x o) : Inv X pins σ (upd H x o) { s with heap := h', toks := t' } := I.un (Un.write mu he k heo) (I.hok.write mu he k heo new)
theorem Inv.pins_of {pins' : List (Addr × Obj)} (I : Inv X pins σ H s) (h : ∀ p ∈ pins', s.heap.get? p.1 = some p.2 ∧ H p.1 = none ∧ p.1 ≠ X.env.locals ∧ p.1 ∉ X.fs ∧ ∀ v, p.2.data ≠ .cell v) : Inv X pins' σ H s :=
  ⟨I.ok, I.os, I.bare, I.base, I.loc, I.cell, I.free, I.freeC, fun p hp => (List.mem_append.mp hp).elim (fun z => I.pin p (List.mem_append_left _ z)) (h p), I.hok, I.len⟩

theorem nodup_ix {N : List Str} (hN : N.Nodup) {i j : Nat} {x : Str} (a : N[i]? = some x) (b : N[j]? = some x) : i = j := by
  obtain ⟨h1, e1⟩ := List.getElem?_eq_some_iff.mp a
  obtain ⟨h2, e2⟩ := List.getElem?_eq_some_iff.mp b
  exact (List.getElem_inj hN).mp (e1.trans e2.symm)

theorem store_ok2 {M : Model} {A : Around} {E : Value → Shared → Prop} {i : Nat} {x : Str} {v : V} {u : Value} {Q : Unit → Shared → Prop} (I : Inv X pins σ H s) (hN : X.N.Nodup) (hi : X.N[i]? = some x) (hx : Loc X.env.scope x) (r : RelV v u)
    (h : ∀ s', Inv X pins (σ.set i (some v)) H s' → (∃ a, Heap.SameBut a s.heap s'.heap ∧ (a = X.env.locals ∨ X.env.cells.lookup x = some a)) → Q () s') (hf : X.fn x = true ∨ X.env.scope.names.lookup x = some .local := by first | exact .inl rfl | exact .inr rfl | assumption) : wpAny M A (storeName X.env x u) Q E s := by
  obtain ⟨m, hn, hl⟩ := id I.loc
  have hcls : (X.env.scope.kind == .class || (X.env.scope.kind == .module && X.env.locals != X.env.globals)) = false := by rw [I.ok.kind]; rfl
  have hiσ : i < σ.length := by rw [I.len]; exact (List.getElem?_eq_some_iff.mp hi).1
  have cne := I.cne
  have tracked : ∀ {a : Addr} {h' : Heap}, (∃ o, s.heap.get? a = some o ∧ H a = none) → Heap.SameBut a s.heap h' → HOk X.prog X.w H h' := fun {a h'} ha hs b ob e => by
    obtain ⟨_, _, hfree⟩ := ha
    refine (I.hok b ob e).stay (fun c w' hc q => (hs.2 c ?_).trans q) (fun _ q => q) fun _ _ q => q
    rintro rfl
    rcases hc with rfl | hc
    · rw [hfree] at e; cases e
    · rw [hfree] at hc; cases hc
  rcases hx with hk | hk
  · refine wpAny_storeName_local hk hn (fun h' hn' hs => ?_) hcls
    obtain ⟨oL, _, _, hoL, _⟩ := id hn
    refine h _ ⟨I.ok, I.os, I.bare, ⟨fun b o e n hb hx => ?_, fun b o e n hb hx => ?_, I.base.free, fun b o e hx => ?_, I.base.tups, I.base.frzs, I.base.tbls⟩, ⟨_, hn', fun j y v' e1 e2 e3 => ?_⟩, fun y c e => ?_, I.free, I.freeC, fun p hp => ?_, tracked ⟨oL, hoL, I.free⟩ hs, by simpa using I.len⟩ ⟨_, hs, .inl rfl⟩
    · exact (hs.2 b (Nat.ne_of_lt (Nat.lt_of_lt_of_le (Heap.lt_size e) I.ok.above))).trans (I.base.keep b o e n hb hx)
    · obtain ⟨sl, e1⟩ := I.base.slot b o e n hb hx
      exact ⟨sl, (hs.2 b (Nat.ne_of_lt (Nat.lt_of_lt_of_le (Heap.lt_size e) I.ok.above))).trans e1⟩
    · obtain ⟨o', e1⟩ := I.base.there b o e hx
      exact ⟨o', (hs.2 b (Nat.ne_of_lt (Nat.lt_of_lt_of_le (Heap.lt_size e) I.ok.above))).trans e1⟩
    · by_cases hj : j = i
      · subst hj
        rw [hi] at e1; cases e1
        rw [List.getElem?_set_self hiσ] at e2
        cases e2
        exact ⟨u, r, .inl ⟨hk, by simp⟩⟩
      · rw [List.getElem?_set_ne (Ne.symm hj)] at e2
        obtain ⟨u', r', q⟩ := hl j y v' e1 e2 e3
        refine ⟨u', r', ?_⟩
        rcases q with ⟨k, e⟩ | ⟨k, c, e, z⟩
        · refine .inl ⟨k, ?_⟩
          have : y ≠ x := fun e => hj (nodup_ix hN e1 (e ▸ hi))
          simp [this, e]
        · exact .inr ⟨k, c, e, z.sameBut hs (cne y c e)⟩
    · obtain ⟨w', z⟩ := I.cell y c e
      exact ⟨w', z.sameBut hs (cne y c e)⟩
    · obtain ⟨e, n, ne, nf, d⟩ := I.pin p hp
      exact ⟨(hs.2 p.1 ne).trans e, n, ne, nf, d⟩
  · have hfn : X.fn x = true := by
      rcases hf with z | z
      · exact z
      · rw [z] at hk; cases hk
    obtain ⟨c, hc⟩ := I.ok.has x (.inl hk)
    obtain ⟨w', z⟩ := I.cell x c hc
    refine wpAny_storeName_cell I.ok.kind hk hc z (fun h' hc' hs => ?_)
    obtain ⟨oc, hoc, hocd⟩ := id z
    refine h { s with heap := h' } ⟨I.ok, I.os, I.bare, ⟨fun b o e n hb hx => ?_, fun b o e n hb hx => ?_, I.base.free, fun b o e hx => ?_, I.base.tups, I.base.frzs, I.base.tbls⟩, ⟨m, hn.sameBut hs (Ne.symm (cne x c hc)), fun j y v' e1 e2 e3 => ?_⟩, fun y c' e => ?_, I.free, I.freeC, fun p hp => ?_, tracked ⟨oc, hoc, I.freeC x c hc⟩ hs, by simpa using I.len⟩ ⟨c, hs, .inr hc⟩
    · exact (hs.2 b (Nat.ne_of_lt (Nat.lt_of_lt_of_le (Heap.lt_size e) (I.ok.cab x c hfn hc)))).trans (I.base.keep b o e n hb hx)
    · obtain ⟨sl, e1⟩ := I.base.slot b o e n hb hx
      exact ⟨sl, (hs.2 b (Nat.ne_of_lt (Nat.lt_of_lt_of_le (Heap.lt_size e) (I.ok.cab x c hfn hc)))).trans e1⟩
    · obtain ⟨o', e1⟩ := I.base.there b o e hx
      exact ⟨o', (hs.2 b (Nat.ne_of_lt (Nat.lt_of_lt_of_le (Heap.lt_size e) (I.ok.cab x c hfn hc)))).trans e1⟩
    · by_cases hj : j = i
      · subst hj
        rw [hi] at e1; cases e1
        rw [List.getElem?_set_self hiσ] at e2
        cases e2
        exact ⟨u, r, .inr ⟨.inl hk, c, hc, hc'⟩⟩
      · rw [List.getElem?_set_ne (Ne.symm hj)] at e2
        obtain ⟨u', r', q⟩ := hl j y v' e1 e2 e3
        refine ⟨u', r', ?_⟩
        rcases q with q | ⟨k, c', e, z'⟩
        · exact .inl q
        · refine .inr ⟨k, c', e, z'.sameBut hs ?_⟩
          rintro rfl
          exact hj (nodup_ix hN e1 (I.ok.inj _ _ _ e hc ▸ hi))
    · by_cases hcc : c' = c
      · subst hcc; exact ⟨_, hc'⟩
      · obtain ⟨w2, z2⟩ := I.cell y c' e
        exact ⟨w2, z2.sameBut hs hcc⟩
    · obtain ⟨e, n, ne, nf, d⟩ := I.pin p hp
      refine ⟨(hs.2 p.1 ?_).trans e, n, ne, nf, d⟩
      intro q
      rw [q, hoc] at e
      have q' : oc = p.2 := Option.some.inj e
      exact d w' (by rw [← q']; exact hocd)
theorem store_ok {M : Model} {A : Around} {E : Value → Shared → Prop} {i : Nat} {x : Str} {v : V} {u : Value} {Q : Unit → Shared → Prop} (I : Inv X pins σ H s) (hN : X.N.Nodup) (hi : X.N[i]? = some x) (hx : Loc X.env.scope x) (r : RelV v u)
    (h : ∀ s', Inv X pins (σ.set i (some v)) H s' → Q () s') (hf : X.fn x = true ∨ X.env.scope.names.lookup x = some .local := by first | exact .inl rfl | exact .inr rfl | assumption) : wpAny M A (storeName X.env x u) Q E s :=
  store_ok2 I hN hi hx r (fun s' I' _ => h s' I') hf
theorem Inv.call' {s' : Shared} {ch : List Addr} (I : Inv X pins σ H s) (ho : s'.os = s.os) (u : Un (frs X.stack) ch H H' s.heap s'.heap) (hok : HOk X.prog X.w H' s'.heap) (hg : AllBare s'.gens)
    (hch : ∀ b ∈ ch, (b ∈ X.ex ∨ X.s₀.heap.objs.size ≤ b) ∧ b ≠ X.env.locals ∧ (∀ x c, X.env.cells.lookup x = some c → c ≠ b) ∧ ∀ p ∈ X.pn ++ pins, p.1 ≠ b) : Inv X pins σ H' s' := by
  obtain ⟨h', g', d', t', o'⟩ := s'
  have e : o' = s.os := ho
  subst e
  exact I.call (g' := g') (t' := t') (d' := d') u hok hg hch
end

noncomputable abbrev XK := Value → Option Addr → Hp → Prop
noncomputable abbrev St := List (Option V)
noncomputable abbrev VK := V → Hp → Prop
noncomputable abbrev TE := St → Hp → VK → Prop
noncomputable abbrev TT := St → Hp → (Bool → Hp → Prop) → Prop
noncomputable abbrev TA := St → Hp → (List V → Hp → Prop) → Prop
structure Ends where
  nx : St → Hp → Prop
  rt : VK
  bk : St → Hp → Prop := fun _ _ => False
  ct : St → Hp → Prop := fun _ _ => False
noncomputable abbrev TS := Ends → St → Hp → Prop

noncomputable def EP (X : Cx) (pins : List (Addr × Obj)) (σ : St) (Q : VK) (u : Value) (s' : Shared) : Prop := Ex_2_3 (fun v H' => Inv X pins σ H' s') (fun v H' => RelV v u) (fun v H' => Q v H')
noncomputable def TP (X : Cx) (pins : List (Addr × Obj)) (σ : St) (Q : Bool → Hp → Prop) (b : Bool) (s' : Shared) : Prop := ∃ H', Inv X pins σ H' s' ∧ Q b H'
noncomputable def AP (X : Cx) (pins : List (Addr × Obj)) (σ : St) (Q : List V → Hp → Prop) (us : List Value) (s' : Shared) : Prop := Ex_2_3 (fun vs H' => Inv X pins σ H' s') (fun vs H' => Vals vs us) (fun vs H' => Q vs H')
noncomputable def SP (X : Cx) (pins : List (Addr × Obj)) (D : Ends) (f : Flow) (s' : Shared) : Prop :=
  match f with
  | .next => ∃ σ' H', Inv X pins σ' H' s' ∧ D.nx σ' H'
  | .brk => ∃ σ' H', Inv X pins σ' H' s' ∧ D.bk σ' H'
  | .cont => ∃ σ' H', Inv X pins σ' H' s' ∧ D.ct σ' H'
  | .ret u => ∃ v σ' H', Inv X pins σ' H' s' ∧ RelV v u ∧ D.rt v H'

noncomputable def PE (X : Cx) (e : Expr) (t : TE) : Prop :=
  ∀ (pins : List (Addr × Obj)) (s : Shared) (σ : St) (H : Hp) (Q : VK), Inv X pins σ H s → t σ H Q → wpAny (model X.prog X.w) X.A (eval e X.env) (EP X pins σ Q) X.xe s
noncomputable def PT (X : Cx) (e : Expr) (t : TT) : Prop :=
  ∀ (pins : List (Addr × Obj)) (s : Shared) (σ : St) (H : Hp) (Q : Bool → Hp → Prop), Inv X pins σ H s → t σ H Q → wpAny (model X.prog X.w) X.A (isTrue e X.env (eval e X.env)) (TP X pins σ Q) X.xe s
noncomputable def PW (X : Cx) (e : Expr) (t : TT) : Prop :=
  ∀ (whole : Sem Value) (pins : List (Addr × Obj)) (s : Shared) (σ : St) (H : Hp) (Q : Bool → Hp → Prop), Inv X pins σ H s → t σ H Q → wpAny (model X.prog X.w) X.A (isTrue e X.env whole) (TP X pins σ Q) X.xe s
theorem PW.pt {X : Cx} {e : Expr} {t : TT} (h : PW X e t) : PT X e t := h _
noncomputable def PA (X : Cx) (es : List Expr) (t : TA) : Prop :=
  ∀ (pos : Pos) (pins : List (Addr × Obj)) (s : Shared) (σ : St) (H : Hp) (Q : List V → Hp → Prop), Inv X pins σ H s → t σ H Q → wpAny (model X.prog X.w) X.A (spliced (backTo pos (starEach es X.env))) (AP X pins σ Q) X.xe s
noncomputable def PS (X : Cx) (st : Stmt) (t : TS) : Prop :=
  ∀ (pins : List (Addr × Obj)) (s : Shared) (σ : St) (H : Hp) (D : Ends), Inv X pins σ H s → t D σ H → wpAny (model X.prog X.w) X.A (exec st X.env) (SP X pins D) X.xe s
noncomputable def PSs (X : Cx) (st : List Stmt) (t : TS) : Prop :=
  ∀ (pins : List (Addr × Obj)) (s : Shared) (σ : St) (H : Hp) (D : Ends), Inv X pins σ H s → t D σ H → wpAny (model X.prog X.w) X.A (execs st X.env) (SP X pins D) X.xe s
theorem thn {α : Type} {t : Sem α} {Q Q' : α → Shared → Prop} {M : Model} {A : Around} {E : Value → Shared → Prop} {s : Shared} (h : wpAny M A t Q E s) (hQ : ∀ a s, Q a s → Q' a s) : wpAny M A t Q' E s := wpAny_mono h hQ fun _ _ x => x
end L2

namespace L2
open PySem PySem.Spec PyProof.Rows
section
variable {X : Cx}

noncomputable def tVar (i : Nat) : TE := fun σ H Q => Ex_1_2 (fun v => σ[i]? = some (some v)) (fun v => Q v H)
noncomputable def tC (v : V) : TE := fun _ H Q => Q v H
theorem pe_var {i : Nat} {x : Str} {pos : Pos} (hN : X.N[i]? = some x) (hv : Vis X.env.scope x) (hd : (x == ("__debug__" : Str)) = false := by decide) (hcd : (x == ("__classdict__" : Str)) = false := by decide) : PE X (.Name x pos) (tVar i) := by
  intro pins s σ H Q I h
  obtain ⟨v, e, h⟩ := h
  obtain ⟨m, hn, hl⟩ := I.loc
  obtain ⟨u, r, l⟩ := hl i x v hN e hv
  have fin : EP X pins σ Q u s := ⟨v, H, I, r, h⟩
  rcases l with ⟨hk, hm⟩ | ⟨hk, c, hc, hcell⟩
  · exact wpAny_Name (wpAny_loadName_local I.ok.kind hk hn hm fin) hd
  · rcases hk with hk | hk
    · exact wpAny_Name (wpAny_loadName_cell I.ok.kind hk hc hcell fin) hd
    · exact wpAny_Name (wpAny_loadName_free I.ok.kind hk hc hcell fin hcd) hd
theorem pe_int {i j pos} : PE X (.Constant (.int i) j pos) (tC (.int i)) := fun _ _ _ H _ I h => wpAny_Constant_int ⟨.int i, H, I.tok _, ⟨_, rfl⟩, h⟩
theorem pe_bl {b j pos} : PE X (.Constant (.bool b) j pos) (tC (.bl b)) := fun _ _ _ H _ I h => Constant_bool ⟨.bl b, H, I, rfl, h⟩
theorem pe_non {j pos} : PE X (.Constant .none j pos) (tC .non) := fun _ _ _ H _ I h => Constant_none ⟨.non, H, I, rfl, h⟩
theorem pe_str {x j pos} : PE X (.Constant (.str x) j pos) (tC (.str x)) := fun _ _ _ H _ I h => Calls.Constant_str ⟨.str x, H, I.tok _, ⟨_, rfl⟩, h⟩

noncomputable def Gl (X : Cx) (x : Str) : Prop := X.env.kindOf x = some .globalImplicit
theorem ld_glob {E : Value → Shared → Prop} {pins : List (Addr × Obj)} {s : Shared} {σ : St} {H : Hp} {x : Str} {u : Value} {pos : Pos} {Q : Value → Shared → Prop} (I : Inv X pins σ H s) (hg : Gl X x) (hm : X.mg x = some u) (h : Q u s)
    (hd : (x == ("__debug__" : Str)) = false := by decide) : wpAny (model X.prog X.w) X.A (eval (.Name x pos) X.env) Q E s :=
  Calls.Name_function_global I.ok.kind hg (Calls.loadGlobal_global (by rw [I.ok.glob]; exact I.mod.glob.keeps I.bk) hm h) hd
theorem ld_blt {E : Value → Shared → Prop} {pins : List (Addr × Obj)} {s : Shared} {σ : St} {H : Hp} {x : Str} {u : Value} {pos : Pos} {Q : Value → Shared → Prop} (I : Inv X pins σ H s) (hg : Gl X x) (hm : X.mg x = none) (hv : bootBuiltins x = some u) (h : Q u s)
    (hn : x ≠ "__name__" := by decide) (hd : (x == ("__debug__" : Str)) = false := by decide) : wpAny (model X.prog X.w) X.A (eval (.Name x pos) X.env) Q E s := by
  obtain ⟨mb, h1, h2⟩ := I.mod.blt
  exact Calls.Name_function_global I.ok.kind hg (Calls.loadGlobal_builtin (by rw [I.ok.glob]; exact I.mod.glob.keeps I.bk) hm (by rw [I.ok.blt]; exact h1.keeps I.bk) ((h2 x hn).trans hv) h) hd
theorem pe_bltn {x : Str} {v : V} {u : Value} {pos : Pos} (hg : Gl X x) (hm : X.mg x = none) (hv : bootBuiltins x = some u) (r : RelV v u) (hn : x ≠ "__name__" := by decide) (hd : (x == ("__debug__" : Str)) = false := by decide) : PE X (.Name x pos) (tC v) :=
  fun _ _ _ H _ I h => ld_blt I hg hm hv ⟨v, H, I, r, h⟩ hn hd

variable {a b : Expr} {ta tb : TE} {pos : Pos}
noncomputable def PC (X : Cx) (op : CmpOp) (a b : Expr) (t : TE) : Prop :=
  ∀ (pins : List (Addr × Obj)) (s : Shared) (σ : St) (H : Hp) (Q : VK), Inv X pins σ H s → t σ H Q →
    wpAny (model X.prog X.w) X.A (eval a X.env) (fun v s₁ => wpAny (model X.prog X.w) X.A (eval b X.env) (fun u s₂ => wpAny (model X.prog X.w) X.A (compareOp op v u) (EP X pins σ Q) X.xe s₂) X.xe s₁) X.xe s
theorem nobehind (b : Expr) {op : CmpOp} (h : op ≠ .In) (h2 : op ≠ .NotIn) : behindInMarks op b = false := by
  have e1 : (op == CmpOp.In) = false := by cases op <;> first | rfl | exact absurd rfl h
  have e2 : (op == CmpOp.NotIn) = false := by cases op <;> first | rfl | exact absurd rfl h2
  cases b <;> simp [behindInMarks, e1, e2]
noncomputable def tB (t : TE) : TT := fun σ H Q => t σ H fun x H1 => Ex_1_2 (fun c => x = .bl c) (fun c => Q c H1)
theorem pt_cmp {op : CmpOp} {t : TE} (h : PC X op a b t) (h1 : behindInMarks op b = false := by first | exact nobehind _ (by decide) (by decide) | rfl) : PT X (.Compare a [op] [b] pos) (tB t) := by
  intro pins s σ H Q I hw
  refine wpAny_isTrue_Compare1 (thn (h pins s σ H _ I hw) fun v s1 h1 => thn h1 fun u s2 h2 => thn h2 fun c s3 ⟨x, H1, I1, r1, q1⟩ => ?_) h1
  obtain ⟨d, rfl, q⟩ := q1
  cases r1
  exact wpAny_truthy_bool ⟨H1, I1, q⟩
theorem pt_val {e : Expr} {t : TE} (h : PE X e t) (he : ∀ whole, isTrue e X.env whole = (do let v ← whole; standAt e.pos; holding [v] (truthy v)) := by intro _; rfl) : PT X e (tB t) := by
  intro pins s σ H Q I hw
  refine isTrue_plain (thn (h pins s σ H _ I hw) fun v s1 ⟨x, H1, I1, r1, q1⟩ => ?_) (he _)
  obtain ⟨d, rfl, q⟩ := q1
  cases r1
  exact wpAny_truthy_bool ⟨H1, I1, q⟩

variable {tA tB' : TT} {rest : List Expr}
noncomputable def tAnd (t u : TT) : TT := fun σ H Q => t σ H fun c H1 => if c = true then u σ H1 Q else Q false H1
noncomputable def tOr (t u : TT) : TT := fun σ H Q => t σ H fun c H1 => if c = true then Q true H1 else u σ H1 Q
noncomputable def tNot (t : TT) : TT := fun σ H Q => t σ H fun c H1 => Q (!c) H1
theorem pw_and1 (ha : PT X a tA) : PW X (.BoolOp .And [a] pos) tA := by
  intro wh pins s σ H Q I h
  refine isTrue_and (thn (ha pins s σ H Q I h) fun c s1 e => ?_)
  cases c with
  | true => exact isTrue_and_nil e
  | false => exact e
theorem pw_or1 (ha : PT X a tA) : PW X (.BoolOp .Or [a] pos) tA := by
  intro wh pins s σ H Q I h
  refine isTrue_or (thn (ha pins s σ H Q I h) fun c s1 e => ?_)
  cases c with
  | false => exact isTrue_or_nil e
  | true => exact e
theorem pw_and (ha : PT X a tA) (hb : PW X (.BoolOp .And (b :: rest) pos) tB') : PW X (.BoolOp .And (a :: b :: rest) pos) (tAnd tA tB') := by
  intro wh pins s σ H Q I h
  refine isTrue_and (thn (ha pins s σ H _ I h) fun c s1 ⟨H1, I1, q1⟩ => ?_)
  cases c with
  | true => exact hb wh pins s1 σ H1 Q I1 q1
  | false => exact ⟨H1, I1, q1⟩
theorem pw_or (ha : PT X a tA) (hb : PW X (.BoolOp .Or (b :: rest) pos) tB') : PW X (.BoolOp .Or (a :: b :: rest) pos) (tOr tA tB') := by
  intro wh pins s σ H Q I h
  refine isTrue_or (thn (ha pins s σ H _ I h) fun c s1 ⟨H1, I1, q1⟩ => ?_)
  cases c with
  | true => exact ⟨H1, I1, q1⟩
  | false => exact hb wh pins s1 σ H1 Q I1 q1
theorem pt_not (ha : PT X a tA) : PT X (.UnaryOp .Not a pos) (tNot tA) := by
  intro pins s σ H Q I h
  exact isTrue_not (ha pins s σ H (fun c H1 => Q (!c) H1) I h)
noncomputable def tAndV (ta tb : TE) : TE := fun σ H Q => ta σ H fun x H1 => ∃ c, x = .bl c ∧ if c = true then tb σ H1 Q else Q (.bl false) H1
theorem pe_one {op} {t : TE} (h : PE X a t) : PE X (.BoolOp op [a] pos) t := fun pins s σ H Q I hw => BoolOp_one (h pins s σ H Q I hw)
theorem pe_and (ha : PE X a ta) (hb : PE X (.BoolOp .And (b :: rest) pos) tb) : PE X (.BoolOp .And (a :: b :: rest) pos) (tAndV ta tb) := by
  intro pins s σ H Q I h
  refine BoolOp_and (thn (ha pins s σ H _ I h) fun v s1 ⟨x, H1, I1, r1, q1⟩ => ?_)
  obtain ⟨c, rfl, q1⟩ := q1
  cases r1
  refine wpAny_truthy_bool ?_
  cases c with
  | true => exact hb pins s1 σ H1 Q I1 q1
  | false => exact ⟨.bl false, H1, I1, rfl, q1⟩
end
end L2

namespace L2
open PySem PySem.Spec PyProof.Rows

noncomputable def SqL (K : PySem.W.Frag) (H : Hp) (a : Addr) (xs : List V) : Prop :=
  Rd H a (.lst xs) ∨
    Ex_3_6 (fun (o : Obj) (its : Array Value) (n : Nat) => K.lookup a = some o) (fun o its n => o.cls = .type "list") (fun o its n => o.dict = none) (fun o its n => o.data = .seq its n) (fun o its n => its.size ≤ sizeLine) (fun o its n => Vals xs its.toList)
noncomputable def SqT (K : PySem.W.Frag) (H : Hp) (a : Addr) (xs : List V) : Prop :=
  Rd H a (.tup xs) ∨
    Ex_3_5 (fun (o : Obj) (its : Array Value) (n : Nat) => K.lookup a = some o) (fun o its n => o.cls = .type "tuple") (fun o its n => o.data = .seq its n) (fun o its n => its.size ≤ sizeLine) (fun o its n => Vals xs its.toList)
noncomputable def absV : Value → Option V
  | .none => some .non
  | .bool b => some (.bl b)
  | .int i _ => some (.int i)
  | .str x _ => some (.str x)
  | .bytes b _ => some (.byt b)
  | .float b _ => some (.flt b)
  | .ref a => some (.ref a)
  | .type n => some (.ty n)
  | _ => none
theorem RelV.abs {x : V} {u : Value} (r : RelV x u) : absV u = some x := by
  cases x with
  | non => cases r; rfl
  | bl _ => cases r; rfl
  | int _ => obtain ⟨t, rfl⟩ := r; rfl
  | str _ => obtain ⟨t, rfl⟩ := r; rfl
  | byt _ => obtain ⟨t, rfl⟩ := r; rfl
  | flt _ => obtain ⟨t, rfl⟩ := r; rfl
  | ref _ => cases r; rfl
  | ty _ => cases r; rfl
theorem RelV.inj {x y : V} {u : Value} (r : RelV x u) (q : RelV y u) : x = y := Option.some.inj (r.abs.symm.trans q.abs)
theorem Vals.inj : ∀ {xs ys : List V} {us : List Value}, Vals xs us → Vals ys us → xs = ys
  | _, _, _, .nil, .nil => rfl
  | _, _, _, .cons r t, .cons r' t' => by rw [r.inj r', Vals.inj t t']
section
variable {X : Cx} {pins : List (Addr × Obj)} {σ : St} {H : Hp} {s : Shared} {a : Addr} {xs ys : List V}
theorem SqL.of {K : PySem.W.Frag} (h : H a = some (.lst xs)) : SqL K H a xs := .inl (.inl h)
theorem SqT.of {K : PySem.W.Frag} (h : H a = some (.tup xs)) : SqT K H a xs := .inl (.inl h)
theorem Inv.list (I : Inv X pins σ H s) (h : SqL X.K H a xs) : ∃ its : List Value, Vals xs its ∧ PlainL s.heap a its.toArray ∧ xs.length ≤ sizeLine := by
  rcases h with h | ⟨o, its, n, hk, hc, hd, hs, hz, r⟩
  · obtain ⟨z, its, n, r, e⟩ := h.ok I.hok
    exact ⟨its, r, ⟨_, n, e, rfl, rfl, rfl⟩, z⟩
  · refine ⟨its.toList, r, ⟨o, n, I.kIn a o hk, hc, hd, by simpa using hs⟩, ?_⟩
    have e := r.length
    simp only [Array.length_toList] at e
    omega
theorem Inv.tuple (I : Inv X pins σ H s) (h : SqT X.K H a xs) : ∃ its : List Value, Vals xs its ∧ IsTup s.heap a its.toArray ∧ xs.length ≤ sizeLine := by
  rcases h with h | ⟨o, its, n, hk, hc, hs, hz, r⟩
  · obtain ⟨z, its, r, p⟩ := h.ok I.hok
    exact ⟨its, r, p, z⟩
  · refine ⟨its.toList, r, ⟨o, I.kIn a o hk, hc, n, by simpa using hs⟩, ?_⟩
    have e := r.length
    simp only [Array.length_toList] at e
    omega
theorem Inv.list_inj (I : Inv X pins σ H s) (h : SqL X.K H a xs) (h' : SqL X.K H a ys) : xs = ys := by
  obtain ⟨its, r, ⟨o, n, e, _, _, d⟩, _⟩ := I.list h
  obtain ⟨its', r', ⟨o', n', e', _, _, d'⟩, _⟩ := I.list h'
  rw [e] at e'; cases e'
  rw [d] at d'
  injection d' with d1 _
  have : its = its' := by simpa using congrArg Array.toList d1
  subst this
  exact r.inj r'
theorem Inv.tuple_inj (I : Inv X pins σ H s) (h : SqT X.K H a xs) (h' : SqT X.K H a ys) : xs = ys := by
  obtain ⟨its, r, ⟨o, e, _, n, d⟩, _⟩ := I.tuple h
  obtain ⟨its', r', ⟨o', e', _, n', d'⟩, _⟩ := I.tuple h'
  rw [e] at e'; cases e'
  rw [d] at d'
  injection d' with d1 _
  have : its = its' := by simpa using congrArg Array.toList d1
  subst this
  exact r.inj r'
end

noncomputable abbrev Cx.wish (X : Cx) (E : Value → Shared → Prop) : Cx := { X with xe := E }
noncomputable abbrev Cx.nox (X : Cx) : Cx := X.wish fun _ _ => False
theorem Cx.Ok.wish {X : Cx} (ok : X.Ok) (E : Value → Shared → Prop) : (X.wish E).Ok :=
  ⟨ok.mod, ok.kind, ok.glob, ok.blt, ok.above, ok.inj, ok.has, ok.cab, ok.hd, ok.frames, ok.stk, ok.exf, ok.bs, ok.bsz, ok.noex, ok.exfs, ok.funs, ok.frf⟩
theorem Cx.Ok.unwish {X : Cx} {E : Value → Shared → Prop} (ok : (X.wish E).Ok) : X.Ok :=
  ⟨ok.mod, ok.kind, ok.glob, ok.blt, ok.above, ok.inj, ok.has, ok.cab, ok.hd, ok.frames, ok.stk, ok.exf, ok.bs, ok.bsz, ok.noex, ok.exfs, ok.funs, ok.frf⟩
section
variable {X : Cx} {pins : List (Addr × Obj)} {σ : St} {H : Hp} {s : Shared} {E : Value → Shared → Prop}
theorem Inv.wish (I : Inv X pins σ H s) (E : Value → Shared → Prop) : Inv (X.wish E) pins σ H s := ⟨I.ok.wish E, I.os, I.bare, I.base, I.loc, I.cell, I.free, I.freeC, I.pin, I.hok, I.len⟩
theorem Inv.unwish (I : Inv (X.wish E) pins σ H s) : Inv X pins σ H s := ⟨I.ok.unwish, I.os, I.bare, I.base, I.loc, I.cell, I.free, I.freeC, I.pin, I.hok, I.len⟩
theorem SP.unwish {D : Ends} {f : Flow} {s' : Shared} (h : SP (X.wish E) pins D f s') : SP X pins D f s' := by
  cases f with
  | next => obtain ⟨σ', H', I, q⟩ := h; exact ⟨σ', H', I.unwish, q⟩
  | brk => obtain ⟨σ', H', I, q⟩ := h; exact ⟨σ', H', I.unwish, q⟩
  | cont => obtain ⟨σ', H', I, q⟩ := h; exact ⟨σ', H', I.unwish, q⟩
  | ret u => obtain ⟨v, σ', H', I, r, q⟩ := h; exact ⟨v, σ', H', I.unwish, r, q⟩
theorem PE.nox {e : Expr} {t : TE} (h : PE X.nox e t) : PE X e t := fun pins s σ H Q I hw =>
  wpAny_mono (h pins s σ H Q (I.wish _) hw) (fun _ _ ⟨v, H', I', r, q⟩ => ⟨v, H', I'.unwish, r, q⟩) fun _ _ z => False.elim z
theorem PT.nox {e : Expr} {t : TT} (h : PT X.nox e t) : PT X e t := fun pins s σ H Q I hw =>
  wpAny_mono (h pins s σ H Q (I.wish _) hw) (fun _ _ ⟨H', I', q⟩ => ⟨H', I'.unwish, q⟩) fun _ _ z => False.elim z
theorem PSs.nox {st : List Stmt} {t : TS} (h : PSs X.nox st t) : PSs X st t := fun pins s σ H D I hw =>
  wpAny_mono (h pins s σ H D (I.wish _) hw) (fun _ _ q => q.unwish) fun _ _ z => False.elim z
end

section
variable {X : Cx} {st : Stmt} {rest : List Stmt} {t u : TS} {e : Expr} {te : TE} {pos : Pos}
noncomputable def tNext : TS := fun D σ H => D.nx σ H
noncomputable def tSeq (t u : TS) : TS := fun D σ H => t { D with nx := u D } σ H
theorem pss_nil : PSs X [] tNext := fun _ _ σ H _ I h => wpAny_execs_nil ⟨σ, H, I, h⟩
theorem pss_cons (h1 : PS X st t) (h2 : PSs X rest u) : PSs X (st :: rest) (tSeq t u) := by
  intro pins s σ H D I h
  refine wpAny_execs_cons (thn (h1 pins s σ H { D with nx := u D } I h) fun f s1 q => ?_)
  cases f with
  | next =>
    obtain ⟨σ', H', I', q⟩ := q
    exact h2 pins s1 σ' H' D I' q
  | ret v => exact q
  | brk => exact q
  | cont => exact q
theorem pss_one (h1 : PS X st t) : PSs X [st] t := by
  intro pins s σ H D I h
  refine wpAny_execs_cons (thn (h1 pins s σ H D I h) fun f s1 q => ?_)
  cases f with
  | next => exact wpAny_execs_nil q
  | ret v => exact q
  | brk => exact q
  | cont => exact q
theorem Inv.quiet {pins : List (Addr × Obj)} {σ : St} {H : Hp} {s : Shared} (I : Inv X pins σ H s) : interactive X.env = false := by simp [interactive, I.ok.kind]
noncomputable def tDrop (te : TE) : TS := fun D σ H => te σ H fun _ H1 => D.nx σ H1
theorem ps_expr (he : PE X e te) (hs : swapsWith e none pos.line X.env = pure false := by rfl) : PS X (.Expr e pos) (tDrop te) := by
  intro pins s σ H D I h
  exact wpAny_Expr_any (thn (he pins s σ H _ I h) fun v s1 ⟨x, H1, I1, r1, q1⟩ => ⟨σ, H1, I1, q1⟩) I.quiet hs
noncomputable def tRet (te : TE) : TS := fun D σ H => te σ H D.rt
theorem ps_ret (he : PE X e te) : PS X (.Return (some e) pos) (tRet te) := by
  intro pins s σ H D I h
  exact wpAny_Return_some (thn (he pins s σ H _ I h) fun v s1 ⟨x, H1, I1, r1, q1⟩ => ⟨x, σ, H1, I1, r1, q1⟩)
noncomputable def tIfS (c : TT) (t u : TS) : TS := fun D σ H => c σ H fun b H1 => if b = true then t D σ H1 else u D σ H1
theorem ps_if {c : Expr} {a b : List Stmt} {tc : TT} (hc : PT X c tc) (ha : PSs X a t) (hb : PSs X b u) : PS X (.If c a b pos) (tIfS tc t u) := by
  intro pins s σ H D I h
  refine wpAny_If (thn (hc pins s σ H _ I h) fun d s1 ⟨H1, I1, q1⟩ => ?_)
  cases d with
  | true => exact ha pins s1 σ H1 D I1 q1
  | false => exact hb pins s1 σ H1 D I1 q1
noncomputable def tNever : TS := fun _ _ _ => False
theorem ps_never : PS X st tNever := fun _ _ _ _ _ _ h => h.elim
end

noncomputable abbrev TG := V → St → Hp → (St → Hp → Prop) → Prop
noncomputable abbrev TGs := List V → St → Hp → (St → Hp → Prop) → Prop
noncomputable def PG (X : Cx) (target : Expr) (t : TG) : Prop :=
  ∀ (pins : List (Addr × Obj)) (s : Shared) (σ : St) (H : Hp) (v : V) (u : Value) (Q : St → Hp → Prop), Inv X pins σ H s → RelV v u → t v σ H Q →
    wpAny (model X.prog X.w) X.A (assign target X.env u) (fun _ s' => ∃ σ' H', Inv X pins σ' H' s' ∧ Q σ' H') X.xe s
noncomputable def PGs (X : Cx) (ts : List Expr) (t : TGs) : Prop :=
  ∀ (pins : List (Addr × Obj)) (s : Shared) (σ : St) (H : Hp) (vs : List V) (us : List Value) (Q : St → Hp → Prop), Inv X pins σ H s → Vals vs us → t vs σ H Q →
    wpAny (model X.prog X.w) X.A (assignInOrder ((assignEach ts X.env).map (·.2)) us) (fun _ s' => ∃ σ' H', Inv X pins σ' H' s' ∧ Q σ' H') X.xe s
noncomputable abbrev TIp := V → V → Hp → VK → Prop
noncomputable def PIp (X : Cx) (op : Operator) (t : TIp) : Prop :=
  ∀ (pins : List (Addr × Obj)) (s : Shared) (σ : St) (H : Hp) (x y : V) (v u : Value) (Q : VK), Inv X pins σ H s → RelV x v → RelV y u → t x y H Q →
    wpAny (model X.prog X.w) X.A (inplaceOp op v u) (EP X pins σ Q) X.xe s
section
variable {X : Cx} {pos : Pos}
noncomputable def gName (i : Nat) : TG := fun v σ H Q => Q (σ.set i (some v)) H
theorem pg_name {i : Nat} {x : Str} (hN : X.N.Nodup) (hi : X.N[i]? = some x) (hx : Loc X.env.scope x) (hf : X.fn x = true ∨ X.env.scope.names.lookup x = some .local := by first | exact .inl rfl | exact .inr rfl | assumption) : PG X (.Name x pos) (gName i) := by
  intro pins s σ H v u Q I r h
  exact wpAny_assign_Name (store_ok I hN hi hx r (fun s' I' => ⟨_, H, I', h⟩) hf)
noncomputable def gNil : TGs := fun vs σ H Q => vs = [] ∧ Q σ H
noncomputable def gCons (t : TG) (u : TGs) : TGs := fun vs σ H Q => Ex_2_2 (fun v r => vs = v :: r) (fun v r => t v σ H fun σ' H' => u r σ' H' Q)
theorem pgs_nil : PGs X [] gNil := by
  intro pins s σ H vs us Q I r h
  obtain ⟨e, h⟩ := h
  subst e
  cases r
  exact assignInOrder_nil ⟨σ, H, I, h⟩
theorem pgs_cons {e : Expr} {es : List Expr} {t : TG} {u : TGs} (h1 : PG X e t) (h2 : PGs X es u)
    (hs : (assignEach (e :: es) X.env).map (·.2) = assign e X.env :: (assignEach es X.env).map (·.2) := by rfl) : PGs X (e :: es) (gCons t u) := by
  intro pins s σ H vs us Q I r h
  obtain ⟨v, vr, e1, h⟩ := h
  subst e1
  cases r with
  | cons r rr =>
    rw [hs]
    refine assignInOrder_cons (thn (h1 pins s σ H _ _ _ I r h) fun _ s1 ⟨σ1, H1, I1, q1⟩ => ?_)
    exact h2 pins s1 σ1 H1 _ _ Q I1 rr q1
noncomputable def gTup (K : PySem.W.Frag) (n : Nat) (t : TGs) : TG := fun v σ H Q => Ex_2_4 (fun a xs => v = .ref a) (fun a xs => SqT K H a xs) (fun a xs => xs.length = n) (fun a xs => t xs σ H Q)
theorem pg_tup {es : List Expr} {k : Nat} {t : TGs} {n : Nat} (hc : X.calm = true) (h : PGs X es t)
    (hn : (assignEach es X.env).length = n := by rfl) (hst : (assignEach es X.env).findIdx? (·.1) = none := by rfl) : PG X (.Tuple es k pos) (gTup X.K n t) := by
  intro pins s σ H v u Q I r hw
  obtain ⟨a, xs, e1, hq, hl, hw⟩ := hw
  subst e1
  cases r
  obtain ⟨its, rv, ht, hz⟩ := I.tuple hq
  refine assign_Tuple_tuple (I.ok.hd hc) ht (by simp [hn, ← hl, rv.length]) hst fun h' hx => ?_
  have I1 : Inv X pins σ H { s with heap := h' } := I.kept (t' := s.toks) fun b o e => hx b o (Nat.ne_of_lt (Heap.lt_size e)) e
  exact h pins _ σ H xs _ Q I1 (by simpa using rv) hw
noncomputable def tAsg (te : TE) (g : TG) : TS := fun D σ H => te σ H fun x H1 => g x σ H1 D.nx
theorem ps_set {i : Nat} {x : Str} {e : Expr} {te : TE} {pos' : Pos} (hN : X.N.Nodup) (hi : X.N[i]? = some x) (hx : Loc X.env.scope x) (he : PE X e te) (hs : swapsWith e (some (.Name x pos')) pos.line X.env = pure false := by rfl) (hf : X.fn x = true ∨ X.env.scope.names.lookup x = some .local := by first | exact .inl rfl | exact .inr rfl | assumption) :
    PS X (.Assign [.Name x pos'] e pos) (tAsg te (gName i)) := by
  intro pins s σ H D I h
  refine wpAny_Assign_Name (thn (he pins s σ H _ I h) fun v s1 ⟨y, H1, I1, r1, q1⟩ => ?_) hs
  exact store_ok I1 hN hi hx r1 (fun s2 I2 => ⟨_, H1, I2, q1⟩) hf
noncomputable def tAug (i : Nat) (te : TE) (ti : TIp) : TS := fun D σ H => Ex_1_2 (fun x => σ[i]? = some (some x)) (fun x => te σ H fun y H1 => ti x y H1 fun z H2 => D.nx (σ.set i (some z)) H2)
theorem ps_aug {i : Nat} {x : Str} {e : Expr} {te : TE} {op : Operator} {ti : TIp} {pos' : Pos} (hN : X.N.Nodup) (hi : X.N[i]? = some x) (hx : Loc X.env.scope x) (he : PE X e te) (ho : PIp X op ti) (hf : X.fn x = true ∨ X.env.scope.names.lookup x = some .local := by first | exact .inl rfl | exact .inr rfl | assumption) :
    PS X (.AugAssign (.Name x pos') op e pos) (tAug i te ti) := by
  intro pins s σ H D I h
  obtain ⟨v, e1, h⟩ := h
  obtain ⟨m, hn, hl⟩ := I.loc
  have vis : Vis X.env.scope x := by rcases hx with k | k; exact .inl k; exact .inr (.inl k)
  obtain ⟨u, r, l⟩ := hl i x v hi e1 vis
  refine wpAny_AugAssign_Name ?_
  have go : wpAny (model X.prog X.w) X.A (eval e X.env) (fun w s₂ => wpAny (model X.prog X.w) X.A (inplaceOp op u w) (fun r s₃ => wpAny (model X.prog X.w) X.A (storeName X.env x r) (fun _ => SP X pins D .next) X.xe s₃) X.xe s₂) X.xe s := by
    refine thn (he pins s σ H _ I h) fun w s1 ⟨y, H1, I1, r1, q1⟩ => ?_
    refine thn (ho pins s1 σ H1 v y u w _ I1 r r1 q1) fun z s2 ⟨zv, H2, I2, r2, q2⟩ => ?_
    exact store_ok I2 hN hi hx r2 (fun s3 I3 => ⟨_, H2, I3, q2⟩) hf
  rcases l with ⟨hk, hm⟩ | ⟨hk, c, hc, hcell⟩
  · exact wpAny_loadName_local I.ok.kind hk hn hm go
  · rcases hk with hk | hk
    · exact wpAny_loadName_cell I.ok.kind hk hc hcell go
    · rcases hx with k | k
      · have : X.env.scope.names.lookup x = some .free := hk
        rw [k] at this; cases this
      · have : X.env.scope.names.lookup x = some .free := hk
        rw [k] at this; cases this
noncomputable def ipI (f : Int → Int → Int) : TIp := fun x y H Q => Ex_2_3 (fun i j => x = .int i) (fun i j => y = .int j) (fun i j => Q (.int (f i j)) H)
theorem ip_add : PIp X .Add (ipI fun i j => i + j) := by
  intro pins s σ H x y v u Q I r1 r2 h
  obtain ⟨i, j, e1, e2, q⟩ := h
  subst e1; subst e2
  obtain ⟨t, rfl⟩ := r1
  obtain ⟨t', rfl⟩ := r2
  exact iadd_int ⟨.int _, H, I.tok _, ⟨_, rfl⟩, q⟩
end

section
variable {X : Cx} {pos : Pos}
end

structure It where
  go : Nat → Hp → Prop
  yld : Nat → Hp → V → Hp → Prop
  stop : Nat → Hp → Prop
noncomputable def FpOk (X : Cx) (pins : List (Addr × Obj)) (H : Hp) (b : Addr) : Prop :=
  H b = none ∧ b ≠ X.env.locals ∧ b ∉ X.fs ∧ (b ∈ X.ex ∨ X.s₀.heap.objs.size ≤ b) ∧ (∀ x c, X.env.cells.lookup x = some c → c ≠ b) ∧ ∀ p ∈ X.pn ++ pins, p.1 ≠ b
theorem Inv.fpOk {X : Cx} {pins : List (Addr × Obj)} {σ : St} {H H' : Hp} {s : Shared} {b : Addr} (I : Inv X pins σ H s) (hb : s.heap.objs.size ≤ b) (hn : H' b = none) : FpOk X pins H' b := by
  refine ⟨hn, Nat.ne_of_gt (Nat.lt_of_lt_of_le I.lt hb), I.nofs hb, .inr (Nat.le_trans I.sz hb), fun x c e z => ?_, fun p hp z => ?_⟩
  · obtain ⟨v, q⟩ := I.cell x c e
    exact absurd (Nat.lt_of_lt_of_le q.lt (by rw [z]; exact hb)) (Nat.lt_irrefl _)
  · exact absurd (Nat.lt_of_lt_of_le (Heap.lt_size (I.pin p hp).1) (by rw [z]; exact hb)) (Nat.lt_irrefl _)
structure Turn (P : Program) (w : World) (K : PySem.W.Frag) (tg : Expr) (J : It) (fp : List Addr) (it : Addr) (tn : Nat → Heap → Prop) : Prop where
  mem : it ∈ fp
  obj : ∀ i h, tn i h → ∀ b ∈ fp, ∃ o, h.get? b = some o ∧ ∀ v, o.data ≠ .cell v
  keep : ∀ i h h', tn i h → (∀ b ∈ fp, ∀ o, h.get? b = some o → h'.get? b = some o) → tn i h'
  item : ∀ (X : Cx), X.prog = P → X.w = w → X.K = K → X.calm = true → ∀ (i : Nat) (pins : List (Addr × Obj)) (s : Shared) (σ : St) (H : Hp) (E : Value → Shared → Prop), Inv X pins σ H s → (∀ b ∈ fp, FpOk X pins H b) → tn i s.heap → J.go i H →
    wpAny (model P w) X.A (pyNext (.ref it)) (fun r s1 => ∃ u, r = some u ∧
      wpAny (model P w) X.A (letOwnedTupleGo tg (.ref it) u) (fun _ s2 => Ex_2_5 (fun x H' => Inv X pins σ H' s2) (fun x H' => RelV x u) (fun x H' => J.yld i H x H') (fun x H' => tn (i + 1) s2.heap) (fun x H' => ∀ b ∈ fp, H' b = none)) E s1) E s
  done : ∀ (X : Cx), X.prog = P → X.w = w → X.K = K → X.calm = true → ∀ (i : Nat) (pins : List (Addr × Obj)) (s : Shared) (σ : St) (H : Hp) (E : Value → Shared → Prop), Inv X pins σ H s → (∀ b ∈ fp, FpOk X pins H b) → tn i s.heap → J.stop i H →
    wpAny (model P w) X.A (pyNext (.ref it)) (fun r s1 => r = none ∧ Inv X pins σ H s1) E s
  self : ∀ (A : Around) (i : Nat) (s : Shared) (Q : Value → Shared → Prop) (E : Value → Shared → Prop), tn i s.heap → Q (.ref it) s → wpAny (model P w) A (pyIter (.ref it)) Q E s
noncomputable abbrev TI := St → Hp → (It → Hp → Prop) → Prop
noncomputable def PIE (X : Cx) (pins : List (Addr × Obj)) (σ : St) (tg : Expr) (R : It → Hp → Prop) (itv : Value) (s2 : Shared) : Prop :=
  Ex_5_6 (fun (it : Addr) (fp : List Addr) (tn : Nat → Heap → Prop) (J : It) (H' : Hp) => itv = .ref it) (fun it fp tn J H' => Inv X pins σ H' s2) (fun it fp tn J H' => Turn X.prog X.w X.K tg J fp it tn) (fun it fp tn J H' => tn 0 s2.heap) (fun it fp tn J H' => (∀ b ∈ fp, FpOk X pins H' b)) (fun it fp tn J H' => R J H')
noncomputable def PI (X : Cx) (tg iter : Expr) (wi : TI) : Prop :=
  ∀ (pins : List (Addr × Obj)) (s : Shared) (σ : St) (H : Hp) (R : It → Hp → Prop), Inv X pins σ H s → wi σ H R →
    wpAny (model X.prog X.w) X.A (eval iter X.env) (fun v s1 => wpAny (model X.prog X.w) X.A (pyIter v) (PIE X pins σ tg R) X.xe s1) X.xe s

theorem go_of {M : Model} {A : Around} {E : Value → Shared → Prop} {s : Shared} {tg : Expr} {it : Addr} {u : Value} {o : Obj} {n : String} {vs : Array Value} {Q : Unit → Shared → Prop} (ho : s.heap.get? it = some o) (hc : o.cls = .type n) (hd : o.data = .fields vs)
    (hn : ["enumerate", "zip", "dict_itemiterator", "dict_reverseitemiterator", "odict_iterator", "itertools.zip_longest", "itertools.pairwise"].contains n = false) (hQ : Q () s) : wpAny M A (letOwnedTupleGo tg (.ref it) u) Q E s := by
  unfold letOwnedTupleGo
  cases tg <;> first
    | exact wpAny_pure hQ
    | (cases u <;> first
        | exact wpAny_pure hQ
        | (refine wpAny_bind (wpAny_load ho ?_)
           rw [hc, hd]
           show wpAny M A (if (["enumerate", "zip", "dict_itemiterator", "dict_reverseitemiterator", "odict_iterator", "itertools.zip_longest", "itertools.pairwise"].contains n && vs[0]? == some (rawInt _)) = true then _ else _) Q E s
           rw [if_neg (by intro h; rw [hn, Bool.false_and] at h; cases h)]
           exact wpAny_pure hQ))

noncomputable def Itl (K : PySem.W.Frag) (a : Addr) : It :=
  ⟨fun i H => Ex_2_2 (fun xs x => SqL K H a xs) (fun xs x => xs[i]? = some x), fun i H x H' => H' = H ∧ ∀ xs, SqL K H a xs → xs[i]? = some x, fun i H => ∃ xs, SqL K H a xs ∧ xs.length ≤ i⟩
noncomputable def Itt (K : PySem.W.Frag) (a : Addr) : It :=
  ⟨fun i H => Ex_2_2 (fun xs x => SqT K H a xs) (fun xs x => xs[i]? = some x), fun i H x H' => H' = H ∧ ∀ xs, SqT K H a xs → xs[i]? = some x, fun i H => ∃ xs, SqT K H a xs ∧ xs.length ≤ i⟩
noncomputable def Itr (lo : Int) (n : Nat) : It := ⟨fun i _ => i < n, fun i H x H' => H' = H ∧ x = .int (lo + i), fun i _ => n ≤ i⟩
theorem turn_list {P : Program} {w : World} {K : PySem.W.Frag} {tg : Expr} (a it : Addr) : Turn P w K tg (Itl K a) [it] it (fun i h => h.IsListIter it a i) where
  mem := by simp
  obj := fun i h st b hb => by
    have e : b = it := by simpa using hb
    subst e
    obtain ⟨o, e, c, d⟩ := st
    exact ⟨o, e, fun v z => by rw [d] at z; cases z⟩
  keep := fun i h h' st k => st.at fun o e => k it (by simp) o e
  item := by
    intro X hP hw hK hc i pins s σ H E I hf st hg
    subst hP hw hK
    obtain ⟨xs, x, hq, hx⟩ := hg
    obtain ⟨its, rv, p, hz⟩ := I.list hq
    obtain ⟨u, hu, ru⟩ := rv.get hx
    obtain ⟨f0, f1, f2, f3, f4, f5⟩ := hf it (by simp)
    refine wpAny_pyNext_list_item st p.isList (x := u) (by simpa using hu) fun h' st' sb => ?_
    have I1 : Inv X pins σ H { s with heap := h' } := I.turned (t' := s.toks) (fun b o hb e => (sb.2 b hb).trans e) f0 f1 f3 f4 f5
    obtain ⟨o, e, c, d⟩ := id st'
    exact ⟨u, rfl, go_of (s := { s with heap := h' }) e c d (by decide) ⟨x, H, I1, ru, ⟨rfl, fun ys hy => by rw [I.list_inj hy hq]; exact hx⟩, st', fun b hb => (hf b hb).1⟩⟩
  done := by
    intro X hP hw hK hc i pins s σ H E I hf st hg
    subst hP hw hK
    obtain ⟨xs, hq, hx⟩ := hg
    obtain ⟨its, rv, p, hz⟩ := I.list hq
    obtain ⟨f0, f1, f2, f3, f4, f5⟩ := hf it (by simp)
    have hl := rv.length
    exact wpAny_pyNext_list_end (I.ok.hd hc) st p.isList (by simp; omega) fun h' eb => ⟨rfl, I.turned (t' := s.toks) (fun b o hb e => eb b o hb e) f0 f1 f3 f4 f5⟩
  self := fun _ _ _ _ _ st h => wpAny_pyIter_listiter st h
theorem turn_tuple {P : Program} {w : World} {K : PySem.W.Frag} {tg : Expr} (a it : Addr) : Turn P w K tg (Itt K a) [it] it (fun i h => h.IsTupleIter it a i) where
  mem := by simp
  obj := fun i h st b hb => by
    have e : b = it := by simpa using hb
    subst e
    obtain ⟨o, e, c, d⟩ := st
    exact ⟨o, e, fun v z => by rw [d] at z; cases z⟩
  keep := fun i h h' st k => st.at fun o e => k it (by simp) o e
  item := by
    intro X hP hw hK hc i pins s σ H E I hf st hg
    subst hP hw hK
    obtain ⟨xs, x, hq, hx⟩ := hg
    obtain ⟨its, rv, p, hz⟩ := I.tuple hq
    obtain ⟨u, hu, ru⟩ := rv.get hx
    obtain ⟨f0, f1, f2, f3, f4, f5⟩ := hf it (by simp)
    refine wpAny_pyNext_tuple_item st (show s.heap.IsTuple a its.toArray from p) (x := u) (by simpa using hu) fun h' st' sb => ?_
    have I1 : Inv X pins σ H { s with heap := h' } := I.turned (t' := s.toks) (fun b o hb e => (sb.2 b hb).trans e) f0 f1 f3 f4 f5
    obtain ⟨o, e, c, d⟩ := id st'
    exact ⟨u, rfl, go_of (s := { s with heap := h' }) e c d (by decide) ⟨x, H, I1, ru, ⟨rfl, fun ys hy => by rw [I.tuple_inj hy hq]; exact hx⟩, st', fun b hb => (hf b hb).1⟩⟩
  done := by
    intro X hP hw hK hc i pins s σ H E I hf st hg
    subst hP hw hK
    obtain ⟨xs, hq, hx⟩ := hg
    obtain ⟨its, rv, p, hz⟩ := I.tuple hq
    obtain ⟨f0, f1, f2, f3, f4, f5⟩ := hf it (by simp)
    have hl := rv.length
    exact wpAny_pyNext_tuple_end (I.ok.hd hc) st (show s.heap.IsTuple a its.toArray from p) (by simp; omega) fun h' eb => ⟨rfl, I.turned (t' := s.toks) (fun b o hb e => eb b o hb e) f0 f1 f3 f4 f5⟩
  self := fun _ _ _ _ _ st h => wpAny_pyIter_tupleiter st h
theorem turn_range {P : Program} {w : World} {K : PySem.W.Frag} {tg : Expr} (it : Addr) (lo : Int) (n : Nat) : Turn P w K tg (Itr lo n) [it] it (fun i h => IsRangeIter h it (lo + (i : Nat) * 1) ((n : Int) - (i : Nat)) 1) where
  mem := by simp
  obj := fun i h st b hb => by
    have e : b = it := by simpa using hb
    subst e
    exact ⟨_, st, fun v z => by
      have z' : Data.fields _ = Data.cell v := z
      cases z'⟩
  keep := fun i h h' st k => k it (by simp) _ st
  item := by
    intro X hP hw hK hc i pins s σ H E I hf st hg
    subst hP hw hK
    obtain ⟨f0, f1, f2, f3, f4, f5⟩ := hf it (by simp)
    have W := Walks.range (prog := X.prog) (w := X.w) (I.ok.hd hc) it lo 1 n
    refine W.item i s _ _ hg st fun v h' tk hv st' kk => ?_
    obtain ⟨t, rfl⟩ := hv
    have I1 : Inv X pins σ H { s with heap := h', toks := tk } := I.turned (fun b o hb e => kk b o (by simpa using hb) e) f0 f1 f3 f4 f5
    refine ⟨_, rfl, go_of (s := { s with heap := h', toks := tk }) (n := "range_iterator") st' rfl rfl (by decide) ⟨.int (lo + i), H, I1, ⟨t, ?_⟩, ⟨rfl, rfl⟩, st', fun b hb => (hf b hb).1⟩⟩
    rw [Int.mul_one]
  done := by
    intro X hP hw hK hc i pins s σ H E I hf st hg
    subst hP hw hK
    obtain ⟨f0, f1, f2, f3, f4, f5⟩ := hf it (by simp)
    exact wpAny_pyNext_range_end (I.ok.hd hc) st (by have : n ≤ i := hg; omega) fun h' eb => ⟨rfl, I.turned (t' := s.toks) (fun b o hb e => eb b o hb e) f0 f1 f3 f4 f5⟩
  self := fun _ _ _ _ _ st h => wpAny_pyIter_rangeiter st h
end L2

namespace L2
open PySem PySem.Spec PyProof.Rows
section
variable {X : Cx} {tg : Expr}
noncomputable def iList (K : PySem.W.Frag) (tl : TE) : TI := fun σ H R => tl σ H fun x H1 => Ex_1_3 (fun a => x = .ref a) (fun a => (Ex_1_1 (fun xs => SqL K H1 a xs))) (fun a => R (Itl K a) H1)
noncomputable def iTup (K : PySem.W.Frag) (tl : TE) : TI := fun σ H R => tl σ H fun x H1 => Ex_1_3 (fun a => x = .ref a) (fun a => (Ex_1_1 (fun xs => SqT K H1 a xs))) (fun a => R (Itt K a) H1)
theorem pi_list {l : Expr} {tl : TE} (hl : PE X l tl) : PI X tg l (iList X.K tl) := by
  intro pins s σ H R I h
  refine thn (hl pins s σ H _ I h) fun v s1 ⟨x, H1, I1, r1, q1⟩ => ?_
  obtain ⟨a, e, ⟨xs, hq⟩, q⟩ := q1
  subst e
  cases r1
  obtain ⟨its, rv, p, hz⟩ := I1.list hq
  refine wpAny_pyIter_list p.isList ?_
  refine ⟨s1.heap.objs.size, [s1.heap.objs.size], _, _, H1, rfl, I1.kept (t' := s1.toks) fun b o e => Heap.get?_push_of_some _ e, turn_list a _, ⟨_, Heap.get?_push_size _ rfl, rfl, rfl⟩, fun b hb => ?_, q⟩
  have e : b = s1.heap.objs.size := by simpa using hb
  subst e
  exact I1.fpOk (Nat.le_refl _) (I1.hok.fresh (Nat.le_refl _))
theorem pi_tup {l : Expr} {tl : TE} (hl : PE X l tl) : PI X tg l (iTup X.K tl) := by
  intro pins s σ H R I h
  refine thn (hl pins s σ H _ I h) fun v s1 ⟨x, H1, I1, r1, q1⟩ => ?_
  obtain ⟨a, e, ⟨xs, hq⟩, q⟩ := q1
  subst e
  cases r1
  obtain ⟨its, rv, p, hz⟩ := I1.tuple hq
  refine wpAny_pyIter_tuple (show s1.heap.IsTuple a its.toArray from p) ?_
  refine ⟨s1.heap.objs.size, [s1.heap.objs.size], _, _, H1, rfl, I1.kept (t' := s1.toks) fun b o e => Heap.get?_push_of_some _ e, turn_tuple a _, ⟨_, Heap.get?_push_size _ rfl, rfl, rfl⟩, fun b hb => ?_, q⟩
  have e : b = s1.heap.objs.size := by simpa using hb
  subst e
  exact I1.fpOk (Nat.le_refl _) (I1.hok.fresh (Nat.le_refl _))
theorem range_it {pins : List (Addr × Obj)} {σ : St} {H : Hp} {s : Shared} {R : It → Hp → Prop} {E : Value → Shared → Prop} {lo hi : Int} {t u v : Tok} {tk : Nat} (I : Inv X pins σ H s) (h1 : -(2 ^ 62) ≤ lo) (h2 : lo < 2 ^ 62) (h3 : -(2 ^ 62) ≤ hi) (h4 : hi < 2 ^ 62)
    (q : R (Itr lo (hi - lo).toNat) H) : wpAny (model X.prog X.w) X.A (pyIter (.ref s.heap.objs.size)) (PIE X pins σ tg R) E { s with heap := s.heap.push { cls := .type "range", data := .fields #[.int lo t, .int hi u, .int 1 v] }, toks := tk } := by
  refine wpAny_pyIter_range (IsRange.new ..) (small_one h1 h2 h3 h4) ?_
  have I1 : Inv X pins σ H { s with heap := s.heap.push { cls := .type "range", data := .fields #[.int lo t, .int hi u, .int 1 v] }, toks := tk } := I.kept fun b o e => Heap.get?_push_of_some _ e
  refine ⟨(s.heap.push { cls := .type "range", data := .fields #[.int lo t, .int hi u, .int 1 v] }).objs.size, [(s.heap.push { cls := .type "range", data := .fields #[.int lo t, .int hi u, .int 1 v] }).objs.size], _, _, H, rfl,
    I1.kept (t' := tk) fun b o e => Heap.get?_push_of_some _ e, turn_range _ lo (hi - lo).toNat, ?_, fun b hb => ?_, q⟩
  · have e1 : lo + ((0 : Nat) : Int) * 1 = lo := by simp
    have e2 : (((hi - lo).toNat : Nat) : Int) - ((0 : Nat) : Int) = Builtin.Range.rangeSize lo hi 1 := by rw [rangeSize_one]; split <;> omega
    show IsRangeIter _ _ (lo + ((0 : Nat) : Int) * 1) ((((hi - lo).toNat : Nat) : Int) - ((0 : Nat) : Int)) 1
    rw [e1, e2]
    exact Heap.get?_push_size _ rfl
  · have e : b = (s.heap.push { cls := .type "range", data := .fields #[.int lo t, .int hi u, .int 1 v] }).objs.size := by simpa using hb
    subst e
    exact I1.fpOk (Nat.le_refl _) (I1.hok.fresh (Nat.le_refl _))
noncomputable def iRng1 (ta : TA) : TI := fun σ H R => ta σ H fun vs H1 => Ex_1_4 (fun (j : Int) => vs = [.int j]) (fun j => -(2 ^ 62) ≤ j) (fun j => j < 2 ^ 62) (fun j => R (Itr 0 j.toNat) H1)
noncomputable def iRng2 (ta : TA) : TI := fun σ H R => ta σ H fun vs H1 => Ex_2_3 (fun (i j : Int) => vs = [.int i, .int j]) (fun i j => (-(2 ^ 62) ≤ i ∧ i < 2 ^ 62 ∧ -(2 ^ 62) ≤ j ∧ j < 2 ^ 62)) (fun i j => R (Itr i (j - i).toNat) H1)
theorem pi_range1 {a : Expr} {ta : TA} {p pos : Pos} (hg : Gl X "range") (hm : X.mg "range" = none) (ha : PA X [a] ta) (hs : starEach [a] X.env = [(false, eval a X.env)] := by rfl) : PI X tg (.Call (.Name "range" p) [a] [] pos) (iRng1 ta) := by
  intro pins s σ H R I h
  refine Call_ (ld_blt I hg hm boot_range (PyProof.Rows.callWith_type1 (thn (ha pos pins s σ H _ I h) fun us s1 ⟨vs, H1, I1, r1, q1⟩ => ?_) hs rfl))
  obtain ⟨j, e, q1, q2, q⟩ := q1
  subst e
  cases r1 with
  | cons r rr =>
    cases rr
    obtain ⟨t, rfl⟩ := r
    exact call_range_1 (range_it I1 (by omega) (by omega) q1 q2 (by simpa using q))
theorem pi_range2 {a b : Expr} {ta : TA} {p pos : Pos} (hg : Gl X "range") (hm : X.mg "range" = none) (ha : PA X [a, b] ta) (hs : starEach [a, b] X.env = [(false, eval a X.env), (false, eval b X.env)] := by rfl) (hs2 : starEach [b] X.env = [(false, eval b X.env)] := by rfl) :
    PI X tg (.Call (.Name "range" p) [a, b] [] pos) (iRng2 ta) := by
  intro pins s σ H R I h
  refine Call_ (ld_blt I hg hm boot_range (PyProof.Rows.callWith_type1 (thn (ha pos pins s σ H _ I h) fun us s1 ⟨vs, H1, I1, r1, q1⟩ => ?_) (by rw [hs, hs2]) (by rw [hs2]; rfl)))
  obtain ⟨i, j, e, ⟨q1, q2, q3, q4⟩, q⟩ := q1
  subst e
  cases r1 with
  | cons r rr =>
    cases rr with
    | cons r' rr =>
      cases rr
      obtain ⟨t, rfl⟩ := r
      obtain ⟨t', rfl⟩ := r'
      exact call_range_2 (range_it I1 q1 q2 q3 q4 q)

noncomputable def tFor (wi : TI) (g : TG) (tb : TS) : TS := fun D σ H => wi σ H fun J H1 => ∃ W : Nat → Nat → St → Hp → Prop, (∃ m, W 0 m σ H1) ∧ ∀ i m σ H, W i m σ H →
  (J.stop i H ∧ D.nx σ H) ∨ (J.go i H ∧ ∃ N : St → Hp → Prop, (∀ σ' H', N σ' H' → ∃ m', m' < m ∧ W (i + 1) m' σ' H') ∧ ∀ x H', J.yld i H x H' → g x σ H' fun σ2 H2 => tb { D with nx := N, ct := N, bk := D.nx } σ2 H2)
noncomputable def pinsAt (fp : List Addr) (h : Heap) : List (Addr × Obj) := fp.filterMap fun b => (h.get? b).map fun o => (b, o)
theorem mem_pinsAt {fp : List Addr} {h : Heap} {b : Addr} {o : Obj} (hb : b ∈ fp) (e : h.get? b = some o) : (b, o) ∈ pinsAt fp h := List.mem_filterMap.mpr ⟨b, hb, by rw [e]; rfl⟩
theorem of_pinsAt {fp : List Addr} {h : Heap} {p : Addr × Obj} (hp : p ∈ pinsAt fp h) : p.1 ∈ fp ∧ h.get? p.1 = some p.2 := by
  obtain ⟨b, hb, e⟩ := List.mem_filterMap.mp hp
  cases q : h.get? b with
  | none => rw [q] at e; cases e
  | some o =>
    rw [q] at e
    have e' : (b, o) = p := Option.some.inj e
    subst e'
    exact ⟨hb, q⟩
theorem Inv.pinned {pins : List (Addr × Obj)} {σ : St} {H : Hp} {s : Shared} {fp : List Addr} (I : Inv X pins σ H s) (hf : ∀ b ∈ fp, FpOk X pins H b) (ho : ∀ b ∈ fp, ∃ o, s.heap.get? b = some o ∧ ∀ v, o.data ≠ .cell v) : Inv X (pins ++ pinsAt fp s.heap) σ H s :=
  I.pins_of fun p hp => (List.mem_append.mp hp).elim (fun z => I.pin p (List.mem_append_right _ z)) fun z => by
    obtain ⟨hb, e⟩ := of_pinsAt z
    obtain ⟨f0, f1, f2, _⟩ := hf p.1 hb
    obtain ⟨o, e', d⟩ := ho p.1 hb
    rw [e] at e'; cases e'
    exact ⟨e, f0, f1, f2, d⟩
theorem Inv.unpinned {pins pl : List (Addr × Obj)} {σ : St} {H : Hp} {s : Shared} (I : Inv X (pins ++ pl) σ H s) : Inv X pins σ H s := I.pins_of fun p hp => I.pin p (List.mem_append_right _ (List.mem_append_left _ hp))
theorem ps_for {iter : Expr} {body : List Stmt} {wi : TI} {g : TG} {tb : TS} {pos : Pos} (hp : PassesOwn (model X.prog X.w) X.A X.env X.xe) (hc : X.calm = true) (hi : PI X tg iter wi) (hg : PG X tg g) (hb : PSs X body tb)
    (hs : ∀ x, foldedSetIterable iter X.env x = pure x := by intro _; rfl) : PS X (.For tg iter body [] pos) (tFor wi g tb) := by
  intro pins s σ H D I h
  refine wpAny_For (thn (hi pins s σ H _ I h) fun v s1 h1 => thn h1 fun itv s2 h2 => ?_) hs
  obtain ⟨it, fp, tn, J, H2, e, I2, T, st2, f2, W, ⟨m0, w0⟩, turn⟩ := h2
  subst e
  have stat : ∀ {H' : Hp}, (∀ b ∈ fp, H' b = none) → ∀ b ∈ fp, FpOk X pins H' b := fun hn b hb => ⟨hn b hb, (f2 b hb).2⟩
  refine codeAny_forLoop_any (fun n s' => ∃ i σ' H', Inv X pins σ' H' s' ∧ tn i s'.heap ∧ (∀ b ∈ fp, H' b = none) ∧ W i n σ' H') ?_ m0 ⟨0, σ, H2, I2, st2, fun b hb => (f2 b hb).1, w0⟩
  rintro n s3 ⟨i, σ3, H3, I3, st3, fr3, w3⟩
  rcases turn i n σ3 H3 w3 with ⟨stop, qn⟩ | ⟨go, N, hN, step⟩
  · refine wpAny_passesOwn hp (thn (T.done X rfl rfl rfl hc i pins s3 σ3 H3 X.xe I3 (stat fr3) st3 stop) fun r s4 ⟨hr, I4⟩ => ?_)
    subst hr
    exact wpAny_execs_nil ⟨σ3, H3, I4, qn⟩
  · refine wpAny_passesOwn hp (thn (T.item X rfl rfl rfl hc i pins s3 σ3 H3 X.xe I3 (stat fr3) st3 go) fun r s4 ⟨u, hr, h4⟩ => ?_)
    subst hr
    refine wpAny_passesOwn hp (thn h4 fun _ s5 ⟨x, H5, I5, r5, y5, st5, fr5⟩ => ?_)
    have I5' := I5.pinned (stat fr5) (T.obj _ _ st5)
    refine wpAny_passesOwn hp (thn (hg _ s5 σ3 H5 x u _ I5' r5 (step x H5 y5)) fun _ s6 ⟨σ6, H6, I6, q6⟩ => ?_)
    refine wpAny_passesOwn hp (thn (hb _ s6 σ6 H6 _ I6 q6) fun f s7 q7 => ?_)
    have again : ∀ {σ7 : St} {H7 : Hp}, Inv X (pins ++ pinsAt fp s5.heap) σ7 H7 s7 → N σ7 H7 → ∃ m, m < n ∧ ∃ i σ' H', Inv X pins σ' H' s7 ∧ tn i s7.heap ∧ (∀ b ∈ fp, H' b = none) ∧ W i m σ' H' := fun {σ7 H7} I7 n7 => by
      obtain ⟨m', hm, w7⟩ := hN σ7 H7 n7
      refine ⟨m', hm, i + 1, σ7, H7, I7.unpinned, T.keep _ _ _ st5 fun b hb o e => (I7.pin (b, o) (List.mem_append_right _ (List.mem_append_right _ (mem_pinsAt hb e)))).1, fun b hb => ?_, w7⟩
      obtain ⟨o, e, d⟩ := T.obj _ _ st5 b hb
      exact (I7.pin (b, o) (List.mem_append_right _ (List.mem_append_right _ (mem_pinsAt hb e)))).2.1
    cases f with
    | next => obtain ⟨σ7, H7, I7, n7⟩ := q7; exact again I7 n7
    | cont => obtain ⟨σ7, H7, I7, n7⟩ := q7; exact again I7 n7
    | brk => obtain ⟨σ7, H7, I7, q7⟩ := q7; exact ⟨σ7, H7, I7.unpinned, q7⟩
    | ret v => obtain ⟨x7, σ7, H7, I7, r7, q7⟩ := q7; exact ⟨x7, σ7, H7, I7.unpinned, r7, q7⟩
end

theorem for_list {K : PySem.W.Frag} {a : Addr} {xs : List V} {g : TG} {tb : TS} {D : Ends} {σ : St} {H : Hp} (Pv : Nat → St → Hp → Prop) (h0 : Pv 0 σ H) (hl : ∀ i σ H, i ≤ xs.length → Pv i σ H → SqL K H a xs)
    (hs : ∀ i x σ H, xs[i]? = some x → Pv i σ H → g x σ H fun σ2 H2 => tb { D with nx := Pv (i + 1), ct := Pv (i + 1), bk := D.nx } σ2 H2) (hd : ∀ σ H, Pv xs.length σ H → D.nx σ H) :
    ∃ W : Nat → Nat → St → Hp → Prop, (∃ m, W 0 m σ H) ∧ ∀ i m σ H, W i m σ H →
      ((Itl K a).stop i H ∧ D.nx σ H) ∨ ((Itl K a).go i H ∧ ∃ N : St → Hp → Prop, (∀ σ' H', N σ' H' → ∃ m', m' < m ∧ W (i + 1) m' σ' H') ∧ ∀ x H', (Itl K a).yld i H x H' → g x σ H' fun σ2 H2 => tb { D with nx := N, ct := N, bk := D.nx } σ2 H2) := by
  refine ⟨fun i m σ H => m = xs.length - i ∧ i ≤ xs.length ∧ Pv i σ H, ⟨xs.length, by simp, Nat.zero_le _, h0⟩, ?_⟩
  rintro i m σ H ⟨rfl, hi, p⟩
  have q := hl i σ H hi p
  by_cases hlt : i < xs.length
  · refine .inr ⟨⟨xs, xs[i], q, by simp [hlt]⟩, Pv (i + 1), fun σ' H' p' => ⟨xs.length - (i + 1), by omega, rfl, hlt, p'⟩, fun x H' y => ?_⟩
    obtain ⟨e, y⟩ := y
    subst e
    exact hs i x σ _ (y xs q) p
  · have e : i = xs.length := by omega
    subst e
    exact .inl ⟨⟨xs, q, Nat.le_refl _⟩, hd σ H p⟩
theorem for_range {lo : Int} {n : Nat} {g : TG} {tb : TS} {D : Ends} {σ : St} {H : Hp} (Pv : Nat → St → Hp → Prop) (h0 : Pv 0 σ H)
    (hs : ∀ i σ H, i < n → Pv i σ H → g (.int (lo + i)) σ H fun σ2 H2 => tb { D with nx := Pv (i + 1), ct := Pv (i + 1), bk := D.nx } σ2 H2) (hd : ∀ σ H, Pv n σ H → D.nx σ H) :
    ∃ W : Nat → Nat → St → Hp → Prop, (∃ m, W 0 m σ H) ∧ ∀ i m σ H, W i m σ H →
      ((Itr lo n).stop i H ∧ D.nx σ H) ∨ ((Itr lo n).go i H ∧ ∃ N : St → Hp → Prop, (∀ σ' H', N σ' H' → ∃ m', m' < m ∧ W (i + 1) m' σ' H') ∧ ∀ x H', (Itr lo n).yld i H x H' → g x σ H' fun σ2 H2 => tb { D with nx := N, ct := N, bk := D.nx } σ2 H2) := by
  refine ⟨fun i m σ H => m = n - i ∧ i ≤ n ∧ Pv i σ H, ⟨n, by simp, Nat.zero_le _, h0⟩, ?_⟩
  rintro i m σ H ⟨rfl, hi, p⟩
  by_cases hlt : i < n
  · refine .inr ⟨hlt, Pv (i + 1), fun σ' H' p' => ⟨n - (i + 1), by omega, rfl, hlt, p'⟩, fun x H' y => ?_⟩
    obtain ⟨e, y⟩ := y
    subst e y
    exact hs i σ _ hlt p
  · have e : i = n := by omega
    subst e
    exact .inl ⟨Nat.le_refl _, hd σ H p⟩
end L2

namespace L2
open PySem PySem.Spec PyProof.Rows

noncomputable abbrev R2 := V → V → Hp → VK → Prop
noncomputable def OpR (X : Cx) (f : Value → Value → Sem Value) (r : R2) : Prop :=
  ∀ (pins : List (Addr × Obj)) (s : Shared) (σ : St) (H : Hp) (x y : V) (v u : Value) (Q : VK), Inv X pins σ H s → RelV x v → RelV y u → r x y H Q →
    wpAny (model X.prog X.w) X.A (f v u) (EP X pins σ Q) X.xe s
noncomputable def UnR (X : Cx) (f : Value → Sem Value) (r : V → Hp → VK → Prop) : Prop :=
  ∀ (pins : List (Addr × Obj)) (s : Shared) (σ : St) (H : Hp) (x : V) (v : Value) (Q : VK), Inv X pins σ H s → RelV x v → r x H Q →
    wpAny (model X.prog X.w) X.A (f v) (EP X pins σ Q) X.xe s
noncomputable def CallR (X : Cx) (f : Value) (r : List V → Hp → VK → Prop) : Prop :=
  ∀ (pins : List (Addr × Obj)) (s : Shared) (σ : St) (H : Hp) (xs : List V) (us : List Value) (Q : VK), Inv X pins σ H s → Vals xs us → r xs H Q →
    wpAny (model X.prog X.w) X.A (call f us) (EP X pins σ Q) X.xe s
noncomputable def tOp (r : R2) (ta tb : TE) : TE := fun σ H Q => ta σ H fun x H1 => tb σ H1 fun y H2 => r x y H2 Q
noncomputable def tUn (r : V → Hp → VK → Prop) (ta : TE) : TE := fun σ H Q => ta σ H fun x H1 => r x H1 Q
noncomputable def rI (C : Int → Int → Prop) (g : Int → Int → V) : R2 := fun x y H Q => Ex_2_4 (fun i j => x = .int i) (fun i j => y = .int j) (fun i j => C i j) (fun i j => Q (g i j) H)
noncomputable def rI0 (g : Int → Int → V) : R2 := fun x y H Q => Ex_2_3 (fun i j => x = .int i) (fun i j => y = .int j) (fun i j => Q (g i j) H)
noncomputable def rU (g : Int → V) : V → Hp → VK → Prop := fun x H Q => Ex_1_2 (fun i => x = .int i) (fun i => Q (g i) H)

section
variable {X : Cx} {a b c : Expr} {ta tb tc : TE} {pos : Pos}

theorem binT (ha : PE X a ta) (hb : PE X b tb) {pins : List (Addr × Obj)} {s : Shared} {σ : St} {H : Hp} {R : V → V → Hp → Prop} (I : Inv X pins σ H s)
    (h : ta σ H fun x H1 => tb σ H1 fun y H2 => R x y H2) {Q : Value → Shared → Prop} {f : Value → Value → Sem Value}
    (hf : ∀ v u s2 x y H2, Inv X pins σ H2 s2 → RelV x v → RelV y u → R x y H2 → wpAny (model X.prog X.w) X.A (f v u) Q X.xe s2) :
    wpAny (model X.prog X.w) X.A (eval a X.env) (fun v s₁ => wpAny (model X.prog X.w) X.A (eval b X.env) (fun u s₂ => wpAny (model X.prog X.w) X.A (f v u) Q X.xe s₂) X.xe s₁) X.xe s := by
  refine thn (ha pins s σ H _ I h) fun v s1 ⟨x, H1, I1, r1, q1⟩ => ?_
  refine thn (hb pins s1 σ H1 _ I1 q1) fun u s2 ⟨y, H2, I2, r2, q2⟩ => ?_
  exact hf v u s2 x y H2 I2 r1 r2 q2

theorem pe_op {op : Operator} {r : R2} (ho : OpR X (binaryOp op) r) (ha : PE X a ta) (hb : PE X b tb) : PE X (.BinOp a op b pos) (tOp r ta tb) := by
  intro pins s σ H Q I h
  exact wpAny_BinOp (binT ha hb I h fun v u s2 x y H2 I2 rx ry q => ho pins s2 σ H2 x y v u Q I2 rx ry q)
theorem pe_un {op : UnaryOp} {r : V → Hp → VK → Prop} (ho : UnR X (unaryOp op) r) (ha : PE X a ta) : PE X (.UnaryOp op a pos) (tUn r ta) := by
  intro pins s σ H Q I h
  exact UnaryOp_ (thn (ha pins s σ H _ I h) fun v s1 ⟨x, H1, I1, r1, q1⟩ => ho pins s1 σ H1 x v Q I1 r1 q1)
theorem opI {f : Value → Value → Sem Value} {C : Int → Int → Prop} {g : Int → Int → Int}
    (rule : ∀ (i j : Int) (t u : Tok) (s : Shared) (Q : Value → Shared → Prop) (E : Value → Shared → Prop), C i j → Q (.int (g i j) s.toks) { s with toks := s.toks + 1 } → wpAny (model X.prog X.w) X.A (f (.int i t) (.int j u)) Q E s) :
    OpR X f (rI C fun i j => .int (g i j)) := by
  intro pins s σ H x y v u Q I rx ry h
  obtain ⟨i, j, rfl, rfl, hc, q⟩ := h
  obtain ⟨t, rfl⟩ := rx
  obtain ⟨t', rfl⟩ := ry
  exact rule i j t t' s _ _ hc ⟨.int (g i j), H, I.tok _, ⟨_, rfl⟩, q⟩
theorem opI0 {f : Value → Value → Sem Value} {g : Int → Int → Int}
    (rule : ∀ (i j : Int) (t u : Tok) (s : Shared) (Q : Value → Shared → Prop) (E : Value → Shared → Prop), Q (.int (g i j) s.toks) { s with toks := s.toks + 1 } → wpAny (model X.prog X.w) X.A (f (.int i t) (.int j u)) Q E s) :
    OpR X f (rI0 fun i j => .int (g i j)) := by
  intro pins s σ H x y v u Q I rx ry h
  obtain ⟨i, j, rfl, rfl, q⟩ := h
  obtain ⟨t, rfl⟩ := rx
  obtain ⟨t', rfl⟩ := ry
  exact rule i j t t' s _ _ ⟨.int (g i j), H, I.tok _, ⟨_, rfl⟩, q⟩
theorem opB0 {f : Value → Value → Sem Value} {g : Int → Int → Bool}
    (rule : ∀ (i j : Int) (t u : Tok) (s : Shared) (Q : Value → Shared → Prop) (E : Value → Shared → Prop), Q (.bool (g i j)) s → wpAny (model X.prog X.w) X.A (f (.int i t) (.int j u)) Q E s) :
    OpR X f (rI0 fun i j => .bl (g i j)) := by
  intro pins s σ H x y v u Q I rx ry h
  obtain ⟨i, j, rfl, rfl, q⟩ := h
  obtain ⟨t, rfl⟩ := rx
  obtain ⟨t', rfl⟩ := ry
  exact rule i j t t' s _ _ ⟨.bl (g i j), H, I, rfl, q⟩

noncomputable def CDiv (i j : Int) : Prop := 0 < j ∧ j < 1073741824
noncomputable def CPow (i j : Int) : Prop := 0 ≤ j ∧ j ≤ 1000000 ∧ i.natAbs < 2 ^ 64
noncomputable def CMul (i j : Int) : Prop := (-(2 ^ 64) < i ∧ i < 2 ^ 64) ∨ (-(2 ^ 64) < j ∧ j < 2 ^ 64)
theorem CMul.ok {i j : Int} (h : CMul i j) : IntMulOk i j := by
  rcases h with ⟨h1, h2⟩ | ⟨h1, h2⟩
  · exact .of_left (intBits_le_64 h1 h2)
  · exact .of_right (intBits_le_64 h1 h2)
theorem op_add : OpR X (binaryOp .Add) (rI0 fun i j => .int (i + j)) := opI0 fun _ _ _ _ _ _ _ q => add_int q
theorem op_sub : OpR X (binaryOp .Sub) (rI0 fun i j => .int (i - j)) := opI0 fun _ _ _ _ _ _ _ q => sub_int q
theorem op_fdiv : OpR X (binaryOp .FloorDiv) (rI CDiv fun i j => .int (i / j)) := opI fun i j _ _ _ _ _ hc q => by
  have h1 : (0 : Int) < j := hc.1
  have h2 : j < 1073741824 := hc.2
  exact floordiv_int (by omega) (by rw [Int.fdiv_eq_ediv_of_nonneg i (by omega)]; exact q) (.inl (PyProof.noPylong_small (by omega)))
theorem op_mod : OpR X (binaryOp .Mod) (rI (fun _ j => 0 < j) fun i j => .int (i % j)) := opI fun i j _ _ _ _ _ hc q => by
  have h1 : (0 : Int) < j := hc
  exact mod_int' (by omega) (by rw [Int.fmod_eq_emod_of_nonneg i (by omega)]; exact q)
theorem op_pow : OpR X (binaryOp .Pow) (rI CPow fun i j => .int (i ^ j.toNat)) := opI fun _ _ _ _ _ _ _ hc q => pow_int_small hc.1 hc.2.1 hc.2.2 q
theorem unI {f : Value → Sem Value} {g : Int → Int}
    (rule : ∀ (i : Int) (t : Tok) (s : Shared) (Q : Value → Shared → Prop) (E : Value → Shared → Prop), Q (.int (g i) s.toks) { s with toks := s.toks + 1 } → wpAny (model X.prog X.w) X.A (f (.int i t)) Q E s) :
    UnR X f (rU fun i => .int (g i)) := by
  intro pins s σ H x v Q I rx h
  obtain ⟨i, rfl, q⟩ := h
  obtain ⟨t, rfl⟩ := rx
  exact rule i t s _ _ ⟨.int (g i), H, I.tok _, ⟨_, rfl⟩, q⟩
theorem un_neg : UnR X (unaryOp .USub) (rU fun i => .int (-i)) := unI fun _ _ _ _ _ q => neg_int q
end

noncomputable def scal : V → V → Bool
  | .non, .non => true | .non, .int _ => true | .int _, .non => true | .non, .bl _ => true | .bl _, .non => true | .non, .str _ => true | .str _, .non => true
  | .int _, .int _ => true | .bl _, .bl _ => true | .str _, .str _ => true | .byt _, .byt _ => true
  | .int _, .str _ => true | .str _, .int _ => true | .bl _, .str _ => true | .str _, .bl _ => true
  | _, _ => false
noncomputable def rEq : R2 := fun x y H Q => scal x y = true ∧ Q (.bl (decide (x = y))) H
noncomputable def rNe : R2 := fun x y H Q => scal x y = true ∧ Q (.bl (!decide (x = y))) H

theorem dec_int {i j : Int} : decide (V.int i = V.int j) = (i == j) := by
  rw [Bool.eq_iff_iff]
  simp
theorem dec_bl {i j : Bool} : decide (V.bl i = V.bl j) = (i == j) := by
  rw [Bool.eq_iff_iff]
  simp
theorem dec_str {i j : Str} : decide (V.str i = V.str j) = (i == j) := by
  rw [Bool.eq_iff_iff]
  simp
theorem dec_byt {i j : Array UInt8} : decide (V.byt i = V.byt j) = (i.toList == j.toList) := by
  rw [Bool.eq_iff_iff]
  cases i
  cases j
  simp

section
variable {X : Cx} {a b c : Expr} {ta tb tc : TE} {pos : Pos}
theorem fin_bl {pins : List (Addr × Obj)} {σ : St} {H : Hp} {s : Shared} {Q : VK} {k k' : Bool} (I : Inv X pins σ H s) (q : Q (.bl k) H) (e : k = k') : EP X pins σ Q (.bool k') s := by
  subst e
  exact ⟨.bl k, H, I, rfl, q⟩
theorem op_eq : OpR X (compareOp .Eq) rEq := by
  intro pins s σ H x y v u Q I rx ry h
  obtain ⟨hs, q⟩ := h
  cases x with
  | non =>
    cases rx
    cases y with
    | non => cases ry; exact PySem.EqNone.eq_none_none (fin_bl I q (by simp))
    | bl j => cases ry; exact PySem.EqNone.eq_none_bool (fin_bl I q (by simp))
    | int j => obtain ⟨t', rfl⟩ := ry; exact PySem.EqNone.eq_none_int (fin_bl I q (by simp))
    | str j => obtain ⟨t', rfl⟩ := ry; exact PySem.EqNone.eq_none_str (fin_bl I q (by simp))
    | _ => exact absurd (show false = true from hs) Bool.false_ne_true
  | bl i =>
    cases rx
    cases y with
    | non => cases ry; exact PySem.EqNone.eq_bool_none (fin_bl I q (by simp))
    | bl j => cases ry; exact eq_bool (fin_bl I q dec_bl)
    | str j => obtain ⟨t', rfl⟩ := ry; exact PySem.EqMixed.eq_bool_str (fin_bl I q (by simp))
    | _ => exact absurd (show false = true from hs) Bool.false_ne_true
  | int i =>
    obtain ⟨t, rfl⟩ := rx
    cases y with
    | non => cases ry; exact PySem.EqNone.eq_int_none (fin_bl I q (by simp))
    | int j => obtain ⟨t', rfl⟩ := ry; exact eq_int (fin_bl I q dec_int)
    | str j => obtain ⟨t', rfl⟩ := ry; exact PySem.EqMixed.eq_int_str (fin_bl I q (by simp))
    | _ => exact absurd (show false = true from hs) Bool.false_ne_true
  | str i =>
    obtain ⟨t, rfl⟩ := rx
    cases y with
    | non => cases ry; exact PySem.EqNone.eq_str_none (fin_bl I q (by simp))
    | bl j => cases ry; exact PySem.EqMixed.eq_str_bool (fin_bl I q (by simp))
    | int j => obtain ⟨t', rfl⟩ := ry; exact PySem.EqMixed.eq_str_int (fin_bl I q (by simp))
    | str j => obtain ⟨t', rfl⟩ := ry; exact eq_str (fin_bl I q dec_str)
    | _ => exact absurd (show false = true from hs) Bool.false_ne_true
  | byt i =>
    obtain ⟨t, rfl⟩ := rx
    cases y with
    | byt j => obtain ⟨t', rfl⟩ := ry; exact PySem.W.eq_bytes (fin_bl I q dec_byt)
    | _ => exact absurd (show false = true from hs) Bool.false_ne_true
  | _ => cases y <;> exact absurd (show false = true from hs) Bool.false_ne_true
theorem op_ne : OpR X (compareOp .NotEq) rNe := by
  intro pins s σ H x y v u Q I rx ry h
  obtain ⟨hs, q⟩ := h
  cases x with
  | non =>
    cases rx
    cases y with
    | non => cases ry; exact PySem.EqNone.ne_none_none (fin_bl I q (by simp))
    | bl j => cases ry; exact PySem.EqNone.ne_none_bool (fin_bl I q (by simp))
    | int j => obtain ⟨t', rfl⟩ := ry; exact PySem.EqNone.ne_none_int (fin_bl I q (by simp))
    | str j => obtain ⟨t', rfl⟩ := ry; exact PySem.EqNone.ne_none_str (fin_bl I q (by simp))
    | _ => exact absurd (show false = true from hs) Bool.false_ne_true
  | bl i =>
    cases rx
    cases y with
    | non => cases ry; exact PySem.EqNone.ne_bool_none (fin_bl I q (by simp))
    | bl j => cases ry; exact ne_bool (fin_bl I q (congrArg not dec_bl))
    | str j => obtain ⟨t', rfl⟩ := ry; exact PySem.EqMixed.ne_bool_str (fin_bl I q (by simp))
    | _ => exact absurd (show false = true from hs) Bool.false_ne_true
  | int i =>
    obtain ⟨t, rfl⟩ := rx
    cases y with
    | non => cases ry; exact PySem.EqNone.ne_int_none (fin_bl I q (by simp))
    | int j => obtain ⟨t', rfl⟩ := ry; exact ne_int (fin_bl I q (congrArg not dec_int))
    | str j => obtain ⟨t', rfl⟩ := ry; exact PySem.EqMixed.ne_int_str (fin_bl I q (by simp))
    | _ => exact absurd (show false = true from hs) Bool.false_ne_true
  | str i =>
    obtain ⟨t, rfl⟩ := rx
    cases y with
    | non => cases ry; exact PySem.EqNone.ne_str_none (fin_bl I q (by simp))
    | bl j => cases ry; exact PySem.EqMixed.ne_str_bool (fin_bl I q (by simp))
    | int j => obtain ⟨t', rfl⟩ := ry; exact PySem.EqMixed.ne_str_int (fin_bl I q (by simp))
    | str j => obtain ⟨t', rfl⟩ := ry; exact ne_str (fin_bl I q (congrArg not dec_str))
    | _ => exact absurd (show false = true from hs) Bool.false_ne_true
  | byt i =>
    obtain ⟨t, rfl⟩ := rx
    cases y with
    | byt j => obtain ⟨t', rfl⟩ := ry; exact PySem.W.ne_bytes (fin_bl I q (congrArg not dec_byt))
    | _ => exact absurd (show false = true from hs) Bool.false_ne_true
  | _ => cases y <;> exact absurd (show false = true from hs) Bool.false_ne_true

theorem op_lt : OpR X (compareOp .Lt) (rI0 fun i j => .bl (decide (i < j))) := opB0 fun _ _ _ _ _ _ _ q => lt_int q
theorem op_gt : OpR X (compareOp .Gt) (rI0 fun i j => .bl (decide (j < i))) := opB0 fun _ _ _ _ _ _ _ q => gt_int q
theorem op_notN : OpR X (compareOp .IsNot) (fun x y H Q => y = .non ∧ Q (.bl (!decide (x = .non))) H) := by
  intro pins s σ H x y v u Q I rx ry h
  obtain ⟨rfl, q⟩ := h
  cases ry
  refine isnot_none_gen (fin_bl I q ?_)
  cases x <;> first
    | (cases rx; rfl)
    | (obtain ⟨t, rfl⟩ := rx; rfl)

theorem OpR.or {f : Value → Value → Sem Value} {r r' : R2} (h : OpR X f r) (h' : OpR X f r') : OpR X f (fun x y H Q => r x y H Q ∨ r' x y H Q) := by
  intro pins s σ H x y v u Q I rx ry q
  rcases q with q | q
  · exact h pins s σ H x y v u Q I rx ry q
  · exact h' pins s σ H x y v u Q I rx ry q

theorem nomark (b : Expr) {op : CmpOp} (h : op ≠ .In := by decide) (h2 : op ≠ .NotIn := by decide) : behindInMarks op b = false := by
  have e1 : (op == CmpOp.In) = false := by cases op <;> first | rfl | exact absurd rfl h
  have e2 : (op == CmpOp.NotIn) = false := by cases op <;> first | rfl | exact absurd rfl h2
  cases b <;> simp [behindInMarks, e1, e2]
theorem pe_cmpR {op : CmpOp} {r : R2} (ho : OpR X (compareOp op) r) (ha : PE X a ta) (hb : PE X b tb) (hm : behindInMarks op b = false) : PE X (.Compare a [op] [b] pos) (tOp r ta tb) := by
  intro pins s σ H Q I h
  exact wpAny_Compare1 (binT ha hb I h fun v u s2 x y H2 I2 rx ry q => ho pins s2 σ H2 x y v u Q I2 rx ry q) hm
noncomputable def tTest (t : TE) : TT := fun σ H Q => t σ H fun x H' => Ex_1_2 (fun k => x = .bl k) (fun k => Q k H')
theorem pt_cmpR {op : CmpOp} {r : R2} (ho : OpR X (compareOp op) r) (ha : PE X a ta) (hb : PE X b tb) (hm : behindInMarks op b = false) : PT X (.Compare a [op] [b] pos) (tTest (tOp r ta tb)) := by
  intro pins s σ H Q I h
  refine wpAny_isTrue_Compare1 (thn (ha pins s σ H _ I h) fun v s1 ⟨x, H1, I1, r1, q1⟩ => thn (hb pins s1 σ H1 _ I1 q1) fun u s2 ⟨y, H2, I2, r2, q2⟩ =>
    thn (ho pins s2 σ H2 x y v u _ I2 r1 r2 q2) fun c s3 ⟨z, H3, I3, r3, k, e, q3⟩ => ?_) hm
  subst e
  cases r3
  exact wpAny_truthy_bool ⟨H3, I3, q3⟩
theorem line63 : (sizeLine : Nat) < 2 ^ 63 := by rw [sizeLine_eq]; decide
theorem op_add_str : OpR X (binaryOp .Add) (fun x y H Q => Ex_2_4 (fun i j => x = .str i) (fun i j => y = .str j) (fun i j => i.length + j.length ≤ sizeLine) (fun i j => Q (.str (i ++ j)) H)) := by
  intro pins s σ H x y v u Q I rx ry h
  obtain ⟨i, j, rfl, rfl, hz, q⟩ := h
  obtain ⟨t, rfl⟩ := rx
  obtain ⟨t', rfl⟩ := ry
  exact add_str (fun t' tk => ⟨.str (i ++ j), H, I.tok _, ⟨_, rfl⟩, q⟩) hz
theorem vals1 {x : V} {us : List Value} (r : Vals [x] us) : ∃ u, us = [u] ∧ RelV x u := by
  cases r with
  | cons r1 r2 => cases r2; exact ⟨_, rfl, r1⟩
theorem vals2 {x y : V} {us : List Value} (r : Vals [x, y] us) : Ex_2_3 (fun u w' => us = [u, w']) (fun u w' => RelV x u) (fun u w' => RelV y w') := by
  cases r with
  | cons r1 r2 =>
    cases r2 with
    | cons r3 r4 => cases r4; exact ⟨_, _, rfl, r1, r3⟩
theorem call_int1 : CallR X (.type "int") (fun xs H Q => (∃ i, xs = [.int i] ∧ Q (.int i) H) ∨ ∃ k, xs = [.bl k] ∧ Q (.int (if k then 1 else 0)) H) := by
  intro pins s σ H xs us Q I r h
  rcases h with ⟨i, rfl, q⟩ | ⟨k, rfl, q⟩
  · obtain ⟨u, rfl, t, rfl⟩ := vals1 r
    exact call_int_int ⟨.int i, H, I, ⟨_, rfl⟩, q⟩
  · obtain ⟨u, rfl, r1⟩ := vals1 r
    cases r1
    exact call_int_bool ⟨.int (if k then 1 else 0), H, I.tok _, ⟨_, rfl⟩, q⟩
end
end L2

namespace L2
open PySem PySem.Spec PyProof.Rows

structure ObjM (h : Heap) (x dx C : Addr) (mA : Str → Option Value) : Prop where
  obj : h.get? x = some (PySem.W.instObj C dx)
  ns : h.Ns1 dx mA
  ne : dx ≠ x

section
variable {prog : Program} {w : World} {A : Around} {E : Value → Shared → Prop} {s : Shared} {K : PySem.W.Frag} {x dx C f : Addr} {mA : Str → Option Value} {name : Str} {v : Value}

end

theorem RelO.some_of {v : V} {o : Option Value} (r : RelO (some v) o) : ∃ u, o = some u ∧ RelV v u := by
  cases o with
  | none => exact (show False from r).elim
  | some u => exact ⟨u, rfl, r⟩
section
variable {P : Program} {w : World} {H H' : Hp} {h h' : Heap} {a C dx : Addr} {fs fs' : List (Str × V)}
end

structure Cls (K : PySem.W.Frag) (C : Addr) : Prop where
  pg : PySem.W.plainGet K C Str.empty = true
  hd : PySem.W.hasDictIn K C = true
  po : PySem.W.plainOver K C = true
  sa : PySem.W.findIn K (.ref C) "__setattr__" = some (some (.builtin "object.__setattr__"))
theorem Cls.get {K : PySem.W.Frag} {C : Addr} (c : Cls K C) (f : Str) : PySem.W.plainGet K C f = true := c.pg
structure Con (K : PySem.W.Frag) (C : Addr) (f : Str) (v : V) (u : Value) : Prop where
  at_ : PySem.W.findIn K (.ref C) f = some (some u)
  rel : RelV v u
  get : PySem.W.specialIn K u "__get__" = some none
  cp : PySem.W.copiedNames.contains f = false
structure Meth (K : PySem.W.Frag) (C : Addr) (m : Str) (f : Addr) : Prop where
  at_ : PySem.W.findIn K (.ref C) m = some (some (.ref f))
  fn : PySem.W.isFn K (.ref f) = true
  kp : PySem.W.keepIn K (.ref f) = true

section
variable {X : Cx} {pins : List (Addr × Obj)} {σ : St} {H : Hp} {s : Shared} {a C dx : Addr} {fs : List (Str × V)} {f : Str} {v : V} {A : Around} {E : Value → Shared → Prop}

theorem Inv.made (I : Inv X pins σ H s) : Inv X pins σ (upd (upd H s.heap.objs.size (.own (s.heap.objs.size + 1))) (s.heap.objs.size + 1) (.ins C s.heap.objs.size []))
    { s with heap := (s.heap.push PySem.W.emptyDict).push (PySem.W.instObj C s.heap.objs.size) } := by
  have e1 : (s.heap.push PySem.W.emptyDict).get? s.heap.objs.size = some PySem.W.emptyDict := Heap.get?_push_size s.heap rfl
  have e2 : ((s.heap.push PySem.W.emptyDict).push (PySem.W.instObj C s.heap.objs.size)).get? (s.heap.objs.size + 1) = some (PySem.W.instObj C s.heap.objs.size) := by
    have := Heap.get?_push_size (s.heap.push PySem.W.emptyDict) (o := PySem.W.instObj C s.heap.objs.size) rfl
    rwa [Heap.size_push] at this
  have e3 : (s.heap.push PySem.W.emptyDict).Ns s.heap.objs.size (fun _ => none) := ⟨PySem.W.emptyDict, #[], _, e1, rfl, (fun e he => absurd he (by simp)), fun _ => rfl⟩
  have I1 := I.laid (a := s.heap.objs.size) (o := .own (s.heap.objs.size + 1)) (h' := s.heap.push PySem.W.emptyDict) (t' := s.toks) (fun b u q => Heap.get?_push_of_some _ q) (Nat.le_refl _) ⟨_, e1⟩
  refine I1.laid (a := s.heap.objs.size + 1) (o := .ins C s.heap.objs.size []) (t' := s.toks) (fun b u q => Heap.get?_push_of_some _ q) (Nat.le_of_eq (Heap.size_push _ _)) ?_
  have ne : s.heap.objs.size ≠ s.heap.objs.size + 1 := Nat.ne_of_lt (Nat.lt_succ_self _)
  refine ⟨by rw [upd_ne ne, upd_same], Nat.zero_le _, ne, e2, fun _ => none, (Heap.Ns1.of_empty e3).at fun o q => Heap.get?_push_of_some _ q, fun _ => True.intro, fun y hy => absurd rfl hy⟩

end

section
variable {X : Cx} {o e value : Expr} {f : Str} {pos pos' tpos : Pos} {ta tv : TE}
end

section
variable {X : Cx} {pins : List (Addr × Obj)} {σ : St} {H : Hp} {s : Shared} {A : Around} {E : Value → Shared → Prop} {Q : Value → Shared → Prop} {c : Value} {b : Bool}
inductive TyOf (K : PySem.W.Frag) (H : Hp) : V → Value → Prop where
  | non : TyOf K H .non (.type "NoneType")
  | bl (x : Bool) : TyOf K H (.bl x) (.type "bool")
  | int (i : Int) : TyOf K H (.int i) (.type "int")
  | str (x : Str) : TyOf K H (.str x) (.type "str")
  | flt (x : UInt64) : TyOf K H (.flt x) (.type "float")
  | lst {a : Addr} {xs : List V} (e : H a = some (.lst xs)) : TyOf K H (.ref a) (.type "list")
  | frz {a : Addr} {o : Obj} {xs : List V} (e : H a = some (.frz o (.lst xs))) : TyOf K H (.ref a) (.type "list")
  | tup {a : Addr} {xs : List V} (e : H a = some (.tup xs)) : TyOf K H (.ref a) (.type "tuple")
  | dK {a : Addr} {kvs : List (Key × V)} (e : H a = some (.dK kvs)) : TyOf K H (.ref a) (.type "dict")
  | dT {a : Addr} {kvs : List (List Key × V)} (e : H a = some (.dT kvs)) : TyOf K H (.ref a) (.type "dict")
  | ins {a C dx : Addr} {fs : List (Str × V)} (e : H a = some (.ins C dx fs)) (cl : Cls K C) (ha : PySem.W.findIn K (.ref C) "__class__" = some (some (.builtin "object.__class__")))
      (hn : PySem.W.specialIn K (.builtin "object.__class__") "__get__" = some (some (.builtin "getset_descriptor.__get__"))) (htk : PySem.W.takesIn K (.builtin "object.__class__") = some true)
      (hm : PySem.W.mroIn K C (.type "object") = some true) : TyOf K H (.ref a) (.ref C)
end
end L2

namespace L2
open PySem PySem.Spec PyProof.Rows

structure Room (k : Nat) (A : Around) : Prop where
  hd : A.handled = none
  dp : A.depth + 3 * k + 5 < recursionLimit
  un : A.units + 16 * k + 200 < cLine
theorem Room.mono {j k : Nat} {A : Around} (r : Room k A) (h : j ≤ k) : Room j A := ⟨r.hd, by have := r.dp; omega, by have := r.un; omega⟩
theorem Room.deeper {k : Nat} {A : Around} (r : Room (k + 1) A) (env : Env) : Room k (A.deeper env) :=
  ⟨r.hd, by have := r.dp; show A.depth + 1 + 3 * k + 5 < _; omega, by have := r.un; show A.units + 3 + 16 * k + 200 < _; omega⟩
theorem Room.in1 {k : Nat} {A : Around} (r : Room (k + 1) A) : Room k A.in1 :=
  ⟨r.hd, by have := r.dp; show A.depth + 3 * k + 5 < _; omega, by have := r.un; show A.units + 1 + 16 * k + 200 < _; omega⟩
theorem Room.depth {k : Nat} {A : Around} (r : Room k A) : A.depth < recursionLimit := by have := r.dp; omega
theorem Room.units {k : Nat} {A : Around} (r : Room k A) : A.units + 64 < cLine := by have := r.un; omega
noncomputable def tNil : TA := fun _ H Q => Q [] H
noncomputable def tCons (ta : TE) (tr : TA) : TA := fun σ H Q => ta σ H fun x H1 => tr σ H1 fun xs H2 => Q (x :: xs) H2
section
variable {X : Cx} {e : Expr} {es : List Expr} {te : TE} {t : TA} {pos : Pos}
theorem pa_nil : PA X [] tNil := fun _ _ _ _ H Q I h => Calls.spliced_nil ⟨[], H, I, .nil, h⟩
theorem pa_cons (ha : PE X e te) (hr : PA X es t) (hs : starEach (e :: es) X.env = (false, eval e X.env) :: starEach es X.env := by rfl) : PA X (e :: es) (tCons te t) := by
  intro pos pins s σ H Q I h
  rw [hs]
  show wpAny _ _ (spliced ((false, eval e X.env) :: backTo pos (starEach es X.env))) _ _ s
  refine Calls.spliced_cons (thn (ha pins s σ H _ I h) fun u s1 ⟨x, H1, I1, r1, q1⟩ => ?_)
  exact thn (hr pos pins s1 σ H1 _ I1 q1) fun us s2 ⟨xs, H2, I2, r2, q2⟩ => ⟨x :: xs, H2, I2, .cons r1 r2, q2⟩

noncomputable def tTup (t : TA) : TE := fun σ H Q => t σ H fun xs H1 => xs.length ≤ sizeLine ∧ ∀ p, H1 p = none → Q (.ref p) (upd H1 p (.tup xs))
noncomputable def tLst (t : TA) : TE := fun σ H Q => t σ H fun xs H1 => xs.length ≤ sizeLine ∧ ∀ p, H1 p = none → Q (.ref p) (upd H1 p (.lst xs))
theorem pe_tup {x1} (h : PA X es t) : PE X (.Tuple es x1 pos) (tTup t) := by
  intro pins s σ H Q I hq
  refine wpAny_Tuple_spliced (thn (h pos pins s σ H _ I hq) fun us s1 ⟨xs, H1, I1, r, z, q⟩ => ⟨by rw [← r.length]; exact z, ?_⟩)
  have hf : H1 s1.heap.objs.size = none := I1.hok.fresh (Nat.le_refl _)
  refine ⟨.ref s1.heap.objs.size, upd H1 s1.heap.objs.size (.tup xs), I1.laid (t' := s1.toks) (fun b u e => Heap.get?_push_of_some _ e) (Nat.le_refl _) ?_, rfl, q _ hf⟩
  exact ⟨z, us, r, ⟨_, Heap.get?_push_size _ rfl, rfl, _, rfl⟩⟩
theorem pe_lst (h : PA X es t) : PE X (.List es pos) (tLst t) := by
  intro pins s σ H Q I hq
  refine wpAny_List_spliced (thn (h pos pins s σ H _ I hq) fun us s1 ⟨xs, H1, I1, r, z, q⟩ => ⟨by rw [← r.length]; exact z, ?_⟩)
  have hf : H1 s1.heap.objs.size = none := I1.hok.fresh (Nat.le_refl _)
  refine ⟨.ref s1.heap.objs.size, upd H1 s1.heap.objs.size (.lst xs), I1.laid (t' := s1.toks) (fun b u e => Heap.get?_push_of_some _ e) (Nat.le_refl _) ?_, rfl, q _ hf⟩
  exact ⟨z, us, 0, r, Heap.get?_push_size _ rfl⟩
end

noncomputable abbrev Sp := List V → Hp → VK → XK → Prop
noncomputable abbrev CXT := List Env → Hp → Shared → XK → Value → Shared → Prop

structure Env0 (P : Program) (w : World) (K : PySem.W.Frag) (mg : Str → Option Value) (base : Heap) (A : Around) (outer : List Env) (s : Shared) (H : Hp) : Prop where
  frames : A.frames = some outer
  mod : Mod K mg base
  bs : ∀ b o, base.get? b = some o → s.heap.get? b = some o ∧ H b = none
  bsz : base.objs.size ≤ s.heap.objs.size
  funs : s.heap.FunFrames base outer
  frf : ∀ b ∈ frs outer, H b = none
  hok : HOk P w H s.heap
  bare : AllBare s.gens
noncomputable def CE (outer : List Env) (P : Program) (w : World) (H : Hp) (s : Shared) (Q : VK) (u : Value) (s' : Shared) : Prop :=
  Ex_2_6 (fun v H' => s'.os = s.os) (fun v H' => AllBare s'.gens) (fun v H' => Un (frs outer) [] H H' s.heap s'.heap) (fun v H' => HOk P w H' s'.heap) (fun v H' => RelV v u) (fun v H' => Q v H')
noncomputable def CR (CX : CXT) (outer : List Env) (P : Program) (w : World) (H : Hp) (s : Shared) (Q : VK) (E : XK) (r : Result) (s' : Shared) : Prop :=
  match r with
  | .ok (.ret u) => CE outer P w H s Q u s'
  | .ok _ => False
  | .error e => CX outer H s E e s'
structure FnOk (P : Program) (w : World) (K : PySem.W.Frag) (mg : Str → Option Value) (base : Heap) (CX : CXT) (k : Nat) (f : Addr) (fd : FuncData) (ps : List Str) (sp : Sp) : Prop where
  len : ∀ vs H Q E, sp vs H Q E → vs.length = ps.length
  run : ∀ (A : Around) (outer : List Env) (s : Shared) (H : Hp) (args : Args) (us : List Value) (vs : List V) (Q : VK) (E : XK), Room k A → Env0 P w K mg base A outer s H → BindsTo s fd args (ps.zip us) → Vals vs us → sp vs H Q E →
    codeAny (model P w) A (.call (.ref f) args) (CR CX outer P w H s Q E) s
theorem FnOk.mono {P : Program} {w : World} {K : PySem.W.Frag} {mg : Str → Option Value} {base : Heap} {CX : CXT} {j k : Nat} {f : Addr} {fd : FuncData} {ps : List Str} {sp : Sp} (F : FnOk P w K mg base CX j f fd ps sp) (h : j ≤ k) :
    FnOk P w K mg base CX k f fd ps sp := ⟨F.len, fun A outer s H args us vs Q E hr => F.run A outer s H args us vs Q E (hr.mono h)⟩
theorem Env0.in1 {P : Program} {w : World} {K : PySem.W.Frag} {mg : Str → Option Value} {base : Heap} {A : Around} {outer : List Env} {s : Shared} {H : Hp} (e : Env0 P w K mg base A outer s H) :
    Env0 P w K mg base A.in1 outer s H := ⟨e.frames, e.mod, e.bs, e.bsz, e.funs, e.frf, e.hok, e.bare⟩

section
variable {X : Cx} {pins : List (Addr × Obj)} {σ : St} {H : Hp} {s s' : Shared}
theorem Inv.env0 (I : Inv X pins σ H s) : Env0 X.prog X.w X.K X.mg X.base X.A X.stack s H :=
  ⟨I.ok.frames, I.ok.mod, I.bs, Nat.le_trans I.ok.bsz I.sz, I.stack, I.stkFree, I.hok, I.bare⟩
theorem Inv.after {Q : VK} {u : Value} (I : Inv X pins σ H s) (h : CE X.stack X.prog X.w H s Q u s') : EP X pins σ Q u s' := by
  obtain ⟨v, H', os, bare, un, hok, r, q⟩ := h
  obtain ⟨hh, g, d, t, os'⟩ := s'
  obtain rfl : os' = s.os := os
  exact ⟨v, H', I.call (h' := hh) (g' := g) (d' := d) (t' := t) (ch := []) un hok bare (fun b z => absurd z (by simp)), r, q⟩
end

noncomputable def tCall (sp : Sp) (dvs : List V) (E : XK) (t : TA) : TE := fun σ H Q => t σ H fun vs H1 => sp (vs ++ dvs) H1 Q E
noncomputable def Binds (K : PySem.W.Frag) (fd : FuncData) (ps : List Str) (ds : List Value) : Prop :=
  ∀ (s : Shared) (us : List Value), K.In s.heap → (us ++ ds).length = ps.length → BindsTo s fd ⟨us, []⟩ (ps.zip (us ++ ds))
theorem Binds.all {K : PySem.W.Frag} {fd : FuncData} {ps : List Str} (h : ∀ us : List Value, us.length = ps.length → bindArgs fd ⟨us, []⟩ = pure (ps.zip us)) : Binds K fd ps [] := fun s us _ hl => by
  rw [List.append_nil] at hl ⊢
  exact .of_eq (h us hl)

noncomputable def Passes (CX : CXT) (X : Cx) (E : XK) : Prop := ∀ (pins : List (Addr × Obj)) (σ : St) (H : Hp) (s : Shared) (e : Value) (s' : Shared), Inv X pins σ H s → CX X.stack H s E e s' → X.xe e s'

section
variable {X : Cx} {CX : CXT} {k : Nat} {f C : Addr} {fd : FuncData} {ps : List Str} {sp : Sp} {dvs : List V} {ds : List Value} {E : XK} {x m : Str} {p pos apos : Pos} {e o : Expr} {es : List Expr} {ta : TE} {t : TA}

theorem run_fn {pins : List (Addr × Obj)} {σ : St} {H : Hp} {s : Shared} {Q : VK} {us : List Value} {vs : List V} (F : FnOk X.prog X.w X.K X.mg X.base CX k f fd ps sp) (hr : Room k X.A) (hb : Binds X.K fd ps ds) (hd : Vals dvs ds) (hx : Passes CX X E)
    (I : Inv X pins σ H s) (r : Vals vs us) (h : sp (vs ++ dvs) H Q E) : wpAny (model X.prog X.w) X.A (call (.ref f) us) (EP X pins σ Q) X.xe s := by
  have r2 : Vals (vs ++ dvs) (us ++ ds) := r.append hd
  have hl : (us ++ ds).length = ps.length := by rw [← r2.length]; exact F.len _ _ _ _ h
  refine wpAny_call (codeAny_mono (F.run X.A X.stack s H ⟨us, []⟩ (us ++ ds) (vs ++ dvs) Q E hr I.env0 (hb s us I.kIn hl) r2 h) fun r s' hq => ?_)
  cases r with
  | error e => exact hx pins σ H s e s' I hq
  | ok fl =>
    cases fl with
    | ret u => exact I.after hq
    | next => exact False.elim hq
    | brk => exact False.elim hq
    | cont => exact False.elim hq

theorem pe_call (F : FnOk X.prog X.w X.K X.mg X.base CX k f fd ps sp) (hr : Room k X.A) (hg : Gl X x) (hm : X.mg x = some (.ref f)) (hk : PySem.W.keepIn X.K (.ref f) = true) (hb : Binds X.K fd ps ds) (hd : Vals dvs ds) (hx : Passes CX X E)
    (ha : PA X (e :: es) t) (hdb : (x == ("__debug__" : Str)) = false := by decide) (he : starEach (e :: es) X.env = (false, eval e X.env) :: starEach es X.env := by rfl) (hpl : (backTo pos (starEach es X.env)).any (·.1) = false := by rfl) :
    PE X (.Call (.Name x p) (e :: es) [] pos) (tCall sp dvs E t) := by
  intro pins s σ H Q I h
  refine wpAny_Call_Name_kw (ld_glob I hg hm ?_ hdb)
  refine PySem.W.callWith_K (h₀ := X.base) I.ok.mod.kin hk (thn (ha pos pins s σ H _ I h) fun us s1 ⟨vs, H1, I1, r, q⟩ => ⟨I1.kIn, ?_⟩) he hpl
  exact run_fn F hr hb hd hx I1 r q
structure Mk (K : PySem.W.Frag) (C f : Addr) : Prop where
  makes : PySem.W.makesIn K C = true
  init : PySem.W.findIn K (.ref C) "__init__" = some (some (.ref f))
  fn : PySem.W.isFn K (.ref f) = true
  kp : PySem.W.keepIn K (.ref C) = true

end

section
variable {X : Cx} {CX : CXT} {k : Nat} {f C : Addr} {fd : FuncData} {ps ks : List Str} {sp : Sp} {E : XK} {x m : Str} {p pos apos kpos : Pos} {e o : Expr} {es : List Expr} {kws : List Keyword} {te ta : TE} {t tk : TA} {nm : Option Str}
structure KBinds (K : PySem.W.Frag) (fd : FuncData) (ps ks : List Str) (g : List Value → List Value → List Value) (gV : List V → List V → List V) : Prop where
  to : ∀ (s : Shared) (us ws : List Value), K.In s.heap → (g us ws).length = ps.length → BindsTo s fd ⟨us, ks.zip ws⟩ (ps.zip (g us ws))
  rel : ∀ {vs : List V} {us : List Value} {zs : List V} {ws : List Value}, Vals vs us → Vals zs ws → Vals (gV vs zs) (g us ws)
variable {g : List Value → List Value → List Value} {gV : List V → List V → List V}
end

structure FnScope (N P : List Str) (sc : Scope) : Prop where
  kind : sc.kind = .function
  co : sc.isCoroutine = false
  gen : sc.isGenerator = false
  nd : N.Nodup
  pre : N.take P.length = P
  par : ∀ x ∈ P, sc.names.lookup x = some .local ∨ sc.names.lookup x = some .cell
  nofree : ∀ y ∈ sc.names, y.2 ≠ .free

theorem bindL_out {kindOf : Str → Option NameKind} {x : Str} : ∀ {binds : List (Str × Value)} {m : Str → Option Value}, (∀ v, (x, v) ∉ binds) → bindL kindOf binds m x = m x
  | [], _, _ => rfl
  | (n, v) :: r, m, h => by
    unfold bindL
    rw [bindL_out fun w hw => h w (List.mem_cons_of_mem _ hw)]
    split
    · have : x ≠ n := by rintro rfl; exact h v List.mem_cons_self
      simp [this]
    · rfl
theorem bindC_out {kindOf : Str → Option NameKind} {x : Str} : ∀ {binds : List (Str × Value)} {m : Str → Option Value}, (∀ v, (x, v) ∉ binds) → bindC kindOf binds m x = m x
  | [], _, _ => rfl
  | (n, v) :: r, m, h => by
    unfold bindC
    rw [bindC_out fun w hw => h w (List.mem_cons_of_mem _ hw)]
    split
    · rfl
    · have : x ≠ n := by rintro rfl; exact h v List.mem_cons_self
      simp [this]
theorem bindL_get {kindOf : Str → Option NameKind} {x : Str} {v : Value} : ∀ {P : List Str} {vs : List Value} {i : Nat} {m : Str → Option Value}, P.Nodup → P[i]? = some x → vs[i]? = some v → kindOf x = some .local →
    bindL kindOf (P.zip vs) m x = some v
  | [], _, _, _, _, h, _, _ => by simp at h
  | _ :: _, [], _, _, _, _, h, _ => by simp at h
  | p :: P, w :: vs, 0, m, nd, h1, h2, hk => by
    simp at h1 h2; subst h1; subst h2
    show bindL kindOf ((p, w) :: P.zip vs) m p = _
    unfold bindL
    rw [bindL_out fun v hv => (List.nodup_cons.mp nd).1 (List.of_mem_zip hv).1, if_pos hk]
    simp
  | p :: P, w :: vs, i + 1, m, nd, h1, h2, hk => by
    show bindL kindOf ((p, w) :: P.zip vs) m x = _
    unfold bindL
    exact bindL_get (i := i) (List.nodup_cons.mp nd).2 (by simpa using h1) (by simpa using h2) hk
theorem bindC_get {kindOf : Str → Option NameKind} {x : Str} {v : Value} : ∀ {P : List Str} {vs : List Value} {i : Nat} {m : Str → Option Value}, P.Nodup → P[i]? = some x → vs[i]? = some v → kindOf x ≠ some .local →
    bindC kindOf (P.zip vs) m x = some v
  | [], _, _, _, _, h, _, _ => by simp at h
  | _ :: _, [], _, _, _, _, h, _ => by simp at h
  | p :: P, w :: vs, 0, m, nd, h1, h2, hk => by
    simp at h1 h2; subst h1; subst h2
    show bindC kindOf ((p, w) :: P.zip vs) m p = _
    unfold bindC
    rw [bindC_out fun v hv => (List.nodup_cons.mp nd).1 (List.of_mem_zip hv).1, if_neg hk]
    simp
  | p :: P, w :: vs, i + 1, m, nd, h1, h2, hk => by
    show bindC kindOf ((p, w) :: P.zip vs) m x = _
    unfold bindC
    exact bindC_get (i := i) (List.nodup_cons.mp nd).2 (by simpa using h1) (by simpa using h2) hk

noncomputable def start (N : List Str) (vs : List V) : St := vs.map some ++ List.replicate (N.length - vs.length) none

noncomputable def cxOf (CX : CXT) (P : Program) (w : World) (K : PySem.W.Frag) (mg : Str → Option Value) (base : Heap) (N : List Str) (qual : Str) (scope : Scope) (f : Addr) (cd : Value) (A : Around) (outer : List Env) (s : Shared) (H : Hp) (E : XK) : Cx where
  prog := P
  w := w
  K := K
  mg := mg
  base := base
  A := A.deeper (envOfC qual scope s.heap.objs.size f cd)
  N := N
  s₀ := s
  H₀ := H
  env := envOfC qual scope s.heap.objs.size f cd
  outer := outer
  stack := envOfC qual scope s.heap.objs.size f cd :: outer
  ex := []
  calm := true
  fn := fun _ => true
  pn := []
  xe := fun e s' => wpAny (model P w) (A.deeper (envOfC qual scope s.heap.objs.size f cd)) (leaving (envOfC qual scope s.heap.objs.size f cd) e) (fun _ s'' => CX outer H s E e s'') (fun e' s'' => CX outer H s E e' s'') s'

theorem cell_has {sc : Scope} {n : Nat} {x : Str} (h : sc.names.lookup x = some .cell) : ∃ c, (cellsFrom n sc.names []).lookup x = some c := by
  have q := PySem.W.cellsFrom_some sc.names n [] (.inl h)
  exact Option.isSome_iff_exists.mp q

theorem inv_start {CX : CXT} {P : Program} {w : World} {K : PySem.W.Frag} {mg : Str → Option Value} {base : Heap} {N ps : List Str} {qual : Str} {scope : Scope} {f : Addr} {cd : Value} {A : Around} {outer : List Env} {s s1 : Shared} {H : Hp} {E : XK} {us : List Value} {vs : List V}
    (S : FnScope N ps scope) (hd : A.handled = none) (e0 : Env0 P w K mg base A outer s H) (hl : vs.length = ps.length) (r : Vals vs us)
    (x : InCallC s s.heap.objs.size (bindL (envOfC qual scope s.heap.objs.size f cd).kindOf (ps.zip us) fun _ => none) (cellsFrom (s.heap.objs.size + 1) scope.names []) (bindC (envOfC qual scope s.heap.objs.size f cd).kindOf (ps.zip us) fun _ => none) s1) :
    Inv (cxOf CX P w K mg base N qual scope f cd A outer s H E) [] (start N vs) H s1 := by
  have hpl : ps.length ≤ N.length := by have := congrArg List.length S.pre; rw [List.length_take] at this; omega
  obtain ⟨h1, tk, rfl, hk⟩ := x.done
  have noA : ∀ b : Addr, b ∉ (cxOf CX P w K mg base N qual scope f cd A outer s H E).ex := fun b z => absurd (show b ∈ ([] : List Addr) from z) (by simp)
  refine ⟨⟨e0.mod, S.kind, rfl, rfl, Nat.le_refl _, fun y z c h1 h2 => ?_, fun y hy => ?_, fun y c _ h => ?_, fun _ => hd, Around.frames_deeper e0.frames, .inr ⟨rfl, rfl⟩, fun b z => absurd z (noA b), e0.bs, e0.bsz, fun b _ _ => noA b, fun b z => absurd z (noA b), e0.funs, e0.frf⟩,
    rfl, e0.bare, Un.kept hk, ⟨_, x.toInCall.ns, fun i y v h1 h2 h3 => ?_⟩, fun y c h => ⟨_, x.cell y c h⟩, e0.hok.fresh (Nat.le_refl _), fun y c h => ?_, fun p hp => absurd (show p ∈ ([] : List (Addr × Obj)) from hp) (by simp), e0.hok.kept hk, ?_⟩
  · exact name_of_addr x.apart (PySem.mem_of_lookup h1) (PySem.mem_of_lookup h2)
  · have hy : scope.names.lookup y = some .cell ∨ scope.names.lookup y = some .free := hy
    rcases hy with hy | hy
    · exact cell_has hy
    · exact absurd rfl (S.nofree _ (PySem.mem_of_lookup hy))
  · exact Nat.le_of_lt (x.above y c (PySem.mem_of_lookup h))
  · have hi : i < vs.length := by
      unfold start at h2
      by_cases hi : i < vs.length
      · exact hi
      · rw [List.getElem?_append_right (by simpa using hi)] at h2
        rw [List.getElem?_replicate] at h2
        split at h2 <;> cases h2
    have ha : vs[i]? = some v := by
      unfold start at h2
      rw [List.getElem?_append_left (by simpa using hi), List.getElem?_map] at h2
      cases e : vs[i]? with
      | none => rw [e] at h2; cases h2
      | some a => rw [e] at h2; cases h2; rfl
    obtain ⟨u, hu, rv⟩ := r.get ha
    have hp : ps[i]? = some y := by
      rw [← S.pre, List.getElem?_take_of_lt (by omega)]; exact h1
    have ndP : ps.Nodup := by rw [← S.pre]; exact S.nd.sublist (List.take_sublist _ _)
    refine ⟨u, rv, ?_⟩
    rcases S.par y (List.mem_of_getElem? hp) with k | k
    · exact .inl ⟨k, bindL_get ndP hp hu k⟩
    · obtain ⟨c, e⟩ := cell_has (n := s.heap.objs.size + 1) k
      refine .inr ⟨.inl k, c, e, ?_⟩
      have q := x.cell y c e
      rw [bindC_get ndP hp hu (by show scope.names.lookup y ≠ _; rw [k]; decide)] at q
      exact q
  · exact e0.hok.fresh (Nat.le_of_lt (x.above y c (PySem.mem_of_lookup h)))
  · unfold start
    show _ = N.length
    rw [List.length_append, List.length_map, List.length_replicate]
    omega

theorem fn_of {CX : CXT} {P : Program} {w : World} {K : PySem.W.Frag} {mg : Str → Option Value} {base : Heap} {k : Nat} {f : Addr} {name qual : Str} {params : Arguments} {body : List Stmt} {scope : Scope} {dV kV doc pm cdv ct oc : Value} {an od : Option Addr}
    {osl : Array (Option Value)} {N ps : List Str} {sp : Sp} (lk : K.lookup f = some ⟨oc, od, .func (PySem.W.fnOf name qual params body scope dV kV doc pm an cdv ct), osl⟩) (hcd : PySem.W.codeIn K cdv qual = true) (S : FnScope N ps scope)
    (len : ∀ vs H Q E, sp vs H Q E → vs.length = ps.length)
    (hbody : ∀ (A : Around) (outer : List Env) (s : Shared) (H : Hp) (vs : List V) (Q : VK) (E : XK), Room k (A.deeper (envOfC qual scope s.heap.objs.size f cdv)) → sp vs H Q E →
      ∃ t, PSs (cxOf CX P w K mg base N qual scope f cdv A outer s H E) body t ∧ t { nx := fun _ H' => Q .non H', rt := Q } (start N vs) H) :
    FnOk P w K mg base CX (k + 1) f (PySem.W.fnOf name qual params body scope dV kV doc pm an cdv ct) ps sp := by
  refine ⟨len, fun A outer s H args us vs Q E hr e0 hb r hsp => ?_⟩
  have hl := len _ _ _ _ hsp
  have KX : K.In s.heap := e0.mod.kin.keeps fun b o e => (e0.bs b o e).1
  have lim : s.heap.NoLimit := e0.mod.nolimit.keeps fun b o e => (e0.bs b o e).1
  have hkind : ∀ y ∈ ps.zip us, scope.names.lookup y.1 = some .local ∨ (scope.names.lookup y.1 = some .cell ∧ ((cellsFrom (s.heap.objs.size + 1) scope.names []).lookup y.1).isSome = true) := fun ⟨n, v⟩ hy => by
    rcases S.par n (List.of_mem_zip hy).1 with q | q
    · exact .inl q
    · exact .inr ⟨q, PySem.W.cellsFrom_some _ _ _ (.inl q)⟩
  refine codeAny_call_function hr.depth (KX _ _ lk) rfl S.co S.gen rfl (PySem.W.codeRec_of KX hcd) (hb _ _ _ _ ?_)
  refine wpAny_newFunctionEnv_cells S.kind hkind fun env he s1 x => ?_
  subst he
  refine ⟨lim.keeps x.toInCall.keep, codeAny_func ?_⟩
  obtain ⟨t, ht, hq⟩ := hbody A outer s H vs Q E (hr.deeper _) hsp
  have I : Inv (cxOf CX P w K mg base N qual scope f cdv A outer s H E) [] (start N vs) H s1 := inv_start S hr.hd e0 hl r x
  refine wpAny_mono (ht [] s1 (start N vs) H _ I hq) (fun fl s' hs => ?_) fun e s' hs => hs
  have fin : ∀ {σ' : St} {H' : Hp} {v : V} {u : Value}, Inv (cxOf CX P w K mg base N qual scope f cdv A outer s H E) [] σ' H' s' → RelV v u → Q v H' → CE outer P w H s Q u s' :=
    fun {σ' H' v u} J rv q => ⟨v, H', J.os, J.bare, J.base, J.hok, rv, q⟩
  cases fl with
  | ret u =>
    obtain ⟨v, σ', H', J, rv, q⟩ := hs
    exact fin J rv q
  | next =>
    obtain ⟨σ', H', J, q⟩ := hs
    exact fin (v := V.non) (u := Value.none) J rfl q
  | brk =>
    obtain ⟨_, _, _, q⟩ := hs
    exact False.elim q
  | cont =>
    obtain ⟨_, _, _, q⟩ := hs
    exact False.elim q
end L2

namespace L2
open PySem PySem.Spec PyProof.Rows
section
variable {X : Cx} {x : Str} {p pos : Pos} {e : Expr} {es : List Expr} {t : TA} {id T : String} {r : List V → Hp → VK → Prop}

noncomputable def tCB (r : List V → Hp → VK → Prop) (t : TA) : TE := fun σ H Q => t σ H fun vs H1 => r vs H1 Q
theorem pe_callB (hc : CallR X (.builtin id) r) (hg : Gl X x) (hm : X.mg x = none) (hv : bootBuiltins x = some (.builtin id)) (ha : PA X (e :: es) t) (hn : x ≠ "__name__" := by decide) (hdb : (x == ("__debug__" : Str)) = false := by decide)
    (he : starEach (e :: es) X.env = (false, eval e X.env) :: starEach es X.env := by rfl) (hpl : (backTo pos (starEach es X.env)).any (·.1) = false := by rfl) : PE X (.Call (.Name x p) (e :: es) [] pos) (tCB r t) := by
  intro pins s σ H Q I h
  refine wpAny_Call_Name_kw (ld_blt I hg hm hv ?_ hn hdb)
  exact PyProof.Rows.callWith_builtin1 (thn (ha pos pins s σ H _ I h) fun us s1 ⟨vs, H1, I1, r1, q1⟩ => hc pins s1 σ H1 vs us Q I1 r1 q1) he hpl
theorem pe_callTy (hc : CallR X (.type T) r) (hg : Gl X x) (hm : X.mg x = none) (hv : bootBuiltins x = some (.type T)) (ha : PA X (e :: es) t) (hn : x ≠ "__name__" := by decide) (hdb : (x == ("__debug__" : Str)) = false := by decide)
    (he : starEach (e :: es) X.env = (false, eval e X.env) :: starEach es X.env := by rfl) (hpl : (backTo pos (starEach es X.env)).any (·.1) = false := by rfl) : PE X (.Call (.Name x p) (e :: es) [] pos) (tCB r t) := by
  intro pins s σ H Q I h
  refine wpAny_Call_Name_kw (ld_blt I hg hm hv ?_ hn hdb)
  exact PyProof.Rows.callWith_type1 (thn (ha pos pins s σ H _ I h) fun us s1 ⟨vs, H1, I1, r1, q1⟩ => hc pins s1 σ H1 vs us Q I1 r1 q1) he hpl
end
end L2

namespace L2
open PySem PySem.Spec PyProof.Rows

section
variable {κ : Type} [DecidableEq κ]
noncomputable def valV (kvs : List (κ × V)) (k : κ) : Option V := (kvs.find? fun kv => decide (kv.1 = k)).map (·.2)
noncomputable def putK (kvs : List (κ × V)) (k : κ) (v : V) : List (κ × V) :=
  if (kvs.any fun kv => decide (kv.1 = k)) = true then kvs.map (fun kv => if kv.1 = k then (kv.1, v) else kv) else kvs ++ [(k, v)]
noncomputable def dropK (kvs : List (κ × V)) (k : κ) : List (κ × V) := kvs.filter fun kv => decide (kv.1 ≠ k)

theorem valV_pos {p : κ × V} {r : List (κ × V)} {k : κ} (e : p.1 = k) : valV (p :: r) k = some p.2 := by simp [valV, List.find?_cons, e]
theorem valV_neg {p : κ × V} {r : List (κ × V)} {k : κ} (e : ¬ p.1 = k) : valV (p :: r) k = valV r k := by simp [valV, List.find?_cons, e]
theorem valV_any (k : κ) : ∀ kvs : List (κ × V), (kvs.any fun kv => decide (kv.1 = k)) = (valV kvs k).isSome
  | [] => rfl
  | p :: r => by
    rw [List.any_cons]
    by_cases e : p.1 = k
    · simp only [valV_pos e, decide_eq_true e, Bool.true_or, Option.isSome_some]
    · rw [valV_neg e, decide_eq_false e, Bool.false_or]; exact valV_any k r
theorem length_putK (kvs : List (κ × V)) (k : κ) (v : V) : (putK kvs k v).length ≤ kvs.length + 1 := by
  unfold putK
  split
  · rw [List.length_map]; omega
  · rw [List.length_append, List.length_cons, List.length_nil]; omega
theorem putK_new {kvs : List (κ × V)} {k : κ} (v : V) (h : valV kvs k = none) : putK kvs k v = kvs ++ [(k, v)] := by
  unfold putK
  rw [valV_any, h]
  exact if_neg (by decide)

theorem RelO.isSome_eq {o : Option V} {u : Option Value} (r : RelO o u) : o.isSome = u.isSome := by
  cases o with
  | none => cases u with
    | none => rfl
    | some _ => exact (show False from r).elim
  | some _ => cases u with
    | none => exact (show False from r).elim
    | some _ => rfl
theorem RelO.getD {o : Option V} {u : Option Value} {d : V} {d' : Value} (r : RelO o u) (rd : RelV d d') : RelV (o.getD d) (u.getD d') := by
  cases o with
  | none => cases u with
    | none => exact rd
    | some _ => exact (show False from r).elim
  | some _ => cases u with
    | none => exact (show False from r).elim
    | some _ => exact r

theorem KV.val {kvs : List (κ × V)} {vs : List (κ × Value)} (r : KV kvs vs) (k : κ) : RelO (valV kvs k) (valueAt vs k) := by
  unfold KV at r
  induction r with
  | nil => exact True.intro
  | @cons p q ps qs h t ih =>
    obtain ⟨h1, h2⟩ := h
    by_cases e : p.1 = k
    · have e' : q.1 = k := h1.symm.trans e
      have b : valueAt (q :: qs) k = some q.2 := by simp [valueAt, List.find?_cons, e']
      rw [valV_pos e, b]; exact h2
    · have e' : ¬ q.1 = k := fun z => e (h1.trans z)
      have b : valueAt (q :: qs) k = valueAt qs k := by simp [valueAt, List.find?_cons, e']
      rw [valV_neg e, b]; exact ih
theorem KV.any {kvs : List (κ × V)} {vs : List (κ × Value)} (r : KV kvs vs) (k : κ) : (kvs.any fun kv => decide (kv.1 = k)) = vs.any fun kv => decide (kv.1 = k) := by
  unfold KV at r
  induction r with
  | nil => rfl
  | cons h t ih => rw [List.any_cons, List.any_cons, ih, h.1]
theorem KV.repl {kvs : List (κ × V)} {vs : List (κ × Value)} (r : KV kvs vs) (k : κ) {y : V} {u : Value} (ry : RelV y u) :
    KV (kvs.map fun kv => if kv.1 = k then (kv.1, y) else kv) (vs.map fun kv => if kv.1 = k then (kv.1, u) else kv) := by
  unfold KV at r ⊢
  induction r with
  | nil => exact .nil
  | @cons p q ps qs h t ih =>
    rw [List.map_cons, List.map_cons]
    refine .cons ?_ ih
    obtain ⟨h1, h2⟩ := h
    by_cases e : p.1 = k
    · rw [if_pos e, if_pos (h1.symm.trans e)]; exact ⟨h1, ry⟩
    · rw [if_neg e, if_neg (fun z => e (h1.trans z))]; exact ⟨h1, h2⟩
theorem KV.put {kvs : List (κ × V)} {vs : List (κ × Value)} (r : KV kvs vs) (k : κ) {y : V} {u : Value} (ry : RelV y u) : KV (putK kvs k y) (stored vs k u) := by
  unfold putK stored
  rw [r.any k]
  by_cases e : (vs.any fun kv => decide (kv.1 = k)) = true
  · rw [if_pos e, if_pos e]; exact r.repl k ry
  · rw [if_neg e, if_neg e]; exact Paired.snoc r ⟨rfl, ry⟩
theorem KV.drop {kvs : List (κ × V)} {vs : List (κ × Value)} (r : KV kvs vs) (k : κ) : KV (dropK kvs k) (without vs k) := by
  unfold KV at r ⊢
  unfold dropK without
  induction r with
  | nil => exact .nil
  | @cons p q ps qs h t ih =>
    obtain ⟨h1, h2⟩ := h
    rw [List.filter_cons, List.filter_cons]
    by_cases e : p.1 = k
    · have a : ¬ decide (p.1 ≠ k) = true := by simp [e]
      have b : ¬ decide (q.1 ≠ k) = true := by simp [h1.symm.trans e]
      rw [if_neg a, if_neg b]; exact ih
    · have e' : ¬ q.1 = k := fun z => e (h1.trans z)
      have a : decide (p.1 ≠ k) = true := by simp [e]
      have b : decide (q.1 ≠ k) = true := by simp [e']
      rw [if_pos a, if_pos b]; exact .cons ⟨h1, h2⟩ ih
theorem KV.keys {kvs : List (κ × V)} {vs : List (κ × Value)} (r : KV kvs vs) : kvs.map (·.1) = vs.map (·.1) := by
  unfold KV at r
  induction r with
  | nil => rfl
  | cons h t ih => rw [List.map_cons, List.map_cons, ih, h.1]
theorem KV.length {kvs : List (κ × V)} {vs : List (κ × Value)} (r : KV kvs vs) : kvs.length = vs.length := Paired.length r
end


theorem kV_is {P : Program} {w : World} {k : Key} {u : Value} (r : RelV (kV k) u) : (mixKind P w).is k u = true := by
  cases k with
  | inl i => obtain ⟨t, e⟩ := (show ∃ t, u = Value.int i t from r); subst e; exact mixKind_int P w i t
  | inr x => obtain ⟨t, e⟩ := (show ∃ t, u = Value.str x t from r); subst e; exact mixKind_str P w x t
theorem kV_inj {a b : Key} (e : kV a = kV b) : a = b := by
  cases a with
  | inl i => cases b with
    | inl j => have e' : V.int i = V.int j := e; injection e' with e'; rw [e']
    | inr y => exact nomatch (show V.int i = V.str y from e)
  | inr x => cases b with
    | inl j => exact nomatch (show V.str x = V.int j from e)
    | inr y => have e' : V.str x = V.str y := e; injection e' with e'; rw [e']
theorem kVs_inj : ∀ {a b : List Key}, a.map kV = b.map kV → a = b
  | [], [], _ => rfl
  | [], _ :: _, e => by simp at e
  | _ :: _, [], e => by simp at e
  | x :: xs, y :: ys, e => by
    rw [List.map_cons, List.map_cons] at e
    injection e with e1 e2
    rw [kV_inj e1, kVs_inj e2]
theorem items_are {P : Program} {w : World} : ∀ {ks : List Key} {us : List Value}, Vals (ks.map kV) us → ItemsAre (mixKind P w) ks us
  | [], _, r => by rw [List.map_nil] at r; cases r; exact .nil
  | k :: ks, _, r => by
    rw [List.map_cons] at r
    cases r with
    | cons h t => exact .cons (kV_is h) (items_are t)

noncomputable abbrev KT (H : Hp) : List (List Key × V) → List (List Key × Addr × Value) → Prop := Paired fun p q => p.1 = q.1 ∧ H q.2.1 = some (.tup (p.1.map kV)) ∧ RelV p.2 q.2.2
theorem KT.val {H : Hp} {kvs : List (List Key × V)} {xs : List (List Key × Addr × Value)} (r : KT H kvs xs) (k : List Key) : RelO (valV kvs k) ((atKey xs k).map (·.2)) := by
  induction r with
  | nil => exact True.intro
  | @cons p q ps qs h t ih =>
    obtain ⟨h1, _, h2⟩ := h
    by_cases e : p.1 = k
    · have e' : q.1 = k := h1.symm.trans e
      have b : atKey (q :: qs) k = some q.2 := by simp [atKey, List.find?_cons, e']
      rw [valV_pos e, b]; exact h2
    · have e' : ¬ q.1 = k := fun z => e (h1.trans z)
      have b : atKey (q :: qs) k = atKey qs k := by simp [atKey, List.find?_cons, e']
      rw [valV_neg e, b]; exact ih
theorem KT.repl {H : Hp} {kvs : List (List Key × V)} {xs : List (List Key × Addr × Value)} (r : KT H kvs xs) (k : List Key) {y : V} {u : Value} (ry : RelV y u) :
    KT H (kvs.map fun kv => if kv.1 = k then (kv.1, y) else kv) (xs.map (putAt k u)) := by
  induction r with
  | nil => exact .nil
  | @cons p q ps qs h t ih =>
    rw [List.map_cons, List.map_cons]
    refine .cons ?_ ih
    obtain ⟨h1, h2, h3⟩ := h
    unfold putAt
    by_cases e : p.1 = k
    · rw [if_pos e, if_pos (h1.symm.trans e)]; exact ⟨h1, h2, ry⟩
    · rw [if_neg e, if_neg (fun z => e (h1.trans z))]; exact ⟨h1, h2, h3⟩
theorem KT.put {H : Hp} {kvs : List (List Key × V)} {xs : List (List Key × Addr × Value)} (r : KT H kvs xs) (k : List Key) {b : Addr} {y : V} {u : Value} (hb : H b = some (.tup (k.map kV))) (ry : RelV y u) :
    KT H (putK kvs k y) (storedH xs k b u) := by
  have e : (kvs.any fun kv => decide (kv.1 = k)) = (atKey xs k).isSome := by
    rw [valV_any, (r.val k).isSome_eq, Option.isSome_map]
  unfold putK storedH
  rw [e]
  by_cases q : (atKey xs k).isSome = true
  · rw [if_pos q, if_pos q]; exact r.repl k ry
  · rw [if_neg q, if_neg q]; exact Paired.snoc r ⟨rfl, hb, ry⟩
theorem KT.keeps {H H' : Hp} {kvs : List (List Key × V)} {xs : List (List Key × Addr × Value)} (r : KT H kvs xs) (ht : ∀ b ys, H b = some (.tup ys) → H' b = some (.tup ys)) : KT H' kvs xs :=
  Paired.mapP r fun _ _ z => ⟨z.1, ht _ _ z.2.1, z.2.2⟩

section
variable {P : Program} {w : World} {H : Hp} {h : Heap} {a : Addr}
theorem rd_of {u : HO} (ok : HOk P w H h) (e : Rd H a u) : ObjOk P w H h a u := e.ok ok
theorem dk_rd {kvs : List (Key × V)} (ok : HOk P w H h) (e : Rd H a (.dK kvs)) : kvs.length ≤ sizeLine ∧ (a == sysModules) = false ∧ ∃ vs, KV kvs vs ∧ h.DictOf (mixKind P w) a vs :=
  show ObjOk P w H h a (.dK kvs) from rd_of ok e
theorem dk_of {kvs : List (Key × V)} (ok : HOk P w H h) (e : H a = some (.dK kvs)) : kvs.length ≤ sizeLine ∧ (a == sysModules) = false ∧ ∃ vs, KV kvs vs ∧ h.DictOf (mixKind P w) a vs := dk_rd ok (.inl e)
theorem key_of {ks : List Key} (ok : HOk P w H h) (e : H a = some (.tup (ks.map kV))) : (tupleKind (mixKind P w)).is h ks a := by
  obtain ⟨_, its, r, o, h1, h2, n, h3⟩ := (show ObjOk P w H h a (.tup (ks.map kV)) from ok a _ e)
  exact ⟨o, its.toArray, n, h1, h2, h3, by simpa using items_are r⟩
theorem dt_rd {kvs : List (List Key × V)} (ok : HOk P w H h) (e : Rd H a (.dT kvs)) : kvs.length ≤ sizeLine ∧ (a == sysModules) = false ∧
    ∃ xs, KT H kvs xs ∧ h.DictOfH (tupleKind (mixKind P w)) a xs := by
  obtain ⟨z, y, xs, r, o, es, ep, h1, h2, h3, h4, h5⟩ := (show ObjOk P w H h a (.dT kvs) from rd_of ok e)
  refine ⟨z, y, xs, r, o, es, ep, h1, h2, h3, h4, fun x hx => ?_, h5⟩
  have all : ∀ {l : List (List Key × V)} {m : List (List Key × Addr × Value)}, KT H l m → ∀ x ∈ m, (tupleKind (mixKind P w)).is h x.1 x.2.1 := by
    intro l m q
    induction q with
    | nil => intro x hx; exact nomatch hx
    | @cons p q ps qs hq t ih =>
      intro x hx
      rcases List.mem_cons.mp hx with e | hx
      · subst e
        exact key_of ok (by rw [← hq.1]; exact hq.2.1)
      · exact ih x hx
  exact all r x hx
theorem dt_of {kvs : List (List Key × V)} (ok : HOk P w H h) (e : H a = some (.dT kvs)) : kvs.length ≤ sizeLine ∧ (a == sysModules) = false ∧
    ∃ xs, KT H kvs xs ∧ h.DictOfH (tupleKind (mixKind P w)) a xs := dt_rd ok (.inl e)
end

noncomputable def DGet (H : Hp) (a : Addr) (y : V) (r : Option V) : Prop :=
  (Ex_2_3 (fun kvs k => Rd H a (.dK kvs)) (fun kvs k => y = kV k) (fun kvs k => r = valV kvs k)) ∨ Ex_3_4 (fun kvs k b => Rd H a (.dT kvs)) (fun kvs k b => y = .ref b) (fun kvs k b => H b = some (.tup (k.map kV))) (fun kvs k b => r = valV kvs k)
noncomputable def DPut (H : Hp) (a : Addr) (y v : V) (H' : Hp) : Prop :=
  (Ex_2_4 (fun kvs k => H a = some (.dK kvs)) (fun kvs k => y = kV k) (fun kvs k => kvs.length < sizeLine) (fun kvs k => H' = upd H a (.dK (putK kvs k v)))) ∨
  Ex_3_5 (fun kvs k b => H a = some (.dT kvs)) (fun kvs k b => y = .ref b) (fun kvs k b => H b = some (.tup (k.map kV))) (fun kvs k b => kvs.length < sizeLine) (fun kvs k b => H' = upd H a (.dT (putK kvs k v)))
theorem DGet.k {H : Hp} {a : Addr} {kvs : List (Key × V)} {k : Key} (e : H a = some (.dK kvs)) : DGet H a (kV k) (valV kvs k) := .inl ⟨kvs, k, .inl e, rfl, rfl⟩
theorem DGet.t {H : Hp} {a b : Addr} {kvs : List (List Key × V)} {k : List Key} (e : H a = some (.dT kvs)) (eb : H b = some (.tup (k.map kV))) : DGet H a (.ref b) (valV kvs k) := .inr ⟨kvs, k, b, .inl e, rfl, eb, rfl⟩
theorem DPut.k {H : Hp} {a : Addr} {kvs : List (Key × V)} {k : Key} {v : V} (e : H a = some (.dK kvs)) (hl : kvs.length < sizeLine) : DPut H a (kV k) v (upd H a (.dK (putK kvs k v))) := .inl ⟨kvs, k, e, rfl, hl, rfl⟩
theorem DPut.t {H : Hp} {a b : Addr} {kvs : List (List Key × V)} {k : List Key} {v : V} (e : H a = some (.dT kvs)) (eb : H b = some (.tup (k.map kV))) (hl : kvs.length < sizeLine) :
    DPut H a (.ref b) v (upd H a (.dT (putK kvs k v))) := .inr ⟨kvs, k, b, e, rfl, eb, hl, rfl⟩


section
variable {X : Cx} {pins : List (Addr × Obj)} {σ : St} {H : Hp} {s : Shared} {a : Addr} {y v : V} {u r : Value} {o : Option V} {A : Around} {E : Value → Shared → Prop}

theorem Inv.big (I : Inv X pins σ H s) : sysModules < s.heap.objs.size := by
  have h : mainGlobals < s.heap.objs.size := (I.mod.glob.keeps I.bk).lt
  exact Nat.lt_trans (by decide) h

theorem d_getItem {Q : Value → Shared → Prop} (hu : A.units + 1 < cLine) (I : Inv X pins σ H s) (g : DGet H a y (some v)) (ry : RelV y u) (h : ∀ w' s', Inv X pins σ H s' → RelV v w' → Q w' s') :
    wpAny (model X.prog X.w) A (getItem (.ref a) u) Q E s := by
  rcases g with ⟨kvs, k, e, ey, l⟩ | ⟨kvs, k, b, e, ey, eb, l⟩
  · subst ey
    obtain ⟨z, hd, vs, rel, dd⟩ := dk_rd I.hok e
    obtain ⟨w', hw, rw'⟩ := RelO.some_of (v := v) (o := valueAt vs k) (by rw [l]; exact rel.val k)
    exact wpAny_getItem_of (kV_is ry) dd.mapOf hw (h w' _ (I.tok _) rw')
  · subst ey
    cases (show u = Value.ref b from ry)
    obtain ⟨z, hd, xs, rel, dd⟩ := dt_rd I.hok e
    obtain ⟨w', hw, rw'⟩ := RelO.some_of (v := v) (o := (atKey xs k).map (·.2)) (by rw [l]; exact rel.val k)
    obtain ⟨p, hp, hp2⟩ := Option.map_eq_some_iff.mp hw
    refine wpAny_getItem_heap (tupleKind_room_in1 hu) (key_of I.hok eb) dd hp ?_
    rw [hp2]
    exact h w' _ (I.tok _) rw'
theorem d_in {Q : Value → Shared → Prop} (hu : A.units + 1 < cLine) (I : Inv X pins σ H s) (g : DGet H a y o) (ry : RelV y u) (h : ∀ s', Inv X pins σ H s' → Q (.bool o.isSome) s') :
    wpAny (model X.prog X.w) A (compareOp .In u (.ref a)) Q E s := by
  rcases g with ⟨kvs, k, e, ey, l⟩ | ⟨kvs, k, b, e, ey, eb, l⟩
  · subst ey
    obtain ⟨z, hd, vs, rel, dd⟩ := dk_rd I.hok e
    refine wpAny_in_of (kV_is ry) hd dd.mapOf ?_
    rw [← (rel.val k).isSome_eq, ← l]
    exact h _ (I.tok _)
  · subst ey
    cases (show u = Value.ref b from ry)
    obtain ⟨z, hd, xs, rel, dd⟩ := dt_rd I.hok e
    refine wpAny_in_heap (tupleKind_room_in1 hu) (key_of I.hok eb) hd dd ?_
    have q := (rel.val k).isSome_eq
    rw [Option.isSome_map] at q
    rw [← q, ← l]
    exact h _ (I.tok _)
theorem d_write {h' : Heap} {t' : Nat} {ob : HO} (I : Inv X pins σ H s) (mu : Mut (H a)) (hs : Heap.SameBut a s.heap h') (he : ∃ q, h'.get? a = some q) (new : ObjOk X.prog X.w (upd H a ob) h' a ob) :
    Inv X pins σ (upd H a ob) { s with heap := h', toks := t' } :=
  I.write (x := a) (e := a) mu (.inl rfl) (fun b q hb z => (hs.2 b hb).trans z) he new
theorem dk_new {P : Program} {w : World} {H' : Hp} {h' : Heap} {kvs : List (Key × V)} {vs : List (Key × Value)} (z : kvs.length ≤ sizeLine) (hd : (a == sysModules) = false) (rel : KV kvs vs) (dd : h'.DictOf (mixKind P w) a vs) :
    ObjOk P w H' h' a (.dK kvs) := ⟨z, hd, vs, rel, dd⟩
end

section
variable {X : Cx} {pins : List (Addr × Obj)} {σ : St} {H : Hp} {s : Shared} {a : Addr} {kvs : List (Key × V)} {k : Key} {u : Value} {A : Around} {E : Value → Shared → Prop}
end


noncomputable def NoSl (i : Expr) : Prop := ∀ ov iv, subscripted i false ov iv = operate [ov, iv] (getItem ov iv)
theorem subD_of {prog : Program} {w : World} {A : Around} {E : Value → Shared → Prop} {s : Shared} {env : Env} {value slice : Expr} {pos : Pos} {T id : String} {Q : Value → Shared → Prop}
    (hl : typeLookup (.type T) "__getitem__" = pure (some (.builtin id))) (hs : NoSl slice)
    (h : wpAny (model prog w) A (eval value env) (fun o s₁ => wpAny (model prog w) A (eval slice env) (fun i s₂ => s₂.TypeIs o T ∧ wpAny (model prog w) A (getItem o i) Q E s₂) E s₁) E s) :
    wpAny (model prog w) A (eval (.Subscript value slice pos) env) Q E s := by
  refine Subscript_ (wpAny_mono h (fun o s₁ h₁ => wpAny_mono h₁ (fun i s₂ h₂ => ?_) fun _ _ x => x) fun _ _ x => x)
  obtain ⟨hT, h₂⟩ := h₂
  unfold subscriptTail
  refine wpAny_bind ?_
  rw [getitemInPython_of_ne hT.not_modules]
  refine wpAny_bind (wpAny_specialOf hT hl ?_)
  have fin : wpAny (model prog w) A (subscripted slice false o i) (fun r s₃ => wpAny (model prog w) A (letTemporaryGo value o r >>= fun _ => pure r) Q E s₃) E s₂ := by
    rw [hs o i]
    exact wpAny_operating (wpAny_mono h₂ (fun r s₃ h₃ => wpAny_bind (wpAny_letTemporaryGo (wpAny_pure h₃))) fun _ _ x => x)
  first
    | exact wpAny_pure (wpAny_bind fin)
    | exact wpAny_bind (wpAny_pure (wpAny_bind fin))
    | exact wpAny_bind fin

theorem dict_typeIs {X : Cx} {pins : List (Addr × Obj)} {σ : St} {H : Hp} {s : Shared} {a : Addr} {y : V} {o : Option V} (I : Inv X pins σ H s) (g : DGet H a y o) : s.TypeIs (.ref a) "dict" := by
  rcases g with ⟨kvs, k, e, _, _⟩ | ⟨kvs, k, b, e, _, _, _⟩
  · obtain ⟨_, _, vs, _, dd⟩ := dk_rd I.hok e
    exact dd.typeIs
  · obtain ⟨_, _, xs, _, dd⟩ := dt_rd I.hok e
    exact dd.typeIs
noncomputable def tDGet (td ty : TE) : TE := fun σ H Q => td σ H fun x H1 => ty σ H1 fun y H2 => Ex_2_3 (fun a v => x = .ref a) (fun a v => DGet H2 a y (some v)) (fun a v => Q v H2)
noncomputable def tDIn (ty td : TE) : TE := fun σ H Q => ty σ H fun y H1 => td σ H1 fun x H2 => Ex_2_3 (fun a o => x = .ref a) (fun a o => DGet H2 a y o) (fun a o => Q (.bl o.isSome) H2)
section
variable {X : Cx} {o i e value : Expr} {pos pos' tpos : Pos} {td ty tv : TE}
theorem pe_dget (hu : X.A.units + 1 < cLine) (ho : PE X o td) (hi : PE X i ty) (hs : NoSl i) : PE X (.Subscript o i pos) (tDGet td ty) := by
  intro pins s σ H Q I h
  refine subD_of PySem.F.slot_dict_getitem.lookup hs (thn (ho pins s σ H _ I h) fun u s1 ⟨x, H1, I1, rx, q1⟩ => thn (hi pins s1 σ H1 _ I1 q1) fun iv s2 ⟨y, H2, I2, ry, a, v, ex, g, q2⟩ => ?_)
  subst ex
  obtain rfl : u = Value.ref a := rx
  exact ⟨dict_typeIs I2 g, d_getItem hu I2 g ry fun w' s3 I3 rw' => ⟨v, H2, I3, rw', q2⟩⟩
theorem pc_din (hu : X.A.units + 1 < cLine) (hi : PE X i ty) (ho : PE X o td) : PC X .In i o (tDIn ty td) := by
  intro pins s σ H Q I h
  refine thn (hi pins s σ H _ I h) fun iv s1 ⟨y, H1, I1, ry, q1⟩ => thn (ho pins s1 σ H1 _ I1 q1) fun u s2 ⟨x, H2, I2, rx, a, ov, ex, g, q2⟩ => ?_
  subst ex
  obtain rfl : u = Value.ref a := rx
  exact d_in hu I2 g ry fun s3 I3 => ⟨.bl ov.isSome, H2, I3, rfl, q2⟩
end


theorem dk_empty {P : Program} {w : World} {H : Hp} (h : Heap) (hb : sysModules < h.objs.size) : ObjOk P w H (h.push { cls := .type "dict", data := .dict #[] }) h.objs.size (.dK []) :=
  ⟨Nat.zero_le _, beq_eq_false_iff_ne.mpr (Ne.symm (Nat.ne_of_lt hb)), [], .nil, Heap.DictOf.new h⟩
theorem dt_empty {P : Program} {w : World} {H : Hp} (h : Heap) (hb : sysModules < h.objs.size) : ObjOk P w H (h.push { cls := .type "dict", data := .dict #[] }) h.objs.size (.dT []) :=
  ⟨Nat.zero_le _, beq_eq_false_iff_ne.mpr (Ne.symm (Nat.ne_of_lt hb)), [], .nil, _, #[], 0, Heap.get?_push_size _ rfl, ⟨rfl, rfl, rfl⟩, rfl, rfl, List.nodup_nil⟩
section
variable {X : Cx} {pos : Pos}
end

structure M1 (X : Cx) (o : Expr) (m : Str) (apos : Pos) (e : Expr) (cpos : Pos) : Prop where
  base : attributeBase o m X.env (eval o X.env) = eval o X.env
  few : ((backTo cpos (starEach [e] X.env)).all (fun x => !x.1) && (backToKw cpos (keywordEach [] X.env)).all (fun x => x.1.isSome)
    && decide (([e] : List Expr).length + ([] : List Keyword).length + (if ([] : List Keyword).isEmpty then 0 else 1) < 30)) = true
  line : (apos.endLine == cpos.line) = true
  trees : backTo cpos (starEach [e] X.env) = [(false, eval e X.env)]
structure M2 (X : Cx) (o : Expr) (m : Str) (apos : Pos) (e f : Expr) (cpos : Pos) : Prop where
  base : attributeBase o m X.env (eval o X.env) = eval o X.env
  few : ((backTo cpos (starEach [e, f] X.env)).all (fun x => !x.1) && (backToKw cpos (keywordEach [] X.env)).all (fun x => x.1.isSome)
    && decide (([e, f] : List Expr).length + ([] : List Keyword).length + (if ([] : List Keyword).isEmpty then 0 else 1) < 30)) = true
  line : (apos.endLine == cpos.line) = true
  trees : backTo cpos (starEach [e, f] X.env) = [(false, eval e X.env), (false, eval f X.env)]

section
variable {X : Cx} {pins : List (Addr × Obj)} {σ : St} {H : Hp} {s : Shared} {a : Addr} {y d : V} {u r : Value} {o : Option V} {A : Around} {E : Value → Shared → Prop}
end

section
variable {X : Cx} {o e f : Expr} {apos cpos : Pos} {td ty tx : TE}
end

section
variable {X : Cx} {pins : List (Addr × Obj)} {σ : St} {H : Hp} {s : Shared} {a : Addr} {kvs : List (Key × V)} {A : Around} {E : Value → Shared → Prop}
end


section
variable {X : Cx} {pins : List (Addr × Obj)} {σ : St} {H : Hp} {s : Shared} {a : Addr} {y : V} {u : Value} {A : Around} {E : Value → Shared → Prop}
end
end L2

namespace HT
open PySem PyProof.Rows

section
open PySem.SeqAt
open PySem.AutoSeq1 (wpAny_loadPart')
open PySem.MeetsSeq PySem.MeetsSeq2 PySem.MeetsSeq3

end

section
variable {prog : Program} {w : World} {A : Around} {E : Value → Shared → Prop} {s : Shared}

noncomputable def sIx (n d : Nat) : Option Int → Nat
  | none => d
  | some v => if v < 0 then (v + (n : Int)).toNat else min v.toNat n
theorem sIx_nat (n d k : Nat) : sIx n d (some (k : Int)) = min k n := by
  show (if (k : Int) < 0 then ((k : Int) + (n : Int)).toNat else min (k : Int).toNat n) = min k n
  rw [if_neg (by omega), Int.toNat_natCast]
theorem sIx_le (n d : Nat) (hd : d ≤ n) (o : Option Int) : sIx n d o ≤ n := by
  cases o with
  | none => exact hd
  | some v =>
    show (if v < 0 then (v + (n : Int)).toNat else min v.toNat n) ≤ n
    by_cases hv : v < 0
    · rw [if_pos hv]; omega
    · rw [if_neg hv]; exact Nat.min_le_right _ _
theorem clip_eq (v : Int) (n d : Nat) : (if v < 0 then max (v + (n : Int)) 0 else min v (n : Int)) = ((sIx n d (some v) : Nat) : Int) := by
  show (if v < 0 then max (v + (n : Int)) 0 else min v (n : Int)) = (((if v < 0 then (v + (n : Int)).toNat else min v.toNat n) : Nat) : Int)
  by_cases hv : v < 0
  · simp only [if_pos hv]; omega
  · simp only [if_neg hv]; omega
theorem adjust_gen (lo hi : Option Int) (n : Nat) : Builtin.Slice.sliceAdjust lo hi 1 (n : Int) = (((sIx n 0 lo : Nat) : Int), ((sIx n n hi : Nat) : Int)) := by
  have h1 : ¬ ((1 : Int) < 0) := by omega
  unfold Builtin.Slice.sliceAdjust
  simp only [h1, if_false]
  refine Prod.ext ?_ ?_
  · cases lo with
    | none => rfl
    | some v => exact clip_eq v n 0
  · cases hi with
    | none => rfl
    | some v => exact clip_eq v n n
theorem places_gen (i j : Nat) : Builtin.Slice.slicePlaces (i : Int) (j : Int) 1 = j - i := by
  unfold Builtin.Slice.slicePlaces
  have h1 : (1 : Int) > 0 := by omega
  simp only [h1, if_true, Int.ediv_one]
  split <;> omega
theorem slicePart_ {v : Value} {o : Option Int} {Q : Option Int → Shared → Prop} (p : IsPart v o) (h : Q o s) : wpAny (model prog w) A (Builtin.Slice.slicePartIndex v) Q E s := by
  cases p with
  | none => exact slicePart_none h
  | int i t => exact slicePart_int h
theorem sliceApplied_gen {sl : Addr} {vl vu : Value} {lo hi : Option Int} {n : Nat} {Q : Int × Int × Nat → Shared → Prop} (hs : s.heap.IsSliceOf sl vl vu .none) (pl : IsPart vl lo) (pu : IsPart vu hi)
    (h : Q (((sIx n 0 lo : Nat) : Int), 1, sIx n n hi - sIx n 0 lo) s) : wpAny (model prog w) A (Builtin.Slice.sliceApplied (.ref sl) (pure (n : Int))) Q E s := by
  obtain ⟨os, hos, hcs, hds⟩ := id hs
  unfold Builtin.Slice.sliceApplied Builtin.Slice.sliceFields
  refine wpAny_bind (wpAny_bind (wpAny_field hos hds (x := vl) rfl (wpAny_bind (wpAny_field hos hds (x := vu) rfl (wpAny_bind (wpAny_field hos hds (x := .none) rfl (wpAny_pure ?_)))))))
  refine wpAny_bind (slicePart_none ?_)
  show wpAny _ _ (if ((1 : Int) == 0) = true then _ else _) _ _ s
  rw [if_neg (by decide)]
  refine wpAny_bind (slicePart_ pl (wpAny_bind (slicePart_ pu (wpAny_bind (wpAny_pure ?_)))))
  show wpAny _ _ (match Builtin.Slice.sliceAdjust lo hi 1 (n : Int) with | (lo, hi) => pure (lo, (1 : Int), Builtin.Slice.slicePlaces lo hi 1)) _ _ s
  rw [adjust_gen lo hi n]
  show wpAny _ _ (pure (((sIx n 0 lo : Nat) : Int), (1 : Int), Builtin.Slice.slicePlaces ((sIx n 0 lo : Nat) : Int) ((sIx n n hi : Nat) : Int) 1)) _ _ s
  rw [places_gen]
  exact wpAny_pure h
theorem pick_gen (xs : Array Value) (i k : Nat) : ((List.range k).filterMap fun (m : Nat) => xs[((i : Int) + (m : Int) * 1).toNat]?).toArray = ((xs.toList.drop i).take k).toArray := by
  have e : (fun (m : Nat) => xs[((i : Int) + (m : Int) * 1).toNat]?) = fun m => xs[i + m]? := by
    funext m
    have : ((i : Int) + (m : Int) * 1).toNat = i + m := by omega
    rw [this]
  rw [e]
  have := pick_run xs i k
  rw [List.filterMap_map] at this
  have e2 : ((fun x => xs[x]?) ∘ fun x => i + x) = fun m => xs[i + m]? := rfl
  rw [e2] at this
  rw [this]

theorem getItem_tuple_cut {t sl : Addr} {items : Array Value} {vl vu : Value} {lo hi : Option Int} {Q : Value → Shared → Prop} (ht : IsTup s.heap t items) (hs : s.heap.IsSliceOf sl vl vu .none) (pl : IsPart vl lo) (pu : IsPart vu hi)
    (hw : ¬ (sIx items.size 0 lo = 0 ∧ sIx items.size items.size hi = items.size))
    (h : Q (.ref s.heap.objs.size) { s with heap := s.heap.push { cls := .type "tuple", data := .seq ((items.toList.drop (sIx items.size 0 lo)).take (sIx items.size items.size hi - sIx items.size 0 lo)).toArray } })
    (hsz : items.size ≤ sizeLine) : wpAny (model prog w) A (getItem (.ref t) (.ref sl)) Q E s := by
  have htake : sizeOk (.seq ((items.toList.drop (sIx items.size 0 lo)).take (sIx items.size items.size hi - sIx items.size 0 lo)).toArray) := by
    show ((items.toList.drop (sIx items.size 0 lo)).take (sIx items.size items.size hi - sIx items.size 0 lo)).toArray.size ≤ sizeLine
    rw [List.size_toArray, List.length_take, List.length_drop, Array.length_toList]
    omega
  have hj : sIx items.size items.size hi ≤ items.size := sIx_le _ _ (Nat.le_refl _) hi
  obtain ⟨os, hos, hcs, hds⟩ := id hs
  have hTs : s.TypeIs (.ref sl) "slice" := ⟨os, hos, hcs⟩
  unfold getItem
  try with_reducible refine wpAny_holding ?_
  first | refine wpAny_bind (wpAny_pure ?_) | skip
  refine wpAny_bind (wpAny_sequenceKey ht.typeIs (by decide) ?_)
  refine wpAny_bind (wpAny_callSpecial?_slot (name := Str.ofString "__getitem__") ht.typeIs PyProof.Rows.slot_tuple_getitem
    (wpAny_call_entry PyProof.Rows.slot_tuple_getitem ht.typeIs entry_tuple_getitem ?_ (args_tuple_getitem _ _)))
  show wpAny _ _ (Builtin.Tuple.tupleItemsOf (.ref t) >>= _) _ _ s
  refine wpAny_bind (tupleItemsOf_ ht ?_)
  refine wpAny_bind (wpAny_typeOf hTs ?_)
  rw [if_pos (by decide)]
  refine wpAny_bind (sliceApplied_gen hs pl pu ?_)
  have hno : ¬ ((((sIx items.size 0 lo : Nat) : Int) == 0 && (1 : Int) == 1 && (sIx items.size items.size hi - sIx items.size 0 lo) == items.size) = true) := by
    intro q
    rw [Bool.and_eq_true, Bool.and_eq_true] at q
    have q1 : ((sIx items.size 0 lo : Nat) : Int) = 0 := eq_of_beq q.1.1
    have q2 : sIx items.size items.size hi - sIx items.size 0 lo = items.size := eq_of_beq q.2
    exact hw ⟨by omega, by omega⟩
  show wpAny _ _ (if (((sIx items.size 0 lo : Nat) : Int) == 0 && (1 : Int) == 1 && (sIx items.size items.size hi - sIx items.size 0 lo) == items.size) = true then _ else _) _ _ s
  rw [if_neg hno, pick_gen]
  first
    | exact wpAny_bind (m := Builtin.Tuple.tupleExact _) (wpAny_newObj_type (wpAny_pure ⟨_, rfl, wpAny_pure h⟩) htake)
    | exact wpAny_bind (m := Builtin.Tuple.tupleExact _) (wpAny_newObj_type (wpAny_bind (wpAny_pure (wpAny_pure ⟨_, rfl, wpAny_pure h⟩))) htake)
    | exact wpAny_bind (wpAny_bind (m := Builtin.Tuple.tupleExact _) (wpAny_newObj_type (wpAny_pure (wpAny_pure ⟨_, rfl, wpAny_pure h⟩)) htake))
    | exact wpAny_bind (wpAny_bind (m := Builtin.Tuple.tupleExact _) (wpAny_newObj_type (wpAny_pure ⟨_, rfl, wpAny_pure h⟩) htake))
end
end HT

namespace L2
open PySem PySem.Spec PyProof.Rows

noncomputable abbrev TO := St → Hp → (Option Int → Hp → Prop) → Prop
noncomputable def PO (X : Cx) (e : Option Expr) (t : TO) : Prop :=
  ∀ (pins : List (Addr × Obj)) (s : Shared) (σ : St) (H : Hp) (Q : Option Int → Hp → Prop), Inv X pins σ H s → t σ H Q →
    wpAny (model X.prog X.w) X.A (evalPart e X.env) (fun u s' => Ex_2_3 (fun o H' => Inv X pins σ H' s') (fun o H' => IsPart u o) (fun o H' => Q o H')) X.xe s
noncomputable def tNoPart : TO := fun _ H Q => Q none H
noncomputable def tPart (t : TE) : TO := fun σ H Q => t σ H fun x H1 => Ex_1_2 (fun i => x = .int i) (fun i => Q (some i) H1)

section
variable {X : Cx} {e : Expr} {te : TE} {lo hi : Option Expr} {tl th : TO} {pos p2 : Pos}

theorem po_none : PO X none tNoPart := by
  intro pins s σ H Q I h
  rw [evalPart_none]
  exact wpAny_pure ⟨none, H, I, .none, h⟩
theorem po_some (h : PE X e te) : PO X (some e) (tPart te) := by
  intro pins s σ H Q I hw
  rw [evalPart_some]
  refine thn (h pins s σ H _ I hw) fun u s1 ⟨x, H1, I1, r1, q1⟩ => ?_
  obtain ⟨i, rfl, q⟩ := q1
  obtain ⟨t, rfl⟩ := r1
  exact ⟨some i, H1, I1, .int i t, q⟩

noncomputable def SlR (X : Cx) (r : V → Option Int → Option Int → Hp → VK → Prop) : Prop :=
  ∀ (pins : List (Addr × Obj)) (s : Shared) (σ : St) (H : Hp) (x : V) (v vl vu : Value) (lo hi : Option Int) (sl : Addr) (Q : VK), Inv X pins σ H s → RelV x v → s.heap.IsSliceOf sl vl vu .none → IsPart vl lo → IsPart vu hi → r x lo hi H Q →
    Ex_2_3 (fun T id => typeLookup (.type T) "__getitem__" = pure (some (.builtin id))) (fun T id => s.TypeIs v T) (fun T id => wpAny (model X.prog X.w) X.A (getItem v (.ref sl)) (EP X pins σ Q) X.xe s)
theorem SlR.or {r r' : V → Option Int → Option Int → Hp → VK → Prop} (h : SlR X r) (h' : SlR X r') : SlR X (fun x lo hi H Q => r x lo hi H Q ∨ r' x lo hi H Q) := by
  intro pins s σ H x v vl vu lo hi sl Q I rx hs pl pu q
  rcases q with q | q
  · exact h pins s σ H x v vl vu lo hi sl Q I rx hs pl pu q
  · exact h' pins s σ H x v vl vu lo hi sl Q I rx hs pl pu q
noncomputable def tSl (r : V → Option Int → Option Int → Hp → VK → Prop) (te : TE) (tl th : TO) : TE := fun σ H Q => te σ H fun x H1 => tl σ H1 fun l H2 => th σ H2 fun u H3 => r x l u H3 Q
theorem pe_slice {r : V → Option Int → Option Int → Hp → VK → Prop} (hr : SlR X r) (he : PE X e te) (hl : PO X lo tl) (hu : PO X hi th) : PE X (.Subscript e (.Slice lo hi none p2) pos) (tSl r te tl th) := by
  intro pins s σ H Q I h
  refine Subscript_ (thn (he pins s σ H _ I h) fun v s1 ⟨x, H1, I1, r1, q1⟩ => ?_)
  refine wpAny_Slice (thn (hl pins s1 σ H1 _ I1 q1) fun vl s2 ⟨l, H2, I2, pl, q2⟩ => thn (hu pins s2 σ H2 _ I2 q2) fun vu s3 ⟨u, H3, I3, pu, q3⟩ => ?_)
  rw [evalPart_none]
  refine wpAny_pure ?_
  have I4 : Inv X pins σ H3 { s3 with heap := s3.heap.push { cls := .type "slice", data := .fields #[vl, vu, .none] } } := I3.kept (t' := s3.toks) fun b ob q => Heap.get?_push_of_some _ q
  obtain ⟨T, id, hT, ht, hg⟩ := hr pins { s3 with heap := s3.heap.push { cls := .type "slice", data := .fields #[vl, vu, .none] } } σ H3 x v vl vu l u s3.heap.objs.size Q I4 r1 (Heap.IsSliceOf.new ..) pl pu q3
  show wpAny (model X.prog X.w) X.A (subscriptTail e (.Slice lo hi none p2) v (.ref s3.heap.objs.size)) (EP X pins σ Q) X.xe { s3 with heap := s3.heap.push { cls := .type "slice", data := .fields #[vl, vu, .none] } }
  exact tail_any (ops := [.ref s3.heap.objs.size, v]) ht hT hg (by with_unfolding_all rfl)

noncomputable def cutV (xs : List V) (lo hi : Option Int) : List V := (xs.drop (HT.sIx xs.length 0 lo)).take (HT.sIx xs.length xs.length hi - HT.sIx xs.length 0 lo)
theorem cutV_length (xs : List V) (lo hi : Option Int) : (cutV xs lo hi).length ≤ xs.length := by
  unfold cutV
  rw [List.length_take, List.length_drop]
  omega
noncomputable def rSlT (K : PySem.W.Frag) : V → Option Int → Option Int → Hp → VK → Prop := fun x lo hi H Q => Ex_2_4 (fun a xs => x = .ref a) (fun a xs => SqT K H a xs) (fun a xs => ¬ (HT.sIx xs.length 0 lo = 0 ∧ HT.sIx xs.length xs.length hi = xs.length)) (fun a xs => ∀ p, H p = none → Q (.ref p) (upd H p (.tup (cutV xs lo hi))))
theorem sl_tup : SlR X (rSlT X.K) := by
  intro pins s σ H x v vl vu lo hi sl Q I rx hs pl pu h
  obtain ⟨a, xs, rfl, hx, hw, q⟩ := h
  cases rx
  obtain ⟨its, r, ht, hz⟩ := I.tuple hx
  have hlen : its.toArray.size = xs.length := by rw [List.size_toArray]; exact r.length.symm
  refine ⟨"tuple", _, PyProof.Rows.slot_tuple_getitem.lookup, ht.typeIs, ?_⟩
  refine HT.getItem_tuple_cut ht hs pl pu (by rw [hlen]; exact hw) ?_ (by rw [hlen]; exact hz)
  rw [hlen]
  refine ⟨.ref s.heap.objs.size, _, I.laid (t' := s.toks) (o := .tup (cutV xs lo hi)) (fun b ob q => Heap.get?_push_of_some _ q) (Nat.le_refl _) ?_, rfl, q _ (I.hok.fresh (Nat.le_refl _))⟩
  exact ⟨Nat.le_trans (cutV_length xs lo hi) hz, _, (r.drop (HT.sIx xs.length 0 lo)).take (HT.sIx xs.length xs.length hi - HT.sIx xs.length 0 lo), IsTup.new _ _⟩

end
end L2

namespace L2
open PySem PySem.Spec PyProof.Rows

noncomputable def ixN (n : Nat) (i : Int) : Option Nat := if 0 ≤ i then (if i < n then some i.toNat else none) else if -(n : Int) ≤ i then some (i + n).toNat else none
noncomputable def atI {α : Type} (xs : List α) (i : Int) : Option α := (ixN xs.length i).bind fun j => xs[j]?
theorem ixN_seq {n : Nat} {i : Int} {j : Nat} (h : ixN n i = some j) : seqIndex? i n = some j ∧ j < n ∧ -(n : Int) ≤ i ∧ i < n := by
  unfold ixN at h
  by_cases h0 : 0 ≤ i
  · rw [if_pos h0] at h
    by_cases h1 : i < n
    · rw [if_pos h1] at h
      have e : i.toNat = j := Option.some.inj h
      exact ⟨by rw [seqIndex_of h0 h1, e], by omega, by omega, h1⟩
    · rw [if_neg h1] at h; cases h
  · rw [if_neg h0] at h
    by_cases h1 : -(n : Int) ≤ i
    · rw [if_pos h1] at h
      have e : (i + n).toNat = j := Option.some.inj h
      exact ⟨by rw [seqIndex_neg (by omega) h1, e], by omega, h1, by omega⟩
    · rw [if_neg h1] at h; cases h
theorem atI_get {α : Type} {xs : List α} {i : Int} {v : α} (h : atI xs i = some v) : ∃ j, seqIndex? i xs.length = some j ∧ xs[j]? = some v ∧ j < xs.length ∧ -(xs.length : Int) ≤ i ∧ i < xs.length := by
  unfold atI at h
  cases e : ixN xs.length i with
  | none => rw [e] at h; cases h
  | some j =>
    rw [e] at h
    obtain ⟨h1, h2, h3, h4⟩ := ixN_seq e
    exact ⟨j, h1, h, h2, h3, h4⟩
theorem atI_nat {α : Type} {xs : List α} {j : Nat} {v : α} (h : xs[j]? = some v) : atI xs (j : Int) = some v := by
  have hj : j < xs.length := (List.getElem?_eq_some_iff.mp h).1
  have e : ixN xs.length (j : Int) = some j := by
    unfold ixN
    rw [if_pos (by omega), if_pos (by omega)]; simp
  unfold atI; rw [e]; exact h
noncomputable def PlainIx (b : Expr) : Prop := ∀ o i, subscripted b false o i = operate [o, i] (getItem o i)
noncomputable def IxR (X : Cx) (r : R2) : Prop :=
  ∀ (value slice : Expr) (pins : List (Addr × Obj)) (s : Shared) (σ : St) (H : Hp) (x y : V) (v u : Value) (Q : VK), Inv X pins σ H s → RelV x v → RelV y u → r x y H Q →
    subscripted slice false v u = operate [v, u] (getItem v u) → wpAny (model X.prog X.w) X.A (subscriptTail value slice v u) (EP X pins σ Q) X.xe s
noncomputable def MtR (X : Cx) (id : String) (r : V → List V → Hp → VK → Prop) : Prop :=
  ∀ (pins : List (Addr × Obj)) (s : Shared) (σ : St) (H : Hp) (x : V) (xs : List V) (v : Value) (us : List Value) (Q : VK), Inv X pins σ H s → RelV x v → Vals xs us → r x xs H Q →
    wpAny (model X.prog X.w) X.A (call (.builtin id) (v :: us)) (EP X pins σ Q) X.xe s
section
variable {X : Cx} {a b : Expr} {ta tb : TE} {pos : Pos}
theorem IxR.or {r r' : R2} (h : IxR X r) (h' : IxR X r') : IxR X (fun x y H Q => r x y H Q ∨ r' x y H Q) := by
  intro value slice pins s σ H x y v u Q I rx ry q hs
  rcases q with q | q
  · exact h value slice pins s σ H x y v u Q I rx ry q hs
  · exact h' value slice pins s σ H x y v u Q I rx ry q hs
theorem MtR.or {id : String} {r r' : V → List V → Hp → VK → Prop} (h : MtR X id r) (h' : MtR X id r') : MtR X id (fun x xs H Q => r x xs H Q ∨ r' x xs H Q) := by
  intro pins s σ H x xs v us Q I rx rs q
  rcases q with q | q
  · exact h pins s σ H x xs v us Q I rx rs q
  · exact h' pins s σ H x xs v us Q I rx rs q
theorem pe_ix {r : R2} (hr : IxR X r) (ha : PE X a ta) (hb : PE X b tb) (hs : PlainIx b) : PE X (.Subscript a b pos) (tOp r ta tb) := by
  intro pins s σ H Q I h
  exact Subscript_ (binT ha hb I h fun v u s2 x y H2 I2 rx ry q => hr a b pins s2 σ H2 x y v u Q I2 rx ry q (hs _ _))

noncomputable def rIxL (K : PySem.W.Frag) : R2 := fun x y H Q => Ex_4_5 (fun p xs i v => x = .ref p) (fun p xs i v => y = .int i) (fun p xs i v => SqL K H p xs) (fun p xs i v => atI xs i = some v) (fun p xs i v => Q v H)
noncomputable def rIxT (K : PySem.W.Frag) : R2 := fun x y H Q => Ex_4_5 (fun p xs i v => x = .ref p) (fun p xs i v => y = .int i) (fun p xs i v => SqT K H p xs) (fun p xs i v => atI xs i = some v) (fun p xs i v => Q v H)
noncomputable def rIxS : R2 := fun x y H Q => Ex_3_5 (fun z i c => x = .str z) (fun z i c => y = .int i) (fun z i c => z.length ≤ sizeLine) (fun z i c => atI z.cps.toList i = some c) (fun z i c => Q (.str ⟨#[c]⟩) H)
theorem ix_list : IxR X (rIxL X.K) := by
  intro value slice pins s σ H x y v u Q I rx ry h hs
  obtain ⟨p, xs, i, z, rfl, rfl, hq, he, q⟩ := h
  cases rx
  obtain ⟨t, rfl⟩ := ry
  obtain ⟨its, r, pl, hz⟩ := I.list hq
  obtain ⟨j, h1, h2, h3, h4, h5⟩ := atI_get he
  obtain ⟨w, ew, rw'⟩ := r.get h2
  have hl := r.length
  have hn := line63
  have fin : EP X pins σ Q w s := ⟨z, H, I, rw', q⟩
  by_cases h0 : 0 ≤ i
  · have hj : i.toNat = j := by
      rw [seqIndex_of h0 h5] at h1
      exact Option.some.inj h1
    exact item_listR pl.isList h0 (by omega) (by rw [hj]; simpa using ew) fin hs
  · have hj : (i + (its.toArray.size : Int)).toNat = j := by
      rw [seqIndex_neg (by omega) h4] at h1
      rw [List.size_toArray, ← hl]
      exact Option.some.inj h1
    exact subscriptTail_builtinR (x := w) pl.isList.typeIs slot_list_getitem.lookup
      (wpAny_getItem_list_neg (Q := fun r s' => r = w ∧ EP X pins σ Q r s') pl.isList (by omega) (by rw [List.size_toArray] <;> omega) (by omega) (by rw [hj]; simpa using ew) ⟨rfl, fin⟩) hs
theorem ix_tup : IxR X (rIxT X.K) := by
  intro value slice pins s σ H x y v u Q I rx ry h hs
  obtain ⟨p, xs, i, z, rfl, rfl, hq, he, q⟩ := h
  cases rx
  obtain ⟨t, rfl⟩ := ry
  obtain ⟨its, r, pl, hz⟩ := I.tuple hq
  obtain ⟨j, h1, h2, h3, h4, h5⟩ := atI_get he
  obtain ⟨w, ew, rw'⟩ := r.get h2
  have hl := r.length
  have hn := line63
  have fin : EP X pins σ Q w s := ⟨z, H, I, rw', q⟩
  exact subscriptTail_builtinR (x := w) pl.typeIs slot_tuple_getitem.lookup
    (getItem_tuple (j := j) (Q := fun r s' => r = w ∧ EP X pins σ Q r s') pl (by omega) (by omega) (by rw [List.size_toArray, ← hl]; exact h1) (by simpa using ew) ⟨rfl, fin⟩) hs
theorem ix_str : IxR X rIxS := by
  intro value slice pins s σ H x y v u Q I rx ry h hs
  obtain ⟨z, i, c, rfl, rfl, hz, he, q⟩ := h
  obtain ⟨t, rfl⟩ := rx
  obtain ⟨t', rfl⟩ := ry
  obtain ⟨j, h1, h2, h3, h4, h5⟩ := atI_get he
  have hl : z.cps.toList.length = z.length := by simp [Str.length]
  rw [hl] at h1 h4 h5
  have hn := line63
  exact tail_any (typeIs_str s z t) slot_str_getitem.lookup (getItem_str (c := c) (by
    have e1 : decide (i < -(2 ^ 63 : Int)) = false := decide_eq_false (by omega)
    have e2 : decide (i ≥ 2 ^ 63) = false := decide_eq_false (by omega)
    rw [e1, e2, Bool.or_false]) (by rw [h1]; simpa using h2) ⟨.str ⟨#[c]⟩, H, I.tok _, ⟨_, rfl⟩, q⟩) hs
theorem Inv.lst {pins : List (Addr × Obj)} {σ : St} {H : Hp} {s : Shared} {p : Addr} {xs : List V} (I : Inv X pins σ H s) (h : H p = some (.lst xs)) :
    Ex_2_3 (fun (its : List Value) (n : Nat) => Vals xs its) (fun its n => s.heap.get? p = some { cls := .type "list", data := .seq its.toArray n }) (fun its n => xs.length ≤ sizeLine) := by
  obtain ⟨z, its, n, r, e⟩ := I.hok p _ h
  exact ⟨its, n, r, e, z⟩
theorem slice_bounds (lo hi : Option Int) (n : Nat) : (sliceBounds lo hi none n).1 = ((HT.sIx n 0 lo : Nat) : Int) ∧ (sliceBounds lo hi none n).2.1 = ((HT.sIx n n hi : Nat) : Int) ∧ (sliceBounds lo hi none n).2.2 = 1 := by
  refine ⟨?_, ?_, rfl⟩
  · cases lo with
    | none => simp [sliceBounds, HT.sIx]
    | some i =>
      simp only [sliceBounds, HT.sIx, Option.getD_none, show (1 : Int) > 0 by decide, if_true]
      by_cases h : i < 0
      · simp only [h, if_true] <;> omega
      · simp only [h, if_false] <;> omega
  · cases hi with
    | none => simp [sliceBounds, HT.sIx]
    | some i =>
      simp only [sliceBounds, HT.sIx, Option.getD_none, show (1 : Int) > 0 by decide, if_true]
      by_cases h : i < 0
      · simp only [h, if_true] <;> omega
      · simp only [h, if_false] <;> omega
theorem slicePick_cut (its : List Value) (lo hi : Option Int) : slicePick its.toArray lo hi none = ((its.drop (HT.sIx its.length 0 lo)).take (HT.sIx its.length its.length hi - HT.sIx its.length 0 lo)).toArray := by
  obtain ⟨h1, h2, h3⟩ := slice_bounds lo hi its.toArray.size
  unfold slicePick
  rw [h1, h2, h3]
  simp only [sliceRange_one, pick_run, List.size_toArray] <;> rfl
noncomputable def rSlL (K : PySem.W.Frag) : V → Option Int → Option Int → Hp → VK → Prop := fun x lo hi H Q => Ex_2_3 (fun a xs => x = .ref a) (fun a xs => SqL K H a xs) (fun a xs => ∀ p, H p = none → Q (.ref p) (upd H p (.lst (cutV xs lo hi))))
theorem sl_list : SlR X (rSlL X.K) := by
  intro pins s σ H x v vl vu lo hi sl Q I rx hs pl pu h
  obtain ⟨a, xs, rfl, hx, q⟩ := h
  cases rx
  obtain ⟨its, r, ht, hz⟩ := I.list hx
  have hlen := r.length
  refine ⟨"list", _, slot_list_getitem.lookup, ht.isList.typeIs, ?_⟩
  refine wpAny_getItem_list_slice ht.isList hs pl pu .none (by simp) ?_ (by rw [List.size_toArray] <;> omega)
  rw [slicePick_cut, ← hlen]
  refine ⟨.ref s.heap.objs.size, _, I.laid (t' := s.toks) (o := .lst (cutV xs lo hi)) (fun b ob q => Heap.get?_push_of_some _ q) (Nat.le_refl _) ?_, rfl, q _ (I.hok.fresh (Nat.le_refl _))⟩
  exact ⟨Nat.le_trans (cutV_length xs lo hi) hz, _, 0, (r.drop (HT.sIx xs.length 0 lo)).take (HT.sIx xs.length xs.length hi - HT.sIx xs.length 0 lo), Heap.get?_push_size _ rfl⟩

noncomputable def flatV : V → Bool
  | .non => true
  | .bl _ => true
  | .int _ => true
  | .str _ => true
  | _ => false
noncomputable def eqV : V → V → Bool
  | .non, .non => true
  | .bl a, .bl b => a == b
  | .bl a, .int b => (if a then 1 else 0) == b
  | .int a, .bl b => a == (if b then 1 else 0)
  | .int a, .int b => a == b
  | .str a, .str b => a == b
  | _, _ => false
theorem eqAt_V {A : Around} {s : Shared} {y x : V} {u v : Value} (ry : RelV y u) (rx : RelV x v) (fy : flatV y = true) (fx : flatV x = true) : SeqAt.EqAt A s u v (eqV y x) := by
  cases y with
  | non =>
    cases ry
    cases x with
    | non => cases rx; exact SeqAt.EqAt.same _
    | bl b => cases rx; exact SeqAt.EqAt.none_bool b
    | int b => obtain ⟨t, rfl⟩ := rx; exact SeqAt.EqAt.none_int b t
    | str b => obtain ⟨t, rfl⟩ := rx; exact SeqAt.EqAt.none_str b t
    | _ => exact absurd (show false = true from fx) Bool.false_ne_true
  | bl a =>
    cases ry
    cases x with
    | non => cases rx; exact SeqAt.EqAt.bool_none a
    | bl b => cases rx; exact SeqAt.EqAt.bool_bool a b
    | int b => obtain ⟨t, rfl⟩ := rx; exact SeqAt.EqAt.bool_int a b t
    | str b => obtain ⟨t, rfl⟩ := rx; exact SeqAt.EqAt.bool_str a b t
    | _ => exact absurd (show false = true from fx) Bool.false_ne_true
  | int a =>
    obtain ⟨t', rfl⟩ := ry
    cases x with
    | non => cases rx; exact SeqAt.EqAt.int_none a t'
    | bl b => cases rx; exact SeqAt.EqAt.int_bool a t' b
    | int b => obtain ⟨t, rfl⟩ := rx; exact SeqAt.EqAt.int_int a t' b t
    | str b => obtain ⟨t, rfl⟩ := rx; exact SeqAt.EqAt.int_str a t' b t
    | _ => exact absurd (show false = true from fx) Bool.false_ne_true
  | str a =>
    obtain ⟨t', rfl⟩ := ry
    cases x with
    | non => cases rx; exact SeqAt.EqAt.str_none a t'
    | bl b => cases rx; exact SeqAt.EqAt.str_bool a t' b
    | int b => obtain ⟨t, rfl⟩ := rx; exact SeqAt.EqAt.str_int a t' b t
    | str b => obtain ⟨t, rfl⟩ := rx; exact SeqAt.EqAt.str_str a t' b t
    | _ => exact absurd (show false = true from fx) Bool.false_ne_true
  | _ => exact absurd (show false = true from fy) Bool.false_ne_true
noncomputable def eqU (x : V) (u : Value) : Bool := match u with
  | .none => eqV .non x
  | .bool b => eqV (.bl b) x
  | .int i _ => eqV (.int i) x
  | .str z _ => eqV (.str z) x
  | _ => false
theorem eqU_of {x y : V} {u : Value} (r : RelV y u) (f : flatV y = true) : eqU x u = eqV y x := by
  cases y with
  | non => cases r; rfl
  | bl b => cases r; rfl
  | int i => obtain ⟨t, rfl⟩ := r; rfl
  | str z => obtain ⟨t, rfl⟩ := r; rfl
  | _ => exact absurd (show false = true from f) Bool.false_ne_true
theorem any_eqU {x : V} : ∀ {xs : List V} {us : List Value}, Vals xs us → xs.all flatV = true → us.any (eqU x) = xs.any fun y => eqV y x
  | _, _, .nil, _ => rfl
  | y :: xs, u :: us, .cons r t, f => by
    rw [List.all_cons, Bool.and_eq_true] at f
    rw [List.any_cons, List.any_cons, eqU_of r f.1, any_eqU t f.2]
theorem mem_eqAt {A : Around} {s : Shared} {x : V} {v : Value} (rx : RelV x v) (fx : flatV x = true) : ∀ {xs : List V} {us : List Value}, Vals xs us → xs.all flatV = true → ∀ u ∈ us, SeqAt.EqAt A s u v (eqU x u)
  | _, _, .nil, _ => fun u hu => by cases hu
  | y :: xs, u :: us, .cons r t, f => fun u' hu => by
    rw [List.all_cons, Bool.and_eq_true] at f
    rcases List.mem_cons.mp hu with rfl | hu
    · rw [eqU_of r f.1]; exact eqAt_V r rx f.1 fx
    · exact mem_eqAt rx fx t f.2 u' hu
noncomputable def inV (x : V) (xs : List V) : Bool := xs.any fun y => eqV y x
noncomputable def rIn (K : PySem.W.Frag) (neg : Bool) : R2 := fun x y H Q => Ex_2_5 (fun p xs => y = .ref p) (fun p xs => (SqL K H p xs ∨ SqT K H p xs)) (fun p xs => flatV x = true) (fun p xs => xs.all flatV = true) (fun p xs => Q (.bl (if neg then !inV x xs else inV x xs)) H)
theorem op_in_seq : OpR X (compareOp .In) (rIn X.K false) := by
  intro pins s σ H x y v u Q I rx ry h
  obtain ⟨p, xs, rfl, hq, fx, fs, q⟩ := h
  cases ry
  rcases hq with hq | hq
  · obtain ⟨its, r, pl, hz⟩ := I.list hq
    refine SeqAt.in_listAt (eqU x) pl.isList (fun w hw => mem_eqAt rx fx r fs w (by simpa using hw)) ⟨.bl _, H, I, rfl, ?_⟩
    rw [show its.toArray.any (eqU x) = its.any (eqU x) by simp, any_eqU r fs]
    exact q
  · obtain ⟨its, r, pl, hz⟩ := I.tuple hq
    refine SeqAt.in_tupleAt (eqU x) pl (fun w hw => mem_eqAt rx fx r fs w (by simpa using hw)) ⟨.bl _, H, I, rfl, ?_⟩
    rw [show its.toArray.any (eqU x) = its.any (eqU x) by simp, any_eqU r fs]
    exact q
theorem call_len_seq : CallR X (.builtin "len") (fun xs H Q => Ex_2_3 (fun p ys => xs = [.ref p]) (fun p ys => (SqL X.K H p ys ∨ SqT X.K H p ys)) (fun p ys => Q (.int ys.length) H)) := by
  intro pins s σ H xs us Q I r h
  obtain ⟨p, ys, rfl, hq, q⟩ := h
  obtain ⟨u, rfl, rx⟩ := vals1 r
  cases rx
  have hn := line63
  rcases hq with hq | hq
  · obtain ⟨its, r', pl, hz⟩ := I.list hq
    have hlen := r'.length
    exact Calls.call_len_list pl.isList (by simp only [List.size_toArray] <;> omega) ⟨.int ys.length, H, I.tok _, ⟨s.toks + 1, by rw [List.size_toArray, hlen]⟩, q⟩
  · obtain ⟨its, r', pl, hz⟩ := I.tuple hq
    have hlen := r'.length
    exact len_tuple pl (by simp only [List.size_toArray] <;> omega) ⟨.int ys.length, H, I.tok _, ⟨s.toks + 1, by rw [List.size_toArray, hlen]⟩, q⟩
theorem CallR.or {f : Value} {r r' : List V → Hp → VK → Prop} (h : CallR X f r) (h' : CallR X f r') : CallR X f (fun xs H Q => r xs H Q ∨ r' xs H Q) := by
  intro pins s σ H xs us Q I rs q
  rcases q with q | q
  · exact h pins s σ H xs us Q I rs q
  · exact h' pins s σ H xs us Q I rs q
theorem call_list_of : CallR X (.type "list") (fun xs H Q => Ex_2_3 (fun p ys => xs = [.ref p]) (fun p ys => (SqL X.K H p ys ∨ SqT X.K H p ys)) (fun p ys => ∀ l, H l = none → Q (.ref l) (upd H l (.lst ys)))) := by
  intro pins s σ H xs us Q I r h
  obtain ⟨p, ys, rfl, hq, q⟩ := h
  obtain ⟨u, rfl, rx⟩ := vals1 r
  cases rx
  have fin : ∀ (its : List Value), Vals ys its → ys.length ≤ sizeLine → ∀ (h' : Heap) (c' : Nat), (∀ b o', s.heap.get? b = some o' → h'.get? b = some o') →
      h'.get? s.heap.objs.size = some { cls := .type "list", dict := none, data := .seq its.toArray c', slots := #[] } → EP X pins σ Q (.ref s.heap.objs.size) { s with heap := h' } := fun its r' hz h' c' kp e =>
    ⟨.ref s.heap.objs.size, _, I.laid (t' := s.toks) kp (Nat.le_refl _) (show ObjOk X.prog X.w _ h' _ (.lst ys) from ⟨hz, its, c', r', e⟩), rfl, q _ (I.hok.fresh (Nat.le_refl _))⟩
  rcases hq with hq | hq
  · obtain ⟨its, r', pl, hz⟩ := I.list hq
    have hlen := r'.length
    obtain ⟨o, ho, hc, n, hd⟩ := pl.isList
    exact call_list_seq p (.inl rfl) ho hc hd (fun h' c' kp e => fin its r' hz h' c' kp e) (by simp only [List.size_toArray] <;> omega)
  · obtain ⟨its, r', pl, hz⟩ := I.tuple hq
    have hlen := r'.length
    obtain ⟨o, ho, hc, n, hd⟩ := pl
    exact call_list_seq p (.inr rfl) ho hc hd (fun h' c' kp e => fin its r' hz h' c' kp e) (by simp only [List.size_toArray] <;> omega)
noncomputable def tyV (K : PySem.W.Frag) (T : String) (x : V) (H : Hp) : Prop := match x with
  | .str _ => T = "str"
  | .int _ => T = "int"
  | .ref p => (T = "list" ∧ ∃ xs, SqL K H p xs) ∨ (T = "tuple" ∧ ∃ o, K.lookup p = some o ∧ o.cls = .type "tuple" ∧ o.dict = none) ∨
      (T = "dict" ∧ ((∃ kvs, H p = some (.dK kvs)) ∨ ∃ kvs, H p = some (.dT kvs))) ∨ (T = "set" ∧ Ex_2_1 (fun S n => H p = some (.set S n)))
  | _ => False
theorem tyV_is {pins : List (Addr × Obj)} {σ : St} {H : Hp} {s : Shared} {T : String} {x : V} {v : Value} (I : Inv X pins σ H s) (r : RelV x v) (ty : tyV X.K T x H) :
    s.TypeIs v T ∧ ∀ a, v = .ref a → ∃ ob, s.heap.get? a = some ob ∧ ob.dict = none := by
  cases x with
  | str z =>
    obtain ⟨t, rfl⟩ := r
    cases (show T = "str" from ty)
    exact ⟨typeIs_str s z t, fun _ e => nomatch e⟩
  | int i =>
    obtain ⟨t, rfl⟩ := r
    cases (show T = "int" from ty)
    exact ⟨typeIs_int s i t, fun _ e => nomatch e⟩
  | ref p =>
    cases r
    rcases ty with ⟨rfl, xs, hq⟩ | ⟨rfl, o, hk, hc, hd⟩ | ⟨rfl, hk⟩ | ⟨rfl, S, n, hk⟩
    · obtain ⟨its, _, pl, _⟩ := I.list hq
      refine ⟨pl.isList.typeIs, fun a e => ?_⟩
      cases e
      obtain ⟨o, n, e, c, hd, _⟩ := pl
      exact ⟨o, e, hd⟩
    · refine ⟨⟨o, I.kIn p o hk, hc⟩, fun a e => ?_⟩
      cases e
      exact ⟨o, I.kIn _ o hk, hd⟩
    · have z : ∃ o, s.heap.get? p = some o ∧ o.ExactDict := by
        rcases hk with ⟨kvs, hk⟩ | ⟨kvs, hk⟩
        · obtain ⟨_, _, _, _, o, _, _, e, ex, _⟩ := I.hok p _ hk
          exact ⟨o, e, ex⟩
        · obtain ⟨_, _, _, _, o, _, _, e, ex, _⟩ := I.hok p _ hk
          exact ⟨o, e, ex⟩
      obtain ⟨o, e, ex⟩ := z
      refine ⟨⟨o, e, ex.1⟩, fun a e2 => ?_⟩
      cases e2
      exact ⟨o, e, ex.2.1⟩
    · obtain ⟨o, _, _, _, e, ex, _⟩ := I.hok p _ hk
      refine ⟨⟨o, e, ex.1⟩, fun a e2 => ?_⟩
      cases e2
      exact ⟨o, e, ex.2.1⟩
  | _ => exact False.elim ty
noncomputable def tBM0 (K : PySem.W.Frag) (T : String) (r : V → List V → Hp → VK → Prop) (to : TE) : TE := fun σ H Q => to σ H fun x H1 => tyV K T x H1 ∧ r x [] H1 Q
noncomputable def tBM (K : PySem.W.Frag) (T : String) (r : V → List V → Hp → VK → Prop) (to : TE) (t : TA) : TE := fun σ H Q => to σ H fun x H1 => tyV K T x H1 ∧ t σ H1 fun xs H2 => r x xs H2 Q
variable {o e : Expr} {es : List Expr} {to : TE} {t : TA} {name : Str} {apos cpos : Pos} {T id : String} {r : V → List V → Hp → VK → Prop}
theorem pe_bm0 (pa : PlainAttrs T) (slot : Slot T name id) (hty : typeOf (.builtin id) = pure (.type "method_descriptor")) (hm : MtR X id r) (ho : PE X o to)
    (hbase : attributeBase o name X.env (eval o X.env) = eval o X.env := by rfl) (hline : (apos.endLine == cpos.line) = true := by rfl) : PE X (.Call (.Attribute o name apos) [] [] cpos) (tBM0 X.K T r to) := by
  intro pins s σ H Q I h
  refine wpAny_Call_method0_late hbase hline (thn (ho pins s σ H _ I h) fun v s1 ⟨x, H1, I1, r1, ty, q1⟩ => ?_)
  obtain ⟨h1, h2⟩ := tyV_is I1 r1 ty
  exact ⟨T, id, pa, slot, hty, h1, h2, Calls.callWith_builtin rfl (PySem.evalArgs_none (hm pins s1 σ H1 x [] v [] Q I1 r1 .nil q1))⟩
theorem pe_bm (pa : PlainAttrs T) (slot : Slot T name id) (hty : typeOf (.builtin id) = pure (.type "method_descriptor")) (hm : MtR X id r) (ho : PE X o to) (ha : PA X (e :: es) t)
    (hbase : attributeBase o name X.env (eval o X.env) = eval o X.env := by rfl)
    (hfew : ((backTo cpos (starEach (e :: es) X.env)).all (fun x => !x.1) && (backToKw cpos (keywordEach [] X.env)).all (fun x => x.1.isSome)
      && decide ((e :: es).length + ([] : List Keyword).length + (if ([] : List Keyword).isEmpty then 0 else 1) < 30)) = true := by rfl)
    (hline : (apos.endLine == cpos.line) = true := by rfl) (hs : starEach (e :: es) X.env = (false, eval e X.env) :: starEach es X.env := by rfl) (hplain : (backTo cpos (starEach es X.env)).any (·.1) = false := by rfl) :
    PE X (.Call (.Attribute o name apos) (e :: es) [] cpos) (tBM X.K T r to t) := by
  intro pins s σ H Q I h
  refine wpAny_Call_method_late hbase hfew hline rfl (thn (ho pins s σ H _ I h) fun v s1 ⟨x, H1, I1, r1, ty, q1⟩ => ?_)
  obtain ⟨h1, h2⟩ := tyV_is I1 r1 ty
  refine ⟨T, id, pa, slot, hty, h1, h2, ?_⟩
  have hA := ha cpos pins s1 σ H1 _ I1 q1
  rw [hs] at hA ⊢
  refine Calls.callWith_builtin (by show (false || (backTo cpos (starEach es X.env)).any (·.1)) = false; rw [hplain] <;> rfl) (Calls.evalArgs_plain ?_)
  exact thn hA fun us s2 ⟨vs, H2, I2, r2, q2⟩ => hm pins s2 σ H2 x vs v us Q I2 r1 r2 q2
/- xs.append(e), list.index on a module's tuple .. are MtR facts of 06m -/
end
end L2

namespace L2
open PySem PySem.Spec PyProof.Rows

noncomputable def MtM (X : Cx) (id : String) (r : V → List V → Hp → VK → Prop) : Prop :=
  ∀ (pins : List (Addr × Obj)) (s : Shared) (σ : St) (H : Hp) (x : V) (xs : List V) (v : Value) (us : List Value) (Q : VK), Inv X pins σ H s → RelV x v → Vals xs us → r x xs H Q →
    wpAny (model X.prog X.w) X.A (call (.builtin id) (v :: us)) (EP X pins σ Q) X.xe s

theorem Vals.one {x : V} {us : List Value} (h : Vals [x] us) : ∃ u, us = [u] ∧ RelV x u := by
  cases h with
  | cons r t => cases t with
    | nil => exact ⟨_, rfl, r⟩
theorem Vals.two {x y : V} {us : List Value} (h : Vals [x, y] us) : Ex_2_3 (fun u v => us = [u, v]) (fun u v => RelV x u) (fun u v => RelV y v) := by
  cases h with
  | cons r t => cases t with
    | cons q t => cases t with
      | nil => exact ⟨_, _, rfl, r, q⟩
theorem Vals.zero : ∀ {us : List Value}, Vals [] us → us = []
  | _, .nil => rfl
theorem Vals.reverse {xs : List V} {us : List Value} (h : Vals xs us) : Vals xs.reverse us.reverse := by
  induction h with
  | nil => exact .nil
  | cons r t ih => rw [List.reverse_cons, List.reverse_cons]; exact Vals.append ih (.cons r .nil)
section
variable {X : Cx} {pins : List (Addr × Obj)} {σ : St} {H : Hp} {s : Shared} {l b : Addr} {xs ys zs : List V}

theorem Inv.lset {its its' : List Value} {n : Nat} {f : Array Value → Array Value} {t' : Nat} (I : Inv X pins σ H s) (hH : H l = some (.lst xs))
    (e : s.heap.get? l = some { cls := .type "list", data := .seq its.toArray n }) (hf : f its.toArray = its'.toArray) (hv : Vals ys its') (hz : ys.length ≤ sizeLine) :
    Inv X pins σ (upd H l (.lst ys)) { s with heap := s.heap.update l (Obj.mapSeq f), toks := t' } := by
  have q := PySem.IsL.update e f
  rw [hf] at q
  refine I.write (x := l) (e := l) (by rw [hH]; exact trivial) (.inl rfl) (fun b' u hb hu => (Heap.get?_update_other s.heap (Obj.mapSeq f) (Ne.symm hb)).trans hu) ⟨_, q⟩ ?_
  exact ⟨hz, its', _, hv, q⟩
theorem Inv.lnew {its : List Value} {t' : Nat} (I : Inv X pins σ H s) (hv : Vals ys its) (hz : ys.length ≤ sizeLine) :
    Inv X pins σ (upd H s.heap.objs.size (.lst ys)) { s with heap := s.heap.push { cls := .type "list", data := .seq its.toArray }, toks := t' } :=
  I.laid (fun _ _ q => Heap.get?_push_of_some _ q) (Nat.le_refl _) ⟨hz, its, 0, hv, Heap.get?_push_size _ rfl⟩
theorem Inv.fresh (I : Inv X pins σ H s) : H s.heap.objs.size = none := I.hok.fresh (Nat.le_refl _)
theorem Inv.lstM (I : Inv X pins σ H s) (hH : H l = some (.lst xs)) : xs.length ≤ sizeLine ∧ Ex_2_3 (fun (its : List Value) (n : Nat) => Vals xs its) (fun its n => xs.length = its.length) (fun its n => s.heap.get? l = some { cls := .type "list", data := .seq its.toArray n }) := by
  obtain ⟨z, its, n, r, e⟩ := I.hok l _ hH
  exact ⟨z, its, n, r, r.length, e⟩

theorem notLongL {n : Nat} (h : n ≤ sizeLine) : Builtin.List.listTooLong n = false := by
  unfold Builtin.List.listTooLong
  exact decide_eq_false (by omega)
end

section
variable {X : Cx}

noncomputable def rAppend : V → List V → Hp → VK → Prop := fun x vs H Q => Ex_3_5 (fun l xs y => x = .ref l) (fun l xs y => vs = [y]) (fun l xs y => H l = some (.lst xs)) (fun l xs y => xs.length < sizeLine) (fun l xs y => Q .non (upd H l (.lst (xs ++ [y]))))
theorem mt_append : MtM X "list.append" rAppend := by
  intro pins s σ H x vs v us Q I rx rv h
  obtain ⟨l, xs, y, rfl, rfl, hH, hz, q⟩ := h
  cases rx
  obtain ⟨u, rfl, ru⟩ := rv.one
  obtain ⟨z, its, n, r, hl, e⟩ := I.lstM hH
  refine call_meets F.slot_list_append ⟨_, e, rfl⟩ F.entry_list_append (F.args_list_append_2 _ _) (PySem.list_append l its.toArray n u (by rw [List.size_toArray]; omega)) ⟨e, ?_⟩
  refine ⟨.non, _, I.lset (its' := its ++ [u]) hH e (by simp) (r.append (.cons ru .nil)) ?_, rfl, q⟩
  rw [List.length_append, List.length_singleton]
  omega

noncomputable def rExtend : V → List V → Hp → VK → Prop := fun x vs H Q => Ex_4_6 (fun l b xs zs => x = .ref l) (fun l b xs zs => vs = [.ref b]) (fun l b xs zs => H l = some (.lst xs)) (fun l b xs zs => H b = some (.lst zs)) (fun l b xs zs => xs.length + zs.length ≤ sizeLine) (fun l b xs zs => Q .non (upd H l (.lst (xs ++ zs))))
theorem mt_extend : MtM X "list.extend" rExtend := by
  intro pins s σ H x vs v us Q I rx rv h
  obtain ⟨l, b, xs, zs, rfl, rfl, hH, hB, hz, q⟩ := h
  cases rx
  obtain ⟨u, rfl, ru⟩ := rv.one
  cases ru
  obtain ⟨z, its, n, r, hl, e⟩ := I.lstM hH
  obtain ⟨z2, its2, n2, r2, hl2, e2⟩ := I.lstM hB
  have hsz : its.toArray.size + its2.toArray.size ≤ sizeLine := by rw [List.size_toArray, List.size_toArray]; omega
  have hlong : ¬ (!its.toArray.isEmpty && Builtin.List.listTooLong (its.toArray.size + its2.toArray.size)) = true := by
    rw [notLongL hsz, Bool.and_false]
    exact Bool.false_ne_true
  refine call_meets F.slot_list_extend ⟨_, e, rfl⟩ F.entry_list_extend (F.args_list_extend_2 _ _)
    (AutoSeq1.list_extend_list_list_0 l its.toArray n b its2.toArray n2 hlong (by rw [List.size_toArray]; omega) (by omega)) ⟨e, e2, ?_⟩
  refine ⟨.non, _, I.lset (its' := its ++ its2) hH e (by simp) (r.append r2) ?_, rfl, q⟩
  rw [List.length_append]
  omega

noncomputable def rClear : V → List V → Hp → VK → Prop := fun x vs H Q => Ex_2_4 (fun l xs => x = .ref l) (fun l xs => vs = []) (fun l xs => H l = some (.lst xs)) (fun l xs => Q .non (upd H l (.lst [])))
theorem mt_clear : MtM X "list.clear" rClear := by
  intro pins s σ H x vs v us Q I rx rv h
  obtain ⟨l, xs, rfl, rfl, hH, q⟩ := h
  cases rx
  have hus := rv.zero
  subst hus
  obtain ⟨z, its, n, r, hl, e⟩ := I.lstM hH
  refine call_meets F.slot_list_clear ⟨_, e, rfl⟩ F.entry_list_clear (F.args_list_clear_1 _) (AutoSeq1.list_clear_list_0 l its.toArray n (by rw [List.size_toArray]; omega)) ⟨e, ?_⟩
  exact ⟨.non, _, I.lset (its' := []) (ys := []) hH e rfl .nil (Nat.zero_le _), rfl, q⟩

noncomputable def rCat : R2 := fun x y H Q => Ex_4_6 (fun l b xs zs => x = .ref l) (fun l b xs zs => y = .ref b) (fun l b xs zs => H l = some (.lst xs)) (fun l b xs zs => H b = some (.lst zs)) (fun l b xs zs => xs.length + zs.length ≤ sizeLine) (fun l b xs zs => ∀ p, H p = none → Q (.ref p) (upd H p (.lst (xs ++ zs))))
theorem op_cat : OpR X (binaryOp .Add) rCat := by
  intro pins s σ H x y v u Q I rx ry h
  obtain ⟨l, b, xs, zs, rfl, rfl, hH, hB, hz, q⟩ := h
  cases rx
  cases ry
  obtain ⟨z, its, n, r, hl, e⟩ := I.lstM hH
  obtain ⟨z2, its2, n2, r2, hl2, e2⟩ := I.lstM hB
  refine PySem.P.add_list e e2 ?_ (by rw [List.size_toArray, List.size_toArray]; omega)
  have ea : its.toArray ++ its2.toArray = (its ++ its2).toArray := by simp
  rw [ea]
  exact ⟨.ref _, _, I.lnew (t' := s.toks) (r.append r2) (by rw [List.length_append]; omega), rfl, q _ I.fresh⟩
end

section
variable {prog : Program} {w : World} {A : Around} {E : Value → Shared → Prop} {s : Shared}
set_option maxRecDepth 100000 in
end

section
variable {X : Cx}
end
end L2

namespace Att
open PySem PySem.W PySem.Calls PyProof.Rows

theorem ints_of_wellAll {P : Params} {h : Heap} : ∀ (ns : List Int) (vs : List Value), WellAll P h vs (ns.map WData.int) → IntsAre vs ns := by
  intro ns
  induction ns with
  | nil =>
    intro vs w
    rw [List.map_nil] at w
    cases w
    exact .nil
  | cons n ns ih =>
    intro vs w
    rw [List.map_cons] at w
    cases w with
    | cons a b =>
      cases a
      exact .cons _ _ (ih _ b)

theorem script_of {l : OpenLaw} {n : Nat} (hn : l.most = some n) {P : Params} {h : Heap} {args : List WData} {vals : List Value}
    (hpre : l.row.toRowW.claim.pre args = true) (hwl : WellAll P h vals args) :
    Ex_3_5 (fun a vs ns => vals = [Value.ref a]) (fun a vs ns => args = [WData.list (ns.map WData.int)]) (fun a vs ns => h.get? a = some { cls := .type "list", data := .seq vs.toArray }) (fun a vs ns => IntsAre vs ns) (fun a vs ns => ns.length ≤ n) := by
  have hsh : WShape.hasAll [] args [.list .int] = true := (pre_splitW hpre).1
  have hc : l.pre.holds [] { args := args } = true := (pre_splitW hpre).2
  obtain ⟨d, r, rfl, h1, h2⟩ := hasAllW_cons hsh
  obtain rfl := hasAllW_nil h2
  obtain ⟨xs, rfl, h3⟩ := hasW_list h1
  obtain ⟨ns, rfl⟩ := items_int h3
  have hlen : ns.length ≤ n := by
    unfold OpenLaw.pre at hc
    have h4 : (WTm.not (.lt (.lit (.int (n : Int))) (.len (.arg 0)))).holds [] { args := [.list (ns.map .int)] } = true := by
      have h4 := (holds_andW hc).1
      rw [hn] at h4
      exact h4
    have h5 := condW_of h4 (w_not (w_lt w_lit (w_len_list (w_arg rfl))))
    rw [List.length_map] at h5
    refine Nat.le_of_not_lt fun q => ?_
    have q' : (n : Int) < ((ns.length : Nat) : Int) := by omega
    first
      | (rw [decide_eq_true q'] at h5; exact absurd h5 (by decide))
      | (simp at h5; omega)
  cases hwl with
  | cons w1 w2 =>
    cases w2
    cases w1 with
    | list ho hall => exact ⟨_, _, ns, rfl, rfl, ho, ints_of_wellAll ns _ hall, hlen⟩

theorem post_true (l : OpenLaw) (args : List WData) : l.row.toRowW.claim.post args (.bool true) args = true :=
  postW_of (r := l.row.toRowW) (X := (true == true))
    (show WShape.has [] (.bool true) .bool = true by first | rfl | decide | simp [WShape.has, WShape.arms, WShape.armsAll])
    (show (WTm.eq .res (.lit (.bool true))).value [] { args := args, res := some (.bool true), after := args } = some (.bool (true == true)) from w_eq_bool (w_res rfl) w_lit) rfl

theorem attach_call {l : OpenLaw} {n : Nat} {q : Program} {loose : List Str} {XP : (Str → Option Value) → Heap → Prop} {YP : World → Heap → Prop} {d : DefRec}
    (hn : l.most = some n) (hdf : d.params.defaults = [])
    (call : ∀ (w : World) (s₀ s₁ : Shared) (mg mb : Str → Option Value) (fa : Addr) (o : Obj) (pm cd doc : Value) (a : Addr) (vs : List Value) (ns : List Int),
      Ground q loose [] XP w s₀ mg mb s₁.heap → YP w s₁.heap →
      s₁.heap.get? fa = some o → o.data = .func (docDef d.name d.params d.body d.scope pm cd doc) → s₁.heap.CodeRec cd d.name → mg d.name = some (.ref fa) →
      s₁.heap.get? a = some { cls := .type "list", data := .seq vs.toArray } → IntsAre vs ns → ns.length ≤ n → s₁.gens = #[] →
      codeAny (model l.prog w) callerA (.call (.ref fa) ⟨[.ref a], []⟩) (fun r s' => r = .ok (.ret (.bool true)) ∧ OldK s₁.heap s'.heap ∧ s'.os = s₁.os ∧ AllBare s'.gens) s₁) :
    WalkO q loose XP YP l.row.toRowW d [] (fun f vs => PySem.call f vs) := by
  intro w s₀ s₁ mg mb G Y fa o pm cd doc dV kV ho hd hcd hD hmg hg args vals as hpre hlay hrd hwl hlo
  obtain rfl : dV = .none := Dflts.none hD hdf
  obtain rfl : kV = .none := Dflts.noKw hD
  obtain ⟨a, vs, ns, rfl, rfl, hobj, hints, hlen⟩ := script_of hn hpre hwl
  refine enter_call (codeAny_mono (call w s₀ s₁ mg mb fa o pm cd doc a vs ns G Y ho (fd_plain hd) hcd hmg hobj hints hlen hg) fun r s' hq => ?_)
  obtain ⟨rfl, h2, h3, h4⟩ := hq
  exact ⟨.inl ⟨.bool true, .bool true, [], rfl, fun _ => rfl, .bool true, post_true l _, fun _ => ⟨List.Pairwise.nil, fun _ hm => (nomatch hm)⟩⟩, h2, h3, h4⟩

section
variable {prog : Program} {w : World} {A : Around} {E : Value → Shared → Prop} {s : Shared} {K : Frag}

noncomputable def ledger (h : Heap) (L d : Addr) : List (Addr × Obj) := (List.range h.objs.size).filterMap fun a => if a = L ∨ a = d then none else (h.get? a).map fun o => (a, o)
end
end Att

namespace L2
open PySem PySem.Spec PyProof.Rows

theorem vals_ints : ∀ {vs : List Value} {ns : List Int}, IntsAre vs ns → Vals (ns.map V.int) vs
  | _, _, .nil => .nil
  | _, _, .cons n t h => .cons ⟨t, rfl⟩ (vals_ints h)

noncomputable def Only (H : Hp) : Prop := ∀ b, H b = none ∨ Ex_2_1 (fun o xs => H b = some (.frz o (.lst xs)))

theorem law_call {P : Program} {w : World} {K : PySem.W.Frag} {mg mb : Str → Option Value} {CX : CXT} {k : Nat} {fa a : Addr} {fd : FuncData} {x : Str} {sp : Sp} {s₁ : Shared} {vs : List Value} {ns : List Int}
    (KX : K.In s₁.heap) (hns : s₁.heap.Ns mainGlobals mg) (hb : s₁.heap.Ns builtinsNs mb) (hbb : ∀ x : Str, x ≠ "__name__" → mb x = bootBuiltins x) (hlim : s₁.heap.NoLimit) (hg : s₁.gens = #[])
    (ha : s₁.heap.get? a = some { cls := .type "list", data := .seq vs.toArray }) (hi : IntsAre vs ns) (hl : ns.length ≤ sizeLine) (hr : Room k callerA)
    (F : ∀ base : Heap, K.In base → base.Ns mainGlobals mg → FnOk P w K mg base CX k fa fd [x] sp) (hbind : ∀ (s : Shared) (u : Value), BindsTo s fd ⟨[u], []⟩ [(x, u)])
    (hsp : ∀ H : Hp, Only H → SqL K H a (ns.map V.int) → sp [.ref a] H (fun v _ => v = .bl true) fun _ _ _ => False)
    (hCX : ∀ H e s', CX [] H s₁ (fun _ _ _ => False) e s' → False) :
    codeAny (model P w) callerA (.call (.ref fa) ⟨[.ref a], []⟩) (fun r s' => r = .ok (.ret (.bool true)) ∧ OldK s₁.heap s'.heap ∧ s'.os = s₁.os ∧ AllBare s'.gens) s₁ := by
  have rv := vals_ints hi
  have lenV := hi.length
  have core : ∀ H : Hp, Only H → SqL K H a (ns.map V.int) → HOk P w H s₁.heap → (∀ b, H b ≠ none → b = a) → (H a ≠ none → K.lookup a = none) →
      codeAny (model P w) callerA (.call (.ref fa) ⟨[.ref a], []⟩) (fun r s' => r = .ok (.ret (.bool true)) ∧ OldK s₁.heap s'.heap ∧ s'.os = s₁.os ∧ AllBare s'.gens) s₁ := by
    intro H hO hS hok hA hK
    have base_of : ∀ {b : Addr} {o : Obj}, s₁.heap.get? b = some o → H b = none → (hidT s₁.heap H).get? b = some o := fun e n => hidT_get e n
    have noA : ∀ {b : Addr} {o : Obj} {es : Array DictEntry} {ep : Nat}, s₁.heap.get? b = some o → o.data = .dict es ep → H b = none := fun {b o es ep} e d => by
      cases q : H b with
      | none => rfl
      | some u =>
        have e' : b = a := hA b (by rw [q]; simp)
        subst e'
        rw [ha] at e; cases e
        have d' : Data.seq vs.toArray _ = Data.dict es ep := d
        cases d'
    have nsK : ∀ {b : Addr} {m : Str → Option Value}, s₁.heap.Ns b m → (hidT s₁.heap H).Ns b m := fun {b m} ⟨o, es, ep, e, d, r⟩ => ⟨o, es, ep, base_of e (noA e d), d, r⟩
    have hKb : K.In (hidT s₁.heap H) := fun b o e => base_of (KX b o e) (by
      cases q : H b with
      | none => rfl
      | some u =>
        have e' : b = a := hA b (by rw [q]; simp)
        subst e'
        rw [hK (by rw [q]; simp)] at e; cases e)
    have hM : Mod K mg (hidT s₁.heap H) := ⟨hKb, nsK hns, ⟨mb, nsK hb, hbb⟩, let ⟨mc, h1, h2⟩ := hlim; ⟨mc, nsK h1, h2⟩⟩
    have e0 : Env0 P w K mg (hidT s₁.heap H) callerA [] s₁ H := ⟨rfl, hM, fun b o e => of_hidT e, Nat.le_of_eq (hidT_size _ _), trivial, fun b hb => absurd (show b ∈ ([] : List Addr) from hb) (by simp), hok, .of_eq hg⟩
    refine codeAny_mono ((F _ hKb (nsK hns)).run callerA [] s₁ H ⟨[.ref a], []⟩ [.ref a] [.ref a] _ _ hr e0 (hbind s₁ (.ref a)) (.cons rfl .nil) (hsp H hO hS)) fun r s' h => ?_
    cases r with
    | error e => exact (hCX H e s' h).elim
    | ok fl =>
      cases fl with
      | next => exact False.elim h
      | brk => exact False.elim h
      | cont => exact False.elim h
      | ret u =>
        obtain ⟨v, H', os, bare, un, hok', r', q⟩ := h
        have q' : v = .bl true := q
        subst q'
        obtain rfl : u = Value.bool true := r'
        refine ⟨rfl, OldK.of_keep fun b o e => ?_, os, bare⟩
        cases q : H b with
        | none => exact un.keep b o e q (by intro z; exact absurd (show b ∈ ([] : List Addr) from z) (by simp)) (by simp)
        | some u =>
          rcases hO b with z | ⟨ob, xs, z⟩
          · rw [q] at z; cases z
          · have z2 := un.frzs b ob _ z
            obtain ⟨e1, _⟩ := hok b _ z
            obtain ⟨e2, _⟩ := hok' b _ z2
            rw [e] at e1; cases e1
            exact e2
  cases hk : K.lookup a with
  | some o =>
    have e := KX a o hk
    rw [ha] at e
    cases e
    refine core (fun _ => none) (fun _ => .inl rfl) (.inr ⟨_, vs.toArray, _, hk, rfl, rfl, rfl, by rw [List.size_toArray, lenV]; exact hl, by simpa using rv⟩) (fun b u z => by have z' : (none : Option HO) = some u := z; cases z') (fun b z => absurd rfl z) fun z => absurd rfl z
  | none =>
    refine core (fun b => if b = a then some (.frz { cls := .type "list", data := .seq vs.toArray } (.lst (ns.map V.int))) else none) (fun b => ?_) (.inl (.inr ⟨{ cls := .type "list", data := .seq vs.toArray }, if_pos rfl⟩)) (fun b u z => ?_) (fun b z => ?_) fun _ => hk
    · by_cases hb : b = a
      · exact .inr ⟨_, _, if_pos hb⟩
      · exact .inl (if_neg hb)
    · by_cases hb : b = a
      · have z' := (if_pos hb).symm.trans z
        cases z'
        subst hb
        exact ⟨ha, by rw [List.length_map]; exact hl, vs, _, rv, ha⟩
      · have z' := (if_neg hb).symm.trans z
        cases z'
    · by_cases hb : b = a
      · exact hb
      · exact absurd (if_neg hb) z
end L2

namespace L2
open PySem PySem.Spec PyProof.Rows

noncomputable abbrev KOf {K : PySem.W.Frag} {h : Heap} (_ : K.In h) : PySem.W.Frag := K

theorem walk_of {l : PySem.W.OpenLaw} {n k : Nat} {q : Program} {loose : List Str} {XP : (Str → Option Value) → Heap → Prop} {YP : World → Heap → Prop} {d : DefRec} {K : Params → PySem.W.Frag} {CX : World → CXT} {sp : World → Sp} {x : Str}
    (hn : l.most = some n) (hn2 : n ≤ sizeLine) (hdf : d.params.defaults = []) (hr : Room k callerA)
    (hY : ∀ (w : World) (h : Heap), YP w h → (K w.params).In h)
    (F : ∀ (w : World) (mg : Str → Option Value) (fa : Addr) (h : Heap), (K w.params).In h → h.Ns mainGlobals mg → mg d.name = some (.ref fa) →
      ∃ fd : FuncData, (∀ (s : Shared) (u : Value), BindsTo s fd ⟨[u], []⟩ [(x, u)]) ∧
        ∀ base : Heap, (K w.params).In base → base.Ns mainGlobals mg → FnOk l.prog w (K w.params) mg base (CX w) k fa fd [x] (sp w))
    (hsp : ∀ (w : World) (H : Hp) (a : Addr) (ns : List Int), ns.length ≤ n → Only H → SqL (K w.params) H a (ns.map V.int) → sp w [.ref a] H (fun v _ => v = .bl true) fun _ _ _ => False)
    (hCX : ∀ (w : World) (H : Hp) (s : Shared) (e : Value) (s' : Shared), CX w [] H s (fun _ _ _ => False) e s' → False) :
    PySem.W.WalkO q loose XP YP l.row.toRowW d [] (fun f vs => PySem.call f vs) := by
  refine Att.attach_call hn hdf fun w s₀ s₁ mg mb fa o pm cd doc a vs ns G Y ho hd hcd hmg hobj hints hlen hg => ?_
  have KX := hY w _ Y
  obtain ⟨fd, hb, hF⟩ := F w mg fa _ KX G.T.g hmg
  exact law_call KX G.T.g G.T.b G.T.builtins G.T.nolimit hg hobj hints (Nat.le_trans hlen hn2) hr hF hb (fun H hO hS => hsp w H a ns hlen hO hS) fun H e s' => hCX w H s₁ e s'
end L2

/- THE LAST THEOREM (shape; LID, My.* are yours):
   My.Adr: a structure of the addresses that your layer names (classes, functions); My.Txt K t: a structure (Prop) of the equations over K;
   My.txt_mk : {K} {implicit addresses ..} (e1 : nsIn K mainGlobals "law" = some (some (.ref f))) (e2 : K.lookup f = some ⟨oc, od, .func (fnOf "law" "law" params body scope dV kV doc pm an cdv ct), sl⟩) (e3 : codeIn K cdv "law" = true) .. : ∃ t, My.Txt K t

set_option maxRecDepth 100000 in
set_option maxHeartbeats 0 in
theorem PySem.Challenge.cw_LID_holds : PySem.Challenge.rw_LID.Holds := by
  w_on; o_law; k_head; (case hw => w_witness2)
  k_fill
  refine L2.walk_of (l := PySem.Challenge.rw_LID) (n := 63) (k := 40) (x := "script") (CX := fun w => ..) (sp := fun _ => My.sp_law) rfl (by decide) rfl ⟨rfl, by decide, by decide⟩ (fun w h Y => PySem.W.kIn_of Y) ?F ?S ?C
  case F =>
    intro w mg fa h KX G hmg
    have T : ∃ t, My.Txt (L2.KOf KX) t := by
      dsimp only [L2.KOf]                          -- K must stand as «<heap const> w.params» for k_is
      refine' My.txt_mk ?e1 ?e2 ?e3 ..
      (case e1 => PySem.W.k_is)                    -- in the order: a name -> its address -> its object -> its parts
      (case e2 => PySem.W.k_is)
      ..
    obtain ⟨t, T⟩ := T
    have e0 := hmg.symm.trans (PySem.W.mg_of KX G T.law)
    cases e0                                       -- fa is the law's own address
    exact ⟨_, fun s u => .of_eq rfl, fun base kb nb => My.law_fn T kb nb⟩     -- if «.of_eq rfl» comes too early: refine' ⟨_, ?b, fun base kb nb => My.law_fn T kb nb⟩; exact fun s u => .of_eq rfl
  case S => exact fun w H a ns hl hO hS => ..
  case C => exact ..
(the tactic k_is has no namespace: write k_is) -/

namespace L2
open PySem PySem.Spec PyProof.Rows

noncomputable def defArgs (s : Stmt) : Arguments := match s with
  | .FunctionDef _ a _ _ _ _ _ _ _ _ => a
  | _ => { posonlyargs := [], args := [], vararg := none, kwonlyargs := [], kw_defaults := [], kwarg := none, defaults := [] }
noncomputable def defBody (s : Stmt) : List Stmt := match s with
  | .FunctionDef _ _ b _ _ _ _ _ _ _ => b
  | _ => []
noncomputable def defScope (s : Stmt) : Scope := match s with
  | .FunctionDef _ _ _ _ _ _ sc _ _ _ => sc
  | _ => { kind := .function, names := [], isGenerator := false, isCoroutine := false }

noncomputable abbrev CX0 : CXT := fun _ _ _ _ _ _ => False
noncomputable abbrev E0 : XK := fun _ _ _ => False
theorem pass0 {X : Cx} : Passes CX0 X E0 := fun _ _ _ _ _ _ _ h => h.elim

structure Fun (K : PySem.W.Frag) (x qual : Str) (st : Stmt) (f : Addr) (fd : FuncData) : Prop where
  ex : ∃ (oc : Value) (od : Option Addr) (kV doc pm : Value) (an : Option Addr) (cdv ct : Value) (osl : Array (Option Value)),
    fd = PySem.W.fnOf x qual (defArgs st) (defBody st) (defScope st) .none kV doc pm an cdv ct ∧ K.lookup f = some ⟨oc, od, .func fd, osl⟩ ∧ PySem.W.codeIn K cdv qual = true
  kp : PySem.W.keepIn K (.ref f) = true
section
variable {P : Program} {w : World} {K : PySem.W.Frag} {mg : Str → Option Value} {base : Heap}
theorem Fun.ok {x qual : Str} {st : Stmt} {f : Addr} {fd : FuncData} {N ps : List Str} {k : Nat} {sp : Sp} (F : Fun K x qual st f fd) (S : FnScope N ps (defScope st)) (len : ∀ vs H Q E, sp vs H Q E → vs.length = ps.length)
    (hbody : ∀ (cdv : Value) (A : Around) (outer : List Env) (s : Shared) (H : Hp) (vs : List V) (Q : VK) (E : XK), Room k (A.deeper (envOfC qual (defScope st) s.heap.objs.size f cdv)) → sp vs H Q E →
      ∃ t, PSs (cxOf CX0 P w K mg base N qual (defScope st) f cdv A outer s H E).nox (defBody st) t ∧ t { nx := fun _ H' => Q .non H', rt := Q } (start N vs) H) : FnOk P w K mg base CX0 (k + 1) f fd ps sp := by
  obtain ⟨oc, od, kV, doc, pm, an, cdv, ct, osl, rfl, lk, hcd⟩ := F.ex
  refine fn_of lk hcd S len fun A outer s H vs Q E hr hsp => ?_
  obtain ⟨t, h, q⟩ := hbody cdv A outer s H vs Q E hr hsp
  exact ⟨t, h.nox, q⟩
theorem Fun.binds {x qual : Str} {st : Stmt} {f : Addr} {fd : FuncData} {ps : List Str} (F : Fun K x qual st f fd)
    (h : ∀ (kV doc pm : Value) (an : Option Addr) (cdv ct : Value) (us : List Value), us.length = ps.length → bindArgs (PySem.W.fnOf x qual (defArgs st) (defBody st) (defScope st) .none kV doc pm an cdv ct) ⟨us, []⟩ = pure (ps.zip us)) : Binds K fd ps [] := by
  obtain ⟨oc, od, kV, doc, pm, an, cdv, ct, osl, rfl, lk, hcd⟩ := F.ex
  exact .all (h kV doc pm an cdv ct)
theorem fun_mk {x qual : Str} {st : Stmt} {f : Addr} {oc : Value} {od an : Option Addr} {osl : Array (Option Value)} {kV doc pm cdv ct : Value} (l : K.lookup f = some ⟨oc, od, .func (PySem.W.fnOf x qual (defArgs st) (defBody st) (defScope st) .none kV doc pm an cdv ct), osl⟩)
    (c : PySem.W.codeIn K cdv qual = true) (k : PySem.W.keepIn K (.ref f) = true) : Fun K x qual st f (PySem.W.fnOf x qual (defArgs st) (defBody st) (defScope st) .none kV doc pm an cdv ct) := ⟨⟨oc, od, kV, doc, pm, an, cdv, ct, osl, rfl, l, c⟩, k⟩
end
theorem hu_of {A : Around} {k : Nat} (hr : Room k A) : A.units + 1 < cLine := Nat.lt_of_le_of_lt (Nat.add_le_add_left (by decide : 1 ≤ 64) _) hr.units
theorem small1000 {n : Nat} (h : n ≤ 1000) : n < sizeLine := Nat.lt_of_le_of_lt h (by decide)

section
variable {X : Cx}
theorem pv (i : Nat) {x : Str} {pos : Pos} (hN : X.N[i]? = some x := by rfl) (hv : Vis X.env.scope x := by first | exact Or.inl rfl | exact Or.inr (Or.inl rfl) | exact Or.inr (Or.inr rfl)) (hd : (x == ("__debug__" : Str)) = false := by decide)
    (hcd : (x == ("__classdict__" : Str)) = false := by decide) : PE X (.Name x pos) (tVar i) := pe_var hN hv hd hcd
end

theorem iteF {A B : Prop} (h : B) : if false = true then A else B := by
  rw [if_neg Bool.false_ne_true]
  exact h
theorem iteT {A B : Prop} (h : A) : if true = true then A else B := by
  rw [if_pos rfl]
  exact h
theorem ite2 {c A B : Prop} [Decidable c] (h1 : c → A) (h2 : ¬ c → B) : if c then A else B := by
  by_cases h : c
  · rw [if_pos h]
    exact h1 h
  · rw [if_neg h]
    exact h2 h
noncomputable def Same (H H' : Hp) : Prop := ∀ b o, H b = some o → H' b = some o
theorem Same.refl (H : Hp) : Same H H := fun _ _ h => h
theorem Same.trans {H H1 H2 : Hp} (a : Same H H1) (b : Same H1 H2) : Same H H2 := fun c o h => b c o (a c o h)
theorem Same.free {H H' : Hp} (e : Same H H') {l : Addr} (h : H' l = Option.none) : H l = Option.none := by
  cases q : H l with
  | none => rfl
  | some o =>
    rw [e l o q] at h
    cases h
theorem Same.seq {K : PySem.W.Frag} {H H' : Hp} {a : Addr} {xs : List V} (e : Same H H') (h : SqL K H a xs) : SqL K H' a xs := by
  rcases h with (h | ⟨o, h⟩) | h
  · exact .inl (.inl (e _ _ h))
  · exact .inl (.inr ⟨o, e _ _ h⟩)
  · exact .inr h

section
variable {κ : Type} [DecidableEq κ]
theorem nd_snoc : ∀ {l : List κ} {k : κ}, l.Nodup → ¬ k ∈ l → (l ++ [k]).Nodup
  | [], k, _, _ => by simp
  | a :: r, k, h, hk => by
    obtain ⟨h1, h2⟩ := List.nodup_cons.mp h
    show (a :: (r ++ [k])).Nodup
    refine List.nodup_cons.mpr ⟨fun m => ?_, nd_snoc h2 fun m => hk (List.mem_cons.mpr (Or.inr m))⟩
    rcases List.mem_append.mp m with q | q
    · exact h1 q
    · exact hk (List.mem_cons.mpr (Or.inl (List.mem_singleton.mp q).symm))
end
end L2

set_option Elab.async false
set_option linter.all false
set_option maxRecDepth 100000
set_option maxHeartbeats 4100000
namespace L2
open PySem PySem.Spec PyProof.Rows

noncomputable def Has (P : Program) (w : World) (K : PySem.W.Frag) (mg : Str → Option Value) (base : Heap) (k : Nat) (x : Str) (ps : List Str) (sp : Sp) : Prop :=
  ∃ (f : Addr) (fd : FuncData), FnOk P w K mg base CX0 k f fd ps sp ∧ mg x = some (.ref f) ∧ PySem.W.keepIn K (.ref f) = true ∧ Binds K fd ps []
theorem Has.mono {P : Program} {w : World} {K : PySem.W.Frag} {mg : Str → Option Value} {base : Heap} {j k : Nat} {x : Str} {ps : List Str} {sp : Sp} (h : Has P w K mg base j x ps sp) (hjk : j ≤ k) : Has P w K mg base k x ps sp := by
  obtain ⟨f, fd, F, r⟩ := h
  exact ⟨f, fd, F.mono hjk, r⟩
section
variable {X : Cx} {k : Nat} {x : Str} {ps : List Str} {sp : Sp} {p pos : Pos} {e : Expr} {es : List Expr} {t : TA}
theorem pe_fn (h : Has X.prog X.w X.K X.mg X.base k x ps sp) (hr : Room k X.A) (ha : PA X (e :: es) t) (hg : Gl X x := by rfl) (hdb : (x == ("__debug__" : Str)) = false := by decide)
    (he : starEach (e :: es) X.env = (false, eval e X.env) :: starEach es X.env := by rfl) (hpl : (backTo pos (starEach es X.env)).any (·.1) = false := by rfl) :
    PE X (.Call (.Name x p) (e :: es) [] pos) (tCall sp [] E0 t) := by
  obtain ⟨f, fd, F, hm, hk, hb⟩ := h
  exact pe_call F hr hg hm hk hb .nil pass0 ha hdb he hpl
end

noncomputable def ObjK (K : PySem.W.Frag) (H : Hp) (p : Addr) : Prop := (∃ xs, SqL K H p xs) ∨ (∃ xs, SqT K H p xs) ∨ ∃ kvs, Rd H p (.dK kvs)
noncomputable def isBoolV (K : PySem.W.Frag) (x : V) (H : Hp) (b : Bool) : Prop := match x with
  | .non => b = false | .bl _ => b = true | .int _ => b = false | .str _ => b = false
  | .ref p => b = false ∧ ObjK K H p
  | _ => False
noncomputable def isLstV (K : PySem.W.Frag) (x : V) (H : Hp) (b : Bool) : Prop := match x with
  | .non => b = false | .bl _ => b = false | .int _ => b = false | .str _ => b = false
  | .ref p => (b = true ∧ ∃ xs, SqL K H p xs) ∨ (b = false ∧ ((∃ xs, SqT K H p xs) ∨ ∃ kvs, Rd H p (.dK kvs)))
  | _ => False
section
variable {X : Cx}
noncomputable def rIs (T : String) (r : V → Hp → Bool → Prop) : List V → Hp → VK → Prop := fun xs H Q => Ex_2_3 (fun x b => xs = [x, .ty T]) (fun x b => r x H b) (fun x b => Q (.bl b) H)
theorem inst_yes {pins : List (Addr × Obj)} {s : Shared} {σ : St} {H : Hp} {Q : VK} {u : Value} {S T : String} (I : Inv X pins σ H s) (ht : s.TypeIs u S) (m : typeOf (.type T) = pure (.type "type")) (sb : isSubtype (.type S) (.type T) = pure true) (q : Q (.bl true) H) :
    wpAny (model X.prog X.w) X.A (call (.builtin "isinstance") [u, .type T]) (EP X pins σ Q) X.xe s := call_isinstance_yes ht m sb ⟨.bl true, H, I, rfl, q⟩
theorem lst_obj {pins : List (Addr × Obj)} {s : Shared} {σ : St} {H : Hp} {p : Addr} {xs : List V} (I : Inv X pins σ H s) (h : SqL X.K H p xs) : ∃ o, s.heap.get? p = some o ∧ o.cls = .type "list" := by
  obtain ⟨its, _, ⟨o, n, e, c, _⟩, _⟩ := I.list h
  exact ⟨o, e, c⟩
theorem tup_obj {pins : List (Addr × Obj)} {s : Shared} {σ : St} {H : Hp} {p : Addr} {xs : List V} (I : Inv X pins σ H s) (h : SqT X.K H p xs) : ∃ o, s.heap.get? p = some o ∧ o.cls = .type "tuple" := by
  obtain ⟨its, _, ⟨o, e, c, _⟩, _⟩ := I.tuple h
  exact ⟨o, e, c⟩
theorem dk_obj {pins : List (Addr × Obj)} {s : Shared} {σ : St} {H : Hp} {p : Addr} {kvs : List (Key × V)} (I : Inv X pins σ H s) (h : Rd H p (.dK kvs)) : ∃ o, s.heap.get? p = some o ∧ o.cls = .type "dict" := by
  obtain ⟨_, _, vs, _, o, _, _, e, x, _⟩ := dk_rd I.hok h
  exact ⟨o, e, x.1⟩
section
variable {pins : List (Addr × Obj)} {s : Shared} {σ : St} {H : Hp} {Q : VK} {T : String} {p : Addr}
theorem no_non (I : Inv X pins σ H s) (hne : (Value.type "NoneType" == Value.type T) = false) (m : typeOf (.type T) = pure (.type "type")) (sb : isSubtype (.type "NoneType") (.type T) = pure false) (q : Q (.bl false) H) :
    wpAny (model X.prog X.w) X.A (call (.builtin "isinstance") [.none, .type T]) (EP X pins σ Q) X.xe s := PySem.call_isinstance (isinstance_false_none hne m sb) ⟨.bl false, H, I.tok _, rfl, q⟩
theorem no_bl {b : Bool} (I : Inv X pins σ H s) (hne : (Value.type "bool" == Value.type T) = false) (m : typeOf (.type T) = pure (.type "type")) (sb : isSubtype (.type "bool") (.type T) = pure false) (q : Q (.bl false) H) :
    wpAny (model X.prog X.w) X.A (call (.builtin "isinstance") [.bool b, .type T]) (EP X pins σ Q) X.xe s := PySem.call_isinstance (isinstance_false_bool hne m sb) ⟨.bl false, H, I.tok _, rfl, q⟩
theorem no_int {i : Int} {t : Tok} (I : Inv X pins σ H s) (hne : (Value.type "int" == Value.type T) = false) (m : typeOf (.type T) = pure (.type "type")) (sb : isSubtype (.type "int") (.type T) = pure false) (q : Q (.bl false) H) :
    wpAny (model X.prog X.w) X.A (call (.builtin "isinstance") [.int i t, .type T]) (EP X pins σ Q) X.xe s := PySem.call_isinstance (isinstance_false_int hne m sb) ⟨.bl false, H, I.tok _, rfl, q⟩
theorem no_str {z : Str} {t : Tok} (I : Inv X pins σ H s) (hne : (Value.type "str" == Value.type T) = false) (m : typeOf (.type T) = pure (.type "type")) (sb : isSubtype (.type "str") (.type T) = pure false) (q : Q (.bl false) H) :
    wpAny (model X.prog X.w) X.A (call (.builtin "isinstance") [.str z t, .type T]) (EP X pins σ Q) X.xe s := PySem.call_isinstance (isinstance_false_str hne m sb) ⟨.bl false, H, I.tok _, rfl, q⟩
theorem no_lst {xs : List V} (I : Inv X pins σ H s) (h : SqL X.K H p xs) (hne : (Value.type "list" == Value.type T) = false) (m : typeOf (.type T) = pure (.type "type")) (sb : isSubtype (.type "list") (.type T) = pure false) (q : Q (.bl false) H) :
    wpAny (model X.prog X.w) X.A (call (.builtin "isinstance") [.ref p, .type T]) (EP X pins σ Q) X.xe s := PySem.call_isinstance (isinstance_false_list hne m sb) ⟨lst_obj I h, ⟨.bl false, H, I.tok _, rfl, q⟩⟩
theorem no_tup {xs : List V} (I : Inv X pins σ H s) (h : SqT X.K H p xs) (hne : (Value.type "tuple" == Value.type T) = false) (m : typeOf (.type T) = pure (.type "type")) (sb : isSubtype (.type "tuple") (.type T) = pure false) (q : Q (.bl false) H) :
    wpAny (model X.prog X.w) X.A (call (.builtin "isinstance") [.ref p, .type T]) (EP X pins σ Q) X.xe s := PySem.call_isinstance (isinstance_false_tuple hne m sb) ⟨tup_obj I h, ⟨.bl false, H, I.tok _, rfl, q⟩⟩
theorem no_dk {kvs : List (Key × V)} (I : Inv X pins σ H s) (h : Rd H p (.dK kvs)) (hne : (Value.type "dict" == Value.type T) = false) (m : typeOf (.type T) = pure (.type "type")) (sb : isSubtype (.type "dict") (.type T) = pure false) (q : Q (.bl false) H) :
    wpAny (model X.prog X.w) X.A (call (.builtin "isinstance") [.ref p, .type T]) (EP X pins σ Q) X.xe s := PySem.call_isinstance (isinstance_false_dict hne m sb) ⟨dk_obj I h, ⟨.bl false, H, I.tok _, rfl, q⟩⟩
theorem no_obj (I : Inv X pins σ H s) (h : ObjK X.K H p) (m : typeOf (.type T) = pure (.type "type")) (n1 : (Value.type "list" == Value.type T) = false) (s1 : isSubtype (.type "list") (.type T) = pure false)
    (n2 : (Value.type "tuple" == Value.type T) = false) (s2 : isSubtype (.type "tuple") (.type T) = pure false) (n3 : (Value.type "dict" == Value.type T) = false) (s3 : isSubtype (.type "dict") (.type T) = pure false) (q : Q (.bl false) H) :
    wpAny (model X.prog X.w) X.A (call (.builtin "isinstance") [.ref p, .type T]) (EP X pins σ Q) X.xe s := by
  rcases h with ⟨xs, h⟩ | ⟨xs, h⟩ | ⟨kvs, h⟩
  · exact no_lst I h n1 m s1 q
  · exact no_tup I h n2 m s2 q
  · exact no_dk I h n3 m s3 q
end
theorem call_isBool : CallR X (.builtin "isinstance") (rIs "bool" (isBoolV X.K)) := by
  intro pins s σ H xs us Q I r h
  obtain ⟨x, b, rfl, hx, q⟩ := h
  obtain ⟨u, u', rfl, r1, r2⟩ := vals2 r
  cases r2
  cases x with
  | non => cases r1; cases (show b = false from hx); exact no_non I (by decide) meta_bool sub_NoneType_bool q
  | bl z => cases r1; cases (show b = true from hx); exact inst_yes I rfl meta_bool sub_bool_bool q
  | int z => obtain ⟨t, rfl⟩ := r1; cases (show b = false from hx); exact no_int I (by decide) meta_bool sub_int_bool q
  | str z => obtain ⟨t, rfl⟩ := r1; cases (show b = false from hx); exact no_str I (by decide) meta_bool sub_str_bool q
  | ref p => cases r1; obtain ⟨rfl, o⟩ := hx; exact no_obj I o meta_bool (by decide) sub_list_bool (by decide) sub_tuple_bool (by decide) sub_dict_bool q
  | _ => exact False.elim hx
theorem call_isLst : CallR X (.builtin "isinstance") (rIs "list" (isLstV X.K)) := by
  intro pins s σ H xs us Q I r h
  obtain ⟨x, b, rfl, hx, q⟩ := h
  obtain ⟨u, u', rfl, r1, r2⟩ := vals2 r
  cases r2
  cases x with
  | non => cases r1; cases (show b = false from hx); exact no_non I (by decide) meta_list sub_NoneType_list q
  | bl z => cases r1; cases (show b = false from hx); exact no_bl I (by decide) meta_list sub_bool_list q
  | int z => obtain ⟨t, rfl⟩ := r1; cases (show b = false from hx); exact no_int I (by decide) meta_list sub_int_list q
  | str z => obtain ⟨t, rfl⟩ := r1; cases (show b = false from hx); exact no_str I (by decide) meta_list sub_str_list q
  | ref p =>
    cases r1
    rcases hx with ⟨rfl, xs, o⟩ | ⟨rfl, ⟨xs, o⟩ | ⟨kvs, o⟩⟩
    · exact inst_yes I (lst_obj I o) meta_list sub_list_list q
    · exact no_tup I o (by decide) meta_list sub_tuple_list q
    · exact no_dk I o (by decide) meta_list sub_dict_list q
  | _ => exact False.elim hx
end
end L2

namespace L2
open PySem PySem.Spec PyProof.Rows
theorem bt_len : bootBuiltins "len" = some (.builtin "len") := by decide +kernel
theorem bt_isinstance : bootBuiltins "isinstance" = some (.builtin "isinstance") := by decide +kernel
theorem bt_int : bootBuiltins "int" = some (.type "int") := by decide +kernel
theorem bt_bool : bootBuiltins "bool" = some (.type "bool") := by decide +kernel
theorem bt_list : bootBuiltins "list" = some (.type "list") := by decide +kernel
theorem bt_dict : bootBuiltins "dict" = some (.type "dict") := by decide +kernel
theorem Same.seqT {K : PySem.W.Frag} {H H' : Hp} {a : Addr} {xs : List V} (e : Same H H') (h : SqT K H a xs) : SqT K H' a xs := by
  rcases h with (h | ⟨o, h⟩) | h
  · exact .inl (.inl (e _ _ h))
  · exact .inl (.inr ⟨o, e _ _ h⟩)
  · exact .inr h
theorem Same.new {H : Hp} {p : Addr} {o : HO} (h : H p = none) : Same H (upd H p o) := fun b u e => by rw [upd_ne (ne_of_none e h)]; exact e
theorem Same.then {H H1 : Hp} {p : Addr} {o : HO} (s : Same H H1) (h : H1 p = none) : Same H (upd H1 p o) := s.trans (Same.new h)
theorem SqT.new {K : PySem.W.Frag} {H : Hp} {p : Addr} {xs : List V} : SqT K (upd H p (.tup xs)) p xs := SqT.of upd_same
theorem SqL.new {K : PySem.W.Frag} {H : Hp} {p : Addr} {xs : List V} : SqL K (upd H p (.lst xs)) p xs := SqL.of upd_same

inductive Deed where
  | put (x : Str) (n : Int) (g : V)
  | get (c x : Str) (g : V)
  | swap (c x : Str) (n : Int) (g : V)
  | fence (g : V)
  | bar (g : V)
noncomputable def Deed.items : Deed → List V
  | .put x n g => [.str "put", .str x, .int n, g]
  | .get c x g => [.str "get", .str c, .str x, g]
  | .swap c x n g => [.str "swap", .str c, .str x, .int n, g]
  | .fence g => [.str "fence", g]
  | .bar g => [.str "bar", g]
noncomputable def Deed.place : Deed → V
  | .put x _ _ => .str x | .get _ x _ => .str x | .swap _ x _ _ => .str x | _ => .non
noncomputable def Deed.writes : Deed → Bool
  | .put _ _ _ => true | .swap _ _ _ _ => true | _ => false
noncomputable def Deed.reads : Deed → Bool
  | .get _ _ _ => true | .swap _ _ _ _ => true | _ => false
noncomputable def Deed.number : Deed → V
  | .put _ n _ => .int n | .swap _ _ n _ => .int n | _ => .non
noncomputable def Deed.cup : Deed → V
  | .get c _ _ => .str c | .swap c _ _ _ => .str c | _ => .non
noncomputable def Deed.guard : Deed → V
  | .put _ _ g => g | .get _ _ g => g | .swap _ _ _ g => g | .fence g => g | .bar g => g
noncomputable def Gd (K : PySem.W.Frag) (H : Hp) (g : V) : Prop := g = .non ∨ Ex_4_2 (fun (q : Addr) (w c : Str) (n : Int) => g = .ref q) (fun q w c n => SqT K H q [.str w, .str c, .int n])
theorem Gd.same {K : PySem.W.Frag} {H H' : Hp} {g : V} (s : Same H H') (h : Gd K H g) : Gd K H' g := by
  rcases h with h | ⟨q, w, c, n, e, h⟩
  · exact .inl h
  · exact .inr ⟨q, w, c, n, e, s.seqT h⟩
end L2

namespace L2
open PySem PySem.Spec PyProof.Rows
section
variable {X : Cx} {st : Stmt} {rest : List Stmt} {t u : TS}
noncomputable def tCut (t u : TS) : TS := fun D σ H => Ex_1_2 (fun (R : St → Hp → Prop) => t { D with nx := R } σ H) (fun R => ∀ σ' H', R σ' H' → u D σ' H')
theorem pss_cut (h1 : PS X st t) (h2 : PSs X rest u) : PSs X (st :: rest) (tCut t u) := by
  intro pins s σ H D I h
  obtain ⟨R, h, hR⟩ := h
  refine wpAny_execs_cons (thn (h1 pins s σ H { D with nx := R } I h) fun f s1 q => ?_)
  cases f with
  | next =>
    obtain ⟨σ', H', I', q⟩ := q
    exact h2 pins s1 σ' H' D I' (hR σ' H' q)
  | brk => exact q
  | cont => exact q
  | ret v => exact q
end
theorem qb {Q : VK} {H : Hp} {b b' : Bool} (q : Q (.bl b) H) (e : b = b') : Q (.bl b') H := e ▸ q
theorem ifT {b : Bool} {A B : Prop} (e : b = true) (h : A) : if b = true then A else B := by rw [if_pos e]; exact h
theorem ifF {b : Bool} {A B : Prop} (e : b = false) (h : B) : if b = true then A else B := by rw [if_neg (by rw [e]; exact Bool.false_ne_true)]; exact h
theorem ifNt {c A B : Prop} [Decidable c] (hc : ¬ c) (h : A) : if (!decide c) = true then A else B := ifT (by rw [decide_eq_false hc]; rfl) h
theorem ifNf {c A B : Prop} [Decidable c] (hc : c) (h : B) : if (!decide c) = true then A else B := ifF (by rw [decide_eq_true hc]; rfl) h
theorem ifB {b : Bool} {A B : Prop} (h1 : b = true → A) (h2 : b = false → B) : if b = true then A else B := by
  cases b with
  | true => exact ifT rfl (h1 rfl)
  | false => exact ifF rfl (h2 rfl)
end L2

set_option Elab.async false
set_option linter.all false
set_option maxRecDepth 100000
set_option maxHeartbeats 4100000
namespace L2
open PySem PySem.Spec PyProof.Rows
section
variable {X : Cx}
theorem eqV_self {v : V} (h : flatV v = true) : eqV v v = true := by
  cases v with
  | non => rfl
  | bl b => simp [eqV]
  | int i => simp [eqV]
  | str x => simp [eqV]
  | _ => cases h
end
end L2
namespace L2
open PySem PySem.Spec PyProof.Rows
end L2
namespace L2
open PySem PySem.Spec PyProof.Rows
end L2

set_option Elab.async false
set_option linter.all false
set_option maxRecDepth 100000
set_option maxHeartbeats 4100000
namespace L2
open PySem PySem.Spec PyProof.Rows

noncomputable abbrev askAll (ifs : List Expr) (cenv : Env) : Sem Bool := forIn ifs true fun q r => if r = true then do let y ← isTrue q cenv (eval q cenv); pure (ForInStep.yield y) else pure (ForInStep.yield r)
noncomputable abbrev NoEx : Value → Shared → Prop := fun _ _ => False
theorem codeAny_compLoop_any {prog : Program} {w : World} {A : Around} {R : Result → Shared → Prop} {s : Shared} {elt target iter : Expr} {ifs : List Expr} {scope : Scope} {pos : Pos} {it acc : Value} {cenv : Env} (W : Nat → Shared → Prop)
    (turn : ∀ n sa, W n sa → wpAny (model prog w) A (pyNext it) (fun got sb => match got with
      | none => R (.ok .next) sb
      | some v => wpAny (model prog w) A (letOwnedTupleGo target it v) (fun _ sc => wpAny (model prog w) A (assign target cenv v) (fun _ sd =>
          wpAny (model prog w) A (askAll ifs cenv) (fun yes se =>
            if yes = true then wpAny (model prog w) A (eval elt cenv) (fun x sf =>
              wpAny (model prog w) A (call (.builtin "list.append") [acc, x]) (fun _ sg => ∃ m, m < n ∧ W m sg) NoEx sf) NoEx se
            else ∃ m, m < n ∧ W m se) NoEx sd) NoEx sc) NoEx sb) NoEx sa)
    (n : Nat) (h : W n s) : codeAny (model prog w) A (.compLoop (.ListComp elt [⟨target, iter, ifs, 0⟩] scope pos) 0 it acc cenv) R s := by
  refine codeAny_loop rfl W (fun n sa hW => ?_) n h
  show wpAny _ A ((compTurn (.ListComp elt [⟨target, iter, ifs, 0⟩] scope pos) 0 it acc cenv).onRaise (fun x => do noteFrame x cenv; theTreesLotGoes x)) _ _ sa
  refine wpAny_noted ?_
  rw [compTurn_list]
  refine wpAny_bind (wpAny_standAt (wpAny_bind (wpAny_mono (turn n sa hW) (fun got sb hb => ?_) fun _ _ z => z.elim)))
  cases got with
  | none => exact wpAny_pure hb
  | some v =>
    refine wpAny_bind (wpAny_mono hb (fun _ sc hc => ?_) fun _ _ z => z.elim)
    refine wpAny_bind (wpAny_mono hc (fun _ sd hd => wpAny_bind (wpAny_mono hd (fun yes se he => ?_) fun _ _ z => z.elim)) fun _ _ z => z.elim)
    cases yes with
    | false => exact wpAny_pure (And.intro rfl he)
    | true =>
      exact wpAny_bind (wpAny_bind (wpAny_mono he (fun x sf hf => wpAny_bind (wpAny_mono hf (fun _ sg hg => wpAny_pure (wpAny_pure ⟨rfl, hg⟩)) fun _ _ z => z.elim)) fun _ _ z => z.elim))

noncomputable def Cx.comp (X : Cx) (Nc : List Str) (scope : Scope) (cl : List (Str × Addr)) (C : Addr) (s3 : Shared) (H3 : Hp) (fp : List Addr) (pins : List (Addr × Obj)) : Cx :=
  { X with N := Nc, s₀ := s3, H₀ := H3, env := compEnvC scope cl C X.env, outer := X.stack, ex := fp, fn := fun _ => false, pn := X.pn ++ pins, xe := fun _ _ => False }
inductive Caps (X : Cx) (scope : Scope) : List Nat → List Str → Prop
  | nil : Caps X scope [] []
  | cons {j : Nat} {y : Str} {js : List Nat} {ys : List Str} : X.N[j]? = some y → X.env.kindOf y = some .cell → (relabel scope X.env).names.lookup y = some .cell → Caps X scope js ys → Caps X scope (j :: js) (y :: ys)
inductive CapsCl (X : Cx) : List (Str × Addr) → Prop
  | nil : CapsCl X []
  | cons {n : Str} {c : Addr} {r : List (Str × Addr)} : X.env.cells.lookup n = some c → CapsCl X r → CapsCl X ((n, c) :: r)
theorem CapsCl.at {X : Cx} : ∀ {cl : List (Str × Addr)}, CapsCl X cl → ∀ x c, cl.lookup x = some c → X.env.cells.lookup x = some c
  | _, .nil, _, _, h => by cases h
  | (n, d) :: r, .cons h1 h2, x, c, h => by
    rw [List.lookup_cons] at h
    cases e : x == n with
    | true =>
      rw [e] at h
      have : d = c := Option.some.inj h
      subst this
      rw [eq_of_beq e]
      exact h1
    | false => rw [e] at h; exact CapsCl.at h2 x c h
structure CompSc (X : Cx) (Nc : List Str) (nt : Nat) (js : List Nat) (scope : Scope) (cl : List (Str × Addr)) : Prop where
  clos : closureFor scope X.env = pure cl
  kind : scope.kind = .function
  cell : (scope.names.all fun y => y.2 != .cell) = true
  names : (scope.names.all fun y => y.2 != .local || scope.names.lookup y.1 == some .local) = true
  cls : CapsCl X cl
  has : (scope.names.all fun y => y.2 != .free || (cl.lookup y.1).isSome) = true
  caps : Ex_2_3 (fun ts ys => Nc = ts ++ ys) (fun ts ys => ts.length = nt) (fun ts ys => Caps X scope js ys)
noncomputable def capsOf (σ : St) (nt : Nat) (js : List Nat) : St := List.replicate nt none ++ js.map fun j => (σ[j]?).getD none
theorem Caps.length {X : Cx} {scope : Scope} : ∀ {js : List Nat} {ys : List Str}, Caps X scope js ys → js.length = ys.length
  | _, _, .nil => rfl
  | _, _, .cons _ _ _ r => by rw [List.length_cons, List.length_cons, r.length]
theorem Caps.get {X : Cx} {scope : Scope} : ∀ {js : List Nat} {ys : List Str}, Caps X scope js ys → ∀ (i : Nat) y, ys[i]? = some y → ∃ j, js[i]? = some j ∧ X.N[j]? = some y ∧ X.env.kindOf y = some .cell ∧ (relabel scope X.env).names.lookup y = some .cell
  | _, _, .nil, i, y, h => by simp at h
  | _, _, .cons h1 h2 h3 r, 0, y, h => by
    simp at h; subst h
    exact ⟨_, rfl, h1, h2, h3⟩
  | _, _, .cons _ _ _ r, i + 1, y, h => by
    obtain ⟨j, a⟩ := r.get i y (by simpa using h)
    exact ⟨j, by simpa using a.1, a.2⟩
theorem relabel_free {scope : Scope} {env : Env} (hc : (scope.names.all fun y => y.2 != .cell) = true) {x : Str} {k : NameKind} (hk : k = .cell ∨ k = .free) (h : (relabel scope env).names.lookup x = some k) : (x, NameKind.free) ∈ scope.names := by
  have hm : (x, k) ∈ (relabel scope env).names := PySem.mem_of_lookup h
  obtain ⟨⟨n, k'⟩, hp, e⟩ := List.mem_map.mp hm
  have nc : k' ≠ .cell := by
    have := List.all_eq_true.mp hc _ hp
    simpa using this
  dsimp only at e
  split at e
  · rename_i cond
    have e1 : n = x := congrArg Prod.fst e
    have kf : k' = .free := by
      simp only [Bool.and_eq_true, beq_iff_eq] at cond
      exact cond.1.1
    rw [← e1, ← kf]
    exact hp
  · have e1 : n = x := congrArg Prod.fst e
    have e2 : k' = k := congrArg Prod.snd e
    rcases hk with z | z
    · exact absurd (e2.trans z) nc
    · rw [← e1, ← (e2.trans z)]
      exact hp
section
variable {X : Cx} {Nc : List Str} {nt : Nat} {js : List Nat} {scope : Scope} {cl : List (Str × Addr)}
theorem CompSc.lk (S : CompSc X Nc nt js scope cl) {x : Str} {k : NameKind} (hk : k = .cell ∨ k = .free) (h : (relabel scope X.env).names.lookup x = some k) : ∃ c, cl.lookup x = some c := by
  have hm := relabel_free S.cell hk h
  have := List.all_eq_true.mp S.has _ hm
  have h2 : (cl.lookup x).isSome = true := by simpa using this
  exact Option.isSome_iff_exists.mp h2
theorem comp_start {pins : List (Addr × Obj)} {σ : St} {H3 : Hp} {s3 : Shared} {fp : List Addr} {h1 : Heap} {m : Str → Option Value} {tk : Nat} (S : CompSc X Nc nt js scope cl) (I : Inv X pins σ H3 s3)
    (hf : ∀ b ∈ fp, FpOk X pins H3 b) (hfo : ∀ b ∈ fp, ∃ o, s3.heap.get? b = some o) (hns : h1.Ns s3.heap.objs.size m) (hk : ∀ b o, s3.heap.get? b = some o → h1.get? b = some o) :
    Inv (X.comp Nc scope cl s3.heap.objs.size s3 H3 fp pins) [] (capsOf σ nt js) H3 { s3 with heap := h1, toks := tk } := by
  have fresh : H3 s3.heap.objs.size = none := I.hok.fresh (Nat.le_refl _)
  have nst : ∀ b ∈ fp, b ∉ frs X.stack := fun b hb z => by
    obtain ⟨_, n1, n2, _⟩ := hf b hb
    rcases List.mem_cons.mp (I.stkSub b z) with e | e
    · exact n1 e
    · exact n2 e
  have ok : (X.comp Nc scope cl s3.heap.objs.size s3 H3 fp pins).Ok := by
    refine ⟨I.ok.mod, S.kind, I.ok.glob, I.ok.blt, Nat.le_refl _, fun x y c a b => I.ok.inj x y c (S.cls.at x c a) (S.cls.at y c b), fun x hx => ?_, fun x c z => ?_, I.ok.hd, I.ok.frames, .inl rfl, fun b hb => ⟨?_, fun x c e => ?_⟩, I.bs, Nat.le_trans I.ok.bsz I.sz, fun b o e hb => ?_, nst, I.stack, I.stkFree⟩
    · rcases hx with hx | hx
      · exact S.lk (.inl rfl) hx
      · exact S.lk (.inr rfl) hx
    · exact absurd (show false = true from z) Bool.false_ne_true
    · obtain ⟨o, ho⟩ := hfo b hb
      exact Nat.ne_of_lt (Heap.lt_size ho)
    · exact (hf b hb).2.2.2.2.1 x c (S.cls.at x c e)
    · rcases (hf b hb).2.2.2.1 with z | z
      · exact I.ok.noex b o e z
      · exact absurd (Nat.lt_of_lt_of_le (Heap.lt_size e) (Nat.le_trans I.ok.bsz z)) (Nat.lt_irrefl _)
  have cellAt : ∀ x c v, X.env.cells.lookup x = some c → s3.heap.IsCell c v → h1.IsCell c v := fun x c v _ ⟨o, ho, hd⟩ => ⟨o, hk _ _ ho, hd⟩
  refine ⟨ok, rfl, I.bare, Un.kept hk, ⟨m, hns, fun i y v e1 e2 e3 => ?_⟩, fun x c e => ?_, fresh, fun x c e => I.freeC x c (S.cls.at x c e), fun p hp => ?_, I.hok.kept hk, ?_⟩
  · obtain ⟨ts, ys, hN, hnt, hc⟩ := S.caps
    have e1 : Nc[i]? = some y := e1
    by_cases hi : i < nt
    · unfold capsOf at e2
      rw [List.getElem?_append_left (by simpa using hi), List.getElem?_replicate] at e2
      split at e2 <;> cases e2
    · rw [hN, List.getElem?_append_right (by omega)] at e1
      unfold capsOf at e2
      rw [List.getElem?_append_right (by simpa using hi), List.length_replicate, List.getElem?_map] at e2
      rw [hnt] at e1
      obtain ⟨j, a1, a2, a3, a4⟩ := hc.get _ y e1
      rw [a1] at e2
      have e2' : (σ[j]?).getD none = some v := Option.some.inj e2
      have e2'' : σ[j]? = some (some v) := by
        cases q : σ[j]? with
        | none => rw [q] at e2'; cases e2'
        | some z => rw [q] at e2'; exact congrArg some e2'
      obtain ⟨mX, hnX, hlX⟩ := I.loc
      obtain ⟨u, r, l⟩ := hlX j y v a2 e2'' (.inr (.inl a3))
      refine ⟨u, r, .inr ⟨.inl a4, ?_⟩⟩
      rcases l with ⟨k1, _⟩ | ⟨_, c, hc1, hc2⟩
      · rw [a3] at k1; cases k1
      · obtain ⟨c', hc'⟩ := S.lk (.inl rfl) a4
        have := S.cls.at y c' hc'
        rw [hc1] at this
        have e : c = c' := Option.some.inj this
        subst e
        exact ⟨c, hc', cellAt y c _ hc1 hc2⟩
  · obtain ⟨v, z⟩ := I.cell x c (S.cls.at x c e)
    exact ⟨v, cellAt x c v (S.cls.at x c e) z⟩
  · have hp' : p ∈ X.pn ++ pins := by
      have hp : p ∈ (X.pn ++ pins) ++ [] := hp
      rwa [List.append_nil] at hp
    obtain ⟨e, n, ne, nf, d⟩ := I.pin p hp'
    refine ⟨hk _ _ e, n, Nat.ne_of_lt (Heap.lt_size e), fun z => ?_, d⟩
    rcases List.mem_cons.mp (I.stkSub p.1 z) with q | q
    · exact ne q
    · exact nf q
  · obtain ⟨ts, ys, hN, hnt, hc⟩ := S.caps
    show (capsOf σ nt js).length = Nc.length
    unfold capsOf
    rw [hN, List.length_append, List.length_append, List.length_replicate, List.length_map, hc.length, hnt]
theorem comp_end {pins : List (Addr × Obj)} {σ : St} {H3 Hf : Hp} {s3 s' : Shared} {fp : List Addr} {σ' : St} {pins' : List (Addr × Obj)} (I : Inv X pins σ H3 s3) (hf : ∀ b ∈ fp, FpOk X pins H3 b)
    (Ic : Inv (X.comp Nc scope cl s3.heap.objs.size s3 H3 fp pins) pins' σ' Hf s') : Inv X pins σ Hf s' ∧ FpOk X pins Hf s3.heap.objs.size ∧ ∃ m, s'.heap.Ns s3.heap.objs.size m := by
  obtain ⟨m, hn, _⟩ := Ic.loc
  refine ⟨I.call' Ic.os Ic.base Ic.hok Ic.bare fun b hb => ?_, I.fpOk (Nat.le_refl _) Ic.free, m, hn⟩
  obtain ⟨_, n1, _, n3, n4, n5⟩ := hf b hb
  exact ⟨n3, n1, n4, n5⟩
end

noncomputable def PTs (X : Cx) (ifs : List Expr) (t : TT) : Prop :=
  ∀ (pins : List (Addr × Obj)) (s : Shared) (σ : St) (H : Hp) (Q : Bool → Hp → Prop), Inv X pins σ H s → t σ H Q →
    wpAny (model X.prog X.w) X.A (askAll ifs X.env) (TP X pins σ Q) X.xe s
noncomputable def tTrue : TT := fun _ H Q => Q true H
theorem pts_nil {X : Cx} : PTs X [] tTrue := fun pins s σ H Q I h => wpAny_tests_nil ⟨H, I, h⟩
theorem pts_one {X : Cx} {c : Expr} {t : TT} (h : PT X c t) : PTs X [c] t := fun pins s σ H Q I q => wpAny_tests_one (h pins s σ H Q I q)
end L2

namespace L2
open PySem PySem.Spec PyProof.Rows
noncomputable def tLoopC (g : TG) (tt : TT) (te : TE) (σc : St) (D : Addr) (J : It) (H : Hp) (F : Hp → Prop) : Prop :=
  ∃ W : Nat → Nat → St → List V → Hp → Prop, (∃ m, W 0 m σc [] (upd H D (.lst []))) ∧ ∀ i m σ ys H, W i m σ ys H → H D = some (.lst ys) ∧
    ((J.stop i H ∧ F H) ∨ (J.go i H ∧ ys.length < sizeLine ∧ ∃ N : St → List V → Hp → Prop, (∀ σ' ys' H', N σ' ys' H' → ∃ m', m' < m ∧ W (i + 1) m' σ' ys' H') ∧
      ∀ x H', J.yld i H x H' → g x σ H' fun σ2 H2 => tt σ2 H2 fun b H3 => if b = true then te σ2 H3 fun y H4 => H4 D = some (.lst ys) ∧ N σ2 (ys ++ [y]) (upd H4 D (.lst (ys ++ [y]))) else N σ2 ys H3))
noncomputable def tComp (wi : TI) (g : TG) (tt : TT) (te : TE) (nt : Nat) (js : List Nat) : TE := fun σ H Q => wi σ H fun J H1 => ∀ D, H1 D = none → tLoopC g tt te (capsOf σ nt js) D J H1 fun Hf => Q (.ref D) Hf
section
variable {X : Cx} {Nc : List Str} {nt : Nat} {js : List Nat} {scope : Scope} {cl : List (Str × Addr)} {target elt iter : Expr} {ifs : List Expr} {pos : Pos} {g : TG} {tt : TT} {te : TE}
theorem comp_block {pins : List (Addr × Obj)} {σ : St} {H2 : Hp} {s2 : Shared} {it : Addr} {fp : List Addr} {tn : Nat → Heap → Prop} {J : It} {F : Addr → Hp → Prop} {E : Value → Shared → Prop} {RR : Value → Addr → Result → Shared → Prop}
    (hcalm : X.calm = true) (S : CompSc X Nc nt js scope cl) (I : Inv X pins σ H2 s2) (T : Turn X.prog X.w X.K target J fp it tn) (st : tn 0 s2.heap) (hf : ∀ b ∈ fp, FpOk X pins H2 b)
    (body : ∀ C s3 H3 fp pins, PG (X.comp Nc scope cl C s3 H3 fp pins) target g ∧ PTs (X.comp Nc scope cl C s3 H3 fp pins) ifs tt ∧ PE (X.comp Nc scope cl C s3 H3 fp pins) elt te)
    (h : ∀ D, H2 D = none → tLoopC g tt te (capsOf σ nt js) D J H2 (F D))
    (hRR : ∀ (D C : Addr) (Hf : Hp) (s' : Shared), F D Hf → Inv X pins σ Hf s' → FpOk X pins Hf C → (∃ m, s'.heap.Ns C m) → RR (.ref D) C (.ok .next) s') :
    wpAny (model X.prog X.w) X.A (newList []) (fun acc s₃ => wpAny (model X.prog X.w) X.A (newFunctionEnv scope X.env.globals cl [] X.env.qual none .none (some X.env)) (fun cenv s₄ =>
      codeAny (model X.prog X.w) X.A (.compStart (.ListComp elt [⟨target, iter, ifs, 0⟩] scope pos) 0 (.ref it) acc { cenv with scope := relabel scope X.env }) (RR acc cenv.locals) s₄) E s₃) E s2 := by
  have hD : H2 s2.heap.objs.size = none := I.hok.fresh (Nat.le_refl _)
  obtain ⟨W, ⟨m0, w0⟩, turn⟩ := h _ hD
  have I3 : Inv X pins σ (upd H2 s2.heap.objs.size (.lst [])) { s2 with heap := s2.heap.push { cls := .type "list", data := .seq ([] : List Value).toArray } } :=
    I.laid (t' := s2.toks) (fun b u e => Heap.get?_push_of_some _ e) (Nat.le_refl _) ⟨Nat.zero_le _, [], 0, .nil, Heap.get?_push_size _ rfl⟩
  have neD : ∀ b ∈ fp, b ≠ s2.heap.objs.size := fun b hb => by
    obtain ⟨o, ho, _⟩ := T.obj _ _ st b hb
    exact Nat.ne_of_lt (Heap.lt_size ho)
  have hf3 : ∀ b ∈ fp, FpOk X pins (upd H2 s2.heap.objs.size (.lst [])) b := fun b hb => ⟨by rw [upd_ne (neD b hb)]; exact (hf b hb).1, (hf b hb).2⟩
  refine wpAny_newObj_type (wpAny_newFunctionEnv (fun y hy => ?_) (by intro y hy; simp at hy) (fun h1 hns1 hsb1 => ?_) S.kind) (by show 0 ≤ sizeLine; decide)
  · have := List.all_eq_true.mp S.cell y hy
    simpa using this
  generalize hs3 : ({ s2 with heap := s2.heap.push { cls := .type "list", data := .seq ([] : List Value).toArray } } : Shared) = s3 at I3
  have e3 : s2.heap.push { cls := .type "list", dict := none, data := .seq ([] : List Value).toArray } = s3.heap := by rw [← hs3]
  dsimp only at hns1 hsb1 ⊢
  rw [e3] at hns1 hsb1
  have old : ∀ b o, s3.heap.get? b = some o → h1.get? b = some o := fun b o e => (hsb1.2 b (Nat.ne_of_lt (Heap.lt_size e))).trans (Heap.get?_push_of_some _ e)
  have st3 : tn 0 s3.heap := T.keep _ _ _ st fun b _ o e => by rw [← e3]; exact Heap.get?_push_of_some _ e
  have hfo : ∀ b ∈ fp, ∃ o, s3.heap.get? b = some o := fun b hb => let ⟨o, ho, _⟩ := T.obj _ _ st3 b hb; ⟨o, ho⟩
  have Ic0 := comp_start (tk := s3.toks + ([] : List (Str × Value)).length) S I3 hf3 hfo hns1 old
  have st4 : tn 0 h1 := T.keep _ _ _ st3 fun b _ o e => old b o e
  obtain ⟨hg, ht, he⟩ := body s3.heap.objs.size s3 (upd H2 s2.heap.objs.size (.lst [])) fp pins
  generalize hX : X.comp Nc scope cl s3.heap.objs.size s3 (upd H2 s2.heap.objs.size (.lst [])) fp pins = Xc at Ic0 hg ht he
  have p1 : X.prog = Xc.prog := by rw [← hX]; rfl
  have p2 : X.w = Xc.w := by rw [← hX]; rfl
  have p3 : X.A = Xc.A := by rw [← hX]; rfl
  have p4 : Xc.K = X.K := by rw [← hX]; rfl
  have p5 : Xc.env = compEnvC scope cl s3.heap.objs.size X.env := by rw [← hX]; rfl
  have p6 : Xc.xe = fun _ _ => False := by rw [← hX]; rfl
  have p7 : Xc.calm = true := by rw [← hX]; exact hcalm
  have stat : ∀ {H' : Hp}, (∀ b ∈ fp, H' b = none) → ∀ b ∈ fp, FpOk Xc [] H' b := fun {H'} hn b hb => by
    rw [← hX]
    obtain ⟨n0, n1, n2, n3, n4, n5⟩ := hf3 b hb
    refine ⟨hn b hb, ?_, ?_, .inl hb, fun x c e => n4 x c (S.cls.at x c e), fun p hp => n5 p ?_⟩
    · obtain ⟨o, ho⟩ := hfo b hb
      exact Nat.ne_of_lt (Heap.lt_size ho)
    · intro z
      rcases List.mem_cons.mp (I3.stkSub b z) with e | e
      · exact n1 e
      · exact n2 e
    · have hp : p ∈ (X.pn ++ pins) ++ [] := hp
      rwa [List.append_nil] at hp
  have loop : codeAny (model X.prog X.w) X.A (.compLoop (.ListComp elt [⟨target, iter, ifs, 0⟩] scope pos) 0 (.ref it) (.ref s2.heap.objs.size) (compEnvC scope cl s3.heap.objs.size X.env)) (RR (.ref s2.heap.objs.size) s3.heap.objs.size)
      { s3 with heap := h1, toks := s3.toks + ([] : List (Str × Value)).length } := by
    rw [← p5]
    refine codeAny_compLoop_any (fun n s' => ∃ i σ' ys H', Inv Xc [] σ' H' s' ∧ tn i s'.heap ∧ (∀ b ∈ fp, H' b = none) ∧ W i n σ' ys H') ?_ m0 ⟨0, capsOf σ nt js, [], _, Ic0, st4, fun b hb => (hf3 b hb).1, w0⟩
    rintro n s5 ⟨i, σ5, ys, H5, I5, st5, fr5, w5⟩
    obtain ⟨hD5, w5⟩ := turn i n σ5 ys H5 w5
    rw [p3]
    rcases w5 with ⟨stop, fin⟩ | ⟨go, hlen, N, hN, step⟩
    · refine thn (T.done Xc p1.symm p2.symm p4 p7 i [] s5 σ5 H5 _ I5 (stat fr5) st5 stop) fun r s6 ⟨hr, I6⟩ => ?_
      subst hr
      rw [← hX] at I6
      obtain ⟨a1, a2, a3⟩ := comp_end I3 hf3 I6
      exact hRR _ _ H5 s6 fin a1 a2 a3
    · refine thn (T.item Xc p1.symm p2.symm p4 p7 i [] s5 σ5 H5 _ I5 (stat fr5) st5 go) fun r s6 ⟨u, hr, h6⟩ => ?_
      subst hr
      refine thn h6 fun _ s7 ⟨x, H7, I7, r7, y7, st7, fr7⟩ => ?_
      have I7' := I7.pinned (stat fr7) (T.obj _ _ st7)
      have hg' := hg _ s7 σ5 H7 x u _ I7' r7 (step x H7 y7)
      rw [p6, ← p1, ← p2] at hg'
      refine thn hg' fun _ s8 ⟨σ8, H8, I8, q8⟩ => ?_
      have ht' := ht _ s8 σ8 H8 _ I8 q8
      rw [p6, ← p1, ← p2] at ht'
      refine thn ht' fun ok s9 ⟨H9, I9, q9⟩ => ?_
      have again : ∀ {σ' : St} {H' : Hp} {ys' : List V} {sz : Shared}, Inv Xc ([] ++ pinsAt fp s7.heap) σ' H' sz → N σ' ys' H' → ∃ m, m < n ∧ ∃ i σ' ys H', Inv Xc [] σ' H' sz ∧ tn i sz.heap ∧ (∀ b ∈ fp, H' b = none) ∧ W i m σ' ys H' := fun {σ' H' ys' sz} Iz nz => by
        obtain ⟨m', hm, wz⟩ := hN σ' ys' H' nz
        refine ⟨m', hm, i + 1, σ', ys', H', Iz.unpinned, T.keep _ _ _ st7 fun b hb o e => (Iz.pin (b, o) (List.mem_append_right _ (List.mem_append_right _ (mem_pinsAt hb e)))).1, fun b hb => ?_, wz⟩
        obtain ⟨o, e, d⟩ := T.obj _ _ st7 b hb
        exact (Iz.pin (b, o) (List.mem_append_right _ (List.mem_append_right _ (mem_pinsAt hb e)))).2.1
      cases ok with
      | false => exact again I9 q9
      | true =>
        have he' := he _ s9 σ8 H9 _ I9 q9
        rw [p6, ← p1, ← p2] at he'
        refine thn he' fun v s10 ⟨y, H10, I10, r10, hD10, q10⟩ => ?_
        have mt := mt_append (X := Xc) _ s10 σ8 H10 (.ref s2.heap.objs.size) [y] (.ref s2.heap.objs.size) [v] (fun _ H' => N σ8 (ys ++ [y]) H') I10 rfl (.cons r10 .nil) ⟨_, ys, y, rfl, rfl, hD10, hlen, q10⟩
        rw [p6, ← p1, ← p2] at mt
        refine thn mt fun _ s11 ⟨_, H11, I11, _, q11⟩ => ?_
        exact again I11 q11
  exact codeAny_compStart_list loop (T.self _ 0 _ _ _ st4 loop)
end
end L2

namespace L2
open PySem PySem.Spec PyProof.Rows
section
variable {X : Cx} {Nc : List Str} {nt : Nat} {js : List Nat} {scope : Scope} {cl : List (Str × Addr)} {target elt iter : Expr} {ifs : List Expr} {pos spos py : Pos} {wi : TI} {g : TG} {tt : TT} {te : TE}
theorem names_ok (h : (scope.names.all fun y => y.2 != .local || scope.names.lookup y.1 == some .local) = true) : ∀ y ∈ scope.names, y.2 = .local → scope.names.lookup y.1 = some .local := fun y hy e => by
  have := List.all_eq_true.mp h y hy
  rw [e] at this
  simpa using this
theorem pe_comp (hcalm : X.calm = true) (S : CompSc X Nc nt js scope cl) (hi : PI X target iter wi)
    (body : ∀ C s3 H3 fp pins, PG (X.comp Nc scope cl C s3 H3 fp pins) target g ∧ PTs (X.comp Nc scope cl C s3 H3 fp pins) ifs tt ∧ PE (X.comp Nc scope cl C s3 H3 fp pins) elt te)
    (hs : ∀ x, foldedSetIterable iter X.env x = pure x := by intro _; rfl) : PE X (.ListComp elt [⟨target, iter, ifs, 0⟩] scope pos) (tComp wi g tt te nt js) := by
  intro pins s σ H Q I h
  rw [eval_ListComp]
  refine wpAny_comprehension_free (use := none) rfl hs S.clos S.kind (names_ok S.names) (thn (hi pins s σ H _ I h) fun v s1 h1 => thn h1 fun itv s2 h2 => ?_)
  obtain ⟨it, fp, tn, J, H2, e, I2, T, st2, f2, hL⟩ := h2
  subst e
  refine comp_block (RR := fun acc C => compPost (model X.prog X.w) X.A X.xe none (EP X pins σ Q) acc C) hcalm S I2 T st2 f2 body hL fun D C Hf s' q I' fC hn => ?_
  obtain ⟨m, hn⟩ := hn
  obtain ⟨f0, f1, _, f3, f4, f5⟩ := fC
  refine ⟨m, hn, fun h' hs' => ⟨.ref D, Hf, I'.turned (t' := s'.toks) (fun b o hb e => (hs'.2 b hb).trans e) f0 f1 f3 f4 f5, rfl, q⟩⟩
noncomputable def tCompS (i : Nat) (wi : TI) (g : TG) (tt : TT) (te : TE) (nt : Nat) (js : List Nat) : TS := fun D σ H => tComp wi g tt te nt js σ H fun v H' => D.nx (σ.set i (some v)) H'
theorem ps_comp {i : Nat} {y : Str} (hcalm : X.calm = true) (hN : X.N.Nodup) (hy : X.N[i]? = some y) (hl : X.env.scope.names.lookup y = some .local) (S : CompSc X Nc nt js scope cl) (hi : PI X target iter wi)
    (body : ∀ C s3 H3 fp pins, PG (X.comp Nc scope cl C s3 H3 fp pins) target g ∧ PTs (X.comp Nc scope cl C s3 H3 fp pins) ifs tt ∧ PE (X.comp Nc scope cl C s3 H3 fp pins) elt te)
    (hsw : swapsWith (.ListComp elt [⟨target, iter, ifs, 0⟩] scope pos) (some (.Name y py)) spos.line X.env = pure true := by rfl)
    (hs : ∀ x, foldedSetIterable iter X.env x = pure x := by intro _; rfl) : PS X (.Assign [.Name y py] (.ListComp elt [⟨target, iter, ifs, 0⟩] scope pos) spos) (tCompS i wi g tt te nt js) := by
  intro pins s σ H D I h
  rw [exec_Assign_Name_used y py _ spos hsw]; refine wpAny_bind (wpAny_standAt (wpAny_bind ?_))
  show wpAny _ X.A (do let _ ← comprehension (.ListComp elt [⟨target, iter, ifs, 0⟩] scope pos) scope X.env _ (newList []) false (eval iter X.env) (some (assign (.Name y py) X.env))) _ _ s
  refine wpAny_bind (wpAny_mono (wpAny_comprehension_free (use := some (assign (.Name y py) X.env)) (Q := fun _ s' => SP X pins D .next s') rfl hs S.clos S.kind (names_ok S.names)
    (thn (hi pins s σ H _ I h) fun v s1 h1 => thn h1 fun itv s2 h2 => ?_)) (fun _ s' hq => wpAny_pure (wpAny_pure hq)) fun _ _ e => e)
  obtain ⟨it, fp, tn, J, H2, e, I2, T, st2, f2, hL⟩ := h2
  subst e
  refine comp_block (RR := fun acc C => compPost (model X.prog X.w) X.A X.xe (some (assign (.Name y py) X.env)) (fun _ s' => SP X pins D .next s') acc C) hcalm S I2 T st2 f2 body hL fun Da C Hf s' q I' fC hn => ?_
  obtain ⟨m, hn⟩ := hn
  obtain ⟨f0, f1, f2', f3, f4, f5⟩ := fC
  show wpAny _ X.A (assign (.Name y py) X.env (.ref Da)) _ _ _
  refine wpAny_assign_Name (store_ok2 I' hN hy (.inl hl) (v := .ref Da) rfl (fun s'' I'' ⟨a, hsb, ha⟩ => ?_) (.inr hl))
  have hCa : C ≠ a := by
    rcases ha with ha | ha
    · rw [ha]; exact f1
    · exact fun z => f4 _ _ ha z.symm
  refine ⟨m, hn.sameBut hsb hCa, fun h' hs' => ⟨_, Hf, I''.turned (t' := s''.toks) (fun b o hb e => (hs'.2 b hb).trans e) f0 f1 f3 f4 f5, q⟩⟩
end

theorem comp_list {K : PySem.W.Frag} {a D : Addr} {xs : List V} {g : TG} {tt : TT} {te : TE} {σc : St} {H : Hp} {F : Hp → Prop} (Pv : Nat → St → List V → Hp → Prop) (h0 : Pv 0 σc [] (upd H D (.lst [])))
    (hl : ∀ i σ ys H, i ≤ xs.length → Pv i σ ys H → SqL K H a xs ∧ H D = some (.lst ys) ∧ ys.length ≤ i) (hz : xs.length ≤ sizeLine)
    (hs : ∀ i x σ ys H, xs[i]? = some x → Pv i σ ys H → g x σ H fun σ2 H2 => tt σ2 H2 fun b H3 => if b = true then te σ2 H3 fun y H4 => H4 D = some (.lst ys) ∧ Pv (i + 1) σ2 (ys ++ [y]) (upd H4 D (.lst (ys ++ [y]))) else Pv (i + 1) σ2 ys H3)
    (hd : ∀ σ ys H, Pv xs.length σ ys H → F H) : tLoopC g tt te σc D (Itl K a) H F := by
  refine ⟨fun i m σ ys H => m = xs.length - i ∧ i ≤ xs.length ∧ Pv i σ ys H, ⟨xs.length, by simp, Nat.zero_le _, h0⟩, ?_⟩
  rintro i m σ ys H ⟨rfl, hi, p⟩
  obtain ⟨q, hD, hy⟩ := hl i σ ys H hi p
  refine ⟨hD, ?_⟩
  by_cases hlt : i < xs.length
  · refine .inr ⟨⟨xs, xs[i], q, by simp [hlt]⟩, by omega, Pv (i + 1), fun σ' ys' H' p' => ⟨xs.length - (i + 1), by omega, rfl, hlt, p'⟩, fun x H' y => ?_⟩
    obtain ⟨e, y⟩ := y
    subst e
    exact hs i x σ ys _ (y xs q) p
  · have e : i = xs.length := by omega
    subst e
    exact .inl ⟨⟨xs, q, Nat.le_refl _⟩, hd σ ys H p⟩
theorem comp_range {D : Addr} {lo : Int} {n : Nat} {g : TG} {tt : TT} {te : TE} {σc : St} {H : Hp} {F : Hp → Prop} (Pv : Nat → St → List V → Hp → Prop) (h0 : Pv 0 σc [] (upd H D (.lst [])))
    (hl : ∀ i σ ys H, i ≤ n → Pv i σ ys H → H D = some (.lst ys) ∧ ys.length ≤ i) (hz : n ≤ sizeLine)
    (hs : ∀ i σ ys H, i < n → Pv i σ ys H → g (.int (lo + i)) σ H fun σ2 H2 => tt σ2 H2 fun b H3 => if b = true then te σ2 H3 fun y H4 => H4 D = some (.lst ys) ∧ Pv (i + 1) σ2 (ys ++ [y]) (upd H4 D (.lst (ys ++ [y]))) else Pv (i + 1) σ2 ys H3)
    (hd : ∀ σ ys H, Pv n σ ys H → F H) : tLoopC g tt te σc D (Itr lo n) H F := by
  refine ⟨fun i m σ ys H => m = n - i ∧ i ≤ n ∧ Pv i σ ys H, ⟨n, by simp, Nat.zero_le _, h0⟩, ?_⟩
  rintro i m σ ys H ⟨rfl, hi, p⟩
  obtain ⟨hD, hy⟩ := hl i σ ys H hi p
  refine ⟨hD, ?_⟩
  by_cases hlt : i < n
  · refine .inr ⟨hlt, by omega, Pv (i + 1), fun σ' ys' H' p' => ⟨n - (i + 1), by omega, rfl, hlt, p'⟩, fun x H' y => ?_⟩
    obtain ⟨e, y⟩ := y
    subst e y
    exact hs i σ ys _ hlt p
  · have e : i = n := by omega
    subst e
    exact .inl ⟨Nat.le_refl _, hd σ ys H p⟩
end L2

set_option Elab.async false
set_option linter.all false
set_option maxRecDepth 100000
set_option maxHeartbeats 4100000
namespace L2
open PySem PySem.Spec PyProof.Rows

section
variable {prog : Program} {w : World} {A : Around} {E : Value → Shared → Prop} {s : Shared}
end

end L2

set_option Elab.async false
set_option linter.all false
set_option maxRecDepth 100000
set_option maxHeartbeats 4100000
namespace L2
open PySem PySem.Spec PyProof.Rows
structure SetAt (h : Heap) (a : Addr) (es : Array (Int × Value)) (ep : Nat) (t : SetTable) : Prop where
  ob : ∃ o, h.get? a = some o ∧ o.ExactSet ∧ o.data = .set es ep t
  fit : t.fits es.size = true
noncomputable def SitAt (h : Heap) (it : Addr) (fs : Array Value) : Prop := ∃ o, h.get? it = some o ∧ o.cls = .type "set_iterator" ∧ o.data = .fields fs
theorem SitAt.typeIs {s : Shared} {it : Addr} {fs : Array Value} (x : SitAt s.heap it fs) : s.TypeIs (.ref it) "set_iterator" := let ⟨o, h1, h2, _⟩ := x; ⟨o, h1, h2⟩
theorem SitAt.upd {h : Heap} {it : Addr} {fs : Array Value} (x : SitAt h it fs) (i : Nat) (v : Value) : SitAt (h.update it (Obj.mapFields (·.setIfInBounds i v))) it (fs.setIfInBounds i v) := by
  obtain ⟨o, h1, h2, h3⟩ := x
  exact ⟨_, Heap.get?_update_self _ h1 (Obj.isFreed_of_fields (Obj.data_mapFields h3 _)), (Obj.cls_mapFields ..).trans h2, Obj.data_mapFields h3 _⟩
section
variable {prog : Program} {w : World} {A : Around} {E : Value → Shared → Prop} {s : Shared}
end
end L2

set_option Elab.async false
set_option linter.all false
set_option maxRecDepth 100000
set_option maxHeartbeats 4100000
namespace L2
open PySem PySem.Spec PyProof.Rows
theorem SetAt.keep {h h' : Heap} {a : Addr} {es : Array (Int × Value)} {ep : Nat} {t : SetTable} (y : SetAt h a es ep t) (k : ∀ o, h.get? a = some o → h'.get? a = some o) : SetAt h' a es ep t := by
  obtain ⟨⟨o, h1, h2, h3⟩, hf⟩ := y
  exact ⟨⟨o, k o h1, h2, h3⟩, hf⟩
theorem SitAt.keep {h h' : Heap} {it : Addr} {fs : Array Value} (x : SitAt h it fs) (k : ∀ o, h.get? it = some o → h'.get? it = some o) : SitAt h' it fs := by
  obtain ⟨o, h1, h2, h3⟩ := x
  exact ⟨o, k o h1, h2, h3⟩
section
variable {prog : Program} {w : World} {A : Around} {E : Value → Shared → Prop} {s : Shared}
end
end L2

set_option Elab.async false
set_option linter.all false
set_option maxRecDepth 100000
set_option maxHeartbeats 4100000
namespace L2
open PySem PySem.Spec PyProof.Rows
section
variable {prog : Program} {w : World} {A : Around} {E : Value → Shared → Prop} {s : Shared}
structure SetWalk (prog : Program) (w : World) (s : Shared) (a : Addr) (es : Array (Int × Value)) (I : Addr) (h' : Heap) (fp : List Addr) (vs : List Value) (St : Nat → Heap → Prop) : Prop where
  old : ∀ b o, s.heap.get? b = some o → h'.get? b = some o
  walks : ∀ A' : Around, A'.handled = none → Walks prog w A' I fp [I] es.size (fun i v => vs[i]? = some v) St
  st : St 0 h'
  there : ∀ b ∈ fp, b < h'.objs.size
  new : s.heap.objs.size ≤ I
  apart : ∀ b ∈ fp, b = a ∨ s.heap.objs.size ≤ b
  perm : vs.Perm (es.toList.map (·.2))
end
end L2

set_option Elab.async false
set_option linter.all false
set_option maxRecDepth 100000
set_option maxHeartbeats 4100000
namespace L2
open PySem PySem.Spec PyProof.Rows
section
variable {prog : Program} {w : World} {A : Around} {E : Value → Shared → Prop} {s : Shared}
end
end L2

set_option Elab.async false
set_option linter.all false
set_option maxRecDepth 100000
set_option maxHeartbeats 4100000
namespace L2
open PySem PySem.Spec PyProof.Rows
structure StrSet (w : World) (h : Heap) (a : Addr) (es : Array (Int × Value)) (ep : Nat) (t : SetTable) (ss : List Str) : Prop where
  at_ : SetAt h a es ep t
  led : t.led = !(w.params.followText "set-order")
  plain : es.size = 0 ∨ t.plain = false
  txt : StrsAre (es.toList.map (·.2)) ss
  hash : ∀ e ∈ es.toList, Ex_2_1 (fun x tk => e = (hashStr w x, Value.str x tk))
  nd : ss.Nodup
theorem StrSet.keep {w : World} {h h' : Heap} {a : Addr} {es : Array (Int × Value)} {ep : Nat} {t : SetTable} {ss : List Str} (x : StrSet w h a es ep t ss) (k : ∀ o, h.get? a = some o → h'.get? a = some o) : StrSet w h' a es ep t ss :=
  ⟨x.at_.keep k, x.led, x.plain, x.txt, x.hash, x.nd⟩
theorem strs_len : ∀ {vs : List Value} {ss : List Str}, StrsAre vs ss → vs.length = ss.length
  | _, _, .nil => rfl
  | _, _, .cons _ _ r => congrArg (· + 1) (strs_len r)
theorem strs_perm : ∀ {us vs : List Value}, us.Perm vs → ∀ {ss : List Str}, StrsAre vs ss → ∃ ss', StrsAre us ss' ∧ ss'.Perm ss := by
  intro us vs p
  induction p with
  | nil => intro ss h; cases h; exact ⟨[], .nil, List.Perm.refl _⟩
  | cons x _ ih =>
    intro ss h
    cases h with
    | cons y t r =>
      obtain ⟨ss', h1, h2⟩ := ih r
      exact ⟨y :: ss', .cons y t h1, h2.cons y⟩
  | swap x y l =>
    intro ss h
    cases h with
    | cons a t r =>
      cases r with
      | cons b u r2 => exact ⟨b :: a :: _, .cons b u (.cons a t r2), List.Perm.swap _ _ _⟩
  | trans _ _ ih1 ih2 =>
    intro ss h
    obtain ⟨s2, a1, a2⟩ := ih2 h
    obtain ⟨s1, b1, b2⟩ := ih1 a1
    exact ⟨s1, b1, b2.trans a2⟩
section
variable {prog : Program} {w : World} {A : Around} {E : Value → Shared → Prop} {s : Shared}
end
end L2

set_option Elab.async false
set_option linter.all false
set_option maxRecDepth 100000
set_option maxHeartbeats 4100000
namespace L2
open PySem PySem.Spec PyProof.Rows
theorem orStandIn_led (t : SetTable) (n : Nat) : (t.orStandIn n).led = t.led := by
  unfold SetTable.orStandIn
  split <;> rfl
theorem layNew_led (t : SetTable) (es : Array (Int × Value)) (h : Int) (x : Value) : (layNew t es h x).2.1.led = t.led := by
  unfold layNew
  split
  · dsimp only
    rw [orStandIn_led]; rfl
  · rfl
theorem relaid_is {t t' : SetTable} {hs : Array Int} {n : Nat} {o : Array Nat} (h : t.relaid hs n = some (t', o)) : t'.led = t.led ∧ t'.plain = t.plain := by
  unfold SetTable.relaid SetTable.laid at h
  cases e : SetTable.layClean (SetTable.sizeAbove n - 1) hs with
  | none => rw [e] at h; cases h
  | some ow =>
    rw [e] at h
    have h' := Option.some.inj h
    have h1 := congrArg (fun q : SetTable × Array Nat => (q.1.led, q.1.plain)) h'
    have h2 : (t.led, t.plain) = (t'.led, t'.plain) := h1
    exact ⟨(congrArg Prod.fst h2).symm, (congrArg Prod.snd h2).symm⟩
theorem relayAll_led (t : SetTable) (es : Array (Int × Value)) (n : Nat) : (relayAll t es n).2.1.led = t.led := by
  unfold relayAll
  split
  · rename_i t' o e
    dsimp only
    split
    · exact (relaid_is e).1
    · rfl
  · rfl
theorem relayAll_plain (t : SetTable) (es : Array (Int × Value)) (n : Nat) (hp : t.plain = false) : (relayAll t es n).2.1.plain = false := by
  unfold relayAll
  split
  · rename_i t' o e
    dsimp only
    split
    · exact (relaid_is e).2.trans hp
    · rfl
  · rfl
theorem SetAt.store {h : Heap} {a : Addr} {es es' : Array (Int × Value)} {ep : Nat} {t t' : SetTable} (y : SetAt h a es ep t) (hf : t'.fits es'.size = true) : SetAt (h.update a (Obj.putSet es' t')) a es' (ep + 1) t' := by
  obtain ⟨⟨o, h1, h2, h3⟩, _⟩ := y
  have hg := Heap.get?_update_self (Obj.putSet es' t') h1 (by rw [putSet_of es' t' h3]; rfl)
  rw [putSet_of es' t' h3] at hg
  exact ⟨⟨_, hg, h2, rfl⟩, hf⟩
theorem mem_strs {x : Str} : ∀ {vs : List Value} {ss : List Str}, StrsAre vs ss → (x ∈ ss ↔ ∃ v ∈ vs, Value.isStrOf x v = true)
  | _, _, .nil => by simp
  | _, _, .cons y t r => by
    rw [List.mem_cons, mem_strs r]
    constructor
    · rintro (rfl | ⟨v, hv, e⟩)
      · exact ⟨_, List.mem_cons_self .., by simp [Value.isStrOf]⟩
      · exact ⟨v, List.mem_cons_of_mem _ hv, e⟩
    · rintro ⟨v, hv, e⟩
      rcases List.mem_cons.mp hv with rfl | hv
      · obtain ⟨u, eu⟩ := Value.isStrOf_shape e
        injection eu with e1 _
        exact .inl e1.symm
      · exact .inr ⟨v, hv, e⟩
section
variable {prog : Program} {w : World} {A : Around} {E : Value → Shared → Prop} {s : Shared}
theorem StrSet.elems {h : Heap} {a : Addr} {es : Array (Int × Value)} {ep : Nat} {t : SetTable} {ss : List Str} (y : StrSet w h a es ep t ss) : ElemsOf (PySem.strKind prog w) es.toList := fun e he => by
  obtain ⟨x, tk, rfl⟩ := y.hash e he
  exact ⟨⟨x, by show Value.isStrOf x (.str x tk) = true; simp [Value.isStrOf], rfl⟩, rfl⟩
theorem StrSet.size {h : Heap} {a : Addr} {es : Array (Int × Value)} {ep : Nat} {t : SetTable} {ss : List Str} (y : StrSet w h a es ep t ss) : es.size = ss.length := by
  have := strs_len y.txt
  simpa using this
theorem StrSet.more {h h' : Heap} {a : Addr} {es es' : Array (Int × Value)} {ep ep' : Nat} {t t' : SetTable} {ss : List Str} {x : Str} {tk : Tok} (y : StrSet w h a es ep t ss) (hx : x ∉ ss) (st : SetAt h' a es' ep' t') (hl : t'.led = t.led) (hp : t'.plain = false)
    (pm : es'.toList.Perm (es.toList ++ [(hashStr w x, .str x tk)])) : ∃ ss', StrSet w h' a es' ep' t' ss' ∧ (∀ z, z ∈ ss' ↔ z ∈ ss ∨ z = x) ∧ ss'.length = ss.length + 1 := by
  have pm2 : (es'.toList.map (·.2)).Perm (es.toList.map (·.2) ++ [.str x tk]) := by
    have := pm.map (·.2)
    rwa [List.map_append] at this
  have happ : ∀ {vs : List Value} {zs : List Str}, StrsAre vs zs → StrsAre (vs ++ [.str x tk]) (zs ++ [x]) := fun {vs zs} r => by
    induction r with
    | nil => exact .cons x tk .nil
    | cons a t _ ih => exact .cons a t ih
  obtain ⟨ss', h1, h2⟩ := strs_perm pm2 (happ y.txt)
  refine ⟨ss', ⟨st, hl.trans y.led, .inr hp, h1, fun e he => ?_, ?_⟩, fun z => ?_, ?_⟩
  · rcases List.mem_append.mp (pm.mem_iff.mp he) with q | q
    · exact y.hash e q
    · exact ⟨x, tk, List.mem_singleton.mp q⟩
  · exact h2.nodup_iff.mpr (nd_snoc y.nd hx)
  · rw [h2.mem_iff, List.mem_append, List.mem_singleton]
  · rw [h2.length_eq, List.length_append]; rfl
noncomputable def gq : Bool → Sem Unit
  | true => rule "set.scan.the-table-gave-way"
  | false => pure ()
theorem add_str {S : Addr} {es : Array (Int × Value)} {ep : Nat} {t : SetTable} {ss : List Str} {x : Str} {tk : Tok} {Q : Bool → Shared → Prop} (y : StrSet w s.heap S es ep t ss) (hb : ss.length + 1 < scanBound)
    (h : ∀ h' es' ep' t' ss' b, Heap.SameBut S s.heap h' → StrSet w h' S es' ep' t' ss' → (∀ z, z ∈ ss' ↔ z ∈ ss ∨ z = x) → ss'.length ≤ ss.length + 1 → Q b { s with heap := h' }) :
    wpAny (model prog w) A (setAddHashed S (.str x tk) (hashStr w x)) Q E s := by
  have hel : ElemsOf (PySem.strKind prog w) es.toList := y.elems
  have hsz := y.size
  obtain ⟨⟨o, g1, g2, g3⟩, hf⟩ := id y.at_
  have gw : ∀ (b : Bool) {s₁ : Shared} {Q' : Unit → Shared → Prop} {E' : Value → Shared → Prop}, Q' () s₁ → wpAny (model prog w) A (gq b) Q' E' s₁ := fun b s₁ Q' E' hq => by cases b <;> first | exact wpAny_pure hq | exact wpAny_rule hq
  have hkey : (PySem.strKind prog w).is x (.str x tk) = true := by show Value.isStrOf x (.str x tk) = true; simp [Value.isStrOf]
  unfold setAddHashed setAddHashedIn
  refine wpAny_holding (wpAny_bind (wpAny_setState_of g1 g3 hf ?_))
  dsimp only
  rw [byScan_of (knd := PySem.strKind prog w) (x := .str x tk) rfl (by omega) hel]
  simp only [↓reduceIte]
  unfold setAddByScan
  refine wpAny_bind (wpAny_bind (wpAny_rule (wpAny_bind (wpAny_setScan_of (knd := PySem.strKind prog w) hkey g1 g3 hf hel ?_))))
  cases hr : List.findIdx? (fun e => (PySem.strKind prog w).is x e.2) es.toList with
  | some j =>
    dsimp only
    obtain ⟨hj, hpj, _⟩ := List.findIdx?_eq_some_iff_getElem.mp hr
    have hx : x ∈ ss := (mem_strs y.txt).mpr ⟨_, List.mem_map.mpr ⟨_, List.getElem_mem hj, rfl⟩, hpj⟩
    refine wpAny_pure (wpAny_pure ?_)
    exact h s.heap es ep t ss _ (Heap.SameBut.refl S s.heap) y (fun z => ⟨.inl, fun q => q.elim id fun e => e ▸ hx⟩) (Nat.le_succ _)
  | none =>
    dsimp only
    have hx : x ∉ ss := fun hx => by
      obtain ⟨v, hv, e⟩ := (mem_strs y.txt).mp hx
      obtain ⟨p, hp, rfl⟩ := List.mem_map.mp hv
      have := List.findIdx?_eq_none_iff.mp hr p hp
      rw [show (PySem.strKind prog w).is x p.2 = Value.isStrOf x p.2 from rfl, e] at this
      cases this
    have lp := layNew_perm t es (hashStr w x) (.str x tk)
    have lf := layNew_fits t es (hashStr w x) (.str x tk)
    have ll := layNew_led t es (hashStr w x) (.str x tk)
    rw [Array.toList_push] at lp
    refine wpAny_bind (gw _ ?_)
    generalize hL : layNew t es (hashStr w x) (.str x tk) = L at lp lf ll ⊢
    obtain ⟨es1, t1, wd, gv⟩ := L
    dsimp only at lp lf ll ⊢
    have hb1 : es1.size < scanBound := by
      have := lp.length_eq
      rw [List.length_append] at this
      simp at this
      omega
    have tail : ∀ {t2 : SetTable} {E' : Value → Shared → Prop}, t2.fits es1.size = true → t2.led = t.led → t2.plain = false → wpAny (model prog w) A (do
        storeSet S es1 t2
        if (!wd && t2.tooFull) = true then do
          gq (relayAll t2 es1 (SetTable.grown es1.size)).2.2
          storeSet S (relayAll t2 es1 (SetTable.grown es1.size)).1 (relayAll t2 es1 (SetTable.grown es1.size)).2.1
          pure (some true)
        else pure (some true)) (fun (r : Option Bool) s' => Ex_5_6 (fun h' es' ep' t' ss' => r = some true) (fun h' es' ep' t' ss' => s' = { s with heap := h' }) (fun h' es' ep' t' ss' => Heap.SameBut S s.heap h') (fun h' es' ep' t' ss' => StrSet w h' S es' ep' t' ss') (fun h' es' ep' t' ss' => (∀ z, z ∈ ss' ↔ z ∈ ss ∨ z = x)) (fun h' es' ep' t' ss' => ss'.length = ss.length + 1)) E' s := fun {t2 E'} f2 l2 p2 => by
      refine wpAny_bind (wpAny_storeSet_of g1 g3 ?_ (fits_of_scanBound hb1))
      have y1 := y.at_.store (es' := es1) (t' := t2) f2
      obtain ⟨⟨o1, k1, k2, k3⟩, _⟩ := id y1
      have sb1 := Heap.SameBut.update s.heap S (Obj.putSet es1 t2)
      split
      · have rp := relayAll_perm t2 es1 (SetTable.grown es1.size)
        have rf := relayAll_fits t2 es1 (SetTable.grown es1.size)
        have rl := relayAll_led t2 es1 (SetTable.grown es1.size)
        have rq := relayAll_plain t2 es1 (SetTable.grown es1.size) p2
        have rz : (relayAll t2 es1 (SetTable.grown es1.size)).1.size = es1.size := by rw [← Array.length_toList, rp.length_eq, Array.length_toList]
        refine wpAny_bind (gw _ ?_)
        refine wpAny_bind (wpAny_storeSet_of k1 k3 ?_ (fits_of_scanBound (by rw [rz]; exact hb1)))
        obtain ⟨ss', a1, a2, a3⟩ := y.more hx (y1.store (es' := (relayAll t2 es1 (SetTable.grown es1.size)).1) (t' := (relayAll t2 es1 (SetTable.grown es1.size)).2.1) rf) (rl.trans l2) rq (rp.trans lp)
        exact wpAny_pure ⟨_, _, _, _, ss', rfl, rfl, sb1.trans (Heap.SameBut.update _ S _), a1, a2, a3⟩
      · obtain ⟨ss', a1, a2, a3⟩ := y.more hx y1 l2 p2 lp
        exact wpAny_pure ⟨_, _, _, _, ss', rfl, rfl, sb1, a1, a2, a3⟩
    have fin : ∀ (r : Option Bool) (s' : Shared), (Ex_5_6 (fun h' es' ep' t' ss' => r = some true) (fun h' es' ep' t' ss' => s' = { s with heap := h' }) (fun h' es' ep' t' ss' => Heap.SameBut S s.heap h') (fun h' es' ep' t' ss' => StrSet w h' S es' ep' t' ss') (fun h' es' ep' t' ss' => (∀ z, z ∈ ss' ↔ z ∈ ss ∨ z = x)) (fun h' es' ep' t' ss' => ss'.length = ss.length + 1)) →
        wpAny (model prog w) A (match r with | some added => pure added | none => setAddHashedIn S (.str x tk) (hashStr w x) 99999) Q E s' := by
      rintro r s' ⟨h', es', ep', t', ss', rfl, rfl, a1, a2, a3, a4⟩
      exact wpAny_pure (h h' es' ep' t' ss' true a1 a2 a3 (Nat.le_of_eq a4))
    split
    · refine wpAny_bind ?_
      rw [hashByValue_scannable 8 rfl]
      refine wpAny_pure ?_
      simp only [plainKind, Bool.false_eq_true, if_false]
      exact wpAny_mono (tail (SetTable.fits_plain_off lf) ll rfl) fin fun _ _ e => e
    · rename_i hpl
      refine wpAny_bind (wpAny_pure ?_)
      simp only [if_true]
      exact wpAny_mono (tail lf ll (by simpa using hpl)) fin fun _ _ e => e
end
end L2

set_option Elab.async false
set_option linter.all false
set_option maxRecDepth 100000
set_option maxHeartbeats 4100000
namespace L2
open PySem PySem.Spec PyProof.Rows
section
variable {prog : Program} {w : World} {A : Around} {E : Value → Shared → Prop} {s : Shared}
end
end L2

set_option Elab.async false
set_option linter.all false
set_option maxRecDepth 100000
set_option maxHeartbeats 4100000
namespace L2
open PySem PySem.Spec PyProof.Rows
section
variable {X : Cx} {pins : List (Addr × Obj)} {σ : St} {H : Hp} {s : Shared} {h' : Heap}
theorem Inv.turnLay {fp : List Addr} {T : Addr} {o : HO} {t' : Nat} {d' : Drawn} (I : Inv X pins σ H s) (hf : ∀ b ∈ fp, FpOk X pins H b) (hT : s.heap.objs.size ≤ T) (k : ∀ b ob, b ∉ fp → s.heap.get? b = some ob → h'.get? b = some ob)
    (new : ObjOk X.prog X.w (upd H T o) h' T o) : Inv X pins σ (upd H T o) { s with heap := h', toks := t', drawn := d' } := by
  have hTn : H T = none := I.hok.fresh hT
  have nfp : ∀ b u, H b = some u → b ∉ fp := fun b u e hb => by rw [(hf b hb).1] at e; cases e
  have lt : ∀ b ob, s.heap.get? b = some ob → b ≠ T := fun b ob e => Nat.ne_of_lt (Nat.lt_of_lt_of_le (Heap.lt_size e) hT)
  refine I.step (g' := s.gens) (d' := d') (ch := fp) (fun b hb => ?_) (fun b ob _ _ hc e _ => k b ob hc e) (fun b ob _ _ hc e _ => ⟨ob.slots, k b ob hc e⟩) (fun b ob hc e n => by rw [upd_ne (lt b ob e)]; exact n)
    (fun b ob hc e => ⟨ob, k b ob hc e⟩) (fun b xs e => by rw [upd_ne (ne_of_none e hTn)]; exact e) (fun b ob u e => by rw [upd_ne (ne_of_none e hTn)]; exact e) (fun b ps e => ⟨#[], by rw [upd_ne (ne_of_none e hTn), e]; simp⟩) (fun m hm => ?_) (fun b u e => ?_) I.bare
  · obtain ⟨_, n1, _, n3, n4, n5⟩ := hf b hb
    exact ⟨n3, n1, n4, n5⟩
  · obtain ⟨ob, es, ep, ho, r⟩ := hm
    exact ⟨ob, es, ep, k _ ob (fun hb => (hf _ hb).2.1 rfl) ho, r⟩
  · by_cases hb : b = T
    · subst hb
      rw [upd_same] at e
      cases e
      exact new
    · rw [upd_ne hb] at e
      refine (I.hok b u e).stay (fun c v hc q => k c v ?_ q) (fun c q => by rw [upd_ne (ne_of_none q hTn)]; exact q) fun c xs q => by rw [upd_ne (ne_of_none q hTn)]; exact q
      rcases hc with z | z
      · rw [z]; exact nfp b u e
      · exact nfp c _ z
theorem Inv.turnedL {fp : List Addr} {t' : Nat} (I : Inv X pins σ H s) (hf : ∀ b ∈ fp, FpOk X pins H b) (k : ∀ b ob, b ∉ fp → s.heap.get? b = some ob → h'.get? b = some ob) : Inv X pins σ H { s with heap := h', toks := t' } := by
  have nfp : ∀ b u, H b = some u → b ∉ fp := fun b u e hb => by rw [(hf b hb).1] at e; cases e
  refine I.step (g' := s.gens) (d' := s.drawn) (ch := fp) (fun b hb => ?_) (fun b ob _ _ hc e _ => k b ob hc e) (fun b ob _ _ hc e _ => ⟨ob.slots, k b ob hc e⟩) (fun b ob hc e n => n)
    (fun b ob hc e => ⟨ob, k b ob hc e⟩) (fun b xs e => e) (fun b ob u e => e) (fun b ps e => ⟨#[], by rw [e]; simp⟩) (fun m hm => ?_) (fun b u e => ?_) I.bare
  · obtain ⟨_, n1, _, n3, n4, n5⟩ := hf b hb
    exact ⟨n3, n1, n4, n5⟩
  · obtain ⟨ob, es, ep, ho, r⟩ := hm
    exact ⟨ob, es, ep, k _ ob (fun hb => (hf _ hb).2.1 rfl) ho, r⟩
  · refine (I.hok b u e).stay (fun c v hc q => k c v ?_ q) (fun _ q => q) fun _ _ q => q
    rcases hc with z | z
    · rw [z]; exact nfp b u e
    · exact nfp c _ z
end

noncomputable def Ite (K : PySem.W.Frag) (a : Addr) : It :=
  ⟨fun i H => Ex_2_2 (fun xs x => SqL K H a xs) (fun xs x => xs[i]? = some x), fun i H y H' => Ex_2_4 (fun p x => y = .ref p) (fun p x => H p = none) (fun p x => (∀ xs, SqL K H a xs → xs[i]? = some x)) (fun p x => H' = upd H p (.tup [.int i, x])), fun i H => ∃ xs, SqL K H a xs ∧ xs.length ≤ i⟩
theorem turn_enum {P : Program} {w : World} {K : PySem.W.Frag} {elts : List Expr} {kk : Nat} {tpos : Pos} {a e it : Addr} (hne : e ≠ it) :
    Turn P w K (.Tuple elts kk tpos) (Ite K a) [e, it] e (fun i h => (∃ old, IsEnum h e it i old) ∧ h.IsListIter it a i) where
  mem := by simp
  obj := fun i h st b hb => by
    obtain ⟨⟨old, s1⟩, o2, s2, c2, d2⟩ := st
    rcases List.mem_cons.mp hb with z | z
    · subst z
      exact ⟨_, s1, fun v q => by cases q⟩
    · rw [List.mem_singleton.mp z]
      exact ⟨o2, s2, fun v q => by rw [d2] at q; cases q⟩
  keep := fun i h h' st k => ⟨let ⟨old, s1⟩ := st.1; ⟨old, k e (by simp) _ s1⟩, st.2.at fun o q => k it (by simp) o q⟩
  item := by
    intro X hP hw hK hc i pins s σ H E I hf st hg
    subst hP hw hK
    obtain ⟨⟨old, s1⟩, s2⟩ := st
    obtain ⟨xs, x, hq, hx⟩ := hg
    obtain ⟨its, rv, p, hz⟩ := I.list hq
    obtain ⟨u, hu, ru⟩ := rv.get hx
    refine wpAny_pyNext_enum_item s1 s2 p.isList (x := u) (by simpa using hu) hne fun h1 o1 i1 t1 z1 k1 => ⟨_, rfl, ?_⟩
    refine wpAny_letOwnedTupleGo_enum (s := { s with heap := h1, toks := s.toks + 1 }) o1 fun h2 e2 sb => ?_
    have lt : ∀ b ob, s.heap.get? b = some ob → b ≠ s.heap.objs.size := fun b ob q => Nat.ne_of_lt (Heap.lt_size q)
    have k2 : ∀ b ob, b ∉ [e, it] → s.heap.get? b = some ob → h2.get? b = some ob := fun b ob hb q => by
      have n1 : b ≠ e := fun z => hb (by simp [z])
      have n2 : b ≠ it := fun z => hb (by simp [z])
      exact (sb.2 b n1).trans (k1 b ob n1 n2 q)
    have eT : e ≠ s.heap.objs.size := lt e _ s1
    have iT : it ≠ s.heap.objs.size := let ⟨o, q, _⟩ := s2; lt it o q
    have new : ObjOk X.prog X.w (upd H s.heap.objs.size (.tup [.int i, x])) h2 s.heap.objs.size (.tup [.int i, x]) :=
      ⟨by show 2 ≤ sizeLine; decide, [.int i s.toks, u], .cons ⟨_, rfl⟩ (.cons ru .nil), ⟨_, (sb.2 _ (Ne.symm eT)).trans t1, rfl, _, rfl⟩⟩
    refine ⟨.ref s.heap.objs.size, _, I.turnLay (t' := s.toks + 1) (d' := s.drawn) hf (Nat.le_refl _) k2 new, rfl, ⟨_, x, rfl, I.hok.fresh (Nat.le_refl _), fun ys hy => by rw [I.list_inj hy hq]; exact hx, rfl⟩, ⟨⟨_, by simpa using e2⟩, i1.at fun o q => (sb.2 it hne.symm).trans q⟩, fun b hb => ?_⟩
    have hbT : b ≠ s.heap.objs.size := by
      rcases List.mem_cons.mp hb with z | z
      · rw [z]; exact eT
      · rw [List.mem_singleton.mp z]; exact iT
    rw [upd_ne hbT]
    exact (hf b hb).1
  done := by
    intro X hP hw hK hc i pins s σ H E I hf st hg
    subst hP hw hK
    obtain ⟨⟨old, s1⟩, s2⟩ := st
    obtain ⟨xs, hq, hx⟩ := hg
    obtain ⟨its, rv, p, hz⟩ := I.list hq
    refine wpAny_pyNext_enum_end (I.ok.hd hc) s1 s2 p.isList (by rw [List.getElem?_toArray]; exact List.getElem?_eq_none (by rw [← rv.length]; exact hx)) fun h1 k1 => ⟨rfl, I.turnedL (t' := s.toks) hf fun b ob hb q => k1 b ob (fun z => hb (by simp [z])) q⟩
  self := fun A i s Q E st q => wpAny_pyIter_enum st.1.choose_spec q
noncomputable def iEnum (K : PySem.W.Frag) (ta : TA) : TI := fun σ H R => ta σ H fun vs H1 => Ex_1_3 (fun a => vs = [.ref a]) (fun a => (Ex_1_1 (fun xs => SqL K H1 a xs))) (fun a => R (Ite K a) H1)
section
variable {X : Cx} {elts : List Expr} {kk : Nat} {tpos : Pos}
theorem pi_enum {l : Expr} {ta : TA} {p pos : Pos} (hg : Gl X "enumerate") (hm : X.mg "enumerate" = none) (ha : PA X [l] ta) (hs : starEach [l] X.env = [(false, eval l X.env)] := by rfl) : PI X (.Tuple elts kk tpos) (.Call (.Name "enumerate" p) [l] [] pos) (iEnum X.K ta) := by
  intro pins s σ H R I h
  refine Call_ (ld_blt I hg hm boot_enumerate (PyProof.Rows.callWith_type1 (thn (ha pos pins s σ H _ I h) fun us s1 ⟨vs, H1, I1, r1, q1⟩ => ?_) hs rfl))
  obtain ⟨a, rfl, ⟨xs, hq⟩, q⟩ := q1
  obtain ⟨u, rfl, ru⟩ := vals1 r1
  cases ru
  obtain ⟨its, rv, pl, hz⟩ := I1.list hq
  refine call_enumerate_list pl.isList fun h1 e1 i1 z1 k1 => ?_
  refine wpAny_pyIter_enum e1 ?_
  have I2 : Inv X pins σ H1 { s1 with heap := h1 } := I1.kept (t' := s1.toks) k1
  refine ⟨s1.heap.objs.size + 1, [s1.heap.objs.size + 1, s1.heap.objs.size], _, Ite X.K a, H1, rfl, I2, turn_enum (Nat.succ_ne_self _), ⟨⟨_, by simpa using e1⟩, i1⟩, fun b hb => ?_, q⟩
  rcases List.mem_cons.mp hb with z | z
  · rw [z]; exact I1.fpOk (Nat.le_succ _) (I1.hok.fresh (Nat.le_succ _))
  · rw [List.mem_singleton.mp z]; exact I1.fpOk (Nat.le_refl _) (I1.hok.fresh (Nat.le_refl _))
end
theorem for_enum {K : PySem.W.Frag} {a : Addr} {xs : List V} {g : TG} {tb : TS} {D : Ends} {σ : St} {H : Hp} (Pv : Nat → St → Hp → Prop) (h0 : Pv 0 σ H) (hl : ∀ i σ H, i ≤ xs.length → Pv i σ H → SqL K H a xs)
    (hs : ∀ i x σ H p, xs[i]? = some x → Pv i σ H → H p = none → g (.ref p) σ (upd H p (.tup [.int i, x])) fun σ2 H2 => tb { D with nx := Pv (i + 1), ct := Pv (i + 1), bk := D.nx } σ2 H2) (hd : ∀ σ H, Pv xs.length σ H → D.nx σ H) :
    ∃ W : Nat → Nat → St → Hp → Prop, (∃ m, W 0 m σ H) ∧ ∀ i m σ H, W i m σ H →
      ((Ite K a).stop i H ∧ D.nx σ H) ∨ ((Ite K a).go i H ∧ ∃ N : St → Hp → Prop, (∀ σ' H', N σ' H' → ∃ m', m' < m ∧ W (i + 1) m' σ' H') ∧ ∀ x H', (Ite K a).yld i H x H' → g x σ H' fun σ2 H2 => tb { D with nx := N, ct := N, bk := D.nx } σ2 H2) := by
  refine ⟨fun i m σ H => m = xs.length - i ∧ i ≤ xs.length ∧ Pv i σ H, ⟨xs.length, by simp, Nat.zero_le _, h0⟩, ?_⟩
  rintro i m σ H ⟨rfl, hi, p⟩
  have q := hl i σ H hi p
  by_cases hlt : i < xs.length
  · refine .inr ⟨⟨xs, xs[i], q, by simp [hlt]⟩, Pv (i + 1), fun σ' H' p' => ⟨xs.length - (i + 1), by omega, rfl, hlt, p'⟩, fun y H' hy => ?_⟩
    obtain ⟨pp, x, rfl, hn, hx, rfl⟩ := hy
    exact hs i x σ H pp (hx xs q) p hn
  · have e : i = xs.length := by omega
    subst e
    exact .inl ⟨⟨xs, q, Nat.le_refl _⟩, hd σ H p⟩
end L2

set_option Elab.async false
set_option linter.all false
set_option maxRecDepth 100000
set_option maxHeartbeats 4100000
namespace L2
open PySem PySem.Spec PyProof.Rows
section
variable {X : Cx} {elts : List Expr} {kk : Nat} {tpos : Pos}
end
section
variable {X : Cx}
end
end L2

set_option Elab.async false
set_option linter.all false
set_option maxRecDepth 100000
set_option maxHeartbeats 4100000
namespace L2
open PySem PySem.Spec PyProof.Rows
section
variable {X : Cx}
noncomputable def rInsert : V → List V → Hp → VK → Prop := fun x vs H Q => Ex_4_6 (fun (l : Addr) (xs : List V) (y : V) (i : Nat) => x = .ref l) (fun l xs y i => vs = [.int i, y]) (fun l xs y i => H l = some (.lst xs)) (fun l xs y i => xs.length < sizeLine) (fun l xs y i => i ≤ xs.length) (fun l xs y i => Q .non (upd H l (.lst (xs.take i ++ y :: xs.drop i))))
theorem mt_insert : MtM X "list.insert" rInsert := by
  intro pins s σ H x vs v us Q I rx rv h
  obtain ⟨l, xs, y, i, rfl, rfl, hH, hz, hi, q⟩ := h
  cases rx
  obtain ⟨u1, u2, rfl, r1, r2⟩ := rv.two
  obtain ⟨t, rfl⟩ := r1
  obtain ⟨z, its, n, r, hl, e⟩ := I.lstM hH
  have hb : (i : Int) < 2 ^ 63 := by
    have hs : sizeLine < 2 ^ 62 := by rw [sizeLine_eq]; decide
    omega
  have hfit : Builtin.List.listFitsIndex (i : Int) = true := fitsIndex_both (by omega) hb
  have hits : its.toArray.size ≤ sizeLine := by rw [List.size_toArray]; omega
  have hlen : (xs.take i ++ y :: xs.drop i).length ≤ sizeLine := by
    rw [List.length_append, List.length_cons, List.length_take, List.length_drop]
    omega
  have hk : (if (i : Int) < 0 then ((i : Int) + (its.toArray.size : Int)).toNat else min (i : Int).toNat its.toArray.size) = i := by
    rw [if_neg (by omega), Int.toNat_natCast, List.size_toArray]; omega
  have hf : (fun zs : Array Value => have k := if (i : Int) < 0 then ((i : Int) + (zs.size : Int)).toNat else min (i : Int).toNat zs.size; (zs.extract 0 k).push u2 ++ zs.extract k) its.toArray = (its.take i ++ u2 :: its.drop i).toArray := by
    show (its.toArray.extract 0 (if (i : Int) < 0 then ((i : Int) + (its.toArray.size : Int)).toNat else min (i : Int).toNat its.toArray.size)).push u2 ++ its.toArray.extract (if (i : Int) < 0 then ((i : Int) + (its.toArray.size : Int)).toNat else min (i : Int).toNat its.toArray.size) = _
    rw [hk]
    exact PySem.W.kl_ins_eq its i u2
  have hfin := I.lset (t' := s.toks) (f := fun zs : Array Value => have k := if (i : Int) < 0 then ((i : Int) + (zs.size : Int)).toNat else min (i : Int).toNat zs.size; (zs.extract 0 k).push u2 ++ zs.extract k) (its' := its.take i ++ u2 :: its.drop i) (ys := xs.take i ++ y :: xs.drop i) hH e hf ((r.take i).append (.cons r2 (r.drop i))) hlen
  have hnf : ¬(!Builtin.List.listFitsIndex (i : Int)) = true := by rw [hfit]; exact Bool.false_ne_true
  clear hb hfit hlen hk hf
  generalize hx : (i : Int) = x at hfin hnf
  exact call_meets F.slot_list_insert ⟨_, e, rfl⟩ F.entry_list_insert (F.args_list_insert_3 _ _ _) (AutoSeq1.list_insert_list_int_val_1 l its.toArray n x t u2 hnf hits) ⟨e, .non, _, hfin, rfl, q⟩

end

inductive DEq (K : PySem.W.Frag) (H : Hp) : Nat → V → V → Prop
  | flat {n : Nat} {x y : V} : flatV x = true → flatV y = true → eqV x y = true → DEq K H n x y
  | same {n : Nat} {p : Addr} : DEq K H n (.ref p) (.ref p)
  | lst {n : Nat} {a b : Addr} {xs ys : List V} : SqL K H a xs → SqL K H b ys → xs.length = ys.length → (∀ (i : Nat) x y, xs[i]? = some x → ys[i]? = some y → DEq K H n x y) → DEq K H (n + 1) (.ref a) (.ref b)
  | tup {n : Nat} {a b : Addr} {xs ys : List V} : SqT K H a xs → SqT K H b ys → xs.length = ys.length → (∀ (i : Nat) x y, xs[i]? = some x → ys[i]? = some y → DEq K H n x y) → DEq K H (n + 1) (.ref a) (.ref b)
theorem DEq.self {K : PySem.W.Frag} {H : Hp} {n : Nat} {x : V} (h : flatV x = true ∨ ∃ p, x = .ref p) : DEq K H n x x := by
  rcases h with h | ⟨p, rfl⟩
  · exact .flat h h (eqV_self h)
  · exact .same
theorem in1_units {A : Around} : A.in1.units = A.units + 1 := rfl
section
variable {X : Cx} {pins : List (Addr × Obj)} {σ : St} {H : Hp} {s : Shared}
theorem items_at {xs : List V} {its : List Value} (r : Vals xs its) {j : Nat} (h : j < its.toArray.size) : ∃ x, xs[j]? = some x ∧ RelV x its.toArray[j] := by
  have hj : j < its.length := by simpa using h
  have hx : j < xs.length := by rw [r.length]; exact hj
  obtain ⟨u, hu, ru⟩ := r.get (List.getElem?_eq_getElem hx)
  refine ⟨xs[j], List.getElem?_eq_getElem hx, ?_⟩
  rw [List.getElem?_eq_getElem hj] at hu
  have : its.toArray[j] = u := by simpa using Option.some.inj hu
  rw [this]
  exact ru
end
section
variable {X : Cx}
end
theorem hu_deep {A : Around} {k : Nat} (hr : Room k A) : A.units + 10 < cLine := by have := hr.units; omega

theorem call_list_ofK {X : Cx} {K : PySem.W.Frag} (hK : X.K = K) : CallR X (.type "list") (fun xs H Q => Ex_2_3 (fun p ys => xs = [.ref p]) (fun p ys => (SqL K H p ys ∨ SqT K H p ys)) (fun p ys => ∀ l, H l = none → Q (.ref l) (upd H l (.lst ys)))) := hK ▸ call_list_of

theorem Same.at {H H' : Hp} {D : Addr} {o : HO} (hD : H D = none) (s : Same H H') : Same H (upd H' D o) := fun b u e => by rw [upd_ne (ne_of_none e hD)]; exact s b u e
theorem SqT.lset {K : PySem.W.Frag} {H : Hp} {a l : Addr} {xs zs ys : List V} (hl : H l = some (.lst zs)) (h : SqT K H a xs) : SqT K (upd H l (.lst ys)) a xs := by
  rcases h with (h | ⟨o, h⟩) | h
  · exact .inl (.inl (by rw [upd_ne (ne_of h hl (by intro z; cases z))]; exact h))
  · exact .inl (.inr ⟨o, by rw [upd_ne (ne_of h hl (by intro z; cases z))]; exact h⟩)
  · exact .inr h
theorem SqL.other {K : PySem.W.Frag} {H : Hp} {a l : Addr} {xs : List V} {o : HO} (hne : a ≠ l) (h : SqL K H a xs) : SqL K (upd H l o) a xs := by
  rcases h with (h | ⟨o', h⟩) | h
  · exact .inl (.inl (by rw [upd_ne hne]; exact h))
  · exact .inl (.inr ⟨o', by rw [upd_ne hne]; exact h⟩)
  · exact .inr h
end L2

set_option Elab.async false
set_option linter.all false
set_option maxRecDepth 100000
set_option maxHeartbeats 4100000
namespace L2
open PySem PySem.Spec PyProof.Rows
section
variable {X : Cx}
end

inductive DC (K : PySem.W.Frag) (H : Hp) : Nat → V → V → Bool → Prop
  | flat {n : Nat} {x y : V} : flatV x = true → flatV y = true → DC K H n x y (eqV x y)
  | same {n : Nat} {p : Addr} : DC K H n (.ref p) (.ref p) true
  | lst {n : Nat} {a b : Addr} {xs ys : List V} (e : Nat → Bool) : SqL K H a xs → SqL K H b ys → xs.length = ys.length → (∀ (i : Nat) x y, xs[i]? = some x → ys[i]? = some y → DC K H n x y (e i)) → DC K H (n + 1) (.ref a) (.ref b) ((List.range xs.length).all e)
  | len {n : Nat} {a b : Addr} {xs ys : List V} : SqL K H a xs → SqL K H b ys → xs.length ≠ ys.length → DC K H (n + 1) (.ref a) (.ref b) false
  | tup {n : Nat} {a b : Addr} {xs ys : List V} (e : Nat → Bool) : SqT K H a xs → SqT K H b ys → (∀ (i : Nat) x y, xs[i]? = some x → ys[i]? = some y → DC K H n x y (e i)) → DC K H (n + 1) (.ref a) (.ref b) ((List.range (min xs.length ys.length)).all e && xs.length == ys.length)
section
variable {X : Cx} {pins : List (Addr × Obj)} {σ : St} {H : Hp} {s : Shared}
theorem DC.ref_same {K : PySem.W.Frag} {H : Hp} {n : Nat} {x y : V} {k : Bool} (d : DC K H n x y k) : ∀ {p : Addr}, x = .ref p → y = .ref p → (∀ q xs, SqT K H q xs → ∀ ys, SqT K H q ys → ys = xs) → (∀ q xs, SqL K H q xs → ∀ ys, SqL K H q ys → ys = xs) → k = true := by
  induction d with
  | @flat n x y fx fy => intro p e1 e2 _ _; subst e1; cases fx
  | same => intros; rfl
  | @lst n a b xs ys e ha hb hl hi ih =>
    intro p e1 e2 jt jl
    cases e1
    cases e2
    have exy := jl _ _ ha _ hb
    subst exy
    rw [List.all_eq_true]
    intro i hi'
    have hlt := List.mem_range.mp hi'
    have := hi i _ _ (List.getElem?_eq_getElem hlt) (List.getElem?_eq_getElem hlt)
    cases hx : ys[i] with
    | ref q => exact ih i _ _ (List.getElem?_eq_getElem hlt) (List.getElem?_eq_getElem hlt) hx hx jt jl
    | _ =>
      rw [hx] at this
      generalize e i = k at this
      cases this with
      | flat f1 f2 => exact eqV_self f1
  | @len n a b xs ys ha hb hl =>
    intro p e1 e2 jt jl
    cases e1
    cases e2
    exact absurd (by rw [jl _ _ ha _ hb]) hl
  | @tup n a b xs ys e ha hb hi ih =>
    intro p e1 e2 jt jl
    cases e1
    cases e2
    have exy := jt _ _ ha _ hb
    subst exy
    rw [Nat.min_self, Bool.and_eq_true, List.all_eq_true]
    refine ⟨fun i hi' => ?_, beq_self_eq_true _⟩
    have hlt := List.mem_range.mp hi'
    have := hi i _ _ (List.getElem?_eq_getElem hlt) (List.getElem?_eq_getElem hlt)
    cases hx : ys[i] with
    | ref q => exact ih i _ _ (List.getElem?_eq_getElem hlt) (List.getElem?_eq_getElem hlt) hx hx jt jl
    | _ =>
      rw [hx] at this
      generalize e i = k at this
      cases this with
      | flat f1 f2 => exact eqV_self f1
theorem dc_at {n : Nat} {x y : V} {k : Bool} (d : DC X.K H n x y k) (I : Inv X pins σ H s) : ∀ {A : Around} {u v : Value}, RelV x u → RelV y v → A.units + n < cLine → SeqAt.EqAt A s u v k := by
  have jt : ∀ q xs, SqT X.K H q xs → ∀ ys, SqT X.K H q ys → ys = xs := fun q xs h1 ys h2 => I.tuple_inj h2 h1
  have jl : ∀ q xs, SqL X.K H q xs → ∀ ys, SqL X.K H q ys → ys = xs := fun q xs h1 ys h2 => I.list_inj h2 h1
  induction d with
  | @flat n x y fx fy => intro A u v ru rv _; exact eqAt_V (A := A) (s := s) ru rv fx fy
  | same => intro A u v ru rv _; cases ru; cases rv; exact SeqAt.EqAt.same _
  | @lst n a b xs ys e ha hb hl hi ih =>
    intro A u v ru rv hu
    cases ru
    cases rv
    by_cases hab : a = b
    · subst hab
      have e1 := (DC.lst (n := n) e ha hb hl hi).ref_same rfl rfl jt jl
      rw [e1]; exact SeqAt.EqAt.same _
    · obtain ⟨ia, ra, pa, _⟩ := I.list ha
      obtain ⟨ib, rb, pb, _⟩ := I.list hb
      refine SeqAt.EqAt.of_refs hab ?_
      have key := SeqAt.RcAt.lists (A := A) (e := e) pa.isList pb.isList (by rw [List.size_toArray, List.size_toArray, ← ra.length, ← rb.length]; exact hl) (by omega) fun j h1 h2 => by
        obtain ⟨x, ex, rx⟩ := items_at ra h1
        obtain ⟨y, ey, ry⟩ := items_at rb h2
        exact ih j x y ex ey rx ry (by rw [in1_units]; omega)
      rwa [List.size_toArray, ← ra.length] at key
  | @len n a b xs ys ha hb hl =>
    intro A u v ru rv hu
    cases ru
    cases rv
    have hab : a ≠ b := fun z => hl (by subst z; rw [I.list_inj ha hb])
    obtain ⟨ia, ra, pa, _⟩ := I.list ha
    obtain ⟨ib, rb, pb, _⟩ := I.list hb
    exact SeqAt.EqAt.of_refs hab (SeqAt.RcAt.lists_lengths (A := A) pa.isList pb.isList (by rw [List.size_toArray, List.size_toArray, ← ra.length, ← rb.length]; exact bne_iff_ne.mpr hl) (by omega))
  | @tup n a b xs ys e ha hb hi ih =>
    intro A u v ru rv hu
    cases ru
    cases rv
    by_cases hab : a = b
    · subst hab
      have e1 := (DC.tup (n := n) e ha hb hi).ref_same rfl rfl jt jl
      rw [e1]; exact SeqAt.EqAt.same _
    · obtain ⟨ia, ra, pa, _⟩ := I.tuple ha
      obtain ⟨ib, rb, pb, _⟩ := I.tuple hb
      refine SeqAt.EqAt.of_refs hab ?_
      have key := SeqAt.RcAt.tuples (A := A) (e := e) (show s.heap.IsTuple a ia.toArray from pa) (show s.heap.IsTuple b ib.toArray from pb) (by omega) fun j h1 h2 => by
        obtain ⟨x, ex, rx⟩ := items_at ra h1
        obtain ⟨y, ey, ry⟩ := items_at rb h2
        exact ih j x y ex ey rx ry (by rw [in1_units]; omega)
      rwa [List.size_toArray, List.size_toArray, ← ra.length, ← rb.length] at key
end
section
variable {X : Cx}
inductive DT (K : PySem.W.Frag) (H : Hp) : Addr → Addr → Bool → Prop
  | lst {a b : Addr} {xs ys : List V} (e : Nat → Bool) : SqL K H a xs → SqL K H b ys → xs.length = ys.length → (∀ (i : Nat) x y, xs[i]? = some x → ys[i]? = some y → DC K H 8 x y (e i)) → DT K H a b ((List.range xs.length).all e)
  | len {a b : Addr} {xs ys : List V} : SqL K H a xs → SqL K H b ys → xs.length ≠ ys.length → DT K H a b false
  | tup {a b : Addr} {xs ys : List V} (e : Nat → Bool) : SqT K H a xs → SqT K H b ys → (∀ (i : Nat) x y, xs[i]? = some x → ys[i]? = some y → DC K H 8 x y (e i)) → DT K H a b ((List.range (min xs.length ys.length)).all e && xs.length == ys.length)
theorem op_eqC (hu : X.A.units + 10 < cLine) : OpR X (compareOp .Eq) (fun x y H Q => Ex_3_4 (fun a b k => x = .ref a) (fun a b k => y = .ref b) (fun a b k => DT X.K H a b k) (fun a b k => Q (.bl k) H)) := by
  intro pins s σ H x y v u Q I rx ry h
  obtain ⟨a, b, k, rfl, rfl, d, q⟩ := h
  cases rx
  cases ry
  cases d with
  | @lst xs ys e ha hb hl hi =>
    obtain ⟨ia, ra, pa, _⟩ := I.list ha
    obtain ⟨ib, rb, pb, _⟩ := I.list hb
    refine SeqAt.eq_listAt (e := e) pa.isList pb.isList (by rw [List.size_toArray, List.size_toArray, ← ra.length, ← rb.length]; exact hl) (by omega) (fun j h1 h2 => ?_) ?_
    · obtain ⟨x, ex, rx⟩ := items_at ra h1
      obtain ⟨y, ey, ry⟩ := items_at rb h2
      exact dc_at (hi j x y ex ey) I rx ry (by rw [in1_units]; omega)
    · rw [List.size_toArray, ← ra.length]
      exact ⟨.bl _, H, I, rfl, q⟩
  | @len xs ys ha hb hl =>
    obtain ⟨ia, ra, pa, _⟩ := I.list ha
    obtain ⟨ib, rb, pb, _⟩ := I.list hb
    exact SeqAt.eq_list_lengthsAt pa.isList pb.isList (by rw [List.size_toArray, List.size_toArray, ← ra.length, ← rb.length]; exact bne_iff_ne.mpr hl) (by omega) ⟨.bl _, H, I, rfl, q⟩
  | @tup xs ys e ha hb hi =>
    obtain ⟨ia, ra, pa, _⟩ := I.tuple ha
    obtain ⟨ib, rb, pb, _⟩ := I.tuple hb
    refine SeqAt.eq_tupleAt (e := e) (show s.heap.IsTuple a ia.toArray from pa) (show s.heap.IsTuple b ib.toArray from pb) (by omega) (fun j h1 h2 => ?_) ?_
    · obtain ⟨x, ex, rx⟩ := items_at ra h1
      obtain ⟨y, ey, ry⟩ := items_at rb h2
      exact dc_at (hi j x y ex ey) I rx ry (by rw [in1_units]; omega)
    · rw [List.size_toArray, List.size_toArray, ← ra.length, ← rb.length]
      exact ⟨.bl _, H, I, rfl, q⟩
theorem op_neC (hu : X.A.units + 10 < cLine) : OpR X (compareOp .NotEq) (fun x y H Q => Ex_3_4 (fun a b k => x = .ref a) (fun a b k => y = .ref b) (fun a b k => DT X.K H a b k) (fun a b k => Q (.bl (!k)) H)) := by
  intro pins s σ H x y v u Q I rx ry h
  obtain ⟨a, b, k, rfl, rfl, d, q⟩ := h
  cases rx
  cases ry
  cases d with
  | @lst xs ys e ha hb hl hi =>
    obtain ⟨ia, ra, pa, _⟩ := I.list ha
    obtain ⟨ib, rb, pb, _⟩ := I.list hb
    refine SeqAt.RcNeAt.lists (e := e) pa.isList pb.isList (by rw [List.size_toArray, List.size_toArray, ← ra.length, ← rb.length]; exact hl) (by omega) (fun j h1 h2 => ?_) _ _ _ _ ?_
    · obtain ⟨x, ex, rx⟩ := items_at ra h1
      obtain ⟨y, ey, ry⟩ := items_at rb h2
      exact dc_at (hi j x y ex ey) I rx ry (by rw [in1_units]; omega)
    · rw [List.size_toArray, ← ra.length]
      exact ⟨.bl _, H, I, rfl, q⟩
  | @len xs ys ha hb hl =>
    obtain ⟨ia, ra, pa, _⟩ := I.list ha
    obtain ⟨ib, rb, pb, _⟩ := I.list hb
    exact SeqAt.RcNeAt.lists_lengths pa.isList pb.isList (by rw [List.size_toArray, List.size_toArray, ← ra.length, ← rb.length]; exact bne_iff_ne.mpr hl) (by omega) _ _ _ _ ⟨.bl _, H, I, rfl, q⟩
  | @tup xs ys e ha hb hi =>
    obtain ⟨ia, ra, pa, _⟩ := I.tuple ha
    obtain ⟨ib, rb, pb, _⟩ := I.tuple hb
    refine SeqAt.RcNeAt.tuples (e := e) (show s.heap.IsTuple a ia.toArray from pa) (show s.heap.IsTuple b ib.toArray from pb) (by omega) (fun j h1 h2 => ?_) _ _ _ _ ?_
    · obtain ⟨x, ex, rx⟩ := items_at ra h1
      obtain ⟨y, ey, ry⟩ := items_at rb h2
      exact dc_at (hi j x y ex ey) I rx ry (by rw [in1_units]; omega)
    · rw [List.size_toArray, List.size_toArray, ← ra.length, ← rb.length]
      exact ⟨.bl _, H, I, rfl, q⟩
end

section
variable {X : Cx} {pins : List (Addr × Obj)} {σ : St} {H : Hp} {s : Shared}
end
section
variable {X : Cx}
end
theorem pg_tupK {X : Cx} {K : PySem.W.Frag} {es : List Expr} {k : Nat} {t : TGs} {pos : Pos} (n : Nat) (hK : X.K = K) (hc : X.calm = true) (h : PGs X es t) (hn : (assignEach es X.env).length = n) (hst : (assignEach es X.env).findIdx? (·.1) = none) :
    PG X (.Tuple es k pos) (gTup K n t) := hK ▸ pg_tup hc h hn hst
theorem big_ok {n : Nat} (h : n ≤ 200000) : n < sizeLine := by rw [sizeLine_eq]; omega
end L2

set_option Elab.async false
set_option linter.all false
set_option maxRecDepth 100000
set_option maxHeartbeats 4100000
namespace L2
open PySem PySem.Spec PyProof.Rows
theorem comp_tup {K : PySem.W.Frag} {a D : Addr} {xs : List V} {g : TG} {tt : TT} {te : TE} {σc : St} {H : Hp} {F : Hp → Prop} (Pv : Nat → St → List V → Hp → Prop) (h0 : Pv 0 σc [] (upd H D (.lst [])))
    (hl : ∀ i σ ys H, i ≤ xs.length → Pv i σ ys H → SqT K H a xs ∧ H D = some (.lst ys) ∧ ys.length ≤ i) (hz : xs.length ≤ sizeLine)
    (hs : ∀ i x σ ys H, xs[i]? = some x → Pv i σ ys H → g x σ H fun σ2 H2 => tt σ2 H2 fun b H3 => if b = true then te σ2 H3 fun y H4 => H4 D = some (.lst ys) ∧ Pv (i + 1) σ2 (ys ++ [y]) (upd H4 D (.lst (ys ++ [y]))) else Pv (i + 1) σ2 ys H3)
    (hd : ∀ σ ys H, Pv xs.length σ ys H → F H) : tLoopC g tt te σc D (Itt K a) H F := by
  refine ⟨fun i m σ ys H => m = xs.length - i ∧ i ≤ xs.length ∧ Pv i σ ys H, ⟨xs.length, by simp, Nat.zero_le _, h0⟩, ?_⟩
  rintro i m σ ys H ⟨rfl, hi, p⟩
  obtain ⟨q, hD, hy⟩ := hl i σ ys H hi p
  refine ⟨hD, ?_⟩
  by_cases hlt : i < xs.length
  · refine .inr ⟨⟨xs, xs[i], q, by simp [hlt]⟩, by omega, Pv (i + 1), fun σ' ys' H' p' => ⟨xs.length - (i + 1), by omega, rfl, hlt, p'⟩, fun x H' y => ?_⟩
    obtain ⟨e, y⟩ := y
    subst e
    exact hs i x σ ys _ (y xs q) p
  · have e : i = xs.length := by omega
    subst e
    exact .inl ⟨⟨xs, q, Nat.le_refl _⟩, hd σ ys H p⟩
end L2

set_option Elab.async false
set_option linter.all false
set_option maxRecDepth 100000
set_option maxHeartbeats 4100000
namespace L2
open PySem PySem.Spec PyProof.Rows
theorem miss_keys : typeLookup (.type "list") "keys" = pure none := am_miss_of_fast (by decide +kernel)
section
variable {prog : Program} {w : World} {A : Around} {E : Value → Shared → Prop} {s : Shared}
theorem keys_none {l : Addr} {ys : Array Value} {m : Nat} {sl : Array (Option Value)} {Q : Option Value → Shared → Prop} (hx : s.heap.get? l = some { cls := .type "list", dict := none, data := .seq ys m, slots := sl }) (hA : A.handled = none)
    (q : ∀ h' tk, (∀ b ob, s.heap.get? b = some ob → h'.get? b = some ob) → Q none { s with heap := h', toks := tk }) : wpAny (model prog w) A (getAttr? (.ref l) "keys") Q E s := by
  obtain ⟨hp, g, d, tk, os⟩ := s
  have T : ∀ tk2, (⟨hp, g, d, tk2, os⟩ : Shared).TypeIs (.ref l) "list" := fun _ => ⟨_, hx, rfl⟩
  have g1 := sub_AttributeError
  have g3 := F.slot_list_getattribute.lookup
  have g4 := F.slot_list_getattribute.bind (.ref l)
  have g5 := am_list_getattr_none
  have g6 := miss_keys
  unfold getAttr? getAttrBy? getAttrBy
  repeat (any_goals (first | assumption | exact T _ | ((with_reducible show wpAny _ _ (call (Value.builtin "list.__getattribute__") _ _) _ _ _); refine call_meets F.slot_list_getattribute (T _) am_entry_list_getattribute (F.args_list_getattribute_2 _ _) (meets_getattribute_miss_list l ys m sl "keys" _ miss_keys (by decide +kernel) (by decide +kernel)) ⟨hx, hA, fun h2 tk2 e new => ?_⟩) | wp_step))
  obtain ⟨t2, u2, he⟩ := new.there
  show wpAny _ _ (getattributeRaised _ _ _ _ _ _ _) _ _ _; unfold getattributeRaised
  repeat (any_goals (first | assumption | wp_step))
  exact q h2 tk2 new.keeps
end
theorem entry_dloop : entryFor table "dict.update.loop" = some Builtin.«dict.update.loop» := entryFor_of_tree (by kernel_rfl)
theorem plain_dloop : plainId "dict.update.loop" = true := by decide +kernel
section
variable {X : Cx} {pins : List (Addr × Obj)} {σ : St} {H H' : Hp} {s : Shared} {a : Addr} {y v : V} {u r : Value} {A : Around} {E : Value → Shared → Prop}
theorem d_dictSet {Q : Unit → Shared → Prop} (hu : A.units < cLine) (I : Inv X pins σ H s) (g : DPut H a y v H') (ry : RelV y u) (rv : RelV v r) (h : ∀ h' tk, Heap.SameBut a s.heap h' → Inv X pins σ H' { s with heap := h', toks := tk } → Q () { s with heap := h', toks := tk }) :
    wpAny (model X.prog X.w) A (dictSet a u r) Q E s := by
  rcases g with ⟨kvs, k, e, ey, l, eH⟩ | ⟨kvs, k, b, e, ey, eb, l, eH⟩
  · subst ey eH
    obtain ⟨z, hd, vs, rel, dd⟩ := dk_of I.hok e
    have hz : vs.length ≤ sizeLine := by rw [← rel.length]; exact z
    have hl : (putK kvs k v).length ≤ sizeLine := by have := length_putK kvs k v; omega
    refine wpAny_dictSet_pairs (hsz := hz) (kV_is ry) dd fun h' dd' hs => h _ _ hs ?_
    exact d_write I (by rw [e]; exact True.intro) hs (let ⟨q, _, _, hq, _⟩ := dd'; ⟨q, hq⟩) (dk_new hl hd (rel.put k rv) dd')
  · subst ey eH
    cases (show u = Value.ref b from ry)
    obtain ⟨z, hd, xs, rel, dd⟩ := dt_of I.hok e
    have hz : xs.length ≤ sizeLine := by rw [← Paired.length rel]; exact z
    have hl : (putK kvs k v).length ≤ sizeLine := by have := length_putK kvs k v; omega
    refine wpAny_dictSet_heap (hsz := hz) (show (tupleKind (mixKind X.prog X.w)).room A from hu) (key_of I.hok eb) dd fun h' dd' hs => h _ _ hs ?_
    obtain ⟨q, es, ep, hq, h2, h3, h4, _, h5⟩ := dd'
    refine d_write I (by rw [e]; exact True.intro) hs ⟨q, hq⟩ ⟨hl, hd, _, (rel.put k eb rv).keeps fun c ys ec => ?_, q, es, ep, hq, h2, h3, h4, h5⟩
    rw [upd_ne (ne_of ec e (fun z => nomatch z))]; exact ec
theorem pairs_loop {R : Result → Shared → Prop} {l d it : Addr} {ts : List Addr} {ys vs : List V} {Hs : Nat → Hp} (hA : A.handled = none) (hcalm : X.calm = true) (hu : A.in1.units < cLine) (hly : ys.length = ts.length) (hlv : vs.length = ts.length)
    (hl : ∀ i, i ≤ ts.length → SqL X.K (Hs i) l (ts.map V.ref)) (ht : ∀ i t y v, ts[i]? = some t → ys[i]? = some y → vs[i]? = some v → SqT X.K (Hs i) t [y, v] ∧ DPut (Hs i) d y v (Hs (i + 1)))
    (hf : ∀ i, i ≤ ts.length → FpOk X pins (Hs i) it) (hne : it ≠ d) : ∀ (k i : Nat) (s : Shared), ts.length - i = k → i ≤ ts.length → Inv X pins σ (Hs i) s → s.heap.IsListIter it l i →
      (∀ h' tk, Inv X pins σ (Hs ts.length) { s with heap := h', toks := tk } → R (.ok (.ret .none)) { s with heap := h', toks := tk }) → codeAny (model X.prog X.w) A (.builtin "dict.update.loop" ⟨[.ref d, .ref it, rawInt i, .none], []⟩) R s := by
  intro k
  induction k with
  | zero =>
    intro i s hk hi I st hR
    have e : i = ts.length := by omega
    subst e
    obtain ⟨its, rv, p, hz⟩ := I.list (hl _ (Nat.le_refl _))
    obtain ⟨f0, f1, f2, f3, f4, f5⟩ := hf _ (Nat.le_refl _)
    refine codeAny_builtin entry_dloop ?_
    rw [Around.under_plainId plain_dloop _]
    show wpAny _ A.in1 (pyNext (.ref it) >>= _) _ _ s
    refine wpAny_bind (wpAny_pyNext_list_end hA st p.isList (by rw [List.getElem?_toArray]; exact List.getElem?_eq_none (by rw [← rv.length, List.length_map]; exact Nat.le_refl _)) fun h' eb => ?_)
    have I1 : Inv X pins σ (Hs ts.length) { s with heap := h', toks := s.toks } := I.turned (t' := s.toks) (fun b o hb q => eb b o hb q) f0 f1 f3 f4 f5
    exact wpAny_bind (wpAny_pure (wpAny_pure (hR h' s.toks I1)))
  | succ k ih =>
    intro i s hk hi I st hR
    have hlt : i < ts.length := by omega
    obtain ⟨its, rv, p, hz⟩ := I.list (hl i hi)
    obtain ⟨f0, f1, f2, f3, f4, f5⟩ := hf i hi
    obtain ⟨ux, hux, rux⟩ := rv.get (i := i) (x := V.ref ts[i]) (by rw [List.getElem?_map, List.getElem?_eq_getElem hlt]; rfl)
    cases rux
    have hyi : ys[i]? = some (ys[i]'(by omega)) := List.getElem?_eq_getElem (by omega)
    have hvi : vs[i]? = some (vs[i]'(by omega)) := List.getElem?_eq_getElem (by omega)
    obtain ⟨hT, hP⟩ := ht i _ _ _ (List.getElem?_eq_getElem hlt) hyi hvi
    refine codeAny_builtin entry_dloop ?_
    rw [Around.under_plainId plain_dloop _]
    show wpAny _ A.in1 (pyNext (.ref it) >>= _) _ _ s
    refine wpAny_bind (wpAny_pyNext_list_item st p.isList (x := .ref ts[i]) (by simpa using hux) fun h' st' sb => ?_)
    have I1 : Inv X pins σ (Hs i) { s with heap := h' } := I.turned (t' := s.toks) (fun b o hb q => (sb.2 b hb).trans q) f0 f1 f3 f4 f5
    obtain ⟨its2, rv2, p2, hz2⟩ := I1.tuple hT
    obtain ⟨uy, uv, e2, ry, rvv⟩ := rv2.two
    subst e2
    obtain ⟨o2, g2, c2, n2, d2⟩ := p2
    refine wpAny_bind (wpAny_holding ?_)
    refine wpAny_bind (wpAny_tryCatch ?_)
    unfold Builtin.Dict.pairItems
    refine wpAny_bind (wpAny_typeOf (T := "tuple") ⟨o2, g2, c2⟩ ?_)
    rw [if_pos (by decide)]
    refine wpAny_bind (wpAny_seqItems g2 d2 (wpAny_pure ?_))
    show wpAny _ _ (holding [uy, uv] (dictSet d uy uv)) _ _ _
    refine wpAny_holding (d_dictSet hu I1 hP ry rvv fun h2 tk2 sb2 I2 => ?_)
    refine wpAny_pure ⟨plainId_quiet plain_dloop _, ?_⟩
    have := ih (i + 1) { s with heap := h2, toks := tk2 } (by omega) hlt I2 (st'.at fun o q => (sb2.2 it hne).trans q) fun h3 tk3 I3 => hR h3 tk3 I3
    exact this
end
noncomputable def foldP {κ : Type} [DecidableEq κ] (kvs more : List (κ × V)) : List (κ × V) := more.foldl (fun acc kv => putK acc kv.1 kv.2) kvs
theorem foldP_snoc {κ : Type} [DecidableEq κ] (kvs more : List (κ × V)) (k : κ) (v : V) : foldP kvs (more ++ [(k, v)]) = putK (foldP kvs more) k v := by
  unfold foldP
  rw [List.foldl_append]; rfl
theorem foldP_len {κ : Type} [DecidableEq κ] : ∀ (more kvs : List (κ × V)), (foldP kvs more).length ≤ kvs.length + more.length
  | [], kvs => Nat.le_refl _
  | x :: more, kvs => by
    have h := foldP_len more (putK kvs x.1 x.2)
    have h2 := length_putK kvs x.1 x.2
    show (foldP (putK kvs x.1 x.2) more).length ≤ _
    rw [List.length_cons]
    omega
section
variable {X : Cx}
theorem dict_by {pins : List (Addr × Obj)} {s : Shared} {σ : St} {H : Hp} {Q : VK} {l : Addr} {ts : List Addr} {ys vs : List V} {Hs : Nat → Hp} {o0 : HO} (hcalm : X.calm = true) (hu : X.A.units + 4 < cLine) (I : Inv X pins σ H s)
    (hl : SqL X.K H l (ts.map V.ref)) (hly : ys.length = ts.length) (hlv : vs.length = ts.length) (ht : ∀ (i : Nat) t y v, ts[i]? = some t → ys[i]? = some y → vs[i]? = some v → SqT X.K H t [y, v])
    (h0 : Hs 0 = upd H s.heap.objs.size o0) (ho0 : o0 = .dK [] ∨ o0 = .dT []) (hs : ∀ i, ∃ o, Hs i = upd H s.heap.objs.size o)
    (hp : ∀ (i : Nat) y v, ys[i]? = some y → vs[i]? = some v → DPut (Hs i) s.heap.objs.size y v (Hs (i + 1))) (q : Q (.ref s.heap.objs.size) (Hs ts.length)) :
    wpAny (model X.prog X.w) X.A (call (.type "dict") [.ref l]) (EP X pins σ Q) X.xe s := by
  have hH := I.ok.hd hcalm
  have fr := I.fresh
  have sm : ∀ i, Same H (Hs i) := fun i => by obtain ⟨o, e⟩ := hs i; rw [e]; exact Same.new fr
  refine callType_codes (Q₁ := fun obj s₁ => obj = .ref s.heap.objs.size ∧ s₁ = { s with heap := s.heap.push { cls := .type "dict", data := .dict #[] } }) F.kt_called_dict (F.kt_typeCall_dict_1 _) F.entry_dict_init (kt_code_dict_new _ ⟨rfl, rfl⟩) ?_
  rintro obj s₁ ⟨rfl, rfl⟩
  have new : ObjOk X.prog X.w (upd H s.heap.objs.size o0) (s.heap.push { cls := .type "dict", data := .dict #[] }) s.heap.objs.size o0 := by
    rcases ho0 with z | z
    · rw [z]; exact dk_empty s.heap I.big
    · rw [z]; exact dt_empty s.heap I.big
  have I0 : Inv X pins σ (Hs 0) { s with heap := s.heap.push { cls := .type "dict", data := .dict #[] } } := by
    rw [h0]
    exact I.laid (a := s.heap.objs.size) (t' := s.toks) (fun _ _ q => Heap.get?_push_of_some _ q) (Nat.le_refl _) new
  have T0 : Shared.TypeIs { s with heap := s.heap.push { cls := .type "dict", data := .dict #[] } } (.ref s.heap.objs.size) "dict" := ⟨_, Heap.get?_push_size _ rfl, rfl⟩
  obtain ⟨its, rv, pl, hz⟩ := I0.list ((sm 0).seq hl)
  obtain ⟨ol, nl, gl, cl, dl, al⟩ := id pl
  refine ⟨T0, F.args_dict_init_2 _ _, ?_⟩
  unfold Builtin.«dict.__init__»; refine wpAny_bind ?_
  unfold Builtin.Dict.selfAndRest; refine wpAny_bind (wpAny_notOrdered_dict T0 ?_)
  show wpAny _ _ (pure (s.heap.objs.size, [Value.ref l])) _ _ _; refine wpAny_pure ?_
  show wpAny _ _ (Builtin.Dict.updateFrom "dict.__init__" s.heap.objs.size (.ref l) [] .none) _ _ _
  unfold Builtin.Dict.updateFrom; refine wpAny_bind (wpAny_typeOf pl.isList.typeIs ?_)
  rw [if_pos (by decide)]
  obtain ⟨cc, dd, da, sl⟩ := ol
  simp only at cl dl al
  subst cl dl al
  refine wpAny_bind (keys_none gl hH fun h1 tk1 k1 => ?_)
  have I1 : Inv X pins σ (Hs 0) { s with heap := h1, toks := tk1 } := I0.kept (t' := tk1) k1
  rw [if_pos (by rfl)]
  refine wpAny_bind (wpAny_rule ?_)
  obtain ⟨its2, rv2, pl2, hz2⟩ := I1.list ((sm 0).seq hl)
  refine wpAny_bind (wpAny_pyIter_list pl2.isList ?_)
  have I2 : Inv X pins σ (Hs 0) { s with heap := h1.push { cls := .type "list_iterator", data := .fields #[.ref l, .int 0 0] }, toks := tk1 } := I1.kept (t' := tk1) fun b o e => Heap.get?_push_of_some _ e
  have dlt : s.heap.objs.size < h1.objs.size := Heap.lt_size (k1 _ _ (Heap.get?_push_size _ rfl))
  refine wpAny_pure ⟨plainId_quiet plain_dloop _, ?_⟩
  have hne : h1.objs.size ≠ s.heap.objs.size := Nat.ne_of_gt dlt
  refine pairs_loop (A := X.A.in1) (Hs := Hs) (l := l) (it := h1.objs.size) (σ := σ) (pins := pins) (ys := ys) (vs := vs) (ts := ts) hH hcalm (by simp only [in1_units]; omega) hly hlv (fun i _ => (sm i).seq hl) (fun i t y v e1 e2 e3 => ⟨(sm i).seqT (ht i t y v e1 e2 e3), hp i y v e2 e3⟩)
    (fun i _ => I1.fpOk (Nat.le_refl _) ?_) hne ts.length 0 _ (by omega) (Nat.zero_le _) I2 ⟨_, Heap.get?_push_size _ rfl, rfl, rfl⟩ fun h3 tk3 I3 => ?_
  · obtain ⟨o, e⟩ := hs i
    rw [e, upd_ne hne]
    exact I.hok.fresh (Nat.le_of_lt dlt)
  · exact ⟨rfl, .ref s.heap.objs.size, _, I3, rfl, q⟩
theorem call_dict_pairsT (hcalm : X.calm = true) (hu : X.A.units + 4 < cLine) : CallR X (.type "dict") (fun xs H Q => Ex_2_5 (fun (l : Addr) (ps : List (Addr × Addr × List Key × V)) => xs = [.ref l]) (fun l ps => SqL X.K H l (ps.map fun x => V.ref x.1)) (fun l ps => ps.length ≤ 1000) (fun l ps => (∀ x ∈ ps, SqT X.K H x.1 [.ref x.2.1, x.2.2.2] ∧ H x.2.1 = some (.tup (x.2.2.1.map kV)))) (fun l ps => ∀ p, H p = none → Q (.ref p) (upd H p (.dT (foldP [] (ps.map (·.2.2))))))) := by
  intro pins s σ H xs us Q I r h
  obtain ⟨l, ps, rfl, hl, hn, ht, q⟩ := h
  obtain ⟨u, rfl, ru⟩ := vals1 r
  cases ru
  refine dict_by (Hs := fun i => upd H s.heap.objs.size (.dT (foldP [] ((ps.take i).map (·.2.2))))) (ts := ps.map (·.1)) (ys := ps.map fun x => V.ref x.2.1) (vs := ps.map (·.2.2.2)) hcalm hu I (by rw [List.map_map]; exact hl) (by simp) (by simp) (fun i t y v e1 e2 e3 => ?_) rfl (.inr rfl) (fun i => ⟨_, rfl⟩) (fun i y v e2 e3 => ?_) ?_
  · rw [List.getElem?_map] at e1 e2 e3
    cases e : ps[i]? with
    | none => rw [e] at e1; cases e1
    | some x =>
      rw [e] at e1 e2 e3
      cases e1
      cases e2
      cases e3
      exact (ht x (List.mem_of_getElem? e)).1
  · rw [List.getElem?_map] at e2 e3
    cases e : ps[i]? with
    | none => rw [e] at e2; cases e2
    | some x =>
      rw [e] at e2 e3
      cases e2
      cases e3
      have hb := (ht x (List.mem_of_getElem? e)).2
      have hlt : (foldP [] ((ps.take i).map (·.2.2))).length < sizeLine := by
        have h1 := foldP_len ((ps.take i).map (·.2.2)) ([] : List (List Key × V))
        rw [List.length_map, List.length_take, List.length_nil] at h1
        exact small1000 (by omega)
      have g := DPut.t (H := upd H s.heap.objs.size (.dT (foldP [] ((ps.take i).map (·.2.2))))) (a := s.heap.objs.size) (b := x.2.1) (k := x.2.2.1) (v := x.2.2.2) upd_same (by rw [upd_ne (ne_of_none hb I.fresh)]; exact hb) hlt
      rw [upd_upd, ← foldP_snoc] at g
      have e5 : (ps.take (i + 1)).map (·.2.2) = (ps.take i).map (·.2.2) ++ [(x.2.2.1, x.2.2.2)] := by rw [List.take_add_one, e, List.map_append]; rfl
      show DPut _ _ _ _ (upd H s.heap.objs.size (.dT (foldP [] ((ps.take (i + 1)).map (·.2.2)))))
      rw [e5]
      exact g
  · show Q _ (upd H s.heap.objs.size (.dT (foldP [] ((ps.take (ps.map (·.1)).length).map (·.2.2)))))
    rw [List.length_map, List.take_of_length_le (Nat.le_refl _)]
    exact q _ I.fresh
end
end L2

set_option Elab.async false
set_option linter.all false
set_option maxRecDepth 100000
set_option maxHeartbeats 4100000
namespace L2
open PySem PySem.Spec PyProof.Rows PySem.W
structure Ord (β : Type) where
  lt : β → β → Bool
  irr : ∀ a, lt a a = false
  trans : ∀ a b c, lt a b = true → lt b c = true → lt a c = true
  tri : ∀ a b, lt a b = false → lt b a = false → a = b
namespace Ord
variable {β : Type} (O : Ord β)
noncomputable def le (a b : β) : Prop := O.lt b a = false
theorem le_refl (a : β) : O.le a a := O.irr a
theorem le_of_lt {a b : β} (h : O.lt a b = true) : O.le a b := by
  unfold le
  cases e : O.lt b a with
  | false => rfl
  | true => have := O.trans _ _ _ h e; rw [O.irr] at this; cases this
theorem lt_or {a b : β} (h : O.le a b) : O.lt a b = true ∨ a = b := by
  cases e : O.lt a b with
  | true => exact .inl rfl
  | false => exact .inr (O.tri a b e h)
theorem le_trans {a b c : β} (h : O.le a b) (g : O.le b c) : O.le a c := by
  rcases O.lt_or h with h | rfl
  · rcases O.lt_or g with g | rfl
    · exact O.le_of_lt (O.trans _ _ _ h g)
    · exact O.le_of_lt h
  · exact g
end Ord
noncomputable def Asks {α : Type} (n : Nat) (c : Nat → Nat → Bool) (P : α → Prop) : KasT α → Prop
  | .ret a => P a
  | .ask i j k => i < n ∧ j < n ∧ Asks n c P (k (c i j))
theorem Asks.bind {α β : Type} {n : Nat} {c : Nat → Nat → Bool} {P : α → Prop} {R : β → Prop} {f : α → KasT β} : ∀ {t : KasT α}, Asks n c P t → (∀ a, P a → Asks n c R (f a)) → Asks n c R (t.bind f)
  | .ret a, h, g => g a h
  | .ask i j k, h, g => ⟨h.1, h.2.1, Asks.bind h.2.2 g⟩
theorem Asks.mono {α : Type} {n : Nat} {c : Nat → Nat → Bool} {P R : α → Prop} : ∀ {t : KasT α}, Asks n c P t → (∀ a, P a → R a) → Asks n c R t
  | .ret a, h, g => g a h
  | .ask i j k, h, g => ⟨h.1, h.2.1, Asks.mono h.2.2 g⟩
section
variable {β : Type} (O : Ord β) (key : Nat → β) (n : Nat)
structure Arr (p : Array Nat) : Prop where
  size : p.size = n
  lt : ∀ i, p.getD i 0 < n
  perm : p.toList.Perm (List.range n)
variable {O key n}
theorem getD_eq (p : Array Nat) (i : Nat) : p.getD i 0 = (p[i]?).getD 0 := by
  by_cases h : i < p.size
  · simp [Array.getD, h]
  · simp [Array.getD, h]
theorem Arr.of (h0 : 0 < n) {p q : Array Nat} (a : Arr n p) (h : q.Perm p) : Arr n q := by
  have hs : q.size = n := (h.size_eq).trans a.size
  have hp : q.toList.Perm (List.range n) := (Array.perm_iff_toList_perm.mp h).trans a.perm
  refine ⟨hs, fun i => ?_, hp⟩
  rw [getD_eq]
  cases e : q[i]? with
  | none => exact h0
  | some x =>
    have hm : x ∈ q.toList := by rw [← Array.getElem?_toList] at e; exact List.mem_of_getElem? e
    exact List.mem_range.mp (hp.mem_iff.mp hm)
end
end L2

set_option Elab.async false
set_option linter.all false
set_option maxRecDepth 100000
set_option maxHeartbeats 4100000
namespace L2
open PySem PySem.Spec PyProof.Rows PySem.W
section
variable {prog : Program} {w : World} {A : Around} {E : Value → Shared → Prop} {s : Shared}
end
noncomputable abbrev TK := Addr × List Key
theorem tk_vals {ps : List TK} {us : List Value} (r : Vals (ps.map fun q => V.ref q.1) us) : us = ps.map fun q => Value.ref q.1 := by
  induction ps generalizing us with
  | nil => cases r; rfl
  | cons q ps ih =>
    cases r with
    | cons r1 r =>
      rw [List.map_cons, ← ih r]
      congr 1
section
variable {X : Cx}
end
end L2

set_option Elab.async false
set_option linter.all false
set_option maxRecDepth 100000
set_option maxHeartbeats 4100000
namespace L2
open PySem PySem.Spec PyProof.Rows
noncomputable def RawD (h : Heap) (d : Addr) (es : Array DictEntry) (ep : Nat) : Prop := ∃ o, h.get? d = some o ∧ o.ExactDict ∧ o.data = .dict es ep
section
variable {prog : Program} {w : World} {A : Around} {E : Value → Shared → Prop} {s : Shared} {d it : Addr} {es : Array DictEntry} {ep i : Nat}
theorem raw_iter {Q : Value → Shared → Prop} (hd : (d == sysModules) = false) (r : RawD s.heap d es ep)
    (q : Q (.ref s.heap.objs.size) { s with heap := s.heap.push { cls := .type "dict_keyiterator", data := .fields #[.ref d, .int 0 0, .int es.size 0, .int ep 0] } }) : wpAny (model prog w) A (pyIter (.ref d)) Q E s := by
  obtain ⟨o, ho, hc, hdat⟩ := r
  have ty : s.TypeIs (.ref d) "dict" := ⟨o, ho, hc.1⟩
  refine wpAny_pyIter_slot ty F.slot_dict_iter (wpAny_call_entry F.slot_dict_iter ty F.entry_dict_iter ?_ (F.args_dict_iter_1 _))
  unfold Builtin.«dict.__iter__»; refine wpAny_bind ?_; unfold Builtin.Dict.dictSlotNone
  refine wpAny_bind (wpAny_notOrdered_dict ty ?_); show wpAny _ _ (pure (Value.ref d)) _ _ s; refine wpAny_pure ?_
  show wpAny _ _ (Builtin.Dict.showsAll d >>= _) _ _ s; unfold Builtin.Dict.showsAll
  rw [if_neg (by rw [hd]; exact Bool.false_ne_true)]; refine wpAny_bind (wpAny_pure ?_)
  refine wpAny_bind (wpAny_dictEntries ho hdat (wpAny_bind (wpAny_dictEpoch ho hdat ?_)))
  refine wpAny_bind (wpAny_newObj_type (wpAny_pure ⟨_, rfl, "dict_keyiterator", _, ⟨_, Heap.get?_push_size _ rfl, rfl⟩, F.slot_dict_keyiterator_next.lookup, ?_⟩)); simpa [rawInt] using q
theorem raw_item {Q : Option Value → Shared → Prop} (st : s.heap.IsKeyIter it d i es.size ep) (r : RawD s.heap d es ep) (hi : i < es.size)
    (q : ∀ h', h'.IsKeyIter it d (i + 1) es.size ep → Heap.SameBut it s.heap h' → Q (some es[i].key) { s with heap := h' }) : wpAny (model prog w) A (pyNext (.ref it)) Q E s := by
  obtain ⟨o, ho, hc, hd⟩ := id st
  obtain ⟨od, hod, hcd, hdd⟩ := r
  unfold pyNext; refine wpAny_bind (wpAny_attempt (wpAny_callSpecial?_slot (name := Str.ofString "__next__") st.typeIs F.slot_dict_keyiterator_next (wpAny_call_entry F.slot_dict_keyiterator_next st.typeIs F.entry_dict_keyiterator_next ?_ (F.args_dict_keyiterator_next_1 _))))
  refine wpAny_bind (wpAny_pure (wpAny_bind (wpAny_bind ?_)))
  first | refine wpAny_bind (wpAny_typeNameOfWhole_keyiter st.typeIs (wpAny_pure ?_)) | refine wpAny_bind (wpAny_typeNameOf_keyiter st.typeIs (wpAny_pure ?_))
  refine wpAny_bind (wpAny_fieldsOf ho hd ?_); have own : Builtin.Dict_items.ownsTuple "dict_keyiterator" = false := by decide
  simp only [own, Bool.false_eq_true, if_false]; show wpAny _ _ (if (Value.ref d == Value.none) = true then _ else _) _ _ s
  rw [if_neg (show ¬ ((Value.ref d == Value.none) = true) from Bool.false_ne_true)]; refine wpAny_bind (wpAny_pure (wpAny_bind (wpAny_dictEntries hod hdd ?_)))
  rw [if_neg (by simp)]; refine wpAny_bind (wpAny_pure (wpAny_bind (wpAny_dictEpoch hod hdd ?_))); rw [if_neg (by simp)]; refine wpAny_pure ?_
  simp only [show ¬ ((i : Int) < 0) from by omega, if_false, Int.toNat_natCast, Array.getElem?_eq_getElem hi]; refine wpAny_bind ?_
  first | refine wpAny_bind (wpAny_typeNameOfWhole_keyiter st.typeIs (wpAny_pure ?_)) | refine wpAny_bind (wpAny_typeNameOf_keyiter st.typeIs (wpAny_pure ?_))
  refine wpAny_bind (wpAny_isOneOf_keyiter st.typeIs ?_); show wpAny _ _ (setField (.ref it) 1 (rawInt ((i : Int) + 1)) >>= _) _ _ s
  refine wpAny_bind (wpAny_setField ho hd (by simp) ?_)
  have st' : (s.heap.update it (Obj.mapFields (·.setIfInBounds 1 (rawInt ((i : Int) + 1))))).IsKeyIter it d (i + 1) es.size ep :=
    ⟨_, Heap.get?_update_self _ ho (Obj.isFreed_of_fields (Obj.data_mapFields hd _)), (Obj.cls_mapFields ..).trans hc, by rw [Obj.data_mapFields hd]; simp [rawInt]⟩
  refine wpAny_bind (wpAny_holding (wpAny_bind (wpAny_isOneOf_keyiter (s := { s with heap := s.heap.update it (Obj.mapFields (·.setIfInBounds 1 (rawInt ((i : Int) + 1)))) }) st'.typeIs ?_)))
  show wpAny _ _ (pure es[i].key) _ _ _; exact wpAny_pure (wpAny_pure ⟨_, rfl, wpAny_pure (q _ st' (Heap.SameBut.update ..))⟩)
theorem raw_end {Q : Option Value → Shared → Prop} (hh : A.handled = none) (st : s.heap.IsKeyIter it d i es.size ep) (r : RawD s.heap d es ep) (hi : es.size ≤ i)
    (q : ∀ h', Heap.ExtBut it s.heap h' → Q none { s with heap := h' }) : wpAny (model prog w) A (pyNext (.ref it)) Q E s := by
  obtain ⟨o, ho, hc, hd⟩ := id st
  obtain ⟨od, hod, hcd, hdd⟩ := r
  unfold pyNext; refine wpAny_bind (wpAny_attempt (wpAny_callSpecial?_slot (name := Str.ofString "__next__") st.typeIs F.slot_dict_keyiterator_next (wpAny_call_entry F.slot_dict_keyiterator_next st.typeIs F.entry_dict_keyiterator_next ?_ (F.args_dict_keyiterator_next_1 _))))
  refine wpAny_bind (wpAny_pure (wpAny_bind (wpAny_bind ?_)))
  first | refine wpAny_bind (wpAny_typeNameOfWhole_keyiter st.typeIs (wpAny_pure ?_)) | refine wpAny_bind (wpAny_typeNameOf_keyiter st.typeIs (wpAny_pure ?_))
  refine wpAny_bind (wpAny_fieldsOf ho hd ?_); have own : Builtin.Dict_items.ownsTuple "dict_keyiterator" = false := by decide
  simp only [own, Bool.false_eq_true, if_false]; show wpAny _ _ (if (Value.ref d == Value.none) = true then _ else _) _ _ s
  rw [if_neg (show ¬ ((Value.ref d == Value.none) = true) from Bool.false_ne_true)]; refine wpAny_bind (wpAny_pure (wpAny_bind (wpAny_dictEntries hod hdd ?_)))
  rw [if_neg (by simp)]; refine wpAny_bind (wpAny_pure (wpAny_bind (wpAny_dictEpoch hod hdd ?_))); rw [if_neg (by simp)]; refine wpAny_pure ?_
  simp only [show ¬ ((i : Int) < 0) from by omega, if_false, Int.toNat_natCast, Array.getElem?_eq_none hi]; refine wpAny_bind ?_
  first | refine wpAny_bind (wpAny_typeNameOfWhole_keyiter st.typeIs (wpAny_pure ?_)) | refine wpAny_bind (wpAny_typeNameOf_keyiter st.typeIs (wpAny_pure ?_))
  show wpAny _ _ (setField (.ref it) 0 .none >>= _) _ _ s; refine wpAny_bind (wpAny_setField ho hd (by simp) ?_)
  show wpAny _ _ (newExc (.type "StopIteration") [] >>= _) _ _ _; refine wpAny_bind ?_; simp only [newExc, newTuple]; refine wpAny_bind (wpAny_newObj_type ?_ (by size_fits))
  refine wpAny_bind (m := firstArgMember _ _) (wpAny_of_eq (a := Value.none) (by first | rfl | (simp only [firstArgMember]; rfl)) (wpAny_newObj_type ?_ (by size_fits)))
  simp only [raiseNew]; refine wpAny_bind (wpAny_handled ?_); rw [show A.in1.handled = none from hh]; refine wpAny_bind (wpAny_pure (wpAny_throw ?_))
  refine wpAny_bind (wpAny_isInstance (T := "StopIteration") (b := true) ⟨_, Heap.get?_push_size _ rfl, rfl⟩ isSubtype_stop ?_); exact wpAny_pure (q _ (((Heap.SameBut.update ..).extBut.push _).push _))
end
section
variable {X : Cx} {pins : List (Addr × Obj)} {σ : St} {H : Hp} {s : Shared} {d : Addr} {kvs : List (List Key × V)} {ob : Obj}
theorem Inv.freeze (I : Inv X pins σ H s) (e : H d = some (.dT kvs)) (ho : s.heap.get? d = some ob) : Inv X pins σ (upd H d (.frz ob (.dT kvs))) s := by
  refine I.write (x := d) (e := d) (o := .frz ob (.dT kvs)) (t' := s.toks) (by rw [e]; trivial) (.inl rfl) (fun b u _ q => q) ⟨ob, ho⟩ ⟨ho, ?_⟩
  obtain ⟨z, y, xs, r, rest⟩ := (show ObjOk X.prog X.w H s.heap d (.dT kvs) from I.hok d _ e)
  exact ⟨z, y, xs, KT.keeps r fun b ys q => by rw [upd_ne (ne_of q e (by intro h; cases h))]; exact q, rest⟩
theorem Inv.thaw (I : Inv X pins σ H s) (n : ∀ o u, X.H₀ d ≠ some (.frz o u)) (e : H d = some (.frz ob (.dT kvs))) : Inv X pins σ (upd H d (.dT kvs)) s := by
  have ne : ∀ b u, H b = some u → u ≠ .frz ob (.dT kvs) → b ≠ d := fun b u q h z => by subst z; rw [e] at q; exact h (Option.some.inj q).symm
  have nn : ∀ b, H b = none → b ≠ d := fun b q z => by subst z; rw [e] at q; cases q
  refine ⟨I.ok, I.os, I.bare, ⟨I.base.keep, I.base.slot, fun b o q n0 hx => ?_, I.base.there, fun b xs q => ?_, fun b o u q => ?_, fun b ps q => ?_⟩, I.loc, I.cell, ?_, fun x c q => ?_, fun p hp => ?_, fun b u q => ?_, I.len⟩
  · have z := I.base.free b o q n0 hx
    rw [upd_ne (nn b z)]; exact z
  · have z := I.base.tups b xs q
    rw [upd_ne (ne b _ z (by intro h; cases h))]; exact z
  · have z := I.base.frzs b o u q
    by_cases c : b = d
    · subst c; exact absurd q (n o u)
    · rw [upd_ne c]; exact z
  · obtain ⟨m, z⟩ := I.base.tbls b ps q
    exact ⟨m, by rw [upd_ne (ne b _ z (by intro h; cases h))]; exact z⟩
  · rw [upd_ne (nn _ I.free)]; exact I.free
  · rw [upd_ne (nn _ (I.freeC x c q))]; exact I.freeC x c q
  · obtain ⟨q1, q2, q3⟩ := I.pin p hp
    exact ⟨q1, by rw [upd_ne (nn _ q2)]; exact q2, q3⟩
  · by_cases c : b = d
    · subst c
      rw [upd_same] at q
      cases q
      obtain ⟨_, z, y, xs, r, rest⟩ := (show ObjOk X.prog X.w H s.heap b (.frz ob (.dT kvs)) from I.hok b _ e)
      exact ⟨z, y, xs, KT.keeps r fun b' ys q' => by rw [upd_ne (ne b' _ q' (by intro h; cases h))]; exact q', rest⟩
    · rw [upd_ne c] at q
      exact (I.hok b u q).stay (fun _ _ _ q' => q') (fun c' q' => by rw [upd_ne (ne c' _ q' (by intro h; cases h))]; exact q') fun c' ys q' => by rw [upd_ne (ne c' _ q' (by intro h; cases h))]; exact q'
end
noncomputable def Itd (d : Addr) (ob : Obj) (kvs : List (List Key × V)) : It :=
  ⟨fun i H => H d = some (.frz ob (.dT kvs)) ∧ i < kvs.length, fun i H v H' => H' = H ∧ Ex_3_3 (fun a k x => v = .ref a) (fun a k x => kvs[i]? = some (k, x)) (fun a k x => H a = some (.tup (k.map kV))), fun i H => H d = some (.frz ob (.dT kvs)) ∧ kvs.length ≤ i⟩
theorem kt_at {H : Hp} {kvs : List (List Key × V)} {xs : List (List Key × Addr × Value)} (r : KT H kvs xs) {i : Nat} (hi : i < kvs.length) : Ex_4_4 (fun k x a u => kvs[i]? = some (k, x)) (fun k x a u => xs[i]? = some (k, a, u)) (fun k x a u => H a = some (.tup (k.map kV))) (fun k x a u => RelV x u) := by
  induction r generalizing i with
  | nil => cases hi
  | @cons p q ps qs h t ih =>
    obtain ⟨h1, h2, h3⟩ := h
    cases i with
    | zero =>
      obtain ⟨k, x⟩ := p
      obtain ⟨k', a, u⟩ := q
      cases (show k = k' from h1)
      exact ⟨k, x, a, u, rfl, rfl, h2, h3⟩
    | succ j => exact ih (Nat.lt_of_succ_lt_succ hi)
theorem kt_len {H : Hp} {kvs : List (List Key × V)} {xs : List (List Key × Addr × Value)} (r : KT H kvs xs) : kvs.length = xs.length := Paired.length r
theorem frz_raw {P : Program} {w : World} {H : Hp} {h : Heap} {d : Addr} {ob : Obj} {kvs : List (List Key × V)} {es : Array DictEntry} {ep : Nat} (ok : HOk P w H h) (e : H d = some (.frz ob (.dT kvs))) (hd : ob.data = .dict es ep) :
    RawD h d es ep ∧ es.size = kvs.length ∧ ∀ i (hi : i < es.size), Ex_3_3 (fun k x a => kvs[i]? = some (k, x)) (fun k x a => es[i].key = .ref a) (fun k x a => H a = some (.tup (k.map kV))) := by
  obtain ⟨e1, z, y, xs, r, o, es', ep', h1, h2, h3, h4, h5⟩ := (show ObjOk P w H h d (.frz ob (.dT kvs)) from ok d _ e)
  rw [e1] at h1
  cases h1
  rw [hd] at h3
  cases h3
  have hl : es.size = kvs.length := by rw [kt_len r, ← List.length_map (f := entryOfKey (tupleKind (mixKind P w))), ← h4, Array.length_toList]
  refine ⟨⟨ob, e1, h2, hd⟩, hl, fun i hi => ?_⟩
  obtain ⟨k, x, a, u, g1, g2, g3, g4⟩ := kt_at r (hl ▸ hi)
  refine ⟨k, x, a, g1, ?_, g3⟩
  have : es.toList[i]? = some (entryOfKey (tupleKind (mixKind P w)) (k, a, u)) := by rw [h4, List.getElem?_map, g2]; rfl
  have e2 : es[i]? = some (entryOfKey (tupleKind (mixKind P w)) (k, a, u)) := by rw [← Array.getElem?_toList]; exact this
  obtain ⟨_, e3⟩ := Array.getElem?_eq_some_iff.mp e2
  rw [e3]; rfl
theorem turn_keys {P : Program} {w : World} {K : PySem.W.Frag} {tg : Expr} (d it : Addr) {ob : Obj} {kvs : List (List Key × V)} {es : Array DictEntry} {ep : Nat} (hdt : ob.data = .dict es ep) :
    Turn P w K tg (Itd d ob kvs) [it] it (fun i h => h.IsKeyIter it d i es.size ep) where
  mem := by simp
  obj := fun i h st b hb => by
    have e : b = it := by simpa using hb
    subst e
    obtain ⟨o, e, c, d⟩ := st
    exact ⟨o, e, fun v z => by rw [d] at z; cases z⟩
  keep := fun i h h' st k => st.at fun o e => k it (by simp) o e
  item := by
    intro X hP hw hK hc i pins s σ H E I hf st hg
    subst hP hw hK
    obtain ⟨f0, f1, f2, f3, f4, f5⟩ := hf it (by simp)
    obtain ⟨g1, g2⟩ := hg
    obtain ⟨r, hl, ks⟩ := frz_raw I.hok g1 hdt
    have hi : i < es.size := by omega
    obtain ⟨k, x, a, k1, k2, k3⟩ := ks i hi
    refine raw_item st r hi fun h' st' sb => ?_
    have I1 : Inv X pins σ H { s with heap := h' } := I.turned (t' := s.toks) (fun b o hb e => (sb.2 b hb).trans e) f0 f1 f3 f4 f5
    obtain ⟨o, e, c, dd⟩ := id st'
    exact ⟨_, rfl, go_of (s := { s with heap := h' }) e c dd (by decide) ⟨.ref a, H, I1, k2, ⟨rfl, a, k, x, rfl, k1, k3⟩, st', fun b hb => (hf b hb).1⟩⟩
  done := by
    intro X hP hw hK hc i pins s σ H E I hf st hg
    subst hP hw hK
    obtain ⟨f0, f1, f2, f3, f4, f5⟩ := hf it (by simp)
    obtain ⟨g1, g2⟩ := hg
    obtain ⟨r, hl, ks⟩ := frz_raw I.hok g1 hdt
    exact raw_end (I.ok.hd hc) st r (by omega) fun h' eb => ⟨rfl, I.turned (t' := s.toks) (fun b o hb e => eb b o hb e) f0 f1 f3 f4 f5⟩
  self := fun _ _ _ _ _ st h => wpAny_pyIter_keyiter st h
noncomputable def iKeys (tl : TE) : TI := fun σ H R => tl σ H fun x H1 => Ex_2_3 (fun d kvs => x = .ref d) (fun d kvs => H1 d = some (.dT kvs)) (fun d kvs => ∀ ob, R (Itd d ob kvs) (upd H1 d (.frz ob (.dT kvs))))
theorem pi_keys {X : Cx} {tg l : Expr} {tl : TE} (hl : PE X l tl) : PI X tg l (iKeys tl) := by
  intro pins s σ H R I h
  refine thn (hl pins s σ H _ I h) fun v s1 ⟨x, H1, I1, r1, q1⟩ => ?_
  obtain ⟨d, kvs, e, hd, q⟩ := q1
  subst e
  cases r1
  obtain ⟨z, y, xs, r, o, es, ep, h1, h2, h3, h4, h5⟩ := (show ObjOk X.prog X.w H1 s1.heap d (.dT kvs) from I1.hok d _ hd)
  refine raw_iter y ⟨o, h1, h2, h3⟩ ?_
  have I2 := I1.freeze hd h1
  refine ⟨s1.heap.objs.size, [s1.heap.objs.size], _, _, _, rfl, I2.kept (t' := s1.toks) fun b o e => Heap.get?_push_of_some _ e, turn_keys d _ h3, ⟨_, Heap.get?_push_size _ rfl, rfl, rfl⟩, fun b hb => ?_, q o⟩
  have e : b = s1.heap.objs.size := by simpa using hb
  subst e
  exact I2.fpOk (Nat.le_refl _) (I2.hok.fresh (Nat.le_refl _))
theorem comp_keys {d D : Addr} {ob : Obj} {kvs : List (List Key × V)} {g : TG} {tt : TT} {te : TE} {σc : St} {H : Hp} {F : Hp → Prop} (Pv : Nat → St → List V → Hp → Prop) (h0 : Pv 0 σc [] (upd H D (.lst [])))
    (hl : ∀ i σ ys H, i ≤ kvs.length → Pv i σ ys H → H d = some (.frz ob (.dT kvs)) ∧ H D = some (.lst ys) ∧ ys.length ≤ i) (hz : kvs.length ≤ sizeLine)
    (hs : ∀ i a k x σ ys H, kvs[i]? = some (k, x) → H a = some (.tup (k.map kV)) → Pv i σ ys H → g (.ref a) σ H fun σ2 H2 => tt σ2 H2 fun b H3 => if b = true then te σ2 H3 fun y H4 => H4 D = some (.lst ys) ∧ Pv (i + 1) σ2 (ys ++ [y]) (upd H4 D (.lst (ys ++ [y]))) else Pv (i + 1) σ2 ys H3)
    (hd : ∀ σ ys H, Pv kvs.length σ ys H → F H) : tLoopC g tt te σc D (Itd d ob kvs) H F := by
  refine ⟨fun i m σ ys H => m = kvs.length - i ∧ i ≤ kvs.length ∧ Pv i σ ys H, ⟨kvs.length, by simp, Nat.zero_le _, h0⟩, ?_⟩
  rintro i m σ ys H ⟨rfl, hi, p⟩
  obtain ⟨q, hD, hy⟩ := hl i σ ys H hi p
  refine ⟨hD, ?_⟩
  by_cases hlt : i < kvs.length
  · refine .inr ⟨⟨q, hlt⟩, by omega, Pv (i + 1), fun σ' ys' H' p' => ⟨kvs.length - (i + 1), by omega, rfl, hlt, p'⟩, fun v H' y => ?_⟩
    obtain ⟨e, a, k, x, rfl, hk, ha⟩ := y
    subst e
    exact hs i a k x σ ys _ hk ha p
  · have e : i = kvs.length := by omega
    subst e
    exact .inl ⟨⟨q, Nat.le_refl _⟩, hd σ ys H p⟩
noncomputable def tThaw (te : TE) : TE := fun σ H Q => Ex_2_2 (fun d kvs => H d = some (.dT kvs)) (fun d kvs => te σ H fun v H1 => ∃ ob, H1 d = some (.frz ob (.dT kvs)) ∧ Q v (upd H1 d (.dT kvs)))
theorem pe_thaw {X : Cx} {e : Expr} {te : TE} (he : PE X e te) : PE X e (tThaw te) := by
  intro pins s σ H Q I h
  obtain ⟨d, kvs, hd, h⟩ := h
  refine thn (he pins s σ H _ I h) fun v s1 ⟨x, H1, I1, r1, ob, q1, q2⟩ => ⟨x, _, I1.thaw (fun o u z => ?_) q1, r1, q2⟩
  have := I.base.frzs d o u z
  rw [hd] at this
  cases this
section
variable {prog : Program} {w : World} {A : Around} {d : Addr} {es : Array DictEntry} {ep : Nat}
theorem RawD.at {h h' : Heap} (r : RawD h d es ep) (k : ∀ o, h.get? d = some o → h'.get? d = some o) : RawD h' d es ep := let ⟨o, ho, q⟩ := r; ⟨o, k o ho, q⟩
theorem RawD.lt {h : Heap} (r : RawD h d es ep) : d < h.objs.size := let ⟨o, ho, q⟩ := r; Heap.lt_size ho
end
section
variable {X : Cx}
end
end L2

set_option Elab.async false
set_option linter.all false
set_option maxRecDepth 100000
set_option maxHeartbeats 4100000
namespace L2
open PySem PySem.Spec PyProof.Rows
theorem eqV_key (x y : Key) : eqV (kV x) (kV y) = decide (x = y) := by
  cases x with
  | inl a => cases y with
    | inl b =>
      by_cases c : a = b
      · subst c; simp [eqV, kV]
      · simp [eqV, kV, c]
    | inr b => simp [eqV, kV]
  | inr a => cases y with
    | inl b => simp [eqV, kV]
    | inr b =>
      by_cases c : a = b
      · subst c; simp [eqV, kV]
      · simp [eqV, kV, c]
theorem flat_key (x : Key) : flatV (kV x) = true := by cases x <;> rfl
theorem all_keys (xs ys : List Key) : ((List.range (min xs.length ys.length)).all (fun i => decide (xs[i]? = ys[i]?)) && xs.length == ys.length) = decide (xs = ys) := by
  by_cases c : xs = ys
  · subst c; simp
  · rw [decide_eq_false c]
    by_cases l : xs.length = ys.length
    · have : ¬ ((List.range (min xs.length ys.length)).all fun i => decide (xs[i]? = ys[i]?)) = true := fun h => by
        rw [List.all_eq_true] at h
        refine c (List.ext_getElem? fun i => ?_)
        by_cases hi : i < xs.length
        · exact of_decide_eq_true (h i (List.mem_range.mpr (by omega)))
        · rw [List.getElem?_eq_none (by omega), List.getElem?_eq_none (by omega)]
      rw [Bool.eq_false_iff.mpr this]; rfl
    · rw [Bool.and_eq_false_iff]; exact .inr (by simpa using l)
theorem DC.keys {K : PySem.W.Frag} {H : Hp} {n : Nat} {a b : Addr} {xs ys : List Key} (ha : SqT K H a (xs.map kV)) (hb : SqT K H b (ys.map kV)) : DC K H (n + 1) (.ref a) (.ref b) (decide (xs = ys)) := by
  have h := DC.tup (n := n) (fun i => decide (xs[i]? = ys[i]?)) ha hb fun i x y hx hy => by
    rw [List.getElem?_map] at hx hy
    cases ex : xs[i]? with
    | none => rw [ex] at hx; cases hx
    | some x' =>
      cases ey : ys[i]? with
      | none => rw [ey] at hy; cases hy
      | some y' =>
        rw [ex] at hx
        rw [ey] at hy
        cases hx
        cases hy
        have := DC.flat (K := K) (H := H) (n := n) (flat_key x') (flat_key y')
        rw [eqV_key] at this
        simpa using this
  rw [List.length_map, List.length_map, all_keys] at h
  exact h
theorem DT.keys {K : PySem.W.Frag} {H : Hp} {a b : Addr} {xs ys : List Key} (ha : SqT K H a (xs.map kV)) (hb : SqT K H b (ys.map kV)) : DT K H a b (decide (xs = ys)) := by
  have h := DT.tup (fun i => decide (xs[i]? = ys[i]?)) ha hb fun i x y hx hy => by
    rw [List.getElem?_map] at hx hy
    cases ex : xs[i]? with
    | none => rw [ex] at hx; cases hx
    | some x' =>
      cases ey : ys[i]? with
      | none => rw [ey] at hy; cases hy
      | some y' =>
        rw [ex] at hx
        rw [ey] at hy
        cases hx
        cases hy
        have := DC.flat (K := K) (H := H) (n := 8) (flat_key x') (flat_key y')
        rw [eqV_key] at this
        simpa using this
  rw [List.length_map, List.length_map, all_keys] at h
  exact h
structure TKs (K : PySem.W.Frag) (H : Hp) (l : Addr) (ps : List TK) : Prop where
  l : SqL K H l (ps.map fun q => V.ref q.1)
  ts : ∀ q ∈ ps, SqT K H q.1 (q.2.map kV)
theorem DT.lists {K : PySem.W.Frag} {H : Hp} {a b : Addr} {ps qs : List TK} (ha : TKs K H a ps) (hb : TKs K H b qs) : DT K H a b (decide (ps.map (·.2) = qs.map (·.2))) := by
  by_cases l : ps.length = qs.length
  · have h := DT.lst (fun i => decide ((ps.map (·.2))[i]? = (qs.map (·.2))[i]?)) ha.l hb.l (by rw [List.length_map, List.length_map]; exact l) fun i x y hx hy => by
      rw [List.getElem?_map] at hx hy
      cases ex : ps[i]? with
      | none => rw [ex] at hx; cases hx
      | some p =>
        cases ey : qs[i]? with
        | none => rw [ey] at hy; cases hy
        | some q =>
          rw [ex] at hx
          rw [ey] at hy
          cases hx
          cases hy
          have := DC.keys (n := 7) (ha.ts p (List.mem_of_getElem? ex)) (hb.ts q (List.mem_of_getElem? ey))
          rw [List.getElem?_map, List.getElem?_map, ex, ey]
          simpa using this
    have e : (List.range (ps.map fun q => V.ref q.1).length).all (fun i => decide ((ps.map (·.2))[i]? = (qs.map (·.2))[i]?)) = decide (ps.map (·.2) = qs.map (·.2)) := by
      by_cases c : ps.map (·.2) = qs.map (·.2)
      · rw [decide_eq_true c, c]; simp
      · rw [decide_eq_false c, Bool.eq_false_iff]
        intro h
        rw [List.all_eq_true] at h
        refine c (List.ext_getElem? fun i => ?_)
        by_cases hi : i < ps.length
        · exact of_decide_eq_true (h i (List.mem_range.mpr (by rw [List.length_map]; exact hi)))
        · rw [List.getElem?_eq_none (by rw [List.length_map]; omega), List.getElem?_eq_none (by rw [List.length_map]; omega)]
    rw [e] at h
    exact h
  · have c : ps.map (·.2) ≠ qs.map (·.2) := fun z => l (by have := congrArg List.length z; simpa using this)
    rw [decide_eq_false c]
    exact DT.len ha.l hb.l (by rw [List.length_map, List.length_map]; exact l)
section
variable {X : Cx}
end
section
variable {X : Cx} {k : Nat} {x m : Str} {ps : List Str} {sp : Sp} {p pos apos : Pos} {e o : Expr} {es : List Expr} {ta : TE} {t : TA}
end
theorem op_eqCK {X : Cx} {K : PySem.W.Frag} (hK : X.K = K) (hu : X.A.units + 10 < cLine) : OpR X (compareOp .Eq) (fun x y H Q => Ex_3_4 (fun a b k => x = .ref a) (fun a b k => y = .ref b) (fun a b k => DT K H a b k) (fun a b k => Q (.bl k) H)) := hK ▸ op_eqC hu
end L2

set_option Elab.async false
set_option linter.all false
set_option maxRecDepth 100000
set_option maxHeartbeats 4100000
namespace L2
open PySem PySem.Spec PyProof.Rows PySem.W PySem.Calls
noncomputable def Fair (n : Int) : Prop := Builtin.Int.intBits n ≤ 2 ^ 20
noncomputable def CMulB (i j : Int) : Prop := CMul i j ∨ (Fair i ∧ Fair j)
theorem op_mulB {X : Cx} : OpR X (binaryOp .Mult) (rI CMulB fun i j => .int (i * j)) := opI fun _ _ _ _ _ _ _ hc q => mul_int q (by rcases hc with h | ⟨h1, h2⟩; exact h.ok; exact IntMulOk.of_bits h1 h2)
theorem attach_callB {l : OpenLaw} {n : Nat} {q : Program} {loose : List Str} {XP : (Str → Option Value) → Heap → Prop} {YP : World → Heap → Prop} {d : DefRec} (hn : l.most = some n) (hdf : d.params.defaults = [])
    (call : ∀ (w : World) (s₀ s₁ : Shared) (mg mb : Str → Option Value) (fa : Addr) (o : Obj) (pm cd doc : Value) (a : Addr) (vs : List Value) (ns : List Int), Ground q loose [] XP w s₀ mg mb s₁.heap → YP w s₁.heap →
      s₁.heap.get? fa = some o → o.data = .func (docDef d.name d.params d.body d.scope pm cd doc) → s₁.heap.CodeRec cd d.name → mg d.name = some (.ref fa) →
      s₁.heap.get? a = some { cls := .type "list", data := .seq vs.toArray } → IntsAre vs ns → ns.length ≤ n → (∀ i ∈ ns, Fair i) → s₁.gens = #[] →
      codeAny (model l.prog w) callerA (.call (.ref fa) ⟨[.ref a], []⟩) (fun r s' => r = .ok (.ret (.bool true)) ∧ OldK s₁.heap s'.heap ∧ s'.os = s₁.os ∧ AllBare s'.gens) s₁) :
    WalkO q loose XP YP l.row.toRowW d [] (fun f vs => PySem.call f vs) := by
  intro w s₀ s₁ mg mb G Y fa o pm cd doc dV kV ho hd hcd hD hmg hg args vals as hpre hlay hrd hwl hlo
  obtain rfl : dV = .none := Dflts.none hD hdf
  obtain rfl : kV = .none := Dflts.noKw hD
  obtain ⟨a, vs, ns, rfl, rfl, hobj, hints, hlen⟩ := Att.script_of hn hpre hwl
  have fair : ∀ i ∈ ns, Fair i := fun i hi => by
    have h1 := layableW_item (layableW_arg hlay _ (List.mem_singleton.mpr rfl)) (WData.int i) (List.mem_map.mpr ⟨i, hi, rfl⟩)
    exact PyData.bits_of_layable (show PyData.layable0 (.int i) = true from h1)
  refine enter_call (codeAny_mono (call w s₀ s₁ mg mb fa o pm cd doc a vs ns G Y ho (fd_plain hd) hcd hmg hobj hints hlen fair hg) fun r s' hq => ?_)
  obtain ⟨rfl, h2, h3, h4⟩ := hq
  exact ⟨.inl ⟨.bool true, .bool true, [], rfl, fun _ => rfl, .bool true, Att.post_true l _, fun _ => ⟨List.Pairwise.nil, fun _ hm => (nomatch hm)⟩⟩, h2, h3, h4⟩
theorem walk_ofB {l : PySem.W.OpenLaw} {n k : Nat} {q : Program} {loose : List Str} {XP : (Str → Option Value) → Heap → Prop} {YP : World → Heap → Prop} {d : DefRec} {K : Params → PySem.W.Frag} {sp : World → Sp} {x : Str}
    (hn : l.most = some n) (hn2 : n ≤ sizeLine) (hdf : d.params.defaults = []) (hr : Room k callerA) (hY : ∀ (w : World) (h : Heap), YP w h → (K w.params).In h)
    (F : ∀ (w : World) (mg : Str → Option Value) (fa : Addr) (h : Heap), (K w.params).In h → h.Ns mainGlobals mg → mg d.name = some (.ref fa) →
      ∃ fd : FuncData, (∀ (s : Shared) (u : Value), BindsTo s fd ⟨[u], []⟩ [(x, u)]) ∧ ∀ base : Heap, (K w.params).In base → base.Ns mainGlobals mg → FnOk l.prog w (K w.params) mg base CX0 k fa fd [x] (sp w))
    (hsp : ∀ (w : World) (H : Hp) (a : Addr) (ns : List Int), ns.length ≤ n → (∀ i ∈ ns, Fair i) → SqL (K w.params) H a (ns.map V.int) → sp w [.ref a] H (fun v _ => v = .bl true) fun _ _ _ => False) :
    PySem.W.WalkO q loose XP YP l.row.toRowW d [] (fun f vs => PySem.call f vs) := by
  refine attach_callB hn hdf fun w s₀ s₁ mg mb fa o pm cd doc a vs ns G Y ho hd hcd hmg hobj hints hlen fair hg => ?_
  have KX := hY w _ Y
  obtain ⟨fd, hb, hF⟩ := F w mg fa _ KX G.T.g hmg
  exact law_call KX G.T.g G.T.b G.T.builtins G.T.nolimit hg hobj hints (Nat.le_trans hlen hn2) hr hF hb (fun H _ hS => hsp w H a ns hlen fair hS) fun _ _ _ z => z
end L2

set_option Elab.async false
set_option linter.all false
set_option maxRecDepth 100000
namespace L2
open PySem
theorem meetsLenT {prog : Program} {w : World} {d : Addr} (hd : (d == sysModules) = false) : MeetsIn prog w (Builtin.«dict.__len__» ⟨[.ref d], []⟩) (fun _ R s => Ex_4_4 (fun (n : Nat) (o : Obj) (es : Array DictEntry) (ep : Nat) => s.heap.get? d = some o) (fun n o es ep => o.data = .dict es ep) (fun n o es ep => es.size = n) (fun n o es ep => R (.ok (.ret (.int n s.toks))) { s with toks := s.toks + 1 })) :=
  .of_wp fun A R s ⟨n, o, es, ep, ho, hdat, hsz, h⟩ => by
    show wpAny _ _ (dictSize d >>= _) _ _ s; unfold dictSize; refine wpAny_bind (wpAny_bind (wpAny_dictEntries ho hdat (wpAny_pure ?_))); show wpAny _ _ (Builtin.Dict.pendingCount d >>= _) _ _ s
    refine wpAny_bind (wpAny_pendingCount_other hd ?_); refine wpAny_ret_mkInt ?_; rw [Nat.add_zero, hsz]; exact h
theorem lenT_body {prog : Program} {w : World} {A : Around} {E : Value → Shared → Prop} {s : Shared} {d : Addr} {n : Nat} {o : Obj} {es : Array DictEntry} {ep : Nat} {Q : Value → Shared → Prop} (hd : (d == sysModules) = false) (ho : s.heap.get? d = some o) (hx : o.ExactDict) (hdat : o.data = .dict es ep) (hn : es.size = n) (hfit : (n : Int) < 2 ^ 63)
    (h : Q (.int n (s.toks + 1)) { s with toks := s.toks + 1 + 1 }) : wpAny (model prog w) A (Builtin.«len» ⟨[.ref d], []⟩) (fun fin s' => ∃ r, fin = .done (.ret r) ∧ Q r s') E s := by
  have ty : s.TypeIs (.ref d) "dict" := ⟨o, ho, hx.1⟩
  unfold Builtin.«len»; refine wpAny_bind (m := oneArg "len" _) (wpAny_pure ?_)
  refine wpAny_bind (m := callSpecial? (.ref d) (Str.ofString "__len__")) (wpAny_callSpecial?_slot (name := Str.ofString "__len__") ty F.slot_dict_len (call_meetsIn F.slot_dict_len ty F.entry_dict_len (F.args_dict_len_1 _) (meetsLenT hd) ⟨n, o, es, ep, ho, hdat, hn, ?_⟩))
  show wpAny _ _ _ _ _ { s with toks := s.toks + 1 }; refine wpAny_bind (wpAny_holding (wpAny_pure ?_)); refine wpAny_bind (wpAny_letGo ?_)
  show wpAny _ _ (if ((n : Nat) : Int) < 0 then _ else _) _ _ _; rw [if_neg (by omega)]
  show wpAny _ _ (if ((n : Nat) : Int) ≥ 2 ^ 63 then _ else _) _ _ _; rw [if_neg (by omega)]
  exact wpAny_bind (wpAny_mkInt (wpAny_pure ⟨_, rfl, h⟩))
theorem call_lenT {X : Cx} : CallR X (.builtin "len") (fun xs H Q => Ex_2_3 (fun a kvs => xs = [V.ref a]) (fun a kvs => H a = some (.dT kvs)) (fun a kvs => Q (.int kvs.length) H)) := by
  intro pins s σ H xs us Q I r h
  obtain ⟨a, kvs, rfl, ha, q⟩ := h
  obtain ⟨u, rfl, ru⟩ := vals1 r
  cases ru
  obtain ⟨z, hd, ts, rel, o, es, ep, ho, hx, hdat, he, _⟩ := dt_of I.hok ha
  have hl : es.size = kvs.length := by rw [size_of_entries he, rel.length]
  refine Calls.call_function_entry kind_len plain_len entry_len (args_len1 _) (lenT_body hd ho hx hdat hl (by rw [sizeLine_eq] at z; omega) ?_)
  exact ⟨.int kvs.length, H, I.tok _, ⟨_, rfl⟩, q⟩
end L2

set_option linter.all false
namespace L2
open PySem PySem.W
theorem walkX {q : PySem.Program} {loose : List PySem.Str} {XP : (PySem.Str → Option PySem.Value) → PySem.Heap → Prop} {r : RowW} {d : DefRec} {K : PySem.Params → PySem.W.Frag} {as : List PySem.Addr} {n t : Nat} {run : PySem.Value → List PySem.Value → PySem.Sem PySem.Value}
    (e : ∀ P, as = (K P).map (·.1)) (H : PySem.W.WalkO q loose XP (fun w h => (K w.params).In h) r d [] run) : PySem.W.WalkX q loose XP (PySem.W.X.obsZ as) (PySem.W.X.valZ K n t) r d [] run := by
  intro w s₀ s₁ mg mb G y a o pm cd doc dV kV ho hd hcd hD hmg hg args vals as' L hpre hlay hrd hwl hlo
  exact H w s₀ s₁ mg mb G (PySem.W.InK.keeps w _ _ (PySem.W.X.z_facts e y).2.1 L.keeps) a o pm cd doc dV kV ho hd hcd hD hmg hg args vals as' hpre hlay hrd hwl hlo
end L2

set_option Elab.async false
set_option linter.all false
set_option maxRecDepth 100000
namespace L2
open PySem PySem.Spec PyProof.Rows
theorem comp_enum {K : PySem.W.Frag} {a D : Addr} {xs : List V} {g : TG} {tt : TT} {te : TE} {σc : St} {H : Hp} {F : Hp → Prop} (Pv : Nat → St → List V → Hp → Prop) (h0 : Pv 0 σc [] (upd H D (.lst [])))
    (hl : ∀ i σ zs H, i ≤ xs.length → Pv i σ zs H → SqL K H a xs ∧ H D = some (.lst zs) ∧ zs.length ≤ i) (hz : xs.length ≤ sizeLine)
    (hs : ∀ i x σ zs H p, xs[i]? = some x → Pv i σ zs H → H p = none → g (.ref p) σ (upd H p (.tup [.int i, x])) fun σ2 H2 => tt σ2 H2 fun b H3 => if b = true then te σ2 H3 fun y H4 => H4 D = some (.lst zs) ∧ Pv (i + 1) σ2 (zs ++ [y]) (upd H4 D (.lst (zs ++ [y]))) else Pv (i + 1) σ2 zs H3)
    (hd : ∀ σ zs H, Pv xs.length σ zs H → F H) : tLoopC g tt te σc D (Ite K a) H F := by
  refine ⟨fun i m σ zs H => m = xs.length - i ∧ i ≤ xs.length ∧ Pv i σ zs H, ⟨xs.length, by simp, Nat.zero_le _, h0⟩, ?_⟩
  rintro i m σ zs H ⟨rfl, hi, p⟩
  obtain ⟨q, hD, hy⟩ := hl i σ zs H hi p
  refine ⟨hD, ?_⟩
  by_cases hlt : i < xs.length
  · refine .inr ⟨⟨xs, xs[i], q, by simp [hlt]⟩, by omega, Pv (i + 1), fun σ' zs' H' p' => ⟨xs.length - (i + 1), by omega, rfl, hlt, p'⟩, fun v H' y => ?_⟩
    obtain ⟨pp, x, rfl, hn, hx, rfl⟩ := y
    exact hs i x σ zs H pp (hx xs q) p hn
  · have e : i = xs.length := by omega
    subst e
    exact .inl ⟨⟨xs, q, Nat.le_refl _⟩, hd σ zs H p⟩
theorem call_isBoolK {X : Cx} {K : PySem.W.Frag} (hK : X.K = K) : CallR X (.builtin "isinstance") (rIs "bool" (isBoolV K)) := by subst hK; exact call_isBool
end L2

set_option Elab.async false
set_option linter.all false
set_option maxRecDepth 100000
set_option maxHeartbeats 4100000
namespace L2
open PySem PySem.Spec PyProof.Rows
section
variable {X : Cx}
theorem op_notInT (hu : X.A.units + 10 < cLine) : OpR X (compareOp .NotIn) (fun x y H Q => Ex_4_5 (fun (a l : Addr) (k : List Key) (ps : List TK) => x = .ref a) (fun a l k ps => y = .ref l) (fun a l k ps => SqT X.K H a (k.map kV)) (fun a l k ps => TKs X.K H l ps) (fun a l k ps => Q (.bl (!(ps.any fun q => decide (q.2 = k)))) H)) := by
  intro pins s σ H x y v u Q I rx ry h
  obtain ⟨a, l, k, ps, rfl, rfl, ha, hl, q⟩ := h
  cases rx
  cases ry
  obtain ⟨its, rv, pl, hz⟩ := I.list hl.l
  have e := tk_vals rv
  subst e
  have inj : ∀ p ∈ ps, ∀ r ∈ ps, p.1 = r.1 → p.2 = r.2 := fun p hp r hr z => kVs_inj (I.tuple_inj (hl.ts p hp) (by rw [z]; exact hl.ts r hr))
  have ee : ∀ p ∈ ps, (ps.any fun r => r.1 == p.1 && decide (r.2 = k)) = decide (p.2 = k) := fun p hp => by
    by_cases c : p.2 = k
    · rw [decide_eq_true c, List.any_eq_true]
      exact ⟨p, hp, by simp [c]⟩
    · rw [decide_eq_false c, Bool.eq_false_iff]
      intro z
      obtain ⟨r, hr, hz⟩ := List.any_eq_true.mp z
      rw [Bool.and_eq_true] at hz
      have e1 : r.1 = p.1 := by simpa using hz.1
      have e2 : r.2 = k := by simpa using hz.2
      exact c ((inj r hr p hp e1).symm.trans e2)
  refine SeqAt.notIn_listAt (fun y => match y with | .ref b => ps.any fun r => r.1 == b && decide (r.2 = k) | _ => false) pl.isList (fun y hy => ?_) ?_
  · rw [List.mem_toArray] at hy
    obtain ⟨p, hp, rfl⟩ := List.mem_map.mp hy
    show SeqAt.EqAt X.A.in1 s (.ref p.1) (.ref a) (ps.any fun r => r.1 == p.1 && decide (r.2 = k))
    rw [ee p hp]
    exact dc_at (DC.keys (n := 7) (hl.ts p hp) ha) I rfl rfl (by rw [in1_units]; omega)
  · have e : ((ps.map fun q => Value.ref q.1).toArray.any fun y => match y with | .ref b => ps.any fun r => r.1 == b && decide (r.2 = k) | _ => false) = ps.any fun q => decide (q.2 = k) := by
      rw [List.any_toArray, List.any_map]
      have cong : ∀ l : List TK, (∀ p ∈ l, p ∈ ps) → (l.any fun p => ps.any fun r => r.1 == p.1 && decide (r.2 = k)) = l.any fun q => decide (q.2 = k) := by
        intro l
        induction l with
        | nil => intro _; rfl
        | cons p l ih =>
          intro hl
          rw [List.any_cons, List.any_cons, ee p (hl p (List.mem_cons_self ..)), ih fun r hr => hl r (List.mem_cons_of_mem _ hr)]
      exact cong ps fun _ h => h
    rw [e]
    exact ⟨.bl _, H, I, rfl, q⟩
theorem call_any_bools (hcalm : X.calm = true) : CallR X (.builtin "any") (fun xs H Q => Ex_2_3 (fun (p : Addr) (bs : List Bool) => xs = [.ref p]) (fun p bs => SqL X.K H p (bs.map V.bl)) (fun p bs => Q (.bl (bs.any id)) H)) := by
  intro pins s σ H xs us Q I r h
  obtain ⟨p, bs, rfl, hp, q⟩ := h
  obtain ⟨u, rfl, ru⟩ := vals1 r
  cases ru
  obtain ⟨its, rv, pl, hz⟩ := I.list hp
  have hlt : p < s.heap.objs.size := let ⟨o, n, e, _⟩ := pl; Heap.lt_size e
  have hlen : its.length = bs.length := by rw [← rv.length, List.length_map]
  have hrg : (List.range its.toArray.size).any (fun i => bs.getD i false) = bs.any id := by
    rw [List.size_toArray, hlen]
    clear hlen rv hp q hz
    induction bs with
    | nil => rfl
    | cons b bs ih =>
      rw [List.length_cons, List.range_succ_eq_map, List.any_cons, List.any_cons, List.any_map, ← ih]
      rfl
  refine call_any_walk (wpAny_pyIter_list pl.isList ?_)
  refine ⟨s.heap.objs.size, _, _, _, _, _, fun i => bs.getD i false, rfl, Walks.list (A := X.A.in1) (I.ok.hd hcalm) _ p (Nat.ne_of_lt hlt) its.toArray, ⟨⟨_, Heap.get?_push_size _ rfl, rfl, rfl⟩, pl.isList.push _⟩, fun i v s' Q' E' hv hq => ?_, fun h' tk hk => ?_⟩
  · have hv' : its[i]? = some v := by
      have hv2 : its.toArray[i]? = some v := hv
      rwa [List.getElem?_toArray] at hv2
    have hi : i < bs.length := by
      have := (List.getElem?_eq_some_iff.mp hv').1
      omega
    obtain ⟨u, hu, ht⟩ := rv.get (i := i) (x := .bl bs[i]) (by rw [List.getElem?_map, List.getElem?_eq_getElem hi]; rfl)
    rw [hv'] at hu
    have e : bs.getD i false = bs[i] := by rw [List.getD_eq_getElem?_getD, List.getElem?_eq_getElem hi]; rfl
    rw [Option.some.inj hu, show u = Value.bool bs[i] from ht, ← e]
    exact wpAny_truthy_bool hq
  · rw [hrg]
    refine ⟨.bl _, H, I.kept (t' := tk) fun b o eb => hk b o (fun hm => ?_) (Heap.get?_push_of_some _ eb), rfl, q⟩
    have hm' := List.mem_singleton.mp hm
    exact absurd (Heap.lt_size eb) (by rw [hm']; exact Nat.lt_irrefl _)
end
theorem op_notInTK {X : Cx} {K : PySem.W.Frag} (hK : X.K = K) (hu : X.A.units + 10 < cLine) : OpR X (compareOp .NotIn) (fun x y H Q => Ex_4_5 (fun (a l : Addr) (k : List Key) (ps : List TK) => x = .ref a) (fun a l k ps => y = .ref l) (fun a l k ps => SqT K H a (k.map kV)) (fun a l k ps => TKs K H l ps) (fun a l k ps => Q (.bl (!(ps.any fun q => decide (q.2 = k)))) H)) := hK ▸ op_notInT hu
theorem fm_all {α β : Type} {g : α → Option β} : ∀ {l : List α} {ys : List β}, l.length = ys.length → (∀ (i : Nat) x, l[i]? = some x → g x = ys[i]?) → l.filterMap g = ys
  | [], [], _, _ => rfl
  | [], _ :: _, h, _ => nomatch h
  | _ :: _, [], h, _ => nomatch h
  | x :: l, y :: ys, h, hg => by
    have e : g x = some y := hg 0 x rfl
    rw [List.filterMap_cons_some e, fm_all (Nat.succ.inj h) fun i z hz => hg (i + 1) z hz]
theorem pick_back (its : List Value) : slicePick its.toArray none none (some (-1)) = its.reverse.toArray := by
  have e : sliceBounds none none (some (-1)) its.toArray.size = ((its.length : Int) - 1, -1, -1) := by
    simp [sliceBounds]
  unfold slicePick
  rw [e]
  congr 1
  have c : sliceRange ((its.length : Int) - 1) (-1) (-1) = (List.range its.length).map fun k => its.length - 1 - k := by
    unfold sliceRange
    rw [if_neg (by decide)]
    by_cases h : its.length = 0
    · rw [if_neg (by omega), h]; rfl
    · rw [if_pos (by omega)]
      have : (((its.length : Int) - 1 - -1 - -1 - 1) / - -1).toNat = its.length := by
        rw [show (- -1 : Int) = 1 from rfl, Int.ediv_one]
        omega
      show List.map _ (List.range (((its.length : Int) - 1 - -1 - -1 - 1) / - -1).toNat) = _
      rw [this]
      refine List.map_congr_left fun k hk => ?_
      have := List.mem_range.mp hk
      omega
  show List.filterMap (fun x => its.toArray[x]?) (sliceRange ((its.length : Int) - 1) (-1) (-1)) = its.reverse
  rw [c]
  refine fm_all (by simp) fun i x hx => ?_
  rw [List.getElem?_map] at hx
  by_cases hi : i < its.length
  · rw [List.getElem?_range hi] at hx
    cases hx
    rw [List.getElem?_toArray, List.getElem?_reverse hi]
  · rw [List.getElem?_eq_none (by simpa using hi)] at hx
    cases hx
theorem pe_back {X : Cx} {e : Expr} {te : TE} {st : Expr} {ts : TO} {pos p2 : Pos} (he : PE X e te) (hs : PO X (some st) ts) : PE X (.Subscript e (.Slice none none (some st) p2) pos) (fun σ H Q => te σ H fun x H1 => ts σ H1 fun o H2 => o = some (-1) ∧ Ex_2_3 (fun a xs => x = .ref a) (fun a xs => SqL X.K H2 a xs) (fun a xs => ∀ p, H2 p = none → Q (.ref p) (upd H2 p (.lst xs.reverse)))) := by
  intro pins s σ H Q I h
  refine Subscript_ (thn (he pins s σ H _ I h) fun v s1 ⟨x, H1, I1, r1, q1⟩ => ?_)
  refine wpAny_Slice ?_
  rw [evalPart_none]
  refine wpAny_pure (wpAny_pure (thn (hs pins s1 σ H1 _ I1 q1) fun vs s2 ⟨o, H2, I2, ps, q2⟩ => ?_))
  obtain ⟨rfl, a, xs, rfl, hx, q⟩ := q2
  cases r1
  have I4 : Inv X pins σ H2 { s2 with heap := s2.heap.push { cls := .type "slice", data := .fields #[.none, .none, vs] } } := I2.kept (t' := s2.toks) fun b ob q => Heap.get?_push_of_some _ q
  obtain ⟨its, r, ht, hz⟩ := I4.list hx
  have hlen := r.length
  show wpAny (model X.prog X.w) X.A (subscriptTail e (.Slice none none (some st) p2) (.ref a) (.ref s2.heap.objs.size)) (EP X pins σ Q) X.xe { s2 with heap := s2.heap.push { cls := .type "slice", data := .fields #[.none, .none, vs] } }
  refine tail_any (ops := [.ref a, .ref s2.heap.objs.size]) ht.isList.typeIs slot_list_getitem.lookup ?_ (by with_unfolding_all rfl)
  refine wpAny_getItem_list_slice ht.isList (Heap.IsSliceOf.new ..) .none .none ps (by simp) ?_ (by rw [List.size_toArray] <;> omega)
  rw [pick_back]
  refine ⟨.ref _, _, I4.laid (t' := s2.toks) (o := .lst xs.reverse) (fun b ob q => Heap.get?_push_of_some _ q) (Nat.le_refl _) ?_, rfl, q _ (I4.hok.fresh (Nat.le_refl _))⟩
  exact ⟨by rw [List.length_reverse]; exact hz, _, 0, r.reverse, Heap.get?_push_size _ rfl⟩
theorem bt_any : bootBuiltins "any" = some (.builtin "any") := by decide +kernel
end L2

set_option Elab.async false
set_option linter.all false
set_option maxRecDepth 100000
set_option maxHeartbeats 4100000
namespace Own
open PySem L2
noncomputable def top (i : Nat) : Stmt := PySem.Challenge.pw_latewrite_k61_stops_put_in.main.body.getD i (.Pass ⟨0, 0, 0, 0⟩)
noncomputable abbrev s_placeof : Stmt := top 1
noncomputable abbrev s_iswrite : Stmt := top 2
noncomputable abbrev s_isread : Stmt := top 3
noncomputable abbrev s_pointdeeds : Stmt := top 8
noncomputable abbrev s_numbered : Stmt := top 9
noncomputable abbrev s_points : Stmt := top 10
noncomputable abbrev s_gaps : Stmt := top 12
noncomputable abbrev s_fenced : Stmt := top 13
noncomputable abbrev s_fencedhand : Stmt := top 14
noncomputable abbrev s_Ldraw : Stmt := top 16
noncomputable abbrev s_Lnames : Stmt := top 17
noncomputable abbrev s_Lnumber : Stmt := top 18
noncomputable abbrev s_Lplace : Stmt := top 19
noncomputable abbrev s_Ldeed : Stmt := top 20
noncomputable abbrev s_Llong : Stmt := top 21
noncomputable abbrev s_Lgaps : Stmt := top 22
noncomputable abbrev s_Lstops : Stmt := top 23
noncomputable abbrev s_Lstopped : Stmt := top 24
noncomputable abbrev s_Lalike : Stmt := top 25
noncomputable abbrev s_law : Stmt := top 26
structure Txt (K : PySem.W.Frag) (mg : Str → Option Value) : Prop where
  n_any : mg "any" = none
  n_bool : mg "bool" = none
  n_dict : mg "dict" = none
  n_enumerate : mg "enumerate" = none
  n_int : mg "int" = none
  n_isinstance : mg "isinstance" = none
  n_len : mg "len" = none
  n_list : mg "list" = none
  n_range : mg "range" = none
structure DD where
  a : Addr
  d : Deed
  g : Option (Str × Str × Int)
noncomputable def DD.gok (K : PySem.W.Frag) (H : Hp) (x : DD) : Prop := match x.g with
  | none => x.d.guard = .non
  | some (w, c, n) => ∃ q : Addr, x.d.guard = .ref q ∧ SqT K H q [.str w, .str c, .int n]
structure IsDeed (K : PySem.W.Frag) (H : Hp) (x : DD) : Prop where
  t : SqT K H x.a x.d.items
  g : x.gok K H
structure IsHand (K : PySem.W.Frag) (H : Hp) (a : Addr) (ds : List DD) : Prop where
  l : SqL K H a (ds.map fun x => V.ref x.a)
  ds : ∀ x ∈ ds, IsDeed K H x
noncomputable abbrev Hands := List (Addr × List DD)
structure IsProg (K : PySem.W.Frag) (H : Hp) (p : Addr) (hs : Hands) : Prop where
  l : SqL K H p (hs.map fun h => V.ref h.1)
  hs : ∀ h ∈ hs, IsHand K H h.1 h.2
noncomputable def pt (d : Deed) : Bool := d.writes || d.reads
noncomputable def ptsOf (ds : List DD) : List DD := ds.filter fun x => pt x.d
noncomputable def spot : Deed → List Str
  | .put x _ _ => [x] | .get _ x _ => [x] | .swap _ x _ _ => [x] | _ => []
noncomputable def fill : Deed → List Str
  | .get c _ _ => [c] | .swap c _ _ _ => [c] | _ => []
noncomputable def asks (x : DD) : List Str := (x.g.map fun g => g.2.1).toList
structure Good (S C : List Str) (hs : Hands) : Prop where
  nh : hs.length ≤ 6
  nd : ∀ h ∈ hs, h.2.length ≤ 40
  sp : ∀ h ∈ hs, ∀ x ∈ h.2, ∀ z ∈ spot x.d, z ∈ S
  cf : ∀ h ∈ hs, ∀ x ∈ h.2, ∀ z ∈ fill x.d, z ∈ C
  ca : ∀ h ∈ hs, ∀ x ∈ h.2, ∀ z ∈ asks x, z ∈ C
  ns : S.length ≤ 4
  nc : C.length ≤ 4
noncomputable def row (i n : Nat) : List (Int × Int) := (List.range n).map fun (k : Nat) => ((i : Int), (k : Int))
noncomputable def npts (ds : List DD) : Nat := (ptsOf ds).length
noncomputable def handAt (hs : Hands) (i : Nat) : List DD := ((hs[i]?).map (·.2)).getD []
noncomputable def ptsTo (hs : Hands) : Nat → List (Int × Int)
  | 0 => []
  | i + 1 => ptsTo hs i ++ row i (npts (handAt hs i))
structure Pairs (K : PySem.W.Frag) (H : Hp) (ps : List Addr) (zs : List (Int × Int)) : Prop where
  len : ps.length = zs.length
  at_ : ∀ (i : Nat) p z, ps[i]? = some p → zs[i]? = some z → SqT K H p [.int z.1, .int z.2]
section
variable {K : PySem.W.Frag} {H H' : Hp}
theorem IsDeed.same {x : DD} (s : Same H H') (h : IsDeed K H x) : IsDeed K H' x := by
  refine ⟨s.seqT h.t, ?_⟩
  have g := h.g
  unfold DD.gok at g ⊢
  cases e : x.g with
  | none => rw [e] at g; exact g
  | some c =>
    rw [e] at g
    obtain ⟨q, h1, h2⟩ := g
    exact ⟨q, h1, s.seqT h2⟩
theorem IsHand.same {a : Addr} {ds : List DD} (s : Same H H') (h : IsHand K H a ds) : IsHand K H' a ds := ⟨s.seq h.l, fun x hx => (h.ds x hx).same s⟩
theorem IsProg.same {p : Addr} {hs : Hands} (s : Same H H') (h : IsProg K H p hs) : IsProg K H' p hs := ⟨s.seq h.l, fun x hx => (h.hs x hx).same s⟩
theorem Pairs.same {ps : List Addr} {zs : List (Int × Int)} (s : Same H H') (h : Pairs K H ps zs) : Pairs K H' ps zs := ⟨h.len, fun i p z a b => s.seqT (h.at_ i p z a b)⟩
theorem Pairs.nil : Pairs K H [] [] := ⟨rfl, fun i p z a => by simp at a⟩
theorem Pairs.append {ps qs : List Addr} {zs ws : List (Int × Int)} (h : Pairs K H ps zs) (g : Pairs K H qs ws) : Pairs K H (ps ++ qs) (zs ++ ws) := by
  refine ⟨by rw [List.length_append, List.length_append, h.len, g.len], fun i p z a b => ?_⟩
  by_cases hi : i < ps.length
  · rw [List.getElem?_append_left hi] at a
    rw [List.getElem?_append_left (by rw [← h.len]; exact hi)] at b
    exact h.at_ i p z a b
  · rw [List.getElem?_append_right (by omega)] at a
    rw [List.getElem?_append_right (by rw [← h.len]; omega), ← h.len] at b
    exact g.at_ _ p z a b
theorem Pairs.one {p : Addr} {a b : Int} (h : SqT K H p [.int a, .int b]) : Pairs K H [p] [(a, b)] := ⟨rfl, fun i q z e1 e2 => by
  cases i with
  | zero => simp at e1 e2; subst e1 e2; exact h
  | succ i => simp at e1⟩
theorem Pairs.lset {l : Addr} {ps : List Addr} {zs : List (Int × Int)} {xs ys : List V} (hl : H l = some (.lst xs)) (h : Pairs K H ps zs) : Pairs K (upd H l (.lst ys)) ps zs := ⟨h.len, fun i p z a b => SqT.lset hl (h.at_ i p z a b)⟩
theorem row_succ (i n : Nat) : row i (n + 1) = row i n ++ [((i : Int), (n : Int))] := by
  unfold row
  rw [List.range_succ, List.map_append]
  rfl
theorem ptsOf_take_succ {ds : List DD} {i : Nat} {x : DD} (h : ds[i]? = some x) : ptsOf (ds.take (i + 1)) = ptsOf (ds.take i) ++ (if pt x.d = true then [x] else []) := by
  unfold ptsOf
  rw [List.take_add_one, h, List.filter_append]
  congr 1
  by_cases c : pt x.d = true
  · rw [if_pos c]; simp [c]
  · rw [if_neg c]; simp [c]
theorem ptsOf_le (ds : List DD) : (ptsOf ds).length ≤ ds.length := List.length_filter_le _ _
theorem handAt_of {hs : Hands} {i : Nat} {h : Addr × List DD} (e : hs[i]? = some h) : handAt hs i = h.2 := by
  unfold handAt
  rw [e]; rfl
theorem refs_get {α : Type} {xs : List α} {f : α → V} {i : Nat} {v : V} (h : (xs.map f)[i]? = some v) : ∃ x, xs[i]? = some x ∧ v = f x := by
  rw [List.getElem?_map] at h
  cases e : xs[i]? with
  | none => rw [e] at h; cases h
  | some x => rw [e] at h; exact ⟨x, rfl, (Option.some.inj h).symm⟩
theorem place_spot {d : Deed} (h : pt d = true) : ∃ z, spot d = [z] ∧ d.place = .str z := by
  cases d with
  | put x n g => exact ⟨x, rfl, rfl⟩
  | get c x g => exact ⟨x, rfl, rfl⟩
  | swap c x n g => exact ⟨x, rfl, rfl⟩
  | fence g => cases h
  | bar g => cases h
theorem place_none {d : Deed} (h : pt d = false) : d.place = .non := by
  cases d with
  | put x n g => cases h
  | get c x g => cases h
  | swap c x n g => cases h
  | fence g => rfl
  | bar g => rfl
end
inductive Sp_iswrite (K : PySem.W.Frag) (vs : List V) (H : Hp) (Q : VK) (E_ : XK) : Prop
  | mk (p : Addr) (d : Deed) (h0_ : vs = [.ref p]) (h1_ : SqT K H p d.items) (h2_ : ∀ H', Same H H' → Q (.bl d.writes) H') : Sp_iswrite K vs H Q E_
noncomputable def sp_iswrite (K : PySem.W.Frag) : Sp := Sp_iswrite K
inductive Sp_isread (K : PySem.W.Frag) (vs : List V) (H : Hp) (Q : VK) (E_ : XK) : Prop
  | mk (p : Addr) (d : Deed) (h0_ : vs = [.ref p]) (h1_ : SqT K H p d.items) (h2_ : ∀ H', Same H H' → Q (.bl d.reads) H') : Sp_isread K vs H Q E_
noncomputable def sp_isread (K : PySem.W.Frag) : Sp := Sp_isread K
inductive Sp_pointdeeds (K : PySem.W.Frag) (vs : List V) (H : Hp) (Q : VK) (E_ : XK) : Prop
  | mk (a : Addr) (ds : List DD) (h0_ : vs = [.ref a]) (h1_ : IsHand K H a ds) (h2_ : ds.length ≤ 40) (h3_ : ∀ l H', Same H H' → H' l = some (.lst ((ptsOf ds).map fun x => V.ref x.a)) → Q (.ref l) H') : Sp_pointdeeds K vs H Q E_
noncomputable def sp_pointdeeds (K : PySem.W.Frag) : Sp := Sp_pointdeeds K
section
variable {P : Program} {w : World} {K : PySem.W.Frag} {mg : Str → Option Value} {base : Heap}
theorem sc_iswrite : FnScope ["deed"] ["deed"] (defScope s_iswrite) := ⟨rfl, rfl, rfl, by decide +kernel, rfl, by decide +kernel, by decide +kernel⟩
theorem ok_iswrite {f : Addr} {fd : FuncData} (F : Fun K "is_write" "is_write" s_iswrite f fd) (T : Txt K mg)  : FnOk P w K mg base CX0 1 f fd ["deed"] (sp_iswrite K) := by
  refine F.ok (k := 0) sc_iswrite (fun vs H Q E h => ?_) (fun cdv A outer s H vs Q E hr h => ?_)
  · obtain ⟨p, d, rfl, _⟩ := h
    rfl
  · obtain ⟨p, d, rfl, hS, q⟩ := h
    refine ⟨_, (pss_one (ps_ret (pe_cmpR op_in_seq (pe_ix ix_tup (pv 0) pe_int (fun _ _ => rfl)) (pe_tup (pa_cons pe_str (pa_cons pe_str pa_nil))) (by with_unfolding_all rfl)))), ?_⟩
    cases d <;> exact ⟨_, rfl, p, _, _, _, rfl, rfl, hS, rfl, (by decide), fun l hl => ⟨l, _, rfl, .inr SqT.new, rfl, rfl, qb (q _ (Same.new hl)) (by first | exact (show true = _ by decide +kernel) | exact (show false = _ by decide +kernel))⟩⟩
theorem sc_isread : FnScope ["deed"] ["deed"] (defScope s_isread) := ⟨rfl, rfl, rfl, by decide +kernel, rfl, by decide +kernel, by decide +kernel⟩
theorem ok_isread {f : Addr} {fd : FuncData} (F : Fun K "is_read" "is_read" s_isread f fd) (T : Txt K mg)  : FnOk P w K mg base CX0 1 f fd ["deed"] (sp_isread K) := by
  refine F.ok (k := 0) sc_isread (fun vs H Q E h => ?_) (fun cdv A outer s H vs Q E hr h => ?_)
  · obtain ⟨p, d, rfl, _⟩ := h
    rfl
  · obtain ⟨p, d, rfl, hS, q⟩ := h
    refine ⟨_, (pss_one (ps_ret (pe_cmpR op_in_seq (pe_ix ix_tup (pv 0) pe_int (fun _ _ => rfl)) (pe_tup (pa_cons pe_str (pa_cons pe_str pa_nil))) (by with_unfolding_all rfl)))), ?_⟩
    cases d <;> exact ⟨_, rfl, p, _, _, _, rfl, rfl, hS, rfl, (by decide), fun l hl => ⟨l, _, rfl, .inr SqT.new, rfl, rfl, qb (q _ (Same.new hl)) (by first | exact (show true = _ by decide +kernel) | exact (show false = _ by decide +kernel))⟩⟩
theorem sc_pointdeeds : FnScope ["hand"] ["hand"] (defScope s_pointdeeds) := ⟨rfl, rfl, rfl, by decide +kernel, rfl, by decide +kernel, by decide +kernel⟩
theorem ok_pointdeeds {f : Addr} {fd : FuncData} (F : Fun K "point_deeds" "point_deeds" s_pointdeeds f fd) (T : Txt K mg) (h_iswrite : Has P w K mg base 1 "is_write" ["deed"] (sp_iswrite K)) (h_isread : Has P w K mg base 1 "is_read" ["deed"] (sp_isread K)) : FnOk P w K mg base CX0 2 f fd ["hand"] (sp_pointdeeds K) := by
  refine F.ok (k := 1) sc_pointdeeds (fun vs H Q E h => ?_) (fun cdv A outer s H vs Q E hr h => ?_)
  · obtain ⟨a, ds, rfl, _⟩ := h
    rfl
  · obtain ⟨a, ds, rfl, hH, hn, q⟩ := h
    refine ⟨_, (pss_one (ps_ret (pe_comp (Nc := ["deed"]) (nt := 1) (js := []) rfl ⟨rfl, rfl, rfl, rfl, .nil, rfl, ⟨["deed"], [], rfl, rfl, .nil⟩⟩ (pi_list (pv 0)) (fun C s3 H3 fp pins => ⟨(pg_name (i := 0) (show (["deed"] : List Str).Nodup by decide +kernel) rfl (Or.inl rfl)), (pts_one (PW.pt (pw_or (pt_val (pe_fn h_iswrite (hr.mono (by decide)) (pa_cons (pv 0) pa_nil))) (pw_or1 (pt_val (pe_fn h_isread (hr.mono (by decide)) (pa_cons (pv 0) pa_nil))))))), (pv 0)⟩)))), ?_⟩
    refine ⟨_, rfl, a, rfl, ⟨_, hH.l⟩, fun D hD => comp_list (xs := ds.map fun x => V.ref x.a) (fun i σ ys H' => Same H H' ∧ H' D = some (.lst ys) ∧ ys = (ptsOf (ds.take i)).map (fun x => V.ref x.a) ∧ ∃ v, σ = [v]) ?_ ?_ ?_ ?_ ?_⟩
    · exact ⟨Same.new hD, upd_same, rfl, none, rfl⟩
    · rintro i σ ys H' hi ⟨s, hD', rfl, v, rfl⟩
      refine ⟨s.seq hH.l, hD', ?_⟩
      rw [List.length_map]
      exact Nat.le_trans (ptsOf_le _) (by rw [List.length_take]; omega)
    · rw [List.length_map]; exact Nat.le_of_lt (small1000 (by omega))
    · rintro i y σ ys H' hy ⟨s, hD', rfl, v, rfl⟩
      obtain ⟨x, hx, rfl⟩ := refs_get hy
      have hd := hH.ds x (List.mem_of_getElem? hx)
      have e := ptsOf_take_succ hx
      have yes : ∀ {H2 : Hp}, Same H' H2 → pt x.d = true → H2 D = some (.lst ((ptsOf (ds.take i)).map fun x => V.ref x.a)) ∧ (Same H (upd H2 D (.lst ((ptsOf (ds.take i)).map (fun x => V.ref x.a) ++ [V.ref x.a]))) ∧ upd H2 D (.lst ((ptsOf (ds.take i)).map (fun x => V.ref x.a) ++ [V.ref x.a])) D = some (.lst ((ptsOf (ds.take i)).map (fun x => V.ref x.a) ++ [V.ref x.a])) ∧ (ptsOf (ds.take i)).map (fun x => V.ref x.a) ++ [V.ref x.a] = (ptsOf (ds.take (i + 1))).map (fun x => V.ref x.a) ∧ ∃ v, [some (V.ref x.a)] = [v]) := fun {H2} s2 c => by
        refine ⟨s2 _ _ hD', Same.at hD (s.trans s2), upd_same, ?_, _, rfl⟩
        rw [e, if_pos c, List.map_append]; rfl
      refine ⟨_, rfl, x.a, x.d, rfl, (hd.same s).t, fun H2 s2 => ⟨_, rfl, ifB (fun c => iteT ⟨_, rfl, yes s2 (by unfold pt; rw [c]; rfl)⟩) (fun c => ⟨_, rfl, x.a, x.d, rfl, (hd.same (s.trans s2)).t, fun H3 s3 => ⟨_, rfl, ifB (fun c' => ⟨_, rfl, yes (s2.trans s3) (by unfold pt; rw [c, c']; rfl)⟩) (fun c' => ?_)⟩⟩)⟩⟩
      refine ⟨s.trans (s2.trans s3), (s2.trans s3) _ _ hD', ?_, _, rfl⟩
      rw [e, if_neg (by unfold pt; rw [c, c']; decide), List.append_nil]
    · rintro σ ys H' ⟨s, hD', rfl, v, rfl⟩
      refine q D H' s ?_
      rw [hD', List.length_map, List.take_of_length_le (Nat.le_refl _)]
end
end Own


set_option Elab.async false
set_option linter.all false
set_option maxRecDepth 100000
set_option maxHeartbeats 4100000
namespace Own
open PySem L2
noncomputable abbrev Gd := Option (Str × Str × Int)
noncomputable def GOk (K : PySem.W.Frag) (H : Hp) (g : V) : Gd → Prop
  | none => g = .non
  | some (w, c, n) => ∃ q : Addr, g = .ref q ∧ SqT K H q [.str w, .str c, .int n]
noncomputable def gAsk (g : Gd) : List Str := (g.map fun g => g.2.1).toList
theorem gok_of {K : PySem.W.Frag} {H : Hp} {t : Addr} {d : Deed} {g : Gd} (h : GOk K H d.guard g) : DD.gok K H ⟨t, d, g⟩ := by
  unfold DD.gok
  cases g with
  | none => exact h
  | some c => exact h
theorem GOk.same {K : PySem.W.Frag} {H H' : Hp} {v : V} {g : Gd} (s : Same H H') (h : GOk K H v g) : GOk K H' v g := by
  cases g with
  | none => exact h
  | some c => obtain ⟨q, e, h⟩ := h; exact ⟨q, e, s.seqT h⟩
inductive Sp_Ldraw (K : PySem.W.Frag) (vs : List V) (H : Hp) (Q : VK) (E_ : XK) : Prop
  | mk (a : Addr) (ns : List Int) (k : Int) (h0_ : vs = [.ref a, .int k]) (h1_ : SqL K H a (ns.map V.int)) (h2_ : 0 ≤ k) (h3_ : k ≤ 100) (h4_ : ∀ n : Int, 0 ≤ n → Q (.int n) H) : Sp_Ldraw K vs H Q E_
noncomputable def sp_Ldraw (K : PySem.W.Frag) : Sp := Sp_Ldraw K
inductive Sp_Lnames (K : PySem.W.Frag) (vs : List V) (H : Hp) (Q : VK) (E_ : XK) : Prop
  | mk (c : Int) (h0_ : vs = [.int c]) (h1_ : 0 ≤ c) (h2_ : ∀ (l : Addr) (nm : List Str) (H' : Hp), Same H H' → H l = none → H' l = some (.lst (nm.map V.str)) → nm.length = 3 → Q (.ref l) H') : Sp_Lnames K vs H Q E_
noncomputable def sp_Lnames (K : PySem.W.Frag) : Sp := Sp_Lnames K
inductive Sp_Lnumber (K : PySem.W.Frag) (vs : List V) (H : Hp) (Q : VK) (E_ : XK) : Prop
  | mk (c : Int) (h0_ : vs = [.int c]) (h1_ : ∀ (n : Int) (H' : Hp), Same H H' → Q (.int n) H') : Sp_Lnumber K vs H Q E_
noncomputable def sp_Lnumber (K : PySem.W.Frag) : Sp := Sp_Lnumber K
inductive Sp_Lplace (K : PySem.W.Frag) (vs : List V) (H : Hp) (Q : VK) (E_ : XK) : Prop
  | mk (p : Addr) (d : Deed) (h0_ : vs = [.ref p]) (h1_ : SqT K H p d.items) (h2_ : Q d.place H) : Sp_Lplace K vs H Q E_
noncomputable def sp_Lplace (K : PySem.W.Frag) : Sp := Sp_Lplace K
inductive Sp_Ldeed (K : PySem.W.Frag) (vs : List V) (H : Hp) (Q : VK) (E_ : XK) : Prop
  | mk (m : Int) (pc : Str) (nl : Addr) (nm : List Str) (h0_ : vs = [.int m, .str pc, .ref nl]) (h1_ : H nl = some (.lst (nm.map V.str))) (h2_ : nm.length = 3) (h3_ : pc ∈ nm) (h4_ : ∀ (x : DD) (H' : Hp), Same H H' → IsDeed K H' x → (∀ z ∈ spot x.d, z ∈ nm) → (∀ z ∈ fill x.d, z ∈ nm) → (∀ z ∈ asks x, z ∈ nm) → Q (.ref x.a) H') : Sp_Ldeed K vs H Q E_
noncomputable def sp_Ldeed (K : PySem.W.Frag) : Sp := Sp_Ldeed K
noncomputable abbrev letters : Str := "abcdefghijklmnopqrstuvwxyz"
theorem letter_at {z : Int} (h0 : 0 ≤ z) (h1 : z < 26) : ∃ c, atI letters.cps.toList z = some c := by
  obtain ⟨j, rfl⟩ := Int.eq_ofNat_of_zero_le h0
  have hl : letters.cps.toList.length = 26 := by decide +kernel
  exact ⟨_, atI_nat (List.getElem?_eq_getElem (by omega))⟩
theorem letters_len : letters.length ≤ sizeLine := by rw [sizeLine_eq]; decide +kernel
theorem name_of {nm : List Str} (hl : nm.length = 3) (z : Int) : ∃ y, y ∈ nm ∧ atI (nm.map V.str) (z % 3) = some (.str y) := by
  have h0 := Int.emod_nonneg z (show (3 : Int) ≠ 0 by decide)
  have h1 := Int.emod_lt_of_pos z (show (0 : Int) < 3 by decide)
  obtain ⟨j, e⟩ := Int.eq_ofNat_of_zero_le h0
  have hj : j < nm.length := by omega
  rw [e]
  exact ⟨nm[j], List.getElem_mem hj, atI_nat (by rw [List.getElem?_map, List.getElem?_eq_getElem hj]; rfl)⟩
theorem two_of (a b : Str) (z : Int) : ∃ y : Str, (y = a ∨ y = b) ∧ atI [V.str a, V.str b] (z % 2) = some (.str y) := by
  rcases (by omega : z % 2 = 0 ∨ z % 2 = 1) with e | e <;> rw [e]
  · exact ⟨a, .inl rfl, rfl⟩
  · exact ⟨b, .inr rfl, rfl⟩
section
variable {P : Program} {w : World} {K : PySem.W.Frag} {mg : Str → Option Value} {base : Heap}
theorem sc_Ldraw : FnScope ["_law_script", "_law_k", "_law_near"] ["_law_script", "_law_k"] (defScope s_Ldraw) := ⟨rfl, rfl, rfl, by decide +kernel, rfl, by decide +kernel, by decide +kernel⟩
theorem ok_Ldraw {f : Addr} {fd : FuncData} (F : Fun K "_law_draw" "_law_draw" s_Ldraw f fd) (T : Txt K mg)  : FnOk P w K mg base CX0 1 f fd ["_law_script", "_law_k"] (sp_Ldraw K) := by
  refine F.ok (k := 0) sc_Ldraw (fun vs H Q E h => ?_) (fun cdv A outer s H vs Q E hr h => ?_)
  · obtain ⟨a, ns, k, rfl, _⟩ := h
    rfl
  · obtain ⟨a, ns, k, rfl, hS, h0, h1, q⟩ := h
    refine ⟨_, (pss_cons (ps_if (pt_cmpR op_lt (pv 1) (pe_callB call_len_seq rfl T.n_len bt_len (pa_cons (pv 0) pa_nil)) (nomark _))
      (pss_one (ps_ret (pe_op op_mod (pe_ix ix_list (pv 0) (pv 1) (fun _ _ => rfl)) (pe_op op_mulB pe_int (pe_op op_pow pe_int pe_int)))))
      pss_nil)
      (pss_cons (ps_set (i := 2) sc_Ldraw.nd rfl (Or.inl rfl) pe_int)
      (pss_cut (ps_if (pt_cmpR op_gt (pe_callB call_len_seq rfl T.n_len bt_len (pa_cons (pv 0) pa_nil)) pe_int (nomark _))
      (pss_one (ps_set (i := 2) sc_Ldraw.nd rfl (Or.inl rfl) (pe_op op_mod (pe_ix ix_list (pv 0) (pe_op op_mod (pv 1) (pe_callB call_len_seq rfl T.n_len bt_len (pa_cons (pv 0) pa_nil))) (fun _ _ => rfl)) pe_int)))
      pss_nil)
      (pss_one (ps_ret (pe_op op_mod (pe_op op_mulB (pe_op op_mulB (pe_op op_add (pv 2) pe_int) (pe_op op_add (pe_op op_mulB (pe_op op_mulB (pv 1) (pv 1)) (pv 1)) pe_int)) pe_int) pe_int)))))), ?_⟩
    obtain ⟨j, rfl⟩ := Int.eq_ofNat_of_zero_le h0
    refine ⟨_, rfl, _, rfl, a, _, rfl, .inl hS, _, _, rfl, rfl, _, rfl, ite2 (fun c => ?_) (fun c => ?_)⟩
    · have c' : (j : Int) < ((ns.map V.int).length : Int) := of_decide_eq_true c
      rw [List.length_map] at c'
      have hj : j < ns.length := by omega
      exact ⟨_, rfl, _, rfl, a, _, _, _, rfl, rfl, hS, atI_nat (v := V.int ns[j]) (by rw [List.getElem?_map, List.getElem?_eq_getElem hj]; rfl), _, _, rfl, rfl, ⟨by decide, by decide, by decide⟩, _, _, rfl, rfl, .inl (.inl ⟨by decide, by decide⟩), _, _, rfl, rfl, (by show (0 : Int) < 1000 * 10 ^ 64; decide), q _ (Int.emod_nonneg _ (by decide))⟩
    · refine ⟨fun σ H5 => H5 = H ∧ ∃ n : Int, 0 ≤ n ∧ n < 2147483647 ∧ σ = [some (.ref a), some (.int (j : Int)), some (.int n)], ?_, ?_⟩
      · refine ⟨_, rfl, a, _, rfl, .inl hS, _, _, rfl, rfl, _, rfl, ite2 (fun c => ?_) (fun c => ⟨rfl, 0, by decide, by decide, rfl⟩)⟩
        have c' : ((ns.map V.int).length : Int) > 0 := of_decide_eq_true c
        have hm0 := Int.emod_nonneg (j : Int) (show ((ns.map V.int).length : Int) ≠ 0 by omega)
        have hm1 := Int.emod_lt_of_pos (j : Int) c'
        obtain ⟨m, em⟩ := Int.eq_ofNat_of_zero_le hm0
        have hm : m < ns.length := by rw [em, List.length_map] at hm1; omega
        refine ⟨_, rfl, _, rfl, _, rfl, a, _, rfl, .inl hS, _, _, rfl, rfl, c', a, _, _, _, rfl, rfl, hS, (by rw [em]; exact atI_nat (v := V.int ns[m]) (by rw [List.getElem?_map, List.getElem?_eq_getElem hm]; rfl)), _, _, rfl, rfl, (by show (0 : Int) < 2147483647; decide), rfl, ns[m] % 2147483647, Int.emod_nonneg _ (by decide), Int.emod_lt_of_pos _ (by decide), rfl⟩
      · rintro σ H5 ⟨rfl, n, n0, n1, rfl⟩
        exact ⟨_, rfl, _, _, rfl, rfl, _, rfl, _, rfl, _, _, rfl, rfl, .inl (.inl ⟨by omega, by omega⟩), _, rfl, _, _, rfl, rfl, .inl (.inr ⟨by omega, by omega⟩), _, _, rfl, rfl, _, _, rfl, rfl, .inl (.inl ⟨by omega, by omega⟩), _, _, rfl, rfl, .inl (.inr ⟨by decide, by decide⟩), _, _, rfl, rfl, (by show (0 : Int) < 2147483647; decide), q _ (Int.emod_nonneg _ (by decide))⟩
theorem sc_Lnumber : FnScope ["_law_y"] ["_law_y"] (defScope s_Lnumber) := ⟨rfl, rfl, rfl, by decide +kernel, rfl, by decide +kernel, by decide +kernel⟩
theorem ok_Lnumber {f : Addr} {fd : FuncData} (F : Fun K "_law_number" "_law_number" s_Lnumber f fd) (T : Txt K mg)  : FnOk P w K mg base CX0 1 f fd ["_law_y"] (sp_Lnumber K) := by
  refine F.ok (k := 0) sc_Lnumber (fun vs H Q E h => ?_) (fun cdv A outer s H vs Q E hr h => ?_)
  · obtain ⟨c, rfl, _⟩ := h
    rfl
  · obtain ⟨c, rfl, q⟩ := h
    refine ⟨_, (pss_cons (ps_if (pt_cmpR op_eq (pe_op op_mod (pv 0) pe_int) pe_int (nomark _))
      (pss_one (ps_ret (pe_op op_add (pe_op op_sub (pe_op op_mod (pe_op op_fdiv (pv 0) pe_int) (pe_op op_sub (pe_op op_mulB pe_int (pe_op op_pow pe_int pe_int)) pe_int)) (pe_op op_pow pe_int pe_int)) pe_int)))
      pss_nil)
      (pss_one (ps_ret (pe_ix ix_list (pe_lst (pa_cons pe_int (pa_cons pe_int (pa_cons pe_int pa_nil)))) (pe_op op_mod (pv 0) pe_int) (fun _ _ => rfl))))), ?_⟩
    refine ⟨_, rfl, _, _, rfl, rfl, (by show (0 : Int) < 4; decide), rfl, _, rfl, ite2 (fun e => ?_) (fun e => ?_)⟩
    · exact ⟨_, rfl, _, _, rfl, rfl, ⟨by decide, by decide⟩, _, _, rfl, rfl, ⟨by decide, by decide, by decide⟩, _, _, rfl, rfl, .inl (.inl ⟨by decide, by decide⟩), _, _, rfl, rfl, _, _, rfl, rfl, (by show (0 : Int) < 2 * 10 ^ 60 - 1; decide), _, _, rfl, rfl, ⟨by decide, by decide, by decide⟩, _, _, rfl, rfl, _, _, rfl, rfl, q _ _ (Same.refl _)⟩
    · refine ⟨by decide, fun l hl => ?_⟩
      have e' : ¬ c % 4 = 3 := fun z => e (decide_eq_true (congrArg V.int z))
      obtain ⟨n, hn⟩ : ∃ n : Int, atI [V.int 1, V.int 2, V.int 0] (c % 4) = some (.int n) := by
        rcases (by omega : c % 4 = 0 ∨ c % 4 = 1 ∨ c % 4 = 2) with z | z | z <;> rw [z]
        · exact ⟨1, rfl⟩
        · exact ⟨2, rfl⟩
        · exact ⟨0, rfl⟩
      exact ⟨_, rfl, _, _, rfl, rfl, (by show (0 : Int) < 4; decide), l, _, _, _, rfl, rfl, SqL.of upd_same, hn, q _ _ (Same.new hl)⟩
theorem sc_Lplace : FnScope ["_law_deed_here"] ["_law_deed_here"] (defScope s_Lplace) := ⟨rfl, rfl, rfl, by decide +kernel, rfl, by decide +kernel, by decide +kernel⟩
theorem ok_Lplace {f : Addr} {fd : FuncData} (F : Fun K "_law_place" "_law_place" s_Lplace f fd) (T : Txt K mg)  : FnOk P w K mg base CX0 1 f fd ["_law_deed_here"] (sp_Lplace K) := by
  refine F.ok (k := 0) sc_Lplace (fun vs H Q E h => ?_) (fun cdv A outer s H vs Q E hr h => ?_)
  · obtain ⟨p, d, rfl, _⟩ := h
    rfl
  · obtain ⟨p, d, rfl, hS, q⟩ := h
    refine ⟨_, (pss_cons (ps_if (PW.pt (pw_or (pt_cmpR op_eq (pe_ix ix_tup (pv 0) pe_int (fun _ _ => rfl)) pe_str (nomark _)) (pw_or1 (pt_cmpR op_eq (pe_ix ix_tup (pv 0) pe_int (fun _ _ => rfl)) pe_str (nomark _)))))
      (pss_one (ps_ret (pe_ix ix_tup (pv 0) pe_int (fun _ _ => rfl))))
      pss_nil)
      (pss_cons (ps_if (pt_cmpR op_eq (pe_ix ix_tup (pv 0) pe_int (fun _ _ => rfl)) pe_str (nomark _))
      (pss_one (ps_ret (pe_ix ix_tup (pv 0) pe_int (fun _ _ => rfl))))
      pss_nil)
      (pss_one (ps_ret pe_non)))), ?_⟩
    cases d with
    | put x n g => exact ⟨_, rfl, p, _, _, _, rfl, rfl, hS, rfl, rfl, _, rfl, ifF (by decide +kernel) ⟨_, rfl, p, _, _, _, rfl, rfl, hS, rfl, rfl, _, rfl, ifF (by decide +kernel) ⟨_, rfl, p, _, _, _, rfl, rfl, hS, rfl, rfl, _, rfl, ifT (by decide +kernel) ⟨_, rfl, p, _, _, _, rfl, rfl, hS, rfl, q⟩⟩⟩⟩
    | get c x g => exact ⟨_, rfl, p, _, _, _, rfl, rfl, hS, rfl, rfl, _, rfl, ifT (by decide +kernel) (iteT ⟨_, rfl, p, _, _, _, rfl, rfl, hS, rfl, q⟩)⟩
    | swap c x n g => exact ⟨_, rfl, p, _, _, _, rfl, rfl, hS, rfl, rfl, _, rfl, ifF (by decide +kernel) ⟨_, rfl, p, _, _, _, rfl, rfl, hS, rfl, rfl, _, rfl, ifT (by decide +kernel) ⟨_, rfl, p, _, _, _, rfl, rfl, hS, rfl, q⟩⟩⟩
    | fence g => exact ⟨_, rfl, p, _, _, _, rfl, rfl, hS, rfl, rfl, _, rfl, ifF (by decide +kernel) ⟨_, rfl, p, _, _, _, rfl, rfl, hS, rfl, rfl, _, rfl, ifF (by decide +kernel) ⟨_, rfl, p, _, _, _, rfl, rfl, hS, rfl, rfl, _, rfl, ifF (by decide +kernel) q⟩⟩⟩
    | bar g => exact ⟨_, rfl, p, _, _, _, rfl, rfl, hS, rfl, rfl, _, rfl, ifF (by decide +kernel) ⟨_, rfl, p, _, _, _, rfl, rfl, hS, rfl, rfl, _, rfl, ifF (by decide +kernel) ⟨_, rfl, p, _, _, _, rfl, rfl, hS, rfl, rfl, _, rfl, ifF (by decide +kernel) q⟩⟩⟩
theorem sc_Lnames : FnScope ["_law_x", "_law_letters", "_law_size", "_law_at", "_law_step", "_law_names_here", "_law_k", "_law_name", "_law_j", "_law_turn"] ["_law_x"] (defScope s_Lnames) := ⟨rfl, rfl, rfl, by decide +kernel, rfl, by decide +kernel, by decide +kernel⟩
theorem ok_Lnames {f : Addr} {fd : FuncData} (F : Fun K "_law_names" "_law_names" s_Lnames f fd) (T : Txt K mg)  : FnOk P w K mg base CX0 1 f fd ["_law_x"] (sp_Lnames K) := by
  refine F.ok (k := 0) sc_Lnames (fun vs H Q E h => ?_) (fun cdv A outer s H vs Q E hr h => ?_)
  · obtain ⟨c, rfl, _⟩ := h
    rfl
  · obtain ⟨c, rfl, h0, q⟩ := h
    refine ⟨_, (pss_cons (ps_set (i := 1) sc_Lnames.nd rfl (Or.inl rfl) pe_str)
      (pss_cons (ps_set (i := 2) sc_Lnames.nd rfl (Or.inl rfl) (pe_op op_add pe_int (pe_op op_mod (pv 0) pe_int)))
      (pss_cons (ps_set (i := 3) sc_Lnames.nd rfl (Or.inl rfl) (pe_op op_mod (pe_op op_fdiv (pv 0) pe_int) (pv 2)))
      (pss_cons (ps_set (i := 4) sc_Lnames.nd rfl (Or.inl rfl) (pe_op op_add pe_int (pe_op op_mod (pe_op op_fdiv (pv 0) pe_int) pe_int)))
      (pss_cons (ps_set (i := 5) sc_Lnames.nd rfl (Or.inl rfl) (pe_lst pa_nil))
      (pss_cons (ps_for PassesOwn.never rfl (pi_range1 rfl T.n_range (pa_cons pe_int pa_nil)) (pg_name (i := 6) sc_Lnames.nd rfl (Or.inl rfl))
      (pss_cons (ps_set (i := 7) sc_Lnames.nd rfl (Or.inl rfl) pe_str)
      (pss_cons (ps_for PassesOwn.never rfl (pi_range1 rfl T.n_range (pa_cons (pv 2) pa_nil)) (pg_name (i := 8) sc_Lnames.nd rfl (Or.inl rfl))
      (pss_cons (ps_set (i := 9) sc_Lnames.nd rfl (Or.inl rfl) (pe_op op_add (pe_op op_fdiv (pv 0) (pe_op op_add pe_int (pe_op op_mulB (pe_op op_mulB pe_int (pv 8)) (pv 8)))) (pe_op op_mulB (pe_op op_mulB (pv 6) (pv 4)) (pe_callTy call_int1 rfl T.n_int bt_int (pa_cons (pe_cmpR op_eq (pv 8) (pv 3) (nomark _)) pa_nil)))))
      (pss_one (ps_set (i := 7) sc_Lnames.nd rfl (Or.inl rfl) (pe_op op_add_str (pv 7) (pe_ix ix_str (pv 1) (pe_op op_mod (pv 9) pe_int) (fun _ _ => rfl)))))))
      (pss_one (ps_expr (pe_bm PySem.F.plainAttrs_list PySem.F.slot_list_append PySem.F.type_list_append mt_append (pv 5) (pa_cons (pv 7) pa_nil)))))))
      (pss_one (ps_ret (pv 5))))))))), ?_⟩
    have hm8 : 0 ≤ c % 8 ∧ c % 8 < 8 := ⟨Int.emod_nonneg _ (by decide), Int.emod_lt_of_pos _ (by decide)⟩
    refine ⟨_, rfl, _, _, rfl, rfl, (by show (0 : Int) < 8; decide), _, _, rfl, rfl, ?_⟩
    refine ⟨_, rfl, _, _, rfl, rfl, ⟨by decide, by decide⟩, _, rfl, _, _, rfl, rfl, (by show (0 : Int) < 1 + c % 8; omega), ?_⟩
    refine ⟨_, rfl, _, _, rfl, rfl, ⟨by decide, by decide⟩, _, _, rfl, rfl, (by show (0 : Int) < 12; decide), _, _, rfl, rfl, ?_⟩
    have h12 : 0 ≤ c / 64 % 12 ∧ c / 64 % 12 < 12 := ⟨Int.emod_nonneg _ (by decide), Int.emod_lt_of_pos _ (by decide)⟩
    refine ⟨by decide, fun f hf => ?_⟩
    refine ⟨3, rfl, by decide, by decide, for_range (n := 3) (fun i σ H' => Ex_5_4 (fun (nm : List Str) (v6 v7 v8 v9 : Option V) => Same H H') (fun nm v6 v7 v8 v9 => H' f = some (.lst (nm.map V.str))) (fun nm v6 v7 v8 v9 => nm.length = i) (fun nm v6 v7 v8 v9 => σ = [some (.int c), some (.str letters), some (.int (1 + c % 8)), some (.int (c / 8 % (1 + c % 8))), some (.int (1 + c / 64 % 12)), some (.ref f), v6, v7, v8, v9])) ?_ ?_ ?_⟩
    · exact ⟨[], none, none, none, none, Same.new hf, upd_same, rfl, rfl⟩
    · rintro i σ H' hi ⟨nm, v6, v7, v8, v9, s, hfn, hnl, rfl⟩
      refine ⟨_, rfl, _, rfl, by omega, by omega, for_range (n := (1 + c % 8).toNat) (fun j σ H2 => Ex_3_3 (fun (z : Str) (v8 v9 : Option V) => H2 = H') (fun z v8 v9 => z.length ≤ j) (fun z v8 v9 => σ = [some (.int c), some (.str letters), some (.int (1 + c % 8)), some (.int (c / 8 % (1 + c % 8))), some (.int (1 + c / 64 % 12)), some (.ref f), some (.int (0 + (i : Int))), some (.str z), v8, v9])) ?_ ?_ ?_⟩
      · exact ⟨"", _, _, rfl, Nat.le_refl 0, rfl⟩
      · rintro j σ H2 hj ⟨z, v8, v9, rfl, hz, rfl⟩
        have key : ∀ m : Int, ∃ ch, atI letters.cps.toList (m % 26) = some ch := fun m => letter_at (Int.emod_nonneg _ (by decide)) (Int.emod_lt_of_pos _ (by decide))
        have hj8 : j < 8 := by omega
        have hjj : 0 ≤ 26 * (0 + (j : Int)) * (0 + (j : Int)) := Int.mul_nonneg (by omega) (by omega)
        have hj2 : 26 * (0 + (j : Int)) * (0 + (j : Int)) ≤ 26 * 8 * 8 := Int.mul_le_mul (by omega) (by omega) (by omega) (by omega)
        have hks : 0 ≤ (0 + (i : Int)) * (1 + c / 64 % 12) := Int.mul_nonneg (by omega) (by omega)
        have hk2 : (0 + (i : Int)) * (1 + c / 64 % 12) ≤ 3 * 12 := Int.mul_le_mul (by omega) (by omega) (by omega) (by omega)
        refine ⟨_, rfl, _, rfl, _, _, rfl, rfl, .inl (.inl ⟨by decide, by decide⟩), _, rfl, _, _, rfl, rfl, .inl (.inr ⟨by omega, by omega⟩), _, _, rfl, rfl, _, _, rfl, rfl, ⟨by omega, by omega⟩, _, rfl, _, rfl, _, _, rfl, rfl, .inl (.inl ⟨by omega, by omega⟩), _, rfl, _, rfl, rfl, .inr ⟨_, rfl, _, _, rfl, rfl, .inl (.inl ⟨by omega, by omega⟩), _, _, rfl, rfl, ?_⟩⟩
        refine ⟨_, rfl, _, rfl, _, rfl, _, _, rfl, rfl, (by show (0 : Int) < 26; decide), _, _, (key _).choose, rfl, rfl, letters_len, (key _).choose_spec, _, _, rfl, rfl, ?_, _, _, _, rfl, ?_, rfl⟩
        · show z.length + 1 ≤ sizeLine
          rw [sizeLine_eq]; omega
        · have : ∀ (a b : Str), (a ++ b).length = a.length + b.length := fun a b => by
            show (a.cps ++ b.cps).size = a.cps.size + b.cps.size
            exact Array.size_append ..
          rw [this]
          show z.length + 1 ≤ j + 1
          omega
      · rintro σ H2 ⟨z, v8, v9, rfl, hz, rfl⟩
        refine ⟨_, rfl, .inl ⟨rfl, _, SqL.of hfn⟩, _, rfl, f, _, _, rfl, rfl, hfn, (by rw [List.length_map]; exact small1000 (by omega)), nm ++ [z], _, _, _, _, Same.at hf s, by rw [upd_same, List.map_append]; rfl, by rw [List.length_append, hnl]; rfl, rfl⟩
    · rintro σ H' ⟨nm, v6, v7, v8, v9, s, hfn, hnl, rfl⟩
      exact ⟨_, rfl, q f nm H' s hf hfn hnl⟩
theorem sc_Ldeed : FnScope ["_law_x", "_law_place_here", "_law_names_here", "_law_guard", "_law_cup", "_law_number_here"] ["_law_x", "_law_place_here", "_law_names_here"] (defScope s_Ldeed) := ⟨rfl, rfl, rfl, by decide +kernel, rfl, by decide +kernel, by decide +kernel⟩
theorem ok_Ldeed {f : Addr} {fd : FuncData} (F : Fun K "_law_deed" "_law_deed" s_Ldeed f fd) (T : Txt K mg) (h_Lnumber : Has P w K mg base 1 "_law_number" ["_law_y"] (sp_Lnumber K)) : FnOk P w K mg base CX0 2 f fd ["_law_x", "_law_place_here", "_law_names_here"] (sp_Ldeed K) := by
  refine F.ok (k := 1) sc_Ldeed (fun vs H Q E h => ?_) (fun cdv A outer s H vs Q E hr h => ?_)
  · obtain ⟨m, pc, nl, nm, rfl, _⟩ := h
    rfl
  · obtain ⟨m, pc, nl, nm, rfl, hN, n3, hpc, q⟩ := h
    refine ⟨_, (pss_cons (ps_set (i := 3) sc_Ldeed.nd rfl (Or.inl rfl) pe_non)
      (pss_cut (ps_if (pt_cmpR op_gt (pe_op op_mod (pe_op op_fdiv (pv 0) pe_int) pe_int) pe_int (nomark _))
      (pss_one (ps_set (i := 3) sc_Ldeed.nd rfl (Or.inl rfl) (pe_tup (pa_cons (pe_ix ix_list (pe_lst (pa_cons pe_str (pa_cons pe_str pa_nil))) (pe_op op_mod (pe_op op_fdiv (pv 0) pe_int) pe_int) (fun _ _ => rfl)) (pa_cons (pe_ix ix_list (pv 2) (pe_op op_mod (pe_op op_fdiv (pv 0) pe_int) pe_int) (fun _ _ => rfl)) (pa_cons (pe_op op_mod (pe_op op_fdiv (pv 0) pe_int) pe_int) pa_nil))))))
      pss_nil)
      (pss_cons (ps_set (i := 4) sc_Ldeed.nd rfl (Or.inl rfl) (pe_ix ix_list (pv 2) (pe_op op_mod (pe_op op_fdiv (pv 0) pe_int) pe_int) (fun _ _ => rfl)))
      (pss_cons (ps_set (i := 5) sc_Ldeed.nd rfl (Or.inl rfl) (pe_fn h_Lnumber (hr.mono (by decide)) (pa_cons (pe_op op_fdiv (pv 0) pe_int) pa_nil)))
      (pss_cons (ps_if (pt_cmpR op_lt (pe_op op_mod (pv 0) pe_int) pe_int (nomark _))
      (pss_one (ps_ret (pe_tup (pa_cons pe_str (pa_cons (pv 1) (pa_cons (pv 5) (pa_cons (pv 3) pa_nil)))))))
      pss_nil)
      (pss_cons (ps_if (pt_cmpR op_lt (pe_op op_mod (pv 0) pe_int) pe_int (nomark _))
      (pss_one (ps_ret (pe_tup (pa_cons pe_str (pa_cons (pv 4) (pa_cons (pv 1) (pa_cons (pv 3) pa_nil)))))))
      pss_nil)
      (pss_cons (ps_if (pt_cmpR op_eq (pe_op op_mod (pv 0) pe_int) pe_int (nomark _))
      (pss_one (ps_ret (pe_tup (pa_cons pe_str (pa_cons (pv 4) (pa_cons (pv 1) (pa_cons (pv 5) (pa_cons (pv 3) pa_nil))))))))
      pss_nil)
      (pss_one (ps_ret (pe_tup (pa_cons (pe_ix ix_list (pe_lst (pa_cons pe_str (pa_cons pe_str pa_nil))) (pe_op op_mod (pe_op op_fdiv (pv 0) pe_int) pe_int) (fun _ _ => rfl)) (pa_cons (pv 3) pa_nil)))))))))))), ?_⟩
    refine ⟨fun σ H5 => Ex_2_4 (fun (gv : V) (g : Gd) => Same H H5) (fun gv g => GOk K H5 gv g) (fun gv g => (∀ z ∈ gAsk g, z ∈ nm)) (fun gv g => σ = [some (.int m), some (.str pc), some (.ref nl), some gv, none, none]), ?_, ?_⟩
    · have h6 : 0 ≤ m / 32 % 6 ∧ m / 32 % 6 < 6 := ⟨Int.emod_nonneg _ (by decide), Int.emod_lt_of_pos _ (by decide)⟩
      refine ⟨_, rfl, _, _, rfl, rfl, ⟨by decide, by decide⟩, _, _, rfl, rfl, (by show (0 : Int) < 6; decide), _, _, rfl, rfl, _, rfl, ite2 (fun c => ?_) (fun c => ⟨.non, none, Same.refl _, rfl, (fun z hz => nomatch hz), rfl⟩)⟩
      refine ⟨by decide, fun wl hwl => ?_⟩
      obtain ⟨wd, _, hwd⟩ := two_of "when" "unless" (m / 32)
      obtain ⟨cu, hcu, ecu⟩ := name_of n3 (m / 192)
      refine ⟨_, rfl, _, _, rfl, rfl, ⟨by decide, by decide⟩, _, _, rfl, rfl, (by show (0 : Int) < 2; decide), wl, _, _, _, rfl, rfl, SqL.of upd_same, hwd, _, rfl, _, rfl, _, _, rfl, rfl, ⟨by decide, by decide⟩, _, _, rfl, rfl, (by show (0 : Int) < 3; decide), nl, _, _, _, rfl, rfl, SqL.of ((Same.new hwl) _ _ hN), ecu, _, rfl, _, _, rfl, rfl, ⟨by decide, by decide⟩, _, _, rfl, rfl, (by show (0 : Int) < 3; decide), (by show 3 ≤ sizeLine; decide), fun t ht => ?_⟩
      exact ⟨.ref t, some (wd, cu, m / 576 % 3), (Same.new hwl).then ht, ⟨t, rfl, SqT.new⟩, (fun z hz => by rw [List.mem_singleton.mp hz]; exact hcu), rfl⟩
    · rintro σ H5 ⟨gv, g, s5, hg, hga, rfl⟩
      have hN5 := s5 _ _ hN
      obtain ⟨cu, hcu, ecu⟩ := name_of n3 (m / 1728)
      refine ⟨_, rfl, _, rfl, _, _, rfl, rfl, ⟨by decide, by decide⟩, _, _, rfl, rfl, (by show (0 : Int) < 3; decide), nl, _, _, _, rfl, rfl, SqL.of hN5, ecu, ?_⟩
      refine ⟨_, rfl, _, _, rfl, rfl, ⟨by decide, by decide⟩, _, rfl, fun n H6 s6 => ?_⟩
      have s06 := s5.trans s6
      have hg6 := hg.same s6
      have fin : ∀ {H7 : Hp} (t : Addr) (d : Deed), Same H6 H7 → H7 t = none → d.guard = gv → (∀ z ∈ spot d, z ∈ nm) → (∀ z ∈ fill d, z ∈ nm) → Q (.ref t) (upd H7 t (.tup d.items)) := fun {H7} t d s7 ht hd h1 h2 =>
        q ⟨t, d, g⟩ _ ((s06.trans s7).then ht) ⟨SqT.new, gok_of (by rw [hd]; exact hg6.same (s7.then ht))⟩ h1 h2 hga
      refine ⟨_, rfl, _, _, rfl, rfl, (by show (0 : Int) < 8; decide), _, _, rfl, rfl, _, rfl, ite2 (fun c => ?_) (fun c => ?_)⟩
      · exact ⟨_, rfl, _, rfl, _, rfl, (by show 4 ≤ sizeLine; decide), fun t ht => fin t (.put pc n gv) (Same.refl _) ht rfl (fun z hz => by rw [List.mem_singleton.mp hz]; exact hpc) (fun z hz => nomatch hz)⟩
      refine ⟨_, rfl, _, _, rfl, rfl, (by show (0 : Int) < 8; decide), _, _, rfl, rfl, _, rfl, ite2 (fun c => ?_) (fun c => ?_)⟩
      · exact ⟨_, rfl, _, rfl, _, rfl, (by show 4 ≤ sizeLine; decide), fun t ht => fin t (.get cu pc gv) (Same.refl _) ht rfl (fun z hz => by rw [List.mem_singleton.mp hz]; exact hpc) (fun z hz => by rw [List.mem_singleton.mp hz]; exact hcu)⟩
      refine ⟨_, rfl, _, _, rfl, rfl, (by show (0 : Int) < 8; decide), rfl, _, rfl, ite2 (fun c => ?_) (fun c => ?_)⟩
      · exact ⟨_, rfl, _, rfl, _, rfl, _, rfl, (by show 5 ≤ sizeLine; decide), fun t ht => fin t (.swap cu pc n gv) (Same.refl _) ht rfl (fun z hz => by rw [List.mem_singleton.mp hz]; exact hpc) (fun z hz => by rw [List.mem_singleton.mp hz]; exact hcu)⟩
      refine ⟨by decide, fun wl hwl => ?_⟩
      obtain ⟨wd, hwc, hwd⟩ := two_of "fence" "bar" (m / 8)
      refine ⟨_, rfl, _, _, rfl, rfl, ⟨by decide, by decide⟩, _, _, rfl, rfl, (by show (0 : Int) < 2; decide), wl, _, _, _, rfl, rfl, SqL.of upd_same, hwd, _, rfl, (by show 2 ≤ sizeLine; decide), fun t ht => ?_⟩
      rcases hwc with rfl | rfl
      · exact fin t (.fence gv) (Same.new hwl) ht rfl (fun z hz => nomatch hz) (fun z hz => nomatch hz)
      · exact fin t (.bar gv) (Same.new hwl) ht rfl (fun z hz => nomatch hz) (fun z hz => nomatch hz)
end
end Own


set_option Elab.async false
set_option linter.all false
set_option maxRecDepth 100000
set_option maxHeartbeats 4100000
namespace Own
open PySem L2
inductive Sp_Llong (K : PySem.W.Frag) (vs : List V) (H : Hp) (Q : VK) (E_ : XK) : Prop
  | mk (a : Addr) (ns : List Int) (many : Int) (h0_ : vs = [.ref a, .int many]) (h1_ : SqL K H a (ns.map V.int)) (h2_ : 0 ≤ many) (h3_ : many ≤ 40) (h4_ : ∀ (p : Addr) (hs : Hands) (nm : List Str) (H' : Hp), Same H H' → H p = none → IsProg K H' p hs → Good nm nm hs → 0 < hs.length → (hs.map fun h => h.2.length).sum ≤ many.toNat → nm.length = 3 → Q (.ref p) H') : Sp_Llong K vs H Q E_
noncomputable def sp_Llong (K : PySem.W.Frag) : Sp := Sp_Llong K
theorem sum_set : ∀ {hs : Hands} {r : Nat} {h : Addr × List DD}, hs[r]? = some h → ∀ x : DD, ((hs.set r (h.1, h.2 ++ [x])).map fun h => h.2.length).sum = (hs.map fun h => h.2.length).sum + 1
  | [], r, h, e, x => by simp at e
  | y :: hs, 0, h, e, x => by
    simp at e
    subst e
    simp
    omega
  | y :: hs, r + 1, h, e, x => by
    simp only [List.getElem?_cons_succ] at e
    have := sum_set e x
    simp only [List.set_cons_succ, List.map_cons, List.sum_cons]
    omega
noncomputable def SameEx (as : List Addr) (H H' : Hp) : Prop := ∀ b u, b ∉ as → H b = some u → H' b = some u
theorem SameEx.seq {K : PySem.W.Frag} {as : List Addr} {H H' : Hp} {a : Addr} {xs : List V} (s : SameEx as H H') (ha : a ∉ as) (h : SqL K H a xs) : SqL K H' a xs := by
  rcases h with (h | ⟨o, h⟩) | h
  · exact .inl (.inl (s _ _ ha h))
  · exact .inl (.inr ⟨o, s _ _ ha h⟩)
  · exact .inr h
theorem SameEx.then {as : List Addr} {H H1 H2 : Hp} (s : SameEx as H H1) (t : Same H1 H2) : SameEx as H H2 := fun b u hb e => t b u (s b u hb e)
theorem SameEx.put {as : List Addr} {H H1 : Hp} {l : Addr} {o : HO} (s : SameEx as H H1) (hl : l ∈ as) : SameEx as H (upd H1 l o) := fun b u hb e => by
  rw [upd_ne (fun (z : b = l) => hb (z ▸ hl))]
  exact s b u hb e
theorem nodup_inj {as : List Addr} (h : as.Nodup) : ∀ {i j : Nat} {a : Addr}, as[i]? = some a → as[j]? = some a → i = j := by
  induction as with
  | nil => intro i j a e; simp at e
  | cons x as ih =>
    obtain ⟨n1, n2⟩ := List.nodup_cons.mp h
    intro i j a e1 e2
    cases i with
    | zero =>
      cases j with
      | zero => rfl
      | succ j =>
        simp at e1 e2
        exact absurd (e1 ▸ List.mem_of_getElem? e2) n1
    | succ i =>
      cases j with
      | zero =>
        simp at e1 e2
        exact absurd (e2 ▸ List.mem_of_getElem? e1) n1
      | succ j =>
        simp at e1 e2
        rw [ih n2 e1 e2]
structure Filling (K : PySem.W.Frag) (H0 H' : Hp) (as : List Addr) (S C : List Str) (n : Nat) (p : Addr) (hs : Hands) : Prop where
  l : H' p = some (.lst (as.map V.ref))
  eq : hs.map (·.1) = as
  at_ : ∀ (j : Nat) h, hs[j]? = some h → H' h.1 = some (.lst (h.2.map fun x => V.ref x.a))
  ds : ∀ (j : Nat) h, hs[j]? = some h → ∀ x ∈ h.2, IsDeed K H' x ∧ (∀ z ∈ spot x.d, z ∈ S) ∧ (∀ z ∈ fill x.d, z ∈ C) ∧ (∀ z ∈ asks x, z ∈ C)
  len : ∀ (j : Nat) h, hs[j]? = some h → h.2.length ≤ n
  ex : SameEx as H0 H'
  tot : (hs.map fun h => h.2.length).sum ≤ n
theorem IsDeed.lset {K : PySem.W.Frag} {H : Hp} {x : DD} {l : Addr} {xs ys : List V} (hl : H l = some (.lst xs)) (h : IsDeed K H x) : IsDeed K (upd H l (.lst ys)) x := by
  refine ⟨SqT.lset hl h.t, ?_⟩
  have g := h.g
  unfold DD.gok at g ⊢
  cases e : x.g with
  | none => rw [e] at g; exact g
  | some c =>
    rw [e] at g
    obtain ⟨q, h1, h2⟩ := g
    exact ⟨q, h1, SqT.lset hl h2⟩
section
variable {K : PySem.W.Frag} {H0 H1 H2 : Hp} {as : List Addr} {S C : List Str} {n : Nat} {p : Addr} {hs : Hands}
theorem Filling.same (F : Filling K H0 H1 as S C n p hs) (s : Same H1 H2) : Filling K H0 H2 as S C n p hs :=
  ⟨s _ _ F.l, F.eq, fun j h e => s _ _ (F.at_ j h e), fun j h e x hx => let ⟨a, b⟩ := F.ds j h e x hx; ⟨a.same s, b⟩, F.len, F.ex.then s, F.tot⟩
theorem Filling.more (F : Filling K H0 H1 as S C n p hs) (nd : as.Nodup) (hp : p ∉ as) {r : Nat} {h : Addr × List DD} (e : hs[r]? = some h) {x : DD} (hx : IsDeed K H1 x) (h1 : ∀ z ∈ spot x.d, z ∈ S) (h2 : ∀ z ∈ fill x.d, z ∈ C) (h3 : ∀ z ∈ asks x, z ∈ C) :
    Filling K H0 (upd H1 h.1 (.lst ((h.2.map fun x => V.ref x.a) ++ [V.ref x.a]))) as S C (n + 1) p (hs.set r (h.1, h.2 ++ [x])) := by
  have hr : r < hs.length := (List.getElem?_eq_some_iff.mp e).1
  have hh := F.at_ r h e
  have ha : as[r]? = some h.1 := by rw [← F.eq, List.getElem?_map, e]; rfl
  have hm : h.1 ∈ as := List.mem_of_getElem? ha
  have at2 : ∀ (j : Nat) h', (hs.set r (h.1, h.2 ++ [x]))[j]? = some h' → (j = r ∧ h' = (h.1, h.2 ++ [x])) ∨ (j ≠ r ∧ hs[j]? = some h') := fun j h' e' => by
    rw [List.getElem?_set] at e'
    by_cases c : r = j
    · rw [if_pos c, if_pos (c ▸ hr)] at e'
      exact .inl ⟨c.symm, (Option.some.inj e').symm⟩
    · rw [if_neg c] at e'
      exact .inr ⟨fun z => c z.symm, e'⟩
  refine ⟨?_, ?_, fun j h' e' => ?_, fun j h' e' y hy => ?_, fun j h' e' => ?_, F.ex.put hm, ?_⟩
  · rw [upd_ne (fun (z : p = h.1) => hp (z ▸ hm))]; exact F.l
  · rw [← F.eq]
    refine List.ext_getElem? fun j => ?_
    rw [List.getElem?_map, List.getElem?_map, List.getElem?_set]
    by_cases c : r = j
    · rw [if_pos c, if_pos (c ▸ hr), ← c, e]; rfl
    · rw [if_neg c]
  · rcases at2 j h' e' with ⟨_, rfl⟩ | ⟨hj, e2⟩
    · rw [upd_same, List.map_append]; rfl
    · have hne : h'.1 ≠ h.1 := fun z => hj (nodup_inj nd (by rw [← F.eq, List.getElem?_map, e2]; rfl) (z ▸ ha))
      rw [upd_ne hne]
      exact F.at_ j h' e2
  · rcases at2 j h' e' with ⟨_, rfl⟩ | ⟨hj, e2⟩
    · rcases List.mem_append.mp hy with hy | hy
      · obtain ⟨a, b⟩ := F.ds r h e y hy
        exact ⟨a.lset hh, b⟩
      · rw [List.mem_singleton.mp hy]
        exact ⟨hx.lset hh, h1, h2, h3⟩
    · obtain ⟨a, b⟩ := F.ds j h' e2 y hy
      exact ⟨a.lset hh, b⟩
  · rcases at2 j h' e' with ⟨_, rfl⟩ | ⟨hj, e2⟩
    · have := F.len r h e
      show (h.2 ++ [x]).length ≤ n + 1
      rw [List.length_append, List.length_singleton]
      omega
    · have := F.len j h' e2
      omega
  · have := F.tot
    have e5 := sum_set e x
    omega
end
section
variable {P : Program} {w : World} {K : PySem.W.Frag} {mg : Str → Option Value} {base : Heap}
theorem sc_Llong : FnScope ["_law_script", "_law_many", "_law_head", "_law_names_here", "_law_size", "_law_program", "_law_k", "_law_x", "_law_h", "_law_place_here"] ["_law_script", "_law_many"] (defScope s_Llong) := ⟨rfl, rfl, rfl, by decide +kernel, rfl, by decide +kernel, by decide +kernel⟩
theorem ok_Llong {f : Addr} {fd : FuncData} (F : Fun K "_law_long" "_law_long" s_Llong f fd) (T : Txt K mg) (h_Ldraw : Has P w K mg base 1 "_law_draw" ["_law_script", "_law_k"] (sp_Ldraw K)) (h_Lnames : Has P w K mg base 1 "_law_names" ["_law_x"] (sp_Lnames K)) (h_Ldeed : Has P w K mg base 2 "_law_deed" ["_law_x", "_law_place_here", "_law_names_here"] (sp_Ldeed K)) : FnOk P w K mg base CX0 3 f fd ["_law_script", "_law_many"] (sp_Llong K) := by
  refine F.ok (k := 2) sc_Llong (fun vs H Q E h => ?_) (fun cdv A outer s H vs Q E hr h => ?_)
  · obtain ⟨a, ns, many, rfl, _⟩ := h
    rfl
  · obtain ⟨a, ns, many, rfl, hS, hm0, hm1, q⟩ := h
    refine ⟨_, (pss_cons (ps_set (i := 2) sc_Llong.nd rfl (Or.inl rfl) (pe_fn h_Ldraw (hr.mono (by decide)) (pa_cons (pv 0) (pa_cons pe_int pa_nil))))
      (pss_cons (ps_set (i := 3) sc_Llong.nd rfl (Or.inl rfl) (pe_fn h_Lnames (hr.mono (by decide)) (pa_cons (pe_fn h_Ldraw (hr.mono (by decide)) (pa_cons (pv 0) (pa_cons pe_int pa_nil))) pa_nil)))
      (pss_cons (ps_set (i := 4) sc_Llong.nd rfl (Or.inl rfl) (pe_op op_add pe_int (pe_op op_mod (pv 2) pe_int)))
      (pss_cons (ps_comp (i := 5) (Nc := ["_law_h"]) (nt := 1) (js := []) rfl sc_Llong.nd rfl rfl ⟨rfl, rfl, rfl, rfl, .nil, rfl, ⟨["_law_h"], [], rfl, rfl, .nil⟩⟩ (pi_range1 rfl T.n_range (pa_cons (pv 4) pa_nil)) (fun C s3 H3 fp pins => ⟨(pg_name (i := 0) (show (["_law_h"] : List Str).Nodup by decide +kernel) rfl (Or.inl rfl)), pts_nil, (pe_lst pa_nil)⟩))
      (pss_cons (ps_for PassesOwn.never rfl (pi_range1 rfl T.n_range (pa_cons (pv 1) pa_nil)) (pg_name (i := 6) sc_Llong.nd rfl (Or.inl rfl))
      (pss_cons (ps_set (i := 7) sc_Llong.nd rfl (Or.inl rfl) (pe_fn h_Ldraw (hr.mono (by decide)) (pa_cons (pv 0) (pa_cons (pe_op op_add pe_int (pv 6)) pa_nil))))
      (pss_cons (ps_set (i := 8) sc_Llong.nd rfl (Or.inl rfl) (pe_op op_mod (pe_op op_mod (pe_op op_mulB (pv 7) pe_int) pe_int) (pv 4)))
      (pss_cons (ps_set (i := 9) sc_Llong.nd rfl (Or.inl rfl) (pe_ix ix_list (pv 3) (pe_op op_mod (pe_op op_mod (pe_op op_mulB (pv 7) pe_int) pe_int) pe_int) (fun _ _ => rfl)))
      (pss_one (ps_expr (pe_bm PySem.F.plainAttrs_list PySem.F.slot_list_append PySem.F.type_list_append mt_append (pe_ix ix_list (pv 5) (pv 8) (fun _ _ => rfl)) (pa_cons (pe_fn h_Ldeed (hr.mono (by decide)) (pa_cons (pv 7) (pa_cons (pv 9) (pa_cons (pv 3) pa_nil)))) pa_nil))))))))
      (pss_one (ps_ret (pv 5)))))))), ?_⟩
    have mk : ∀ {Hx Hy : Hp} {D : Addr} {nn : Nat} {F : Hp → Prop} {σc : St}, σc = [none] → nn ≤ 10 → Hy D = none → (∀ (as : List Addr) Hz, Same Hy Hz → Hz D = some (.lst (as.map V.ref)) → as.Nodup → D ∉ as → as.length = nn → (∀ b ∈ as, Hz b = some (.lst []) ∧ Hy b = none) → F Hz) →
        tLoopC (gName 0) tTrue (tLst tNil) σc D (Itr 0 nn) Hy F := fun {Hx Hy D nn F σc} hσ hnn hD fin => by
      subst hσ
      refine comp_range (fun i σ ys H3 => Ex_2_8 (fun (as : List Addr) (v : Option V) => Same Hy H3) (fun as v => H3 D = some (.lst ys)) (fun as v => ys = as.map V.ref) (fun as v => as.Nodup) (fun as v => D ∉ as) (fun as v => as.length = i) (fun as v => (∀ b ∈ as, H3 b = some (.lst []) ∧ Hy b = none)) (fun as v => σ = [v])) ?_ ?_ ?_ ?_ ?_
      · exact ⟨[], none, Same.new hD, upd_same, rfl, List.nodup_nil, (fun z => by cases z), rfl, (fun b hb => by cases hb), rfl⟩
      · rintro i σ ys H3 hi ⟨as, v, s3, hD3, rfl, nd, hDn, hl3, hb, rfl⟩
        exact ⟨hD3, by rw [List.length_map]; omega⟩
      · exact Nat.le_of_lt (small1000 (by omega))
      · rintro i σ ys H3 hi ⟨as, v, s3, hD3, rfl, nd, hDn, hl3, hb, rfl⟩
        refine ⟨by decide, fun t ht => ?_⟩
        have hta : t ∉ as := fun z => by rw [(hb t z).1] at ht; cases ht
        have hDt : D ≠ t := ne_of_none hD3 ht
        refine ⟨by rw [upd_ne hDt]; exact hD3, as ++ [t], _, Same.at hD (s3.then ht), upd_same, by rw [List.map_append]; rfl, nd_snoc nd hta, fun z => ?_, by rw [List.length_append, hl3]; rfl, fun b hb' => ?_, rfl⟩
        · rcases List.mem_append.mp z with z | z
          · exact hDn z
          · exact hDt (List.mem_singleton.mp z)
        · rcases List.mem_append.mp hb' with z | z
          · have hbt : b ≠ t := fun e => hta (e ▸ z)
            have hbD : b ≠ D := fun e => hDn (e ▸ z)
            rw [upd_ne hbD, upd_ne hbt]
            exact hb b z
          · have e := List.mem_singleton.mp z
            subst e
            rw [upd_ne (Ne.symm hDt), upd_same]
            exact ⟨rfl, s3.free ht⟩
      · rintro σ ys H3 ⟨as, v, s3, hD3, rfl, nd, hDn, hl3, hb, rfl⟩
        exact fin as H3 s3 hD3 nd hDn hl3 hb
    refine ⟨_, rfl, a, ns, 0, rfl, hS, by decide, by decide, fun hd hd0 => ?_⟩
    refine ⟨_, rfl, a, ns, 1, rfl, hS, by decide, by decide, fun y hy0 => ⟨y, rfl, hy0, fun nl nm H1 s1 nnl hnl n3 => ?_⟩⟩
    have h6 : 0 ≤ hd % 6 ∧ hd % 6 < 6 := ⟨Int.emod_nonneg _ (by decide), Int.emod_lt_of_pos _ (by decide)⟩
    refine ⟨_, rfl, _, _, rfl, rfl, (by show (0 : Int) < 6; decide), _, _, rfl, rfl, ?_⟩
    refine ⟨_, rfl, _, rfl, by omega, by omega, fun D hD => mk (Hx := H) rfl (by omega) hD fun as H2 s2 hD2 nd hDn hla hb => ?_⟩
    have s02 := s1.trans s2
    have hS2 := s02.seq hS
    have nlas : nl ∉ as := fun z => by have := (hb nl z).2; rw [hnl] at this; cases this
    have hla1 : 0 < as.length := by omega
    have hla6 : as.length ≤ 6 := by omega
    refine ⟨_, rfl, _, rfl, by omega, by omega, for_range (n := many.toNat) (fun i σ H' => Ex_5_2 (fun (hs : Hands) (v6 v7 v8 v9 : Option V) => Filling K H2 H' as nm nm i D hs) (fun hs v6 v7 v8 v9 => σ = [some (.ref a), some (.int many), some (.int hd), some (.ref nl), some (.int (1 + hd % 6)), some (.ref D), v6, v7, v8, v9])) ?_ ?_ ?_⟩
    · refine ⟨as.map fun b => (b, []), none, none, none, none, ⟨hD2, ?_, fun j h e => ?_, fun j h e x hx => ?_, fun j h e => ?_, fun b u _ e => e, ?_⟩, rfl⟩
      · rw [List.map_map]; exact List.map_id' as
      · obtain ⟨b, hb6, e2⟩ : ∃ b, as[j]? = some b ∧ h = (b, []) := by
          rw [List.getElem?_map] at e
          cases e3 : as[j]? with
          | none => rw [e3] at e; cases e
          | some b => rw [e3] at e; exact ⟨b, rfl, (Option.some.inj e).symm⟩
        rw [e2]
        exact (hb b (List.mem_of_getElem? hb6)).1
      · have e2 : h.2 = [] := by
          rw [List.getElem?_map] at e
          cases e3 : as[j]? with
          | none => rw [e3] at e; cases e
          | some b => rw [e3] at e; rw [← Option.some.inj e]
        rw [e2] at hx
        cases hx
      · have e2 : h.2 = [] := by
          rw [List.getElem?_map] at e
          cases e3 : as[j]? with
          | none => rw [e3] at e; cases e
          | some b => rw [e3] at e; rw [← Option.some.inj e]
        rw [e2]
        exact Nat.le_refl _
      · rw [List.map_map]
        have : ∀ l : List Addr, (l.map ((fun h : Addr × List DD => h.2.length) ∘ fun b => (b, []))).sum = 0 := fun l => by
          induction l with
          | nil => rfl
          | cons y l ih => rw [List.map_cons, List.sum_cons, ih]; rfl
        rw [this]
        exact Nat.le_refl _
    · rintro i σ H' hi ⟨hs, v6, v7, v8, v9, F, rfl⟩
      have hSx : ∀ {Hx : Hp}, SameEx as H2 Hx → SqL K Hx a (ns.map V.int) := fun ex => by
        rcases hS with (h | ⟨o, h⟩) | h
        · exact .inl (.inl (ex _ _ (fun z => by have := (hb a z).2; rw [s1 _ _ h] at this; cases this) (s02 _ _ h)))
        · exact .inl (.inr ⟨o, ex _ _ (fun z => by have := (hb a z).2; rw [s1 _ _ h] at this; cases this) (s02 _ _ h)⟩)
        · exact .inr h
      have hNx : H' nl = some (.lst (nm.map V.str)) := F.ex _ _ nlas (s2 _ _ hnl)
      refine ⟨_, rfl, _, rfl, _, _, rfl, rfl, a, ns, _, rfl, hSx F.ex, by omega, by omega, fun x hx0 => ?_⟩
      refine ⟨_, rfl, _, _, rfl, rfl, .inl (.inr ⟨by decide, by decide⟩), _, _, rfl, rfl, (by show (0 : Int) < 2147483629; decide), _, rfl, _, _, rfl, rfl, (by show (0 : Int) < 1 + hd % 6; omega), ?_⟩
      obtain ⟨pc, hpc, epc⟩ := name_of n3 (x * 69621 % 2147483587)
      refine ⟨_, rfl, _, rfl, _, _, rfl, rfl, .inl (.inr ⟨by decide, by decide⟩), _, _, rfl, rfl, (by show (0 : Int) < 2147483587; decide), _, _, rfl, rfl, (by show (0 : Int) < 3; decide), nl, _, _, _, rfl, rfl, SqL.of hNx, epc, ?_⟩
      have hq0 : 0 ≤ x * 16807 % 2147483629 % (1 + hd % 6) := Int.emod_nonneg _ (by omega)
      have hq1 : x * 16807 % 2147483629 % (1 + hd % 6) < 1 + hd % 6 := Int.emod_lt_of_pos _ (by omega)
      obtain ⟨j, ej0⟩ := Int.eq_ofNat_of_zero_le hq0
      have hjl : j < hs.length := by
        have : hs.length = as.length := by rw [← F.eq, List.length_map]
        omega
      have ej : hs[j]? = some hs[j] := List.getElem?_eq_getElem hjl
      have ea : as[j]? = some hs[j].1 := by rw [← F.eq, List.getElem?_map, ej]; rfl
      have eix : atI (as.map V.ref) (x * 16807 % 2147483629 % (1 + hd % 6)) = some (.ref hs[j].1) := by
        rw [ej0]
        exact atI_nat (by rw [List.getElem?_map, ea]; rfl)
      have hh := F.at_ j _ ej
      refine ⟨_, rfl, _, rfl, D, _, _, _, rfl, rfl, SqL.of F.l, eix, ?_⟩
      refine ⟨.inl ⟨rfl, _, SqL.of hh⟩, _, rfl, _, rfl, _, rfl, x, pc, nl, nm, rfl, hNx, n3, hpc, fun y H3 s3 hy h1 h2 h3 => ?_⟩
      have F3 := F.same s3
      have hh3 := F3.at_ j _ ej
      have hz3 : (hs[j].2.map fun x => V.ref x.a).length < sizeLine := by
        have := F3.len j _ ej
        rw [List.length_map]; exact small1000 (by omega)
      exact ⟨hs[j].1, _, _, rfl, rfl, hh3, hz3, _, _, _, _, _, F3.more nd hDn ej (x := y) hy h1 h2 h3, rfl⟩
    · rintro σ H' ⟨hs, v6, v7, v8, v9, F, rfl⟩
      have hlen : hs.length = as.length := by rw [← F.eq, List.length_map]
      have hnn : many.toNat ≤ 40 := by omega
      refine ⟨_, rfl, q D hs nm H' (fun b u e => F.ex b u (fun z => by rw [s1.free (hb b z).2] at e; cases e) (s02 b u e)) (s1.free hD) ⟨?_, fun h hm => ?_⟩ ⟨by omega, fun h hm => ?_, fun h hm x hx => ?_, fun h hm x hx => ?_, fun h hm x hx => ?_, by omega, by omega⟩ (by omega) F.tot n3⟩
      · have e : (hs.map fun h => V.ref h.1) = as.map V.ref := by rw [← F.eq, List.map_map]; rfl
        rw [e]
        exact SqL.of F.l
      · obtain ⟨j, e⟩ := List.getElem?_of_mem hm
        exact ⟨SqL.of (F.at_ j h e), fun x hx => (F.ds j h e x hx).1⟩
      · obtain ⟨j, e⟩ := List.getElem?_of_mem hm
        exact Nat.le_trans (F.len j h e) (by omega)
      · obtain ⟨j, e⟩ := List.getElem?_of_mem hm
        exact (F.ds j h e x hx).2.1
      · obtain ⟨j, e⟩ := List.getElem?_of_mem hm
        exact (F.ds j h e x hx).2.2.1
      · obtain ⟨j, e⟩ := List.getElem?_of_mem hm
        exact (F.ds j h e x hx).2.2.2
end
end Own


set_option Elab.async false
set_option linter.all false
set_option maxRecDepth 100000
set_option maxHeartbeats 4100000
namespace Own
open PySem L2
noncomputable abbrev Z2 := Int × Int
noncomputable def pk (z : Z2) : List Key := [Sum.inl z.1, Sum.inl z.2]
theorem pk_inj {a b : Z2} (h : pk a = pk b) : a = b := by
  unfold pk at h
  simp only [List.cons.injEq, Sum.inl.injEq, and_true] at h
  exact Prod.ext h.1 h.2
structure PtsAt (H : Hp) (ps : List TK) (zs : List Z2) : Prop where
  eq : ps.map (·.2) = zs.map pk
  at_ : ∀ q ∈ ps, H q.1 = some (.tup (q.2.map kV))
theorem PtsAt.same {H H' : Hp} {ps : List TK} {zs : List Z2} (s : Same H H') (h : PtsAt H ps zs) : PtsAt H' ps zs := ⟨h.eq, fun q hq => s _ _ (h.at_ q hq)⟩
theorem PtsAt.nil {H : Hp} : PtsAt H [] [] := ⟨rfl, fun q hq => nomatch hq⟩
theorem PtsAt.len {H : Hp} {ps : List TK} {zs : List Z2} (h : PtsAt H ps zs) : ps.length = zs.length := by have := congrArg List.length h.eq; simpa using this
theorem PtsAt.snoc {H : Hp} {ps : List TK} {zs : List Z2} {a : Addr} {z : Z2} (h : PtsAt H ps zs) (ha : H a = some (.tup ((pk z).map kV))) : PtsAt H (ps ++ [(a, pk z)]) (zs ++ [z]) := by
  refine ⟨by rw [List.map_append, List.map_append, h.eq]; rfl, fun q hq => ?_⟩
  rcases List.mem_append.mp hq with hq | hq
  · exact h.at_ q hq
  · rw [List.mem_singleton.mp hq]; exact ha
theorem upd_none {H : Hp} {a b : Addr} {o : HO} (h : upd H a o b = none) : b ≠ a ∧ H b = none := by
  by_cases c : b = a
  · subst c; rw [upd_same] at h; cases h
  · rw [upd_ne c] at h; exact ⟨c, h⟩
theorem PtsAt.lset {H : Hp} {ps : List TK} {zs : List Z2} {l : Addr} {xs ys : List V} (hl : H l = some (.lst xs)) (h : PtsAt H ps zs) : PtsAt (upd H l (.lst ys)) ps zs := ⟨h.eq, fun q hq => by
  have := h.at_ q hq
  rw [upd_ne (ne_of this hl (by intro z; cases z))]
  exact this⟩
theorem PtsAt.append {H : Hp} {ps qs : List TK} {zs ws : List Z2} (h : PtsAt H ps zs) (g : PtsAt H qs ws) : PtsAt H (ps ++ qs) (zs ++ ws) := ⟨by rw [List.map_append, List.map_append, h.eq, g.eq], fun q hq => by
  rcases List.mem_append.mp hq with hq | hq
  · exact h.at_ q hq
  · exact g.at_ q hq⟩
noncomputable def gapRow (i n : Nat) : List Z2 := (List.range (n - 1)).map fun (k : Nat) => ((i : Int), ((1 : Int) + (k : Int)))
noncomputable def gapsTo (hs : Hands) : Nat → List Z2
  | 0 => []
  | i + 1 => gapsTo hs i ++ gapRow i (npts (handAt hs i))
noncomputable def isGap (z : Z2) : Bool := decide (z.2 > 0)
theorem row_gaps (i : Nat) : ∀ n, (row i n).filter isGap = gapRow i n
  | 0 => rfl
  | 1 => rfl
  | n + 2 => by
    have ih := row_gaps i (n + 1)
    have e : gapRow i (n + 2) = gapRow i (n + 1) ++ [((i : Int), (1 : Int) + (n : Int))] := by
      unfold gapRow
      show (List.range (n + 1)).map _ = (List.range n).map _ ++ _
      rw [List.range_succ, List.map_append]
      rfl
    rw [row_succ, List.filter_append, ih, e]
    congr 1
    have : isGap (((i : Int), ((n + 1 : Nat) : Int))) = true := decide_eq_true (by show ((n + 1 : Nat) : Int) > 0; omega)
    rw [List.filter_cons_of_pos this]
    show [((i : Int), ((n + 1 : Nat) : Int))] = _
    congr 2
    omega
theorem all_gaps (hs : Hands) : ∀ i, (ptsTo hs i).filter isGap = gapsTo hs i
  | 0 => rfl
  | i + 1 => by
    show (ptsTo hs i ++ row i (npts (handAt hs i))).filter isGap = gapsTo hs i ++ gapRow i (npts (handAt hs i))
    rw [List.filter_append, all_gaps hs i, row_gaps]
theorem ptsTo_len {S C : List Str} {hs : Hands} (G : Good S C hs) : ∀ i, (ptsTo hs i).length ≤ 40 * i
  | 0 => Nat.le_refl _
  | i + 1 => by
    have h1 := ptsTo_len G i
    have h2 : npts (handAt hs i) ≤ 40 := by
      unfold npts
      refine Nat.le_trans (ptsOf_le _) ?_
      unfold handAt
      cases e : hs[i]? with
      | none => simp
      | some hd => exact G.nd hd (List.mem_of_getElem? e)
    show (ptsTo hs i ++ row i (npts (handAt hs i))).length ≤ _
    rw [List.length_append]
    have : (row i (npts (handAt hs i))).length = npts (handAt hs i) := by unfold row; rw [List.length_map, List.length_range]
    omega
theorem gapsTo_len {S C : List Str} {hs : Hands} (G : Good S C hs) (i : Nat) : (gapsTo hs i).length ≤ 40 * i := by
  rw [← all_gaps]
  exact Nat.le_trans (List.length_filter_le _ _) (ptsTo_len G i)
noncomputable def spPts (f : Hands → List Z2) (K : PySem.W.Frag) : Sp := fun vs H Q _ => Ex_4_4 (fun (p : Addr) (hs : Hands) (S C : List Str) => vs = [.ref p]) (fun p hs S C => IsProg K H p hs) (fun p hs S C => Good S C hs) (fun p hs S C => ∀ (l : Addr) (ps : List TK) (H' : Hp), Same H H' → H l = none → H' l = some (.lst (ps.map fun q => V.ref q.1)) → PtsAt H' ps (f hs) → Q (.ref l) H')
noncomputable def sp_points (K : PySem.W.Frag) : Sp := spPts (fun hs => ptsTo hs hs.length) K
noncomputable def sp_gaps (K : PySem.W.Frag) : Sp := spPts (fun hs => gapsTo hs hs.length) K
noncomputable def sp_Lgaps (K : PySem.W.Frag) : Sp := spPts (fun hs => gapsTo hs hs.length) K
section
variable {P : Program} {w : World} {K : PySem.W.Frag} {mg : Str → Option Value} {base : Heap}
theorem sc_points : FnScope ["program", "found", "h", "hand"] ["program"] (defScope s_points) := ⟨rfl, rfl, rfl, by decide +kernel, rfl, by decide +kernel, by decide +kernel⟩
theorem ok_points {f : Addr} {fd : FuncData} (F : Fun K "points" "points" s_points f fd) (T : Txt K mg) (h_pointdeeds : Has P w K mg base 2 "point_deeds" ["hand"] (sp_pointdeeds K)) : FnOk P w K mg base CX0 3 f fd ["program"] (sp_points K) := by
  refine F.ok (k := 2) sc_points (fun vs H Q E h => ?_) (fun cdv A outer s H vs Q E hr h => ?_)
  · obtain ⟨p, hs, S, C, rfl, _⟩ := h
    rfl
  · obtain ⟨p, hs, S, C, rfl, hP, G, q⟩ := h
    refine ⟨_, (pss_cons (ps_set (i := 1) sc_points.nd rfl (Or.inl rfl) (pe_lst pa_nil))
      (pss_cons (ps_for PassesOwn.never rfl (pi_enum rfl T.n_enumerate (pa_cons (pv 0) pa_nil)) (pg_tup rfl (pgs_cons (pg_name (i := 2) sc_points.nd rfl (Or.inr rfl)) (pgs_cons (pg_name (i := 3) sc_points.nd rfl (Or.inl rfl)) pgs_nil)))
      (pss_one (ps_expr (pe_bm PySem.F.plainAttrs_list PySem.F.slot_list_extend PySem.F.type_list_extend mt_extend (pv 1) (pa_cons (pe_comp (Nc := ["k", "h"]) (nt := 1) (js := [2]) rfl ⟨rfl, rfl, rfl, rfl, (.cons rfl .nil), rfl, ⟨["k"], ["h"], rfl, rfl, (.cons rfl rfl rfl .nil)⟩⟩ (pi_range1 rfl T.n_range (pa_cons (pe_callB call_len_seq rfl T.n_len bt_len (pa_cons (pe_fn h_pointdeeds (hr.mono (by decide)) (pa_cons (pv 3) pa_nil)) pa_nil)) pa_nil)) (fun C s3 H3 fp pins => ⟨(pg_name (i := 0) (show (["k", "h"] : List Str).Nodup by decide +kernel) rfl (Or.inl rfl)), pts_nil, (pe_tup (pa_cons (pv 1) (pa_cons (pv 0) pa_nil)))⟩)) pa_nil)))))
      (pss_one (ps_ret (pv 1))))), ?_⟩
    have hn6 := G.nh
    refine ⟨by decide, fun f hf => ⟨_, rfl, p, rfl, ⟨_, (Same.new hf).seq hP.l⟩, for_enum (xs := hs.map fun h => V.ref h.1) (fun i σ H' => Ex_3_4 (fun (ps : List TK) (v2 v3 : Option V) => Same H H') (fun ps v2 v3 => H' f = some (.lst (ps.map fun q => V.ref q.1))) (fun ps v2 v3 => PtsAt H' ps (ptsTo hs i)) (fun ps v2 v3 => σ = [some (.ref p), some (.ref f), v2, v3])) ?_ ?_ ?_ ?_⟩⟩
    · exact ⟨[], none, none, Same.new hf, upd_same, PtsAt.nil, rfl⟩
    · rintro i σ H' _ ⟨ps, v2, v3, s, _⟩
      exact s.seq hP.l
    · rintro i y σ H' t hy ⟨ps, v2, v3, s, hf', hp, rfl⟩ ht
      obtain ⟨hd, hx, rfl⟩ := refs_get hy
      have hmem := List.mem_of_getElem? hx
      have hi : i < hs.length := (List.getElem?_eq_some_iff.mp hx).1
      have n40 := G.nd hd hmem
      have s1 : Same H (upd H' t (.tup [.int i, .ref hd.1])) := s.then ht
      have hf1 : (upd H' t (.tup [.int i, .ref hd.1])) f = some (.lst (ps.map fun q => V.ref q.1)) := (Same.new ht) _ _ hf'
      have hp1 := hp.same (Same.new (o := .tup [.int i, .ref hd.1]) ht)
      refine ⟨t, _, rfl, SqT.new, rfl, _, _, rfl, _, _, rfl, rfl, ?_⟩
      generalize upd H' t (.tup [.int i, .ref hd.1]) = H1 at s1 hf1 hp1
      refine ⟨_, rfl, .inl ⟨rfl, _, SqL.of hf1⟩, _, rfl, hd.1, hd.2, rfl, (hP.hs hd hmem).same s1, n40, fun l H2 s2 hl2 => ?_⟩
      have hpn : ((ptsOf hd.2).map fun x => V.ref x.a).length = npts hd.2 := List.length_map ..
      have hn40 : npts hd.2 ≤ 40 := Nat.le_trans (ptsOf_le _) n40
      refine ⟨l, _, rfl, .inl (SqL.of hl2), _, rfl, by omega, by omega, fun D hD => ?_⟩
      refine comp_range (n := (((ptsOf hd.2).map fun x => V.ref x.a).length : Int).toNat) (fun k σ ys H3 => Ex_2_5 (fun (qs : List TK) (v : Option V) => Same H2 H3) (fun qs v => H3 D = some (.lst ys)) (fun qs v => ys = (qs.map fun q => V.ref q.1)) (fun qs v => PtsAt H3 qs (row i k)) (fun qs v => σ = [v, some (.int i)])) ?_ ?_ ?_ ?_ ?_
      · exact ⟨[], none, Same.new hD, upd_same, rfl, PtsAt.nil, rfl⟩
      · rintro k σ ys H3 hk ⟨qs, v, s3, hD3, rfl, hq, rfl⟩
        refine ⟨hD3, ?_⟩
        rw [List.length_map, hq.len]
        unfold row
        rw [List.length_map, List.length_range]
        exact Nat.le_refl _
      · exact Nat.le_of_lt (small1000 (by omega))
      · rintro k σ ys H3 hk ⟨qs, v, s3, hD3, rfl, hq, rfl⟩
        refine ⟨_, rfl, _, rfl, (by show 2 ≤ sizeLine; decide), fun t2 ht2 => ?_⟩
        have s4 : Same H3 (upd H3 t2 (.tup [.int i, .int (0 + (k : Int))])) := Same.new ht2
        refine ⟨s4 _ _ hD3, qs ++ [(t2, pk ((i : Int), (k : Int)))], _, Same.at hD (s3.trans s4), upd_same, by rw [List.map_append]; rfl, ?_, rfl⟩
        rw [row_succ]
        refine PtsAt.lset (s4 _ _ hD3) ((hq.same s4).snoc ?_)
        rw [upd_same]
        have e0 : (0 : Int) + (k : Int) = (k : Int) := by omega
        rw [e0]
        rfl
      · rintro σ ys H3 ⟨qs, v, s3, hD3, rfl, hq, rfl⟩
        have en : (((ptsOf hd.2).map fun x => V.ref x.a).length : Int).toNat = npts hd.2 := by rw [hpn]; omega
        rw [en] at hq
        have s13 := s2.trans s3
        have hf3 := s13 _ _ hf1
        have x1 := hp.len
        have x2 := ptsTo_len G i
        have x3 := hq.len
        have x4 : (row i (npts hd.2)).length = npts hd.2 := by unfold row; rw [List.length_map, List.length_range]
        refine ⟨f, D, _, _, rfl, rfl, hf3, hD3, ?_, ps ++ qs, _, _, Same.at hf (s1.trans s13), by rw [upd_same, List.map_append], ?_, rfl⟩
        · rw [List.length_map, List.length_map]
          exact Nat.le_of_lt (small1000 (by omega))
        · show PtsAt _ (ps ++ qs) (ptsTo hs i ++ row i (npts (handAt hs i)))
          rw [handAt_of hx]
          exact ((hp1.same s13).append hq).lset hf3
    · rintro σ H' ⟨ps, v2, v3, s, hf', hp, rfl⟩
      rw [List.length_map] at hp
      exact ⟨_, rfl, q f ps H' s hf hf' hp⟩
theorem sc_Lgaps : FnScope ["_law_program", "_law_found", "_law_h", "_law_many"] ["_law_program"] (defScope s_Lgaps) := ⟨rfl, rfl, rfl, by decide +kernel, rfl, by decide +kernel, by decide +kernel⟩
theorem ok_Lgaps {f : Addr} {fd : FuncData} (F : Fun K "_law_gaps" "_law_gaps" s_Lgaps f fd) (T : Txt K mg) (h_Lplace : Has P w K mg base 1 "_law_place" ["_law_deed_here"] (sp_Lplace K)) : FnOk P w K mg base CX0 2 f fd ["_law_program"] (sp_Lgaps K) := by
  refine F.ok (k := 1) sc_Lgaps (fun vs H Q E h => ?_) (fun cdv A outer s H vs Q E hr h => ?_)
  · obtain ⟨p, hs, S, C, rfl, _⟩ := h
    rfl
  · obtain ⟨p, hs, S, C, rfl, hP, G, q⟩ := h
    refine ⟨_, (pss_cons (ps_set (i := 1) sc_Lgaps.nd rfl (Or.inl rfl) (pe_lst pa_nil))
      (pss_cons (ps_for PassesOwn.never rfl (pi_range1 rfl T.n_range (pa_cons (pe_callB call_len_seq rfl T.n_len bt_len (pa_cons (pv 0) pa_nil)) pa_nil)) (pg_name (i := 2) sc_Lgaps.nd rfl (Or.inr rfl))
      (pss_cons (ps_set (i := 3) sc_Lgaps.nd rfl (Or.inl rfl) (pe_callB call_len_seq rfl T.n_len bt_len (pa_cons (pe_comp (Nc := ["_law_deed_here"]) (nt := 1) (js := []) rfl ⟨rfl, rfl, rfl, rfl, .nil, rfl, ⟨["_law_deed_here"], [], rfl, rfl, .nil⟩⟩ (pi_list (pe_ix ix_list (pv 0) (pv 2) (fun _ _ => rfl))) (fun C s3 H3 fp pins => ⟨(pg_name (i := 0) (show (["_law_deed_here"] : List Str).Nodup by decide +kernel) rfl (Or.inl rfl)), (pts_one (pt_cmpR op_notN (pe_fn h_Lplace (hr.mono (by decide)) (pa_cons (pv 0) pa_nil)) pe_non (nomark _))), (pv 0)⟩)) pa_nil)))
      (pss_one (ps_set (i := 1) sc_Lgaps.nd rfl (Or.inl rfl) (pe_op op_cat (pv 1) (pe_comp (Nc := ["_law_k", "_law_h"]) (nt := 1) (js := [2]) rfl ⟨rfl, rfl, rfl, rfl, (.cons rfl .nil), rfl, ⟨["_law_k"], ["_law_h"], rfl, rfl, (.cons rfl rfl rfl .nil)⟩⟩ (pi_range2 rfl T.n_range (pa_cons pe_int (pa_cons (pv 3) pa_nil))) (fun C s3 H3 fp pins => ⟨(pg_name (i := 0) (show (["_law_k", "_law_h"] : List Str).Nodup by decide +kernel) rfl (Or.inl rfl)), pts_nil, (pe_tup (pa_cons (pv 1) (pa_cons (pv 0) pa_nil)))⟩)))))))
      (pss_one (ps_ret (pv 1))))), ?_⟩
    have hn6 := G.nh
    refine ⟨by decide, fun f0 hf0 => ?_⟩
    refine ⟨_, rfl, p, _, rfl, .inl ((Same.new hf0).seq hP.l), _, rfl, by omega, by rw [List.length_map]; omega, for_range (n := ((hs.map fun h => V.ref h.1).length : Int).toNat) (fun i σ H' => Ex_4_5 (fun (f : Addr) (ps : List TK) (v2 v3 : Option V) => Same H H') (fun f ps v2 v3 => H f = none) (fun f ps v2 v3 => H' f = some (.lst (ps.map fun q => V.ref q.1))) (fun f ps v2 v3 => PtsAt H' ps (gapsTo hs i)) (fun f ps v2 v3 => σ = [some (.ref p), some (.ref f), v2, v3])) ?_ ?_ ?_⟩
    · exact ⟨f0, [], none, none, Same.new hf0, hf0, upd_same, PtsAt.nil, rfl⟩
    · rintro i σ H' hi ⟨f, ps, v2, v3, s, nf, hf', hp, rfl⟩
      rw [List.length_map] at hi
      have hi' : i < hs.length := by omega
      have hx : hs[i]? = some hs[i] := List.getElem?_eq_getElem hi'
      generalize hs[i] = hd at hx
      have hmem := List.mem_of_getElem? hx
      have n40 := G.nd hd hmem
      have hH := hP.hs hd hmem
      have ix : atI (hs.map fun h => V.ref h.1) (0 + (i : Int)) = some (.ref hd.1) := by
        have e : (0 : Int) + (i : Int) = (i : Int) := by omega
        rw [e]
        exact atI_nat (by rw [List.getElem?_map, hx]; rfl)
      refine ⟨_, rfl, _, rfl, p, _, _, _, rfl, rfl, s.seq hP.l, ix, hd.1, rfl, ⟨_, s.seq hH.l⟩, fun D hD => ?_⟩
      refine comp_list (xs := hd.2.map fun x => V.ref x.a) (fun j σ ys H3 => ∃ v : Option V, Same H' H3 ∧ H3 D = some (.lst ys) ∧ ys = (ptsOf (hd.2.take j)).map (fun x => V.ref x.a) ∧ σ = [v]) ?_ ?_ ?_ ?_ ?_
      · exact ⟨none, Same.new hD, upd_same, rfl, rfl⟩
      · rintro j σ ys H3 hj ⟨v, s3, hD3, rfl, rfl⟩
        refine ⟨(s.trans s3).seq hH.l, hD3, ?_⟩
        rw [List.length_map]
        exact Nat.le_trans (ptsOf_le _) (by rw [List.length_take]; omega)
      · rw [List.length_map]; exact Nat.le_of_lt (small1000 (by omega))
      · rintro j y σ ys H3 hy ⟨v, s3, hD3, rfl, rfl⟩
        obtain ⟨x, hxj, rfl⟩ := refs_get hy
        have hxd := hH.ds x (List.mem_of_getElem? hxj)
        have e := ptsOf_take_succ hxj
        refine ⟨_, rfl, x.a, x.d, rfl, (hxd.same (s.trans s3)).t, ?_⟩
        by_cases c : pt x.d = true
        · obtain ⟨z, _, z2⟩ := place_spot c
          rw [z2]
          refine ⟨rfl, _, rfl, ifNt (fun z => nomatch z) ⟨_, rfl, hD3, _, Same.at hD s3, upd_same, ?_, rfl⟩⟩
          rw [e, if_pos c, List.map_append]; rfl
        · have c' : pt x.d = false := by simpa using c
          rw [place_none c']
          refine ⟨rfl, _, rfl, ifNf rfl ⟨_, s3, hD3, ?_, rfl⟩⟩
          rw [e, if_neg c, List.append_nil]
      rintro σ ys H3 ⟨v, s3, hD3, rfl, rfl⟩
      rw [List.length_map, List.take_of_length_le (Nat.le_refl _)] at hD3
      have hpn : ((ptsOf hd.2).map fun x => V.ref x.a).length = npts hd.2 := List.length_map ..
      have hn40 : npts hd.2 ≤ 40 := Nat.le_trans (ptsOf_le _) n40
      refine ⟨D, _, rfl, .inl (SqL.of hD3), ?_⟩
      rw [hpn]
      refine ⟨_, rfl, _, rfl, 1, npts hd.2, rfl, ⟨by decide, by decide, by omega, by omega⟩, fun D2 hD2 => ?_⟩
      refine comp_range (n := ((npts hd.2 : Int) - 1).toNat) (fun k σ ys H4 => Ex_2_5 (fun (qs : List TK) (v : Option V) => Same H3 H4) (fun qs v => H4 D2 = some (.lst ys)) (fun qs v => ys = (qs.map fun q => V.ref q.1)) (fun qs v => PtsAt H4 qs (gapRow i (k + 1))) (fun qs v => σ = [v, some (.int (0 + (i : Int)))])) ?_ ?_ ?_ ?_ ?_
      · exact ⟨[], none, Same.new hD2, upd_same, rfl, PtsAt.nil, rfl⟩
      · rintro k σ ys H4 hk ⟨qs, v, s4, hD4, rfl, hq, rfl⟩
        refine ⟨hD4, ?_⟩
        rw [List.length_map, hq.len]
        unfold gapRow
        rw [List.length_map, List.length_range]
        omega
      · exact Nat.le_of_lt (small1000 (by omega))
      · rintro k σ ys H4 hk ⟨qs, v, s4, hD4, rfl, hq, rfl⟩
        refine ⟨_, rfl, _, rfl, (by show 2 ≤ sizeLine; decide), fun t2 ht2 => ?_⟩
        have s5 : Same H4 (upd H4 t2 (.tup [.int (0 + (i : Int)), .int (1 + (k : Int))])) := Same.new ht2
        refine ⟨s5 _ _ hD4, qs ++ [(t2, pk ((i : Int), (1 : Int) + (k : Int)))], _, Same.at hD2 (s4.trans s5), upd_same, by rw [List.map_append]; rfl, ?_, rfl⟩
        have e : gapRow i (k + 1 + 1) = gapRow i (k + 1) ++ [((i : Int), (1 : Int) + (k : Int))] := by
          unfold gapRow
          show (List.range (k + 1)).map _ = (List.range k).map _ ++ _
          rw [List.range_succ, List.map_append]
          rfl
        rw [e]
        refine PtsAt.lset (s5 _ _ hD4) ((hq.same s5).snoc ?_)
        rw [upd_same]
        have e0 : (0 : Int) + (i : Int) = (i : Int) := by omega
        rw [e0]
        rfl
      · rintro σ ys H4 ⟨qs, v, s4, hD4, rfl, hq, rfl⟩
        have eg : gapRow i (((npts hd.2 : Int) - 1).toNat + 1) = gapRow i (npts hd.2) := by
          unfold gapRow
          congr 2
          omega
        rw [eg] at hq
        have s34 := s3.trans s4
        have x1 := hp.len
        have x2 := gapsTo_len G i
        have x3 := hq.len
        have x4 : (gapRow i (npts hd.2)).length ≤ npts hd.2 := by unfold gapRow; rw [List.length_map, List.length_range]; omega
        refine ⟨f, D2, _, _, rfl, rfl, s34 _ _ hf', hD4, (by rw [List.length_map, List.length_map]; exact Nat.le_of_lt (small1000 (by omega))), fun sm hsm => ?_⟩
        refine ⟨sm, ps ++ qs, _, _, (s.trans s34).then hsm, (s.trans s34).free hsm, by rw [upd_same, List.map_append], ?_, rfl⟩
        show PtsAt _ (ps ++ qs) (gapsTo hs i ++ gapRow i (npts (handAt hs i)))
        rw [handAt_of hx]
        exact ((hp.same s34).append hq).same (Same.new hsm)
    · rintro σ H' ⟨f, ps, v2, v3, s, nf, hf', hp, rfl⟩
      have en : ((hs.map fun h => V.ref h.1).length : Int).toNat = hs.length := by rw [List.length_map]; omega
      rw [en] at hp
      exact ⟨_, rfl, q f ps H' s nf hf' hp⟩
end
end Own


set_option Elab.async false
set_option linter.all false
set_option maxRecDepth 100000
set_option maxHeartbeats 4100000
namespace Own
open PySem L2
noncomputable abbrev ST := Z2 × Str
noncomputable def sk (z : ST) : List Key := [Sum.inl z.1.1, Sum.inl z.1.2, Sum.inr z.2]
structure StAt (H : Hp) (ps : List TK) (zs : List ST) : Prop where
  eq : ps.map (·.2) = zs.map sk
  at_ : ∀ q ∈ ps, H q.1 = some (.tup (q.2.map kV))
theorem StAt.same {H H' : Hp} {ps : List TK} {zs : List ST} (s : Same H H') (h : StAt H ps zs) : StAt H' ps zs := ⟨h.eq, fun q hq => s _ _ (h.at_ q hq)⟩
theorem StAt.nil {H : Hp} : StAt H [] [] := ⟨rfl, fun q hq => nomatch hq⟩
theorem StAt.len {H : Hp} {ps : List TK} {zs : List ST} (h : StAt H ps zs) : ps.length = zs.length := by have := congrArg List.length h.eq; simpa using this
theorem StAt.lset {H : Hp} {ps : List TK} {zs : List ST} {l : Addr} {xs ys : List V} (hl : H l = some (.lst xs)) (h : StAt H ps zs) : StAt (upd H l (.lst ys)) ps zs := ⟨h.eq, fun q hq => by
  have := h.at_ q hq
  rw [upd_ne (ne_of this hl (by intro z; cases z))]
  exact this⟩
theorem StAt.ins {H : Hp} {ps : List TK} {zs : List ST} {a : Addr} {z : ST} (i : Nat) (h : StAt H ps zs) (ha : H a = some (.tup ((sk z).map kV))) : StAt H (ps.take i ++ (a, sk z) :: ps.drop i) (zs.take i ++ z :: zs.drop i) := by
  refine ⟨by rw [List.map_append, List.map_append, List.map_cons, List.map_cons, List.map_take, List.map_drop, List.map_take, List.map_drop, h.eq], fun q hq => ?_⟩
  rcases List.mem_append.mp hq with hq | hq
  · exact h.at_ q (List.mem_of_mem_take hq)
  · rcases List.mem_cons.mp hq with rfl | hq
    · exact ha
    · exact h.at_ q (List.mem_of_mem_drop hq)
structure StOk (gs : List Z2) (zs : List ST) : Prop where
  nd : (zs.map (·.1)).Nodup
  sub : ∀ z ∈ zs, z.1 ∈ gs
  wd : ∀ z ∈ zs, z.2 = "fence" ∨ z.2 = "bar"
theorem StOk.nil {gs : List Z2} : StOk gs [] := ⟨List.nodup_nil, (fun z hz => nomatch hz), (fun z hz => nomatch hz)⟩
theorem ins_perm {α : Type} (i : Nat) (xs : List α) (x : α) : (xs.take i ++ x :: xs.drop i).Perm (x :: xs) := by
  refine List.perm_middle.trans ?_
  rw [List.take_append_drop]
theorem StOk.more {gs : List Z2} {zs : List ST} (h : StOk gs zs) {g : Z2} (hg : g ∉ gs) {w : Str} (hw : w = "fence" ∨ w = "bar") (i : Nat) : StOk (gs ++ [g]) (zs.take i ++ (g, w) :: zs.drop i) := by
  have pm := ins_perm i zs (g, w)
  refine ⟨?_, fun z hz => ?_, fun z hz => ?_⟩
  · refine ((pm.map (·.1)).nodup_iff).mpr ?_
    rw [List.map_cons]
    refine List.nodup_cons.mpr ⟨fun c => ?_, h.nd⟩
    obtain ⟨z, hz, e⟩ := List.mem_map.mp c
    have e : z.1 = g := e
    exact hg (e ▸ h.sub z hz)
  · rcases List.mem_cons.mp (pm.mem_iff.mp hz) with rfl | hz
    · exact List.mem_append_right _ (List.mem_singleton.mpr rfl)
    · exact List.mem_append_left _ (h.sub z hz)
  · rcases List.mem_cons.mp (pm.mem_iff.mp hz) with rfl | hz
    · exact hw
    · exact h.wd z hz
theorem StOk.wider {gs : List Z2} {zs : List ST} (h : StOk gs zs) (g : Z2) : StOk (gs ++ [g]) zs := ⟨h.nd, fun z hz => List.mem_append_left _ (h.sub z hz), h.wd⟩
theorem gapRow_mem {i n : Nat} {z : Z2} (h : z ∈ gapRow i n) : z.1 = i ∧ 1 ≤ z.2 ∧ z.2 < n := by
  obtain ⟨k, hk, rfl⟩ := List.mem_map.mp h
  have := List.mem_range.mp hk
  exact ⟨rfl, by show (1 : Int) ≤ 1 + k; omega, by show (1 : Int) + k < n; omega⟩
theorem gapsTo_mem {hs : Hands} : ∀ {i : Nat} {z : Z2}, z ∈ gapsTo hs i → 0 ≤ z.1 ∧ z.1 < i
  | 0, z, h => nomatch h
  | i + 1, z, h => by
    rcases List.mem_append.mp h with h | h
    · have := gapsTo_mem h
      omega
    · have := gapRow_mem h
      omega
theorem gapRow_nodup (i n : Nat) : (gapRow i n).Nodup := by
  unfold gapRow
  refine List.Pairwise.map _ (fun a b (hab : a ≠ b) => ?_) List.nodup_range
  intro e
  have := congrArg Prod.snd e
  have h2 : (1 : Int) + (a : Int) = 1 + (b : Int) := this
  omega
theorem gapsTo_nodup (hs : Hands) : ∀ i, (gapsTo hs i).Nodup
  | 0 => List.nodup_nil
  | i + 1 => by
    refine List.nodup_append.mpr ⟨gapsTo_nodup hs i, gapRow_nodup _ _, fun a ha b hb e => ?_⟩
    have h1 := gapsTo_mem ha
    have h2 := gapRow_mem hb
    rw [e] at h1
    omega
theorem gapsTo_sum : ∀ (hs : Hands) (i : Nat), i ≤ hs.length → (gapsTo hs i).length ≤ ((hs.take i).map fun h => h.2.length).sum
  | hs, 0, _ => Nat.zero_le _
  | hs, i + 1, hi => by
    have ih := gapsTo_sum hs i (by omega)
    have e : hs[i]? = some hs[i] := List.getElem?_eq_getElem (by omega)
    show (gapsTo hs i ++ gapRow i (npts (handAt hs i))).length ≤ _
    rw [List.length_append, List.take_add_one, e, List.map_append, List.sum_append, handAt_of e]
    have h1 : (gapRow i (npts hs[i].2)).length ≤ hs[i].2.length := by
      have : (gapRow i (npts hs[i].2)).length ≤ npts hs[i].2 := by unfold gapRow; rw [List.length_map, List.length_range]; omega
      exact Nat.le_trans this (ptsOf_le _)
    have h2 : ((Option.some hs[i]).toList.map fun h : Addr × List DD => h.2.length).sum = hs[i].2.length := by simp
    omega
theorem gaps_sum (hs : Hands) : (gapsTo hs hs.length).length ≤ (hs.map fun h => h.2.length).sum := by
  have := gapsTo_sum hs hs.length (Nat.le_refl _)
  rw [List.take_of_length_le (Nat.le_refl _)] at this
  exact this
theorem word_of {x : Int} (h : x % 3 > 0) : ∃ y : Str, (y = "fence" ∨ y = "bar") ∧ atI [V.str "fence", V.str "bar"] (x % 3 - 1) = some (.str y) := by
  rcases (by omega : x % 3 = 1 ∨ x % 3 = 2) with e | e <;> rw [e]
  · exact ⟨_, .inl rfl, rfl⟩
  · exact ⟨_, .inr rfl, rfl⟩
inductive Sp_Lstops (K : PySem.W.Frag) (vs : List V) (H : Hp) (Q : VK) (E_ : XK) : Prop
  | mk (p : Addr) (a : Addr) (ns : List Int) (st : Int) (hs : Hands) (S : List Str) (C : List Str) (h0_ : vs = [.ref p, .ref a, .int st]) (h1_ : IsProg K H p hs) (h2_ : Good S C hs) (h3_ : SqL K H a (ns.map V.int)) (h4_ : 0 ≤ st) (h5_ : st ≤ 42) (h6_ : (hs.map fun h => h.2.length).sum ≤ 40) (h7_ : ∀ (l : Addr) (ps : List TK) (zs : List ST) (H' : Hp), Same H H' → H l = none → H' l = some (.lst (ps.map fun q => V.ref q.1)) → StAt H' ps zs → StOk (gapsTo hs hs.length) zs → Q (.ref l) H') : Sp_Lstops K vs H Q E_
noncomputable def sp_Lstops (K : PySem.W.Frag) : Sp := Sp_Lstops K
section
variable {P : Program} {w : World} {K : PySem.W.Frag} {mg : Str → Option Value} {base : Heap}
theorem sc_Lstops : FnScope ["_law_program", "_law_script", "_law_start", "_law_some", "_law_k", "_law_gap", "_law_x", "_law_at"] ["_law_program", "_law_script", "_law_start"] (defScope s_Lstops) := ⟨rfl, rfl, rfl, by decide +kernel, rfl, by decide +kernel, by decide +kernel⟩
theorem ok_Lstops {f : Addr} {fd : FuncData} (F : Fun K "_law_stops" "_law_stops" s_Lstops f fd) (T : Txt K mg) (h_Lgaps : Has P w K mg base 2 "_law_gaps" ["_law_program"] (sp_Lgaps K)) (h_Ldraw : Has P w K mg base 1 "_law_draw" ["_law_script", "_law_k"] (sp_Ldraw K)) : FnOk P w K mg base CX0 3 f fd ["_law_program", "_law_script", "_law_start"] (sp_Lstops K) := by
  refine F.ok (k := 2) sc_Lstops (fun vs H Q E h => ?_) (fun cdv A outer s H vs Q E hr h => ?_)
  · obtain ⟨p, a, ns, st, hs, S, C, rfl, _⟩ := h
    rfl
  · obtain ⟨p, a, ns, st, hs, S, C, rfl, hP, G, hS, st0, st1, htot, q⟩ := h
    refine ⟨_, (pss_cons (ps_set (i := 3) sc_Lstops.nd rfl (Or.inl rfl) (pe_lst pa_nil))
      (pss_cons (ps_for PassesOwn.never rfl (pi_enum rfl T.n_enumerate (pa_cons (pe_fn h_Lgaps (hr.mono (by decide)) (pa_cons (pv 0) pa_nil)) pa_nil)) (pg_tup rfl (pgs_cons (pg_name (i := 4) sc_Lstops.nd rfl (Or.inl rfl)) (pgs_cons (pg_name (i := 5) sc_Lstops.nd rfl (Or.inl rfl)) pgs_nil)))
      (pss_cons (ps_set (i := 6) sc_Lstops.nd rfl (Or.inl rfl) (pe_fn h_Ldraw (hr.mono (by decide)) (pa_cons (pv 1) (pa_cons (pe_op op_add (pv 2) (pv 4)) pa_nil))))
      (pss_one (ps_if (pt_cmpR op_gt (pe_op op_mod (pv 6) pe_int) pe_int (nomark _))
      (pss_cons (ps_set (i := 7) sc_Lstops.nd rfl (Or.inl rfl) (pe_op op_mod (pe_op op_fdiv (pv 6) pe_int) (pe_op op_add (pe_callB call_len_seq rfl T.n_len bt_len (pa_cons (pv 3) pa_nil)) pe_int)))
      (pss_one (ps_expr (pe_bm PySem.F.plainAttrs_list PySem.F.slot_list_insert PySem.F.type_list_insert mt_insert (pv 3) (pa_cons (pv 7) (pa_cons (pe_tup (pa_cons (pe_ix ix_tup (pv 5) pe_int (fun _ _ => rfl)) (pa_cons (pe_ix ix_tup (pv 5) pe_int (fun _ _ => rfl)) (pa_cons (pe_ix ix_list (pe_lst (pa_cons pe_str (pa_cons pe_str pa_nil))) (pe_op op_sub (pe_op op_mod (pv 6) pe_int) pe_int) (fun _ _ => rfl)) pa_nil)))) pa_nil))))))
      pss_nil))))
      (pss_one (ps_ret (pv 3))))), ?_⟩
    have gl := Nat.le_trans (gaps_sum hs) htot
    have gnd := gapsTo_nodup hs hs.length
    refine ⟨by decide, fun f hf => ?_⟩
    have sf : Same H (upd H f (.lst [])) := Same.new hf
    refine ⟨_, rfl, p, hs, S, C, rfl, hP.same sf, G, fun l ps H1 s1 nl hl hp => ?_⟩
    have hp : PtsAt H1 ps (gapsTo hs hs.length) := hp
    have hf1 : H1 f = some (.lst []) := s1 _ _ upd_same
    have s01 := sf.trans s1
    generalize hgs : gapsTo hs hs.length = gs at *
    refine ⟨l, rfl, ⟨_, SqL.of hl⟩, for_enum (xs := ps.map fun q => V.ref q.1) (fun i σ H' => Ex_6_6 (fun (qs : List TK) (zs : List ST) (v4 v5 v6 v7 : Option V) => SameEx [f] H1 H') (fun qs zs v4 v5 v6 v7 => H' f = some (.lst (qs.map fun q => V.ref q.1))) (fun qs zs v4 v5 v6 v7 => StAt H' qs zs) (fun qs zs v4 v5 v6 v7 => StOk (gs.take i) zs) (fun qs zs v4 v5 v6 v7 => qs.length ≤ i) (fun qs zs v4 v5 v6 v7 => σ = [some (.ref p), some (.ref a), some (.int st), some (.ref f), v4, v5, v6, v7])) ?_ ?_ ?_ ?_⟩
    · exact ⟨[], [], none, none, none, none, fun b u _ e => e, hf1, StAt.nil, StOk.nil, Nat.le_refl _, rfl⟩
    · rintro i σ H' _ ⟨qs, zs, v4, v5, v6, v7, ex, _⟩
      refine ex.seq (fun z => ?_) (SqL.of hl)
      have e := List.mem_singleton.mp z
      rw [e, upd_same] at nl
      cases nl
    · rintro i y σ H' t hy ⟨qs, zs, v4, v5, v6, v7, ex, hf', hst, hok, hql, rfl⟩ ht
      obtain ⟨o, ho, rfl⟩ := refs_get hy
      have hi : i < gs.length := by rw [← hp.len]; exact (List.getElem?_eq_some_iff.mp ho).1
      have ez : gs[i]? = some gs[i] := List.getElem?_eq_getElem hi
      generalize gs[i] = z at ez
      have ek : o.2 = pk z := by
        have a1 : (ps.map (·.2))[i]? = some o.2 := by rw [List.getElem?_map, ho]; rfl
        rw [hp.eq, List.getElem?_map, ez] at a1
        exact (Option.some.inj a1).symm
      have hoT1 : H1 o.1 = some (.tup ((pk z).map kV)) := by rw [← ek]; exact hp.at_ o (List.mem_of_getElem? ho)
      have nof : o.1 ∉ [f] := fun c => by rw [List.mem_singleton.mp c, hf1] at hoT1; cases hoT1
      have et : gs.take (i + 1) = gs.take i ++ [z] := by rw [List.take_add_one, ez]; rfl
      have hz : z ∉ gs.take i := fun hm => by
        have nd2 : (gs.take (i + 1)).Nodup := gnd.sublist (List.take_sublist _ _)
        rw [et] at nd2
        exact (List.nodup_append.mp nd2).2.2 z hm z (List.mem_singleton.mpr rfl) rfl
      have sA : Same H' (upd H' t (.tup [.int i, .ref o.1])) := Same.new ht
      refine ⟨t, _, rfl, SqT.new, rfl, _, _, rfl, _, _, rfl, rfl, ?_⟩
      generalize upd H' t (.tup [.int i, .ref o.1]) = H2 at sA ⊢
      have ex2 := ex.then sA
      have hf2 := sA _ _ hf'
      have hS2 : SqL K H2 a (ns.map V.int) := by
        rcases hS with (h | ⟨o, h⟩) | h
        · exact .inl (.inl (ex2 _ _ (fun z => by rw [List.mem_singleton.mp z, hf] at h; cases h) (s01 _ _ h)))
        · exact .inl (.inr ⟨o, ex2 _ _ (fun z => by rw [List.mem_singleton.mp z, hf] at h; cases h) (s01 _ _ h)⟩)
        · exact .inr h
      have hoT := ex2 _ _ nof hoT1
      refine ⟨_, rfl, _, rfl, _, rfl, _, _, rfl, rfl, a, ns, _, rfl, hS2, by omega, by omega, fun x hx0 => ?_⟩
      refine ⟨_, rfl, _, _, rfl, rfl, (by show (0 : Int) < 3; decide), _, _, rfl, rfl, _, rfl, ite2 (fun c => ?_) (fun c => ?_)⟩
      · have c' : x % 3 > 0 := of_decide_eq_true c
        obtain ⟨wd, hwd, ewd⟩ := word_of c'
        have j0 : 0 ≤ x / 3 % (((qs.map fun q => V.ref q.1).length : Int) + 1) := Int.emod_nonneg _ (by omega)
        have j1 : x / 3 % (((qs.map fun q => V.ref q.1).length : Int) + 1) < ((qs.map fun q => V.ref q.1).length : Int) + 1 := Int.emod_lt_of_pos _ (by omega)
        obtain ⟨j, ej⟩ := Int.eq_ofNat_of_zero_le j0
        have hj : j ≤ (qs.map fun q => V.ref q.1).length := by omega
        refine ⟨_, rfl, _, _, rfl, rfl, ⟨by decide, by decide⟩, _, rfl, f, _, rfl, .inl (SqL.of hf2), _, _, rfl, rfl, _, _, rfl, rfl, (by show (0 : Int) < ((qs.map fun q => V.ref q.1).length : Int) + 1; omega), ?_⟩
        refine ⟨_, rfl, .inl ⟨rfl, _, SqL.of hf2⟩, _, rfl, _, rfl, o.1, _, _, _, rfl, rfl, SqT.of hoT, atI_nat (j := 0) rfl, _, rfl, o.1, _, _, _, rfl, rfl, SqT.of hoT, atI_nat (j := 1) rfl, by decide, fun wl hwl => ?_⟩
        refine ⟨_, rfl, _, _, rfl, rfl, (by show (0 : Int) < 3; decide), _, _, rfl, rfl, wl, _, _, _, rfl, rfl, SqL.of upd_same, ewd, (by show 3 ≤ sizeLine; decide), fun t3 ht3 => ?_⟩
        have sB : Same H2 (upd (upd H2 wl (.lst [.str "fence", .str "bar"])) t3 (.tup [.int z.1, .int z.2, .str wd])) := (Same.new hwl).then ht3
        have hf4 := sB _ _ hf2
        refine ⟨f, _, _, j, rfl, congrArg (fun n => [V.int n, V.ref t3]) ej, hf4, (by rw [List.length_map]; exact small1000 (by omega)), hj, qs.take j ++ (t3, sk (z, wd)) :: qs.drop j, zs.take j ++ (z, wd) :: zs.drop j, _, _, _, _, (ex2.then sB).put (List.mem_singleton.mpr rfl), ?_, ?_, ?_, ?_, rfl⟩
        · rw [upd_same, List.map_append, List.map_cons, List.map_take, List.map_drop]
        · exact ((hst.same (sA.trans sB)).ins j (by rw [upd_same]; rfl)).lset hf4
        · rw [et]
          exact hok.more hz hwd j
        · rw [(ins_perm j qs _).length_eq, List.length_cons]
          omega
      · exact ⟨qs, zs, _, _, _, _, ex2, hf2, hst.same sA, by rw [et]; exact hok.wider z, by omega, rfl⟩
    · rintro σ H' ⟨qs, zs, v4, v5, v6, v7, ex, hf', hst, hok, hql, rfl⟩
      rw [List.length_map, hp.len, List.take_of_length_le (Nat.le_refl _)] at hok
      refine ⟨_, rfl, q f qs zs H' (fun b u e => ex b u (fun z => ?_) (s01 b u e)) hf hf' hst hok⟩
      rw [List.mem_singleton.mp z, hf] at e
      cases e
end
end Own


set_option Elab.async false
set_option linter.all false
set_option maxRecDepth 100000
set_option maxHeartbeats 4100000
namespace Own
open PySem L2
noncomputable abbrev Itm := Addr ⊕ Str
noncomputable def wordsAt (zs : List ST) (g : Z2) : List Itm := (zs.filter fun z => decide (z.1 = g)).map fun z => Sum.inr z.2
noncomputable def bit (zs : List ST) (h : Nat) (ds : List DD) (j : Nat) : List Itm := match ds[j]? with
  | some x => (if pt x.d = true then wordsAt zs ((h : Int), (npts (ds.take j) : Int)) else []) ++ [Sum.inl x.a]
  | none => []
noncomputable def itemsTo (zs : List ST) (h : Nat) (ds : List DD) : Nat → List Itm
  | 0 => []
  | j + 1 => itemsTo zs h ds j ++ bit zs h ds j
noncomputable def ItmAt (H : Hp) (v : V) : Itm → Prop
  | .inl a => v = .ref a
  | .inr w => ∃ t : Addr, v = .ref t ∧ H t = some (.tup [.str w, .non])
structure ItsAt (H : Hp) (vs : List V) (is : List Itm) : Prop where
  len : vs.length = is.length
  at_ : ∀ (i : Nat) v x, vs[i]? = some v → is[i]? = some x → ItmAt H v x
section
variable {H H' : Hp} {vs us : List V} {is js : List Itm}
theorem ItmAt.same {v : V} {x : Itm} (s : Same H H') (h : ItmAt H v x) : ItmAt H' v x := by
  cases x with
  | inl a => exact h
  | inr w => obtain ⟨t, e, h⟩ := h; exact ⟨t, e, s _ _ h⟩
theorem ItsAt.same (s : Same H H') (h : ItsAt H vs is) : ItsAt H' vs is := ⟨h.len, fun i v x a b => (h.at_ i v x a b).same s⟩
theorem ItsAt.nil : ItsAt H [] [] := ⟨rfl, fun i v x a => by simp at a⟩
theorem ItsAt.lset {l : Addr} {xs ys : List V} (hl : H l = some (.lst xs)) (h : ItsAt H vs is) : ItsAt (upd H l (.lst ys)) vs is := ⟨h.len, fun i v x a b => by
  have := h.at_ i v x a b
  cases x with
  | inl a => exact this
  | inr w =>
    obtain ⟨t, e, h⟩ := this
    exact ⟨t, e, by rw [upd_ne (ne_of h hl (by intro z; cases z))]; exact h⟩⟩
theorem ItsAt.append (h : ItsAt H vs is) (g : ItsAt H us js) : ItsAt H (vs ++ us) (is ++ js) := by
  refine ⟨by rw [List.length_append, List.length_append, h.len, g.len], fun i p z a b => ?_⟩
  by_cases hi : i < vs.length
  · rw [List.getElem?_append_left hi] at a
    rw [List.getElem?_append_left (by rw [← h.len]; exact hi)] at b
    exact h.at_ i p z a b
  · rw [List.getElem?_append_right (by omega)] at a
    rw [List.getElem?_append_right (by rw [← h.len]; omega), ← h.len] at b
    exact g.at_ _ p z a b
theorem ItsAt.one {v : V} {x : Itm} (h : ItmAt H v x) : ItsAt H [v] [x] := ⟨rfl, fun i q z e1 e2 => by
  cases i with
  | zero => simp at e1 e2; subst e1 e2; exact h
  | succ i => simp at e1⟩
end
theorem wordsAt_len (zs : List ST) (g : Z2) : (wordsAt zs g).length ≤ zs.length := by unfold wordsAt; rw [List.length_map]; exact List.length_filter_le _ _
structure StopsAt (H : Hp) (l : Addr) (as : List Addr) (rows : List (List V)) : Prop where
  l : H l = some (.lst (as.map V.ref))
  len : rows.length = as.length
  at_ : ∀ (i : Nat) a vs, as[i]? = some a → rows[i]? = some vs → H a = some (.lst vs)
inductive Sp_Lstopped (K : PySem.W.Frag) (vs : List V) (H : Hp) (Q : VK) (E_ : XK) : Prop
  | mk (p : Addr) (l : Addr) (hs : Hands) (S : List Str) (C : List Str) (ps : List TK) (zs : List ST) (h0_ : vs = [.ref p, .ref l]) (h1_ : IsProg K H p hs) (h2_ : Good S C hs) (h3_ : SqL K H l (ps.map fun q => V.ref q.1)) (h4_ : StAt H ps zs) (h5_ : zs.length ≤ 40) (h6_ : ∀ (f : Addr) (as : List Addr) (rows : List (List V)) (H' : Hp), Same H H' → H f = none → StopsAt H' f as rows → as.length = hs.length → (∀ b ∈ as, H b = none) → as.Nodup → f ∉ as → (∀ (i : Nat) vs, rows[i]? = some vs → ItsAt H' vs (itemsTo zs i (handAt hs i) (handAt hs i).length)) → Q (.ref f) H') : Sp_Lstopped K vs H Q E_
noncomputable def sp_Lstopped (K : PySem.W.Frag) : Sp := Sp_Lstopped K
section
variable {P : Program} {w : World} {K : PySem.W.Frag} {mg : Str → Option Value} {base : Heap}
theorem sc_Lstopped : FnScope ["_law_program", "_law_some", "_law_found", "_law_h", "_law_hand", "_law_k", "_law_deed_here"] ["_law_program", "_law_some"] (defScope s_Lstopped) := ⟨rfl, rfl, rfl, by decide +kernel, rfl, by decide +kernel, by decide +kernel⟩
theorem ok_Lstopped {f : Addr} {fd : FuncData} (F : Fun K "_law_stopped" "_law_stopped" s_Lstopped f fd) (T : Txt K mg) (h_Lplace : Has P w K mg base 1 "_law_place" ["_law_deed_here"] (sp_Lplace K)) : FnOk P w K mg base CX0 2 f fd ["_law_program", "_law_some"] (sp_Lstopped K) := by
  refine F.ok (k := 1) sc_Lstopped (fun vs H Q E h => ?_) (fun cdv A outer s H vs Q E hr h => ?_)
  · obtain ⟨p, l, hs, S, C, ps, zs, rfl, _⟩ := h
    rfl
  · obtain ⟨p, l, hs, S, C, ps, zs, rfl, hP, G, hl, hst, hz40, q⟩ := h
    refine ⟨_, (pss_cons (ps_set (i := 2) sc_Lstopped.nd rfl (Or.inl rfl) (pe_lst pa_nil))
      (pss_cons (ps_for PassesOwn.never rfl (pi_range1 rfl T.n_range (pa_cons (pe_callB call_len_seq rfl T.n_len bt_len (pa_cons (pv 0) pa_nil)) pa_nil)) (pg_name (i := 3) sc_Lstopped.nd rfl (Or.inr rfl))
      (pss_cons (ps_set (i := 4) sc_Lstopped.nd rfl (Or.inl rfl) (pe_lst pa_nil))
      (pss_cons (ps_set (i := 5) sc_Lstopped.nd rfl (Or.inr rfl) pe_int)
      (pss_cons (ps_for PassesOwn.never rfl (pi_list (pe_ix ix_list (pv 0) (pv 3) (fun _ _ => rfl))) (pg_name (i := 6) sc_Lstopped.nd rfl (Or.inl rfl))
      (pss_cut (ps_if (pt_cmpR op_notN (pe_fn h_Lplace (hr.mono (by decide)) (pa_cons (pv 6) pa_nil)) pe_non (nomark _))
      (pss_cons (ps_set (i := 4) sc_Lstopped.nd rfl (Or.inl rfl) (pe_op op_cat (pv 4) (pe_comp (Nc := ["_law_stop", "_law_h", "_law_k"]) (nt := 1) (js := [3, 5]) rfl ⟨rfl, rfl, rfl, rfl, (.cons rfl (.cons rfl .nil)), rfl, ⟨["_law_stop"], ["_law_h", "_law_k"], rfl, rfl, (.cons rfl rfl rfl (.cons rfl rfl rfl .nil))⟩⟩ (pi_list (pv 1)) (fun C s3 H3 fp pins => ⟨(pg_name (i := 0) (show (["_law_stop", "_law_h", "_law_k"] : List Str).Nodup by decide +kernel) rfl (Or.inl rfl)), (pts_one (pt_cmpR (op_eqCK (K := K) rfl (hu_deep hr)) (pe_slice (show SlR _ (rSlT K) from sl_tup) (pv 0) po_none (po_some pe_int)) (pe_tup (pa_cons (pv 1) (pa_cons (pv 2) pa_nil))) (nomark _))), (pe_tup (pa_cons (pe_ix (show IxR _ (rIxT K) from ix_tup) (pv 0) pe_int (fun _ _ => rfl)) (pa_cons pe_non pa_nil)))⟩))))
      (pss_one (ps_set (i := 5) sc_Lstopped.nd rfl (Or.inr rfl) (pe_op op_add (pv 5) pe_int))))
      pss_nil)
      (pss_one (ps_expr (pe_bm PySem.F.plainAttrs_list PySem.F.slot_list_append PySem.F.type_list_append mt_append (pv 4) (pa_cons (pv 6) pa_nil))))))
      (pss_one (ps_expr (pe_bm PySem.F.plainAttrs_list PySem.F.slot_list_append PySem.F.type_list_append mt_append (pv 2) (pa_cons (pv 4) pa_nil))))))))
      (pss_one (ps_ret (pv 2))))), ?_⟩
    have hn6 := G.nh
    refine ⟨by decide, fun f hf => ?_⟩
    refine ⟨_, rfl, p, _, rfl, .inl ((Same.new hf).seq hP.l), _, rfl, by omega, by rw [List.length_map]; omega, for_range (n := ((hs.map fun h => V.ref h.1).length : Int).toNat) (fun i σ H' => Ex_6_8 (fun (as : List Addr) (rows : List (List V)) (v3 v4 v5 v6 : Option V) => Same H H') (fun as rows v3 v4 v5 v6 => StopsAt H' f as rows) (fun as rows v3 v4 v5 v6 => as.length = i) (fun as rows v3 v4 v5 v6 => (∀ b ∈ as, H b = none)) (fun as rows v3 v4 v5 v6 => as.Nodup) (fun as rows v3 v4 v5 v6 => f ∉ as) (fun as rows v3 v4 v5 v6 => (∀ (j : Nat) vs, rows[j]? = some vs → ItsAt H' vs (itemsTo zs j (handAt hs j) (handAt hs j).length))) (fun as rows v3 v4 v5 v6 => σ = [some (.ref p), some (.ref l), some (.ref f), v3, v4, v5, v6])) ?_ ?_ ?_⟩
    · exact ⟨[], [], none, none, none, none, Same.new hf, ⟨upd_same, rfl, fun i a vs e => by simp at e⟩, rfl, (fun b hb => nomatch hb), List.nodup_nil, (fun c => nomatch c), (fun j vs e => by simp at e), rfl⟩
    · rintro i σ Hs hi ⟨as, rows, v3, v4, v5, v6, s, hA, hal, hfr, nd, hfa, hit, rfl⟩
      rw [List.length_map] at hi
      have hi' : i < hs.length := by omega
      have hx : hs[i]? = some hs[i] := List.getElem?_eq_getElem hi'
      generalize hs[i] = hd at hx
      have hmem := List.mem_of_getElem? hx
      have n40 := G.nd hd hmem
      have hH := hP.hs hd hmem
      have ix : atI (hs.map fun h => V.ref h.1) (0 + (i : Int)) = some (.ref hd.1) := by
        have e : (0 : Int) + (i : Int) = (i : Int) := by omega
        rw [e]
        exact atI_nat (by rw [List.getElem?_map, hx]; rfl)
      refine ⟨by decide, fun h0 hh0 => ?_⟩
      have sh0 : Same Hs (upd Hs h0 (.lst [])) := Same.new hh0
      refine ⟨_, rfl, _, rfl, p, _, _, _, rfl, rfl, (s.trans sh0).seq hP.l, ix, hd.1, rfl, ⟨_, (s.trans sh0).seq hH.l⟩, for_list (xs := hd.2.map fun x => V.ref x.a) (fun j σ H2 => Ex_4_7 (fun (ha : Addr) (vs : List V) (kk : Int) (v6 : Option V) => Same Hs H2) (fun ha vs kk v6 => Hs ha = none) (fun ha vs kk v6 => H2 ha = some (.lst vs)) (fun ha vs kk v6 => ItsAt H2 vs (itemsTo zs i hd.2 j)) (fun ha vs kk v6 => vs.length ≤ 41 * j) (fun ha vs kk v6 => kk = npts (hd.2.take j)) (fun ha vs kk v6 => σ = [some (.ref p), some (.ref l), some (.ref f), some (.int (0 + (i : Int))), some (.ref ha), some (.int kk), v6])) ?_ ?_ ?_ ?_⟩
      · exact ⟨h0, [], 0, _, sh0, hh0, upd_same, ItsAt.nil, Nat.le_refl _, rfl, rfl⟩
      · rintro j σ H2 _ ⟨ha, vs, kk, v6, s2, _⟩
        exact (s.trans s2).seq hH.l
      · rintro j y σ H2 hy ⟨ha, vs, kk, v6, s2, nha, hha, hv, hvl, rfl, rfl⟩
        obtain ⟨x, hxj, rfl⟩ := refs_get hy
        have hj : j < hd.2.length := (List.getElem?_eq_some_iff.mp hxj).1
        have hxd := (hH.ds x (List.mem_of_getElem? hxj)).same (s.trans s2)
        have enp : npts (hd.2.take (j + 1)) = npts (hd.2.take j) + (if pt x.d = true then 1 else 0) := by
          unfold npts
          rw [ptsOf_take_succ hxj, List.length_append]
          split <;> rfl
        have eb : bit zs i hd.2 j = (if pt x.d = true then wordsAt zs ((i : Int), (npts (hd.2.take j) : Int)) else []) ++ [Sum.inl x.a] := by unfold bit; rw [hxj]
        refine ⟨fun σ H3 => Ex_3_7 (fun (ha : Addr) (vs : List V) (kk : Int) => Same Hs H3) (fun ha vs kk => Hs ha = none) (fun ha vs kk => H3 ha = some (.lst vs)) (fun ha vs kk => ItsAt H3 vs (itemsTo zs i hd.2 j ++ (if pt x.d = true then wordsAt zs ((i : Int), (npts (hd.2.take j) : Int)) else []))) (fun ha vs kk => vs.length ≤ 41 * j + 40) (fun ha vs kk => kk = npts (hd.2.take (j + 1))) (fun ha vs kk => σ = [some (.ref p), some (.ref l), some (.ref f), some (.int (0 + (i : Int))), some (.ref ha), some (.int kk), some (.ref x.a)]), ?_, ?_⟩
        · refine ⟨_, rfl, x.a, x.d, rfl, hxd.t, ?_⟩
          by_cases c : pt x.d = true
          · obtain ⟨pz, _, z2⟩ := place_spot c
            rw [z2]
            refine ⟨rfl, _, rfl, ifNt (fun z => nomatch z) ?_⟩
            refine ⟨_, rfl, _, rfl, l, rfl, ⟨_, (s.trans s2).seq hl⟩, fun D hD => ?_⟩
            have hlz := hst.len
            refine comp_list (xs := ps.map fun q => V.ref q.1) (fun m σ ys H4 => ∃ v : Option V, Same H2 H4 ∧ H4 D = some (.lst ys) ∧ ItsAt H4 ys (wordsAt (zs.take m) ((i : Int), (npts (hd.2.take j) : Int))) ∧ ys.length ≤ m ∧ σ = [v, some (.int (0 + (i : Int))), some (.int (npts (hd.2.take j)))]) ?_ ?_ ?_ ?_ ?_
            · exact ⟨none, Same.new hD, upd_same, ItsAt.nil, Nat.le_refl _, rfl⟩
            · rintro m σ ys H4 hm ⟨v, s4, hD4, hy4, hyl, rfl⟩
              exact ⟨(s.trans (s2.trans s4)).seq hl, hD4, hyl⟩
            · rw [List.length_map]; exact Nat.le_of_lt (small1000 (by omega))
            · rintro m y σ ys H4 hy ⟨v, s4, hD4, hy4, hyl, rfl⟩
              obtain ⟨o, ho, rfl⟩ := refs_get hy
              have hm : m < zs.length := by rw [← hlz]; exact (List.getElem?_eq_some_iff.mp ho).1
              have ez : zs[m]? = some zs[m] := List.getElem?_eq_getElem hm
              generalize zs[m] = z at ez
              have ek : o.2 = sk z := by
                have a1 : (ps.map (·.2))[m]? = some o.2 := by rw [List.getElem?_map, ho]; rfl
                rw [hst.eq, List.getElem?_map, ez] at a1
                exact (Option.some.inj a1).symm
              have hoT : H4 o.1 = some (.tup [.int z.1.1, .int z.1.2, .str z.2]) := by
                have := (s.trans (s2.trans s4)) _ _ (hst.at_ o (List.mem_of_getElem? ho))
                rw [ek] at this
                exact this
              have t1 : SqT K H4 o.1 [.int z.1.1, .int z.1.2, .str z.2] := SqT.of hoT
              have ew : wordsAt (zs.take (m + 1)) ((i : Int), (npts (hd.2.take j) : Int)) = wordsAt (zs.take m) ((i : Int), (npts (hd.2.take j) : Int)) ++ (if z.1 = ((i : Int), (npts (hd.2.take j) : Int)) then [Sum.inr z.2] else []) := by
                unfold wordsAt
                rw [List.take_add_one, ez, List.filter_append, List.map_append]
                congr 1
                by_cases c : z.1 = ((i : Int), (npts (hd.2.take j) : Int))
                · rw [if_pos c]; simp [c]
                · rw [if_neg c]; simp [c]
              have ec : cutV [V.int z.1.1, V.int z.1.2, V.str z.2] none (some 2) = [V.int z.1.1, V.int z.1.2] := rfl
              refine ⟨_, rfl, _, rfl, o.1, _, rfl, t1, ?_, fun p3 hp3 => ?_⟩
              · show ¬ (HT.sIx 3 0 none = 0 ∧ HT.sIx 3 3 (some 2) = 3)
                decide
              rw [ec]
              refine ⟨_, rfl, _, rfl, (by show 2 ≤ sizeLine; decide), fun t2 ht2 => ?_⟩
              have s5 : Same H4 (upd (upd H4 p3 (.tup [V.int z.1.1, V.int z.1.2])) t2 (.tup [.int (0 + (i : Int)), .int (npts (hd.2.take j))])) := (Same.new hp3).then ht2
              have k3 : (upd (upd H4 p3 (.tup [V.int z.1.1, V.int z.1.2])) t2 (.tup [.int (0 + (i : Int)), .int (npts (hd.2.take j))])) p3 = some (.tup [V.int z.1.1, V.int z.1.2]) := (Same.new ht2) _ _ upd_same
              have k2 : (upd (upd H4 p3 (.tup [V.int z.1.1, V.int z.1.2])) t2 (.tup [.int (0 + (i : Int)), .int (npts (hd.2.take j))])) t2 = some (.tup [.int (0 + (i : Int)), .int (npts (hd.2.take j))]) := upd_same
              refine ⟨p3, t2, _, rfl, rfl, DT.keys (xs := pk z.1) (ys := pk (0 + (i : Int), (npts (hd.2.take j) : Int))) (SqT.of k3) (SqT.of k2), _, rfl, ifB (fun c => ?_) (fun c => ?_)⟩
              · have c' : z.1 = ((i : Int), (npts (hd.2.take j) : Int)) := by
                  have := pk_inj (of_decide_eq_true c)
                  rw [this, Int.zero_add]
                refine ⟨_, rfl, o.1, _, _, _, rfl, rfl, s5.seqT t1, atI_nat (j := 2) rfl, (by show 2 ≤ sizeLine; decide), fun t3 ht3 => ?_⟩
                have s6 := s5.then (o := .tup [.str z.2, .non]) ht3
                refine ⟨s6 _ _ hD4, _, Same.at hD (s4.trans s6), upd_same, ?_, by rw [List.length_append]; exact Nat.succ_le_succ hyl, rfl⟩
                rw [ew, if_pos c']
                exact ((hy4.same s6).append (ItsAt.one (x := Sum.inr z.2) ⟨t3, rfl, upd_same⟩)).lset (s6 _ _ hD4)
              · have c' : ¬ z.1 = ((i : Int), (npts (hd.2.take j) : Int)) := fun e => by
                  rw [e, decide_eq_true (by rw [Int.zero_add])] at c
                  cases c
                refine ⟨_, s4.trans s5, s5 _ _ hD4, ?_, by omega, rfl⟩
                rw [ew, if_neg c', List.append_nil]
                exact hy4.same s5
            · rintro σ ys H4 ⟨v, s4, hD4, hy4, hyl, rfl⟩
              rw [List.length_map] at hyl
              rw [List.length_map, hlz, List.take_of_length_le (Nat.le_refl _)] at hy4
              refine ⟨ha, D, _, _, rfl, rfl, s4 _ _ hha, hD4, (by rw [sizeLine_eq]; omega), fun sm hsm => ?_⟩
              have s24 := s2.trans s4
              refine ⟨_, rfl, _, _, rfl, rfl, sm, vs ++ ys, _, s24.then hsm, s24.free hsm, upd_same, ?_, by rw [List.length_append]; omega, by rw [enp, if_pos c]; rfl, rfl⟩
              rw [if_pos c]
              exact ((hv.same s4).append hy4).same (Same.new hsm)
          · have c' : pt x.d = false := by simpa using c
            rw [place_none c']
            refine ⟨rfl, _, rfl, ifNf rfl ⟨ha, vs, _, s2, nha, hha, ?_, by omega, by rw [enp, if_neg c]; rfl, rfl⟩⟩
            rw [if_neg c, List.append_nil]
            exact hv
        · rintro σ H3 ⟨ha3, vs3, kk3, s3, nha3, hha3, hv3, hvl3, rfl, rfl⟩
          refine ⟨_, rfl, .inl ⟨rfl, _, SqL.of hha3⟩, _, rfl, ha3, _, _, rfl, rfl, hha3, (by rw [sizeLine_eq]; omega), ha3, vs3 ++ [V.ref x.a], _, _, Same.at nha3 s3, nha3, upd_same, ?_, by rw [List.length_append]; show vs3.length + 1 ≤ _; omega, rfl, rfl⟩
          show ItsAt _ _ (itemsTo zs i hd.2 j ++ bit zs i hd.2 j)
          rw [eb, ← List.append_assoc]
          exact (hv3.append (ItsAt.one (x := Sum.inl x.a) rfl)).lset hha3
      · rintro σ H2 ⟨ha, vs, kk, v6, s2, nha, hha, hv, hvl, rfl, rfl⟩
        rw [List.length_map] at hv hvl
        have hf2 := s2 _ _ hA.l
        have nf : f ≠ ha := ne_of_none hA.l nha
        refine ⟨_, rfl, .inl ⟨rfl, _, SqL.of hf2⟩, _, rfl, f, _, _, rfl, rfl, hf2, (by rw [List.length_map]; exact small1000 (by omega)), as ++ [ha], rows ++ [vs], _, _, _, _, Same.at hf (s.trans s2), ⟨by rw [upd_same, List.map_append]; rfl, by rw [List.length_append, List.length_append, hA.len]; rfl, fun k a us e1 e2 => ?_⟩, by rw [List.length_append, hal]; rfl, fun b hb => ?_, nd_snoc nd fun c => ?_, fun c => ?_, fun k us e => ?_, rfl⟩
        · by_cases ck : k < as.length
          · rw [List.getElem?_append_left ck] at e1
            rw [List.getElem?_append_left (by rw [hA.len]; exact ck)] at e2
            rw [upd_ne (fun (z : a = f) => hfa (z ▸ List.mem_of_getElem? e1))]
            exact s2 _ _ (hA.at_ k a us e1 e2)
          · rw [List.getElem?_append_right (by omega)] at e1
            rw [List.getElem?_append_right (by rw [hA.len]; omega), hA.len] at e2
            have e3 : k - as.length = 0 := by
              have := (List.getElem?_eq_some_iff.mp e1).1
              rw [List.length_cons, List.length_nil] at this
              omega
            rw [e3] at e1 e2
            cases e1
            cases e2
            rw [upd_ne nf.symm]
            exact hha
        · rcases List.mem_append.mp hb with hb | hb
          · exact hfr b hb
          · rw [List.mem_singleton.mp hb]; exact s.free nha
        · obtain ⟨k, ek⟩ := List.getElem?_of_mem c
          have hk : k < rows.length := by rw [hA.len]; exact (List.getElem?_eq_some_iff.mp ek).1
          have := hA.at_ k ha rows[k] ek (List.getElem?_eq_getElem hk)
          rw [nha] at this
          cases this
        · rcases List.mem_append.mp c with c | c
          · exact hfa c
          · exact nf (List.mem_singleton.mp c)
        · by_cases ck : k < rows.length
          · rw [List.getElem?_append_left ck] at e
            exact ((hit k us e).same s2).lset hf2
          · rw [List.getElem?_append_right (by omega)] at e
            have e3 : k - rows.length = 0 := by
              have := (List.getElem?_eq_some_iff.mp e).1
              rw [List.length_cons, List.length_nil] at this
              omega
            have e4 : k = i := by have := hA.len; omega
            rw [e3] at e
            cases e
            rw [e4, handAt_of hx]
            exact hv.lset hf2
    · rintro σ H' ⟨as, rows, v3, v4, v5, v6, s, hA, hal, hfr, nd, hfa, hit, rfl⟩
      exact ⟨_, rfl, q f as rows H' s hf hA (by rw [hal, List.length_map]; omega) hfr nd hfa hit⟩
end
end Own


set_option Elab.async false
set_option linter.all false
set_option maxRecDepth 100000
set_option maxHeartbeats 4100000
namespace Own
open PySem L2
noncomputable def noBool (xs : List V) : Prop := ∀ v ∈ cutV xs (some 1) (some (-1)), (∃ n, v = .int n) ∨ ∃ z, v = .str z
structure RowsAt (K : PySem.W.Frag) (H : Hp) (a : Addr) (as : List Addr) (rows : List (List Addr)) : Prop where
  l : SqL K H a (as.map V.ref)
  len : rows.length = as.length
  at_ : ∀ (i : Nat) b r, as[i]? = some b → rows[i]? = some r → SqL K H b (r.map V.ref)
  ds : ∀ r ∈ rows, r.length ≤ 1700 ∧ ∀ t ∈ r, ∃ xs, SqT K H t xs ∧ 2 ≤ xs.length ∧ xs.length ≤ 5 ∧ noBool xs
theorem RowsAt.same {K : PySem.W.Frag} {H H' : Hp} {a : Addr} {as : List Addr} {rows : List (List Addr)} (s : Same H H') (h : RowsAt K H a as rows) : RowsAt K H' a as rows :=
  ⟨s.seq h.l, h.len, fun i b r e1 e2 => s.seq (h.at_ i b r e1 e2), fun r hr => ⟨(h.ds r hr).1, fun t ht => let ⟨xs, x1, x2⟩ := (h.ds r hr).2 t ht; ⟨xs, s.seqT x1, x2⟩⟩⟩
inductive Sp_Lalike (K : PySem.W.Frag) (vs : List V) (H : Hp) (Q : VK) (E_ : XK) : Prop
  | mk (a : Addr) (b : Addr) (as : List Addr) (rows : List (List Addr)) (h0_ : vs = [.ref a, .ref b]) (h1_ : RowsAt K H a as rows) (h2_ : as.length ≤ 6) (h3_ : DT K H a b true) (h4_ : ∀ H', Same H H' → Q (.bl true) H') : Sp_Lalike K vs H Q E_
noncomputable def sp_Lalike (K : PySem.W.Frag) : Sp := Sp_Lalike K
section
variable {P : Program} {w : World} {K : PySem.W.Frag} {mg : Str → Option Value} {base : Heap}
theorem sc_Lalike : FnScope ["_law_found", "_law_due", "_law_hand", "_law_deed_here", "_law_parts"] ["_law_found", "_law_due"] (defScope s_Lalike) := ⟨rfl, rfl, rfl, by decide +kernel, rfl, by decide +kernel, by decide +kernel⟩
theorem ok_Lalike {f : Addr} {fd : FuncData} (F : Fun K "_law_alike" "_law_alike" s_Lalike f fd) (T : Txt K mg)  : FnOk P w K mg base CX0 1 f fd ["_law_found", "_law_due"] (sp_Lalike K) := by
  refine F.ok (k := 0) sc_Lalike (fun vs H Q E h => ?_) (fun cdv A outer s H vs Q E hr h => ?_)
  · obtain ⟨a, b, as, rows, rfl, _⟩ := h
    rfl
  · obtain ⟨a, b, as, rows, rfl, hR, h6, hD, q⟩ := h
    refine ⟨_, (pss_cons (ps_if (PW.pt (pw_or (pt_not (pt_val (pe_callB call_isLst rfl T.n_isinstance bt_isinstance (pa_cons (pv 0) (pa_cons (pe_bltn (v := .ty "list") rfl T.n_list bt_list rfl) pa_nil))))) (pw_or1 (pt_cmpR (op_neC (hu_deep hr)) (pv 0) (pv 1) (nomark _)))))
      (pss_one (ps_ret pe_bl))
      pss_nil)
      (pss_cons (ps_for PassesOwn.never rfl (pi_list (pv 0)) (pg_name (i := 2) sc_Lalike.nd rfl (Or.inl rfl))
      (pss_one (ps_for PassesOwn.never rfl (pi_list (pv 2)) (pg_name (i := 3) sc_Lalike.nd rfl (Or.inl rfl))
      (pss_cons (ps_set (i := 4) sc_Lalike.nd rfl (Or.inl rfl) (pe_slice sl_tup (pv 3) (po_some pe_int) (po_some (pe_un un_neg pe_int))))
      (pss_one (ps_if (pt_cmpR (op_neC (hu_deep hr)) (pe_comp (Nc := ["_law_part"]) (nt := 1) (js := []) rfl ⟨rfl, rfl, rfl, rfl, .nil, rfl, ⟨["_law_part"], [], rfl, rfl, .nil⟩⟩ (pi_tup (pv 4)) (fun C s3 H3 fp pins => ⟨(pg_name (i := 0) (show (["_law_part"] : List Str).Nodup by decide +kernel) rfl (Or.inl rfl)), (pts_one (pt_val (pe_callB (call_isBoolK (K := K) rfl) rfl T.n_isinstance bt_isinstance (pa_cons (pv 0) (pa_cons (pe_bltn (v := .ty "bool") rfl T.n_bool bt_bool rfl) pa_nil))))), (pv 0)⟩)) (pe_lst pa_nil) (nomark _))
      (pss_one (ps_ret pe_bl))
      pss_nil))))))
      (pss_one (ps_ret pe_bl)))), ?_⟩
    refine ⟨_, rfl, _, _, rfl, .inl ⟨rfl, _, hR.l⟩, _, rfl, iteF ⟨_, rfl, _, rfl, a, b, _, rfl, rfl, hD, _, rfl, iteF ?_⟩⟩
    have hRl := hR.len
    refine ⟨_, rfl, a, rfl, ⟨_, hR.l⟩, for_list (xs := as.map V.ref) (fun i σ H' => Same H H' ∧ Ex_3_1 (fun v2 v3 v4 => σ = [some (.ref a), some (.ref b), v2, v3, v4])) ⟨Same.refl _, none, none, none, rfl⟩ ?_ ?_ ?_⟩
    · rintro i σ H' _ ⟨s, _⟩
      exact s.seq hR.l
    · rintro i y σ H' hy ⟨s, v2, v3, v4, rfl⟩
      obtain ⟨h, eh, rfl⟩ := refs_get hy
      have hi : i < rows.length := by rw [hRl]; exact (List.getElem?_eq_some_iff.mp eh).1
      have er : rows[i]? = some rows[i] := List.getElem?_eq_getElem hi
      generalize rows[i] = r at er
      have hr := hR.at_ i h r eh er
      obtain ⟨r1, r2⟩ := hR.ds r (List.mem_of_getElem? er)
      refine ⟨_, rfl, h, rfl, ⟨_, s.seq hr⟩, for_list (xs := r.map V.ref) (fun j σ H2 => Same H H2 ∧ Ex_2_1 (fun v3 v4 => σ = [some (.ref a), some (.ref b), some (.ref h), v3, v4])) ⟨s, _, _, rfl⟩ ?_ ?_ ?_⟩
      · rintro j σ H2 _ ⟨s2, _⟩
        exact s2.seq hr
      · rintro j y2 σ H2 hy2 ⟨s2, v3, v4, rfl⟩
        obtain ⟨t, et, rfl⟩ := refs_get hy2
        obtain ⟨xs, x1, x2, x3, x4⟩ := r2 t (List.mem_of_getElem? et)
        refine ⟨_, rfl, _, rfl, _, rfl, -1, rfl, t, xs, rfl, s2.seqT x1, ?_, fun p3 hp3 => ?_⟩
        · intro c
          have := c.1
          have e : HT.sIx xs.length 0 (some 1) = min 1 xs.length := HT.sIx_nat _ _ 1
          rw [e] at this
          omega
        have s3 := s2.then (o := .tup (cutV xs (some 1) (some (-1)))) hp3
        have hp : SqT K (upd H2 p3 (.tup (cutV xs (some 1) (some (-1))))) p3 (cutV xs (some 1) (some (-1))) := SqT.new
        have hcl := cutV_length xs (some 1) (some (-1))
        refine ⟨_, rfl, p3, rfl, ⟨_, hp⟩, fun D hD => ?_⟩
        refine comp_tup (xs := cutV xs (some 1) (some (-1))) (fun i σ ys H' => ∃ v : Option V, Same (upd H2 p3 (.tup (cutV xs (some 1) (some (-1))))) H' ∧ H' D = some (.lst ys) ∧ ys = [] ∧ σ = [v]) ?_ ?_ ?_ ?_ ?_
        · exact ⟨none, Same.new hD, upd_same, rfl, rfl⟩
        · rintro m σ ys H' hm ⟨v, s4, hD', rfl, rfl⟩
          exact ⟨s4.seqT hp, hD', Nat.zero_le _⟩
        · exact Nat.le_of_lt (small1000 (by omega))
        · rintro m y σ ys H' hy ⟨v, s4, hD', rfl, rfl⟩
          rcases x4 y (List.mem_of_getElem? hy) with ⟨n, rfl⟩ | ⟨z, rfl⟩
          · exact ⟨_, rfl, _, _, rfl, rfl, _, rfl, iteF ⟨_, s4, hD', rfl, rfl⟩⟩
          · exact ⟨_, rfl, _, _, rfl, rfl, _, rfl, iteF ⟨_, s4, hD', rfl, rfl⟩⟩
        · rintro σ ys H' ⟨v, s4, hD', rfl, rfl⟩
          refine ⟨by decide, fun e he => ?_⟩
          have s5 : Same H' (upd H' e (.lst [])) := Same.new he
          refine ⟨D, e, _, rfl, rfl, DT.lists (ps := []) (qs := []) ⟨SqL.of (s5 _ _ hD'), fun q hq => nomatch hq⟩ ⟨SqL.of upd_same, fun q hq => nomatch hq⟩, _, rfl, ?_⟩
          rw [decide_eq_true rfl]
          exact iteF ⟨s3.trans (s4.trans s5), _, _, rfl⟩
      · rintro σ H2 ⟨s2, v3, v4, rfl⟩
        exact ⟨s2, _, _, _, rfl⟩
    · rintro σ H' ⟨s, v2, v3, v4, rfl⟩
      exact q H' s
end
end Own


--#dictT
set_option Elab.async false
set_option linter.all false
set_option maxRecDepth 100000
set_option maxHeartbeats 4100000
namespace Own
open PySem L2
theorem hu_4 {A : Around} {k : Nat} (hr : Room k A) : A.units + 4 < PySem.cLine := by have := hr.units; omega
noncomputable def wordK (zs : List ST) : List (List Key × V) := zs.map fun z => (pk z.1, V.str z.2)
theorem val_word : ∀ {zs : List ST} {z : ST}, (zs.map (·.1)).Nodup → z ∈ zs → valV (wordK zs) (pk z.1) = some (.str z.2)
  | [], _, _, h => (List.not_mem_nil h).elim
  | r :: zs, z, nd, h => by
    rw [List.map_cons, List.nodup_cons] at nd
    unfold wordK
    rw [List.map_cons]
    rcases List.mem_cons.mp h with rfl | h
    · exact valV_pos rfl
    · rw [valV_neg (fun e => nd.1 (by rw [pk_inj e]; exact List.mem_map.mpr ⟨z, h, rfl⟩))]
      exact val_word nd.2 h
theorem val_word_none : ∀ {zs : List ST} {g : Z2}, (∀ z ∈ zs, z.1 ≠ g) → valV (wordK zs) (pk g) = none
  | [], g, _ => rfl
  | r :: zs, g, h => by
    unfold wordK
    rw [List.map_cons, valV_neg (fun e => h r (List.mem_cons_self ..) (pk_inj e))]
    exact val_word_none fun q hq => h q (List.mem_cons_of_mem _ hq)
theorem words_none {zs : List ST} {g : Z2} (h : ∀ z ∈ zs, z.1 ≠ g) : wordsAt zs g = [] := by
  unfold wordsAt
  rw [List.filter_eq_nil_iff.mpr (fun z hz c => h z hz (of_decide_eq_true c))]
  rfl
theorem words_one : ∀ {zs : List ST} {z : ST}, (zs.map (·.1)).Nodup → z ∈ zs → wordsAt zs z.1 = [Sum.inr z.2]
  | [], _, _, h => (List.not_mem_nil h).elim
  | r :: zs, z, nd, h => by
    rw [List.map_cons, List.nodup_cons] at nd
    rcases List.mem_cons.mp h with rfl | h
    · have : wordsAt zs z.1 = [] := words_none fun y hy e => nd.1 (by rw [← e]; exact List.mem_map.mpr ⟨y, hy, rfl⟩)
      unfold wordsAt at this ⊢
      rw [List.filter_cons_of_pos (p := fun y : ST => decide (y.1 = z.1)) (decide_eq_true rfl), List.map_cons, this]
    · have ne : r.1 ≠ z.1 := fun e => nd.1 (by rw [e]; exact List.mem_map.mpr ⟨z, h, rfl⟩)
      have := words_one nd.2 h
      unfold wordsAt at this ⊢
      rw [List.filter_cons_of_neg (p := fun y : ST => decide (y.1 = z.1)) (by rw [decide_eq_false ne]; exact Bool.false_ne_true), this]
inductive Sp_placeof (K : PySem.W.Frag) (vs : List V) (H : Hp) (Q : VK) (E_ : XK) : Prop
  | mk (p : Addr) (d : Deed) (h0_ : vs = [.ref p]) (h1_ : SqT K H p d.items) (h2_ : ∀ H', Same H H' → Q d.place H') : Sp_placeof K vs H Q E_
noncomputable def sp_placeof (K : PySem.W.Frag) : Sp := Sp_placeof K
inductive Sp_numbered (K : PySem.W.Frag) (vs : List V) (H : Hp) (Q : VK) (E_ : XK) : Prop
  | mk (a : Addr) (ds : List DD) (h0_ : vs = [.ref a]) (h1_ : IsHand K H a ds) (h2_ : ds.length ≤ 40) (h3_ : ∀ (l : Addr) (ts : List Addr) (H' : Hp), Same H H' → H l = none → H' l = some (.lst (ts.map V.ref)) → ts.length = ds.length → (∀ (i : Nat) (t : Addr) (x : DD), ts[i]? = some t → ds[i]? = some x → H' t = some (.tup [.int (npts (ds.take i)), .ref x.a])) → Q (.ref l) H') : Sp_numbered K vs H Q E_
noncomputable def sp_numbered (K : PySem.W.Frag) : Sp := Sp_numbered K
inductive Sp_fencedhand (K : PySem.W.Frag) (vs : List V) (H : Hp) (Q : VK) (E_ : XK) : Prop
  | mk (n : Nat) (a : Addr) (d : Addr) (ds : List DD) (zs : List ST) (h0_ : vs = [.int n, .ref a, .ref d]) (h1_ : IsHand K H a ds) (h2_ : ds.length ≤ 40) (h3_ : H d = some (.dT (wordK zs))) (h4_ : (zs.map (·.1)).Nodup) (h5_ : ∀ (l : Addr) (us : List V) (H' : Hp), Same H H' → H l = none → H' l = some (.lst us) → ItsAt H' us (itemsTo zs n ds ds.length) → Q (.ref l) H') : Sp_fencedhand K vs H Q E_
noncomputable def sp_fencedhand (K : PySem.W.Frag) : Sp := Sp_fencedhand K
section
variable {P : Program} {w : World} {K : PySem.W.Frag} {mg : Str → Option Value} {base : Heap}
theorem sc_placeof : FnScope ["deed"] ["deed"] (defScope s_placeof) := ⟨rfl, rfl, rfl, by decide +kernel, rfl, by decide +kernel, by decide +kernel⟩
theorem ok_placeof {f : Addr} {fd : FuncData} (F : Fun K "place_of" "place_of" s_placeof f fd) (T : Txt K mg) (h_isread : Has P w K mg base 1 "is_read" ["deed"] (sp_isread K)) : FnOk P w K mg base CX0 2 f fd ["deed"] (sp_placeof K) := by
  refine F.ok (k := 1) sc_placeof (fun vs H Q E h => ?_) (fun cdv A outer s H vs Q E hr h => ?_)
  · obtain ⟨p, d, rfl, _⟩ := h
    rfl
  · obtain ⟨p, d, rfl, hS, q⟩ := h
    refine ⟨_, (pss_cons (ps_if (pt_cmpR op_eq (pe_ix ix_tup (pv 0) pe_int (fun _ _ => rfl)) pe_str (nomark _))
      (pss_one (ps_ret (pe_ix ix_tup (pv 0) pe_int (fun _ _ => rfl))))
      pss_nil)
      (pss_cons (ps_if (pt_val (pe_fn h_isread (hr.mono (by decide)) (pa_cons (pv 0) pa_nil)))
      (pss_one (ps_ret (pe_ix ix_tup (pv 0) pe_int (fun _ _ => rfl))))
      pss_nil)
      (pss_one (ps_ret pe_non)))), ?_⟩
    cases d with
    | put x n g =>
      refine ⟨_, rfl, p, _, _, _, rfl, rfl, hS, rfl, rfl, _, rfl, ifT (by decide +kernel) ?_⟩
      exact ⟨_, rfl, p, _, _, _, rfl, rfl, hS, rfl, q _ (Same.refl _)⟩
    | get c x g =>
      refine ⟨_, rfl, p, _, _, _, rfl, rfl, hS, rfl, rfl, _, rfl, ifF (by decide +kernel) ?_⟩
      exact ⟨_, rfl, p, _, rfl, hS, fun H' s => ⟨_, rfl, iteT ⟨_, rfl, p, _, _, _, rfl, rfl, s.seqT hS, rfl, q _ s⟩⟩⟩
    | swap c x n g =>
      refine ⟨_, rfl, p, _, _, _, rfl, rfl, hS, rfl, rfl, _, rfl, ifF (by decide +kernel) ?_⟩
      exact ⟨_, rfl, p, _, rfl, hS, fun H' s => ⟨_, rfl, iteT ⟨_, rfl, p, _, _, _, rfl, rfl, s.seqT hS, rfl, q _ s⟩⟩⟩
    | fence g =>
      refine ⟨_, rfl, p, _, _, _, rfl, rfl, hS, rfl, rfl, _, rfl, ifF (by decide +kernel) ?_⟩
      exact ⟨_, rfl, p, _, rfl, hS, fun H' s => ⟨_, rfl, iteF (q _ s)⟩⟩
    | bar g =>
      refine ⟨_, rfl, p, _, _, _, rfl, rfl, hS, rfl, rfl, _, rfl, ifF (by decide +kernel) ?_⟩
      exact ⟨_, rfl, p, _, rfl, hS, fun H' s => ⟨_, rfl, iteF (q _ s)⟩⟩
theorem sc_numbered : FnScope ["hand", "pairs", "k", "deed"] ["hand"] (defScope s_numbered) := ⟨rfl, rfl, rfl, by decide +kernel, rfl, by decide +kernel, by decide +kernel⟩
theorem ok_numbered {f : Addr} {fd : FuncData} (F : Fun K "numbered" "numbered" s_numbered f fd) (T : Txt K mg) (h_placeof : Has P w K mg base 2 "place_of" ["deed"] (sp_placeof K)) : FnOk P w K mg base CX0 3 f fd ["hand"] (sp_numbered K) := by
  refine F.ok (k := 2) sc_numbered (fun vs H Q E h => ?_) (fun cdv A outer s H vs Q E hr h => ?_)
  · obtain ⟨a, ds, rfl, _⟩ := h
    rfl
  · obtain ⟨a, ds, rfl, hH, hn, q⟩ := h
    refine ⟨_, (pss_cons (ps_set (i := 1) sc_numbered.nd rfl (Or.inl rfl) (pe_lst pa_nil))
      (pss_cons (ps_set (i := 2) sc_numbered.nd rfl (Or.inl rfl) pe_int)
      (pss_cons (ps_for PassesOwn.never rfl (pi_list (pv 0)) (pg_name (i := 3) sc_numbered.nd rfl (Or.inl rfl))
      (pss_cons (ps_expr (pe_bm PySem.F.plainAttrs_list PySem.F.slot_list_append PySem.F.type_list_append mt_append (pv 1) (pa_cons (pe_tup (pa_cons (pv 2) (pa_cons (pv 3) pa_nil))) pa_nil)))
      (pss_one (ps_if (pt_cmpR op_notN (pe_fn h_placeof (hr.mono (by decide)) (pa_cons (pv 3) pa_nil)) pe_non (nomark _))
      (pss_one (ps_aug (i := 2) sc_numbered.nd rfl (Or.inl rfl) pe_int ip_add))
      pss_nil))))
      (pss_one (ps_ret (pv 1)))))), ?_⟩
    refine ⟨by decide, fun f hf => ⟨_, rfl, a, rfl, ⟨_, (Same.new hf).seq hH.l⟩, for_list (xs := ds.map fun x => V.ref x.a) (fun i σ H' => Ex_2_5 (fun (ts : List Addr) (v : Option V) => Same H H') (fun ts v => H' f = some (.lst (ts.map V.ref))) (fun ts v => ts.length = i) (fun ts v => (∀ (j : Nat) (t : Addr) (x : DD), ts[j]? = some t → ds[j]? = some x → H' t = some (.tup [.int (npts (ds.take j)), .ref x.a]))) (fun ts v => σ = [some (.ref a), some (.ref f), some (.int (npts (ds.take i))), v])) ?_ ?_ ?_ ?_⟩⟩
    · exact ⟨[], none, Same.new hf, upd_same, rfl, (fun j t x e => by simp at e), rfl⟩
    · rintro i σ H' _ ⟨ts, v, s, _⟩
      exact s.seq hH.l
    · rintro i y σ H' hy ⟨ts, v, s, hf', hl, ht, rfl⟩
      obtain ⟨x, hx, rfl⟩ := refs_get hy
      have hi : i < ds.length := (List.getElem?_eq_some_iff.mp hx).1
      have hd := hH.ds x (List.mem_of_getElem? hx)
      refine ⟨_, rfl, .inl ⟨rfl, _, SqL.of hf'⟩, _, rfl, _, rfl, (by show 2 ≤ sizeLine; decide), fun t htn => ?_⟩
      have s1 : Same H' (upd H' t (.tup [.int (npts (ds.take i)), .ref x.a])) := Same.new htn
      have s2 : Same H (upd (upd H' t (.tup [.int (npts (ds.take i)), .ref x.a])) f (.lst (ts.map V.ref ++ [.ref t]))) := Same.at hf (s.trans s1)
      have nf : t ≠ f := Ne.symm (ne_of_none hf' htn)
      have ht' : ∀ (j : Nat) t' x', (ts ++ [t])[j]? = some t' → ds[j]? = some x' → (upd (upd H' t (.tup [.int (npts (ds.take i)), .ref x.a])) f (.lst (ts.map V.ref ++ [.ref t]))) t' = some (.tup [.int (npts (ds.take j)), .ref x'.a]) := fun j t' x' e1 e2 => by
        by_cases c : j < ts.length
        · rw [List.getElem?_append_left c] at e1
          have g := ht j t' x' e1 e2
          rw [upd_ne (ne_of g hf' (by intro z; cases z)), upd_ne (ne_of_none g htn)]
          exact g
        · have e3 : j = ts.length := by
            have := (List.getElem?_eq_some_iff.mp e1).1
            rw [List.length_append, List.length_cons, List.length_nil] at this
            omega
          subst e3
          rw [List.getElem?_append_right (Nat.le_refl _), Nat.sub_self] at e1
          cases e1
          rw [hl, hx] at e2
          cases e2
          rw [upd_ne nf, upd_same, hl]
      have hz : (ts.map V.ref).length < sizeLine := by rw [List.length_map]; exact small1000 (by omega)
      refine ⟨f, _, _, rfl, rfl, s1 _ _ hf', hz, ?_⟩
      have e := ptsOf_take_succ hx
      refine ⟨_, rfl, x.a, x.d, rfl, (hd.same s2).t, fun H3 s3 => ?_⟩
      by_cases c : pt x.d = true
      · obtain ⟨z, z1, z2⟩ := place_spot c
        rw [z2]
        refine ⟨rfl, _, rfl, ifNt (fun z => nomatch z) ⟨_, rfl, _, _, rfl, rfl, ts ++ [t], some (.ref x.a), s2.trans s3, by rw [s3 _ _ upd_same, List.map_append]; rfl, by rw [List.length_append, hl]; rfl, fun j t' x' e1 e2 => s3 _ _ (ht' j t' x' e1 e2), ?_⟩⟩
        have e2 : (npts (ds.take (i + 1)) : Int) = (npts (ds.take i) : Int) + 1 := by
          unfold npts
          rw [e, if_pos c, List.length_append]
          rfl
        rw [e2]; rfl
      · have c' : pt x.d = false := by simpa using c
        rw [place_none c']
        refine ⟨rfl, _, rfl, ifNf rfl ⟨ts ++ [t], some (.ref x.a), s2.trans s3, by rw [s3 _ _ upd_same, List.map_append]; rfl, by rw [List.length_append, hl]; rfl, fun j t' x' e1 e2 => s3 _ _ (ht' j t' x' e1 e2), ?_⟩⟩
        have e2 : (npts (ds.take (i + 1)) : Int) = (npts (ds.take i) : Int) := by
          unfold npts
          rw [e, if_neg c, List.append_nil]
        rw [e2]; rfl
    · rintro σ H' ⟨ts, v, s, hf', hl, ht, rfl⟩
      rw [List.length_map] at hl
      exact ⟨_, rfl, q f ts H' s hf hf' hl ht⟩
theorem sc_gaps : FnScope ["program"] ["program"] (defScope s_gaps) := ⟨rfl, rfl, rfl, by decide +kernel, rfl, by decide +kernel, by decide +kernel⟩
theorem ok_gaps {f : Addr} {fd : FuncData} (F : Fun K "gaps" "gaps" s_gaps f fd) (T : Txt K mg) (h_points : Has P w K mg base 3 "points" ["program"] (sp_points K)) : FnOk P w K mg base CX0 4 f fd ["program"] (sp_gaps K) := by
  refine F.ok (k := 3) sc_gaps (fun vs H Q E h => ?_) (fun cdv A outer s H vs Q E hr h => ?_)
  · obtain ⟨p, hs, S, C, rfl, _⟩ := h
    rfl
  · obtain ⟨p, hs, S, C, rfl, hP, G, q⟩ := h
    refine ⟨_, (pss_one (ps_ret (pe_comp (Nc := ["point"]) (nt := 1) (js := []) rfl ⟨rfl, rfl, rfl, rfl, .nil, rfl, ⟨["point"], [], rfl, rfl, .nil⟩⟩ (pi_list (pe_fn h_points (hr.mono (by decide)) (pa_cons (pv 0) pa_nil))) (fun C s3 H3 fp pins => ⟨(pg_name (i := 0) (show (["point"] : List Str).Nodup by decide +kernel) rfl (Or.inl rfl)), (pts_one (pt_cmpR op_gt (pe_ix (show IxR _ (rIxT K) from ix_tup) (pv 0) pe_int (fun _ _ => rfl)) pe_int (nomark _))), (pv 0)⟩)))), ?_⟩
    refine ⟨_, rfl, p, hs, S, C, rfl, hP, G, fun l ps H1 s1 nl hl hp => ?_⟩
    refine ⟨l, rfl, ⟨_, SqL.of hl⟩, fun D hD => ?_⟩
    have x1 : ps.length = (ptsTo hs hs.length).length := hp.len
    have x2 := ptsTo_len G hs.length
    have x3 := G.nh
    refine comp_list (xs := ps.map fun q => V.ref q.1) (fun i σ ys H' => Ex_2_6 (fun (qs : List TK) (v : Option V) => Same H1 H') (fun qs v => H' D = some (.lst ys)) (fun qs v => ys = (qs.map fun q => V.ref q.1)) (fun qs v => PtsAt H' qs (((ptsTo hs hs.length).take i).filter isGap)) (fun qs v => qs.length ≤ i) (fun qs v => σ = [v])) ?_ ?_ ?_ ?_ ?_
    · exact ⟨[], none, Same.new hD, upd_same, rfl, PtsAt.nil, Nat.le_refl _, rfl⟩
    · rintro i σ ys H' hi ⟨qs, v, s, hD', rfl, hq, hql, rfl⟩
      exact ⟨s.seq (SqL.of hl), hD', by rw [List.length_map]; exact hql⟩
    · rw [List.length_map]; exact Nat.le_of_lt (small1000 (by omega))
    · rintro i y σ ys H' hy ⟨qs, v, s, hD', rfl, hq, hql, rfl⟩
      obtain ⟨o, ho, rfl⟩ := refs_get hy
      have hi : i < (ptsTo hs hs.length).length := by rw [← x1]; exact (List.getElem?_eq_some_iff.mp ho).1
      have ez : (ptsTo hs hs.length)[i]? = some (ptsTo hs hs.length)[i] := List.getElem?_eq_getElem hi
      generalize (ptsTo hs hs.length)[i] = z at ez
      have ek : o.2 = pk z := by
        have a1 : (ps.map (·.2))[i]? = some o.2 := by rw [List.getElem?_map, ho]; rfl
        rw [hp.eq, List.getElem?_map, ez] at a1
        exact (Option.some.inj a1).symm
      have hoT : H' o.1 = some (.tup ((pk z).map kV)) := by rw [← ek]; exact s _ _ (hp.at_ o (List.mem_of_getElem? ho))
      have et : ((ptsTo hs hs.length).take (i + 1)).filter isGap = ((ptsTo hs hs.length).take i).filter isGap ++ (if isGap z = true then [z] else []) := by
        rw [List.take_add_one, ez, List.filter_append]
        congr 1
        by_cases c : isGap z = true
        · rw [if_pos c]; simp [c]
        · rw [if_neg c]; simp [c]
      refine ⟨_, rfl, o.1, _, _, _, rfl, rfl, SqT.of hoT, atI_nat (j := 1) rfl, _, _, rfl, rfl, _, rfl, ite2 (fun c => ?_) (fun c => ?_)⟩
      · refine ⟨_, rfl, hD', qs ++ [(o.1, pk z)], _, Same.at hD s, upd_same, by rw [List.map_append]; rfl, ?_, by rw [List.length_append]; exact Nat.succ_le_succ hql, rfl⟩
        rw [et, if_pos (show isGap z = true from c)]
        exact (hq.snoc hoT).lset hD'
      · refine ⟨qs, _, s, hD', rfl, ?_, by omega, rfl⟩
        rw [et, if_neg (show ¬ isGap z = true from c), List.append_nil]
        exact hq
    · rintro σ ys H' ⟨qs, v, s, hD', rfl, hq, hql, rfl⟩
      rw [List.length_map, x1, List.take_of_length_le (Nat.le_refl _), all_gaps] at hq
      exact q D qs H' (s1.trans s) (s1.free hD) hD' hq
theorem sc_fencedhand : FnScope ["h", "hand", "words", "deeds", "k", "deed"] ["h", "hand", "words"] (defScope s_fencedhand) := ⟨rfl, rfl, rfl, by decide +kernel, rfl, by decide +kernel, by decide +kernel⟩
theorem ok_fencedhand {f : Addr} {fd : FuncData} (F : Fun K "fenced_hand" "fenced_hand" s_fencedhand f fd) (T : Txt K mg) (h_numbered : Has P w K mg base 3 "numbered" ["hand"] (sp_numbered K)) (h_placeof : Has P w K mg base 2 "place_of" ["deed"] (sp_placeof K)) : FnOk P w K mg base CX0 4 f fd ["h", "hand", "words"] (sp_fencedhand K) := by
  refine F.ok (k := 3) sc_fencedhand (fun vs H Q E h => ?_) (fun cdv A outer s H vs Q E hr h => ?_)
  · obtain ⟨n, a, d, ds, zs, rfl, _⟩ := h
    rfl
  · obtain ⟨n, a, d, ds, zs, rfl, hH, h40, hd, nd, q⟩ := h
    have hu := hu_of hr
    refine ⟨_, (pss_cons (ps_set (i := 3) sc_fencedhand.nd rfl (Or.inl rfl) (pe_lst pa_nil))
      (pss_cons (ps_for PassesOwn.never rfl (pi_list (pe_fn h_numbered (hr.mono (by decide)) (pa_cons (pv 1) pa_nil))) (pg_tup rfl (pgs_cons (pg_name (i := 4) sc_fencedhand.nd rfl (Or.inl rfl)) (pgs_cons (pg_name (i := 5) sc_fencedhand.nd rfl (Or.inl rfl)) pgs_nil)))
      (pss_cut (ps_if (PW.pt (pw_and (pt_cmpR op_notN (pe_fn h_placeof (hr.mono (by decide)) (pa_cons (pv 5) pa_nil)) pe_non (nomark _)) (pw_and1 (pt_cmp (pc_din hu (pe_tup (pa_cons (pv 0) (pa_cons (pv 4) pa_nil))) (pv 2))))))
      (pss_one (ps_expr (pe_bm PySem.F.plainAttrs_list PySem.F.slot_list_append PySem.F.type_list_append mt_append (pv 3) (pa_cons (pe_tup (pa_cons (pe_dget hu (pv 2) (pe_tup (pa_cons (pv 0) (pa_cons (pv 4) pa_nil))) (fun _ _ => rfl)) (pa_cons pe_non pa_nil))) pa_nil))))
      pss_nil)
      (pss_one (ps_expr (pe_bm PySem.F.plainAttrs_list PySem.F.slot_list_append PySem.F.type_list_append mt_append (pv 3) (pa_cons (pv 5) pa_nil))))))
      (pss_one (ps_ret (pv 3))))), ?_⟩
    refine ⟨by decide, fun f hf => ?_⟩
    have sf : Same H (upd H f (.lst [])) := Same.new hf
    refine ⟨_, rfl, a, ds, rfl, hH.same sf, h40, fun l ts H1 s1 nl hl htl ht => ?_⟩
    have s01 := sf.trans s1
    have hf1 : H1 f = some (.lst []) := s1 _ _ upd_same
    have nlf := (upd_none nl).1
    refine ⟨l, rfl, ⟨_, SqL.of hl⟩, for_list (xs := ts.map V.ref) (fun i σ H' => Ex_3_5 (fun (us : List V) (v4 v5 : Option V) => SameEx [f] H1 H') (fun us v4 v5 => H' f = some (.lst us)) (fun us v4 v5 => ItsAt H' us (itemsTo zs n ds i)) (fun us v4 v5 => us.length ≤ 2 * i) (fun us v4 v5 => σ = [some (.int n), some (.ref a), some (.ref d), some (.ref f), v4, v5])) ?_ ?_ ?_ ?_⟩
    · exact ⟨[], none, none, fun b u _ e => e, hf1, ItsAt.nil, Nat.le_refl _, rfl⟩
    · rintro i σ H' _ ⟨us, v4, v5, ex, _⟩
      exact ex.seq (fun z => nlf (List.mem_singleton.mp z)) (SqL.of hl)
    · rintro i y σ H' hy ⟨us, v4, v5, ex, hf', hv, hvl, rfl⟩
      obtain ⟨t, htt, rfl⟩ := refs_get hy
      have hi : i < ds.length := by rw [← htl]; exact (List.getElem?_eq_some_iff.mp htt).1
      have hx : ds[i]? = some ds[i] := List.getElem?_eq_getElem hi
      generalize ds[i] = x at hx
      have tt1 := ht i t x htt hx
      have tt := ex _ _ (fun z => by rw [List.mem_singleton.mp z, hf1] at tt1; cases tt1) tt1
      have s : Same H H' := fun b u e => ex b u (fun z => by rw [List.mem_singleton.mp z, hf] at e; cases e) (s01 b u e)
      have hxd := (hH.ds x (List.mem_of_getElem? hx)).same s
      have eb : bit zs n ds i = (if pt x.d = true then wordsAt zs ((n : Int), (npts (ds.take i) : Int)) else []) ++ [Sum.inl x.a] := by unfold bit; rw [hx]
      refine ⟨t, _, rfl, SqT.of tt, rfl, _, _, rfl, _, _, rfl, rfl, ?_⟩
      refine ⟨fun σ H3 => ∃ (us : List V), SameEx [f] H1 H3 ∧ H3 f = some (.lst us) ∧ ItsAt H3 us (itemsTo zs n ds i ++ (if pt x.d = true then wordsAt zs ((n : Int), (npts (ds.take i) : Int)) else [])) ∧ us.length ≤ 2 * i + 1 ∧ σ = [some (.int n), some (.ref a), some (.ref d), some (.ref f), some (.int (npts (ds.take i))), some (.ref x.a)], ?_, ?_⟩
      · refine ⟨_, rfl, x.a, x.d, rfl, hxd.t, fun H2 s2 => ?_⟩
        by_cases c : pt x.d = true
        · obtain ⟨pz, _, z2⟩ := place_spot c
          rw [z2]
          refine ⟨rfl, _, rfl, ifNt (fun z => nomatch z) ?_⟩
          refine ⟨_, rfl, _, rfl, (by show 2 ≤ sizeLine; decide), fun t2 ht2 => ?_⟩
          have s3 : Same H2 (upd H2 t2 (.tup [.int n, .int (npts (ds.take i))])) := Same.new ht2
          have k2 : (upd H2 t2 (.tup [.int n, .int (npts (ds.take i))])) t2 = some (.tup ((pk ((n : Int), (npts (ds.take i) : Int))).map kV)) := upd_same
          generalize upd H2 t2 (.tup [.int n, .int (npts (ds.take i))]) = H3 at s3 k2 ⊢
          have s23 := s2.trans s3
          have hd3 := (s.trans s23) _ _ hd
          have g := DGet.t hd3 k2
          by_cases c2 : ∃ z ∈ zs, z.1 = ((n : Int), (npts (ds.take i) : Int))
          · obtain ⟨z, hz, ez⟩ := c2
            rw [← ez, val_word nd hz] at g
            refine ⟨_, rfl, d, _, rfl, g, _, rfl, iteT ?_⟩
            refine ⟨_, rfl, .inl ⟨rfl, _, SqL.of (s23 _ _ hf')⟩, _, rfl, _, rfl, _, rfl, (by show 2 ≤ sizeLine; decide), fun t3 ht3 => ?_⟩
            have s4 : Same H3 (upd H3 t3 (.tup [.int n, .int (npts (ds.take i))])) := Same.new ht3
            have k3 : (upd H3 t3 (.tup [.int n, .int (npts (ds.take i))])) t3 = some (.tup ((pk ((n : Int), (npts (ds.take i) : Int))).map kV)) := upd_same
            generalize upd H3 t3 (.tup [.int n, .int (npts (ds.take i))]) = H4 at s4 k3 ⊢
            have g3 := DGet.t (s4 _ _ hd3) k3
            rw [← ez, val_word nd hz] at g3
            refine ⟨d, _, rfl, g3, (by show 2 ≤ sizeLine; decide), fun t4 ht4 => ?_⟩
            have s5 : Same H' (upd H4 t4 (.tup [.str z.2, .non])) := (s23.trans s4).then ht4
            refine ⟨f, _, _, rfl, rfl, s5 _ _ hf', small1000 (by omega), us ++ [V.ref t4], (ex.then s5).put (List.mem_singleton.mpr rfl), upd_same, ?_, by rw [List.length_append]; show us.length + 1 ≤ _; omega, rfl⟩
            rw [if_pos c, ← ez, words_one nd hz]
            exact ((hv.same s5).append (ItsAt.one (x := Sum.inr z.2) ⟨t4, rfl, upd_same⟩)).lset (s5 _ _ hf')
          · have c3 : ∀ z ∈ zs, z.1 ≠ ((n : Int), (npts (ds.take i) : Int)) := fun z hz e => c2 ⟨z, hz, e⟩
            rw [val_word_none c3] at g
            refine ⟨_, rfl, d, _, rfl, g, _, rfl, iteF ⟨us, ex.then s23, s23 _ _ hf', ?_, by omega, rfl⟩⟩
            rw [if_pos c, words_none c3, List.append_nil]
            exact hv.same s23
        · have c' : pt x.d = false := by simpa using c
          rw [place_none c']
          refine ⟨rfl, _, rfl, ifNf rfl ⟨us, ex.then s2, s2 _ _ hf', ?_, by omega, rfl⟩⟩
          rw [if_neg c, List.append_nil]
          exact hv.same s2
      · rintro σ H3 ⟨us3, ex3, hf3, hv3, hvl3, rfl⟩
        refine ⟨_, rfl, .inl ⟨rfl, _, SqL.of hf3⟩, _, rfl, f, _, _, rfl, rfl, hf3, small1000 (by omega), us3 ++ [V.ref x.a], _, _, ex3.put (List.mem_singleton.mpr rfl), upd_same, ?_, by rw [List.length_append]; show us3.length + 1 ≤ _; omega, rfl⟩
        show ItsAt _ _ (itemsTo zs n ds i ++ bit zs n ds i)
        rw [eb, ← List.append_assoc]
        exact (hv3.append (ItsAt.one (x := Sum.inl x.a) rfl)).lset hf3
    · rintro σ H' ⟨us, v4, v5, ex, hf', hv, hvl, rfl⟩
      rw [List.length_map, htl] at hv
      exact ⟨_, rfl, q f us H' (fun b u e => ex b u (fun z => by rw [List.mem_singleton.mp z, hf] at e; cases e) (s01 b u e)) hf hf' hv⟩
end
end Own


--#dictT
set_option Elab.async false
set_option linter.all false
set_option maxRecDepth 100000
set_option maxHeartbeats 4100000
namespace Own
open PySem L2
theorem putK_new {κ : Type} [DecidableEq κ] {kvs : List (κ × V)} {k : κ} {v : V} (h : ∀ q ∈ kvs, q.1 ≠ k) : putK kvs k v = kvs ++ [(k, v)] := by
  unfold putK
  have e : (kvs.any fun kv => decide (kv.1 = k)) = false := by
    rw [Bool.eq_false_iff]
    intro c
    obtain ⟨kv, hk, he⟩ := List.any_eq_true.mp c
    exact h kv hk (of_decide_eq_true he)
  rw [if_neg (by rw [e]; exact Bool.false_ne_true)]
theorem foldP_nodup {κ : Type} [DecidableEq κ] : ∀ (more kvs : List (κ × V)), ((kvs ++ more).map (·.1)).Nodup → foldP kvs more = kvs ++ more
  | [], kvs, _ => by rw [List.append_nil]; rfl
  | x :: more, kvs, h => by
    have hx : ∀ q ∈ kvs, q.1 ≠ x.1 := fun q hq e => by
      rw [List.map_append] at h
      exact (List.nodup_append.mp h).2.2 q.1 (List.mem_map.mpr ⟨q, hq, rfl⟩) x.1 (List.mem_map.mpr ⟨x, List.mem_cons_self .., rfl⟩) e
    have h : ((kvs ++ [x] ++ more).map (·.1)).Nodup := by rw [List.append_assoc]; exact h
    show foldP (putK kvs x.1 x.2) more = _
    rw [putK_new hx, foldP_nodup more (kvs ++ [x]) h, List.append_assoc]
    rfl
theorem wordK_nodup {zs : List ST} (nd : (zs.map (·.1)).Nodup) : ((wordK zs).map (·.1)).Nodup := by
  have e : (wordK zs).map (·.1) = (zs.map (·.1)).map pk := by unfold wordK; rw [List.map_map, List.map_map]; rfl
  rw [e]
  exact List.Pairwise.map _ (fun a b (hab : a ≠ b) c => hab (pk_inj c)) nd
noncomputable abbrev PW3 := Addr × Addr × List Key × V
structure PairsAt (H : Hp) (qs : List PW3) (zs : List ST) : Prop where
  eq : qs.map (·.2.2) = wordK zs
  at_ : ∀ x ∈ qs, H x.1 = some (.tup [.ref x.2.1, x.2.2.2]) ∧ H x.2.1 = some (.tup (x.2.2.1.map kV))
theorem PairsAt.same {H H' : Hp} {qs : List PW3} {zs : List ST} (s : Same H H') (h : PairsAt H qs zs) : PairsAt H' qs zs := ⟨h.eq, fun x hx => ⟨s _ _ (h.at_ x hx).1, s _ _ (h.at_ x hx).2⟩⟩
theorem PairsAt.lset {H : Hp} {qs : List PW3} {zs : List ST} {l : Addr} {xs ys : List V} (hl : H l = some (.lst xs)) (h : PairsAt H qs zs) : PairsAt (upd H l (.lst ys)) qs zs := ⟨h.eq, fun x hx => by
  obtain ⟨a, b⟩ := h.at_ x hx
  exact ⟨by rw [upd_ne (ne_of a hl (by intro z; cases z))]; exact a, by rw [upd_ne (ne_of b hl (by intro z; cases z))]; exact b⟩⟩
theorem PairsAt.snoc {H : Hp} {qs : List PW3} {zs : List ST} {a b : Addr} {z : ST} (h : PairsAt H qs zs) (h1 : H a = some (.tup [.ref b, .str z.2])) (h2 : H b = some (.tup ((pk z.1).map kV))) : PairsAt H (qs ++ [(a, b, pk z.1, .str z.2)]) (zs ++ [z]) := by
  refine ⟨by rw [List.map_append, h.eq]; unfold wordK; rw [List.map_append]; rfl, fun x hx => ?_⟩
  rcases List.mem_append.mp hx with hx | hx
  · exact h.at_ x hx
  · rw [List.mem_singleton.mp hx]; exact ⟨h1, h2⟩
inductive Sp_fenced (K : PySem.W.Frag) (vs : List V) (H : Hp) (Q : VK) (E_ : XK) : Prop
  | mk (p : Addr) (l : Addr) (hs : Hands) (S : List Str) (C : List Str) (ps : List TK) (zs : List ST) (h0_ : vs = [.ref p, .ref l]) (h1_ : IsProg K H p hs) (h2_ : Good S C hs) (h3_ : SqL K H l (ps.map fun q => V.ref q.1)) (h4_ : StAt H ps zs) (h5_ : StOk (gapsTo hs hs.length) zs) (h6_ : zs.length ≤ 40) (h7_ : ∀ (f : Addr) (as : List Addr) (rows : List (List V)) (H' : Hp), Same H H' → H f = none → StopsAt H' f as rows → as.length = hs.length → (∀ b ∈ as, H b = none) → as.Nodup → f ∉ as → (∀ (i : Nat) vs, rows[i]? = some vs → ItsAt H' vs (itemsTo zs i (handAt hs i) (handAt hs i).length)) → Q (.ref f) H') : Sp_fenced K vs H Q E_
noncomputable def sp_fenced (K : PySem.W.Frag) : Sp := Sp_fenced K
section
variable {P : Program} {w : World} {K : PySem.W.Frag} {mg : Str → Option Value} {base : Heap}
theorem sc_fenced : FnScope ["program", "some", "words", "known"] ["program", "some"] (defScope s_fenced) := ⟨rfl, rfl, rfl, by decide +kernel, rfl, by decide +kernel, by decide +kernel⟩
theorem ok_fenced {f : Addr} {fd : FuncData} (F : Fun K "fenced" "fenced" s_fenced f fd) (T : Txt K mg) (h_gaps : Has P w K mg base 4 "gaps" ["program"] (sp_gaps K)) (h_fencedhand : Has P w K mg base 4 "fenced_hand" ["h", "hand", "words"] (sp_fencedhand K)) : FnOk P w K mg base CX0 5 f fd ["program", "some"] (sp_fenced K) := by
  refine F.ok (k := 4) sc_fenced (fun vs H Q E h => ?_) (fun cdv A outer s H vs Q E hr h => ?_)
  · obtain ⟨p, l, hs, S, C, ps, zs, rfl, _⟩ := h
    rfl
  · obtain ⟨p, l, hs, S, C, ps, zs, rfl, hP, G, hl, hst, hok, hz40, q⟩ := h
    have hu := hu_of hr
    have hu4 := hu_4 hr
    refine ⟨_, (pss_cons (ps_set (i := 2) sc_fenced.nd rfl (Or.inr rfl) (pe_callTy (call_dict_pairsT rfl hu4) rfl T.n_dict bt_dict (pa_cons (pe_comp (Nc := ["h", "k", "word"]) (nt := 3) (js := []) rfl ⟨rfl, rfl, rfl, rfl, .nil, rfl, ⟨["h", "k", "word"], [], rfl, rfl, .nil⟩⟩ (pi_list (pv 1)) (fun C s3 H3 fp pins => ⟨(pg_tupK (K := K) 3 rfl rfl (pgs_cons (pg_name (i := 0) (show (["h", "k", "word"] : List Str).Nodup by decide +kernel) rfl (Or.inl rfl) (hf := Or.inr rfl)) (pgs_cons (pg_name (i := 1) (show (["h", "k", "word"] : List Str).Nodup by decide +kernel) rfl (Or.inl rfl) (hf := Or.inr rfl)) (pgs_cons (pg_name (i := 2) (show (["h", "k", "word"] : List Str).Nodup by decide +kernel) rfl (Or.inl rfl) (hf := Or.inr rfl)) pgs_nil))) rfl rfl), pts_nil, (pe_tup (pa_cons (pe_tup (pa_cons (pv 0) (pa_cons (pv 1) pa_nil))) (pa_cons (pv 2) pa_nil)))⟩)) pa_nil)))
      (pss_cons (ps_set (i := 3) sc_fenced.nd rfl (Or.inr rfl) (pe_fn h_gaps (hr.mono (by decide)) (pa_cons (pv 0) pa_nil)))
      (pss_cons (ps_if (pt_val (pe_callB (call_any_bools rfl) rfl T.n_any bt_any (pa_cons (pe_thaw (pe_comp (Nc := ["gap", "known"]) (nt := 1) (js := [3]) rfl ⟨rfl, rfl, rfl, rfl, (.cons rfl .nil), rfl, ⟨["gap"], ["known"], rfl, rfl, (.cons rfl rfl rfl .nil)⟩⟩ (pi_keys (pv 2)) (fun C s3 H3 fp pins => ⟨(pg_name (i := 0) (show (["gap", "known"] : List Str).Nodup by decide +kernel) rfl (Or.inl rfl)), pts_nil, (pe_cmpR (op_notInTK (K := K) rfl (hu_deep hr)) (pv 0) (pv 1) (by with_unfolding_all rfl))⟩))) pa_nil)))
      (pss_one ps_never)
      pss_nil)
      (pss_cons (ps_if (pt_cmpR op_ne (pe_callB call_lenT rfl T.n_len bt_len (pa_cons (pv 2) pa_nil)) (pe_callB call_len_seq rfl T.n_len bt_len (pa_cons (pv 1) pa_nil)) (nomark _))
      (pss_one ps_never)
      pss_nil)
      (pss_one (ps_ret (pe_comp (Nc := ["h", "hand", "words"]) (nt := 2) (js := [2]) rfl ⟨rfl, rfl, rfl, rfl, (.cons rfl .nil), rfl, ⟨["h", "hand"], ["words"], rfl, rfl, (.cons rfl rfl rfl .nil)⟩⟩ (pi_enum rfl T.n_enumerate (pa_cons (pv 0) pa_nil)) (fun C s3 H3 fp pins => ⟨(pg_tupK (K := K) 2 rfl rfl (pgs_cons (pg_name (i := 0) (show (["h", "hand", "words"] : List Str).Nodup by decide +kernel) rfl (Or.inl rfl) (hf := Or.inr rfl)) (pgs_cons (pg_name (i := 1) (show (["h", "hand", "words"] : List Str).Nodup by decide +kernel) rfl (Or.inl rfl) (hf := Or.inr rfl)) pgs_nil)) rfl rfl), pts_nil, (pe_fn h_fencedhand (hr.mono (by decide)) (pa_cons (pv 0) (pa_cons (pv 1) (pa_cons (pv 2) pa_nil))))⟩)))))))), ?_⟩
    have hlz := hst.len
    have hn6 := G.nh
    refine ⟨_, rfl, l, rfl, ⟨_, hl⟩, fun D hD => ?_⟩
    refine comp_list (xs := ps.map fun q => V.ref q.1) (fun i σ ys H' => Ex_4_6 (fun (qs : List PW3) (v0 v1 v2 : Option V) => Same H H') (fun qs v0 v1 v2 => H' D = some (.lst ys)) (fun qs v0 v1 v2 => ys = (qs.map fun x => V.ref x.1)) (fun qs v0 v1 v2 => PairsAt H' qs (zs.take i)) (fun qs v0 v1 v2 => qs.length = i) (fun qs v0 v1 v2 => σ = [v0, v1, v2])) ?_ ?_ ?_ ?_ ?_
    · exact ⟨[], none, none, none, Same.new hD, upd_same, rfl, ⟨rfl, fun x hx => nomatch hx⟩, rfl, rfl⟩
    · rintro i σ ys H' hi ⟨qs, v0, v1, v2, s, hD', rfl, hq, hql, rfl⟩
      exact ⟨s.seq hl, hD', by rw [List.length_map]; omega⟩
    · rw [List.length_map]; exact Nat.le_of_lt (small1000 (by omega))
    · rintro i y σ ys H' hy ⟨qs, v0, v1, v2, s, hD', rfl, hq, hql, rfl⟩
      obtain ⟨o, ho, rfl⟩ := refs_get hy
      have hi : i < zs.length := by rw [← hlz]; exact (List.getElem?_eq_some_iff.mp ho).1
      have ez : zs[i]? = some zs[i] := List.getElem?_eq_getElem hi
      generalize zs[i] = z at ez
      have ek : o.2 = sk z := by
        have a1 : (ps.map (·.2))[i]? = some o.2 := by rw [List.getElem?_map, ho]; rfl
        rw [hst.eq, List.getElem?_map, ez] at a1
        exact (Option.some.inj a1).symm
      have hoT : H' o.1 = some (.tup [.int z.1.1, .int z.1.2, .str z.2]) := by
        have := s _ _ (hst.at_ o (List.mem_of_getElem? ho))
        rw [ek] at this
        exact this
      refine ⟨o.1, _, rfl, SqT.of hoT, rfl, _, _, rfl, _, _, rfl, _, _, rfl, rfl, ?_⟩
      refine ⟨_, rfl, _, rfl, (by show 2 ≤ sizeLine; decide), fun t1 ht1 => ?_⟩
      refine ⟨_, rfl, (by show 2 ≤ sizeLine; decide), fun t2 ht2 => ?_⟩
      have s2 : Same H' (upd (upd H' t1 (.tup [.int z.1.1, .int z.1.2])) t2 (.tup [.ref t1, .str z.2])) := (Same.new ht1).then ht2
      have k1 : (upd (upd H' t1 (.tup [.int z.1.1, .int z.1.2])) t2 (.tup [.ref t1, .str z.2])) t1 = some (.tup ((pk z.1).map kV)) := (Same.new ht2) _ _ upd_same
      have et : zs.take (i + 1) = zs.take i ++ [z] := by rw [List.take_add_one, ez]; rfl
      refine ⟨s2 _ _ hD', qs ++ [(t2, t1, pk z.1, .str z.2)], _, _, _, Same.at hD (s.trans s2), upd_same, by rw [List.map_append]; rfl, ?_, by rw [List.length_append, hql]; rfl, rfl⟩
      rw [et]
      exact ((hq.same s2).snoc upd_same k1).lset (s2 _ _ hD')
    rintro σ ys H1 ⟨qs, v0, v1, v2, s1, hD1, rfl, hq, hql, rfl⟩
    rw [List.length_map] at hql
    rw [List.length_map, hlz, List.take_of_length_le (Nat.le_refl _)] at hq
    refine ⟨D, qs, rfl, SqL.of hD1, by omega, fun x hx => ⟨SqT.of (hq.at_ x hx).1, (hq.at_ x hx).2⟩, fun d hd => ?_⟩
    have ew : foldP [] (qs.map (·.2.2)) = wordK zs := by
      rw [hq.eq, foldP_nodup _ _ (by rw [List.nil_append]; exact wordK_nodup hok.nd), List.nil_append]
    rw [ew]
    have s2 : Same H1 (upd H1 d (.dT (wordK zs))) := Same.new hd
    have hd2 : (upd H1 d (.dT (wordK zs))) d = some (.dT (wordK zs)) := upd_same
    generalize upd H1 d (.dT (wordK zs)) = H2 at s2 hd2 ⊢
    have s02 := s1.trans s2
    refine ⟨_, rfl, p, hs, S, C, rfl, hP.same s02, G, fun g gps H3 s3 ng hg hgp => ?_⟩
    have hgp : PtsAt H3 gps (gapsTo hs hs.length) := hgp
    have hd3 := s3 _ _ hd2
    have s03 := s02.trans s3
    have hwl : (wordK zs).length = zs.length := List.length_map ..
    refine ⟨d, wordK zs, hd3, _, rfl, d, wordK zs, rfl, hd3, fun ob D2 hD2 => ?_⟩
    obtain ⟨nDd, hD20⟩ := upd_none hD2
    have fz : ∀ {b : Addr} {u : HO} {H' : Hp}, Same (upd H3 d (.frz ob (.dT (wordK zs)))) H' → H3 b = some u → b ≠ d → H' b = some u := fun s e hb => s _ _ (by rw [upd_ne hb]; exact e)
    have fin : ∀ {H' : Hp}, Same (upd H3 d (.frz ob (.dT (wordK zs)))) H' → Same H3 (upd H' d (.dT (wordK zs))) := fun s b u e => by
      by_cases c : b = d
      · subst c; rw [upd_same, ← hd3]; exact e
      · rw [upd_ne c]; exact fz s e c
    refine comp_keys (fun i σ ys H' => Ex_2_6 (fun (bs : List Bool) (v : Option V) => Same (upd H3 d (.frz ob (.dT (wordK zs)))) H') (fun bs v => H' D2 = some (.lst ys)) (fun bs v => ys = bs.map V.bl) (fun bs v => (∀ b ∈ bs, b = false)) (fun bs v => bs.length = i) (fun bs v => σ = [v, some (.ref g)])) ?_ ?_ ?_ ?_ ?_
    · exact ⟨[], none, Same.new hD2, upd_same, rfl, (fun b hb => nomatch hb), rfl, rfl⟩
    · rintro i σ ys H' hi ⟨bs, v, s, hD', rfl, hb, hbl, rfl⟩
      exact ⟨s _ _ upd_same, hD', by rw [List.length_map]; omega⟩
    · rw [hwl]; exact Nat.le_of_lt (small1000 (by omega))
    · rintro i a k x σ ys H' hk ha ⟨bs, v, s, hD', rfl, hb, hbl, rfl⟩
      obtain ⟨z, hz, ez⟩ : ∃ z ∈ zs, (pk z.1, V.str z.2) = (k, x) := List.mem_map.mp (List.mem_of_getElem? hk)
      cases ez
      have ng' : g ≠ d := fun e => by rw [e, hd2] at ng; cases ng
      have tk : TKs K H' g gps := ⟨SqL.of (fz s hg ng'), fun r hr => SqT.of (fz s (hgp.at_ r hr) (fun e => by have := hgp.at_ r hr; rw [e, hd3] at this; cases this))⟩
      have ea : (gps.any fun r => decide (r.2 = pk z.1)) = true := by
        have hm : pk z.1 ∈ gps.map (·.2) := by rw [hgp.eq]; exact List.mem_map.mpr ⟨z.1, hok.sub z hz, rfl⟩
        obtain ⟨r, hr, er⟩ := List.mem_map.mp hm
        exact List.any_eq_true.mpr ⟨r, hr, decide_eq_true er⟩
      refine ⟨_, rfl, _, rfl, a, g, pk z.1, gps, rfl, rfl, SqT.of ha, tk, ?_⟩
      rw [ea]
      refine ⟨hD', bs ++ [false], _, Same.at hD2 s, upd_same, by rw [List.map_append]; rfl, fun b hb' => ?_, by rw [List.length_append, hbl]; rfl, rfl⟩
      rcases List.mem_append.mp hb' with h | h
      · exact hb b h
      · exact List.mem_singleton.mp h
    rintro σ ys H4 ⟨bs, v, s4, hD4, rfl, hb, hbl, rfl⟩
    have s34 := fin s4
    refine ⟨ob, s4 _ _ upd_same, D2, bs, rfl, SqL.of (by rw [upd_ne nDd]; exact hD4), ?_⟩
    have eany : bs.any id = false := by
      rw [Bool.eq_false_iff]
      intro c
      obtain ⟨b, hbm, e⟩ := List.any_eq_true.mp c
      rw [hb b hbm] at e
      cases e
    rw [eany]
    refine ⟨_, rfl, iteF ?_⟩
    have hd5 : (upd H4 d (.dT (wordK zs))) d = some (.dT (wordK zs)) := upd_same
    generalize upd H4 d (.dT (wordK zs)) = H5 at s34 hd5 ⊢
    have s05 := s03.trans s34
    refine ⟨_, rfl, d, _, rfl, hd5, _, rfl, l, _, rfl, .inl (s05.seq hl), rfl, _, rfl, ifNf (by rw [hwl, List.length_map, hlz]) ?_⟩
    refine ⟨_, rfl, p, rfl, ⟨_, s05.seq hP.l⟩, fun E hE => ?_⟩
    refine comp_enum (xs := hs.map fun h => V.ref h.1) (fun i σ ys H' => Ex_4_11 (fun (as : List Addr) (rows : List (List V)) (v0 v1 : Option V) => Same H5 H') (fun as rows v0 v1 => H' E = some (.lst ys)) (fun as rows v0 v1 => ys = as.map V.ref) (fun as rows v0 v1 => rows.length = as.length) (fun as rows v0 v1 => (∀ (j : Nat) a us, as[j]? = some a → rows[j]? = some us → H' a = some (.lst us))) (fun as rows v0 v1 => as.length = i) (fun as rows v0 v1 => (∀ b ∈ as, H5 b = none)) (fun as rows v0 v1 => as.Nodup) (fun as rows v0 v1 => E ∉ as) (fun as rows v0 v1 => (∀ (j : Nat) us, rows[j]? = some us → ItsAt H' us (itemsTo zs j (handAt hs j) (handAt hs j).length))) (fun as rows v0 v1 => σ = [v0, v1, some (.ref d)])) ?_ ?_ ?_ ?_ ?_
    · exact ⟨[], [], none, none, Same.new hE, upd_same, rfl, rfl, (fun j a us e => by simp at e), rfl, (fun b hb => nomatch hb), List.nodup_nil, (fun c => nomatch c), (fun j us e => by simp at e), rfl⟩
    · rintro i σ ys H' hi ⟨as, rows, v0, v1, s, hE', rfl, hrl, hat, hal, hfr, nd, hEa, hit, rfl⟩
      exact ⟨(s05.trans s).seq hP.l, hE', by rw [List.length_map]; omega⟩
    · rw [List.length_map]; exact Nat.le_of_lt (small1000 (by omega))
    · rintro i y σ ys H' t hy ⟨as, rows, v0, v1, s, hE', rfl, hrl, hat, hal, hfr, nd, hEa, hit, rfl⟩ ht
      obtain ⟨hd', hx, rfl⟩ := refs_get hy
      have hi : i < hs.length := (List.getElem?_eq_some_iff.mp hx).1
      have hmem := List.mem_of_getElem? hx
      have st : Same H' (upd H' t (.tup [.int i, .ref hd'.1])) := Same.new ht
      refine ⟨t, _, rfl, SqT.new, rfl, _, _, rfl, _, _, rfl, rfl, ?_⟩
      generalize upd H' t (.tup [.int i, .ref hd'.1]) = H6 at st ⊢
      have s6 := s.trans st
      refine ⟨_, rfl, _, rfl, _, rfl, i, hd'.1, d, hd'.2, zs, rfl, (hP.hs hd' hmem).same (s05.trans s6), G.nd hd' hmem, s6 _ _ hd5, hok.nd, fun b us H7 s7 nb hb hv => ?_⟩
      have hE7 := (st.trans s7) _ _ hE'
      have nbE : b ≠ E := fun e => by rw [e, st _ _ hE'] at nb; cases nb
      have sx : Same H' H7 := st.trans s7
      refine ⟨hE7, as ++ [b], rows ++ [us], _, _, Same.at hE (s.trans sx), upd_same, by rw [List.map_append]; rfl, by rw [List.length_append, List.length_append, hrl]; rfl, fun k a vs e1 e2 => ?_, by rw [List.length_append, hal]; rfl, fun c hc => ?_, nd_snoc nd fun c => ?_, fun c => ?_, fun k vs e => ?_, rfl⟩
      · by_cases ck : k < as.length
        · rw [List.getElem?_append_left ck] at e1
          rw [List.getElem?_append_left (by rw [hrl]; exact ck)] at e2
          rw [upd_ne (fun (z : a = E) => hEa (z ▸ List.mem_of_getElem? e1))]
          exact sx _ _ (hat k a vs e1 e2)
        · rw [List.getElem?_append_right (by omega)] at e1
          rw [List.getElem?_append_right (by rw [hrl]; omega), hrl] at e2
          have e3 : k - as.length = 0 := by
            have := (List.getElem?_eq_some_iff.mp e1).1
            rw [List.length_cons, List.length_nil] at this
            omega
          rw [e3] at e1 e2
          cases e1
          cases e2
          rw [upd_ne nbE]
          exact hb
      · rcases List.mem_append.mp hc with hc | hc
        · exact hfr c hc
        · rw [List.mem_singleton.mp hc]; exact s6.free nb
      · obtain ⟨k, ek⟩ := List.getElem?_of_mem c
        have hk : k < rows.length := by rw [hrl]; exact (List.getElem?_eq_some_iff.mp ek).1
        have := st _ _ (hat k b rows[k] ek (List.getElem?_eq_getElem hk))
        rw [nb] at this
        cases this
      · rcases List.mem_append.mp c with c | c
        · exact hEa c
        · exact nbE (List.mem_singleton.mp c).symm
      · by_cases ck : k < rows.length
        · rw [List.getElem?_append_left ck] at e
          exact ((hit k vs e).same sx).lset hE7
        · rw [List.getElem?_append_right (by omega)] at e
          have e3 : k - rows.length = 0 := by
            have := (List.getElem?_eq_some_iff.mp e).1
            rw [List.length_cons, List.length_nil] at this
            omega
          have ek : k = i := by omega
          rw [e3] at e
          cases e
          rw [ek, handAt_of hx]
          exact hv.lset hE7
    · rintro σ ys H' ⟨as, rows, v0, v1, s, hE', rfl, hrl, hat, hal, hfr, nd, hEa, hit, rfl⟩
      rw [List.length_map] at hal
      exact q E as rows H' (s05.trans s) (s05.free hE) ⟨hE', hrl, hat⟩ hal (fun b hb => s05.free (hfr b hb)) nd hEa hit
end
end Own


--#dictT
set_option Elab.async false
set_option linter.all false
set_option maxRecDepth 100000
set_option maxHeartbeats 4100000
namespace Own
open PySem L2
theorem allT (n : Nat) : (List.range n).all (fun _ => true) = true := by simp
section
variable {K : PySem.W.Frag} {H H' : Hp} {n : Nat} {a b : Addr} {xs ys : List V}
theorem DC.lstT (ha : SqL K H a xs) (hb : SqL K H b ys) (hl : xs.length = ys.length) (h : ∀ (i : Nat) x y, xs[i]? = some x → ys[i]? = some y → DC K H n x y true) : DC K H (n + 1) (.ref a) (.ref b) true := by
  have := DC.lst (fun _ => true) ha hb hl h
  rw [allT] at this
  exact this
theorem DT.lstT (ha : SqL K H a xs) (hb : SqL K H b ys) (hl : xs.length = ys.length) (h : ∀ (i : Nat) x y, xs[i]? = some x → ys[i]? = some y → DC K H 8 x y true) : DT K H a b true := by
  have := DT.lst (fun _ => true) ha hb hl h
  rw [allT] at this
  exact this
theorem DC.tupT (ha : SqT K H a xs) (hb : SqT K H b xs) (h : ∀ v ∈ xs, DC K H n v v true) : DC K H (n + 1) (.ref a) (.ref b) true := by
  have := DC.tup (fun _ => true) ha hb fun i x y hx hy => by
    rw [hx] at hy
    cases hy
    exact h x (List.mem_of_getElem? hx)
  rw [allT, beq_self_eq_true] at this
  exact this
theorem DC.refs {rs : List V} (hr : ∀ v ∈ rs, ∃ q, v = .ref q) (ha : SqL K H a rs) (hb : SqL K H b rs) : DC K H (n + 1) (.ref a) (.ref b) true := by
  refine DC.lstT ha hb rfl fun i x y hx hy => ?_
  rw [hx] at hy
  cases hy
  obtain ⟨q, rfl⟩ := hr x (List.mem_of_getElem? hx)
  exact DC.same
theorem its_eq {us vs : List V} {is : List Itm} (h : ItsAt H us is) (g : ItsAt H vs is) (i : Nat) (x y : V) (hx : us[i]? = some x) (hy : vs[i]? = some y) : DC K H (n + 1) x y true := by
  have hi : i < is.length := by rw [← h.len]; exact (List.getElem?_eq_some_iff.mp hx).1
  have ez : is[i]? = some is[i] := List.getElem?_eq_getElem hi
  generalize is[i] = z at ez
  have h1 := h.at_ i x z hx ez
  have h2 := g.at_ i y z hy ez
  cases z with
  | inl q =>
    cases (show x = .ref q from h1)
    cases (show y = .ref q from h2)
    exact DC.same
  | inr w =>
    obtain ⟨t, rfl, ht⟩ := h1
    obtain ⟨t2, rfl, ht2⟩ := h2
    refine DC.tupT (SqT.of ht) (SqT.of ht2) fun v hv => ?_
    rcases List.mem_cons.mp hv with rfl | hv
    · have := DC.flat (K := K) (H := H) (n := n) (x := .str w) (y := .str w) rfl rfl
      rw [show eqV (.str w) (.str w) = true from beq_self_eq_true w] at this
      exact this
    · rw [List.mem_singleton.mp hv]
      exact DC.flat (K := K) (H := H) (n := n) (x := .non) (y := .non) rfl rfl
end
theorem refs_are {α : Type} (f : α → Addr) (l : List α) : ∀ v ∈ l.map (fun x => V.ref (f x)), ∃ q, v = .ref q := fun v hv => by
  obtain ⟨x, _, rfl⟩ := List.mem_map.mp hv
  exact ⟨_, rfl⟩
structure RowsOf (H : Hp) (f : Addr) (as : List Addr) (F : Nat → List Itm) : Prop where
  l : H f = some (.lst (as.map V.ref))
  rows : ∀ (i : Nat) b, as[i]? = some b → ∃ us, H b = some (.lst us) ∧ ItsAt H us (F i)
section
variable {K : PySem.W.Frag} {H H' : Hp} {f e : Addr} {as bs : List Addr} {F : Nat → List Itm}
theorem RowsOf.of {rows : List (List V)} (h : StopsAt H f as rows) (hit : ∀ (i : Nat) vs, rows[i]? = some vs → ItsAt H vs (F i)) : RowsOf H f as F := ⟨h.l, fun i b hb => by
  have hi : i < rows.length := by rw [h.len]; exact (List.getElem?_eq_some_iff.mp hb).1
  have e := List.getElem?_eq_getElem hi
  exact ⟨_, h.at_ i b _ hb e, hit i _ e⟩⟩
theorem RowsOf.same (s : Same H H') (h : RowsOf H f as F) : RowsOf H' f as F := ⟨s _ _ h.l, fun i b hb => let ⟨us, x, y⟩ := h.rows i b hb; ⟨us, s _ _ x, y.same s⟩⟩
theorem RowsOf.lset {c : Addr} {xs ys : List V} (hc : H c = some (.lst xs)) (n1 : c ≠ f) (n2 : c ∉ as) (h : RowsOf H f as F) : RowsOf (upd H c (.lst ys)) f as F := ⟨by rw [upd_ne n1.symm]; exact h.l, fun i b hb => by
  obtain ⟨us, x, y⟩ := h.rows i b hb
  exact ⟨us, by rw [upd_ne (fun (z : b = c) => n2 (z ▸ List.mem_of_getElem? hb))]; exact x, y.lset hc⟩⟩
theorem RowsOf.eq {G : Nat → List Itm} (h : RowsOf H f as F) (g : RowsOf H e bs G) (hl : as.length = bs.length) (hFG : ∀ i, F i = G i) : DT K H f e true := by
  refine DT.lstT (SqL.of h.l) (SqL.of g.l) (by rw [List.length_map, List.length_map]; exact hl) fun i x y hx hy => ?_
  obtain ⟨b, eb, rfl⟩ := refs_get hx
  obtain ⟨c, ec, rfl⟩ := refs_get hy
  obtain ⟨us, h1, h2⟩ := h.rows i b eb
  obtain ⟨vs, g1, g2⟩ := g.rows i c ec
  rw [← hFG i] at g2
  exact DC.lstT (SqL.of h1) (SqL.of g1) (by rw [h2.len, g2.len]) fun k x y hx hy => its_eq h2 g2 k x y hx hy
end
noncomputable def rAddr : V → Addr
  | .ref a => a
  | _ => 0
noncomputable def rowOf (H : Hp) (b : Addr) : List Addr := match H b with
  | some (.lst us) => us.map rAddr
  | _ => []
theorem rowOf_of {H : Hp} {b : Addr} {us : List V} (h : H b = some (.lst us)) : rowOf H b = us.map rAddr := by unfold rowOf; rw [h]
theorem its_refs {H : Hp} {us : List V} {is : List Itm} (h : ItsAt H us is) : (us.map rAddr).map V.ref = us := by
  rw [List.map_map]
  refine (List.map_congr_left fun v hv => ?_).trans (List.map_id us)
  obtain ⟨i, hi⟩ := List.getElem?_of_mem hv
  have hl : i < is.length := by rw [← h.len]; exact (List.getElem?_eq_some_iff.mp hi).1
  have ez : is[i]? = some is[i] := List.getElem?_eq_getElem hl
  generalize is[i] = z at ez
  have := h.at_ i v z hi ez
  cases z with
  | inl q => cases (show v = .ref q from this); rfl
  | inr w => obtain ⟨t, rfl, _⟩ := this; rfl
theorem noBool_deed (d : Deed) : 2 ≤ d.items.length ∧ d.items.length ≤ 5 ∧ noBool d.items := by
  cases d with
  | put x n g => exact ⟨by show 2 ≤ 4; decide, by show 4 ≤ 5; decide, fun v hv => by
      have e : cutV (Deed.put x n g).items (some 1) (some (-1)) = [.str x, .int n] := rfl
      rw [e] at hv
      rcases List.mem_cons.mp hv with rfl | hv
      · exact .inr ⟨_, rfl⟩
      · rw [List.mem_singleton.mp hv]; exact .inl ⟨_, rfl⟩⟩
  | get c x g => exact ⟨by show 2 ≤ 4; decide, by show 4 ≤ 5; decide, fun v hv => by
      have e : cutV (Deed.get c x g).items (some 1) (some (-1)) = [.str c, .str x] := rfl
      rw [e] at hv
      rcases List.mem_cons.mp hv with rfl | hv
      · exact .inr ⟨_, rfl⟩
      · rw [List.mem_singleton.mp hv]; exact .inr ⟨_, rfl⟩⟩
  | swap c x n g => exact ⟨by show 2 ≤ 5; decide, by show 5 ≤ 5; decide, fun v hv => by
      have e : cutV (Deed.swap c x n g).items (some 1) (some (-1)) = [.str c, .str x, .int n] := rfl
      rw [e] at hv
      rcases List.mem_cons.mp hv with rfl | hv
      · exact .inr ⟨_, rfl⟩
      · rcases List.mem_cons.mp hv with rfl | hv
        · exact .inr ⟨_, rfl⟩
        · rw [List.mem_singleton.mp hv]; exact .inl ⟨_, rfl⟩⟩
  | fence g => exact ⟨by show 2 ≤ 2; decide, by show 2 ≤ 5; decide, fun v hv => by
      have e : cutV (Deed.fence g).items (some 1) (some (-1)) = [] := rfl
      rw [e] at hv
      exact nomatch hv⟩
  | bar g => exact ⟨by show 2 ≤ 2; decide, by show 2 ≤ 5; decide, fun v hv => by
      have e : cutV (Deed.bar g).items (some 1) (some (-1)) = [] := rfl
      rw [e] at hv
      exact nomatch hv⟩
theorem bit_len (zs : List ST) (h : Nat) (ds : List DD) (j : Nat) : (bit zs h ds j).length ≤ zs.length + 1 := by
  unfold bit
  cases ds[j]? with
  | none => exact Nat.zero_le _
  | some x =>
    show (_ ++ [_]).length ≤ _
    rw [List.length_append]
    split
    · have := wordsAt_len zs ((h : Int), (npts (ds.take j) : Int))
      show _ + 1 ≤ _
      omega
    · show 0 + 1 ≤ _
      omega
theorem items_len (zs : List ST) (h : Nat) (ds : List DD) : ∀ j, (itemsTo zs h ds j).length ≤ (zs.length + 1) * j
  | 0 => Nat.zero_le _
  | j + 1 => by
    show (itemsTo zs h ds j ++ bit zs h ds j).length ≤ _
    rw [List.length_append, Nat.mul_succ]
    exact Nat.add_le_add (items_len zs h ds j) (bit_len zs h ds j)
theorem items_mem {zs : List ST} {h : Nat} {ds : List DD} {a : Addr} : ∀ {j : Nat}, Sum.inl a ∈ itemsTo zs h ds j → ∃ x ∈ ds, x.a = a
  | 0, m => nomatch m
  | j + 1, m => by
    rcases List.mem_append.mp m with m | m
    · exact items_mem m
    · unfold bit at m
      cases e : ds[j]? with
      | none => rw [e] at m; exact nomatch m
      | some x =>
        rw [e] at m
        rcases List.mem_append.mp m with m | m
        · exfalso
          split at m
          · unfold wordsAt at m
            obtain ⟨z, _, hz⟩ := List.mem_map.mp m
            cases hz
          · exact nomatch m
        · exact ⟨x, List.mem_of_getElem? e, (Sum.inl.inj (List.mem_singleton.mp m)).symm⟩
theorem nodup_rev {α : Type} {l : List α} (h : l.Nodup) : l.reverse.Nodup := (List.reverse_perm l).nodup_iff.mpr h
theorem words_back {zs : List ST} (nd : (zs.map (·.1)).Nodup) (g : Z2) : wordsAt zs.reverse g = wordsAt zs g := by
  have nr : (zs.reverse.map (·.1)).Nodup := by rw [List.map_reverse]; exact nodup_rev nd
  by_cases c : ∃ z ∈ zs, z.1 = g
  · obtain ⟨z, hz, rfl⟩ := c
    rw [words_one nd hz, words_one nr (List.mem_reverse.mpr hz)]
  · have c' : ∀ z ∈ zs, z.1 ≠ g := fun z hz e => c ⟨z, hz, e⟩
    rw [words_none c', words_none fun z hz => c' z (List.mem_reverse.mp hz)]
theorem bit_back {zs : List ST} (nd : (zs.map (·.1)).Nodup) (h : Nat) (ds : List DD) (j : Nat) : bit zs.reverse h ds j = bit zs h ds j := by
  unfold bit
  cases ds[j]? with
  | none => rfl
  | some x => show (if _ then _ else _) ++ _ = (if _ then _ else _) ++ _; rw [words_back nd]
theorem items_back {zs : List ST} (nd : (zs.map (·.1)).Nodup) (h : Nat) (ds : List DD) : ∀ j, itemsTo zs.reverse h ds j = itemsTo zs h ds j
  | 0 => rfl
  | j + 1 => by
    show itemsTo zs.reverse h ds j ++ bit zs.reverse h ds j = _
    rw [items_back nd h ds j, bit_back nd]
    rfl
theorem items_bare (h : Nat) (ds : List DD) : ∀ j, itemsTo [] h ds j = (ds.take j).map fun x => (Sum.inl x.a : Itm)
  | 0 => rfl
  | j + 1 => by
    show itemsTo [] h ds j ++ bit [] h ds j = _
    rw [items_bare h ds j, List.take_add_one, List.map_append]
    congr 1
    unfold bit
    cases ds[j]? with
    | none => rfl
    | some x =>
      show (if pt x.d = true then wordsAt [] _ else []) ++ [Sum.inl x.a] = _
      rw [show wordsAt [] ((h : Int), (npts (ds.take j) : Int)) = [] from rfl, ite_self]
      rfl
theorem StAt.back {H : Hp} {ps : List TK} {zs : List ST} (h : StAt H ps zs) : StAt H ps.reverse zs.reverse := ⟨by rw [List.map_reverse, List.map_reverse, h.eq], fun q hq => h.at_ q (List.mem_reverse.mp hq)⟩
theorem StOk.back {gs : List Z2} {zs : List ST} (h : StOk gs zs) : StOk gs zs.reverse := ⟨by rw [List.map_reverse]; exact nodup_rev h.nd, fun z hz => h.sub z (List.mem_reverse.mp hz), fun z hz => h.wd z (List.mem_reverse.mp hz)⟩
theorem handAt_mem {hs : Hands} {i : Nat} {x : DD} (hx : x ∈ handAt hs i) : ∃ h ∈ hs, x ∈ h.2 := by
  unfold handAt at hx
  cases e : hs[i]? with
  | none => rw [e] at hx; exact nomatch hx
  | some h => rw [e] at hx; exact ⟨h, List.mem_of_getElem? e, hx⟩
theorem handAt_len {S C : List Str} {hs : Hands} (G : Good S C hs) (i : Nat) : (handAt hs i).length ≤ 40 := by
  unfold handAt
  cases e : hs[i]? with
  | none => exact Nat.zero_le _
  | some h => exact G.nd h (List.mem_of_getElem? e)
noncomputable def itemsOf (zs : List ST) (hs : Hands) (i : Nat) : List Itm := itemsTo zs i (handAt hs i) (handAt hs i).length
theorem itemsOf_len {S C : List Str} {zs : List ST} {hs : Hands} (G : Good S C hs) (hz : zs.length ≤ 40) (i : Nat) : (itemsOf zs hs i).length ≤ 1640 := by
  have h1 := items_len zs i (handAt hs i) (handAt hs i).length
  have h2 := handAt_len G i
  have h3 : (zs.length + 1) * (handAt hs i).length ≤ 41 * 40 := Nat.mul_le_mul (by omega) h2
  unfold itemsOf
  omega
theorem RowsOf.alike {K : PySem.W.Frag} {H : Hp} {f p : Addr} {as : List Addr} {zs : List ST} {hs : Hands} {S C : List Str} {F : Nat → List Itm} (h : RowsOf H f as F) (eF : ∀ i, F i = itemsOf zs hs i) (hP : IsProg K H p hs) (G : Good S C hs) (hz : zs.length ≤ 40) : RowsAt K H f as (as.map (rowOf H)) := by
  refine ⟨SqL.of h.l, List.length_map .., fun i b r hb hr => ?_, fun r hr => ?_⟩
  · rw [List.getElem?_map, hb] at hr
    cases hr
    obtain ⟨us, h1, h2⟩ := h.rows i b hb
    rw [rowOf_of h1, its_refs h2]
    exact SqL.of h1
  · obtain ⟨b, hb, rfl⟩ := List.mem_map.mp hr
    obtain ⟨i, hi⟩ := List.getElem?_of_mem hb
    obtain ⟨us, h1, h2⟩ := h.rows i b hi
    rw [rowOf_of h1]
    rw [eF i] at h2
    refine ⟨by rw [List.length_map, h2.len]; exact Nat.le_trans (itemsOf_len G hz i) (by decide), fun t ht => ?_⟩
    obtain ⟨v, hv, rfl⟩ := List.mem_map.mp ht
    obtain ⟨k, hk⟩ := List.getElem?_of_mem hv
    have hl : k < (itemsOf zs hs i).length := by rw [← h2.len]; exact (List.getElem?_eq_some_iff.mp hk).1
    have ez : (itemsOf zs hs i)[k]? = some (itemsOf zs hs i)[k] := List.getElem?_eq_getElem hl
    generalize (itemsOf zs hs i)[k] = z at ez
    have hz' := h2.at_ k v z hk ez
    cases z with
    | inl q =>
      cases (show v = .ref q from hz')
      obtain ⟨x, hx, rfl⟩ := items_mem (List.mem_of_getElem? ez)
      obtain ⟨hd, hh, hxh⟩ := handAt_mem hx
      have := ((hP.hs hd hh).ds x hxh).t
      obtain ⟨n1, n2, n3⟩ := noBool_deed x.d
      exact ⟨_, this, n1, n2, n3⟩
    | inr w =>
      obtain ⟨t, rfl, hT⟩ := hz'
      refine ⟨_, SqT.of hT, by show 2 ≤ 2; decide, by show 2 ≤ 5; decide, fun v hv => ?_⟩
      rw [show cutV [.str w, .non] (some 1) (some (-1)) = [] from rfl] at hv
      exact nomatch hv
theorem cut_lo (as : List Addr) (j : Nat) : cutV (as.map V.ref) none (some (j : Int)) = (as.take j).map V.ref := by
  unfold cutV
  rw [show HT.sIx (as.map V.ref).length 0 none = 0 from rfl, HT.sIx_nat, List.drop_zero, List.length_map, List.map_take, Nat.sub_zero]
  by_cases c : j ≤ as.length
  · rw [Nat.min_eq_left c]
  · rw [Nat.min_eq_right (by omega), List.take_of_length_le (by rw [List.length_map]; omega), List.take_of_length_le (by rw [List.length_map]; omega)]
theorem cut_hi (as : List Addr) (j : Nat) : cutV (as.map V.ref) (some ((j : Int) + 1)) none = (as.drop (j + 1)).map V.ref := by
  unfold cutV
  rw [show HT.sIx (as.map V.ref).length (as.map V.ref).length none = (as.map V.ref).length from rfl, show ((j : Int) + 1) = ((j + 1 : Nat) : Int) from rfl, HT.sIx_nat, List.length_map, List.map_drop]
  by_cases c : j + 1 ≤ as.length
  · rw [Nat.min_eq_left c, List.take_of_length_le (by rw [List.length_drop, List.length_map]; omega)]
  · rw [Nat.min_eq_right (by omega), List.drop_of_length_le (by rw [List.length_map]; omega), List.drop_of_length_le (by rw [List.length_map]; omega), List.take_nil]
theorem skip_get {α : Type} (xs : List α) (j i : Nat) : (xs.take j ++ xs.drop (j + 1))[i]? = if i < j then xs[i]? else xs[i + 1]? := by
  rw [← List.eraseIdx_eq_take_drop_succ, List.getElem?_eraseIdx]
theorem handAt_eq {hs hs' : Hands} (e : hs.map (·.2) = hs'.map (·.2)) (i : Nat) : handAt hs i = handAt hs' i := by
  unfold handAt
  rw [← List.getElem?_map, ← List.getElem?_map, e]
theorem gapsTo_eq {hs hs' : Hands} (e : hs.map (·.2) = hs'.map (·.2)) : ∀ i, gapsTo hs i = gapsTo hs' i
  | 0 => rfl
  | i + 1 => by
    show gapsTo hs i ++ _ = gapsTo hs' i ++ _
    rw [gapsTo_eq e i, handAt_eq e i]
theorem len_eq {hs hs' : Hands} (e : hs.map (·.2) = hs'.map (·.2)) : hs.length = hs'.length := by have := congrArg List.length e; simpa using this
end Own


--#dictT
set_option Elab.async false
set_option linter.all false
set_option maxRecDepth 100000
set_option maxHeartbeats 4100000
namespace Own
open PySem L2
inductive Sp_law (K : PySem.W.Frag) (vs : List V) (H : Hp) (Q : VK) (E_ : XK) : Prop
  | mk (a : Addr) (ns : List Int) (h0_ : vs = [.ref a]) (h1_ : SqL K H a (ns.map V.int)) (h2_ : ns.length ≤ 63) (h3_ : (∀ i ∈ ns, Fair i)) (h4_ : ∀ H', Q (.bl true) H') : Sp_law K vs H Q E_
noncomputable def sp_law (K : PySem.W.Frag) : Sp := Sp_law K
theorem nodup_sub {α : Type} [DecidableEq α] : ∀ {us S : List α}, us.Nodup → (∀ z ∈ us, z ∈ S) → us.length ≤ S.length
  | [], _, _, _ => Nat.zero_le _
  | u :: us, S, nd, h => by
    obtain ⟨n1, n2⟩ := List.nodup_cons.mp nd
    have hu : u ∈ S := h u (List.mem_cons_self ..)
    have ih := nodup_sub (us := us) (S := S.erase u) n2 fun z hz => (List.mem_erase_of_ne (fun (e : z = u) => n1 (e ▸ hz))).mpr (h z (List.mem_cons_of_mem _ hz))
    have hp : 0 < S.length := List.length_pos_of_mem hu
    rw [List.length_erase_of_mem hu] at ih
    rw [List.length_cons]
    omega
section
variable {K : PySem.W.Frag} {H : Hp} {M p N N2 L l : Addr} {hs hs' : Hands} {ps : List TK} {n : Nat}
theorem hands_dc (h1 : IsProg K H M hs') (h2 : IsProg K H p hs) (eh : hs.map (·.2) = hs'.map (·.2)) (i : Nat) (x y : V) (hx : (hs'.map fun h => V.ref h.1)[i]? = some x) (hy : (hs.map fun h => V.ref h.1)[i]? = some y) : DC K H (n + 1) x y true := by
  obtain ⟨h', e1, rfl⟩ := refs_get hx
  obtain ⟨h0, e2, rfl⟩ := refs_get hy
  have ee : h'.2 = h0.2 := by
    have a1 : (hs'.map (·.2))[i]? = some h'.2 := by rw [List.getElem?_map, e1]; rfl
    rw [← eh, List.getElem?_map, e2] at a1
    exact (Option.some.inj a1).symm
  exact DC.refs (refs_are (·.a) h'.2) (h1.hs h' (List.mem_of_getElem? e1)).l (by rw [ee]; exact (h2.hs h0 (List.mem_of_getElem? e2)).l)
theorem progs_dt (h1 : IsProg K H M hs') (h2 : IsProg K H p hs) (eh : hs.map (·.2) = hs'.map (·.2)) : DT K H M p true := DT.lstT h1.l h2.l (by rw [List.length_map, List.length_map]; exact (len_eq eh).symm) (hands_dc h1 h2 eh)
theorem handed_dt (hN : H N = some (.lst [.ref M, .ref L])) (hN2 : H N2 = some (.lst [.ref p, .ref l])) (h1 : IsProg K H M hs') (h2 : IsProg K H p hs) (eh : hs.map (·.2) = hs'.map (·.2)) (hL : H L = some (.lst (ps.map fun q => V.ref q.1))) (hl : H l = some (.lst (ps.map fun q => V.ref q.1))) : DT K H N N2 true := by
  refine DT.lstT (SqL.of hN) (SqL.of hN2) rfl fun i x y hx hy => ?_
  match i, hx, hy with
  | 0, hx, hy =>
    cases hx
    cases hy
    exact DC.lstT h1.l h2.l (by rw [List.length_map, List.length_map]; exact (len_eq eh).symm) (hands_dc h1 h2 eh)
  | 1, hx, hy =>
    cases hx
    cases hy
    exact DC.refs (refs_are (·.1) ps) (SqL.of hL) (SqL.of hl)
  | i + 2, hx, hy => simp at hx
end
section
variable {P : Program} {w : World} {K : PySem.W.Frag} {mg : Str → Option Value} {base : Heap}
theorem sc_law : FnScope ["_law_script", "_law_head", "_law_turn", "_law_many", "_law_program", "_law_some", "_law_handed", "_law_found", "_law_due", "_law_at", "_law_hand", "_law_bare"] ["_law_script"] (defScope s_law) := ⟨rfl, rfl, rfl, by decide +kernel, rfl, by decide +kernel, by decide +kernel⟩
theorem ok_law {f : Addr} {fd : FuncData} (F : Fun K "law" "law" s_law f fd) (T : Txt K mg) (h_Ldraw : Has P w K mg base 1 "_law_draw" ["_law_script", "_law_k"] (sp_Ldraw K)) (h_Llong : Has P w K mg base 3 "_law_long" ["_law_script", "_law_many"] (sp_Llong K)) (h_Lstops : Has P w K mg base 3 "_law_stops" ["_law_program", "_law_script", "_law_start"] (sp_Lstops K)) (h_fenced : Has P w K mg base 5 "fenced" ["program", "some"] (sp_fenced K)) (h_Lstopped : Has P w K mg base 2 "_law_stopped" ["_law_program", "_law_some"] (sp_Lstopped K)) (h_Lalike : Has P w K mg base 1 "_law_alike" ["_law_found", "_law_due"] (sp_Lalike K)) : FnOk P w K mg base CX0 6 f fd ["_law_script"] (sp_law K) := by
  refine F.ok (k := 5) sc_law (fun vs H Q E h => ?_) (fun cdv A outer s H vs Q E hr h => ?_)
  · obtain ⟨a, ns, rfl, _⟩ := h
    rfl
  · obtain ⟨a, ns, rfl, hS, hn, hfair, q⟩ := h
    refine ⟨_, (pss_cons (ps_set (i := 1) sc_law.nd rfl (Or.inl rfl) (pe_fn h_Ldraw (hr.mono (by decide)) (pa_cons (pv 0) (pa_cons pe_int pa_nil))))
      (pss_cons (ps_set (i := 2) sc_law.nd rfl (Or.inl rfl) (pe_op op_mod (pe_op op_mulB (pv 1) pe_int) pe_int))
      (pss_cons (ps_set (i := 3) sc_law.nd rfl (Or.inl rfl) (pe_op op_add pe_int (pe_op op_mod (pv 2) pe_int)))
      (pss_cut (ps_if (pt_cmpR op_eq (pe_op op_mod (pe_op op_fdiv (pv 2) pe_int) pe_int) pe_int (nomark _))
      (pss_one (ps_set (i := 3) sc_law.nd rfl (Or.inl rfl) (pe_op op_add pe_int (pe_op op_mod (pe_op op_fdiv (pv 2) pe_int) pe_int))))
      pss_nil)
      (pss_cut (ps_if (pt_cmpR op_eq (pe_op op_mod (pe_op op_fdiv (pv 2) pe_int) pe_int) pe_int (nomark _))
      (pss_one (ps_set (i := 3) sc_law.nd rfl (Or.inl rfl) (pe_op op_mod (pe_op op_fdiv (pv 2) pe_int) pe_int)))
      pss_nil)
      (pss_cons (ps_set (i := 4) sc_law.nd rfl (Or.inl rfl) (pe_fn h_Llong (hr.mono (by decide)) (pa_cons (pv 0) (pa_cons (pv 3) pa_nil))))
      (pss_cons (ps_set (i := 5) sc_law.nd rfl (Or.inl rfl) (pe_fn h_Lstops (hr.mono (by decide)) (pa_cons (pv 4) (pa_cons (pv 0) (pa_cons (pe_op op_add pe_int (pv 3)) pa_nil)))))
      (pss_cons (ps_set (i := 6) sc_law.nd rfl (Or.inl rfl) (pe_lst (pa_cons (pe_comp (Nc := ["_law_hand"]) (nt := 1) (js := []) rfl ⟨rfl, rfl, rfl, rfl, .nil, rfl, ⟨["_law_hand"], [], rfl, rfl, .nil⟩⟩ (pi_list (pv 4)) (fun C s3 H3 fp pins => ⟨(pg_name (i := 0) (show (["_law_hand"] : List Str).Nodup by decide +kernel) rfl (Or.inl rfl)), pts_nil, (pe_callTy (call_list_ofK (K := K) rfl) rfl T.n_list bt_list (pa_cons (pv 0) pa_nil))⟩)) (pa_cons (pe_callTy call_list_of rfl T.n_list bt_list (pa_cons (pv 5) pa_nil)) pa_nil))))
      (pss_cons (ps_set (i := 7) sc_law.nd rfl (Or.inl rfl) (pe_fn h_fenced (hr.mono (by decide)) (pa_cons (pe_ix ix_list (pv 6) pe_int (fun _ _ => rfl)) (pa_cons (pe_ix ix_list (pv 6) pe_int (fun _ _ => rfl)) pa_nil))))
      (pss_cons (ps_set (i := 8) sc_law.nd rfl (Or.inl rfl) (pe_fn h_Lstopped (hr.mono (by decide)) (pa_cons (pv 4) (pa_cons (pv 5) pa_nil))))
      (pss_cons (ps_if (PW.pt (pw_or (pt_not (pt_val (pe_fn h_Lalike (hr.mono (by decide)) (pa_cons (pv 7) (pa_cons (pv 8) pa_nil))))) (pw_or1 (pt_cmpR (op_neC (hu_deep hr)) (pv 6) (pe_lst (pa_cons (pv 4) (pa_cons (pv 5) pa_nil))) (nomark _)))))
      (pss_one (ps_ret pe_bl))
      pss_nil)
      (pss_cons (ps_set (i := 9) sc_law.nd rfl (Or.inl rfl) (pe_op op_mod (pv 1) (pe_callB call_len_seq rfl T.n_len bt_len (pa_cons (pv 7) pa_nil))))
      (pss_cons (ps_expr (pe_bm PySem.F.plainAttrs_list PySem.F.slot_list_append PySem.F.type_list_append mt_append (pe_ix ix_list (pv 7) (pv 9) (fun _ _ => rfl)) (pa_cons (pe_tup (pa_cons pe_str (pa_cons pe_non pa_nil))) pa_nil)))
      (pss_cons (ps_if (PW.pt (pw_or (pt_cmpR (op_neC (hu_deep hr)) (pe_op op_cat (pe_slice sl_list (pv 7) po_none (po_some (pv 9))) (pe_slice sl_list (pv 7) (po_some (pe_op op_add (pv 9) pe_int)) po_none)) (pe_op op_cat (pe_slice sl_list (pv 8) po_none (po_some (pv 9))) (pe_slice sl_list (pv 8) (po_some (pe_op op_add (pv 9) pe_int)) po_none)) (nomark _)) (pw_or1 (pt_cmpR (op_neC (hu_deep hr)) (pv 6) (pe_lst (pa_cons (pv 4) (pa_cons (pv 5) pa_nil))) (nomark _)))))
      (pss_one (ps_ret pe_bl))
      pss_nil)
      (pss_cons (ps_for PassesOwn.never rfl (pi_list (pv 7)) (pg_name (i := 10) sc_law.nd rfl (Or.inl rfl))
      (pss_one (ps_expr (pe_bm PySem.F.plainAttrs_list PySem.F.slot_list_append PySem.F.type_list_append mt_append (pv 10) (pa_cons (pe_tup (pa_cons pe_str (pa_cons pe_non pa_nil))) pa_nil)))))
      (pss_cons (ps_expr (pe_bm0 PySem.F.plainAttrs_list PySem.F.slot_list_clear PySem.F.type_list_clear mt_clear (pv 7)))
      (pss_cons (ps_if (PW.pt (pw_or (pt_cmpR (op_neC (hu_deep hr)) (pv 6) (pe_lst (pa_cons (pv 4) (pa_cons (pv 5) pa_nil))) (nomark _)) (pw_or1 (pt_not (pt_val (pe_fn h_Lalike (hr.mono (by decide)) (pa_cons (pe_fn h_fenced (hr.mono (by decide)) (pa_cons (pe_ix ix_list (pv 6) pe_int (fun _ _ => rfl)) (pa_cons (pe_back (pv 5) (po_some (pe_un un_neg pe_int))) pa_nil))) (pa_cons (pv 8) pa_nil))))))))
      (pss_one (ps_ret pe_bl))
      pss_nil)
      (pss_cons (ps_set (i := 11) sc_law.nd rfl (Or.inl rfl) (pe_fn h_fenced (hr.mono (by decide)) (pa_cons (pe_ix ix_list (pv 6) pe_int (fun _ _ => rfl)) (pa_cons (pe_lst pa_nil) pa_nil))))
      (pss_cons (ps_if (pt_not (pt_val (pe_fn h_Lalike (hr.mono (by decide)) (pa_cons (pv 11) (pa_cons (pv 4) pa_nil)))))
      (pss_one (ps_ret pe_bl))
      pss_nil)
      (pss_cons (ps_for PassesOwn.never rfl (pi_list (pv 11)) (pg_name (i := 10) sc_law.nd rfl (Or.inl rfl))
      (pss_one (ps_expr (pe_bm PySem.F.plainAttrs_list PySem.F.slot_list_append PySem.F.type_list_append mt_append (pv 10) (pa_cons (pe_tup (pa_cons pe_str (pa_cons pe_non pa_nil))) pa_nil)))))
      (pss_cons (ps_expr (pe_bm0 PySem.F.plainAttrs_list PySem.F.slot_list_clear PySem.F.type_list_clear mt_clear (pe_ix ix_list (pv 6) pe_int (fun _ _ => rfl))))
      (pss_one (ps_ret (pe_and (pe_cmpR (op_eqC (hu_deep hr)) (pe_ix ix_list (pv 6) pe_int (fun _ _ => rfl)) (pv 4) (nomark _)) (pe_one (pe_fn h_Lalike (hr.mono (by decide)) (pa_cons (pe_fn h_fenced (hr.mono (by decide)) (pa_cons (pe_ix ix_list (pv 6) pe_int (fun _ _ => rfl)) (pa_cons (pv 5) pa_nil))) (pa_cons (pv 8) pa_nil)))))))))))))))))))))))))))), ?_⟩
    refine ⟨_, rfl, a, ns, 0, rfl, hS, by decide, by decide, fun hd hd0 => ?_⟩
    refine ⟨_, rfl, _, _, rfl, rfl, .inl (.inr ⟨by decide, by decide⟩), _, _, rfl, rfl, (by show (0 : Int) < 2147483587; decide), ?_⟩
    have t0 : 0 ≤ hd * 69621 % 2147483587 := Int.emod_nonneg _ (by decide)
    obtain ⟨tn, etn⟩ : ∃ tn : Int, tn = hd * 69621 % 2147483587 := ⟨_, rfl⟩
    rw [← etn] at t0
    refine ⟨_, rfl, _, _, rfl, rfl, (by show (0 : Int) < 11; decide), _, _, rfl, rfl, ?_⟩
    have h11 : 0 ≤ tn % 11 ∧ tn % 11 < 11 := ⟨Int.emod_nonneg _ (by decide), Int.emod_lt_of_pos _ (by decide)⟩
    have h24 : 0 ≤ tn / 88 % 24 ∧ tn / 88 % 24 < 24 := ⟨Int.emod_nonneg _ (by decide), Int.emod_lt_of_pos _ (by decide)⟩
    have h6 : 0 ≤ tn / 88 % 6 ∧ tn / 88 % 6 < 6 := ⟨Int.emod_nonneg _ (by decide), Int.emod_lt_of_pos _ (by decide)⟩
    refine ⟨fun σ H5 => H5 = H ∧ ∃ m : Int, 0 ≤ m ∧ m ≤ 40 ∧ σ = [some (.ref a), some (.int hd), some (.int (hd * 69621 % 2147483587)), some (.int m), none, none, none, none, none, none, none, none], ?_, ?_⟩
    · exact ⟨_, rfl, _, _, rfl, rfl, ⟨by decide, by decide⟩, _, _, rfl, rfl, (by show (0 : Int) < 8; decide), rfl, _, rfl, ite2 (fun c => ⟨_, rfl, _, _, rfl, rfl, ⟨by decide, by decide⟩, _, _, rfl, rfl, (by show (0 : Int) < 24; decide), _, _, rfl, rfl, rfl, 17 + hd * 69621 % 2147483587 / 88 % 24, by rw [← etn]; omega, by rw [← etn]; omega, rfl⟩) (fun c => ⟨rfl, 6 + hd * 69621 % 2147483587 % 11, by rw [← etn]; omega, by rw [← etn]; omega, rfl⟩)⟩
    rintro σ H1 ⟨rfl, m1, m10, m11, rfl⟩
    rw [← etn]
    refine ⟨fun σ H5 => H5 = H1 ∧ ∃ m : Int, 0 ≤ m ∧ m ≤ 40 ∧ σ = [some (.ref a), some (.int hd), some (.int tn), some (.int m), none, none, none, none, none, none, none, none], ?_, ?_⟩
    · exact ⟨_, rfl, _, _, rfl, rfl, ⟨by decide, by decide⟩, _, _, rfl, rfl, (by show (0 : Int) < 8; decide), rfl, _, rfl, ite2 (fun c => ⟨_, rfl, _, _, rfl, rfl, ⟨by decide, by decide⟩, _, _, rfl, rfl, (by show (0 : Int) < 6; decide), rfl, tn / 88 % 6, by omega, by omega, rfl⟩) (fun c => ⟨rfl, m1, m10, m11, rfl⟩)⟩
    rintro σ H1' ⟨rfl, m, m0, m40, rfl⟩
    refine ⟨_, rfl, _, rfl, a, ns, m, rfl, hS, m0, m40, fun p hs nm H2 s2 np hP2 G h0 htot n3 => ?_⟩
    have hn6 := G.nh
    have htot40 : (hs.map fun h => h.2.length).sum ≤ 40 := Nat.le_trans htot (by omega)
    refine ⟨_, rfl, _, rfl, _, rfl, _, _, rfl, rfl, p, a, ns, _, hs, nm, nm, rfl, hP2, G, s2.seq hS, by omega, by omega, htot40, fun l ps zs H3 s3 nl hl hst hok => ?_⟩
    have hz40 : zs.length ≤ 40 := by
      have h1 := nodup_sub hok.nd (S := gapsTo hs hs.length) fun z hz => by
        obtain ⟨y, hy, rfl⟩ := List.mem_map.mp hz
        exact hok.sub y hy
      rw [List.length_map] at h1
      exact Nat.le_trans h1 (Nat.le_trans (gaps_sum hs) htot40)
    have hP3 := hP2.same s3
    refine ⟨_, rfl, p, rfl, ⟨_, hP3.l⟩, fun M hM => ?_⟩
    refine comp_list (xs := hs.map fun h => V.ref h.1) (fun i σ ys H' => Ex_2_6 (fun (hs' : Hands) (v : Option V) => Same H3 H') (fun hs' v => H' M = some (.lst ys)) (fun hs' v => ys = (hs'.map fun h => V.ref h.1)) (fun hs' v => hs'.map (·.2) = (hs.take i).map (·.2)) (fun hs' v => (∀ h ∈ hs', H' h.1 = some (.lst (h.2.map fun x => V.ref x.a)) ∧ h.1 ≠ M)) (fun hs' v => σ = [v])) ?_ ?_ ?_ ?_ ?_
    · exact ⟨[], none, Same.new hM, upd_same, rfl, rfl, (fun h hh => nomatch hh), rfl⟩
    · rintro i σ ys H' hi ⟨hs', v, s5, hM5, rfl, e5, hh5, rfl⟩
      refine ⟨s5.seq hP3.l, hM5, ?_⟩
      have := congrArg List.length e5
      rw [List.length_map, List.length_map, List.length_take] at this
      rw [List.length_map]
      omega
    · rw [List.length_map]; exact Nat.le_of_lt (small1000 (by omega))
    · rintro i y σ ys H' hy ⟨hs', v, s5, hM5, rfl, e5, hh5, rfl⟩
      obtain ⟨hd, hx, rfl⟩ := refs_get hy
      have hH := (hP3.hs hd (List.mem_of_getElem? hx)).same s5
      refine ⟨_, rfl, hd.1, _, rfl, .inl hH.l, fun l2 hl2 => ?_⟩
      have s6 : Same H' (upd H' l2 (.lst (hd.2.map fun x => V.ref x.a))) := Same.new hl2
      have n2 : M ≠ l2 := ne_of_none hM5 hl2
      refine ⟨s6 _ _ hM5, hs' ++ [(l2, hd.2)], _, Same.at hM (s5.trans s6), upd_same, by rw [List.map_append]; rfl, by rw [List.map_append, e5, List.take_add_one, hx, List.map_append]; rfl, fun h hh => ?_, rfl⟩
      rcases List.mem_append.mp hh with hh | hh
      · obtain ⟨b1, b2⟩ := hh5 h hh
        exact ⟨by rw [upd_ne b2]; exact s6 _ _ b1, b2⟩
      · rw [List.mem_singleton.mp hh]
        exact ⟨by rw [upd_ne n2.symm, upd_same], n2.symm⟩
    rintro σ ys H4 ⟨hs', v, s4, hM4, rfl, e4, hh4, rfl⟩
    rw [List.length_map, List.take_of_length_le (Nat.le_refl _)] at e4
    have eh : hs.map (·.2) = hs'.map (·.2) := e4.symm
    have lh : hs.length = hs'.length := len_eq eh
    have mem' : ∀ h ∈ hs', ∃ h0 ∈ hs, h.2 = h0.2 := fun h hh => by
      have : h.2 ∈ hs.map (·.2) := by rw [eh]; exact List.mem_map.mpr ⟨h, hh, rfl⟩
      obtain ⟨h0, a1, a2⟩ := List.mem_map.mp this
      exact ⟨h0, a1, a2.symm⟩
    have G' : Good nm nm hs' := ⟨by omega, fun h hh => by obtain ⟨h0, a1, a2⟩ := mem' h hh; rw [a2]; exact G.nd h0 a1, fun h hh => by obtain ⟨h0, a1, a2⟩ := mem' h hh; rw [a2]; exact G.sp h0 a1, fun h hh => by obtain ⟨h0, a1, a2⟩ := mem' h hh; rw [a2]; exact G.cf h0 a1, fun h hh => by obtain ⟨h0, a1, a2⟩ := mem' h hh; rw [a2]; exact G.ca h0 a1, G.ns, G.nc⟩
    have hP4 := hP3.same s4
    have hM' : IsProg K H4 M hs' := ⟨SqL.of hM4, fun h hh => ⟨SqL.of (hh4 h hh).1, by obtain ⟨h0, a1, a2⟩ := mem' h hh; rw [a2]; exact (hP4.hs h0 a1).ds⟩⟩
    have hl4 := s4 _ _ hl
    have hst4 := hst.same s4
    have hok' : StOk (gapsTo hs' hs'.length) zs := by rw [← gapsTo_eq eh, ← lh]; exact hok
    have eF : ∀ i, itemsOf zs hs' i = itemsOf zs hs i := fun i => by unfold itemsOf; rw [handAt_eq eh i]
    refine ⟨_, rfl, l, _, rfl, .inl (SqL.of hl4), fun L hL => ?_⟩
    refine ⟨by show 2 ≤ sizeLine; decide, fun N hN => ?_⟩
    have s5 : Same H4 (upd H4 L (.lst (ps.map fun q => V.ref q.1))) := Same.new hL
    have hLB := (Same.new (o := .lst [.ref M, .ref L]) hN) _ _ (upd_same (H := H4) (a := L) (o := .lst (ps.map fun q => V.ref q.1)))
    have nNL : N ≠ L := fun e => by rw [e, upd_same] at hN; cases hN
    have s4B := s5.then (o := .lst [.ref M, .ref L]) hN
    have hNB := upd_same (H := upd H4 L (.lst (ps.map fun q => V.ref q.1))) (a := N) (o := .lst [.ref M, .ref L])
    generalize upd (upd H4 L (.lst (ps.map fun q => V.ref q.1))) N (.lst [.ref M, .ref L]) = B at hLB s4B hNB ⊢
    have hPB := hP4.same s4B
    have hMB := hM'.same s4B
    have hlB := s4B _ _ hl4
    have hstB := hst4.same s4B
    have hdt : ∀ {Hx : Hp} {N2 : Addr}, Same B Hx → Hx N2 = some (.lst [.ref p, .ref l]) → DT K Hx N N2 true := fun sx e => handed_dt (sx _ _ hNB) e (hMB.same sx) (hPB.same sx) eh (sx _ _ hLB) (sx _ _ hlB)
    refine ⟨_, rfl, N, _, _, _, rfl, rfl, SqL.of hNB, atI_nat (j := 0) rfl, _, rfl, N, _, _, _, rfl, rfl, SqL.of hNB, atI_nat (j := 1) rfl, M, L, hs', nm, nm, ps, zs, rfl, hMB, G', SqL.of hLB, hstB, hok', hz40, fun f as rows H7 s7 nf hA hal hfr nd hfa hit => ?_⟩
    have RA7 : RowsOf H7 f as (itemsOf zs hs') := RowsOf.of hA hit
    refine ⟨_, rfl, _, rfl, p, l, hs, nm, nm, ps, zs, rfl, hPB.same s7, G, SqL.of (s7 _ _ hlB), hstB.same s7, hz40, fun e bs rows2 H8 s8 ne hB2 hbl hbfr nd2 heb hit2 => ?_⟩
    have RB8 : RowsOf H8 e bs (itemsOf zs hs) := RowsOf.of hB2 hit2
    have RA8 := RA7.same s8
    have s78 := s7.trans s8
    refine ⟨_, rfl, _, rfl, f, e, as, _, rfl, RA8.alike (zs := zs) (hs := hs) eF (hPB.same s78) G hz40, by omega, RA8.eq RB8 (by omega) eF, fun H9 s9 => ?_⟩
    refine ⟨_, rfl, iteF ⟨_, rfl, _, rfl, _, rfl, by show 2 ≤ sizeLine; decide, fun N2 hN2 => ?_⟩⟩
    have s9B := (s78.trans s9).then (o := .lst [.ref p, .ref l]) hN2
    refine ⟨N, N2, _, rfl, rfl, hdt s9B upd_same, _, rfl, iteF ?_⟩
    have s8a : Same H8 (upd H9 N2 (.lst [.ref p, .ref l])) := s9.then hN2
    generalize upd H9 N2 (.lst [.ref p, .ref l]) = H10 at s9B s8a ⊢
    have RA10 := RA8.same s8a
    have RB10 := RB8.same s8a
    have hl6 : (as.map V.ref).length = as.length := List.length_map ..
    refine ⟨_, rfl, _, rfl, f, _, rfl, .inl (SqL.of RA10.l), _, _, rfl, rfl, (by show (0 : Int) < ((as.map V.ref).length : Int); omega), ?_⟩
    have j0 : 0 ≤ hd % ((as.map V.ref).length : Int) := Int.emod_nonneg _ (by omega)
    have j1 : hd % ((as.map V.ref).length : Int) < ((as.map V.ref).length : Int) := Int.emod_lt_of_pos _ (by omega)
    obtain ⟨j, ej⟩ := Int.eq_ofNat_of_zero_le j0
    rw [ej] at j1
    have hj : j < as.length := by omega
    have hcj : as[j]? = some as[j] := List.getElem?_eq_getElem hj
    generalize as[j] = c at hcj
    have hcm := List.mem_of_getElem? hcj
    obtain ⟨us, hc, hci⟩ := RA10.rows j c hcj
    have usl : us.length ≤ 1640 := by rw [hci.len, eF]; exact itemsOf_len G hz40 j
    have ixj : atI (as.map V.ref) (hd % ((as.map V.ref).length : Int)) = some (.ref c) := by rw [ej]; exact atI_nat (by rw [List.getElem?_map, hcj]; rfl)
    refine ⟨_, rfl, _, rfl, f, _, _, _, rfl, rfl, SqL.of RA10.l, ixj, .inl ⟨rfl, _, SqL.of hc⟩, by show 2 ≤ sizeLine; decide, fun t ht => ?_⟩
    have s11 : Same H10 (upd H10 t (.tup [.str "fence", .non])) := Same.new ht
    have hc11 := s11 _ _ hc
    refine ⟨c, _, _, rfl, rfl, hc11, big_ok (by omega), ?_⟩
    have nce : c ≠ e := fun z => by
      have := (RA7.rows j c hcj)
      obtain ⟨vs, hv, _⟩ := this
      rw [z, ne] at hv
      cases hv
    have ncb : c ∉ bs := fun z => by
      obtain ⟨vs, hv, _⟩ := RA7.rows j c hcj
      rw [hbfr c z] at hv
      cases hv
    have ncf : c ≠ f := fun z => hfa (z ▸ hcm)
    have RB12 : RowsOf (upd (upd H10 t (.tup [.str "fence", .non])) c (.lst (us ++ [.ref t]))) e bs (itemsOf zs hs) := (RB10.same s11).lset hc11 nce ncb
    have hf12 : (upd (upd H10 t (.tup [.str "fence", .non])) c (.lst (us ++ [.ref t]))) f = some (.lst (as.map V.ref)) := by rw [upd_ne ncf.symm]; exact s11 _ _ RA10.l
    have RA12 : ∀ (k : Nat) b, k ≠ j → as[k]? = some b → ∃ vs, (upd (upd H10 t (.tup [.str "fence", .non])) c (.lst (us ++ [.ref t]))) b = some (.lst vs) ∧ ItsAt (upd (upd H10 t (.tup [.str "fence", .non])) c (.lst (us ++ [.ref t]))) vs (itemsOf zs hs' k) := fun k b hk hb => by
      obtain ⟨vs, h1, h2⟩ := RA10.rows k b hb
      have nb : b ≠ c := fun z => hk ((List.getElem?_inj (List.getElem?_eq_some_iff.mp hb).1 nd).mp (by rw [hb, hcj, z]))
      exact ⟨vs, by rw [upd_ne nb]; exact s11 _ _ h1, (h2.same s11).lset hc11⟩
    have LA12 : ∀ b ∈ as, ∃ vs, (upd (upd H10 t (.tup [.str "fence", .non])) c (.lst (us ++ [.ref t]))) b = some (.lst vs) ∧ vs.length ≤ 1700 := fun b hb => by
      by_cases z : b = c
      · exact ⟨_, by rw [z, upd_same], by rw [List.length_append]; show us.length + 1 ≤ 1700; omega⟩
      · obtain ⟨k, hk⟩ := List.getElem?_of_mem hb
        obtain ⟨vs, h1, h2⟩ := RA10.rows k b hk
        exact ⟨vs, by rw [upd_ne z]; exact s11 _ _ h1, by rw [h2.len, eF]; exact Nat.le_trans (itemsOf_len G hz40 k) (by decide)⟩
    have s12 : Same B (upd (upd H10 t (.tup [.str "fence", .non])) c (.lst (us ++ [.ref t]))) := Same.at (hfr c hcm) (s9B.trans s11)
    generalize upd (upd H10 t (.tup [.str "fence", .non])) c (.lst (us ++ [.ref t])) = H12 at RB12 hf12 RA12 LA12 s12 ⊢
    have lo1 : ∀ (ts : List Addr), cutV (ts.map V.ref) none (some (hd % ((as.map V.ref).length : Int))) = (ts.take j).map V.ref := fun ts => by rw [ej]; exact cut_lo ts j
    have hi1 : ∀ (ts : List Addr), cutV (ts.map V.ref) (some (hd % ((as.map V.ref).length : Int) + 1)) none = (ts.drop (j + 1)).map V.ref := fun ts => by rw [ej]; exact cut_hi ts j
    refine ⟨_, rfl, _, rfl, _, rfl, f, _, rfl, SqL.of (hf12), fun q1 hq1 => ?_⟩
    have x1 := Same.new (H := H12) (o := .lst (cutV (as.map V.ref) none (some (hd % ((as.map V.ref).length : Int))))) hq1
    have y1 : Same H12 (upd H12 q1 (.lst (cutV (as.map V.ref) none (some (hd % ((as.map V.ref).length : Int)))))) := x1
    have z1 : (upd H12 q1 (.lst (cutV (as.map V.ref) none (some (hd % ((as.map V.ref).length : Int)))))) q1 = some (.lst ((as.take j).map V.ref)) := by rw [upd_same, lo1]
    generalize upd H12 q1 (.lst (cutV (as.map V.ref) none (some (hd % ((as.map V.ref).length : Int))))) = G1 at y1 z1 ⊢
    refine ⟨_, rfl, _, rfl, _, _, rfl, rfl, _, rfl, f, _, rfl, SqL.of (y1 _ _ hf12), fun q2 hq2 => ?_⟩
    have x2 := Same.new (H := G1) (o := .lst (cutV (as.map V.ref) (some (hd % ((as.map V.ref).length : Int) + 1)) none)) hq2
    have y2 : Same H12 (upd G1 q2 (.lst (cutV (as.map V.ref) (some (hd % ((as.map V.ref).length : Int) + 1)) none))) := y1.trans x2
    replace z1 := x2 _ _ z1
    have z2 : (upd G1 q2 (.lst (cutV (as.map V.ref) (some (hd % ((as.map V.ref).length : Int) + 1)) none))) q2 = some (.lst ((as.drop (j + 1)).map V.ref)) := by rw [upd_same, hi1]
    generalize upd G1 q2 (.lst (cutV (as.map V.ref) (some (hd % ((as.map V.ref).length : Int) + 1)) none)) = G2 at y2 z1 z2 ⊢
    refine ⟨q1, q2, _, _, rfl, rfl, z1, z2, by rw [← List.length_append, ← List.map_append, List.length_map]; refine Nat.le_of_lt (small1000 ?_); rw [List.length_append, List.length_take, List.length_drop]; omega, fun q3 hq3 => ?_⟩
    have x3 := Same.new (H := G2) (o := .lst ((as.take j).map V.ref ++ (as.drop (j + 1)).map V.ref)) hq3
    have y3 : Same H12 (upd G2 q3 (.lst ((as.take j).map V.ref ++ (as.drop (j + 1)).map V.ref))) := y2.trans x3
    have z3 : (upd G2 q3 (.lst ((as.take j).map V.ref ++ (as.drop (j + 1)).map V.ref))) q3 = some (.lst ((as.take j ++ as.drop (j + 1)).map V.ref)) := by rw [upd_same, List.map_append]
    generalize upd G2 q3 (.lst ((as.take j).map V.ref ++ (as.drop (j + 1)).map V.ref)) = G3 at y3 z3 ⊢
    refine ⟨_, rfl, _, rfl, _, rfl, e, _, rfl, SqL.of (y3 _ _ RB12.l), fun q4 hq4 => ?_⟩
    have x4 := Same.new (H := G3) (o := .lst (cutV (bs.map V.ref) none (some (hd % ((as.map V.ref).length : Int))))) hq4
    have y4 : Same H12 (upd G3 q4 (.lst (cutV (bs.map V.ref) none (some (hd % ((as.map V.ref).length : Int)))))) := y3.trans x4
    replace z3 := x4 _ _ z3
    have z4 : (upd G3 q4 (.lst (cutV (bs.map V.ref) none (some (hd % ((as.map V.ref).length : Int)))))) q4 = some (.lst ((bs.take j).map V.ref)) := by rw [upd_same, lo1]
    generalize upd G3 q4 (.lst (cutV (bs.map V.ref) none (some (hd % ((as.map V.ref).length : Int))))) = G4 at y4 z3 z4 ⊢
    refine ⟨_, rfl, _, rfl, _, _, rfl, rfl, _, rfl, e, _, rfl, SqL.of (y4 _ _ RB12.l), fun q5 hq5 => ?_⟩
    have x5 := Same.new (H := G4) (o := .lst (cutV (bs.map V.ref) (some (hd % ((as.map V.ref).length : Int) + 1)) none)) hq5
    have y5 : Same H12 (upd G4 q5 (.lst (cutV (bs.map V.ref) (some (hd % ((as.map V.ref).length : Int) + 1)) none))) := y4.trans x5
    replace z3 := x5 _ _ z3
    replace z4 := x5 _ _ z4
    have z5 : (upd G4 q5 (.lst (cutV (bs.map V.ref) (some (hd % ((as.map V.ref).length : Int) + 1)) none))) q5 = some (.lst ((bs.drop (j + 1)).map V.ref)) := by rw [upd_same, hi1]
    generalize upd G4 q5 (.lst (cutV (bs.map V.ref) (some (hd % ((as.map V.ref).length : Int) + 1)) none)) = G5 at y5 z3 z4 z5 ⊢
    refine ⟨q4, q5, _, _, rfl, rfl, z4, z5, by rw [← List.length_append, ← List.map_append, List.length_map]; refine Nat.le_of_lt (small1000 ?_); rw [List.length_append, List.length_take, List.length_drop]; omega, fun q6 hq6 => ?_⟩
    have x6 := Same.new (H := G5) (o := .lst ((bs.take j).map V.ref ++ (bs.drop (j + 1)).map V.ref)) hq6
    have y6 : Same H12 (upd G5 q6 (.lst ((bs.take j).map V.ref ++ (bs.drop (j + 1)).map V.ref))) := y5.trans x6
    replace z3 := x6 _ _ z3
    have z6 : (upd G5 q6 (.lst ((bs.take j).map V.ref ++ (bs.drop (j + 1)).map V.ref))) q6 = some (.lst ((bs.take j ++ bs.drop (j + 1)).map V.ref)) := by rw [upd_same, List.map_append]
    generalize upd G5 q6 (.lst ((bs.take j).map V.ref ++ (bs.drop (j + 1)).map V.ref)) = G6 at y6 z3 z6 ⊢
    have dcut : DT K G6 q3 q6 true := by
      refine DT.lstT (SqL.of z3) (SqL.of z6) (by rw [List.length_map, List.length_map, List.length_append, List.length_append, List.length_take, List.length_take, List.length_drop, List.length_drop]; omega) fun i x y hx hy => ?_
      obtain ⟨b1, e1, rfl⟩ := refs_get hx
      obtain ⟨b2, e2, rfl⟩ := refs_get hy
      rw [skip_get] at e1 e2
      obtain ⟨k, hk, e1, e2⟩ : ∃ k, k ≠ j ∧ as[k]? = some b1 ∧ bs[k]? = some b2 := by
        by_cases z : i < j
        · rw [if_pos z] at e1 e2; exact ⟨i, by omega, e1, e2⟩
        · rw [if_neg z] at e1 e2; exact ⟨i + 1, by omega, e1, e2⟩
      obtain ⟨u1, g1, g2⟩ := RA12 k b1 hk e1
      obtain ⟨u2, k1, k2⟩ := RB12.rows k b2 e2
      rw [eF] at g2
      exact DC.lstT (SqL.of (y6 _ _ g1)) (SqL.of (y6 _ _ k1)) (by rw [g2.len, k2.len]) fun i x y hx hy => its_eq (g2.same y6) (k2.same y6) i x y hx hy
    refine ⟨q3, q6, _, rfl, rfl, dcut, _, rfl, iteF ⟨_, rfl, _, rfl, _, rfl, by show 2 ≤ sizeLine; decide, fun N3 hN3 => ?_⟩⟩
    have y7 := y6.then (o := .lst [.ref p, .ref l]) hN3
    refine ⟨N, N3, _, rfl, rfl, hdt (s12.trans y7) upd_same, _, rfl, iteF ?_⟩
    generalize upd G6 N3 (.lst [.ref p, .ref l]) = G7 at y7 ⊢
    have hf13 := y7 _ _ hf12
    have nfe : f ≠ e := fun z => by have := RA7.l; rw [z, ne] at this; cases this
    have nfb : f ∉ bs := fun z => by have := RA7.l; rw [hbfr f z] at this; cases this
    have nab : ∀ b ∈ as, b ≠ e ∧ b ∉ bs := fun b hb => by
      obtain ⟨k, hk⟩ := List.getElem?_of_mem hb
      obtain ⟨vs, hv, _⟩ := RA7.rows k b hk
      exact ⟨(fun z => by rw [z, ne] at hv; cases hv), (fun z => by rw [hbfr b z] at hv; cases hv)⟩
    refine ⟨_, rfl, f, rfl, ⟨_, SqL.of hf13⟩, for_list (xs := as.map V.ref) (fun i σ H' => ∃ v10 : Option V, Same B H' ∧ H' f = some (.lst (as.map V.ref)) ∧ RowsOf H' e bs (itemsOf zs hs) ∧ (∀ b ∈ as, ∃ vs, H' b = some (.lst vs) ∧ vs.length ≤ 1700 + i) ∧ σ = [some (.ref a), some (.int hd), some (.int tn), some (.int m), some (.ref p), some (.ref l), some (.ref N), some (.ref f), some (.ref e), some (.int (hd % ((as.map V.ref).length : Int))), v10, none]) ?_ ?_ ?_ ?_⟩
    · exact ⟨none, s12.trans y7, hf13, RB12.same y7, fun b hb => let ⟨vs, x, y⟩ := LA12 b hb; ⟨vs, y7 _ _ x, y⟩, rfl⟩
    · rintro i σ H' _ ⟨v10, sB, hf', RB', LA', rfl⟩
      exact SqL.of hf'
    · rintro i y σ H' hy ⟨v10, sB, hf', RB', LA', rfl⟩
      obtain ⟨b, hb, rfl⟩ := refs_get hy
      have hbm := List.mem_of_getElem? hb
      obtain ⟨vs, hv, hvl⟩ := LA' b hbm
      have hi : i < as.length := (List.getElem?_eq_some_iff.mp hb).1
      refine ⟨_, rfl, .inl ⟨rfl, _, SqL.of hv⟩, by show 2 ≤ sizeLine; decide, fun t2 ht2 => ?_⟩
      have sx : Same H' (upd H' t2 (.tup [.str "bar", .non])) := Same.new ht2
      refine ⟨b, _, _, rfl, rfl, sx _ _ hv, big_ok (by omega), _, Same.at (hfr b hbm) (sB.trans sx), by rw [upd_ne (fun (z : f = b) => hfa (z ▸ hbm))]; exact sx _ _ hf', (RB'.same sx).lset (sx _ _ hv) (nab b hbm).1 (nab b hbm).2, fun b' hb' => ?_, rfl⟩
      by_cases z : b' = b
      · exact ⟨_, by rw [z, upd_same], by rw [List.length_append]; show vs.length + 1 ≤ _; omega⟩
      · obtain ⟨vs', hv', hvl'⟩ := LA' b' hb'
        exact ⟨vs', by rw [upd_ne z]; exact sx _ _ hv', by omega⟩
    rintro σ H14 ⟨v10, s14, hf14, RB14, LA14, rfl⟩
    refine ⟨_, rfl, .inl ⟨rfl, _, SqL.of hf14⟩, f, _, rfl, rfl, hf14, ?_⟩
    have s15 : Same B (upd H14 f (.lst [])) := Same.at nf s14
    have RB15 : RowsOf (upd H14 f (.lst [])) e bs (itemsOf zs hs) := RB14.lset hf14 nfe nfb
    generalize upd H14 f (.lst []) = H15 at s15 RB15 ⊢
    refine ⟨_, rfl, _, rfl, _, rfl, by show 2 ≤ sizeLine; decide, fun N4 hN4 => ?_⟩
    have y8 : Same H15 (upd H15 N4 (.lst [.ref p, .ref l])) := Same.new hN4
    refine ⟨N, N4, _, rfl, rfl, hdt (s15.trans y8) upd_same, _, rfl, iteF ?_⟩
    generalize upd H15 N4 (.lst [.ref p, .ref l]) = H16 at y8 ⊢
    have s16 := s15.trans y8
    have RB16 := RB15.same y8
    refine ⟨_, rfl, N, _, _, _, rfl, rfl, SqL.of (s16 _ _ hNB), atI_nat (j := 0) rfl, _, rfl, _, rfl, -1, rfl, rfl, l, _, rfl, SqL.of (s16 _ _ hlB), fun r hr => ?_⟩
    have y9 := s16.then (o := .lst (ps.map fun q => V.ref q.1).reverse) hr
    have RB17 := RB16.same (Same.new (o := .lst (ps.map fun q => V.ref q.1).reverse) hr)
    have hr17 := upd_same (H := H16) (a := r) (o := .lst (ps.map fun q => V.ref q.1).reverse)
    generalize upd H16 r (.lst (ps.map fun q => V.ref q.1).reverse) = H17 at y9 RB17 hr17 ⊢
    refine ⟨M, r, hs', nm, nm, ps.reverse, zs.reverse, rfl, hMB.same y9, G', SqL.of (by rw [hr17, List.map_reverse]), (hstB.same y9).back, hok'.back, by rw [List.length_reverse]; exact hz40, fun f2 as2 rows3 H18 s18 nf2 hA2 hal2 hfr2 nda2 hfa2 hit3 => ?_⟩
    have eB : ∀ i, itemsOf zs.reverse hs' i = itemsOf zs hs i := fun i => by rw [← eF i]; exact items_back hok.nd i (handAt hs' i) _
    have R18 : RowsOf H18 f2 as2 (itemsOf zs.reverse hs') := RowsOf.of hA2 hit3
    have RB18 := RB17.same s18
    have s18B := y9.trans s18
    refine ⟨_, rfl, f2, e, as2, _, rfl, R18.alike (zs := zs) (hs := hs) eB (hPB.same s18B) G hz40, by omega, R18.eq RB18 (by omega) eB, fun H19 s19 => ?_⟩
    refine ⟨_, rfl, iteF ?_⟩
    have s19B := s18B.trans s19
    have RB19 := RB18.same s19
    refine ⟨_, rfl, N, _, _, _, rfl, rfl, SqL.of (s19B _ _ hNB), atI_nat (j := 0) rfl, by show 0 ≤ sizeLine; decide, fun E hE => ?_⟩
    have y10 := s19B.then (o := .lst []) hE
    have RB20 := RB19.same (Same.new (o := .lst []) hE)
    have hE20 := upd_same (H := H19) (a := E) (o := .lst [])
    generalize upd H19 E (.lst []) = H20 at y10 RB20 hE20 ⊢
    refine ⟨M, E, hs', nm, nm, [], [], rfl, hMB.same y10, G', SqL.of hE20, StAt.nil, StOk.nil, Nat.zero_le _, fun g cs rows4 H21 s21 ng hC hcl hcfr ndc hgc hit4 => ?_⟩
    have R21 : RowsOf H21 g cs (itemsOf [] hs') := RowsOf.of hC hit4
    have RB21 := RB20.same s21
    have s21B := y10.trans s21
    have dbare : DT K H21 g p true := by
      refine DT.lstT (SqL.of R21.l) (hPB.same s21B).l (by rw [List.length_map, List.length_map]; omega) fun i x y hx hy => ?_
      obtain ⟨b1, e1, rfl⟩ := refs_get hx
      obtain ⟨h1, e2, rfl⟩ := refs_get hy
      obtain ⟨u1, g1, g2⟩ := R21.rows i b1 e1
      have eh1 : handAt hs' i = h1.2 := by rw [← handAt_eq eh]; exact handAt_of e2
      have eI : itemsOf [] hs' i = h1.2.map fun x => (Sum.inl x.a : Itm) := by unfold itemsOf; rw [items_bare, eh1, List.take_of_length_le (Nat.le_refl _)]
      rw [eI] at g2
      refine DC.lstT (SqL.of g1) ((hPB.same s21B).hs h1 (List.mem_of_getElem? e2)).l (by rw [g2.len, List.length_map, List.length_map]) fun k x y hx hy => ?_
      obtain ⟨d1, e3, rfl⟩ := refs_get hy
      have := g2.at_ k x (Sum.inl d1.a) hx (by rw [List.getElem?_map, e3]; rfl)
      cases (show x = .ref d1.a from this)
      exact DC.same
    have eC : ∀ i, itemsOf [] hs' i = itemsOf [] hs i := fun i => by unfold itemsOf; rw [handAt_eq eh i]
    refine ⟨_, rfl, _, rfl, g, p, cs, _, rfl, R21.alike (zs := []) (hs := hs) eC (hPB.same s21B) G (Nat.zero_le _), by omega, dbare, fun H22 s22 => ?_⟩
    refine ⟨_, rfl, iteF ?_⟩
    have R22 := R21.same s22
    have RB22 := RB21.same s22
    have s22B := s21B.trans s22
    have s2022 := s21.trans s22
    have cfr : ∀ b ∈ cs, H20 b = none := hcfr
    have nce : ∀ b ∈ cs, b ≠ e ∧ b ∉ bs := fun b hb => by
      refine ⟨fun z => ?_, fun z => ?_⟩
      · have := RB20.l
        rw [← z, hcfr b hb] at this
        cases this
      · obtain ⟨k, hk⟩ := List.getElem?_of_mem z
        obtain ⟨vs, hv, _⟩ := RB20.rows k b hk
        rw [hcfr b hb] at hv
        cases hv
    refine ⟨_, rfl, g, rfl, ⟨_, SqL.of R22.l⟩, for_list (xs := cs.map V.ref) (fun i σ H' => ∃ v10 : Option V, Same B H' ∧ H' g = some (.lst (cs.map V.ref)) ∧ RowsOf H' e bs (itemsOf zs hs) ∧ (∀ b ∈ cs, ∃ vs, H' b = some (.lst vs) ∧ vs.length ≤ 1700 + i) ∧ σ = [some (.ref a), some (.int hd), some (.int tn), some (.int m), some (.ref p), some (.ref l), some (.ref N), some (.ref f), some (.ref e), some (.int (hd % ((as.map V.ref).length : Int))), v10, some (.ref g)]) ?_ ?_ ?_ ?_⟩
    · refine ⟨_, s22B, R22.l, RB22, fun b hb => ?_, rfl⟩
      obtain ⟨k, hk⟩ := List.getElem?_of_mem hb
      obtain ⟨vs, h1, h2⟩ := R22.rows k b hk
      exact ⟨vs, h1, by rw [h2.len, eC]; exact Nat.le_trans (itemsOf_len G (Nat.zero_le _) k) (by decide)⟩
    · rintro i σ H' _ ⟨v10, sB, hg', RB', LA', rfl⟩
      exact SqL.of hg'
    · rintro i y σ H' hy ⟨v10, sB, hg', RB', LA', rfl⟩
      obtain ⟨b, hb, rfl⟩ := refs_get hy
      have hbm := List.mem_of_getElem? hb
      obtain ⟨vs, hv, hvl⟩ := LA' b hbm
      have hi : i < cs.length := (List.getElem?_eq_some_iff.mp hb).1
      refine ⟨_, rfl, .inl ⟨rfl, _, SqL.of hv⟩, by show 2 ≤ sizeLine; decide, fun t2 ht2 => ?_⟩
      have sx : Same H' (upd H' t2 (.tup [.str "bar", .non])) := Same.new ht2
      refine ⟨b, _, _, rfl, rfl, sx _ _ hv, big_ok (by omega), _, Same.at (y10.free (hcfr b hbm)) (sB.trans sx), by rw [upd_ne (fun (z : g = b) => hgc (z ▸ hbm))]; exact sx _ _ hg', (RB'.same sx).lset (sx _ _ hv) (nce b hbm).1 (nce b hbm).2, fun b' hb' => ?_, rfl⟩
      by_cases z : b' = b
      · exact ⟨_, by rw [z, upd_same], by rw [List.length_append]; show vs.length + 1 ≤ _; omega⟩
      · obtain ⟨vs', hv', hvl'⟩ := LA' b' hb'
        exact ⟨vs', by rw [upd_ne z]; exact sx _ _ hv', by omega⟩
    rintro σ H23 ⟨v10, s23, hg23, RB23, LA23, rfl⟩
    refine ⟨_, rfl, N, _, _, _, rfl, rfl, SqL.of (s23 _ _ hNB), atI_nat (j := 1) rfl, .inl ⟨rfl, _, SqL.of (s23 _ _ hLB)⟩, L, _, rfl, rfl, s23 _ _ hLB, ?_⟩
    have s24 : Same H4 (upd H23 L (.lst [])) := Same.at hL (s4B.trans s23)
    have hN24 : (upd H23 L (.lst [])) N = some (.lst [.ref M, .ref L]) := by rw [upd_ne nNL]; exact s23 _ _ hNB
    have nLe : L ≠ e := fun z => by have := s7 _ _ hLB; rw [z, ne] at this; cases this
    have nLb : L ∉ bs := fun z => by have := s7 _ _ hLB; rw [hbfr L z] at this; cases this
    have RB24 : RowsOf (upd H23 L (.lst [])) e bs (itemsOf zs hs) := RB23.lset (s23 _ _ hLB) nLe nLb
    generalize upd H23 L (.lst []) = H24 at s24 hN24 RB24 ⊢
    refine ⟨_, rfl, N, _, _, _, rfl, rfl, SqL.of hN24, atI_nat (j := 0) rfl, _, rfl, M, p, _, rfl, rfl, progs_dt (hM'.same s24) (hP4.same s24) eh, ?_⟩
    refine ⟨_, rfl, iteT ?_⟩
    refine ⟨_, rfl, N, _, _, _, rfl, rfl, SqL.of hN24, atI_nat (j := 0) rfl, _, rfl, M, l, hs', nm, nm, ps, zs, rfl, hM'.same s24, G', SqL.of (s24 _ _ hl4), hst4.same s24, hok', hz40, fun f3 as3 rows5 H25 s25 nf3 hA3 hal3 hfr3 nda3 hfa3 hit5 => ?_⟩
    have R25 : RowsOf H25 f3 as3 (itemsOf zs hs') := RowsOf.of hA3 hit5
    exact ⟨_, rfl, f3, e, as3, _, rfl, R25.alike (zs := zs) (hs := hs) eF ((hP4.same s24).same s25) G hz40, by omega, R25.eq (RB24.same s25) (by omega) eF, fun H26 s26 => q _⟩
end
end Own


--#zhead
set_option Elab.async false
set_option linter.all false
set_option maxRecDepth 100000
set_option maxHeartbeats 4100000
namespace Own
open PySem L2
theorem len_1 {Pp : List Value → Prop} (h : ∀ v0 : Value, Pp [v0]) (us : List Value) (hl : us.length = 1) : Pp us := by
  rcases us with _ | ⟨v0, _ | ⟨y, ys⟩⟩
  · simp at hl
  · exact h v0
  · simp at hl
theorem len_2 {Pp : List Value → Prop} (h : ∀ v0 v1 : Value, Pp [v0, v1]) (us : List Value) (hl : us.length = 2) : Pp us := by
  rcases us with _ | ⟨v0, _ | ⟨v1, _ | ⟨y, ys⟩⟩⟩
  · simp at hl
  · simp at hl
  · exact h v0 v1
  · simp at hl
theorem len_3 {Pp : List Value → Prop} (h : ∀ v0 v1 v2 : Value, Pp [v0, v1, v2]) (us : List Value) (hl : us.length = 3) : Pp us := by
  rcases us with _ | ⟨v0, _ | ⟨v1, _ | ⟨v2, _ | ⟨y, ys⟩⟩⟩⟩
  · simp at hl
  · simp at hl
  · simp at hl
  · exact h v0 v1 v2
  · simp at hl
theorem all_mk {l : PySem.W.OpenLaw} {w : World} {K : PySem.W.Frag} {h : Heap} {mg : Str → Option Value} {fa : Addr} (X : K.In h) (G : h.Ns mainGlobals mg) (hfa : mg "law" = some (.ref fa))
    {f0 f1 f2 f3 f4 f5 f6 f7 f8 f9 f10 f11 f12 f13 f14 f15 f16 f17 f18 f19 : Addr} {od0 an0 od1 an1 od2 an2 od3 an3 od4 an4 od5 an5 od6 an6 od7 an7 od8 an8 od9 an9 od10 an10 od11 an11 od12 an12 od13 an13 od14 an14 od15 an15 od16 an16 od17 an17 od18 an18 od19 an19 : Option Addr} {sl0 sl1 sl2 sl3 sl4 sl5 sl6 sl7 sl8 sl9 sl10 sl11 sl12 sl13 sl14 sl15 sl16 sl17 sl18 sl19 : Array (Option Value)} {oc0 kV0 dc0 pm0 cd0 ct0 oc1 kV1 dc1 pm1 cd1 ct1 oc2 kV2 dc2 pm2 cd2 ct2 oc3 kV3 dc3 pm3 cd3 ct3 oc4 kV4 dc4 pm4 cd4 ct4 oc5 kV5 dc5 pm5 cd5 ct5 oc6 kV6 dc6 pm6 cd6 ct6 oc7 kV7 dc7 pm7 cd7 ct7 oc8 kV8 dc8 pm8 cd8 ct8 oc9 kV9 dc9 pm9 cd9 ct9 oc10 kV10 dc10 pm10 cd10 ct10 oc11 kV11 dc11 pm11 cd11 ct11 oc12 kV12 dc12 pm12 cd12 ct12 oc13 kV13 dc13 pm13 cd13 ct13 oc14 kV14 dc14 pm14 cd14 ct14 oc15 kV15 dc15 pm15 cd15 ct15 oc16 kV16 dc16 pm16 cd16 ct16 oc17 kV17 dc17 pm17 cd17 ct17 oc18 kV18 dc18 pm18 cd18 ct18 oc19 kV19 dc19 pm19 cd19 ct19 : Value}
    (a0 : PySem.W.nsIn K mainGlobals "is_read" = some (some (.ref f0))) (l0 : K.lookup f0 = some ⟨oc0, od0, .func (PySem.W.fnOf "is_read" "is_read" (defArgs s_isread) (defBody s_isread) (defScope s_isread) .none kV0 dc0 pm0 an0 cd0 ct0), sl0⟩) (c0 : PySem.W.codeIn K cd0 "is_read" = true) (k0 : PySem.W.keepIn K (.ref f0) = true)
    (a1 : PySem.W.nsIn K mainGlobals "place_of" = some (some (.ref f1))) (l1 : K.lookup f1 = some ⟨oc1, od1, .func (PySem.W.fnOf "place_of" "place_of" (defArgs s_placeof) (defBody s_placeof) (defScope s_placeof) .none kV1 dc1 pm1 an1 cd1 ct1), sl1⟩) (c1 : PySem.W.codeIn K cd1 "place_of" = true) (k1 : PySem.W.keepIn K (.ref f1) = true)
    (a2 : PySem.W.nsIn K mainGlobals "is_write" = some (some (.ref f2))) (l2 : K.lookup f2 = some ⟨oc2, od2, .func (PySem.W.fnOf "is_write" "is_write" (defArgs s_iswrite) (defBody s_iswrite) (defScope s_iswrite) .none kV2 dc2 pm2 an2 cd2 ct2), sl2⟩) (c2 : PySem.W.codeIn K cd2 "is_write" = true) (k2 : PySem.W.keepIn K (.ref f2) = true)
    (a3 : PySem.W.nsIn K mainGlobals "point_deeds" = some (some (.ref f3))) (l3 : K.lookup f3 = some ⟨oc3, od3, .func (PySem.W.fnOf "point_deeds" "point_deeds" (defArgs s_pointdeeds) (defBody s_pointdeeds) (defScope s_pointdeeds) .none kV3 dc3 pm3 an3 cd3 ct3), sl3⟩) (c3 : PySem.W.codeIn K cd3 "point_deeds" = true) (k3 : PySem.W.keepIn K (.ref f3) = true)
    (a4 : PySem.W.nsIn K mainGlobals "numbered" = some (some (.ref f4))) (l4 : K.lookup f4 = some ⟨oc4, od4, .func (PySem.W.fnOf "numbered" "numbered" (defArgs s_numbered) (defBody s_numbered) (defScope s_numbered) .none kV4 dc4 pm4 an4 cd4 ct4), sl4⟩) (c4 : PySem.W.codeIn K cd4 "numbered" = true) (k4 : PySem.W.keepIn K (.ref f4) = true)
    (a5 : PySem.W.nsIn K mainGlobals "points" = some (some (.ref f5))) (l5 : K.lookup f5 = some ⟨oc5, od5, .func (PySem.W.fnOf "points" "points" (defArgs s_points) (defBody s_points) (defScope s_points) .none kV5 dc5 pm5 an5 cd5 ct5), sl5⟩) (c5 : PySem.W.codeIn K cd5 "points" = true) (k5 : PySem.W.keepIn K (.ref f5) = true)
    (a6 : PySem.W.nsIn K mainGlobals "gaps" = some (some (.ref f6))) (l6 : K.lookup f6 = some ⟨oc6, od6, .func (PySem.W.fnOf "gaps" "gaps" (defArgs s_gaps) (defBody s_gaps) (defScope s_gaps) .none kV6 dc6 pm6 an6 cd6 ct6), sl6⟩) (c6 : PySem.W.codeIn K cd6 "gaps" = true) (k6 : PySem.W.keepIn K (.ref f6) = true)
    (a7 : PySem.W.nsIn K mainGlobals "fenced_hand" = some (some (.ref f7))) (l7 : K.lookup f7 = some ⟨oc7, od7, .func (PySem.W.fnOf "fenced_hand" "fenced_hand" (defArgs s_fencedhand) (defBody s_fencedhand) (defScope s_fencedhand) .none kV7 dc7 pm7 an7 cd7 ct7), sl7⟩) (c7 : PySem.W.codeIn K cd7 "fenced_hand" = true) (k7 : PySem.W.keepIn K (.ref f7) = true)
    (a8 : PySem.W.nsIn K mainGlobals "fenced" = some (some (.ref f8))) (l8 : K.lookup f8 = some ⟨oc8, od8, .func (PySem.W.fnOf "fenced" "fenced" (defArgs s_fenced) (defBody s_fenced) (defScope s_fenced) .none kV8 dc8 pm8 an8 cd8 ct8), sl8⟩) (c8 : PySem.W.codeIn K cd8 "fenced" = true) (k8 : PySem.W.keepIn K (.ref f8) = true)
    (a9 : PySem.W.nsIn K mainGlobals "_law_draw" = some (some (.ref f9))) (l9 : K.lookup f9 = some ⟨oc9, od9, .func (PySem.W.fnOf "_law_draw" "_law_draw" (defArgs s_Ldraw) (defBody s_Ldraw) (defScope s_Ldraw) .none kV9 dc9 pm9 an9 cd9 ct9), sl9⟩) (c9 : PySem.W.codeIn K cd9 "_law_draw" = true) (k9 : PySem.W.keepIn K (.ref f9) = true)
    (a10 : PySem.W.nsIn K mainGlobals "_law_names" = some (some (.ref f10))) (l10 : K.lookup f10 = some ⟨oc10, od10, .func (PySem.W.fnOf "_law_names" "_law_names" (defArgs s_Lnames) (defBody s_Lnames) (defScope s_Lnames) .none kV10 dc10 pm10 an10 cd10 ct10), sl10⟩) (c10 : PySem.W.codeIn K cd10 "_law_names" = true) (k10 : PySem.W.keepIn K (.ref f10) = true)
    (a11 : PySem.W.nsIn K mainGlobals "_law_number" = some (some (.ref f11))) (l11 : K.lookup f11 = some ⟨oc11, od11, .func (PySem.W.fnOf "_law_number" "_law_number" (defArgs s_Lnumber) (defBody s_Lnumber) (defScope s_Lnumber) .none kV11 dc11 pm11 an11 cd11 ct11), sl11⟩) (c11 : PySem.W.codeIn K cd11 "_law_number" = true) (k11 : PySem.W.keepIn K (.ref f11) = true)
    (a12 : PySem.W.nsIn K mainGlobals "_law_place" = some (some (.ref f12))) (l12 : K.lookup f12 = some ⟨oc12, od12, .func (PySem.W.fnOf "_law_place" "_law_place" (defArgs s_Lplace) (defBody s_Lplace) (defScope s_Lplace) .none kV12 dc12 pm12 an12 cd12 ct12), sl12⟩) (c12 : PySem.W.codeIn K cd12 "_law_place" = true) (k12 : PySem.W.keepIn K (.ref f12) = true)
    (a13 : PySem.W.nsIn K mainGlobals "_law_deed" = some (some (.ref f13))) (l13 : K.lookup f13 = some ⟨oc13, od13, .func (PySem.W.fnOf "_law_deed" "_law_deed" (defArgs s_Ldeed) (defBody s_Ldeed) (defScope s_Ldeed) .none kV13 dc13 pm13 an13 cd13 ct13), sl13⟩) (c13 : PySem.W.codeIn K cd13 "_law_deed" = true) (k13 : PySem.W.keepIn K (.ref f13) = true)
    (a14 : PySem.W.nsIn K mainGlobals "_law_long" = some (some (.ref f14))) (l14 : K.lookup f14 = some ⟨oc14, od14, .func (PySem.W.fnOf "_law_long" "_law_long" (defArgs s_Llong) (defBody s_Llong) (defScope s_Llong) .none kV14 dc14 pm14 an14 cd14 ct14), sl14⟩) (c14 : PySem.W.codeIn K cd14 "_law_long" = true) (k14 : PySem.W.keepIn K (.ref f14) = true)
    (a15 : PySem.W.nsIn K mainGlobals "_law_gaps" = some (some (.ref f15))) (l15 : K.lookup f15 = some ⟨oc15, od15, .func (PySem.W.fnOf "_law_gaps" "_law_gaps" (defArgs s_Lgaps) (defBody s_Lgaps) (defScope s_Lgaps) .none kV15 dc15 pm15 an15 cd15 ct15), sl15⟩) (c15 : PySem.W.codeIn K cd15 "_law_gaps" = true) (k15 : PySem.W.keepIn K (.ref f15) = true)
    (a16 : PySem.W.nsIn K mainGlobals "_law_stops" = some (some (.ref f16))) (l16 : K.lookup f16 = some ⟨oc16, od16, .func (PySem.W.fnOf "_law_stops" "_law_stops" (defArgs s_Lstops) (defBody s_Lstops) (defScope s_Lstops) .none kV16 dc16 pm16 an16 cd16 ct16), sl16⟩) (c16 : PySem.W.codeIn K cd16 "_law_stops" = true) (k16 : PySem.W.keepIn K (.ref f16) = true)
    (a17 : PySem.W.nsIn K mainGlobals "_law_stopped" = some (some (.ref f17))) (l17 : K.lookup f17 = some ⟨oc17, od17, .func (PySem.W.fnOf "_law_stopped" "_law_stopped" (defArgs s_Lstopped) (defBody s_Lstopped) (defScope s_Lstopped) .none kV17 dc17 pm17 an17 cd17 ct17), sl17⟩) (c17 : PySem.W.codeIn K cd17 "_law_stopped" = true) (k17 : PySem.W.keepIn K (.ref f17) = true)
    (a18 : PySem.W.nsIn K mainGlobals "_law_alike" = some (some (.ref f18))) (l18 : K.lookup f18 = some ⟨oc18, od18, .func (PySem.W.fnOf "_law_alike" "_law_alike" (defArgs s_Lalike) (defBody s_Lalike) (defScope s_Lalike) .none kV18 dc18 pm18 an18 cd18 ct18), sl18⟩) (c18 : PySem.W.codeIn K cd18 "_law_alike" = true) (k18 : PySem.W.keepIn K (.ref f18) = true)
    (a19 : PySem.W.nsIn K mainGlobals "law" = some (some (.ref f19))) (l19 : K.lookup f19 = some ⟨oc19, od19, .func (PySem.W.fnOf "law" "law" (defArgs s_law) (defBody s_law) (defScope s_law) .none kV19 dc19 pm19 an19 cd19 ct19), sl19⟩) (c19 : PySem.W.codeIn K cd19 "law" = true) (k19 : PySem.W.keepIn K (.ref f19) = true)
    (z_any : PySem.W.nsIn K mainGlobals "any" = some none) (z_bool : PySem.W.nsIn K mainGlobals "bool" = some none) (z_dict : PySem.W.nsIn K mainGlobals "dict" = some none) (z_enumerate : PySem.W.nsIn K mainGlobals "enumerate" = some none) (z_int : PySem.W.nsIn K mainGlobals "int" = some none) (z_isinstance : PySem.W.nsIn K mainGlobals "isinstance" = some none) (z_len : PySem.W.nsIn K mainGlobals "len" = some none) (z_list : PySem.W.nsIn K mainGlobals "list" = some none) (z_range : PySem.W.nsIn K mainGlobals "range" = some none)   :
    ∃ fd : FuncData, (∀ (s : Shared) (v : Value), BindsTo s fd ⟨[v], []⟩ [("_law_script", v)]) ∧ ∀ base : Heap, K.In base → base.Ns mainGlobals mg → FnOk l.prog w K mg base CX0 6 fa fd ["_law_script"] (sp_law K) := by
  have e := hfa.symm.trans (PySem.W.mg_of X G a19)
  cases e
  have T : Txt K mg := ⟨PySem.W.mg_none_of X G z_any, PySem.W.mg_none_of X G z_bool, PySem.W.mg_none_of X G z_dict, PySem.W.mg_none_of X G z_enumerate, PySem.W.mg_none_of X G z_int, PySem.W.mg_none_of X G z_isinstance, PySem.W.mg_none_of X G z_len, PySem.W.mg_none_of X G z_list, PySem.W.mg_none_of X G z_range⟩
  have F0 := fun_mk (st := s_isread) l0 c0 k0
  have b0 := F0.binds (ps := ["deed"]) fun _ _ _ _ _ _ us hl => len_1 (Pp := fun us => bindArgs _ ⟨us, []⟩ = pure (List.zip _ us)) (fun _ => rfl) us hl
  have F1 := fun_mk (st := s_placeof) l1 c1 k1
  have b1 := F1.binds (ps := ["deed"]) fun _ _ _ _ _ _ us hl => len_1 (Pp := fun us => bindArgs _ ⟨us, []⟩ = pure (List.zip _ us)) (fun _ => rfl) us hl
  have F2 := fun_mk (st := s_iswrite) l2 c2 k2
  have b2 := F2.binds (ps := ["deed"]) fun _ _ _ _ _ _ us hl => len_1 (Pp := fun us => bindArgs _ ⟨us, []⟩ = pure (List.zip _ us)) (fun _ => rfl) us hl
  have F3 := fun_mk (st := s_pointdeeds) l3 c3 k3
  have b3 := F3.binds (ps := ["hand"]) fun _ _ _ _ _ _ us hl => len_1 (Pp := fun us => bindArgs _ ⟨us, []⟩ = pure (List.zip _ us)) (fun _ => rfl) us hl
  have F4 := fun_mk (st := s_numbered) l4 c4 k4
  have b4 := F4.binds (ps := ["hand"]) fun _ _ _ _ _ _ us hl => len_1 (Pp := fun us => bindArgs _ ⟨us, []⟩ = pure (List.zip _ us)) (fun _ => rfl) us hl
  have F5 := fun_mk (st := s_points) l5 c5 k5
  have b5 := F5.binds (ps := ["program"]) fun _ _ _ _ _ _ us hl => len_1 (Pp := fun us => bindArgs _ ⟨us, []⟩ = pure (List.zip _ us)) (fun _ => rfl) us hl
  have F6 := fun_mk (st := s_gaps) l6 c6 k6
  have b6 := F6.binds (ps := ["program"]) fun _ _ _ _ _ _ us hl => len_1 (Pp := fun us => bindArgs _ ⟨us, []⟩ = pure (List.zip _ us)) (fun _ => rfl) us hl
  have F7 := fun_mk (st := s_fencedhand) l7 c7 k7
  have b7 := F7.binds (ps := ["h", "hand", "words"]) fun _ _ _ _ _ _ us hl => len_3 (Pp := fun us => bindArgs _ ⟨us, []⟩ = pure (List.zip _ us)) (fun _ _ _ => rfl) us hl
  have F8 := fun_mk (st := s_fenced) l8 c8 k8
  have b8 := F8.binds (ps := ["program", "some"]) fun _ _ _ _ _ _ us hl => len_2 (Pp := fun us => bindArgs _ ⟨us, []⟩ = pure (List.zip _ us)) (fun _ _ => rfl) us hl
  have F9 := fun_mk (st := s_Ldraw) l9 c9 k9
  have b9 := F9.binds (ps := ["_law_script", "_law_k"]) fun _ _ _ _ _ _ us hl => len_2 (Pp := fun us => bindArgs _ ⟨us, []⟩ = pure (List.zip _ us)) (fun _ _ => rfl) us hl
  have F10 := fun_mk (st := s_Lnames) l10 c10 k10
  have b10 := F10.binds (ps := ["_law_x"]) fun _ _ _ _ _ _ us hl => len_1 (Pp := fun us => bindArgs _ ⟨us, []⟩ = pure (List.zip _ us)) (fun _ => rfl) us hl
  have F11 := fun_mk (st := s_Lnumber) l11 c11 k11
  have b11 := F11.binds (ps := ["_law_y"]) fun _ _ _ _ _ _ us hl => len_1 (Pp := fun us => bindArgs _ ⟨us, []⟩ = pure (List.zip _ us)) (fun _ => rfl) us hl
  have F12 := fun_mk (st := s_Lplace) l12 c12 k12
  have b12 := F12.binds (ps := ["_law_deed_here"]) fun _ _ _ _ _ _ us hl => len_1 (Pp := fun us => bindArgs _ ⟨us, []⟩ = pure (List.zip _ us)) (fun _ => rfl) us hl
  have F13 := fun_mk (st := s_Ldeed) l13 c13 k13
  have b13 := F13.binds (ps := ["_law_x", "_law_place_here", "_law_names_here"]) fun _ _ _ _ _ _ us hl => len_3 (Pp := fun us => bindArgs _ ⟨us, []⟩ = pure (List.zip _ us)) (fun _ _ _ => rfl) us hl
  have F14 := fun_mk (st := s_Llong) l14 c14 k14
  have b14 := F14.binds (ps := ["_law_script", "_law_many"]) fun _ _ _ _ _ _ us hl => len_2 (Pp := fun us => bindArgs _ ⟨us, []⟩ = pure (List.zip _ us)) (fun _ _ => rfl) us hl
  have F15 := fun_mk (st := s_Lgaps) l15 c15 k15
  have b15 := F15.binds (ps := ["_law_program"]) fun _ _ _ _ _ _ us hl => len_1 (Pp := fun us => bindArgs _ ⟨us, []⟩ = pure (List.zip _ us)) (fun _ => rfl) us hl
  have F16 := fun_mk (st := s_Lstops) l16 c16 k16
  have b16 := F16.binds (ps := ["_law_program", "_law_script", "_law_start"]) fun _ _ _ _ _ _ us hl => len_3 (Pp := fun us => bindArgs _ ⟨us, []⟩ = pure (List.zip _ us)) (fun _ _ _ => rfl) us hl
  have F17 := fun_mk (st := s_Lstopped) l17 c17 k17
  have b17 := F17.binds (ps := ["_law_program", "_law_some"]) fun _ _ _ _ _ _ us hl => len_2 (Pp := fun us => bindArgs _ ⟨us, []⟩ = pure (List.zip _ us)) (fun _ _ => rfl) us hl
  have F18 := fun_mk (st := s_Lalike) l18 c18 k18
  have b18 := F18.binds (ps := ["_law_found", "_law_due"]) fun _ _ _ _ _ _ us hl => len_2 (Pp := fun us => bindArgs _ ⟨us, []⟩ = pure (List.zip _ us)) (fun _ _ => rfl) us hl
  have F19 := fun_mk (st := s_law) l19 c19 k19
  have b19 := F19.binds (ps := ["_law_script"]) fun _ _ _ _ _ _ us hl => len_1 (Pp := fun us => bindArgs _ ⟨us, []⟩ = pure (List.zip _ us)) (fun _ => rfl) us hl
  refine ⟨PySem.W.fnOf "law" "law" (defArgs s_law) (defBody s_law) (defScope s_law) .none kV19 dc19 pm19 an19 cd19 ct19, fun s v => .of_eq rfl, fun base _ _ => ?_⟩
  have h_isread : Has l.prog w K mg base 1 "is_read" ["deed"] (sp_isread K) := ⟨_, _, ok_isread F0 T , PySem.W.mg_of X G a0, k0, b0⟩
  have h_placeof : Has l.prog w K mg base 2 "place_of" ["deed"] (sp_placeof K) := ⟨_, _, ok_placeof F1 T h_isread, PySem.W.mg_of X G a1, k1, b1⟩
  have h_iswrite : Has l.prog w K mg base 1 "is_write" ["deed"] (sp_iswrite K) := ⟨_, _, ok_iswrite F2 T , PySem.W.mg_of X G a2, k2, b2⟩
  have h_pointdeeds : Has l.prog w K mg base 2 "point_deeds" ["hand"] (sp_pointdeeds K) := ⟨_, _, ok_pointdeeds F3 T h_iswrite h_isread, PySem.W.mg_of X G a3, k3, b3⟩
  have h_numbered : Has l.prog w K mg base 3 "numbered" ["hand"] (sp_numbered K) := ⟨_, _, ok_numbered F4 T h_placeof, PySem.W.mg_of X G a4, k4, b4⟩
  have h_points : Has l.prog w K mg base 3 "points" ["program"] (sp_points K) := ⟨_, _, ok_points F5 T h_pointdeeds, PySem.W.mg_of X G a5, k5, b5⟩
  have h_gaps : Has l.prog w K mg base 4 "gaps" ["program"] (sp_gaps K) := ⟨_, _, ok_gaps F6 T h_points, PySem.W.mg_of X G a6, k6, b6⟩
  have h_fencedhand : Has l.prog w K mg base 4 "fenced_hand" ["h", "hand", "words"] (sp_fencedhand K) := ⟨_, _, ok_fencedhand F7 T h_numbered h_placeof, PySem.W.mg_of X G a7, k7, b7⟩
  have h_fenced : Has l.prog w K mg base 5 "fenced" ["program", "some"] (sp_fenced K) := ⟨_, _, ok_fenced F8 T h_gaps h_fencedhand, PySem.W.mg_of X G a8, k8, b8⟩
  have h_Ldraw : Has l.prog w K mg base 1 "_law_draw" ["_law_script", "_law_k"] (sp_Ldraw K) := ⟨_, _, ok_Ldraw F9 T , PySem.W.mg_of X G a9, k9, b9⟩
  have h_Lnames : Has l.prog w K mg base 1 "_law_names" ["_law_x"] (sp_Lnames K) := ⟨_, _, ok_Lnames F10 T , PySem.W.mg_of X G a10, k10, b10⟩
  have h_Lnumber : Has l.prog w K mg base 1 "_law_number" ["_law_y"] (sp_Lnumber K) := ⟨_, _, ok_Lnumber F11 T , PySem.W.mg_of X G a11, k11, b11⟩
  have h_Lplace : Has l.prog w K mg base 1 "_law_place" ["_law_deed_here"] (sp_Lplace K) := ⟨_, _, ok_Lplace F12 T , PySem.W.mg_of X G a12, k12, b12⟩
  have h_Ldeed : Has l.prog w K mg base 2 "_law_deed" ["_law_x", "_law_place_here", "_law_names_here"] (sp_Ldeed K) := ⟨_, _, ok_Ldeed F13 T h_Lnumber, PySem.W.mg_of X G a13, k13, b13⟩
  have h_Llong : Has l.prog w K mg base 3 "_law_long" ["_law_script", "_law_many"] (sp_Llong K) := ⟨_, _, ok_Llong F14 T h_Ldraw h_Lnames h_Ldeed, PySem.W.mg_of X G a14, k14, b14⟩
  have h_Lgaps : Has l.prog w K mg base 2 "_law_gaps" ["_law_program"] (sp_Lgaps K) := ⟨_, _, ok_Lgaps F15 T h_Lplace, PySem.W.mg_of X G a15, k15, b15⟩
  have h_Lstops : Has l.prog w K mg base 3 "_law_stops" ["_law_program", "_law_script", "_law_start"] (sp_Lstops K) := ⟨_, _, ok_Lstops F16 T h_Lgaps h_Ldraw, PySem.W.mg_of X G a16, k16, b16⟩
  have h_Lstopped : Has l.prog w K mg base 2 "_law_stopped" ["_law_program", "_law_some"] (sp_Lstopped K) := ⟨_, _, ok_Lstopped F17 T h_Lplace, PySem.W.mg_of X G a17, k17, b17⟩
  have h_Lalike : Has l.prog w K mg base 1 "_law_alike" ["_law_found", "_law_due"] (sp_Lalike K) := ⟨_, _, ok_Lalike F18 T , PySem.W.mg_of X G a18, k18, b18⟩
  exact ok_law F19 T h_Ldraw h_Llong h_Lstops h_fenced h_Lstopped h_Lalike
theorem walk {l : PySem.W.OpenLaw} {q : Program} {loose : List Str} {XP : (Str → Option Value) → Heap → Prop} {YP : World → Heap → Prop} {d : DefRec} {K : Params → PySem.W.Frag} (hn : l.most = some 63) (hdf : d.params.defaults = [])
    (hY : ∀ (w : World) (h : Heap), YP w h → (K w.params).In h)
    (F : ∀ (w : World) (mg : Str → Option Value) (fa : Addr) (h : Heap), (K w.params).In h → h.Ns mainGlobals mg → mg d.name = some (.ref fa) →
      ∃ fd : FuncData, (∀ (s : Shared) (u : Value), BindsTo s fd ⟨[u], []⟩ [("_law_script", u)]) ∧ ∀ base : Heap, (K w.params).In base → base.Ns mainGlobals mg → FnOk l.prog w (K w.params) mg base CX0 6 fa fd ["_law_script"] (sp_law (K w.params))) :
    PySem.W.WalkO q loose XP YP l.row.toRowW d [] (fun f vs => PySem.call f vs) :=
  L2.walk_ofB (n := 63) (k := 6) (x := "_law_script") (sp := fun w => sp_law (K w.params)) hn (by decide) hdf ⟨rfl, by decide, by decide⟩ hY F fun _ _ a ns hl hf hS => ⟨a, ns, rfl, hS, hl, hf, fun _ => rfl⟩
end Own
open PySem PySem.W PyProof.Rows
set_option maxRecDepth 100000 in
set_option maxHeartbeats 0 in
theorem PySem.Challenge.cw_latewrite_k61_stops_put_in_holds : PySem.Challenge.rw_latewrite_k61_stops_put_in.Holds := by
  w_on; o_law; z_head; (case hw => w_witness2)
  k_fill
  refine L2.walkX (fun _ => rfl) (Own.walk (l := PySem.Challenge.rw_latewrite_k61_stops_put_in) rfl rfl (fun w h Y => Y) ?F)
  case F =>
    intro w mg fa h KX G hmg
    refine' Own.all_mk KX G hmg ?a0 ?l0 ?c0 ?k0 ?a1 ?l1 ?c1 ?k1 ?a2 ?l2 ?c2 ?k2 ?a3 ?l3 ?c3 ?k3 ?a4 ?l4 ?c4 ?k4 ?a5 ?l5 ?c5 ?k5 ?a6 ?l6 ?c6 ?k6 ?a7 ?l7 ?c7 ?k7 ?a8 ?l8 ?c8 ?k8 ?a9 ?l9 ?c9 ?k9 ?a10 ?l10 ?c10 ?k10 ?a11 ?l11 ?c11 ?k11 ?a12 ?l12 ?c12 ?k12 ?a13 ?l13 ?c13 ?k13 ?a14 ?l14 ?c14 ?k14 ?a15 ?l15 ?c15 ?k15 ?a16 ?l16 ?c16 ?k16 ?a17 ?l17 ?c17 ?k17 ?a18 ?l18 ?c18 ?k18 ?a19 ?l19 ?c19 ?k19 ?z_any ?z_bool ?z_dict ?z_enumerate ?z_int ?z_isinstance ?z_len ?z_list ?z_range
    (case a0 => k_is)
    (case l0 => k_is)
    (case c0 => k_is)
    (case k0 => k_is)
    (case a1 => k_is)
    (case l1 => k_is)
    (case c1 => k_is)
    (case k1 => k_is)
    (case a2 => k_is)
    (case l2 => k_is)
    (case c2 => k_is)
    (case k2 => k_is)
    (case a3 => k_is)
    (case l3 => k_is)
    (case c3 => k_is)
    (case k3 => k_is)
    (case a4 => k_is)
    (case l4 => k_is)
    (case c4 => k_is)
    (case k4 => k_is)
    (case a5 => k_is)
    (case l5 => k_is)
    (case c5 => k_is)
    (case k5 => k_is)
    (case a6 => k_is)
    (case l6 => k_is)
    (case c6 => k_is)
    (case k6 => k_is)
    (case a7 => k_is)
    (case l7 => k_is)
    (case c7 => k_is)
    (case k7 => k_is)
    (case a8 => k_is)
    (case l8 => k_is)
    (case c8 => k_is)
    (case k8 => k_is)
    (case a9 => k_is)
    (case l9 => k_is)
    (case c9 => k_is)
    (case k9 => k_is)
    (case a10 => k_is)
    (case l10 => k_is)
    (case c10 => k_is)
    (case k10 => k_is)
    (case a11 => k_is)
    (case l11 => k_is)
    (case c11 => k_is)
    (case k11 => k_is)
    (case a12 => k_is)
    (case l12 => k_is)
    (case c12 => k_is)
    (case k12 => k_is)
    (case a13 => k_is)
    (case l13 => k_is)
    (case c13 => k_is)
    (case k13 => k_is)
    (case a14 => k_is)
    (case l14 => k_is)
    (case c14 => k_is)
    (case k14 => k_is)
    (case a15 => k_is)
    (case l15 => k_is)
    (case c15 => k_is)
    (case k15 => k_is)
    (case a16 => k_is)
    (case l16 => k_is)
    (case c16 => k_is)
    (case k16 => k_is)
    (case a17 => k_is)
    (case l17 => k_is)
    (case c17 => k_is)
    (case k17 => k_is)
    (case a18 => k_is)
    (case l18 => k_is)
    (case c18 => k_is)
    (case k18 => k_is)
    (case a19 => k_is)
    (case l19 => k_is)
    (case c19 => k_is)
    (case k19 => k_is)
    (case z_any => k_is)
    (case z_bool => k_is)
    (case z_dict => k_is)
    (case z_enumerate => k_is)
    (case z_int => k_is)
    (case z_isinstance => k_is)
    (case z_len => k_is)
    (case z_list => k_is)
    (case z_range => k_is)


