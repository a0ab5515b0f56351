/-
  Plain lists of bytes: what the document's answer takes for a proper text is what the library's decoder takes for valid UTF-8 without a harmful character. No program in it.
-/
import Derived.Test.YteibjmlimcpaoaaDoorProper
import Derived.Lib.ValidLaws
set_option linter.unusedVariables false
set_option linter.unusedSimpArgs false
namespace Go.Proofs.YteibjmlimcpaoaaDoor

/-- no character of a text, as the decoder reads it, is harmful -/
def runesGo : Nat → List UInt8 → Bool
  | 0, _ => true
  | f + 1, l => if l = [] then true else if harmB ((Lib.decodeL l).1 : Int) then false else runesGo f (l.drop (Lib.decodeL l).2)
/-- the same, and each is one -/
def okGo : Nat → List UInt8 → Bool
  | 0, _ => true
  | f + 1, l => if l = [] then true else if (Lib.decodeL l).1 = 65533 ∧ (Lib.decodeL l).2 = 1 then false else if harmB ((Lib.decodeL l).1 : Int) then false else okGo f (l.drop (Lib.decodeL l).2)

theorem okGo_both : ∀ (f : Nat) (l : List UInt8), okGo f l = (Lib.validGoD f l && runesGo f l)
  | 0, l => rfl
  | f + 1, l => by
    rw [okGo, Lib.validGoD, runesGo, okGo_both f]
    by_cases h : l = []
    · simp [h]
    · rw [if_neg h, if_neg h, if_neg h]
      by_cases h2 : (Lib.decodeL l).1 = 65533 ∧ (Lib.decodeL l).2 = 1
      · rw [if_pos h2, if_pos h2]; rfl
      · rw [if_neg h2, if_neg h2]
        cases harmB ((Lib.decodeL l).1 : Int) <;> simp

theorem u8eq (x : Nat) (a : UInt8) : UInt8.ofNat x = a ↔ x % 256 = a.toNat := by
  rw [← UInt8.toNat_inj]
  simp

/-- the test of one character, over numbers -/
def stepN (n b0 b1 b2 b3 : Nat) : Option (Nat × Nat) :=
  if b0 < 128 then some (b0, 1)
  else if b0 < 192 then none
  else if b0 < 224 then (if 2 ≤ n ∧ b1 / 64 = 2 ∧ 128 ≤ b0 % 32 * 64 + b1 % 64 then some (b0 % 32 * 64 + b1 % 64, 2) else none)
  else if b0 < 240 then (if 3 ≤ n ∧ b1 / 64 = 2 ∧ b2 / 64 = 2 ∧ 2048 ≤ b0 % 16 * 4096 + b1 % 64 * 64 + b2 % 64 ∧ (b0 % 16 * 4096 + b1 % 64 * 64 + b2 % 64 < 55296 ∨ 57344 ≤ b0 % 16 * 4096 + b1 % 64 * 64 + b2 % 64) then some (b0 % 16 * 4096 + b1 % 64 * 64 + b2 % 64, 3) else none)
  else (if 4 ≤ n ∧ b0 < 248 ∧ b1 / 64 = 2 ∧ b2 / 64 = 2 ∧ b3 / 64 = 2 ∧ 65536 ≤ b0 % 8 * 262144 + b1 % 64 * 4096 + b2 % 64 * 64 + b3 % 64 ∧ b0 % 8 * 262144 + b1 % 64 * 4096 + b2 % 64 * 64 + b3 % 64 ≤ 1114111 then some (b0 % 8 * 262144 + b1 % 64 * 4096 + b2 % 64 * 64 + b3 % 64, 4) else none)

set_option maxHeartbeats 2000000 in
theorem stepN_decode (n b0 b1 b2 b3 : Nat) (h0 : b0 < 256) :
    (stepN n b0 b1 b2 b3 = none ∧ Lib.decodeN n b0 b1 b2 b3 = (65533, 1)) ∨ (∃ z k, stepN n b0 b1 b2 b3 = some (z, k) ∧ Lib.decodeN n b0 b1 b2 b3 = (z, k) ∧ ¬ (z = 65533 ∧ k = 1)) := by
  unfold stepN Lib.decodeN
  by_cases c1 : b0 < 128
  · right
    refine ⟨b0, 1, ?_, ?_, by omega⟩ <;> simp only [c1, if_true]
  by_cases c2 : b0 < 192
  · left
    simp only [c1, c2, if_false, if_true]
    rw [if_neg (by omega), if_neg (by omega), if_neg (by omega)]
    exact ⟨trivial, rfl⟩
  by_cases c3 : b0 < 224
  · simp only [c1, c2, c3, if_false, if_true]
    by_cases c : 2 ≤ n ∧ b1 / 64 = 2 ∧ 128 ≤ b0 % 32 * 64 + b1 % 64
    · right
      rw [if_pos c, if_pos (by omega), if_pos (by omega)]
      exact ⟨_, _, rfl, rfl, by omega⟩
    · left
      rw [if_neg c]
      refine ⟨rfl, ?_⟩
      by_cases d : b0 / 32 = 6 ∧ (1 < n ∧ b1 / 64 = 2)
      · rw [if_pos d, if_neg (by omega)]
      · rw [if_neg d, if_neg (by omega), if_neg (by omega)]
  by_cases c4 : b0 < 240
  · simp only [c1, c2, c3, c4, if_false, if_true]
    rw [if_neg (show ¬ (b0 / 32 = 6 ∧ (1 < n ∧ b1 / 64 = 2)) by omega)]
    by_cases c : 3 ≤ n ∧ b1 / 64 = 2 ∧ b2 / 64 = 2 ∧ 2048 ≤ b0 % 16 * 4096 + b1 % 64 * 64 + b2 % 64 ∧ (b0 % 16 * 4096 + b1 % 64 * 64 + b2 % 64 < 55296 ∨ 57344 ≤ b0 % 16 * 4096 + b1 % 64 * 64 + b2 % 64)
    · right
      rw [if_pos c, if_pos (by omega), if_pos (by omega)]
      exact ⟨_, _, rfl, rfl, by omega⟩
    · left
      rw [if_neg c]
      refine ⟨rfl, ?_⟩
      by_cases d : b0 / 16 = 14 ∧ (1 < n ∧ b1 / 64 = 2) ∧ (2 < n ∧ b2 / 64 = 2)
      · rw [if_pos d, if_neg (by omega)]
      · rw [if_neg d, if_neg (by omega)]
  · simp only [c1, c2, c3, c4, if_false, if_true]
    rw [if_neg (show ¬ (b0 / 32 = 6 ∧ (1 < n ∧ b1 / 64 = 2)) by omega), if_neg (show ¬ (b0 / 16 = 14 ∧ (1 < n ∧ b1 / 64 = 2) ∧ (2 < n ∧ b2 / 64 = 2)) by omega)]
    by_cases c : 4 ≤ n ∧ b0 < 248 ∧ b1 / 64 = 2 ∧ b2 / 64 = 2 ∧ b3 / 64 = 2 ∧ 65536 ≤ b0 % 8 * 262144 + b1 % 64 * 4096 + b2 % 64 * 64 + b3 % 64 ∧ b0 % 8 * 262144 + b1 % 64 * 4096 + b2 % 64 * 64 + b3 % 64 ≤ 1114111
    · right
      rw [if_pos c, if_pos (by omega), if_pos (by omega)]
      exact ⟨_, _, rfl, rfl, by omega⟩
    · left
      rw [if_neg c]
      refine ⟨rfl, ?_⟩
      by_cases d : b0 / 8 = 30 ∧ (1 < n ∧ b1 / 64 = 2) ∧ (2 < n ∧ b2 / 64 = 2) ∧ (3 < n ∧ b3 / 64 = 2)
      · rw [if_pos d, if_neg (by omega)]
      · rw [if_neg d]

theorem take1 : ∀ (l : List UInt8), 1 ≤ l.length → l.take 1 = [l.getD 0 0]
  | a :: l, _ => rfl
theorem take2 : ∀ (l : List UInt8), 2 ≤ l.length → l.take 2 = [l.getD 0 0, l.getD 1 0]
  | a :: b :: l, _ => rfl
theorem take3 : ∀ (l : List UInt8), 3 ≤ l.length → l.take 3 = [l.getD 0 0, l.getD 1 0, l.getD 2 0]
  | a :: b :: c :: l, _ => rfl
theorem take4 : ∀ (l : List UInt8), 4 ≤ l.length → l.take 4 = [l.getD 0 0, l.getD 1 0, l.getD 2 0, l.getD 3 0]
  | a :: b :: c :: d :: l, _ => rfl

/-- the document's test of one character -/
def stepD (l : List UInt8) : Bool :=
  let k := widthOf (l.getD 0 0).toNat
  let z := decT k l k
  decide (k ≤ l.length ∧ z ≤ 1114111 ∧ ¬ (55296 ≤ z ∧ z ≤ 57343) ∧ utf8L z = l.take k)

set_option maxHeartbeats 2000000 in
theorem stepD_N (l : List UInt8) (h : 0 < l.length) :
    (stepD l = false ∧ stepN l.length (l.getD 0 0).toNat (l.getD 1 0).toNat (l.getD 2 0).toNat (l.getD 3 0).toNat = none) ∨
    (stepD l = true ∧ stepN l.length (l.getD 0 0).toNat (l.getD 1 0).toNat (l.getD 2 0).toNat (l.getD 3 0).toNat = some (decT (widthOf (l.getD 0 0).toNat) l (widthOf (l.getD 0 0).toNat), widthOf (l.getD 0 0).toNat)) := by
  have B0 := (l.getD 0 0).toNat_lt
  have B1 := (l.getD 1 0).toNat_lt
  have B2 := (l.getD 2 0).toNat_lt
  have B3 := (l.getD 3 0).toNat_lt
  unfold stepD
  by_cases c1 : (l.getD 0 0).toNat < 128
  · have hw : widthOf (l.getD 0 0).toNat = 1 := by unfold widthOf; rw [if_neg (by omega), if_neg (by omega), if_neg (by omega)]
    right
    rw [hw]
    have hz : decT 1 l 1 = (l.getD 0 0).toNat := rfl
    simp only [hz]
    refine ⟨decide_eq_true ⟨by omega, by omega, by omega, ?_⟩, ?_⟩
    · rw [take1 l (by omega)]
      unfold utf8L
      rw [if_pos c1]
      congr 1
      rw [u8eq]
      omega
    · unfold stepN; rw [if_pos c1]
  by_cases c2 : (l.getD 0 0).toNat < 192
  · have hw : widthOf (l.getD 0 0).toNat = 1 := by unfold widthOf; rw [if_neg (by omega), if_neg (by omega), if_neg (by omega)]
    left
    rw [hw]
    have hz : decT 1 l 1 = (l.getD 0 0).toNat := rfl
    simp only [hz]
    refine ⟨decide_eq_false ?_, ?_⟩
    · rintro ⟨_, _, _, e⟩
      rw [take1 l (by omega)] at e
      unfold utf8L at e
      rw [if_neg c1, if_pos (by omega)] at e
      simp at e
    · unfold stepN; rw [if_neg c1, if_pos c2]
  by_cases c3 : (l.getD 0 0).toNat < 224
  · have hw : widthOf (l.getD 0 0).toNat = 2 := by unfold widthOf; rw [if_neg (by omega), if_neg (by omega), if_pos (by omega)]
    rw [hw]
    have hz : decT 2 l 2 = (l.getD 0 0).toNat % 32 * 64 + (l.getD 1 0).toNat % 64 := by
      rw [decT_step 2 l 1 (by omega), decT_one, if_neg (by decide)]
      show 64 * ((l.getD 0 0).toNat % 32) + _ = _
      omega
    simp only [hz]
    unfold stepN
    rw [if_neg c1, if_neg c2, if_pos c3]
    by_cases c : 2 ≤ l.length ∧ (l.getD 1 0).toNat / 64 = 2 ∧ 128 ≤ (l.getD 0 0).toNat % 32 * 64 + (l.getD 1 0).toNat % 64
    · right
      rw [if_pos c]
      refine ⟨decide_eq_true ⟨by omega, by omega, by omega, ?_⟩, rfl⟩
      rw [take2 l (by omega)]
      unfold utf8L
      rw [if_neg (by omega), if_pos (by omega)]
      have e1 := (u8eq (192 + ((l.getD 0 0).toNat % 32 * 64 + (l.getD 1 0).toNat % 64) / 64) (l.getD 0 0)).2 (by omega)
      have e2 := (u8eq (128 + ((l.getD 0 0).toNat % 32 * 64 + (l.getD 1 0).toNat % 64) % 64) (l.getD 1 0)).2 (by omega)
      rw [e1, e2]
    · left
      rw [if_neg c]
      refine ⟨decide_eq_false ?_, rfl⟩
      rintro ⟨h1, _, _, e⟩
      rw [take2 l h1] at e
      unfold utf8L at e
      by_cases d : (l.getD 0 0).toNat % 32 * 64 + (l.getD 1 0).toNat % 64 < 128
      · rw [if_pos d] at e
        simp at e
      · rw [if_neg d, if_pos (by omega)] at e
        simp only [List.cons.injEq, and_true] at e
        have e2 := (u8eq _ _).1 e.2
        omega
  by_cases c4 : (l.getD 0 0).toNat < 240
  · have hw : widthOf (l.getD 0 0).toNat = 3 := by unfold widthOf; rw [if_neg (by omega), if_pos (by omega)]
    rw [hw]
    have hz : decT 3 l 3 = (l.getD 0 0).toNat % 16 * 4096 + (l.getD 1 0).toNat % 64 * 64 + (l.getD 2 0).toNat % 64 := by
      rw [decT_step 3 l 2 (by omega), decT_step 3 l 1 (by omega), decT_one, if_neg (by decide)]
      show 64 * (64 * ((l.getD 0 0).toNat % 16) + _) + _ = _
      omega
    simp only [hz]
    unfold stepN
    rw [if_neg c1, if_neg c2, if_neg c3, if_pos c4]
    obtain ⟨Z, hZ⟩ : ∃ Z, (l.getD 0 0).toNat % 16 * 4096 + (l.getD 1 0).toNat % 64 * 64 + (l.getD 2 0).toNat % 64 = Z := ⟨_, rfl⟩
    rw [hZ]
    by_cases c : 3 ≤ l.length ∧ (l.getD 1 0).toNat / 64 = 2 ∧ (l.getD 2 0).toNat / 64 = 2 ∧ 2048 ≤ Z ∧ (Z < 55296 ∨ 57344 ≤ Z)
    · right
      rw [if_pos c]
      refine ⟨decide_eq_true ⟨by omega, by omega, by omega, ?_⟩, rfl⟩
      rw [take3 l (by omega)]
      unfold utf8L
      rw [if_neg (by omega), if_neg (by omega), if_pos (by omega)]
      have e1 := (u8eq (224 + Z / 4096) (l.getD 0 0)).2 (by omega)
      have e2 := (u8eq (128 + Z / 64 % 64) (l.getD 1 0)).2 (by omega)
      have e3 := (u8eq (128 + Z % 64) (l.getD 2 0)).2 (by omega)
      rw [e1, e2, e3]
    · left
      rw [if_neg c]
      refine ⟨decide_eq_false ?_, rfl⟩
      rintro ⟨h1, h2, h3, e⟩
      rw [take3 l h1] at e
      unfold utf8L at e
      by_cases d : Z < 128
      · rw [if_pos d] at e
        simp at e
      by_cases d2 : Z < 2048
      · rw [if_neg d, if_pos d2] at e
        simp at e
      · rw [if_neg d, if_neg d2, if_pos (by omega)] at e
        simp only [List.cons.injEq, and_true] at e
        have e2 := (u8eq _ _).1 e.2.1
        have e3 := (u8eq _ _).1 e.2.2
        omega
  · have hw : widthOf (l.getD 0 0).toNat = 4 := by unfold widthOf; rw [if_pos (by omega)]
    rw [hw]
    have hz : decT 4 l 4 = (l.getD 0 0).toNat % 8 * 262144 + (l.getD 1 0).toNat % 64 * 4096 + (l.getD 2 0).toNat % 64 * 64 + (l.getD 3 0).toNat % 64 := by
      rw [decT_step 4 l 3 (by omega), decT_step 4 l 2 (by omega), decT_step 4 l 1 (by omega), decT_one, if_neg (by decide)]
      show 64 * (64 * (64 * ((l.getD 0 0).toNat % 8) + _) + _) + _ = _
      omega
    simp only [hz]
    unfold stepN
    rw [if_neg c1, if_neg c2, if_neg c3, if_neg c4]
    obtain ⟨Z, hZ⟩ : ∃ Z, (l.getD 0 0).toNat % 8 * 262144 + (l.getD 1 0).toNat % 64 * 4096 + (l.getD 2 0).toNat % 64 * 64 + (l.getD 3 0).toNat % 64 = Z := ⟨_, rfl⟩
    rw [hZ]
    by_cases c : 4 ≤ l.length ∧ (l.getD 0 0).toNat < 248 ∧ (l.getD 1 0).toNat / 64 = 2 ∧ (l.getD 2 0).toNat / 64 = 2 ∧ (l.getD 3 0).toNat / 64 = 2 ∧ 65536 ≤ Z ∧ Z ≤ 1114111
    · right
      rw [if_pos c]
      refine ⟨decide_eq_true ⟨by omega, by omega, by omega, ?_⟩, rfl⟩
      rw [take4 l (by omega)]
      unfold utf8L
      rw [if_neg (by omega), if_neg (by omega), if_neg (by omega)]
      have e1 := (u8eq (240 + Z / 262144) (l.getD 0 0)).2 (by omega)
      have e2 := (u8eq (128 + Z / 4096 % 64) (l.getD 1 0)).2 (by omega)
      have e3 := (u8eq (128 + Z / 64 % 64) (l.getD 2 0)).2 (by omega)
      have e4 := (u8eq (128 + Z % 64) (l.getD 3 0)).2 (by omega)
      rw [e1, e2, e3, e4]
    · left
      rw [if_neg c]
      refine ⟨decide_eq_false ?_, rfl⟩
      rintro ⟨h1, h2, h3, e⟩
      rw [take4 l h1] at e
      unfold utf8L at e
      by_cases d : Z < 128
      · rw [if_pos d] at e
        simp at e
      by_cases d2 : Z < 2048
      · rw [if_neg d, if_pos d2] at e
        simp at e
      by_cases d3 : Z < 65536
      · rw [if_neg d, if_neg d2, if_pos d3] at e
        simp at e
      · rw [if_neg d, if_neg d2, if_neg d3] at e
        simp only [List.cons.injEq, and_true] at e
        have e1 := (u8eq _ _).1 e.1
        have e2 := (u8eq _ _).1 e.2.1
        have e3 := (u8eq _ _).1 e.2.2.1
        have e4 := (u8eq _ _).1 e.2.2.2
        omega

theorem properGo_ok (f : Nat) : ∀ (l : List UInt8), l.length ≤ f → properGo f l = okGo f l := by
  induction f with
  | zero => intro l h; rfl
  | succ f ih =>
    intro l h
    by_cases hne : l = []
    · subst hne; rfl
    have hp : 0 < l.length := List.length_pos_iff.2 hne
    obtain ⟨K, hK⟩ : ∃ K, widthOf (l.getD 0 0).toNat = K := ⟨_, rfl⟩
    obtain ⟨Z, hZ⟩ : ∃ Z, decT K l K = Z := ⟨_, rfl⟩
    have hst := properGo_step (f + 1) l hp h K Z hK hZ
    have hok : okGo (f + 1) l = if (Lib.decodeL l).1 = 65533 ∧ (Lib.decodeL l).2 = 1 then false else if harmB ((Lib.decodeL l).1 : Int) then false else okGo f (l.drop (Lib.decodeL l).2) := by
      rw [okGo, if_neg hne]
    have hd := Lib.decodeL_N l
    have h9 := stepN_decode l.length (l.getD 0 0).toNat (l.getD 1 0).toNat (l.getD 2 0).toNat (l.getD 3 0).toNat (l.getD 0 0).toNat_lt
    rw [← hd] at h9
    have h8 := stepD_N l hp
    unfold stepD at h8
    simp only [hK, hZ] at h8
    have hwp : 1 ≤ K := by rw [← hK]; unfold widthOf; split; omega; split; omega; split <;> omega
    rw [hst, hok]
    rcases h8 with ⟨d1, d2⟩ | ⟨d1, d2⟩
    · rcases h9 with ⟨e1, e2⟩ | ⟨z, k, e1, e2, e3⟩
      · rw [e2, if_pos (show ((65533, 1) : Nat × Nat).1 = 65533 ∧ ((65533, 1) : Nat × Nat).2 = 1 from ⟨rfl, rfl⟩)]
        have d3 := of_decide_eq_false d1
        by_cases q1 : l.length < K
        · rw [if_pos q1]
        rw [if_neg q1]
        split
        · rfl
        by_cases q2 : 1114111 < Z
        · rw [if_pos q2]
        rw [if_neg q2]
        by_cases q3 : 55296 ≤ Z ∧ Z ≤ 57343
        · rw [if_pos q3]
        rw [if_neg q3]
        by_cases q4 : utf8L Z = l.take K
        · exact absurd ⟨by omega, by omega, q3, q4⟩ d3
        · rw [if_pos q4]
      · rw [d2] at e1; cases e1
    · rcases h9 with ⟨e1, e2⟩ | ⟨z, k, e1, e2, e3⟩
      · rw [d2] at e1; cases e1
      · rw [d2] at e1
        simp only [Option.some.injEq, Prod.mk.injEq] at e1
        obtain ⟨rfl, rfl⟩ := e1
        rw [e2, if_neg (show ¬ ((Z, K).1 = 65533 ∧ (Z, K).2 = 1) from e3)]
        obtain ⟨f1, f2, f3, f4⟩ := of_decide_eq_true d1
        have ih' := ih (l.drop K) (by rw [List.length_drop]; omega)
        rw [if_neg (by omega)]
        split
        · rfl
        · rw [if_neg (show ¬ 1114111 < Z by omega)]
          first | rw [if_neg f3] | skip
          rw [if_neg (by rw [f4]; simp)]
          exact ih'

theorem properB_eq (l : List UInt8) : properB l = (if 60 < l.length then false else (Lib.validD l && runesGo l.length l)) := by
  unfold properB
  rw [properGo_ok _ _ (Nat.le_refl _), okGo_both]
  rfl
end Go.Proofs.YteibjmlimcpaoaaDoor
