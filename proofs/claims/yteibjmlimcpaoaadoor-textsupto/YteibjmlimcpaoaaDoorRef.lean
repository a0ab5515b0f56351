/-
  What the document's own answer says of one character: visorref.hex for every number below 65536, visorref.utf8 and visorref.shown for every character; nothing that lay in memory turns.
-/
import Derived.Test.YteibjmlimcpaoaaDoorText
set_option linter.unusedVariables false
namespace Go.Proofs.YteibjmlimcpaoaaDoor.T
open Go.RowKit

theorem digits16 (k : Nat) (h : k < 16) : (ByteArray.mk #[48, 49, 50, 51, 52, 53, 54, 55, 56, 57, 97, 98, 99, 100, 101, 102]).extract k (k + 1) = ⟨#[dig k]⟩ := by
  have : ∀ i : Fin 16, ((ByteArray.mk #[48, 49, 50, 51, 52, 53, 54, 55, 56, 57, 97, 98, 99, 100, 101, 102]).extract i.val (i.val + 1)).data = #[dig i.val] := by decide +kernel
  exact ByteArray.ext (this ⟨k, h⟩)

theorem slice16 (m : Nat) (W : World) : (Instr.slice 9 (.string ⟨#[48, 49, 50, 51, 52, 53, 54, 55, 56, 57, 97, 98, 99, 100, 101, 102]⟩) (some (.int .i64 ((m : Int) % 16))) (some (.int .i64 ((m : Int) % 16 + 1))) none).run Tryd.prog W = .ok (.string ⟨#[dig (m % 16)]⟩) W := by
  rw [run_slice_string W 9 _ .i64 .i64 _ _ Tryd.underlying9 (by omega) (by omega) (by show (m : Int) % 16 + 1 ≤ ((16 : Nat) : Int); omega)]
  rw [show ((m : Int) % 16).toNat = m % 16 by omega, show ((m : Int) % 16 + 1).toNat = m % 16 + 1 by omega, digits16 _ (by omega)]

set_option maxRecDepth 100000 in
set_option maxHeartbeats 1000000 in
theorem hex19 (n : Nat) (w : World) (hn : n < 65536) :
    Calls Tryd.prog 54 #[.int .i64 n] w fun e w' => e = .returned (.string ⟨(hexL n).toArray⟩) ∧ w' = w := by
  have h1 := slice16 n
  go_enter Tryd.func54, Tryd.ntmps54
  go_wp2
  clear h1
  go_loop [0, 3] (fun ns ss => ∃ (f m : Nat) (t : List UInt8), ns = .int .i64 m ∧ ss = .string ⟨t.toArray⟩ ∧ t.length + f = 4 ∧ m < 16 ^ (f + 1) ∧ Hid (hexT f m t = hexL n)) (fun ns _ => (intOf ns).toNat)
  case atStart => exact ⟨3, n, [dig (n % 16)], rfl, rfl, rfl, hn, rfl⟩
  case round =>
    obtain ⟨f, m, t, rfl, rfl, hf, hm, H⟩ := hrel
    have hu2 : m < 65536 * 16 := by
      have : 16 ^ (f + 1) ≤ 16 ^ 5 := Nat.pow_le_pow_right (by omega) (by omega)
      omega
    by_cases hge : 16 ≤ m
    · have h1 := slice16 (m / 16)
      rw [show ((m / 16 : Nat) : Int) = (m : Int) / 16 by omega] at h1
      obtain ⟨g, rfl⟩ : ∃ g, f = g + 1 := ⟨f - 1, by
        rcases f with _ | f
        · simp at hm; omega
        · rfl⟩
      go_wp2
      refine ⟨⟨g, m / 16, dig (m / 16 % 16) :: t, by go_num, ?_, by simp; omega, ?_, ?_⟩, by simp [intOf]; omega⟩
      · rw [ba_append]
        simp
      · rw [Nat.pow_succ] at hm
        omega
      · have h2 := H.out
        rw [hexT, if_neg (by omega)] at h2
        exact h2
    · have h2 := H.out
      have h3 : hexT f m t = t := by
        cases f with
        | zero => rfl
        | succ f => rw [hexT, if_pos (by omega)]
      rw [h3] at h2
      have H2 := Lib.hid h2
      clear h2 h3 H
      go_wp2
      go_ret
      refine ⟨?_, rfl⟩
      rw [← H2.out]
      rfl

theorem run_conv (w : World) (l : List UInt8) (cs : Array Value) (hl : cs.toList = Lib.byteCells l) (n : Nat) (hn : n = l.length) :
    (convert 62 9 (.slice (some ⟨w.heap.size, 0, none⟩) n n)).run Tryd.prog (w.alloc (.cells cs 5)) = .ok (.string ⟨l.toArray⟩) (w.alloc (.cells cs 5)) := by
  subst hn
  refine run_convert_bytes_back _ 62 9 5 ⟨w.heap.size, 0, none⟩ _ l Tryd.underlying62 Tryd.underlying5 Tryd.underlying9 ?_
  intro j hj
  rw [addr_add, World.cell?_alloc_new, ← Array.getElem?_toList, hl]
  simp [Lib.byteCells, hj]

set_option maxRecDepth 100000 in
set_option maxHeartbeats 1000000 in
theorem utf20_1 (n : Nat) (w : World) (h : n < 128) :
    Calls Tryd.prog 55 #[.int .i64 n] w fun e w' => e = .returned (.string ⟨(utf8L n).toArray⟩) ∧ Below w.heap.size w w' := by
  have hf : utf8L n = [UInt8.ofNat n] := by unfold utf8L; rw [if_pos h]
  obtain ⟨l, hl⟩ : ∃ l, utf8L n = l := ⟨_, rfl⟩
  rw [hl]
  rw [hl] at hf
  have hc := run_conv w l #[.int .u8 (n : Int)] (by rw [hf]; simp [Lib.byteCells]; omega) 1 (by rw [hf]; rfl)
  clear hf hl
  go_enter Tryd.func55, Tryd.ntmps55
  go_wp2
  go_ret
  exact ⟨rfl, (Below.refl _ _).alloc (Nat.le_refl _) _⟩

set_option maxRecDepth 100000 in
set_option maxHeartbeats 1000000 in
theorem utf20_2 (n : Nat) (w : World) (h : 128 ≤ n) (h1 : n < 2048) :
    Calls Tryd.prog 55 #[.int .i64 n] w fun e w' => e = .returned (.string ⟨(utf8L n).toArray⟩) ∧ Below w.heap.size w w' := by
  have hf : utf8L n = [UInt8.ofNat (192 + n / 64), UInt8.ofNat (128 + n % 64)] := by unfold utf8L; rw [if_neg (by omega), if_pos h1]
  obtain ⟨l, hl⟩ : ∃ l, utf8L n = l := ⟨_, rfl⟩
  rw [hl]
  rw [hl] at hf
  have hc := run_conv w l #[.int .u8 (192 + (n : Int) / 64), .int .u8 (128 + (n : Int) % 64)] (by rw [hf]; simp [Lib.byteCells]; omega) 2 (by rw [hf]; rfl)
  clear hf hl
  go_enter Tryd.func55, Tryd.ntmps55
  go_wp2
  go_ret
  exact ⟨rfl, (Below.refl _ _).alloc (Nat.le_refl _) _⟩

set_option maxRecDepth 100000 in
set_option maxHeartbeats 1000000 in
theorem utf20_3 (n : Nat) (w : World) (h : 2048 ≤ n) (h1 : n < 65536) :
    Calls Tryd.prog 55 #[.int .i64 n] w fun e w' => e = .returned (.string ⟨(utf8L n).toArray⟩) ∧ Below w.heap.size w w' := by
  have hf : utf8L n = [UInt8.ofNat (224 + n / 4096), UInt8.ofNat (128 + n / 64 % 64), UInt8.ofNat (128 + n % 64)] := by unfold utf8L; rw [if_neg (by omega), if_neg (by omega), if_pos h1]
  obtain ⟨l, hl⟩ : ∃ l, utf8L n = l := ⟨_, rfl⟩
  rw [hl]
  rw [hl] at hf
  have hc := run_conv w l #[.int .u8 (224 + (n : Int) / 4096), .int .u8 (128 + (n : Int) / 64 % 64), .int .u8 (128 + (n : Int) % 64)] (by rw [hf]; simp [Lib.byteCells]; omega) 3 (by rw [hf]; rfl)
  clear hf hl
  obtain ⟨x, hx⟩ : ∃ x : Int, (n : Int) = x := ⟨_, rfl⟩
  rw [hx] at hc
  rw [hx]
  have g0 : 0 ≤ x := by omega
  have g1 : 128 ≤ x := by omega
  have g2 : 2048 ≤ x := by omega
  have g3 : 2048 ≤ x := by omega
  have g4 : x < 65536 := by omega
  clear hx h h1
  go_enter Tryd.func55, Tryd.ntmps55
  go_wp2
  go_ret
  exact ⟨rfl, (Below.refl _ _).alloc (Nat.le_refl _) _⟩

set_option maxRecDepth 100000 in
set_option maxHeartbeats 1000000 in
theorem utf20_4 (n : Nat) (w : World) (h : 65536 ≤ n) (h1 : n ≤ 1114111) :
    Calls Tryd.prog 55 #[.int .i64 n] w fun e w' => e = .returned (.string ⟨(utf8L n).toArray⟩) ∧ Below w.heap.size w w' := by
  have hf : utf8L n = [UInt8.ofNat (240 + n / 262144), UInt8.ofNat (128 + n / 4096 % 64), UInt8.ofNat (128 + n / 64 % 64), UInt8.ofNat (128 + n % 64)] := by unfold utf8L; rw [if_neg (by omega), if_neg (by omega), if_neg (by omega)]
  obtain ⟨l, hl⟩ : ∃ l, utf8L n = l := ⟨_, rfl⟩
  rw [hl]
  rw [hl] at hf
  have hc := run_conv w l #[.int .u8 (240 + (n : Int) / 262144), .int .u8 (128 + (n : Int) / 4096 % 64), .int .u8 (128 + (n : Int) / 64 % 64), .int .u8 (128 + (n : Int) % 64)] (by rw [hf]; simp [Lib.byteCells]; omega) 4 (by rw [hf]; rfl)
  clear hf hl
  obtain ⟨x, hx⟩ : ∃ x : Int, (n : Int) = x := ⟨_, rfl⟩
  rw [hx] at hc
  rw [hx]
  have g0 : 0 ≤ x := by omega
  have g1 : 128 ≤ x := by omega
  have g2 : 2048 ≤ x := by omega
  have g3 : 65536 ≤ x := by omega
  have g4 : x ≤ 1114111 := by omega
  clear hx h h1
  go_enter Tryd.func55, Tryd.ntmps55
  go_wp2
  go_ret
  exact ⟨rfl, (Below.refl _ _).alloc (Nat.le_refl _) _⟩

theorem utf20 (n : Nat) (w : World) (h : n ≤ 1114111) :
    Calls Tryd.prog 55 #[.int .i64 n] w fun e w' => e = .returned (.string ⟨(utf8L n).toArray⟩) ∧ Below w.heap.size w w' := by
  by_cases c1 : n < 128
  · exact utf20_1 n w c1
  by_cases c2 : n < 2048
  · exact utf20_2 n w (by omega) c2
  by_cases c3 : n < 65536
  · exact utf20_3 n w (by omega) c3
  exact utf20_4 n w (by omega) h

set_option maxRecDepth 100000 in
set_option maxHeartbeats 1000000 in
theorem shown12_a (n : Nat) (w : World) (hn : n < 65536) (hh : harmB n = true) :
    Calls Tryd.prog 31 #[.int .i64 n] w fun e w' => e = .returned (.string ⟨(60 :: hexL n ++ [62]).toArray⟩) ∧ Below w.heap.size w w' := by
  have hl := hexL_length n
  have F := Lib.hid (hex19 n w hn)
  have G := Lib.hid (fun w => harm13 n w)
  rw [hh] at G
  clear hh
  generalize hexL n = l at *
  go_enter Tryd.func31, Tryd.ntmps31
  go_wp2_with (first | (go_at_call 32; refine (G.out _).mono ?_; rintro e w' ⟨rfl, rfl⟩) | (go_at_call 54; refine F.out.mono ?_; rintro e w' ⟨rfl, rfl⟩))
  go_ret
  refine ⟨ret_str ?_, Below.refl _ _⟩
  rw [ba_append, ba_append]
  simp

set_option maxRecDepth 100000 in
set_option maxHeartbeats 1000000 in
theorem shown12_b (w : World) :
    Calls Tryd.prog 31 #[.int .i64 60] w fun e w' => e = .returned (.string ⟨(60 :: hexL 60 ++ [62]).toArray⟩) ∧ Below w.heap.size w w' := by
  have hl := hexL_length 60
  have F := Lib.hid (hex19 60 w (by omega))
  have G := Lib.hid (fun w => harm13 60 w)
  rw [show harmB 60 = false by decide] at G
  generalize hexL 60 = l at *
  go_enter Tryd.func31, Tryd.ntmps31
  go_wp2_with (first | (go_at_call 32; refine (G.out _).mono ?_; rintro e w' ⟨rfl, rfl⟩) | (go_at_call 54; refine F.out.mono ?_; rintro e w' ⟨rfl, rfl⟩))
  go_ret
  refine ⟨ret_str ?_, Below.refl _ _⟩
  rw [ba_append, ba_append]
  simp

set_option maxRecDepth 100000 in
set_option maxHeartbeats 1000000 in
theorem shown12_c (n : Nat) (w : World) (hn : n ≤ 1114111) (h60 : ((n : Int) == 60) = false) (hh : harmB n = false) :
    Calls Tryd.prog 31 #[.int .i64 n] w fun e w' => e = .returned (.string ⟨(utf8L n).toArray⟩) ∧ Below w.heap.size w w' := by
  have F := Lib.hid (utf20 n w hn)
  have G := Lib.hid (fun w => harm13 n w)
  rw [hh] at G
  clear hh
  go_enter Tryd.func31, Tryd.ntmps31
  go_wp2_with (first | (go_at_call 32; refine (G.out _).mono ?_; rintro e w' ⟨rfl, rfl⟩) | (go_at_call 55; refine F.out.mono ?_; rintro e w' ⟨rfl, hb⟩))
  go_ret
  exact ⟨rfl, hb⟩

theorem shown12 (n : Nat) (w : World) (hn : okC n) :
    Calls Tryd.prog 31 #[.int .i64 n] w fun e w' => e = .returned (.string ⟨(shownL n).toArray⟩) ∧ Below w.heap.size w w' := by
  unfold shownL spelt
  rw [Int.toNat_natCast]
  cases hh : harmB (n : Int)
  · by_cases h60 : n = 60
    · subst h60
      exact shown12_b w
    · have h6 : ((n : Int) == 60) = false := by simp; omega
      rw [h6]
      exact shown12_c n w hn.1 h6 hh
  · have := harm_small hh
    exact shown12_a n w (by omega) hh
end Go.Proofs.YteibjmlimcpaoaaDoor.T
