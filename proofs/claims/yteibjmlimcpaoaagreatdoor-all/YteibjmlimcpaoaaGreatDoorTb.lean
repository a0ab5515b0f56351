/-
  What the document's own answer says of one character: visorref.hex for every number below 65536, visorref.utf8 and visorref.shown for every character; nothing that lay in memory turns.
  What visorref.narrow answers, for every string of at most 1048576 bytes: a new slice that holds the characters; nothing that lay in memory turns.
  What visorref.wide answers, for every string of an even number of at most 1048576 bytes: a new slice that holds the characters; nothing that lay in memory turns.
  What visorref.Text answers on platform 1, for every string of at most 1048576 bytes and every limit; nothing that lay in memory turns.
  What visorref.Text answers on platform 0, for every string of an even number of at most 1048576 bytes and every limit; nothing that lay in memory turns.
  What visorref.Text answers on platform 3 with the encoding 1, for every string of an even number of at most 1048576 bytes and every limit; nothing that lay in memory turns.
  What visorref.Text answers on platform 3 with the encoding 10, for every string of an even number of at most 1048576 bytes and every limit; nothing that lay in memory turns.
  What visorref.Text answers, for every platform, encoding, string of at most 1048576 bytes and limit: what visor.Text answers; and that the law Texts then answers true.
-/
import Derived.Test.YteibjmlimcpaoaaGreatDoorTa
set_option linter.unusedVariables false
namespace Go.Proofs.YteibjmlimcpaoaaGreatDoor.T
open Go.RowKit

theorem digits16 (k : Nat) (h : k < 16) : (ByteArray.mk #[48, 49, 50, 51, 52, 53, 54, 55, 56, 57, 97, 98, 99, 100, 101, 102]).extract k (k + 1) = ⟨#[dig k]⟩ := by
  have : ∀ i : Fin 16, ((ByteArray.mk #[48, 49, 50, 51, 52, 53, 54, 55, 56, 57, 97, 98, 99, 100, 101, 102]).extract i.val (i.val + 1)).data = #[dig i.val] := by decide +kernel
  exact ByteArray.ext (this ⟨k, h⟩)

theorem slice16 (m : Nat) (W : World) : (Instr.slice 9 (.string ⟨#[48, 49, 50, 51, 52, 53, 54, 55, 56, 57, 97, 98, 99, 100, 101, 102]⟩) (some (.int .i64 ((m : Int) % 16))) (some (.int .i64 ((m : Int) % 16 + 1))) none).run Tryz.prog W = .ok (.string ⟨#[dig (m % 16)]⟩) W := by
  rw [run_slice_string W 9 _ .i64 .i64 _ _ Tryz.underlying9 (by omega) (by omega) (by show (m : Int) % 16 + 1 ≤ ((16 : Nat) : Int); omega)]
  rw [show ((m : Int) % 16).toNat = m % 16 by omega, show ((m : Int) % 16 + 1).toNat = m % 16 + 1 by omega, digits16 _ (by omega)]

set_option maxRecDepth 100000 in
set_option maxHeartbeats 1000000 in
theorem hex19 (n : Nat) (w : World) (hn : n < 65536) :
    Calls Tryz.prog 124 #[.int .i64 n] w fun e w' => e = .returned (.string ⟨(hexL n).toArray⟩) ∧ w' = w := by
  have h1 := slice16 n
  go_enter Tryz.func124, Tryz.ntmps124
  go_wp2
  clear h1
  go_loop [0, 3] (fun ns ss => ∃ (f m : Nat) (t : List UInt8), ns = .int .i64 m ∧ ss = .string ⟨t.toArray⟩ ∧ t.length + f = 4 ∧ m < 16 ^ (f + 1) ∧ Hid (hexT f m t = hexL n)) (fun ns _ => (intOf ns).toNat)
  case atStart => exact ⟨3, n, [dig (n % 16)], rfl, rfl, rfl, hn, rfl⟩
  case round =>
    obtain ⟨f, m, t, rfl, rfl, hf, hm, H⟩ := hrel
    have hu2 : m < 65536 * 16 := by
      have : 16 ^ (f + 1) ≤ 16 ^ 5 := Nat.pow_le_pow_right (by omega) (by omega)
      omega
    by_cases hge : 16 ≤ m
    · have h1 := slice16 (m / 16)
      rw [show ((m / 16 : Nat) : Int) = (m : Int) / 16 by omega] at h1
      obtain ⟨g, rfl⟩ : ∃ g, f = g + 1 := ⟨f - 1, by
        rcases f with _ | f
        · simp at hm; omega
        · rfl⟩
      go_wp2
      refine ⟨⟨g, m / 16, dig (m / 16 % 16) :: t, by go_num, ?_, by simp; omega, ?_, ?_⟩, by simp [intOf]; omega⟩
      · rw [ba_append]
        simp
      · rw [Nat.pow_succ] at hm
        omega
      · have h2 := H.out
        rw [hexT, if_neg (by omega)] at h2
        exact h2
    · have h2 := H.out
      have h3 : hexT f m t = t := by
        cases f with
        | zero => rfl
        | succ f => rw [hexT, if_pos (by omega)]
      rw [h3] at h2
      have H2 := Lib.hid h2
      clear h2 h3 H
      go_wp2
      go_ret
      refine ⟨?_, rfl⟩
      rw [← H2.out]
      rfl

theorem run_conv (w : World) (l : List UInt8) (cs : Array Value) (hl : cs.toList = Lib.byteCells l) (n : Nat) (hn : n = l.length) :
    (convert 143 9 (.slice (some ⟨w.heap.size, 0, none⟩) n n)).run Tryz.prog (w.alloc (.cells cs 5)) = .ok (.string ⟨l.toArray⟩) (w.alloc (.cells cs 5)) := by
  subst hn
  refine run_convert_bytes_back _ 143 9 5 ⟨w.heap.size, 0, none⟩ _ l Tryz.underlying143 Tryz.underlying5 Tryz.underlying9 ?_
  intro j hj
  rw [addr_add, World.cell?_alloc_new, ← Array.getElem?_toList, hl]
  simp [Lib.byteCells, hj]

set_option maxRecDepth 100000 in
set_option maxHeartbeats 1000000 in
theorem utf20_1 (n : Nat) (w : World) (h : n < 128) :
    Calls Tryz.prog 125 #[.int .i64 n] w fun e w' => e = .returned (.string ⟨(utf8L n).toArray⟩) ∧ Below w.heap.size w w' := by
  have hf : utf8L n = [UInt8.ofNat n] := by unfold utf8L; rw [if_pos h]
  obtain ⟨l, hl⟩ : ∃ l, utf8L n = l := ⟨_, rfl⟩
  rw [hl]
  rw [hl] at hf
  have hc := run_conv w l #[.int .u8 (n : Int)] (by rw [hf]; simp [Lib.byteCells]; omega) 1 (by rw [hf]; rfl)
  clear hf hl
  go_enter Tryz.func125, Tryz.ntmps125
  go_wp2
  go_ret
  exact ⟨rfl, (Below.refl _ _).alloc (Nat.le_refl _) _⟩

set_option maxRecDepth 100000 in
set_option maxHeartbeats 1000000 in
theorem utf20_2 (n : Nat) (w : World) (h : 128 ≤ n) (h1 : n < 2048) :
    Calls Tryz.prog 125 #[.int .i64 n] w fun e w' => e = .returned (.string ⟨(utf8L n).toArray⟩) ∧ Below w.heap.size w w' := by
  have hf : utf8L n = [UInt8.ofNat (192 + n / 64), UInt8.ofNat (128 + n % 64)] := by unfold utf8L; rw [if_neg (by omega), if_pos h1]
  obtain ⟨l, hl⟩ : ∃ l, utf8L n = l := ⟨_, rfl⟩
  rw [hl]
  rw [hl] at hf
  have hc := run_conv w l #[.int .u8 (192 + (n : Int) / 64), .int .u8 (128 + (n : Int) % 64)] (by rw [hf]; simp [Lib.byteCells]; omega) 2 (by rw [hf]; rfl)
  clear hf hl
  go_enter Tryz.func125, Tryz.ntmps125
  go_wp2
  go_ret
  exact ⟨rfl, (Below.refl _ _).alloc (Nat.le_refl _) _⟩

set_option maxRecDepth 100000 in
set_option maxHeartbeats 1000000 in
theorem utf20_3 (n : Nat) (w : World) (h : 2048 ≤ n) (h1 : n < 65536) :
    Calls Tryz.prog 125 #[.int .i64 n] w fun e w' => e = .returned (.string ⟨(utf8L n).toArray⟩) ∧ Below w.heap.size w w' := by
  have hf : utf8L n = [UInt8.ofNat (224 + n / 4096), UInt8.ofNat (128 + n / 64 % 64), UInt8.ofNat (128 + n % 64)] := by unfold utf8L; rw [if_neg (by omega), if_neg (by omega), if_pos h1]
  obtain ⟨l, hl⟩ : ∃ l, utf8L n = l := ⟨_, rfl⟩
  rw [hl]
  rw [hl] at hf
  have hc := run_conv w l #[.int .u8 (224 + (n : Int) / 4096), .int .u8 (128 + (n : Int) / 64 % 64), .int .u8 (128 + (n : Int) % 64)] (by rw [hf]; simp [Lib.byteCells]; omega) 3 (by rw [hf]; rfl)
  clear hf hl
  obtain ⟨x, hx⟩ : ∃ x : Int, (n : Int) = x := ⟨_, rfl⟩
  rw [hx] at hc
  rw [hx]
  have g0 : 0 ≤ x := by omega
  have g1 : 128 ≤ x := by omega
  have g2 : 2048 ≤ x := by omega
  have g3 : 2048 ≤ x := by omega
  have g4 : x < 65536 := by omega
  clear hx h h1
  go_enter Tryz.func125, Tryz.ntmps125
  go_wp2
  go_ret
  exact ⟨rfl, (Below.refl _ _).alloc (Nat.le_refl _) _⟩

set_option maxRecDepth 100000 in
set_option maxHeartbeats 1000000 in
theorem utf20_4 (n : Nat) (w : World) (h : 65536 ≤ n) (h1 : n ≤ 1114111) :
    Calls Tryz.prog 125 #[.int .i64 n] w fun e w' => e = .returned (.string ⟨(utf8L n).toArray⟩) ∧ Below w.heap.size w w' := by
  have hf : utf8L n = [UInt8.ofNat (240 + n / 262144), UInt8.ofNat (128 + n / 4096 % 64), UInt8.ofNat (128 + n / 64 % 64), UInt8.ofNat (128 + n % 64)] := by unfold utf8L; rw [if_neg (by omega), if_neg (by omega), if_neg (by omega)]
  obtain ⟨l, hl⟩ : ∃ l, utf8L n = l := ⟨_, rfl⟩
  rw [hl]
  rw [hl] at hf
  have hc := run_conv w l #[.int .u8 (240 + (n : Int) / 262144), .int .u8 (128 + (n : Int) / 4096 % 64), .int .u8 (128 + (n : Int) / 64 % 64), .int .u8 (128 + (n : Int) % 64)] (by rw [hf]; simp [Lib.byteCells]; omega) 4 (by rw [hf]; rfl)
  clear hf hl
  obtain ⟨x, hx⟩ : ∃ x : Int, (n : Int) = x := ⟨_, rfl⟩
  rw [hx] at hc
  rw [hx]
  have g0 : 0 ≤ x := by omega
  have g1 : 128 ≤ x := by omega
  have g2 : 2048 ≤ x := by omega
  have g3 : 65536 ≤ x := by omega
  have g4 : x ≤ 1114111 := by omega
  clear hx h h1
  go_enter Tryz.func125, Tryz.ntmps125
  go_wp2
  go_ret
  exact ⟨rfl, (Below.refl _ _).alloc (Nat.le_refl _) _⟩

theorem utf20 (n : Nat) (w : World) (h : n ≤ 1114111) :
    Calls Tryz.prog 125 #[.int .i64 n] w fun e w' => e = .returned (.string ⟨(utf8L n).toArray⟩) ∧ Below w.heap.size w w' := by
  by_cases c1 : n < 128
  · exact utf20_1 n w c1
  by_cases c2 : n < 2048
  · exact utf20_2 n w (by omega) c2
  by_cases c3 : n < 65536
  · exact utf20_3 n w (by omega) c3
  exact utf20_4 n w (by omega) h

set_option maxRecDepth 100000 in
set_option maxHeartbeats 1000000 in
theorem shown12_a (n : Nat) (w : World) (hn : n < 65536) (hh : harmB n = true) :
    Calls Tryz.prog 86 #[.int .i64 n] w fun e w' => e = .returned (.string ⟨(60 :: hexL n ++ [62]).toArray⟩) ∧ Below w.heap.size w w' := by
  have hl := hexL_length n
  have F := Lib.hid (hex19 n w hn)
  have G := Lib.hid (fun w => harm13 n w)
  rw [hh] at G
  clear hh
  generalize hexL n = l at *
  go_enter Tryz.func86, Tryz.ntmps86
  go_wp2_with (first | (go_at_call 87; refine (G.out _).mono ?_; rintro e w' ⟨rfl, rfl⟩) | (go_at_call 124; refine F.out.mono ?_; rintro e w' ⟨rfl, rfl⟩))
  go_ret
  refine ⟨ret_str ?_, Below.refl _ _⟩
  rw [ba_append, ba_append]
  simp

set_option maxRecDepth 100000 in
set_option maxHeartbeats 1000000 in
theorem shown12_b (w : World) :
    Calls Tryz.prog 86 #[.int .i64 60] w fun e w' => e = .returned (.string ⟨(60 :: hexL 60 ++ [62]).toArray⟩) ∧ Below w.heap.size w w' := by
  have hl := hexL_length 60
  have F := Lib.hid (hex19 60 w (by omega))
  have G := Lib.hid (fun w => harm13 60 w)
  rw [show harmB 60 = false by decide] at G
  generalize hexL 60 = l at *
  go_enter Tryz.func86, Tryz.ntmps86
  go_wp2_with (first | (go_at_call 87; refine (G.out _).mono ?_; rintro e w' ⟨rfl, rfl⟩) | (go_at_call 124; refine F.out.mono ?_; rintro e w' ⟨rfl, rfl⟩))
  go_ret
  refine ⟨ret_str ?_, Below.refl _ _⟩
  rw [ba_append, ba_append]
  simp

set_option maxRecDepth 100000 in
set_option maxHeartbeats 1000000 in
theorem shown12_c (n : Nat) (w : World) (hn : n ≤ 1114111) (h60 : ((n : Int) == 60) = false) (hh : harmB n = false) :
    Calls Tryz.prog 86 #[.int .i64 n] w fun e w' => e = .returned (.string ⟨(utf8L n).toArray⟩) ∧ Below w.heap.size w w' := by
  have F := Lib.hid (utf20 n w hn)
  have G := Lib.hid (fun w => harm13 n w)
  rw [hh] at G
  clear hh
  go_enter Tryz.func86, Tryz.ntmps86
  go_wp2_with (first | (go_at_call 87; refine (G.out _).mono ?_; rintro e w' ⟨rfl, rfl⟩) | (go_at_call 125; refine F.out.mono ?_; rintro e w' ⟨rfl, hb⟩))
  go_ret
  exact ⟨rfl, hb⟩

theorem shown12 (n : Nat) (w : World) (hn : okC n) :
    Calls Tryz.prog 86 #[.int .i64 n] w fun e w' => e = .returned (.string ⟨(shownL n).toArray⟩) ∧ Below w.heap.size w w' := by
  unfold shownL spelt
  rw [Int.toNat_natCast]
  cases hh : harmB (n : Int)
  · by_cases h60 : n = 60
    · subst h60
      exact shown12_b w
    · have h6 : ((n : Int) == 60) = false := by simp; omega
      rw [h6]
      exact shown12_c n w hn.1 h6 hh
  · have := harm_small hh
    exact shown12_a n w (by omega) hh
end Go.Proofs.YteibjmlimcpaoaaGreatDoor.T

set_option linter.unusedVariables false
namespace Go.Proofs.YteibjmlimcpaoaaGreatDoor.T
open Go.RowKit

def flat : List (Nat × Bool) → List Value
  | [] => []
  | x :: r => .int .i64 (x.1 : Int) :: .bool x.2 :: flat r
theorem flat_append (a b : List (Nat × Bool)) : flat (a ++ b) = flat a ++ flat b := by
  induction a with
  | nil => rfl
  | cons x a ih => simp [flat, ih]
theorem info32 : (Tryz.prog.info? 159).map (fun i => (i.zero, i.size, i.bytes)) = some (some (.agg #[.int .i64 0, .bool false]), 2, 16) := by kernel_rfl
theorem cell_two_new (w : World) (a b : Value) (t : TypeId) : ∀ j u, [a, b][j]? = some u → (w.alloc (.cells #[a, b] t)).cell? ((⟨w.heap.size, 0, none⟩ : Addr).add j) = some u := by
  intro j u hj
  rw [addr_add, World.cell?_alloc_new]
  match j, hj with
  | 0, hj => simpa using hj
  | 1, hj => simpa using hj
theorem ownsRow_on {w w' : World} {base e size : Nat} {v : Value} {n : Nat} {xs : List Value} (h : w.ownsRow base e size v n xs) (hb : Below w.heap.size w w') : w'.ownsRow base e size v n xs :=
  h.kept (row := none) ⟨hb.os, hb.tape, hb.output, hb.size, fun k hk _ => hb.block k hk⟩ (by cases hv : v.ownBlock <;> simp)

theorem letters_from (first : List UInt8 → Nat × Nat × Bool) (s : List UInt8) (k : Nat) (h : k < s.length) :
    letters first (s.length - k) (s.drop k) = ((first (s.drop k)).1, (first (s.drop k)).2.2) :: letters first (s.length - k - 1) (s.drop (k + (first (s.drop k)).2.1)) := by
  rw [letters_step first _ _ (by simp; omega) (by simp), List.drop_drop]

/-- more steps than bytes serve no more -/
theorem letters_fuel (first : List UInt8 → Nat × Nat × Bool) (h1 : ∀ l, 1 ≤ (first l).2.1) : ∀ (f : Nat) (l : List UInt8), l.length ≤ f → letters first f l = letters first l.length l
  | 0, l, h => by
    have : l = [] := List.eq_nil_of_length_eq_zero (by omega)
    subst this
    rfl
  | f + 1, [], h => rfl
  | f + 1, a :: l, h => by
    have h2 := h1 (a :: l)
    have hd : ((a :: l).drop (first (a :: l)).2.1).length ≤ l.length := by simp; omega
    have e1 := letters_fuel first h1 f ((a :: l).drop (first (a :: l)).2.1) (by simp at h; omega)
    have e2 := letters_fuel first h1 l.length ((a :: l).drop (first (a :: l)).2.1) hd
    show _ :: letters first f _ = _ :: letters first l.length _
    rw [e1, e2]

theorem firstN_pos (l : List UInt8) : 1 ≤ (firstN l).2.1 := by unfold firstN; split <;> simp
theorem firstW_pos (l : List UInt8) : 1 ≤ (firstW l).2.1 := by
  unfold firstW
  split
  · simp
  · split <;> simp

theorem letters_next (first : List UInt8 → Nat × Nat × Bool) (h1 : ∀ l, 1 ≤ (first l).2.1) (s : List UInt8) (k : Nat) (h : k < s.length) (v sz : Nat) (br : Bool) (hf : first (s.drop k) = (v, sz, br)) (ls L : List (Nat × Bool))
    (H : ls ++ letters first (s.length - k) (s.drop k) = L) : (ls ++ [(v, br)]) ++ letters first (s.length - (k + sz)) (s.drop (k + sz)) = L := by
  rw [letters_from first s k h, hf] at H
  have h2 := h1 (s.drop k)
  rw [hf] at h2
  simp only at H h2
  have e := letters_fuel first h1 (s.length - k - 1) (s.drop (k + sz)) (by simp; omega)
  have e2 := letters_fuel first h1 (s.length - (k + sz)) (s.drop (k + sz)) (by simp)
  rw [e, ← e2] at H
  rw [← H]
  simp

theorem getD_drop (s : ByteArray) (k i : Nat) (h : k + i < s.size) : (s.data.toList.drop k).getD i 0 = s[k + i] := by
  rw [← getD_byte s (k + i) h, List.getD_eq_getElem?_getD, List.getD_eq_getElem?_getD, List.getElem?_drop]

set_option maxRecDepth 100000 in
set_option maxHeartbeats 2000000 in
theorem narrow11 (s : ByteArray) (w : World) (L : List (Nat × Bool)) (hs : s.size ≤ 1048576) (hL : letters firstN s.size s.data.toList = L) :
    Calls Tryz.prog 85 #[.string s] w fun e w' => ∃ v, e = .returned v ∧ w'.ownsRow w.heap.size 159 2 v L.length (flat L) ∧ Below w.heap.size w w' := by
  have hsl : s.data.toList.length = s.size := by simp
  have HL := Lib.hid hL
  clear hL
  obtain ⟨i0, hi, hz0, hz1, hz2⟩ := info_parts info32
  go_enter Tryz.func85, Tryz.ntmps85
  go_wp2
  go_loopw [3, 4] (fun v is wr => ∃ (k : Nat) (ls : List (Nat × Bool)), is = .int .i64 k ∧ k ≤ s.size ∧ wr.ownsRow w.heap.size 159 2 v ls.length (flat ls) ∧ Below w.heap.size w wr ∧ ls.length ≤ k ∧ Hid (ls ++ letters firstN (s.data.toList.length - k) (s.data.toList.drop k) = L)) (fun _ is _ => s.size - (intOf is).toNat)
  case atStart =>
    refine ⟨0, [], rfl, Nat.zero_le _, World.ownsRow_nil _ _ _ _, Below.refl _ _, Nat.le_refl _, ?_⟩
    show [] ++ _ = L
    rw [hsl]
    exact HL
  case round =>
    obtain ⟨k, ls, rfl, hk, hown, hbw, hll, H⟩ := hrel
    by_cases hlt : k < s.size
    · by_cases hb : s[k].toNat < 128
      · have hf : firstN (s.data.toList.drop k) = (s[k].toNat, 1, false) := by
          unfold firstN
          rw [getD_drop s k 0 (by omega)]
          exact if_pos hb
        have H2 := Lib.hid (letters_next firstN firstN_pos s.data.toList k (by omega) _ _ _ hf ls L H.out)
        clear hf H hsl HL
        go_wp2_with (at_builtin; refine wpList_append_own _ rfl _ _ 156 rfl w.heap.size 159 i0 (.agg #[.int .i64 0, .bool false]) 2 16 Tryz.underlying156 hi hz0 hz1 hz2 rfl (by decide) _ _ _ rfl (hown.alloc _) ⟨wr.heap.size, 0, none⟩ 1 1 [.int .i64 (s[k].toNat : Int), .bool false] rfl rfl (cell_two_new _ _ _ _) (fun x hx => by simp at hx; rcases hx with rfl | rfl <;> rfl) (by unfold maxLen; omega) (by omega) (by have := hbw.size; simp; omega) ?_; intro v' w3 hown' hgrow3 hnil3; refine Hid.out ?_)
        have own3 : w3.ownsRow w.heap.size 159 2 v' (ls ++ [(s[k].toNat, false)]).length (flat (ls ++ [(s[k].toNat, false)])) := by
          rw [flat_append, List.length_append]
          exact hown'
        have bw3 : Below w.heap.size w w3 := Below.grown (hbw.alloc hbw.size _) hgrow3 (by have := hbw.size; simp; omega) (fun j hj => (hown.lt _ hj).1)
        clear hown' hgrow3 hnil3 hown hbw
        refine Lib.hid ?_
        go_wp2
        go_roundw
        case rel => exact ⟨k + 1, _, by go_num, by omega, own3, bw3, by simp; omega, H2⟩
        case measure => simp [intOf]; omega
      · have hf : firstN (s.data.toList.drop k) = (65533, 1, true) := by
          unfold firstN
          rw [getD_drop s k 0 (by omega)]
          exact if_neg hb
        have hb' : 128 ≤ s[k].toNat := by omega
        have H2 := Lib.hid (letters_next firstN firstN_pos s.data.toList k (by omega) _ _ _ hf ls L H.out)
        clear hf H hsl HL
        go_wp2_with (at_builtin; refine wpList_append_own _ rfl _ _ 156 rfl w.heap.size 159 i0 (.agg #[.int .i64 0, .bool false]) 2 16 Tryz.underlying156 hi hz0 hz1 hz2 rfl (by decide) _ _ _ rfl (hown.alloc _) ⟨wr.heap.size, 0, none⟩ 1 1 [.int .i64 65533, .bool true] rfl rfl (cell_two_new _ _ _ _) (fun x hx => by simp at hx; rcases hx with rfl | rfl <;> rfl) (by unfold maxLen; omega) (by omega) (by have := hbw.size; simp; omega) ?_; intro v' w3 hown' hgrow3 hnil3; refine Hid.out ?_)
        have own3 : w3.ownsRow w.heap.size 159 2 v' (ls ++ [(65533, true)]).length (flat (ls ++ [(65533, true)])) := by
          rw [flat_append, List.length_append]
          exact hown'
        have bw3 : Below w.heap.size w w3 := Below.grown (hbw.alloc hbw.size _) hgrow3 (by have := hbw.size; simp; omega) (fun j hj => (hown.lt _ hj).1)
        clear hown' hgrow3 hnil3 hown hbw
        refine Lib.hid ?_
        go_wp2
        go_roundw
        case rel => exact ⟨k + 1, _, by go_num, by omega, own3, bw3, by simp; omega, H2⟩
        case measure => simp [intOf]; omega
    · have h2 := H.out
      rw [List.drop_eq_nil_of_le (by omega), letters_nil _ _ _ (by simp), List.append_nil] at h2
      have H2 := Lib.hid h2
      clear h2 H HL
      go_wp2
      go_ret
      refine ⟨_, rfl, ?_, hbw⟩
      rw [← H2.out]
      exact hown
end Go.Proofs.YteibjmlimcpaoaaGreatDoor.T

set_option linter.unusedVariables false
namespace Go.Proofs.YteibjmlimcpaoaaGreatDoor.T
open Go.RowKit

theorem pairN_drop (s : ByteArray) (k : Nat) (h : k + 1 < s.size) : pairN (s.data.toList.drop k) = 256 * s[k].toNat + s[k + 1].toNat := by
  unfold pairN
  rw [getD_drop s k 0 (by omega), getD_drop s k 1 (by omega)]
  rfl

theorem index_at (s : ByteArray) (i : Int) (j : Nat) (h : i = j) (hj : j < s.size) (W : World) : (Instr.index 9 (.string s) (.int .i64 i)).run Tryz.prog W = .ok (.int .u8 (s[j].toNat : Int)) W := by
  subst h
  rw [run_index_string W 9 s .i64 _ Tryz.underlying9, dif_pos ⟨by omega, by omega⟩]
  rfl

theorem own_cast {w : World} {b n : Nat} {v : Value} {xs : List Value} {x : Int} {c : Nat} {br : Bool} (h : w.ownsRow b 159 2 v n (xs ++ [.int .i64 x, .bool br])) (hx : x = c) : w.ownsRow b 159 2 v n (xs ++ flat [(c, br)]) := by
  subst hx
  exact h

theorem wrapS (x : Int) (h0 : 0 ≤ x) (h1 : x < 9223372036854775808) : IntKind.i64.wrap x = x := by
  simp [IntKind.wrap, IntKind.bits, IntKind.signed]
  split <;> omega

set_option maxRecDepth 100000 in
set_option maxHeartbeats 4000000 in
theorem wide10 (s : ByteArray) (w : World) (L : List (Nat × Bool)) (hs : s.size ≤ 1048576) (hev : s.size % 2 = 0) (hL : letters firstW s.size s.data.toList = L) :
    Calls Tryz.prog 84 #[.string s] w fun e w' => ∃ v, e = .returned v ∧ w'.ownsRow w.heap.size 159 2 v L.length (flat L) ∧ Below w.heap.size w w' := by
  have hsl : s.data.toList.length = s.size := by simp
  have HL := Lib.hid hL
  clear hL
  obtain ⟨i0, hi, hz0, hz1, hz2⟩ := info_parts info32
  go_enter Tryz.func84, Tryz.ntmps84
  go_wp2
  go_loopw [3, 4] (fun v is wr => ∃ (k : Nat) (ls : List (Nat × Bool)), is = .int .i64 k ∧ k ≤ s.size ∧ k % 2 = 0 ∧ wr.ownsRow w.heap.size 159 2 v ls.length (flat ls) ∧ Below w.heap.size w wr ∧ ls.length ≤ k ∧ Hid (ls ++ letters firstW (s.data.toList.length - k) (s.data.toList.drop k) = L)) (fun _ is _ => s.size - (intOf is).toNat)
  case atStart =>
    refine ⟨0, [], rfl, Nat.zero_le _, rfl, World.ownsRow_nil _ _ _ _, Below.refl _ _, Nat.le_refl _, ?_⟩
    show [] ++ _ = L
    rw [hsl]
    exact HL
  case round =>
    obtain ⟨k, ls, rfl, hk, hke, hown, hbw, hll, H⟩ := hrel
    by_cases hlt : k < s.size
    · have hk1 : k + 1 < s.size := by omega
      have hk1' : (k : Int) + 1 < (s.size : Int) := by omega
      have b0 : s[k].toNat < 256 := s[k].toNat_lt
      have b1 : s[k + 1].toNat < 256 := s[k + 1].toNat_lt
      have hpx := pairN_drop s k hk1
      have HP := Lib.hid hpx
      clear hpx hsl HL
      have w1 := wrapS ((k : Int) + 1) (by omega) (by omega)
      have w2 := wrapS (s[k].toNat : Int) (by omega) (by omega)
      have w3 := wrapS (s[k + 1].toNat : Int) (by omega) (by omega)
      have w4 := wrapS (256 * (s[k].toNat : Int)) (by omega) (by omega)
      have w5 := wrapS (256 * (s[k].toNat : Int) + (s[k + 1].toNat : Int)) (by omega) (by omega)
      have x1 := index_at s ((k : Int) + 1) (k + 1) (by omega) hk1
      go_wp2_with fail
      go_quiet (fail)
      obtain ⟨x, hx⟩ : ∃ x : Int, 256 * (s[k].toNat : Int) + (s[k + 1].toNat : Int) = x := ⟨_, rfl⟩
      rw [hx]
      have HX : Hid ((pairN (s.data.toList.drop k) : Int) = x) := by have := HP.out; show _ = _; omega
      obtain ⟨W, hW⟩ : ∃ W, wr.drewN nq = W := ⟨_, rfl⟩
      have hown1 : W.ownsRow w.heap.size 159 2 u3 ls.length (flat ls) := by rw [← hW]; exact hown
      have hbw1 : Below w.heap.size w W := by rw [← hW]; exact below_drewN hbw nq
      rw [hW]
      clear hW hx w1 w2 w3 w4 w5 x1 b0 b1 HP hown hbw
      have hx0 : 0 ≤ x := by have := HX.out; omega
      have hx1 : x < 65536 := by have := HX.out; have := pairN_lt (s.data.toList.drop k); omega
      have hsl : s.data.toList.length = s.size := by simp
      have hdl : (s.data.toList.drop k).length = s.size - k := by simp
      by_cases c1 : x < 55296
      · have hf : firstW (s.data.toList.drop k) = (pairN (s.data.toList.drop k), 2, false) := by
          unfold firstW; have := HX.out; rw [if_pos (by omega)]
        have H2 := Lib.hid (letters_next firstW firstW_pos s.data.toList k (by omega) _ _ _ hf ls L H.out)
        clear hf H hsl
        go_wp2_with (at_builtin; refine wpList_append_own _ rfl _ _ 156 rfl w.heap.size 159 i0 (.agg #[.int .i64 0, .bool false]) 2 16 Tryz.underlying156 hi hz0 hz1 hz2 rfl (by decide) _ _ _ rfl (hown1.alloc _) ⟨W.heap.size, 0, none⟩ 1 1 [.int .i64 (x), .bool false] rfl rfl (cell_two_new _ _ _ _) (fun x hx => by simp at hx; rcases hx with rfl | rfl <;> rfl) (by unfold maxLen; omega) (by omega) (by have := hbw1.size; simp; omega) ?_; intro v' w3 hown' hgrow3 hnil3; refine Hid.out ?_)
        have own3 : w3.ownsRow w.heap.size 159 2 v' (ls ++ [(pairN (s.data.toList.drop k), false)]).length (flat (ls ++ [(pairN (s.data.toList.drop k), false)])) := by
          rw [flat_append, List.length_append]
          first | exact hown' | exact own_cast hown' HX.out.symm | (refine own_cast hown' ?_; have h5 := HX.out; have h6 := HY.out; omega)
        have bw3 : Below w.heap.size w w3 := Below.grown (hbw1.alloc hbw1.size _) hgrow3 (by have := hbw1.size; simp; omega) (fun j hj => (hown1.lt _ hj).1)
        clear hown' hgrow3 hnil3 hown1 hbw1
        refine Lib.hid ?_
        go_wp2
        go_roundw
        case rel => exact ⟨k + 2, _, by go_num, by omega, by omega, own3, bw3, by simp; omega, H2⟩
        case measure => simp [intOf]; omega
      by_cases c2 : 57343 < x
      · have c1n : 55296 ≤ x := by omega
        have hf : firstW (s.data.toList.drop k) = (pairN (s.data.toList.drop k), 2, false) := by
          unfold firstW; have := HX.out; rw [if_pos (by omega)]
        have H2 := Lib.hid (letters_next firstW firstW_pos s.data.toList k (by omega) _ _ _ hf ls L H.out)
        clear hf H hsl
        go_wp2_with (at_builtin; refine wpList_append_own _ rfl _ _ 156 rfl w.heap.size 159 i0 (.agg #[.int .i64 0, .bool false]) 2 16 Tryz.underlying156 hi hz0 hz1 hz2 rfl (by decide) _ _ _ rfl (hown1.alloc _) ⟨W.heap.size, 0, none⟩ 1 1 [.int .i64 (x), .bool false] rfl rfl (cell_two_new _ _ _ _) (fun x hx => by simp at hx; rcases hx with rfl | rfl <;> rfl) (by unfold maxLen; omega) (by omega) (by have := hbw1.size; simp; omega) ?_; intro v' w3 hown' hgrow3 hnil3; refine Hid.out ?_)
        have own3 : w3.ownsRow w.heap.size 159 2 v' (ls ++ [(pairN (s.data.toList.drop k), false)]).length (flat (ls ++ [(pairN (s.data.toList.drop k), false)])) := by
          rw [flat_append, List.length_append]
          first | exact hown' | exact own_cast hown' HX.out.symm | (refine own_cast hown' ?_; have h5 := HX.out; have h6 := HY.out; omega)
        have bw3 : Below w.heap.size w w3 := Below.grown (hbw1.alloc hbw1.size _) hgrow3 (by have := hbw1.size; simp; omega) (fun j hj => (hown1.lt _ hj).1)
        clear hown' hgrow3 hnil3 hown1 hbw1
        refine Lib.hid ?_
        go_wp2
        go_roundw
        case rel => exact ⟨k + 2, _, by go_num, by omega, by omega, own3, bw3, by simp; omega, H2⟩
        case measure => simp [intOf]; omega
      have c1n : 55296 ≤ x := by omega
      have c2n : x ≤ 57343 := by omega
      by_cases c3 : k + 3 < s.size
      · have hk3 : (k : Int) + 3 < (s.size : Int) := by omega
        have b2 : s[k + 2].toNat < 256 := s[k + 2].toNat_lt
        have b3 : s[k + 3].toNat < 256 := s[k + 3].toNat_lt
        have HQ : Hid (pairN (s.data.toList.drop (k + 2)) = 256 * s[k + 2].toNat + s[k + 3].toNat) := pairN_drop s (k + 2) (by omega)
        have w1 := wrapS ((k : Int) + 2) (by omega) (by omega)
        have w0 := wrapS ((k : Int) + 3) (by omega) (by omega)
        have w2 := wrapS (s[k + 2].toNat : Int) (by omega) (by omega)
        have w3 := wrapS (s[k + 3].toNat : Int) (by omega) (by omega)
        have w4 := wrapS (256 * (s[k + 2].toNat : Int)) (by omega) (by omega)
        have w5 := wrapS (256 * (s[k + 2].toNat : Int) + (s[k + 3].toNat : Int)) (by omega) (by omega)
        have x2 := index_at s ((k : Int) + 2) (k + 2) (by omega) (by omega)
        have x3 := index_at s ((k : Int) + 3) (k + 3) (by omega) (by omega)
        go_wp2_with fail
        go_quiet (fail)
        obtain ⟨y, hy⟩ : ∃ y : Int, 256 * (s[k + 2].toNat : Int) + (s[k + 3].toNat : Int) = y := ⟨_, rfl⟩
        rw [hy]
        have HY : Hid ((pairN ((s.data.toList.drop k).drop 2) : Int) = y) := by have := HQ.out; show _ = _; rw [List.drop_drop]; omega
        obtain ⟨W2, hW⟩ : ∃ W2, W.drewN nq = W2 := ⟨_, rfl⟩
        have hown2 : W2.ownsRow w.heap.size 159 2 u3 ls.length (flat ls) := by rw [← hW]; exact hown1
        have hbw2 : Below w.heap.size w W2 := by rw [← hW]; exact below_drewN hbw1 _
        rw [hW]
        clear hW hy w0 w1 w2 w3 w4 w5 x2 x3 b2 b3 HQ hown1 hbw1
        have hy0 : 0 ≤ y := by have := HY.out; omega
        have hy1 : y < 65536 := by have := HY.out; have := pairN_lt ((s.data.toList.drop k).drop 2); omega
        by_cases c4 : x < 56320
        · by_cases c5 : y < 56320
          · have hf : firstW (s.data.toList.drop k) = (65533, 2, true) := by
              unfold firstW; have := HX.out; have := HY.out; rw [if_neg (by omega), if_neg (by omega)]
            have H2 := Lib.hid (letters_next firstW firstW_pos s.data.toList k (by omega) _ _ _ hf ls L H.out)
            clear hf H hsl
            go_wp2_with (at_builtin; refine wpList_append_own _ rfl _ _ 156 rfl w.heap.size 159 i0 (.agg #[.int .i64 0, .bool false]) 2 16 Tryz.underlying156 hi hz0 hz1 hz2 rfl (by decide) _ _ _ rfl (hown2.alloc _) ⟨W2.heap.size, 0, none⟩ 1 1 [.int .i64 (65533), .bool true] rfl rfl (cell_two_new _ _ _ _) (fun x hx => by simp at hx; rcases hx with rfl | rfl <;> rfl) (by unfold maxLen; omega) (by omega) (by have := hbw2.size; simp; omega) ?_; intro v' w3 hown' hgrow3 hnil3; refine Hid.out ?_)
            have own3 : w3.ownsRow w.heap.size 159 2 v' (ls ++ [(65533, true)]).length (flat (ls ++ [(65533, true)])) := by
              rw [flat_append, List.length_append]
              first | exact hown' | exact own_cast hown' HX.out.symm | (refine own_cast hown' ?_; have h5 := HX.out; have h6 := HY.out; omega)
            have bw3 : Below w.heap.size w w3 := Below.grown (hbw2.alloc hbw2.size _) hgrow3 (by have := hbw2.size; simp; omega) (fun j hj => (hown2.lt _ hj).1)
            clear hown' hgrow3 hnil3 hown2 hbw2
            refine Lib.hid ?_
            go_wp2
            go_roundw
            case rel => exact ⟨k + 2, _, by go_num, by omega, by omega, own3, bw3, by simp; omega, H2⟩
            case measure => simp [intOf]; omega
          have c5n : 56320 ≤ y := by omega
          by_cases c6 : 57343 < y
          · have hf : firstW (s.data.toList.drop k) = (65533, 2, true) := by
              unfold firstW; have := HX.out; have := HY.out; rw [if_neg (by omega), if_neg (by omega)]
            have H2 := Lib.hid (letters_next firstW firstW_pos s.data.toList k (by omega) _ _ _ hf ls L H.out)
            clear hf H hsl
            go_wp2_with (at_builtin; refine wpList_append_own _ rfl _ _ 156 rfl w.heap.size 159 i0 (.agg #[.int .i64 0, .bool false]) 2 16 Tryz.underlying156 hi hz0 hz1 hz2 rfl (by decide) _ _ _ rfl (hown2.alloc _) ⟨W2.heap.size, 0, none⟩ 1 1 [.int .i64 (65533), .bool true] rfl rfl (cell_two_new _ _ _ _) (fun x hx => by simp at hx; rcases hx with rfl | rfl <;> rfl) (by unfold maxLen; omega) (by omega) (by have := hbw2.size; simp; omega) ?_; intro v' w3 hown' hgrow3 hnil3; refine Hid.out ?_)
            have own3 : w3.ownsRow w.heap.size 159 2 v' (ls ++ [(65533, true)]).length (flat (ls ++ [(65533, true)])) := by
              rw [flat_append, List.length_append]
              first | exact hown' | exact own_cast hown' HX.out.symm | (refine own_cast hown' ?_; have h5 := HX.out; have h6 := HY.out; omega)
            have bw3 : Below w.heap.size w w3 := Below.grown (hbw2.alloc hbw2.size _) hgrow3 (by have := hbw2.size; simp; omega) (fun j hj => (hown2.lt _ hj).1)
            clear hown' hgrow3 hnil3 hown2 hbw2
            refine Lib.hid ?_
            go_wp2
            go_roundw
            case rel => exact ⟨k + 2, _, by go_num, by omega, by omega, own3, bw3, by simp; omega, H2⟩
            case measure => simp [intOf]; omega
          have c6n : y ≤ 57343 := by omega
          have hf : firstW (s.data.toList.drop k) = (65536 + 1024 * (pairN (s.data.toList.drop k) - 55296) + (pairN ((s.data.toList.drop k).drop 2) - 56320), 4, false) := by
            unfold firstW; have := HX.out; have := HY.out; rw [if_neg (by omega), if_pos (by omega)]
          have H2 := Lib.hid (letters_next firstW firstW_pos s.data.toList k (by omega) _ _ _ hf ls L H.out)
          clear hf H hsl
          go_wp2_with (at_builtin; refine wpList_append_own _ rfl _ _ 156 rfl w.heap.size 159 i0 (.agg #[.int .i64 0, .bool false]) 2 16 Tryz.underlying156 hi hz0 hz1 hz2 rfl (by decide) _ _ _ rfl (hown2.alloc _) ⟨W2.heap.size, 0, none⟩ 1 1 [.int .i64 (65536 + 1024 * (x - 55296) + y - 56320), .bool false] rfl rfl (cell_two_new _ _ _ _) (fun x hx => by simp at hx; rcases hx with rfl | rfl <;> rfl) (by unfold maxLen; omega) (by omega) (by have := hbw2.size; simp; omega) ?_; intro v' w3 hown' hgrow3 hnil3; refine Hid.out ?_)
          have own3 : w3.ownsRow w.heap.size 159 2 v' (ls ++ [(65536 + 1024 * (pairN (s.data.toList.drop k) - 55296) + (pairN ((s.data.toList.drop k).drop 2) - 56320), false)]).length (flat (ls ++ [(65536 + 1024 * (pairN (s.data.toList.drop k) - 55296) + (pairN ((s.data.toList.drop k).drop 2) - 56320), false)])) := by
            rw [flat_append, List.length_append]
            first | exact hown' | exact own_cast hown' HX.out.symm | (refine own_cast hown' ?_; have h5 := HX.out; have h6 := HY.out; omega)
          have bw3 : Below w.heap.size w w3 := Below.grown (hbw2.alloc hbw2.size _) hgrow3 (by have := hbw2.size; simp; omega) (fun j hj => (hown2.lt _ hj).1)
          clear hown' hgrow3 hnil3 hown2 hbw2
          refine Lib.hid ?_
          go_wp2
          go_roundw
          case rel => exact ⟨k + 4, _, by go_num, by omega, by omega, own3, bw3, by simp; omega, H2⟩
          case measure => simp [intOf]; omega
        · have c4n : 56320 ≤ x := by omega
          have hf : firstW (s.data.toList.drop k) = (65533, 2, true) := by
            unfold firstW; have := HX.out; have := HY.out; rw [if_neg (by omega), if_neg (by omega)]
          have H2 := Lib.hid (letters_next firstW firstW_pos s.data.toList k (by omega) _ _ _ hf ls L H.out)
          clear hf H hsl
          go_wp2_with (at_builtin; refine wpList_append_own _ rfl _ _ 156 rfl w.heap.size 159 i0 (.agg #[.int .i64 0, .bool false]) 2 16 Tryz.underlying156 hi hz0 hz1 hz2 rfl (by decide) _ _ _ rfl (hown2.alloc _) ⟨W2.heap.size, 0, none⟩ 1 1 [.int .i64 (65533), .bool true] rfl rfl (cell_two_new _ _ _ _) (fun x hx => by simp at hx; rcases hx with rfl | rfl <;> rfl) (by unfold maxLen; omega) (by omega) (by have := hbw2.size; simp; omega) ?_; intro v' w3 hown' hgrow3 hnil3; refine Hid.out ?_)
          have own3 : w3.ownsRow w.heap.size 159 2 v' (ls ++ [(65533, true)]).length (flat (ls ++ [(65533, true)])) := by
            rw [flat_append, List.length_append]
            first | exact hown' | exact own_cast hown' HX.out.symm | (refine own_cast hown' ?_; have h5 := HX.out; have h6 := HY.out; omega)
          have bw3 : Below w.heap.size w w3 := Below.grown (hbw2.alloc hbw2.size _) hgrow3 (by have := hbw2.size; simp; omega) (fun j hj => (hown2.lt _ hj).1)
          clear hown' hgrow3 hnil3 hown2 hbw2
          refine Lib.hid ?_
          go_wp2
          go_roundw
          case rel => exact ⟨k + 2, _, by go_num, by omega, by omega, own3, bw3, by simp; omega, H2⟩
          case measure => simp [intOf]; omega
      · have hk3 : ¬ ((k : Int) + 3 < (s.size : Int)) := by omega
        by_cases c4 : x < 56320
        · have hf : firstW (s.data.toList.drop k) = (65533, 2, true) := by
            unfold firstW; have := HX.out; rw [if_neg (by omega), if_neg (by omega)]
          have H2 := Lib.hid (letters_next firstW firstW_pos s.data.toList k (by omega) _ _ _ hf ls L H.out)
          clear hf H hsl
          go_wp2_with (at_builtin; refine wpList_append_own _ rfl _ _ 156 rfl w.heap.size 159 i0 (.agg #[.int .i64 0, .bool false]) 2 16 Tryz.underlying156 hi hz0 hz1 hz2 rfl (by decide) _ _ _ rfl (hown1.alloc _) ⟨W.heap.size, 0, none⟩ 1 1 [.int .i64 (65533), .bool true] rfl rfl (cell_two_new _ _ _ _) (fun x hx => by simp at hx; rcases hx with rfl | rfl <;> rfl) (by unfold maxLen; omega) (by omega) (by have := hbw1.size; simp; omega) ?_; intro v' w3 hown' hgrow3 hnil3; refine Hid.out ?_)
          have own3 : w3.ownsRow w.heap.size 159 2 v' (ls ++ [(65533, true)]).length (flat (ls ++ [(65533, true)])) := by
            rw [flat_append, List.length_append]
            first | exact hown' | exact own_cast hown' HX.out.symm | (refine own_cast hown' ?_; have h5 := HX.out; have h6 := HY.out; omega)
          have bw3 : Below w.heap.size w w3 := Below.grown (hbw1.alloc hbw1.size _) hgrow3 (by have := hbw1.size; simp; omega) (fun j hj => (hown1.lt _ hj).1)
          clear hown' hgrow3 hnil3 hown1 hbw1
          refine Lib.hid ?_
          go_wp2
          go_roundw
          case rel => exact ⟨k + 2, _, by go_num, by omega, by omega, own3, bw3, by simp; omega, H2⟩
          case measure => simp [intOf]; omega
        · have c4n : 56320 ≤ x := by omega
          have hf : firstW (s.data.toList.drop k) = (65533, 2, true) := by
            unfold firstW; have := HX.out; rw [if_neg (by omega), if_neg (by omega)]
          have H2 := Lib.hid (letters_next firstW firstW_pos s.data.toList k (by omega) _ _ _ hf ls L H.out)
          clear hf H hsl
          go_wp2_with (at_builtin; refine wpList_append_own _ rfl _ _ 156 rfl w.heap.size 159 i0 (.agg #[.int .i64 0, .bool false]) 2 16 Tryz.underlying156 hi hz0 hz1 hz2 rfl (by decide) _ _ _ rfl (hown1.alloc _) ⟨W.heap.size, 0, none⟩ 1 1 [.int .i64 (65533), .bool true] rfl rfl (cell_two_new _ _ _ _) (fun x hx => by simp at hx; rcases hx with rfl | rfl <;> rfl) (by unfold maxLen; omega) (by omega) (by have := hbw1.size; simp; omega) ?_; intro v' w3 hown' hgrow3 hnil3; refine Hid.out ?_)
          have own3 : w3.ownsRow w.heap.size 159 2 v' (ls ++ [(65533, true)]).length (flat (ls ++ [(65533, true)])) := by
            rw [flat_append, List.length_append]
            first | exact hown' | exact own_cast hown' HX.out.symm | (refine own_cast hown' ?_; have h5 := HX.out; have h6 := HY.out; omega)
          have bw3 : Below w.heap.size w w3 := Below.grown (hbw1.alloc hbw1.size _) hgrow3 (by have := hbw1.size; simp; omega) (fun j hj => (hown1.lt _ hj).1)
          clear hown' hgrow3 hnil3 hown1 hbw1
          refine Lib.hid ?_
          go_wp2
          go_roundw
          case rel => exact ⟨k + 2, _, by go_num, by omega, by omega, own3, bw3, by simp; omega, H2⟩
          case measure => simp [intOf]; omega
    · have h2 := H.out
      rw [List.drop_eq_nil_of_le (by omega), letters_nil _ _ _ (by simp), List.append_nil] at h2
      have H2 := Lib.hid h2
      clear h2 H HL
      have hk1' : ¬ ((k : Int) + 1 < (s.size : Int)) := by omega
      go_wp2
      go_ret
      refine ⟨_, rfl, ?_, hbw⟩
      rw [← H2.out]
      exact hown
end Go.Proofs.YteibjmlimcpaoaaGreatDoor.T

set_option linter.unusedVariables false
namespace Go.Proofs.YteibjmlimcpaoaaGreatDoor.T
open Go.RowKit

theorem letters_length (first : List UInt8 → Nat × Nat × Bool) : ∀ (f : Nat) (l : List UInt8), (letters first f l).length ≤ f
  | 0, l => by simp [letters]
  | f + 1, [] => by simp [letters]
  | f + 1, a :: l => by
    have := letters_length first f ((a :: l).drop (first (a :: l)).2.1)
    simp [letters] at this ⊢
    omega
theorem letters_all (first : List UInt8 → Nat × Nat × Bool) (p : Nat → Prop) (hp : ∀ l, 0 < l.length → p (first l).1) : ∀ (f : Nat) (l : List UInt8), ∀ x ∈ letters first f l, p x.1
  | 0, l => by simp [letters]
  | f + 1, [] => by simp [letters]
  | f + 1, a :: l => by
    intro x hx
    rw [letters] at hx
    rcases List.mem_cons.1 hx with h | h
    · subst h
      exact hp _ (by simp)
    · exact letters_all first p hp f _ x h
theorem okN (l : List UInt8) (h : 0 < l.length) : okC (firstN l).1 := (firstN_facts l h).1
theorem okW (l : List UInt8) (h : 0 < l.length) : okC (firstW l).1 := by
  have h0 := pairN_lt l
  unfold firstW okC
  split
  · simp only; omega
  · split
    · simp only; omega
    · decide

theorem flat_get : ∀ (L : List (Nat × Bool)) (k : Nat) (x : Nat × Bool), L[k]? = some x → (flat L)[2 * k]? = some (.int .i64 (x.1 : Int)) ∧ (flat L)[2 * k + 1]? = some (.bool x.2)
  | [], k, x, h => by simp at h
  | y :: L, 0, x, h => by
    simp at h
    subst h
    exact ⟨rfl, rfl⟩
  | y :: L, k + 1, x, h => by
    have := flat_get L k x (by simpa using h)
    exact this

theorem row_cells {w : World} {b g cap n : Nat} {L : List (Nat × Bool)} (hown : w.ownsRow b 159 2 (.slice (some ⟨g, 0, none⟩) n cap) n (flat L)) (k : Nat) (x : Nat × Bool) (hx : L[k]? = some x) :
    w.cell? ⟨g, k * 2, none⟩ = some (.int .i64 (x.1 : Int)) ∧ w.cell? ⟨g, k * 2 + 1, none⟩ = some (.bool x.2) := by
  obtain ⟨h1, h2⟩ := flat_get L k x hx
  have c1 := hown.cells (g := g) rfl _ _ h1
  have c2 := hown.cells (g := g) rfl _ _ h2
  rw [addr_add, Nat.zero_add, Nat.mul_comm] at c1 c2
  exact ⟨c1, c2⟩

set_option maxRecDepth 100000 in
set_option maxHeartbeats 4000000 in
theorem ref6N (s : ByteArray) (limit : Int) (w : World) (r : List UInt8 × Bool × Bool × Bool) (hs : s.size ≤ 1048576) (hr : tell limit (letters firstN s.size s.data.toList) [] false false = r) :
    Calls Tryz.prog 63 #[.int .i64 1, .int .i64 0, .string s, .int .i64 limit] w fun e w' => e = .returned (.tuple #[.string ⟨r.1.toArray⟩, .int .i64 (markN r.2.1 r.2.2.1 r.2.2.2), .int .i64 0]) ∧ Below w.heap.size w w' := by
  obtain ⟨L, hL⟩ : ∃ L, letters firstN s.size s.data.toList = L := ⟨_, rfl⟩
  have C := Lib.hid (narrow11 s w L hs hL)
  have hll : L.length ≤ 1048576 := by rw [← hL]; exact Nat.le_trans (letters_length firstN s.size _) hs
  have hok : ∀ x ∈ L, okC x.1 := by rw [← hL]; exact letters_all firstN okC okN _ _
  rw [hL] at hr
  have HR := Lib.hid hr
  have HOK := Lib.hid hok
  clear hr hL hok
  go_enter Tryz.func63, Tryz.ntmps63
  go_wp2_with (go_at_call 85; refine C.out.mono ?_; rintro e w1 ⟨v, rfl, hown0, hbw0⟩)
  go_loopw [14, 15, 16] (fun ss ms is wr => ∃ (k : Nat) (acc : List UInt8) (b h : Bool), ss = .string ⟨acc.toArray⟩ ∧ ms = .int .i64 (markN b h false) ∧ is = .int .i64 k ∧ k ≤ L.length ∧ wr.ownsRow w.heap.size 159 2 v L.length (flat L) ∧ Below w.heap.size w wr ∧ acc.length ≤ 6 * k ∧ Hid (tell limit (L.drop k) acc b h = r)) (fun _ _ is _ => L.length - (intOf is).toNat)
  case atStart => exact ⟨0, [], false, false, rfl, rfl, rfl, Nat.zero_le _, hown0, hbw0, Nat.zero_le _, HR⟩
  case round =>
    obtain ⟨k, acc, b, h, rfl, rfl, rfl, hk, hown, hbw, hal, H⟩ := hrel
    clear hown0 hbw0
    by_cases hlt : k < L.length
    · rcases hown.2 with ⟨_, hz⟩ | ⟨g, cap, cur, rfl, _⟩
      · omega
      obtain ⟨x, hx⟩ : ∃ x, L[k]? = some x := ⟨_, List.getElem?_eq_getElem hlt⟩
      have hokx : okC x.1 := HOK.out x (List.mem_of_getElem? hx)
      obtain ⟨k0, k1⟩ := row_cells hown k x hx
      obtain ⟨c, br⟩ := x
      simp only at hokx k0 k1
      have S12 := Lib.hid (shown12 c wr hokx)
      go_wp2_with (go_at_call 86; refine S12.out.mono ?_; rintro e w2 ⟨rfl, hb2⟩; refine Hid.out ?_)
      have hown2 := ownsRow_on hown hb2
      have hbw2 := hbw.trans (hb2.mono hbw.size)
      obtain ⟨j0, j1⟩ := row_cells hown2 k (c, br) hx
      simp only at j0 j1
      have hl6 := shown_length c
      have hdr : L.drop k = (c, br) :: L.drop (k + 1) := by
        rw [List.drop_eq_getElem_cons hlt]
        congr 1
        exact Option.some.inj ((List.getElem?_eq_getElem hlt).symm.trans hx)
      have h1 := H.out
      rw [hdr] at h1
      have H1 := Lib.hid h1
      obtain ⟨sl, hsl⟩ : ∃ sl, shownL (c : Int) = sl := ⟨_, rfl⟩
      rw [hsl] at hl6
      refine Lib.hid ?_
      rw [hsl]
      clear h1 hdr H S12 k0 k1 hown hbw hb2 hx
      by_cases hfit : limit < (acc.length : Int) + sl.length
      · have h2 := H1.out
        rw [tell_cut limit c br _ acc sl b h hsl hfit] at h2
        have H2 := Lib.hid h2
        have hm4 : markN b h false + 4 = markN b h true := by cases b <;> cases h <;> rfl
        clear h2 H1 hsl
        have hmb : 0 ≤ markN b h false ∧ markN b h false ≤ 3 := by cases b <;> cases h <;> decide
        obtain ⟨hmb0, hmb1⟩ := hmb
        go_wp2
        go_ret3
        refine ⟨?_, hbw2⟩
        rw [← H2.out]
        rfl
      · have h2 := H1.out
        rw [tell_fit limit c br _ acc sl b h hsl hfit] at h2
        have H2 := Lib.hid h2
        have G13 := Lib.hid (fun w => harm13 c w)
        clear h2 H1 hsl
        generalize harmB (c : Int) = hc at *
        cases b <;> cases h <;> cases hc <;> cases br
        all_goals
          have e0 : markN false false false = 0 := rfl
          have e1 : markN true false false = 1 := rfl
          have e2 : markN false true false = 2 := rfl
          have e3 : markN true true false = 3 := rfl
          go_wp2_with (go_at_call 87; refine (G13.out _).mono ?_; rintro e w4 ⟨rfl, rfl⟩)
          refine ⟨⟨k + 1, acc ++ sl, _, _, ?_, ?_, by go_num, by omega, hown2, hbw2, ?_, H2⟩, by simp [intOf]; omega⟩
          · rw [ba_append]
            simp
          · rfl
          · rw [List.length_append]
            omega
    · have h2 := H.out
      rw [List.drop_eq_nil_of_le (by omega)] at h2
      have H2 := Lib.hid h2
      clear h2 H
      have hge : ¬ ((k : Int) < (L.length : Int)) := by omega
      rcases hown.2 with ⟨rfl, hz⟩ | ⟨g, cap, cur, rfl, _⟩
      all_goals
        go_wp2
        go_ret3
        refine ⟨?_, hbw⟩
        rw [← H2.out]
        rfl
end Go.Proofs.YteibjmlimcpaoaaGreatDoor.T

set_option linter.unusedVariables false
namespace Go.Proofs.YteibjmlimcpaoaaGreatDoor.T
open Go.RowKit

set_option maxRecDepth 100000 in
set_option maxHeartbeats 4000000 in
theorem ref6W0 (q : Int) (s : ByteArray) (limit : Int) (w : World) (r : List UInt8 × Bool × Bool × Bool) (hs : s.size ≤ 1048576) (hev : s.size % 2 = 0) (hr : tell limit (letters firstW s.size s.data.toList) [] false false = r) :
    Calls Tryz.prog 63 #[.int .i64 0, .int .i64 q, .string s, .int .i64 limit] w fun e w' => e = .returned (.tuple #[.string ⟨r.1.toArray⟩, .int .i64 (markN r.2.1 r.2.2.1 r.2.2.2), .int .i64 0]) ∧ Below w.heap.size w w' := by
  obtain ⟨L, hL⟩ : ∃ L, letters firstW s.size s.data.toList = L := ⟨_, rfl⟩
  have C := Lib.hid (wide10 s w L hs hev hL)
  have hll : L.length ≤ 1048576 := by rw [← hL]; exact Nat.le_trans (letters_length firstW s.size _) hs
  have hok : ∀ x ∈ L, okC x.1 := by rw [← hL]; exact letters_all firstW okC okW _ _
  rw [hL] at hr
  have HR := Lib.hid hr
  have HOK := Lib.hid hok
  clear hr hL hok
  have hev2 : (s.size : Int) % 2 = 0 := by omega
  go_enter Tryz.func63, Tryz.ntmps63
  go_wp2_with (go_at_call 84; refine C.out.mono ?_; rintro e w1 ⟨v, rfl, hown0, hbw0⟩)
  go_loopw [14, 15, 16] (fun ss ms is wr => ∃ (k : Nat) (acc : List UInt8) (b h : Bool), ss = .string ⟨acc.toArray⟩ ∧ ms = .int .i64 (markN b h false) ∧ is = .int .i64 k ∧ k ≤ L.length ∧ wr.ownsRow w.heap.size 159 2 v L.length (flat L) ∧ Below w.heap.size w wr ∧ acc.length ≤ 6 * k ∧ Hid (tell limit (L.drop k) acc b h = r)) (fun _ _ is _ => L.length - (intOf is).toNat)
  case atStart => exact ⟨0, [], false, false, rfl, rfl, rfl, Nat.zero_le _, hown0, hbw0, Nat.zero_le _, HR⟩
  case round =>
    obtain ⟨k, acc, b, h, rfl, rfl, rfl, hk, hown, hbw, hal, H⟩ := hrel
    clear hown0 hbw0
    by_cases hlt : k < L.length
    · rcases hown.2 with ⟨_, hz⟩ | ⟨g, cap, cur, rfl, _⟩
      · omega
      obtain ⟨x, hx⟩ : ∃ x, L[k]? = some x := ⟨_, List.getElem?_eq_getElem hlt⟩
      have hokx : okC x.1 := HOK.out x (List.mem_of_getElem? hx)
      obtain ⟨k0, k1⟩ := row_cells hown k x hx
      obtain ⟨c, br⟩ := x
      simp only at hokx k0 k1
      have S12 := Lib.hid (shown12 c wr hokx)
      go_wp2_with (go_at_call 86; refine S12.out.mono ?_; rintro e w2 ⟨rfl, hb2⟩; refine Hid.out ?_)
      have hown2 := ownsRow_on hown hb2
      have hbw2 := hbw.trans (hb2.mono hbw.size)
      obtain ⟨j0, j1⟩ := row_cells hown2 k (c, br) hx
      simp only at j0 j1
      have hl6 := shown_length c
      have hdr : L.drop k = (c, br) :: L.drop (k + 1) := by
        rw [List.drop_eq_getElem_cons hlt]
        congr 1
        exact Option.some.inj ((List.getElem?_eq_getElem hlt).symm.trans hx)
      have h1 := H.out
      rw [hdr] at h1
      have H1 := Lib.hid h1
      obtain ⟨sl, hsl⟩ : ∃ sl, shownL (c : Int) = sl := ⟨_, rfl⟩
      rw [hsl] at hl6
      refine Lib.hid ?_
      rw [hsl]
      clear h1 hdr H S12 k0 k1 hown hbw hb2 hx
      by_cases hfit : limit < (acc.length : Int) + sl.length
      · have h2 := H1.out
        rw [tell_cut limit c br _ acc sl b h hsl hfit] at h2
        have H2 := Lib.hid h2
        have hm4 : markN b h false + 4 = markN b h true := by cases b <;> cases h <;> rfl
        clear h2 H1 hsl
        have hmb : 0 ≤ markN b h false ∧ markN b h false ≤ 3 := by cases b <;> cases h <;> decide
        obtain ⟨hmb0, hmb1⟩ := hmb
        go_wp2
        go_ret3
        refine ⟨?_, hbw2⟩
        rw [← H2.out]
        rfl
      · have h2 := H1.out
        rw [tell_fit limit c br _ acc sl b h hsl hfit] at h2
        have H2 := Lib.hid h2
        have G13 := Lib.hid (fun w => harm13 c w)
        clear h2 H1 hsl
        generalize harmB (c : Int) = hc at *
        cases b <;> cases h <;> cases hc <;> cases br
        all_goals
          have e0 : markN false false false = 0 := rfl
          have e1 : markN true false false = 1 := rfl
          have e2 : markN false true false = 2 := rfl
          have e3 : markN true true false = 3 := rfl
          go_wp2_with (go_at_call 87; refine (G13.out _).mono ?_; rintro e w4 ⟨rfl, rfl⟩)
          refine ⟨⟨k + 1, acc ++ sl, _, _, ?_, ?_, by go_num, by omega, hown2, hbw2, ?_, H2⟩, by simp [intOf]; omega⟩
          · rw [ba_append]
            simp
          · rfl
          · rw [List.length_append]
            omega
    · have h2 := H.out
      rw [List.drop_eq_nil_of_le (by omega)] at h2
      have H2 := Lib.hid h2
      clear h2 H
      have hge : ¬ ((k : Int) < (L.length : Int)) := by omega
      rcases hown.2 with ⟨rfl, hz⟩ | ⟨g, cap, cur, rfl, _⟩
      all_goals
        go_wp2
        go_ret3
        refine ⟨?_, hbw⟩
        rw [← H2.out]
        rfl
end Go.Proofs.YteibjmlimcpaoaaGreatDoor.T

set_option linter.unusedVariables false
namespace Go.Proofs.YteibjmlimcpaoaaGreatDoor.T
open Go.RowKit

set_option maxRecDepth 100000 in
set_option maxHeartbeats 4000000 in
theorem ref6W1 (s : ByteArray) (limit : Int) (w : World) (r : List UInt8 × Bool × Bool × Bool) (hs : s.size ≤ 1048576) (hev : s.size % 2 = 0) (hr : tell limit (letters firstW s.size s.data.toList) [] false false = r) :
    Calls Tryz.prog 63 #[.int .i64 3, .int .i64 1, .string s, .int .i64 limit] w fun e w' => e = .returned (.tuple #[.string ⟨r.1.toArray⟩, .int .i64 (markN r.2.1 r.2.2.1 r.2.2.2), .int .i64 0]) ∧ Below w.heap.size w w' := by
  obtain ⟨L, hL⟩ : ∃ L, letters firstW s.size s.data.toList = L := ⟨_, rfl⟩
  have C := Lib.hid (wide10 s w L hs hev hL)
  have hll : L.length ≤ 1048576 := by rw [← hL]; exact Nat.le_trans (letters_length firstW s.size _) hs
  have hok : ∀ x ∈ L, okC x.1 := by rw [← hL]; exact letters_all firstW okC okW _ _
  rw [hL] at hr
  have HR := Lib.hid hr
  have HOK := Lib.hid hok
  clear hr hL hok
  have hev2 : (s.size : Int) % 2 = 0 := by omega
  go_enter Tryz.func63, Tryz.ntmps63
  go_wp2_with (go_at_call 84; refine C.out.mono ?_; rintro e w1 ⟨v, rfl, hown0, hbw0⟩)
  go_loopw [14, 15, 16] (fun ss ms is wr => ∃ (k : Nat) (acc : List UInt8) (b h : Bool), ss = .string ⟨acc.toArray⟩ ∧ ms = .int .i64 (markN b h false) ∧ is = .int .i64 k ∧ k ≤ L.length ∧ wr.ownsRow w.heap.size 159 2 v L.length (flat L) ∧ Below w.heap.size w wr ∧ acc.length ≤ 6 * k ∧ Hid (tell limit (L.drop k) acc b h = r)) (fun _ _ is _ => L.length - (intOf is).toNat)
  case atStart => exact ⟨0, [], false, false, rfl, rfl, rfl, Nat.zero_le _, hown0, hbw0, Nat.zero_le _, HR⟩
  case round =>
    obtain ⟨k, acc, b, h, rfl, rfl, rfl, hk, hown, hbw, hal, H⟩ := hrel
    clear hown0 hbw0
    by_cases hlt : k < L.length
    · rcases hown.2 with ⟨_, hz⟩ | ⟨g, cap, cur, rfl, _⟩
      · omega
      obtain ⟨x, hx⟩ : ∃ x, L[k]? = some x := ⟨_, List.getElem?_eq_getElem hlt⟩
      have hokx : okC x.1 := HOK.out x (List.mem_of_getElem? hx)
      obtain ⟨k0, k1⟩ := row_cells hown k x hx
      obtain ⟨c, br⟩ := x
      simp only at hokx k0 k1
      have S12 := Lib.hid (shown12 c wr hokx)
      go_wp2_with (go_at_call 86; refine S12.out.mono ?_; rintro e w2 ⟨rfl, hb2⟩; refine Hid.out ?_)
      have hown2 := ownsRow_on hown hb2
      have hbw2 := hbw.trans (hb2.mono hbw.size)
      obtain ⟨j0, j1⟩ := row_cells hown2 k (c, br) hx
      simp only at j0 j1
      have hl6 := shown_length c
      have hdr : L.drop k = (c, br) :: L.drop (k + 1) := by
        rw [List.drop_eq_getElem_cons hlt]
        congr 1
        exact Option.some.inj ((List.getElem?_eq_getElem hlt).symm.trans hx)
      have h1 := H.out
      rw [hdr] at h1
      have H1 := Lib.hid h1
      obtain ⟨sl, hsl⟩ : ∃ sl, shownL (c : Int) = sl := ⟨_, rfl⟩
      rw [hsl] at hl6
      refine Lib.hid ?_
      rw [hsl]
      clear h1 hdr H S12 k0 k1 hown hbw hb2 hx
      by_cases hfit : limit < (acc.length : Int) + sl.length
      · have h2 := H1.out
        rw [tell_cut limit c br _ acc sl b h hsl hfit] at h2
        have H2 := Lib.hid h2
        have hm4 : markN b h false + 4 = markN b h true := by cases b <;> cases h <;> rfl
        clear h2 H1 hsl
        have hmb : 0 ≤ markN b h false ∧ markN b h false ≤ 3 := by cases b <;> cases h <;> decide
        obtain ⟨hmb0, hmb1⟩ := hmb
        go_wp2
        go_ret3
        refine ⟨?_, hbw2⟩
        rw [← H2.out]
        rfl
      · have h2 := H1.out
        rw [tell_fit limit c br _ acc sl b h hsl hfit] at h2
        have H2 := Lib.hid h2
        have G13 := Lib.hid (fun w => harm13 c w)
        clear h2 H1 hsl
        generalize harmB (c : Int) = hc at *
        cases b <;> cases h <;> cases hc <;> cases br
        all_goals
          have e0 : markN false false false = 0 := rfl
          have e1 : markN true false false = 1 := rfl
          have e2 : markN false true false = 2 := rfl
          have e3 : markN true true false = 3 := rfl
          go_wp2_with (go_at_call 87; refine (G13.out _).mono ?_; rintro e w4 ⟨rfl, rfl⟩)
          refine ⟨⟨k + 1, acc ++ sl, _, _, ?_, ?_, by go_num, by omega, hown2, hbw2, ?_, H2⟩, by simp [intOf]; omega⟩
          · rw [ba_append]
            simp
          · rfl
          · rw [List.length_append]
            omega
    · have h2 := H.out
      rw [List.drop_eq_nil_of_le (by omega)] at h2
      have H2 := Lib.hid h2
      clear h2 H
      have hge : ¬ ((k : Int) < (L.length : Int)) := by omega
      rcases hown.2 with ⟨rfl, hz⟩ | ⟨g, cap, cur, rfl, _⟩
      all_goals
        go_wp2
        go_ret3
        refine ⟨?_, hbw⟩
        rw [← H2.out]
        rfl
end Go.Proofs.YteibjmlimcpaoaaGreatDoor.T

set_option linter.unusedVariables false
namespace Go.Proofs.YteibjmlimcpaoaaGreatDoor.T
open Go.RowKit

set_option maxRecDepth 100000 in
set_option maxHeartbeats 4000000 in
theorem ref6W10 (s : ByteArray) (limit : Int) (w : World) (r : List UInt8 × Bool × Bool × Bool) (hs : s.size ≤ 1048576) (hev : s.size % 2 = 0) (hr : tell limit (letters firstW s.size s.data.toList) [] false false = r) :
    Calls Tryz.prog 63 #[.int .i64 3, .int .i64 10, .string s, .int .i64 limit] w fun e w' => e = .returned (.tuple #[.string ⟨r.1.toArray⟩, .int .i64 (markN r.2.1 r.2.2.1 r.2.2.2), .int .i64 0]) ∧ Below w.heap.size w w' := by
  obtain ⟨L, hL⟩ : ∃ L, letters firstW s.size s.data.toList = L := ⟨_, rfl⟩
  have C := Lib.hid (wide10 s w L hs hev hL)
  have hll : L.length ≤ 1048576 := by rw [← hL]; exact Nat.le_trans (letters_length firstW s.size _) hs
  have hok : ∀ x ∈ L, okC x.1 := by rw [← hL]; exact letters_all firstW okC okW _ _
  rw [hL] at hr
  have HR := Lib.hid hr
  have HOK := Lib.hid hok
  clear hr hL hok
  have hev2 : (s.size : Int) % 2 = 0 := by omega
  go_enter Tryz.func63, Tryz.ntmps63
  go_wp2_with (go_at_call 84; refine C.out.mono ?_; rintro e w1 ⟨v, rfl, hown0, hbw0⟩)
  go_loopw [14, 15, 16] (fun ss ms is wr => ∃ (k : Nat) (acc : List UInt8) (b h : Bool), ss = .string ⟨acc.toArray⟩ ∧ ms = .int .i64 (markN b h false) ∧ is = .int .i64 k ∧ k ≤ L.length ∧ wr.ownsRow w.heap.size 159 2 v L.length (flat L) ∧ Below w.heap.size w wr ∧ acc.length ≤ 6 * k ∧ Hid (tell limit (L.drop k) acc b h = r)) (fun _ _ is _ => L.length - (intOf is).toNat)
  case atStart => exact ⟨0, [], false, false, rfl, rfl, rfl, Nat.zero_le _, hown0, hbw0, Nat.zero_le _, HR⟩
  case round =>
    obtain ⟨k, acc, b, h, rfl, rfl, rfl, hk, hown, hbw, hal, H⟩ := hrel
    clear hown0 hbw0
    by_cases hlt : k < L.length
    · rcases hown.2 with ⟨_, hz⟩ | ⟨g, cap, cur, rfl, _⟩
      · omega
      obtain ⟨x, hx⟩ : ∃ x, L[k]? = some x := ⟨_, List.getElem?_eq_getElem hlt⟩
      have hokx : okC x.1 := HOK.out x (List.mem_of_getElem? hx)
      obtain ⟨k0, k1⟩ := row_cells hown k x hx
      obtain ⟨c, br⟩ := x
      simp only at hokx k0 k1
      have S12 := Lib.hid (shown12 c wr hokx)
      go_wp2_with (go_at_call 86; refine S12.out.mono ?_; rintro e w2 ⟨rfl, hb2⟩; refine Hid.out ?_)
      have hown2 := ownsRow_on hown hb2
      have hbw2 := hbw.trans (hb2.mono hbw.size)
      obtain ⟨j0, j1⟩ := row_cells hown2 k (c, br) hx
      simp only at j0 j1
      have hl6 := shown_length c
      have hdr : L.drop k = (c, br) :: L.drop (k + 1) := by
        rw [List.drop_eq_getElem_cons hlt]
        congr 1
        exact Option.some.inj ((List.getElem?_eq_getElem hlt).symm.trans hx)
      have h1 := H.out
      rw [hdr] at h1
      have H1 := Lib.hid h1
      obtain ⟨sl, hsl⟩ : ∃ sl, shownL (c : Int) = sl := ⟨_, rfl⟩
      rw [hsl] at hl6
      refine Lib.hid ?_
      rw [hsl]
      clear h1 hdr H S12 k0 k1 hown hbw hb2 hx
      by_cases hfit : limit < (acc.length : Int) + sl.length
      · have h2 := H1.out
        rw [tell_cut limit c br _ acc sl b h hsl hfit] at h2
        have H2 := Lib.hid h2
        have hm4 : markN b h false + 4 = markN b h true := by cases b <;> cases h <;> rfl
        clear h2 H1 hsl
        have hmb : 0 ≤ markN b h false ∧ markN b h false ≤ 3 := by cases b <;> cases h <;> decide
        obtain ⟨hmb0, hmb1⟩ := hmb
        go_wp2
        go_ret3
        refine ⟨?_, hbw2⟩
        rw [← H2.out]
        rfl
      · have h2 := H1.out
        rw [tell_fit limit c br _ acc sl b h hsl hfit] at h2
        have H2 := Lib.hid h2
        have G13 := Lib.hid (fun w => harm13 c w)
        clear h2 H1 hsl
        generalize harmB (c : Int) = hc at *
        cases b <;> cases h <;> cases hc <;> cases br
        all_goals
          have e0 : markN false false false = 0 := rfl
          have e1 : markN true false false = 1 := rfl
          have e2 : markN false true false = 2 := rfl
          have e3 : markN true true false = 3 := rfl
          go_wp2_with (go_at_call 87; refine (G13.out _).mono ?_; rintro e w4 ⟨rfl, rfl⟩)
          refine ⟨⟨k + 1, acc ++ sl, _, _, ?_, ?_, by go_num, by omega, hown2, hbw2, ?_, H2⟩, by simp [intOf]; omega⟩
          · rw [ba_append]
            simp
          · rfl
          · rw [List.length_append]
            omega
    · have h2 := H.out
      rw [List.drop_eq_nil_of_le (by omega)] at h2
      have H2 := Lib.hid h2
      clear h2 H
      have hge : ¬ ((k : Int) < (L.length : Int)) := by omega
      rcases hown.2 with ⟨rfl, hz⟩ | ⟨g, cap, cur, rfl, _⟩
      all_goals
        go_wp2
        go_ret3
        refine ⟨?_, hbw⟩
        rw [← H2.out]
        rfl
end Go.Proofs.YteibjmlimcpaoaaGreatDoor.T

set_option linter.unusedVariables false
namespace Go.Proofs.YteibjmlimcpaoaaGreatDoor.T
open Go.RowKit

set_option maxRecDepth 100000 in
set_option maxHeartbeats 1000000 in
theorem ref6_no3 (q : Int) (s : ByteArray) (limit : Int) (w : World) (h1 : (q == 1) = false) (h2 : (q == 10) = false) :
    Calls Tryz.prog 63 #[.int .i64 3, .int .i64 q, .string s, .int .i64 limit] w fun e w' => e = .returned (.tuple #[.string ⟨#[]⟩, .int .i64 0, .int .i64 7]) ∧ Below w.heap.size w w' := by
  go_enter Tryz.func63, Tryz.ntmps63
  go_wp2
  go_ret3
  exact ⟨rfl, Below.refl _ _⟩

set_option maxRecDepth 100000 in
set_option maxHeartbeats 1000000 in
theorem ref6_no1 (q : Int) (s : ByteArray) (limit : Int) (w : World) (h1 : (q == 0) = false) :
    Calls Tryz.prog 63 #[.int .i64 1, .int .i64 q, .string s, .int .i64 limit] w fun e w' => e = .returned (.tuple #[.string ⟨#[]⟩, .int .i64 0, .int .i64 7]) ∧ Below w.heap.size w w' := by
  go_enter Tryz.func63, Tryz.ntmps63
  go_wp2
  go_ret3
  exact ⟨rfl, Below.refl _ _⟩

set_option maxRecDepth 100000 in
set_option maxHeartbeats 1000000 in
theorem ref6_no (p q : Int) (s : ByteArray) (limit : Int) (w : World) (h0 : (p == 0) = false) (h1 : (p == 1) = false) (h3 : (p == 3) = false) :
    Calls Tryz.prog 63 #[.int .i64 p, .int .i64 q, .string s, .int .i64 limit] w fun e w' => e = .returned (.tuple #[.string ⟨#[]⟩, .int .i64 0, .int .i64 7]) ∧ Below w.heap.size w w' := by
  go_enter Tryz.func63, Tryz.ntmps63
  go_wp2
  go_ret3
  exact ⟨rfl, Below.refl _ _⟩

set_option maxRecDepth 100000 in
set_option maxHeartbeats 1000000 in
theorem ref6_bad0 (q : Int) (s : ByteArray) (limit : Int) (w : World) (hs : s.size ≤ 1048576) (ho : (s.size : Int) % 2 = 1) :
    Calls Tryz.prog 63 #[.int .i64 0, .int .i64 q, .string s, .int .i64 limit] w fun e w' => e = .returned (.tuple #[.string ⟨#[]⟩, .int .i64 0, .int .i64 6]) ∧ Below w.heap.size w w' := by
  go_enter Tryz.func63, Tryz.ntmps63
  go_wp2
  go_ret3
  exact ⟨rfl, Below.refl _ _⟩
set_option maxRecDepth 100000 in
set_option maxHeartbeats 1000000 in
theorem ref6_bad1 (s : ByteArray) (limit : Int) (w : World) (hs : s.size ≤ 1048576) (ho : (s.size : Int) % 2 = 1) :
    Calls Tryz.prog 63 #[.int .i64 3, .int .i64 1, .string s, .int .i64 limit] w fun e w' => e = .returned (.tuple #[.string ⟨#[]⟩, .int .i64 0, .int .i64 6]) ∧ Below w.heap.size w w' := by
  go_enter Tryz.func63, Tryz.ntmps63
  go_wp2
  go_ret3
  exact ⟨rfl, Below.refl _ _⟩
set_option maxRecDepth 100000 in
set_option maxHeartbeats 1000000 in
theorem ref6_bad10 (s : ByteArray) (limit : Int) (w : World) (hs : s.size ≤ 1048576) (ho : (s.size : Int) % 2 = 1) :
    Calls Tryz.prog 63 #[.int .i64 3, .int .i64 10, .string s, .int .i64 limit] w fun e w' => e = .returned (.tuple #[.string ⟨#[]⟩, .int .i64 0, .int .i64 6]) ∧ Below w.heap.size w w' := by
  go_enter Tryz.func63, Tryz.ntmps63
  go_wp2
  go_ret3
  exact ⟨rfl, Below.refl _ _⟩

theorem ref6 (p q : Int) (s : ByteArray) (limit : Int) (w : World) (r : List UInt8 × Int × Int) (hs : s.size ≤ 1048576) (hr : textOf p q s.data.toList limit = r) :
    Calls Tryz.prog 63 #[.int .i64 p, .int .i64 q, .string s, .int .i64 limit] w fun e w' => e = .returned (.tuple #[.string ⟨r.1.toArray⟩, .int .i64 r.2.1, .int .i64 r.2.2]) ∧ Below w.heap.size w w' := by
  have hl : s.data.toList.length = s.size := by simp
  subst hr
  unfold textOf
  rw [hl]
  cases h2 : twoB p q
  · cases h1 : oneB p q
    · simp only [twoB, oneB, decide_eq_false_iff_not] at h1 h2
      by_cases p3 : p = 3
      · subst p3
        exact ref6_no3 q s limit w (by simp only [beq_eq_false_iff_ne]; omega) (by simp only [beq_eq_false_iff_ne]; omega)
      · by_cases p1 : p = 1
        · subst p1
          exact ref6_no1 q s limit w (by simp only [beq_eq_false_iff_ne]; omega)
        · exact ref6_no p q s limit w (by simp only [beq_eq_false_iff_ne]; omega) (by simp only [beq_eq_false_iff_ne]; omega) (by simp only [beq_eq_false_iff_ne]; omega)
    · simp only [oneB, decide_eq_true_eq] at h1
      obtain ⟨rfl, rfl⟩ := h1
      exact ref6N s limit w _ hs rfl
  · simp only [twoB, decide_eq_true_eq] at h2
    by_cases ho : s.size % 2 = 1
    · rw [if_pos ho]
      rcases h2 with rfl | ⟨rfl, rfl | rfl⟩
      · exact ref6_bad0 q s limit w hs (by omega)
      · exact ref6_bad1 s limit w hs (by omega)
      · exact ref6_bad10 s limit w hs (by omega)
    · rw [if_neg ho]
      rcases h2 with rfl | ⟨rfl, rfl | rfl⟩
      · exact ref6W0 q s limit w _ hs (by omega) rfl
      · exact ref6W1 s limit w _ hs (by omega) rfl
      · exact ref6W10 s limit w _ hs (by omega) rfl

end Go.Proofs.YteibjmlimcpaoaaGreatDoor.T
