/-
  The law Told answers true, for every platform, encoding, string of at most 1048576 bytes and two ints; nothing that lay in memory turns.
-/
import Derived.Test.YteibjmlimcpaoaaDoorKeepb
set_option linter.unusedVariables false
namespace Go.Proofs.YteibjmlimcpaoaaDoor.T
open Go.RowKit

def pk (c : Int) : Int := if c < 0 then (-(c + 1)) % 100 else c % 100
theorem pk_range (c : Int) : 0 ≤ pk c ∧ pk c < 100 := by unfold pk; split <;> omega

set_option maxRecDepth 100000 in
set_option maxHeartbeats 1000000 in
theorem pickp (c : Int) (w : World) (h0 : -9223372036854775808 ≤ c) (h1 : c ≤ 9223372036854775807) :
    Calls Tryd.prog 11 #[.int .i64 c, .int .i64 100] w fun e w' => e = .returned (.int .i64 (pk c)) ∧ w' = w := by
  by_cases hc : c < 0
  · have e : pk c = (-(c + 1)) % 100 := if_pos hc
    rw [e]
    clear e
    go_enter Tryd.func11, Tryd.ntmps11
    go_wp2
    go_ret
    refine ⟨ret_int ?_, rfl⟩
    rw [← Int.neg_tmod, Int.tmod_eq_emod_of_nonneg (by omega)]
  · have e : pk c = c % 100 := if_neg hc
    rw [e]
    clear e
    have hc' : 0 ≤ c := by omega
    go_enter Tryd.func11, Tryd.ntmps11
    go_wp2
    go_ret
    exact ⟨rfl, rfl⟩

theorem slice_front (a d : List UInt8) (W : World) : (Instr.slice 9 (.string ⟨(a ++ d).toArray⟩) none (some (.int .i64 (a.length : Int))) none).run Tryd.prog W = .ok (.string ⟨a.toArray⟩) W := by
  rw [run_slice_string_to_if W 9 _ .i64 _ Tryd.underlying9]
  rw [if_pos ⟨by omega, by rw [ba_size, List.length_append]; omega⟩, ByteArray.extract_mk]
  simp

theorem told_text : textOf 3 1 [0, 65, 0, 60, 0, 98] 60 = ([65, 60, 51, 99, 62, 98], 0, 0) := by decide +kernel

set_option maxRecDepth 100000 in
set_option maxHeartbeats 2000000 in
theorem told4 (p q : Int) (s : ByteArray) (limit more : Int) (w : World) (hs : s.size ≤ 1048576) (ht : Tab w)
    (l0 : -9223372036854775808 ≤ limit) (l1 : limit ≤ 9223372036854775807) (m0 : -9223372036854775808 ≤ more) (m1 : more ≤ 9223372036854775807) :
    Calls Tryd.prog 4 #[.int .i64 p, .int .i64 q, .string s, .int .i64 limit, .int .i64 more] w fun e w' => e = .returned (.bool true) ∧ Below w.heap.size w w' := by
  have hsl : s.data.toList.length = s.size := by simp
  have PL := Lib.hid (fun w => pickp limit w l0 l1)
  have PM := Lib.hid (fun w => pickp more w m0 m1)
  obtain ⟨n0, n1⟩ := pk_range limit
  obtain ⟨k0, k1⟩ := pk_range more
  generalize pk limit = n at *
  generalize pk more = m at *
  have F := text_facts p q s.data.toList n (n + m) (16 * (s.size : Int) + 16) n0 (by omega) (by rw [hsl])
  have F2 := (text_facts p q s.data.toList (n + m) (n + m) (16 * (s.size : Int) + 16) (by omega) (by omega) (by rw [hsl])).2.2.1
  have T1 := Lib.hid (fun w ht => text5 p q s n w _ hs ht rfl)
  have T2 := Lib.hid (fun w ht => text5 p q s (n + m) w _ hs ht rfl)
  have T3 := Lib.hid (fun w ht => text5 p q s (16 * (s.size : Int) + 16) w _ hs ht rfl)
  have A := Lib.hid (text5 3 1 ⟨#[0, 65, 0, 60, 0, 98]⟩ 60 w _ (by decide) ht told_text)
  generalize textOf p q s.data.toList n = r1 at *
  generalize textOf p q s.data.toList (n + m) = r2 at *
  generalize textOf p q s.data.toList (16 * (s.size : Int) + 16) = r3 at *
  obtain ⟨a1, a2, a3⟩ := r1
  obtain ⟨b1, b2, b3⟩ := r2
  obtain ⟨c1, c2, c3⟩ := r3
  simp only at F F2 T1 T2 T3
  obtain ⟨f1, ⟨d, f2⟩, f3, ⟨f4, f5⟩, ⟨f6, f7⟩, ⟨pa, f8, f9⟩, ⟨pb, f10, f11⟩, f12⟩ := F
  subst f1
  have CA := Lib.hid (fun w => clean8 ⟨a1.toArray⟩ w pa (by rw [ba_size]; omega) f8 (by simpa using f9))
  have CB := Lib.hid (fun w => clean8 ⟨b1.toArray⟩ w pb (by rw [ba_size]; omega) f10 (by simpa using f11))
  have hsf : ∀ W, (Instr.slice 9 (.string ⟨b1.toArray⟩) none (some (.int .i64 (a1.length : Int))) none).run Tryd.prog W = .ok (.string ⟨a1.toArray⟩) W := by rw [f2]; exact slice_front a1 d
  have hab : (a1.length : Int) ≤ (b1.length : Int) := by rw [f2, List.length_append]; omega
  have hal : (a1.length : Int) ≤ n := f3
  clear f2 f3 f8 f9 f10 f11 l0 l1 m0 m1 hsl F2
  rcases f12 with ⟨g1, g2, g3, g4, g5⟩ | ⟨g1, g2, ⟨e, g3⟩, g4⟩
  · subst g2 g3 g4 g5
    have g1' : (b3 == 0) = false := by simpa using g1
    have g1'' : (b3 != 0) = true := by simpa using g1
    clear g1 T3
    go_enter Tryd.func4, Tryd.ntmps4
    go_wp2_with (go_at_call 9; refine A.out.mono ?_; rintro e w1 ⟨rfl, hb1⟩; refine Hid.out ?_)
    have ht1 := ht.on hb1
    refine Lib.hid ?_
    go_wp2_with (go_at_call 11; refine (PL.out _).mono ?_; rintro e w2 ⟨rfl, rfl⟩; refine Hid.out ?_)
    refine Lib.hid ?_
    go_wp2_with (go_at_call 9; refine (T1.out _ ht1).mono ?_; rintro e w3 ⟨rfl, hb3⟩; refine Hid.out ?_)
    have ht3 := ht1.on hb3
    refine Lib.hid ?_
    go_wp2_with (go_at_call 11; refine (PM.out _).mono ?_; rintro e w4 ⟨rfl, rfl⟩; refine Hid.out ?_)
    refine Lib.hid ?_
    go_wp2_with (go_at_call 9; refine (T2.out _ ht3).mono ?_; rintro e w5 ⟨rfl, hb5⟩; refine Hid.out ?_)
    refine Lib.hid ?_
    go_wp2_with (go_at_call 12; refine (CA.out _).mono ?_; rintro e w6 ⟨rfl, rfl⟩; refine Hid.out ?_)
    refine Lib.hid ?_
    go_wp2_with (go_at_call 12; refine (CB.out _).mono ?_; rintro e w7 ⟨rfl, rfl⟩; refine Hid.out ?_)
    refine Lib.hid ?_
    go_wp2
    go_ret
    refine ⟨rfl, (hb1.trans (hb3.mono hb1.size)).trans (hb5.mono ?_)⟩
    exact Nat.le_trans hb1.size hb3.size
  · subst g1
    have hsg : ∀ W, (Instr.slice 9 (.string ⟨c1.toArray⟩) none (some (.int .i64 (a1.length : Int))) none).run Tryd.prog W = .ok (.string ⟨a1.toArray⟩) W := by rw [g3]; exact slice_front a1 e
    have hac : (a1.length : Int) ≤ (c1.length : Int) := by rw [g3, List.length_append]; omega
    have g5 : decide (4 ≤ a2) = decide ((a1.length : Int) < (c1.length : Int)) := by rw [g4]; simp
    have G5 := Lib.hid g5
    clear g3 g4 g5
    go_enter Tryd.func4, Tryd.ntmps4
    go_wp2_with (go_at_call 9; refine A.out.mono ?_; rintro e w1 ⟨rfl, hb1⟩; refine Hid.out ?_)
    have ht1 := ht.on hb1
    refine Lib.hid ?_
    go_wp2_with (go_at_call 11; refine (PL.out _).mono ?_; rintro e w2 ⟨rfl, rfl⟩; refine Hid.out ?_)
    refine Lib.hid ?_
    go_wp2_with (go_at_call 9; refine (T1.out _ ht1).mono ?_; rintro e w3 ⟨rfl, hb3⟩; refine Hid.out ?_)
    have ht3 := ht1.on hb3
    refine Lib.hid ?_
    go_wp2_with (go_at_call 11; refine (PM.out _).mono ?_; rintro e w4 ⟨rfl, rfl⟩; refine Hid.out ?_)
    refine Lib.hid ?_
    go_wp2_with (go_at_call 9; refine (T2.out _ ht3).mono ?_; rintro e w5 ⟨rfl, hb5⟩; refine Hid.out ?_)
    refine Lib.hid ?_
    go_wp2_with (go_at_call 12; refine (CA.out _).mono ?_; rintro e w6 ⟨rfl, rfl⟩; refine Hid.out ?_)
    refine Lib.hid ?_
    go_wp2_with (go_at_call 12; refine (CB.out _).mono ?_; rintro e w7 ⟨rfl, rfl⟩; refine Hid.out ?_)
    have ht5 := ht3.on hb5
    refine Lib.hid ?_
    go_wp2_with (go_at_call 9; refine (T3.out _ ht5).mono ?_; rintro e w8 ⟨rfl, hb8⟩; refine Hid.out ?_)
    refine Lib.hid ?_
    have hiff : 4 ≤ a2 ↔ a1.length < c1.length := by
      have h := decide_eq_decide.1 G5.out
      omega
    have HI := Lib.hid hiff
    clear hiff
    go_wp2
    · go_ret
      refine ⟨?_, ((hb1.trans (hb3.mono hb1.size)).trans (hb5.mono (Nat.le_trans hb1.size hb3.size))).trans (hb8.mono ?_)⟩
      · rfl
      · exact Nat.le_trans (Nat.le_trans hb1.size hb3.size) hb5.size
end Go.Proofs.YteibjmlimcpaoaaDoor.T
