/-
  visorkeep.clean: true, for every string of at most 8388608 bytes that is made of characters in UTF-8 none of which is harmful; nothing in memory turns.
-/
import Derived.Test.YteibjmlimcpaoaaDoorKeep
set_option linter.unusedVariables false
namespace Go.Proofs.YteibjmlimcpaoaaDoor.T
open Go.RowKit

theorem val_int {k : IntKind} {a b : Int} (h : a = b) : Value.int k a = Value.int k b := by rw [h]

set_option maxRecDepth 100000 in
set_option maxHeartbeats 4000000 in
theorem clean8 (s : ByteArray) (w : World) (ps : List Nat) (hs : s.size ≤ 8388608) (hps : Plain ps) (he : s.data.toList = bytesOf ps) :
    Calls Tryd.prog 12 #[.string s] w fun e w' => e = .returned (.bool true) ∧ w' = w := by
  have HE := Lib.hid he
  have HPS := Lib.hid hps
  clear he hps
  go_enter Tryd.func12, Tryd.ntmps12
  go_wp2
  go_loopw [3] (fun is wr => ∃ (k : Nat) (rest : List Nat), is = .int .i64 k ∧ k ≤ s.size ∧ wr = w ∧ Hid (Plain rest) ∧ Hid (s.data.toList.drop k = bytesOf rest)) (fun is _ => s.size - (intOf is).toNat)
  case atStart => exact ⟨0, ps, rfl, Nat.zero_le _, rfl, HPS, HE⟩
  case round =>
    obtain ⟨k, rest, rfl, hk, rfl, HP, H⟩ := hrel
    clear HPS HE
    by_cases hlt : k < s.size
    · cases rest with
      | nil =>
        have := congrArg List.length H.out
        simp [bytesOf] at this
        omega
      | cons c rest =>
        have hd : s.data.toList.drop k = utf8L c ++ bytesOf rest := H.out
        have hok := (HP.out c (by simp)).1
        have hh := (HP.out c (by simp)).2
        have HP2 : Hid (Plain rest) := fun x hx => HP.out x (List.mem_cons_of_mem _ hx)
        have G14 := Lib.hid (fun w => harm14 c w)
        rw [hh] at G14
        clear hh HP
        by_cases c1 : c < 128
        · have hub := utf_bytes c 1 0 hok.1 (by omega)
          obtain ⟨u1, u2, u3⟩ := hub
          have hsz : k + 1 ≤ s.size := by
            have := congrArg List.length hd
            rw [List.length_append, u1] at this
            simp at this
            omega
          have e0 : ((s[k].toNat : Nat) : Int) = 0 + (part c 1 1 : Int) := by
            have h := getD_drop s k 0 (by omega)
            rw [hd, getD_left _ _ _ (by omega)] at h
            have h' : (utf8L c).getD 0 0 = s[k] := h
            rw [← h', u2]
            omega
          have ej : Hid (∀ j, 1 ≤ j → (hj : j < 1) → ((s[k + j].toNat : Nat) : Int) = 128 + ((part c 1 (j + 1) % 64 : Nat) : Int)) := by
            intro j h1 h2
            have h := getD_drop s k j (by omega)
            rw [hd, getD_left _ _ _ (by omega)] at h
            rw [← h, u3 j h1 h2]
            omega
          have hnext : Hid (s.data.toList.drop (k + 1) = bytesOf rest) := by
            show _ = _
            rw [← List.drop_drop, hd, List.drop_append_of_le_length (by omega), List.drop_eq_nil_of_le (by omega), List.nil_append]
          have pstep : Hid (∀ j, j < 1 → part c 1 (j + 1) = 64 * part c 1 j + part c 1 (j + 1) % 64) := fun j hj => part_step c 1 j hj
          have pall : Hid (part c 1 1 = c) := part_all c 1
          have plt : Hid (∀ j, part c 1 j ≤ c) := fun j => Nat.div_le_self _ _
          obtain ⟨p1, hp1⟩ : ∃ p1 : Int, (part c 1 1 : Int) = p1 := ⟨_, rfl⟩
          rw [hp1] at e0
          have HP1 := Lib.hid hp1
          obtain ⟨z, hz⟩ : ∃ z : Int, (c : Int) = z := ⟨_, rfl⟩
          rw [hz] at G14
          have HZ := Lib.hid hz
          have hok2 := hok.2
          have hok1 := hok.1
          have q0 : 0 ≤ p1 := by omega
          have q1 : p1 < 128 := by rw [← hp1, part_all]; omega
          have hcr : True := trivial
          have z0 : 0 ≤ z := by omega
          have z1 : z ≤ 1114111 := by omega
          have z2 : z < 128 := by omega
          clear u1 u2 u3 hd H hp1 hz hok hok1 hok2 hcr
          have x0 := fun W => (index_at s (k : Int) k rfl (by omega) W).trans (by rw [e0])
          clear e0
          have hsz' : (k : Int) + 1 ≤ (s.size : Int) := by omega
          go_wp2_with fail
          go_loop [5, 7] (fun cs js => ∃ j : Nat, 1 ≤ j ∧ j ≤ 1 ∧ js = .int .i64 j ∧ cs = .int .i64 (part c 1 j)) (fun _ js => 1 - (intOf js).toNat)
          case atStart => exact ⟨1, Nat.le_refl _, by omega, rfl, val_int (by have := HP1.out; omega)⟩
          case round =>
            obtain ⟨j, hj1, hj2, rfl, rfl⟩ := hrel
            by_cases hj : j < 1
            · omega
            · obtain rfl : j = 1 := by omega
              rw [pall.out, HZ.out]
              clear x0
              go_wp2_with (go_at_call 33; refine (G14.out _).mono ?_; rintro e w4 ⟨rfl, rfl⟩)
              go_roundw
              case rel => exact ⟨k + 1, rest, by go_num, by omega, by first | rfl | trivial, HP2, hnext⟩
              case measure => simp [intOf]; omega
        by_cases c2 : c < 2048
        · have hub := utf_bytes c 2 192 hok.1 (by omega)
          obtain ⟨u1, u2, u3⟩ := hub
          have hsz : k + 2 ≤ s.size := by
            have := congrArg List.length hd
            rw [List.length_append, u1] at this
            simp at this
            omega
          have e0 : ((s[k].toNat : Nat) : Int) = 192 + (part c 2 1 : Int) := by
            have h := getD_drop s k 0 (by omega)
            rw [hd, getD_left _ _ _ (by omega)] at h
            have h' : (utf8L c).getD 0 0 = s[k] := h
            rw [← h', u2]
            omega
          have ej : Hid (∀ j, 1 ≤ j → (hj : j < 2) → ((s[k + j].toNat : Nat) : Int) = 128 + ((part c 2 (j + 1) % 64 : Nat) : Int)) := by
            intro j h1 h2
            have h := getD_drop s k j (by omega)
            rw [hd, getD_left _ _ _ (by omega)] at h
            rw [← h, u3 j h1 h2]
            omega
          have hnext : Hid (s.data.toList.drop (k + 2) = bytesOf rest) := by
            show _ = _
            rw [← List.drop_drop, hd, List.drop_append_of_le_length (by omega), List.drop_eq_nil_of_le (by omega), List.nil_append]
          have pstep : Hid (∀ j, j < 2 → part c 2 (j + 1) = 64 * part c 2 j + part c 2 (j + 1) % 64) := fun j hj => part_step c 2 j hj
          have pall : Hid (part c 2 2 = c) := part_all c 2
          have plt : Hid (∀ j, part c 2 j ≤ c) := fun j => Nat.div_le_self _ _
          obtain ⟨p1, hp1⟩ : ∃ p1 : Int, (part c 2 1 : Int) = p1 := ⟨_, rfl⟩
          rw [hp1] at e0
          have HP1 := Lib.hid hp1
          obtain ⟨z, hz⟩ : ∃ z : Int, (c : Int) = z := ⟨_, rfl⟩
          rw [hz] at G14
          have HZ := Lib.hid hz
          have hok2 := hok.2
          have hok1 := hok.1
          have hcr : part c 2 1 = c / 64 := by simp [part]
          have q0 : 2 ≤ p1 := by omega
          have q1 : p1 < 32 := by omega
          have z0 : 0 ≤ z := by omega
          have z1 : z ≤ 1114111 := by omega
          have z2 : 128 ≤ z := by omega
          have z3 : z < 2048 := by omega
          clear u1 u2 u3 hd H hp1 hz hok hok1 hok2 hcr
          have x0 := fun W => (index_at s (k : Int) k rfl (by omega) W).trans (by rw [e0])
          clear e0
          have hsz' : (k : Int) + 2 ≤ (s.size : Int) := by omega
          go_wp2_with fail
          go_loop [5, 7] (fun cs js => ∃ j : Nat, 1 ≤ j ∧ j ≤ 2 ∧ js = .int .i64 j ∧ cs = .int .i64 (part c 2 j)) (fun _ js => 2 - (intOf js).toNat)
          case atStart => exact ⟨1, Nat.le_refl _, by omega, rfl, val_int (by have := HP1.out; omega)⟩
          case round =>
            obtain ⟨j, hj1, hj2, rfl, rfl⟩ := hrel
            by_cases hj : j < 2
            · obtain ⟨y, hy⟩ : ∃ y : Int, ((part c 2 (j + 1) % 64 : Nat) : Int) = y := ⟨_, rfl⟩
              have eb := ej.out j hj1 hj
              rw [hy] at eb
              have xj := fun W => (index_at s ((k : Int) + (j : Int)) (k + j) (by omega) (by omega) W).trans (by rw [eb])
              have y0 : 0 ≤ y := by omega
              have y1 : y < 64 := by omega
              have ps := pstep.out j hj
              obtain ⟨pj, hpj⟩ : ∃ pj : Int, ((part c 2 j : Nat) : Int) = pj := ⟨_, rfl⟩
              have pj0 : 0 ≤ pj := by omega
              have pj1 : pj ≤ 1114111 := by have := plt.out j; have := HZ.out; omega
              have HF : Hid ((part c 2 (j + 1) : Int) = 64 * pj + y) := by show _ = _; omega
              rw [hpj]
              clear eb hy ps hpj x0
              have hji : (j : Int) < 2 := by omega
              go_wp2
              exact ⟨⟨_, _, _, ⟨j + 1, by omega, by omega, by go_num, val_int (by have := HF.out; omega)⟩, rfl, rfl, rfl⟩, by simp [intOf]; omega⟩
            · obtain rfl : j = 2 := by omega
              rw [pall.out, HZ.out]
              clear x0
              go_wp2_with (go_at_call 33; refine (G14.out _).mono ?_; rintro e w4 ⟨rfl, rfl⟩)
              go_roundw
              case rel => exact ⟨k + 2, rest, by go_num, by omega, by first | rfl | trivial, HP2, hnext⟩
              case measure => simp [intOf]; omega
        by_cases c3 : c < 65536
        · have hub := utf_bytes c 3 224 hok.1 (by omega)
          obtain ⟨u1, u2, u3⟩ := hub
          have hsz : k + 3 ≤ s.size := by
            have := congrArg List.length hd
            rw [List.length_append, u1] at this
            simp at this
            omega
          have e0 : ((s[k].toNat : Nat) : Int) = 224 + (part c 3 1 : Int) := by
            have h := getD_drop s k 0 (by omega)
            rw [hd, getD_left _ _ _ (by omega)] at h
            have h' : (utf8L c).getD 0 0 = s[k] := h
            rw [← h', u2]
            omega
          have ej : Hid (∀ j, 1 ≤ j → (hj : j < 3) → ((s[k + j].toNat : Nat) : Int) = 128 + ((part c 3 (j + 1) % 64 : Nat) : Int)) := by
            intro j h1 h2
            have h := getD_drop s k j (by omega)
            rw [hd, getD_left _ _ _ (by omega)] at h
            rw [← h, u3 j h1 h2]
            omega
          have hnext : Hid (s.data.toList.drop (k + 3) = bytesOf rest) := by
            show _ = _
            rw [← List.drop_drop, hd, List.drop_append_of_le_length (by omega), List.drop_eq_nil_of_le (by omega), List.nil_append]
          have pstep : Hid (∀ j, j < 3 → part c 3 (j + 1) = 64 * part c 3 j + part c 3 (j + 1) % 64) := fun j hj => part_step c 3 j hj
          have pall : Hid (part c 3 3 = c) := part_all c 3
          have plt : Hid (∀ j, part c 3 j ≤ c) := fun j => Nat.div_le_self _ _
          obtain ⟨p1, hp1⟩ : ∃ p1 : Int, (part c 3 1 : Int) = p1 := ⟨_, rfl⟩
          rw [hp1] at e0
          have HP1 := Lib.hid hp1
          obtain ⟨z, hz⟩ : ∃ z : Int, (c : Int) = z := ⟨_, rfl⟩
          rw [hz] at G14
          have HZ := Lib.hid hz
          have hok2 := hok.2
          have hok1 := hok.1
          have hcr : part c 3 1 = c / 4096 := by simp [part]
          have q0 : 0 ≤ p1 := by omega
          have q1 : p1 < 16 := by omega
          have z0 : 0 ≤ z := by omega
          have z1 : z ≤ 1114111 := by omega
          have z2 : 2048 ≤ z := by omega
          have z3 : z < 65536 := by omega
          have z4 : z < 55296 ∨ 57343 < z := by omega
          clear u1 u2 u3 hd H hp1 hz hok hok1 hok2 hcr
          have x0 := fun W => (index_at s (k : Int) k rfl (by omega) W).trans (by rw [e0])
          clear e0
          have hsz' : (k : Int) + 3 ≤ (s.size : Int) := by omega
          go_wp2_with fail
          go_loop [5, 7] (fun cs js => ∃ j : Nat, 1 ≤ j ∧ j ≤ 3 ∧ js = .int .i64 j ∧ cs = .int .i64 (part c 3 j)) (fun _ js => 3 - (intOf js).toNat)
          case atStart => exact ⟨1, Nat.le_refl _, by omega, rfl, val_int (by have := HP1.out; omega)⟩
          case round =>
            obtain ⟨j, hj1, hj2, rfl, rfl⟩ := hrel
            by_cases hj : j < 3
            · obtain ⟨y, hy⟩ : ∃ y : Int, ((part c 3 (j + 1) % 64 : Nat) : Int) = y := ⟨_, rfl⟩
              have eb := ej.out j hj1 hj
              rw [hy] at eb
              have xj := fun W => (index_at s ((k : Int) + (j : Int)) (k + j) (by omega) (by omega) W).trans (by rw [eb])
              have y0 : 0 ≤ y := by omega
              have y1 : y < 64 := by omega
              have ps := pstep.out j hj
              obtain ⟨pj, hpj⟩ : ∃ pj : Int, ((part c 3 j : Nat) : Int) = pj := ⟨_, rfl⟩
              have pj0 : 0 ≤ pj := by omega
              have pj1 : pj ≤ 1114111 := by have := plt.out j; have := HZ.out; omega
              have HF : Hid ((part c 3 (j + 1) : Int) = 64 * pj + y) := by show _ = _; omega
              rw [hpj]
              clear eb hy ps hpj x0
              have hji : (j : Int) < 3 := by omega
              go_wp2
              exact ⟨⟨_, _, _, ⟨j + 1, by omega, by omega, by go_num, val_int (by have := HF.out; omega)⟩, rfl, rfl, rfl⟩, by simp [intOf]; omega⟩
            · obtain rfl : j = 3 := by omega
              rw [pall.out, HZ.out]
              clear x0
              rcases z4 with z4 | z4
              all_goals
                go_wp2_with (go_at_call 33; refine (G14.out _).mono ?_; rintro e w4 ⟨rfl, rfl⟩)
                go_roundw
                case rel => exact ⟨k + 3, rest, by go_num, by omega, by first | rfl | trivial, HP2, hnext⟩
                case measure => simp [intOf]; omega
        have hub := utf_bytes c 4 240 hok.1 (by omega)
        obtain ⟨u1, u2, u3⟩ := hub
        have hsz : k + 4 ≤ s.size := by
          have := congrArg List.length hd
          rw [List.length_append, u1] at this
          simp at this
          omega
        have e0 : ((s[k].toNat : Nat) : Int) = 240 + (part c 4 1 : Int) := by
          have h := getD_drop s k 0 (by omega)
          rw [hd, getD_left _ _ _ (by omega)] at h
          have h' : (utf8L c).getD 0 0 = s[k] := h
          rw [← h', u2]
          omega
        have ej : Hid (∀ j, 1 ≤ j → (hj : j < 4) → ((s[k + j].toNat : Nat) : Int) = 128 + ((part c 4 (j + 1) % 64 : Nat) : Int)) := by
          intro j h1 h2
          have h := getD_drop s k j (by omega)
          rw [hd, getD_left _ _ _ (by omega)] at h
          rw [← h, u3 j h1 h2]
          omega
        have hnext : Hid (s.data.toList.drop (k + 4) = bytesOf rest) := by
          show _ = _
          rw [← List.drop_drop, hd, List.drop_append_of_le_length (by omega), List.drop_eq_nil_of_le (by omega), List.nil_append]
        have pstep : Hid (∀ j, j < 4 → part c 4 (j + 1) = 64 * part c 4 j + part c 4 (j + 1) % 64) := fun j hj => part_step c 4 j hj
        have pall : Hid (part c 4 4 = c) := part_all c 4
        have plt : Hid (∀ j, part c 4 j ≤ c) := fun j => Nat.div_le_self _ _
        obtain ⟨p1, hp1⟩ : ∃ p1 : Int, (part c 4 1 : Int) = p1 := ⟨_, rfl⟩
        rw [hp1] at e0
        have HP1 := Lib.hid hp1
        obtain ⟨z, hz⟩ : ∃ z : Int, (c : Int) = z := ⟨_, rfl⟩
        rw [hz] at G14
        have HZ := Lib.hid hz
        have hok2 := hok.2
        have hok1 := hok.1
        have hcr : part c 4 1 = c / 262144 := by simp [part]
        have q0 : 0 ≤ p1 := by omega
        have q1 : p1 < 5 := by omega
        have z0 : 0 ≤ z := by omega
        have z1 : z ≤ 1114111 := by omega
        have z2 : 65536 ≤ z := by omega
        clear u1 u2 u3 hd H hp1 hz hok hok1 hok2 hcr
        have x0 := fun W => (index_at s (k : Int) k rfl (by omega) W).trans (by rw [e0])
        clear e0
        have hsz' : (k : Int) + 4 ≤ (s.size : Int) := by omega
        go_wp2_with fail
        go_loop [5, 7] (fun cs js => ∃ j : Nat, 1 ≤ j ∧ j ≤ 4 ∧ js = .int .i64 j ∧ cs = .int .i64 (part c 4 j)) (fun _ js => 4 - (intOf js).toNat)
        case atStart => exact ⟨1, Nat.le_refl _, by omega, rfl, val_int (by have := HP1.out; omega)⟩
        case round =>
          obtain ⟨j, hj1, hj2, rfl, rfl⟩ := hrel
          by_cases hj : j < 4
          · obtain ⟨y, hy⟩ : ∃ y : Int, ((part c 4 (j + 1) % 64 : Nat) : Int) = y := ⟨_, rfl⟩
            have eb := ej.out j hj1 hj
            rw [hy] at eb
            have xj := fun W => (index_at s ((k : Int) + (j : Int)) (k + j) (by omega) (by omega) W).trans (by rw [eb])
            have y0 : 0 ≤ y := by omega
            have y1 : y < 64 := by omega
            have ps := pstep.out j hj
            obtain ⟨pj, hpj⟩ : ∃ pj : Int, ((part c 4 j : Nat) : Int) = pj := ⟨_, rfl⟩
            have pj0 : 0 ≤ pj := by omega
            have pj1 : pj ≤ 1114111 := by have := plt.out j; have := HZ.out; omega
            have HF : Hid ((part c 4 (j + 1) : Int) = 64 * pj + y) := by show _ = _; omega
            rw [hpj]
            clear eb hy ps hpj x0
            have hji : (j : Int) < 4 := by omega
            go_wp2
            exact ⟨⟨_, _, _, ⟨j + 1, by omega, by omega, by go_num, val_int (by have := HF.out; omega)⟩, rfl, rfl, rfl⟩, by simp [intOf]; omega⟩
          · obtain rfl : j = 4 := by omega
            rw [pall.out, HZ.out]
            clear x0
            go_wp2_with (go_at_call 33; refine (G14.out _).mono ?_; rintro e w4 ⟨rfl, rfl⟩)
            go_roundw
            case rel => exact ⟨k + 4, rest, by go_num, by omega, by first | rfl | trivial, HP2, hnext⟩
            case measure => simp [intOf]; omega
    · have hge : ¬ ((k : Int) < (s.size : Int)) := by omega
      go_wp2
      go_ret
      exact ⟨rfl, rfl⟩
end Go.Proofs.YteibjmlimcpaoaaDoor.T
