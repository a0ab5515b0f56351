/-
  The document's own side: what visorref.hides does to a list of yes and no; what the law's own sameB answers.
-/
import Derived.Test.YteibjmlimcpaoaaGreatDoorRvP
import Derived.Test.YteibjmlimcpaoaaGreatDoorWg
import Derived.Test.YteibjmlimcpaoaaGreatDoorLc
set_option linter.unusedVariables false
set_option linter.unusedSimpArgs false
namespace Go.Proofs.YteibjmlimcpaoaaGreatDoor.V
open Go.RowKit Go.Sort
open Go.Proofs.YteibjmlimcpaoaaGreatDoor.W (at_below at_alloc new_at below_alloc strV PolIs pv RowIs BoolsAt bools_set grown_at grown_below grown_trans grown_set)

def bcells (L : List Bool) : List Value := L.map Value.bool
set_option maxRecDepth 100000 in
set_option maxHeartbeats 1000000 in
theorem sameBV (va vb : Value) (l : List Bool) (w : World) (hl : l.length ≤ 9223372036854775806) (ha : RowIs w va l.length (bcells l)) (hb : RowIs w vb l.length (bcells l)) :
    Calls Tryz.prog 23 #[va, vb] w fun e w' => e = .returned (.bool true) ∧ Below w.heap.size w w' := by
  have HA := Lib.hid ha
  have HB := Lib.hid hb
  obtain ⟨ao, acap, rfl, ha⟩ := ha
  obtain ⟨bo, bcap, rfl, hb⟩ := hb
  clear ha hb
  go_enter Tryz.func23, Tryz.ntmps23
  go_wp2
  go_loopw [5] (fun is wr => ∃ (k : Nat), is = .int .i64 k ∧ k ≤ l.length ∧ Below w.heap.size w wr) (fun is _ => l.length - (intOf is).toNat)
  case atStart => exact ⟨0, rfl, Nat.zero_le _, Below.refl _ _⟩
  case round =>
    obtain ⟨k, rfl, hk, hbw⟩ := hrel
    by_cases hlt : k < l.length
    · obtain ⟨_, _, hao, ha⟩ := HA.out.on hbw
      cases hao
      obtain ⟨g, o, rfl, hca⟩ := ha (by omega)
      obtain ⟨_, _, hao, hb⟩ := HB.out.on hbw
      cases hao
      obtain ⟨g', o', rfl, hcb⟩ := hb (by omega)
      obtain ⟨x, hx⟩ : ∃ x, l[k]? = some x := ⟨_, List.getElem?_eq_getElem hlt⟩
      have t0 : (bcells l)[k]? = some (.bool x) := by unfold bcells; rw [List.getElem?_map, hx]; rfl
      have c0 := hca _ _ t0
      have d0 := hcb _ _ t0
      clear ha hb hca hcb t0 hx
      have ik0 : (0 : Int) ≤ (k : Int) := by omega
      have ik1 : (k : Int) < (l.length : Int) := by omega
      go_wp2_with fail
      go_quiet (fail)
      go_wp2
      exact ⟨⟨k + 1, by go_num, by omega, draws_below hbw nq⟩, by simp [intOf]; omega⟩
    · have hge : ¬ ((k : Int) < (l.length : Int)) := by omega
      go_wp2
      go_ret
      exact ⟨rfl, hbw⟩

def plF (l : List UInt8) (i : Nat) : Nat := num2 l 4 + num2 l (6 + 12 * i + 10)
def plT (l : List UInt8) (i : Nat) : Nat := plF l i + num2 l (6 + 12 * i + 8)
def heldI (P : Pol) (l : List UInt8) (i : Nat) : Bool := P.ids.contains ((num2 l (6 + 12 * i + 6) : Nat) : Int)
def hidN (P : Pol) (l : List UInt8) (j : Nat) : Nat → Bool
  | 0 => false
  | k + 1 => if plF l k ≤ j ∧ j < plT l k then hidN P l j k || heldI P l k else hidN P l j k
def opnN (P : Pol) (l : List UInt8) (j : Nat) : Nat → Bool
  | 0 => false
  | k + 1 => if plF l k ≤ j ∧ j < plT l k then opnN P l j k || (!heldI P l k && decide (plT l k ≤ l.length)) else opnN P l j k
def hideK (P : Pol) (l : List UInt8) (n fr : Nat) : Nat → List Bool → List Bool
  | 0, L => L
  | k + 1, L => if (hidN P l (6 + 12 * n + k) n && !opnN P l (6 + 12 * n + k) n) = true then (hideK P l n fr k L).set (fr + (6 + 12 * n + k)) false else hideK P l n fr k L
theorem hideK_length (P : Pol) (l : List UInt8) (n fr : Nat) : ∀ (k : Nat) (L : List Bool), (hideK P l n fr k L).length = L.length
  | 0, L => rfl
  | k + 1, L => by
    rw [hideK]
    split
    · rw [List.length_set, hideK_length]
    · exact hideK_length P l n fr k L

theorem below_grown {w0 w w' : World} {g : Nat} (hb : Below w0.heap.size w0 w) (h : w.grownBy w' (some g)) (hg : w0.heap.size ≤ g) : Below w0.heap.size w0 w' :=
  hb.trans ⟨h.os, h.tape, h.output, h.size, fun i hi => h.block i (by have := hb.size; omega) (by intro e; cases e; omega)⟩

set_option maxRecDepth 100000 in
set_option maxHeartbeats 8000000 in
theorem hidesV (P : Pol) (T I : Value) (l : List UInt8) (w0 w : World) (hp : PolIs P T I w0) (hb0 : Below w0.heap.size w0 w) (h8 : P.ids.length ≤ 8) (hl : l.length ≤ 2000) (h6 : 6 ≤ l.length) (n : Nat) (hn : num2 l 2 = n) (hnl : 6 + 12 * n ≤ l.length) (g fr cap : Nat) (hg0 : w0.heap.size ≤ g) (L : List Bool) (hL : fr + l.length ≤ L.length) (hg : BoolsAt g L w) :
    Calls Tryz.prog 46 #[pv T I P.text, strV l, .slice (some ⟨g, fr, none⟩) l.length cap] w fun e w' => e = .returned (.tuple #[]) ∧ w.grownBy w' (some g) ∧ BoolsAt g (hideK P l n fr (l.length - (6 + 12 * n)) L) w' := by
  have lg : g < w.heap.size := (Array.getElem?_eq_some_iff.1 hg).1
  obtain ⟨ta, tc, hTe, _⟩ := id hp.tags
  obtain ⟨ia, ic, hIe, _⟩ := id hp.ids
  subst hTe hIe
  obtain ⟨W, hW⟩ : ∃ W, w.alloc (.cells #[.slice ta P.tags.length tc, .slice ia P.ids.length ic, .int .i64 P.text] 25) = W := ⟨_, rfl⟩
  have hbW : Below w.heap.size w W := by rw [← hW]; exact below_alloc _ _
  have n0 : W.heap[w.heap.size]? = some (.cells #[.slice ta P.tags.length tc, .slice ia P.ids.length ic, .int .i64 P.text] 25 (0, 0)) := by rw [← hW]; exact new_at _ _
  have HW := Lib.hid (And.intro n0 (And.intro hbW (And.intro (at_below hg hbW) (And.intro hp (hb0.trans (hbW.mono hb0.size))))))
  have N2 := Lib.hid (fun (w : World) (A : Int) (hA : A = ((2 : Nat) : Int)) => num2V l (by omega) w 2 A (n : Int) hA (by omega) (by rw [hn]))
  have sW : w.heap.size < W.heap.size := (Array.getElem?_eq_some_iff.1 n0).1
  unfold pv strV
  clear n0 hbW hp hn hg hb0
  have hn200 : n ≤ 200 := by omega
  have HL := Lib.hid hL
  clear hL
  go_enter Tryz.func46, Tryz.ntmps46
  go_wp2_with (go_at_call 59; refine (N2.out _ _ (by omega)).mono ?_; rintro e w1 ⟨rfl, hw1⟩; have hw1 := hw1.symm; subst hw1)
  go_loopw [7] (fun js wr => ∃ (k : Nat), js = .int .i64 ((6 + 12 * n + k : Nat) : Int) ∧ 6 + 12 * n + k ≤ l.length ∧ Hid (BoolsAt g (hideK P l n fr k L) wr) ∧ Hid (W.grownBy wr (some g))) (fun js _ => l.length - (intOf js).toNat)
  case atStart => exact ⟨0, by first | rfl | go_num | (congr 1; omega), by omega, Lib.hid HW.out.2.2.1, Lib.hid (World.grownBy.refl _ _)⟩
  case round =>
    obtain ⟨k, rfl, hk, HA, HG⟩ := hrel
    obtain ⟨j, hj⟩ : ∃ j, 6 + 12 * n + k = j := ⟨_, rfl⟩
    rw [hj] at hk ⊢
    obtain ⟨Wo, hWo⟩ : ∃ W, W = wr := ⟨_, rfl⟩
    subst hWo
    by_cases c : j < l.length
    · have ij : (j : Int) < (l.length : Int) := by omega
      have ij0 : (0 : Int) ≤ (j : Int) := by omega
      have box := Go.Proofs.YteibjmlimcpaoaaGreatDoor.W.grown_at HG.out HW.out.1 (by omega)
      have HP := Lib.hid (HW.out.2.2.2.1.on (below_grown HW.out.2.2.2.2 HG.out hg0))
      have HX := Lib.hid (And.intro box HP.out)
      have sWo : W.heap.size ≤ Wo.heap.size := HG.out.size
      clear box HP
      go_wp2_with fail
      go_loopw [8, 9, 10] (fun hs os is wq => ∃ (i : Nat) (H O : Bool), is = .int .i64 (i : Int) ∧ hs = .bool H ∧ os = .bool O ∧ i ≤ n ∧ Hid (hidN P l j i = H ∧ opnN P l j i = O) ∧ Hid (Below Wo.heap.size Wo wq)) (fun _ _ is _ => n - (intOf is).toNat)
      case atStart => exact ⟨0, false, false, rfl, rfl, rfl, Nat.zero_le _, Lib.hid ⟨rfl, rfl⟩, Lib.hid (Below.refl _ _)⟩
      case round =>
        obtain ⟨i, H, O, rfl, rfl, rfl, hi, HH, HQ⟩ := hrel
        obtain ⟨Wi, hWi⟩ : ∃ W, W = wr := ⟨_, rfl⟩
        subst hWi
        by_cases c2 : i < n
        · obtain ⟨f, hf⟩ : ∃ f, num2 l 4 + num2 l (6 + 12 * i + 10) = f := ⟨_, rfl⟩
          obtain ⟨t, ht⟩ : ∃ t, f + num2 l (6 + 12 * i + 8) = t := ⟨_, rfl⟩
          obtain ⟨lies, hlies⟩ : ∃ q, decide (t ≤ l.length) = q := ⟨_, rfl⟩
          obtain ⟨hd, hhd⟩ : ∃ q, P.ids.contains ((num2 l (6 + 12 * i + 6) : Nat) : Int) = q := ⟨_, rfl⟩
          have sH : hidN P l j (i + 1) = if f ≤ j ∧ j < t then H || hd else H := by
            rw [hidN, HH.out.1]
            unfold plT plF heldI
            rw [hf, ht, hhd]
          have sO : opnN P l j (i + 1) = if f ≤ j ∧ j < t then O || (!hd && lies) else O := by
            rw [opnN, HH.out.2]
            unfold plT plF heldI
            rw [hf, ht, hhd, hlies]
          have PL := Lib.hid (fun (w : World) => placeV l i w (by omega) hl f t hf ht lies hlies)
          have HE := Lib.hid (fun (x : World) (h : Below Wo.heap.size Wo x) => heldV P (.slice ta P.tags.length tc) (.slice ia P.ids.length ic) l i x (HX.out.2.on h) h8 (by omega) hl hd hhd)
          have bft : t < 262144 := by
            have := num2_lt l 4
            have := num2_lt l (6 + 12 * i + 10)
            have := num2_lt l (6 + 12 * i + 8)
            omega
          have hft : f ≤ t := by omega
          have HS := Lib.hid (And.intro sH sO)
          unfold pv strV at HE
          unfold strV at PL
          have ii : (i : Int) < (n : Int) := by omega
          have i200 : i < 200 := by omega
          clear sH sO hf ht hlies hhd
          go_wp2_with (go_at_call 62; refine (PL.out _).mono ?_; rintro e w3 ⟨rfl, hb3⟩; refine Hid.out ?_)
          obtain ⟨V4, hV4⟩ : ∃ W, w3.alloc (.cells #[.int .i64 (f : Int), .int .i64 (t : Int), .bool lies] 118) = W := ⟨_, rfl⟩
          have b3 := HQ.out.trans (hb3.mono HQ.out.size)
          have r4 : V4.heap[w3.heap.size]? = some (.cells #[.int .i64 (f : Int), .int .i64 (t : Int), .bool lies] 118 (0, 0)) := by rw [← hV4]; exact new_at _ _
          have b4 : Below Wo.heap.size Wo V4 := by rw [← hV4]; exact b3.alloc b3.size _
          have e4 := at_below HX.out.1 b4
          have p0 := cellsAt e4 0
          have p1 := cellsAt e4 1
          have p2 := cellsAt e4 2
          simp only [List.getElem?_toArray, List.getElem?_cons_zero, List.getElem?_cons_succ] at p0 p1 p2
          have C4 := Lib.hid (HE.out V4 b4)
          have H4 := Lib.hid (And.intro r4 b4)
          clear PL HE e4 r4 b4 b3 hb3
          subst hV4
          refine Lib.hid ?_
          go_wp2_with (go_at_call 61; refine C4.out.mono ?_; rintro e w5 ⟨rfl, hb5⟩; refine Hid.out ?_)
          have r5 := at_below H4.out.1 hb5
          have b5 := H4.out.2.trans (hb5.mono H4.out.2.size)
          have y0 := cellsAt r5 0
          have y1 := cellsAt r5 1
          have y2 := cellsAt r5 2
          simp only [List.getElem?_toArray, List.getElem?_cons_zero, List.getElem?_cons_succ] at y0 y1 y2
          have H5 := Lib.hid b5
          clear C4 H4 p0 p1 p2 r5 b5 hb5
          refine Lib.hid ?_
          by_cases cf : f ≤ j ∧ j < t
          · have cf1 : (f : Int) ≤ (j : Int) := by omega
            have cf2 : (j : Int) < (t : Int) := by omega
            have g1 := HS.out.1
            have g2 := HS.out.2
            rw [if_pos cf] at g1 g2
            have HS2 := Lib.hid (And.intro g1 g2)
            clear g1 g2 HS cf
            cases H <;> cases O <;> cases hd <;> cases lies <;>
              (go_wp2_with fail
               exact ⟨⟨i + 1, _, _, by go_num, rfl, rfl, by omega, Lib.hid ⟨HS2.out.1, HS2.out.2⟩, H5⟩, by simp [intOf]; omega⟩)
          · have g1 := HS.out.1
            have g2 := HS.out.2
            rw [if_neg cf] at g1 g2
            have HS2 := Lib.hid (And.intro g1 g2)
            clear g1 g2 HS
            by_cases cf1 : f ≤ j
            · have cf2 : ¬ ((j : Int) < (t : Int)) := by omega
              have cf3 : (f : Int) ≤ (j : Int) := by omega
              clear cf cf1
              go_wp2_with fail
              exact ⟨⟨i + 1, _, _, by go_num, rfl, rfl, by omega, Lib.hid ⟨HS2.out.1, HS2.out.2⟩, H5⟩, by simp [intOf]; omega⟩
            · have cf3 : ¬ ((f : Int) ≤ (j : Int)) := by omega
              clear cf cf1
              go_wp2_with fail
              exact ⟨⟨i + 1, _, _, by go_num, rfl, rfl, by omega, Lib.hid ⟨HS2.out.1, HS2.out.2⟩, H5⟩, by simp [intOf]; omega⟩
        · have hin : i = n := by omega
          subst hin
          have ii : ¬ ((i : Int) < (i : Int)) := by omega
          have hA := at_below HA.out HQ.out
          have sK : hideK P l i fr (k + 1) L = if (H && !O) = true then (hideK P l i fr k L).set (fr + j) false else hideK P l i fr k L := by
            rw [hideK, hj, HH.out.1, HH.out.2]
          have gW := Go.Proofs.YteibjmlimcpaoaaGreatDoor.W.grown_trans HG.out (Go.Proofs.YteibjmlimcpaoaaGreatDoor.W.grown_below (some g) HQ.out)
          have hlen : fr + j < (hideK P l i fr k L).length := by rw [hideK_length]; have := HL.out; omega
          have c0 : Wi.cell? ⟨g, fr + j, none⟩ = some (.bool ((hideK P l i fr k L)[fr + j])) := by
            have := cellsAt hA (fr + j)
            rw [this]
            simp [List.getElem?_eq_getElem hlen]
          have f0 := frozenAt hA (fr + j)
          have HS := Lib.hid (bools_set (k := fr + j) hA false)
          obtain ⟨xx, hxx⟩ : ∃ xx, (hideK P l i fr k L)[fr + j] = xx := ⟨_, rfl⟩
          rw [hxx] at c0
          have HZ := Lib.hid (And.intro hA (And.intro sK gW))
          have ek : ((j : Int) + 1) = ((6 + 12 * i + (k + 1) : Nat) : Int) := by omega
          have EK := Lib.hid ek
          clear hA sK gW hxx hlen ek
          cases H <;> cases O
          · go_wp2_with fail
            exact ⟨⟨k + 1, by first | exact congrArg _ EK.out | go_num | (congr 1; omega), by omega, Lib.hid (by have := HZ.out.2.1; simp at this; rw [this]; exact HZ.out.1), Lib.hid HZ.out.2.2⟩, by simp [intOf]; omega⟩
          · go_wp2_with fail
            exact ⟨⟨k + 1, by first | exact congrArg _ EK.out | go_num | (congr 1; omega), by omega, Lib.hid (by have := HZ.out.2.1; simp at this; rw [this]; exact HZ.out.1), Lib.hid HZ.out.2.2⟩, by simp [intOf]; omega⟩
          · go_wp2_with fail
            exact ⟨⟨k + 1, by first | exact congrArg _ EK.out | go_num | (congr 1; omega), by omega, Lib.hid (by have := HZ.out.2.1; simp at this; rw [this]; exact HS.out), Lib.hid (Go.Proofs.YteibjmlimcpaoaaGreatDoor.W.grown_set HZ.out.2.2 _ _)⟩, by simp [intOf]; omega⟩
          · go_wp2_with fail
            exact ⟨⟨k + 1, by first | exact congrArg _ EK.out | go_num | (congr 1; omega), by omega, Lib.hid (by have := HZ.out.2.1; simp at this; rw [this]; exact HZ.out.1), Lib.hid HZ.out.2.2⟩, by simp [intOf]; omega⟩
    · have ij : ¬ ((j : Int) < (l.length : Int)) := by omega
      have ek : k = l.length - (6 + 12 * n) := by omega
      have EK := Lib.hid ek
      clear ek hj
      go_wp2
      go_end0
      refine ⟨rfl, Go.Proofs.YteibjmlimcpaoaaGreatDoor.W.grown_trans (Go.Proofs.YteibjmlimcpaoaaGreatDoor.W.grown_below (some g) HW.out.2.1) HG.out, ?_⟩
      rw [← EK.out]
      exact HA.out
end Go.Proofs.YteibjmlimcpaoaaGreatDoor.V
