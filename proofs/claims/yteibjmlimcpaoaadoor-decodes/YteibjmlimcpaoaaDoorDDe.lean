/-
  What report.Decode and visor.Decode answer, for every string: the right report that has these bytes, its lists in new memory, or that there is none; nothing that lay in memory turns.
-/
import Derived.Test.YteibjmlimcpaoaaDoorDRp
set_option linter.unusedVariables false
set_option linter.unusedSimpArgs false
namespace Go.Proofs.YteibjmlimcpaoaaDoor
open Go.RowKit Go.Sort

def zeroR : Value := .agg #[.int .i64 0, .slice none 0 0, .int .i64 0, .int .i64 0, .int .i64 0, .int .i64 0, .int .i64 0, .int .i64 0, .int .i64 0, .slice none 0 0, .int .i64 0, .int .i64 0, .int .i64 0]

theorem rowOfOwn {w : World} {B e k : Nat} {v : Value} {n : Nat} {xs : List Value} (h : w.ownsRow B e k v n xs) : RowIs w v n xs := by
  obtain ⟨h1, ⟨rfl, rfl⟩ | ⟨g, cap, cur, rfl, hb, hg, hn, hm, hs, ht⟩⟩ := h
  · exact ⟨none, 0, rfl, fun h => by omega⟩
  · refine ⟨_, _, rfl, fun _ => ⟨g, 0, rfl, fun j u hj => ?_⟩⟩
    rw [Nat.zero_add, cellsAt hg, ← Array.getElem?_toList]
    rw [← ht, List.getElem?_take] at hj
    split at hj
    · exact hj
    · cases hj
theorem dnm_tx (s : St) : (dnm s).1.tx.size ≤ 256 := by
  unfold dnm
  simp only
  rw [ba_size]
  exact Nat.le_trans (dtake_len _ _) (Nat.le_of_lt (dnum1_lt _))
theorem dlist_tx : ∀ (n : Nat) (s : St), ∀ x ∈ (dlist dnm n s).1, x.tx.size ≤ 256
  | 0, s, x, h => by cases h
  | n + 1, s, x, h => by
    simp only [dlist, List.mem_cons] at h
    rcases h with rfl | h
    · exact dnm_tx s
    · exact dlist_tx n _ x h
theorem drep_lt (s : St) : (drep s).1.lt.length ≤ 256 := by
  unfold drep
  simp only [dlist_length]
  exact Nat.le_of_lt (dnum1_lt _)
theorem drep_ln (s : St) : (drep s).1.ln.length ≤ 256 := by
  unfold drep
  simp only [dlist_length]
  exact Nat.le_of_lt (dnum1_lt _)
theorem drep_tx (s : St) : ∀ x ∈ (drep s).1.ln, x.tx.size ≤ 256 := by
  unfold drep
  simp only
  exact dlist_tx _ _
theorem empty_iff (l : List UInt8) : (ByteArray.mk l.toArray).toList.isEmpty = l.isEmpty := by
  rw [ByteArray.toList_eq]

/-- what a Decode leaves: an answer in new memory -/
def DecIs (B : Nat) (b : List UInt8) (w : World) (v : Value) : Prop :=
  match decOf b with
  | none => v = .tuple #[zeroR, .int .i64 5]
  | some r => ∃ T N, v = .tuple #[r.val T N, .int .i64 0] ∧ w.ownsRow B 77 3 T r.lt.length (tcells r.lt) ∧ w.ownsRow B 79 7 N r.ln.length (ncells r.ln) ∧ (T.ownBlock = none ∨ T.ownBlock ≠ N.ownBlock)

set_option maxRecDepth 100000 in
set_option maxHeartbeats 4000000 in
theorem dec34_any (b : List UInt8) (w : World) (hl : b.length ≤ 9223372036854775807) (hu : Utabs w) (D : World → Value → Prop) (r : Rep) (rest : List UInt8) (sh : Bool) (hx : drep (b, false) = (r, rest, sh))
    (hbad : ∀ w', ¬ (sh = false ∧ rest = [] ∧ r.right = true) → D w' (.tuple #[zeroR, .int .i64 5]))
    (hgood : ∀ w' T N, sh = false → rest = [] → r.right = true → w'.ownsRow w.heap.size 77 3 T r.lt.length (tcells r.lt) → w'.ownsRow w.heap.size 79 7 N r.ln.length (ncells r.ln) → (T.ownBlock = none ∨ T.ownBlock ≠ N.ownBlock) → D w' (.tuple #[r.val T N, .int .i64 0])) :
    Calls Tryd.prog 41 #[.string ⟨b.toArray⟩] w fun e w' => ∃ v, e = .returned v ∧ D w' v ∧ Below w.heap.size w w' := by
  have R := Lib.hid (fun (p : Nat) (w1 : World) (h : RdAt p (b, false) w1) => rep49 p (b, false) w1 hl h)
  have q1 := drep_lt (b, false)
  have q2 := drep_ln (b, false)
  have q3 := drep_tx (b, false)
  rw [hx] at R q1 q2 q3
  simp only at R q1 q2 q3
  clear hx
  have HB := Lib.hid hbad
  have HG := Lib.hid hgood
  clear hbad hgood
  have he := empty_iff rest
  have b0 : Below w.heap.size w ((w.alloc (.cells #[.int .i64 0, .slice none 0 0, .int .i64 0, .int .i64 0, .int .i64 0, .int .i64 0, .int .i64 0, .int .i64 0, .int .i64 0, .slice none 0 0, .int .i64 0, .int .i64 0, .int .i64 0] 37)).alloc (.cells #[.string ⟨b.toArray⟩, .bool false] 99)) := ((Below.refl _ _).alloc (Nat.le_refl _) _).alloc (by simp) _
  have r0 := allocOldN (o' := .cells #[.string ⟨b.toArray⟩, .bool false] 99) (allocAt w (.cells #[.int .i64 0, .slice none 0 0, .int .i64 0, .int .i64 0, .int .i64 0, .int .i64 0, .int .i64 0, .int .i64 0, .int .i64 0, .slice none 0 0, .int .i64 0, .int .i64 0, .int .i64 0] 37))
  have rd0 : RdAt (w.heap.size + 1) (b, false) ((w.alloc (.cells #[.int .i64 0, .slice none 0 0, .int .i64 0, .int .i64 0, .int .i64 0, .int .i64 0, .int .i64 0, .int .i64 0, .int .i64 0, .slice none 0 0, .int .i64 0, .int .i64 0, .int .i64 0] 37)).alloc (.cells #[.string ⟨b.toArray⟩, .bool false] 99)) := allocAtN _ _ _ (by simp)
  go_enter Tryd.func41, Tryd.ntmps41
  go_wp2_with (go_at_call 59; refine (R.out _ _ rd0).mono ?_; rintro e w1 ⟨T, N, rfl, oT, oN, hTN, rd1, g1⟩; refine Hid.out ?_)
  have b1 := b0.grown g1 b0.size (fun k hk => by cases hk; omega)
  have r1 := grownAt r0 g1 (by omega)
  have oT1 := own_mono (B' := w.heap.size) oT b0.size
  have oN1 := own_mono (B' := w.heap.size) oN b0.size
  have s1 := g1.size
  simp at s1
  clear R b0 r0 rd0 g1 oT oN
  obtain ⟨Ta, Tn, Tc, hTe⟩ : ∃ ao n' cap, T = .slice ao n' cap := by
    rcases oT1.2 with ⟨hv, _⟩ | ⟨_, _, _, hv, _⟩
    · exact ⟨_, _, _, hv⟩
    · exact ⟨_, _, _, hv⟩
  obtain ⟨Na, Nn, Nc, hNe⟩ : ∃ ao n' cap, N = .slice ao n' cap := by
    rcases oN1.2 with ⟨hv, _⟩ | ⟨_, _, _, hv, _⟩
    · exact ⟨_, _, _, hv⟩
    · exact ⟨_, _, _, hv⟩
  subst hTe hNe
  unfold RdAt at rd1
  simp only at rd1
  unfold Rep.val
  have b2 : Below w.heap.size w (w1.alloc (.cells #[.int .i64 r.kind, .slice Ta Tn Tc, .int .i64 r.hs, .int .i64 r.hf, .int .i64 r.hu, .int .i64 r.rs, .int .i64 r.rv, .int .i64 r.rb, .int .i64 r.nm, .slice Na Nn Nc, .int .i64 r.cs, .int .i64 r.cf, .int .i64 r.cc] 37)) := b1.alloc b1.size _
  have r2 := allocOldN (o' := .cells #[.int .i64 r.kind, .slice Ta Tn Tc, .int .i64 r.hs, .int .i64 r.hf, .int .i64 r.hu, .int .i64 r.rs, .int .i64 r.rv, .int .i64 r.rb, .int .i64 r.nm, .slice Na Nn Nc, .int .i64 r.cs, .int .i64 r.cf, .int .i64 r.cc] 37) r1
  have rd2 := allocOldN (o' := .cells #[.int .i64 r.kind, .slice Ta Tn Tc, .int .i64 r.hs, .int .i64 r.hf, .int .i64 r.hu, .int .i64 r.rs, .int .i64 r.rv, .int .i64 r.rb, .int .i64 r.nm, .slice Na Nn Nc, .int .i64 r.cs, .int .i64 r.cf, .int .i64 r.cc] 37) rd1
  have x0 := cellsAt rd2 0
  have x1 := cellsAt rd2 1
  simp only [List.getElem?_toArray, List.getElem?_cons_zero, List.getElem?_cons_succ] at x0 x1
  have R2 := Lib.hid (fun (w2 : World) (hb : Below w.heap.size w w2) hT hN => right46 r.kind r.hs r.hf r.hu r.rs r.rv r.rb r.nm r.cs r.cf r.cc (.slice Ta Tn Tc) (.slice Na Nn Nc) r.lt r.ln w2 (by omega) (by omega) (fun x hx => by have := q3 x hx; omega) hT hN (hu.below hb))
  have hrr : rightB r.kind r.hs r.hf r.hu r.rs r.rv r.rb r.nm r.cs r.cf r.cc r.lt r.ln = r.right := rfl
  rw [hrr] at R2
  have hpx : w1.heap.size ≠ w.heap.size := by omega
  have hpy : w1.heap.size ≠ w.heap.size + 1 := by omega
  cases sh
  · cases hrest : rest with
    | cons q qs =>
      have hne : (ByteArray.mk rest.toArray).toList.isEmpty = false := by rw [he, hrest]; rfl
      rw [hrest] at hne HB HG rd1 rd2 x0
      have z0 := cellsAt r2 0
      have z1 := cellsAt r2 1
      have z2 := cellsAt r2 2
      have z3 := cellsAt r2 3
      have z4 := cellsAt r2 4
      have z5 := cellsAt r2 5
      have z6 := cellsAt r2 6
      have z7 := cellsAt r2 7
      have z8 := cellsAt r2 8
      have z9 := cellsAt r2 9
      have z10 := cellsAt r2 10
      have z11 := cellsAt r2 11
      have z12 := cellsAt r2 12
      simp only [List.getElem?_toArray, List.getElem?_cons_zero, List.getElem?_cons_succ] at z0 z1 z2 z3 z4 z5 z6 z7 z8 z9 z10 z11 z12
      have f0 := frozenAt r2 0
      have f1 := frozenAt r2 1
      have f2 := frozenAt r2 2
      have f3 := frozenAt r2 3
      have f4 := frozenAt r2 4
      have f5 := frozenAt r2 5
      have f6 := frozenAt r2 6
      have f7 := frozenAt r2 7
      have f8 := frozenAt r2 8
      have f9 := frozenAt r2 9
      have f10 := frozenAt r2 10
      have f11 := frozenAt r2 11
      have f12 := frozenAt r2 12
      clear r2 rd2 oT1 oN1 r1 rd1 R2 he hrest
      refine Lib.hid ?_
      go_wp2
      exact bodyPost_ret (v := .tuple #[zeroR, .int .i64 5]) (by simp [results, Tryd.results41, go_sem, z0, z1, z2, z3, z4, z5, z6, z7, z8, z9, z10, z11, z12, zeroR]) rfl ⟨_, rfl, HB.out _ (fun h => by cases h.2.1), setAll_below (Nat.le_refl _) [.int .i64 0, .slice none 0 0, .int .i64 0, .int .i64 0, .int .i64 0, .int .i64 0, .int .i64 0, .int .i64 0, .int .i64 0, .slice none 0 0, .int .i64 0, .int .i64 0, .int .i64 0] 0 _ _ b2⟩
    | nil =>
      have hne : (ByteArray.mk rest.toArray).toList.isEmpty = true := by rw [he, hrest]; rfl
      subst hrest
      have a2 := allocAt w1 (.cells #[.int .i64 r.kind, .slice Ta Tn Tc, .int .i64 r.hs, .int .i64 r.hf, .int .i64 r.hu, .int .i64 r.rs, .int .i64 r.rv, .int .i64 r.rb, .int .i64 r.nm, .slice Na Nn Nc, .int .i64 r.cs, .int .i64 r.cf, .int .i64 r.cc] 37)
      have y0 := cellsAt a2 0
      have y1 := cellsAt a2 1
      have y2 := cellsAt a2 2
      have y3 := cellsAt a2 3
      have y4 := cellsAt a2 4
      have y5 := cellsAt a2 5
      have y6 := cellsAt a2 6
      have y7 := cellsAt a2 7
      have y8 := cellsAt a2 8
      have y9 := cellsAt a2 9
      have y10 := cellsAt a2 10
      have y11 := cellsAt a2 11
      have y12 := cellsAt a2 12
      simp only [List.getElem?_toArray, List.getElem?_cons_zero, List.getElem?_cons_succ] at y0 y1 y2 y3 y4 y5 y6 y7 y8 y9 y10 y11 y12
      have oT2 := oT1.alloc (.cells #[.int .i64 r.kind, .slice Ta Tn Tc, .int .i64 r.hs, .int .i64 r.hf, .int .i64 r.hu, .int .i64 r.rs, .int .i64 r.rv, .int .i64 r.rb, .int .i64 r.nm, .slice Na Nn Nc, .int .i64 r.cs, .int .i64 r.cf, .int .i64 r.cc] 37)
      have oN2 := oN1.alloc (.cells #[.int .i64 r.kind, .slice Ta Tn Tc, .int .i64 r.hs, .int .i64 r.hf, .int .i64 r.hu, .int .i64 r.rs, .int .i64 r.rv, .int .i64 r.rb, .int .i64 r.nm, .slice Na Nn Nc, .int .i64 r.cs, .int .i64 r.cf, .int .i64 r.cc] 37)
      have RR := Lib.hid (R2.out _ b2 (rowOfOwn oT2) (rowOfOwn oN2))
      clear R2 oT1 oN1 r1 rd1
      cases hright : r.right
      · rw [hright] at RR
        refine Lib.hid ?_
        go_wp2_with (go_at_call 56; refine RR.out.mono ?_; rintro e w3 ⟨rfl, hb3⟩; refine Hid.out ?_)
        have b3 := b2.trans (hb3.mono b2.size)
        have r3 := belowAt' hb3 r2
        have z0 := cellsAt r3 0
        have z1 := cellsAt r3 1
        have z2 := cellsAt r3 2
        have z3 := cellsAt r3 3
        have z4 := cellsAt r3 4
        have z5 := cellsAt r3 5
        have z6 := cellsAt r3 6
        have z7 := cellsAt r3 7
        have z8 := cellsAt r3 8
        have z9 := cellsAt r3 9
        have z10 := cellsAt r3 10
        have z11 := cellsAt r3 11
        have z12 := cellsAt r3 12
        simp only [List.getElem?_toArray, List.getElem?_cons_zero, List.getElem?_cons_succ] at z0 z1 z2 z3 z4 z5 z6 z7 z8 z9 z10 z11 z12
        have f0 := frozenAt r3 0
        have f1 := frozenAt r3 1
        have f2 := frozenAt r3 2
        have f3 := frozenAt r3 3
        have f4 := frozenAt r3 4
        have f5 := frozenAt r3 5
        have f6 := frozenAt r3 6
        have f7 := frozenAt r3 7
        have f8 := frozenAt r3 8
        have f9 := frozenAt r3 9
        have f10 := frozenAt r3 10
        have f11 := frozenAt r3 11
        have f12 := frozenAt r3 12
        clear r2 rd2 r3 RR b2 hb3 oT2 oN2 y0 y1 y2 y3 y4 y5 y6 y7 y8 y9 y10 y11 y12
        refine Lib.hid ?_
        go_wp2
        exact bodyPost_ret (v := .tuple #[zeroR, .int .i64 5]) (by simp [results, Tryd.results41, go_sem, z0, z1, z2, z3, z4, z5, z6, z7, z8, z9, z10, z11, z12, zeroR]) rfl ⟨_, rfl, HB.out _ (fun h => by rw [hright] at h; cases h.2.2), setAll_below (Nat.le_refl _) [.int .i64 0, .slice none 0 0, .int .i64 0, .int .i64 0, .int .i64 0, .int .i64 0, .int .i64 0, .int .i64 0, .int .i64 0, .slice none 0 0, .int .i64 0, .int .i64 0, .int .i64 0] 0 _ _ b3⟩
      · rw [hright] at RR
        have G0 := Lib.hid (fun w' => HG.out w' (.slice Ta Tn Tc) (.slice Na Nn Nc) rfl rfl hright)
        clear HG
        refine Lib.hid ?_
        go_wp2_with (go_at_call 56; refine RR.out.mono ?_; rintro e w3 ⟨rfl, hb3⟩; refine Hid.out ?_)
        have b3 := b2.trans (hb3.mono b2.size)
        have r3 := belowAt' hb3 r2
        have a3 := belowAt' hb3 a2
        have oT3 := oT2.kept (row := none) (grown_below _ hb3) (by cases hv : (Value.slice Ta Tn Tc).ownBlock <;> simp)
        have oN3 := oN2.kept (row := none) (grown_below _ hb3) (by cases hv : (Value.slice Na Nn Nc).ownBlock <;> simp)
        have tE := own_setAll oT3 (own_ne37 r3 oT3 (by decide)) [.int .i64 r.kind, .slice Ta Tn Tc, .int .i64 r.hs, .int .i64 r.hf, .int .i64 r.hu, .int .i64 r.rs, .int .i64 r.rv, .int .i64 r.rb, .int .i64 r.nm, .slice Na Nn Nc, .int .i64 r.cs, .int .i64 r.cf, .int .i64 r.cc] 0
        have nE := own_setAll oN3 (own_ne37 r3 oN3 (by decide)) [.int .i64 r.kind, .slice Ta Tn Tc, .int .i64 r.hs, .int .i64 r.hf, .int .i64 r.hu, .int .i64 r.rs, .int .i64 r.rv, .int .i64 r.rb, .int .i64 r.nm, .slice Na Nn Nc, .int .i64 r.cs, .int .i64 r.cf, .int .i64 r.cc] 0
        have GG := Lib.hid (G0.out _ tE nE hTN)
        clear G0 tE nE
        clear y0 y1 y2 y3 y4 y5 y6 y7 y8 y9 y10 y11 y12
        have z0 := cellsAt r3 0
        have z1 := cellsAt r3 1
        have z2 := cellsAt r3 2
        have z3 := cellsAt r3 3
        have z4 := cellsAt r3 4
        have z5 := cellsAt r3 5
        have z6 := cellsAt r3 6
        have z7 := cellsAt r3 7
        have z8 := cellsAt r3 8
        have z9 := cellsAt r3 9
        have z10 := cellsAt r3 10
        have z11 := cellsAt r3 11
        have z12 := cellsAt r3 12
        simp only [List.getElem?_toArray, List.getElem?_cons_zero, List.getElem?_cons_succ] at z0 z1 z2 z3 z4 z5 z6 z7 z8 z9 z10 z11 z12
        have y0 := cellsAt a3 0
        have y1 := cellsAt a3 1
        have y2 := cellsAt a3 2
        have y3 := cellsAt a3 3
        have y4 := cellsAt a3 4
        have y5 := cellsAt a3 5
        have y6 := cellsAt a3 6
        have y7 := cellsAt a3 7
        have y8 := cellsAt a3 8
        have y9 := cellsAt a3 9
        have y10 := cellsAt a3 10
        have y11 := cellsAt a3 11
        have y12 := cellsAt a3 12
        simp only [List.getElem?_toArray, List.getElem?_cons_zero, List.getElem?_cons_succ] at y0 y1 y2 y3 y4 y5 y6 y7 y8 y9 y10 y11 y12
        have f0 := frozenAt r3 0
        have f1 := frozenAt r3 1
        have f2 := frozenAt r3 2
        have f3 := frozenAt r3 3
        have f4 := frozenAt r3 4
        have f5 := frozenAt r3 5
        have f6 := frozenAt r3 6
        have f7 := frozenAt r3 7
        have f8 := frozenAt r3 8
        have f9 := frozenAt r3 9
        have f10 := frozenAt r3 10
        have f11 := frozenAt r3 11
        have f12 := frozenAt r3 12
        clear r2 rd2 r3 RR b2 hb3 oT2 oN2 oT3 oN3 a2 a3
        refine Lib.hid ?_
        go_wp2
        exact bodyPost_ret (v := .tuple #[.agg #[.int .i64 r.kind, .slice Ta Tn Tc, .int .i64 r.hs, .int .i64 r.hf, .int .i64 r.hu, .int .i64 r.rs, .int .i64 r.rv, .int .i64 r.rb, .int .i64 r.nm, .slice Na Nn Nc, .int .i64 r.cs, .int .i64 r.cf, .int .i64 r.cc], .int .i64 0]) (by simp [results, Tryd.results41, go_sem, z0, z1, z2, z3, z4, z5, z6, z7, z8, z9, z10, z11, z12]) rfl ⟨_, rfl, GG.out, setAll_below (Nat.le_refl _) [.int .i64 r.kind, .slice Ta Tn Tc, .int .i64 r.hs, .int .i64 r.hf, .int .i64 r.hu, .int .i64 r.rs, .int .i64 r.rv, .int .i64 r.rb, .int .i64 r.nm, .slice Na Nn Nc, .int .i64 r.cs, .int .i64 r.cf, .int .i64 r.cc] 0 _ _ b3⟩
  · have z0 := cellsAt r2 0
    have z1 := cellsAt r2 1
    have z2 := cellsAt r2 2
    have z3 := cellsAt r2 3
    have z4 := cellsAt r2 4
    have z5 := cellsAt r2 5
    have z6 := cellsAt r2 6
    have z7 := cellsAt r2 7
    have z8 := cellsAt r2 8
    have z9 := cellsAt r2 9
    have z10 := cellsAt r2 10
    have z11 := cellsAt r2 11
    have z12 := cellsAt r2 12
    simp only [List.getElem?_toArray, List.getElem?_cons_zero, List.getElem?_cons_succ] at z0 z1 z2 z3 z4 z5 z6 z7 z8 z9 z10 z11 z12
    have f0 := frozenAt r2 0
    have f1 := frozenAt r2 1
    have f2 := frozenAt r2 2
    have f3 := frozenAt r2 3
    have f4 := frozenAt r2 4
    have f5 := frozenAt r2 5
    have f6 := frozenAt r2 6
    have f7 := frozenAt r2 7
    have f8 := frozenAt r2 8
    have f9 := frozenAt r2 9
    have f10 := frozenAt r2 10
    have f11 := frozenAt r2 11
    have f12 := frozenAt r2 12
    clear r2 rd2 oT1 oN1 r1 rd1 R2
    refine Lib.hid ?_
    go_wp2
    exact bodyPost_ret (v := .tuple #[zeroR, .int .i64 5]) (by simp [results, Tryd.results41, go_sem, z0, z1, z2, z3, z4, z5, z6, z7, z8, z9, z10, z11, z12, zeroR]) rfl ⟨_, rfl, HB.out _ (fun h => by cases h.1), setAll_below (Nat.le_refl _) [.int .i64 0, .slice none 0 0, .int .i64 0, .int .i64 0, .int .i64 0, .int .i64 0, .int .i64 0, .int .i64 0, .int .i64 0, .slice none 0 0, .int .i64 0, .int .i64 0, .int .i64 0] 0 _ _ b2⟩

theorem dec34 (b : List UInt8) (w : World) (hl : b.length ≤ 9223372036854775807) (hu : Utabs w) :
    Calls Tryd.prog 41 #[.string ⟨b.toArray⟩] w fun e w' => ∃ v, e = .returned v ∧ DecIs w.heap.size b w' v ∧ Below w.heap.size w w' := by
  rcases hx : drep (b, false) with ⟨r, rest, sh⟩
  refine dec34_any b w hl hu (fun w' v => DecIs w.heap.size b w' v) r rest sh hx ?_ ?_
  · intro w' hn
    unfold DecIs decOf
    rw [hx, if_neg]
    rintro ⟨h1, h2⟩
    cases h1
    exact hn ⟨rfl, rfl, h2⟩
  · intro w' T N h1 h2 h3 oT oN hTN
    subst h1 h2
    unfold DecIs decOf
    rw [hx, if_pos ⟨rfl, h3⟩]
    exact ⟨T, N, rfl, oT, oN, hTN⟩

set_option maxRecDepth 100000 in
set_option maxHeartbeats 2000000 in
theorem dec15 (b : List UInt8) (w : World) (hl : b.length ≤ 9223372036854775807) (hu : Utabs w) :
    Calls Tryd.prog 17 #[.string ⟨b.toArray⟩] w fun e w' => ∃ v, e = .returned v ∧ DecIs w.heap.size b w' v ∧ Below w.heap.size w w' := by
  have b0 : Below w.heap.size w (w.alloc (.cells #[.int .i64 0, .slice none 0 0, .int .i64 0, .int .i64 0, .int .i64 0, .int .i64 0, .int .i64 0, .int .i64 0, .int .i64 0, .slice none 0 0, .int .i64 0, .int .i64 0, .int .i64 0] 37)) := (Below.refl _ _).alloc (Nat.le_refl _) _
  have A := Lib.hid (dec34 b (w.alloc (.cells #[.int .i64 0, .slice none 0 0, .int .i64 0, .int .i64 0, .int .i64 0, .int .i64 0, .int .i64 0, .int .i64 0, .int .i64 0, .slice none 0 0, .int .i64 0, .int .i64 0, .int .i64 0] 37)) hl (hu.below b0))
  have r0 := allocAt w (.cells #[.int .i64 0, .slice none 0 0, .int .i64 0, .int .i64 0, .int .i64 0, .int .i64 0, .int .i64 0, .int .i64 0, .int .i64 0, .slice none 0 0, .int .i64 0, .int .i64 0, .int .i64 0] 37)
  unfold DecIs at A ⊢
  cases hd : decOf b with
  | none =>
    rw [hd] at A
    simp only at A ⊢
    go_enter Tryd.func17, Tryd.ntmps17
    go_wp2_with (go_at_call 41; refine A.out.mono ?_; rintro e w1 ⟨v, rfl, rfl, hb1⟩; refine Hid.out ?_)
    have b1 := b0.trans (hb1.mono b0.size)
    have r1 := belowAt' hb1 r0
    have z0 := cellsAt r1 0
    have z1 := cellsAt r1 1
    have z2 := cellsAt r1 2
    have z3 := cellsAt r1 3
    have z4 := cellsAt r1 4
    have z5 := cellsAt r1 5
    have z6 := cellsAt r1 6
    have z7 := cellsAt r1 7
    have z8 := cellsAt r1 8
    have z9 := cellsAt r1 9
    have z10 := cellsAt r1 10
    have z11 := cellsAt r1 11
    have z12 := cellsAt r1 12
    simp only [List.getElem?_toArray, List.getElem?_cons_zero, List.getElem?_cons_succ] at z0 z1 z2 z3 z4 z5 z6 z7 z8 z9 z10 z11 z12
    have f0 := frozenAt r1 0
    have f1 := frozenAt r1 1
    have f2 := frozenAt r1 2
    have f3 := frozenAt r1 3
    have f4 := frozenAt r1 4
    have f5 := frozenAt r1 5
    have f6 := frozenAt r1 6
    have f7 := frozenAt r1 7
    have f8 := frozenAt r1 8
    have f9 := frozenAt r1 9
    have f10 := frozenAt r1 10
    have f11 := frozenAt r1 11
    have f12 := frozenAt r1 12
    clear A b0 hb1 r0 r1
    unfold zeroR
    refine Lib.hid ?_
    go_wp2
    exact bodyPost_ret (v := .tuple #[zeroR, .int .i64 5]) (by simp [results, Tryd.results17, go_sem, z0, z1, z2, z3, z4, z5, z6, z7, z8, z9, z10, z11, z12, zeroR]) rfl ⟨_, rfl, rfl, setAll_below (Nat.le_refl _) [.int .i64 0, .slice none 0 0, .int .i64 0, .int .i64 0, .int .i64 0, .int .i64 0, .int .i64 0, .int .i64 0, .int .i64 0, .slice none 0 0, .int .i64 0, .int .i64 0, .int .i64 0] 0 _ _ b1⟩
  | some r =>
    rw [hd] at A
    simp only at A ⊢
    go_enter Tryd.func17, Tryd.ntmps17
    go_wp2_with (go_at_call 41; refine A.out.mono ?_; rintro e w1 ⟨v, rfl, ⟨T, N, rfl, oT, oN, hTN⟩, hb1⟩; refine Hid.out ?_)
    have b1 := b0.trans (hb1.mono b0.size)
    have r1 := belowAt' hb1 r0
    have oT1 := own_mono (B' := w.heap.size) oT b0.size
    have oN1 := own_mono (B' := w.heap.size) oN b0.size
    obtain ⟨Ta, Tn, Tc, hTe⟩ : ∃ ao n' cap, T = .slice ao n' cap := by
      rcases oT1.2 with ⟨hv, _⟩ | ⟨_, _, _, hv, _⟩
      · exact ⟨_, _, _, hv⟩
      · exact ⟨_, _, _, hv⟩
    obtain ⟨Na, Nn, Nc, hNe⟩ : ∃ ao n' cap, N = .slice ao n' cap := by
      rcases oN1.2 with ⟨hv, _⟩ | ⟨_, _, _, hv, _⟩
      · exact ⟨_, _, _, hv⟩
      · exact ⟨_, _, _, hv⟩
    subst hTe hNe
    have tE := own_setAll oT1 (own_ne37 r1 oT1 (by decide)) [.int .i64 r.kind, .slice Ta Tn Tc, .int .i64 r.hs, .int .i64 r.hf, .int .i64 r.hu, .int .i64 r.rs, .int .i64 r.rv, .int .i64 r.rb, .int .i64 r.nm, .slice Na Nn Nc, .int .i64 r.cs, .int .i64 r.cf, .int .i64 r.cc] 0
    have nE := own_setAll oN1 (own_ne37 r1 oN1 (by decide)) [.int .i64 r.kind, .slice Ta Tn Tc, .int .i64 r.hs, .int .i64 r.hf, .int .i64 r.hu, .int .i64 r.rs, .int .i64 r.rv, .int .i64 r.rb, .int .i64 r.nm, .slice Na Nn Nc, .int .i64 r.cs, .int .i64 r.cf, .int .i64 r.cc] 0
    have TE := Lib.hid tE
    have NE := Lib.hid nE
    have z0 := cellsAt r1 0
    have z1 := cellsAt r1 1
    have z2 := cellsAt r1 2
    have z3 := cellsAt r1 3
    have z4 := cellsAt r1 4
    have z5 := cellsAt r1 5
    have z6 := cellsAt r1 6
    have z7 := cellsAt r1 7
    have z8 := cellsAt r1 8
    have z9 := cellsAt r1 9
    have z10 := cellsAt r1 10
    have z11 := cellsAt r1 11
    have z12 := cellsAt r1 12
    simp only [List.getElem?_toArray, List.getElem?_cons_zero, List.getElem?_cons_succ] at z0 z1 z2 z3 z4 z5 z6 z7 z8 z9 z10 z11 z12
    have f0 := frozenAt r1 0
    have f1 := frozenAt r1 1
    have f2 := frozenAt r1 2
    have f3 := frozenAt r1 3
    have f4 := frozenAt r1 4
    have f5 := frozenAt r1 5
    have f6 := frozenAt r1 6
    have f7 := frozenAt r1 7
    have f8 := frozenAt r1 8
    have f9 := frozenAt r1 9
    have f10 := frozenAt r1 10
    have f11 := frozenAt r1 11
    have f12 := frozenAt r1 12
    clear A b0 hb1 r0 r1 oT oN oT1 oN1 tE nE
    unfold Rep.val
    refine Lib.hid ?_
    go_wp2
    exact bodyPost_ret (v := .tuple #[.agg #[.int .i64 r.kind, .slice Ta Tn Tc, .int .i64 r.hs, .int .i64 r.hf, .int .i64 r.hu, .int .i64 r.rs, .int .i64 r.rv, .int .i64 r.rb, .int .i64 r.nm, .slice Na Nn Nc, .int .i64 r.cs, .int .i64 r.cf, .int .i64 r.cc], .int .i64 0]) (by simp [results, Tryd.results17, go_sem, z0, z1, z2, z3, z4, z5, z6, z7, z8, z9, z10, z11, z12]) rfl ⟨_, rfl, ⟨_, _, rfl, TE.out, NE.out, hTN⟩, setAll_below (Nat.le_refl _) [.int .i64 r.kind, .slice Ta Tn Tc, .int .i64 r.hs, .int .i64 r.hf, .int .i64 r.hu, .int .i64 r.rs, .int .i64 r.rv, .int .i64 r.rb, .int .i64 r.nm, .slice Na Nn Nc, .int .i64 r.cs, .int .i64 r.cf, .int .i64 r.cc] 0 _ _ b1⟩
end Go.Proofs.YteibjmlimcpaoaaDoor
