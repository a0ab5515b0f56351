/-
  What report.reader's method report answers: the report that was read, its lists in new memory; what is left of the reader; nothing else that lay in memory turns.
-/
import Derived.Test.YteibjmlimcpaoaaDoorDLi
set_option linter.unusedVariables false
set_option linter.unusedSimpArgs false
namespace Go.Proofs.YteibjmlimcpaoaaDoor
open Go.RowKit Go.Sort

theorem dlist_le {α : Type} (f : St → α × St) (hf : ∀ s, (f s).2.1.length ≤ s.1.length) : ∀ (n : Nat) (s : St), (dlist f n s).2.1.length ≤ s.1.length
  | 0, s => Nat.le_refl _
  | n + 1, s => by
    simp only [dlist]
    exact Nat.le_trans (dlist_le f hf n _) (hf s)

theorem own_mono {w : World} {B B' e size n : Nat} {v : Value} {xs : List Value} (h : w.ownsRow B e size v n xs) (hb : B' ≤ B) : w.ownsRow B' e size v n xs := by
  obtain ⟨h1, h2 | ⟨g, cap, cur, e1, e2, e3⟩⟩ := h
  · exact ⟨h1, .inl h2⟩
  · exact ⟨h1, .inr ⟨g, cap, cur, e1, Nat.le_trans hb e2, e3⟩⟩
theorem own_setAll {k B e size n : Nat} {v : Value} {xs : List Value} : ∀ {w : World}, w.ownsRow B e size v n xs → v.ownBlock ≠ some k → ∀ (vs : List Value) (i : Nat), (setAll w k i vs).ownsRow B e size v n xs
  | w, h, hne, [], i => h
  | w, h, hne, x :: vs, i => own_setAll (ownsRow_setCell_other h (a := ⟨k, i, none⟩) hne x) hne vs (i + 1)
theorem own_ne37 {w : World} {k B e size n : Nat} {v : Value} {xs : List Value} {cs : Array Value} {fz : Nat × Nat} (h : w.heap[k]? = some (.cells cs 37 fz)) (ho : w.ownsRow B e size v n xs) (he : (37 : Nat) ≠ e) : v.ownBlock ≠ some k := by
  intro hk
  obtain ⟨c, fz', h2⟩ := Lib.ownsRow_kind ho k hk
  rw [h] at h2
  cases h2
  exact he rfl

def Rep.val (r : Rep) (T N : Value) : Value := .agg #[.int .i64 r.kind, T, .int .i64 r.hs, .int .i64 r.hf, .int .i64 r.hu, .int .i64 r.rs, .int .i64 r.rv, .int .i64 r.rb, .int .i64 r.nm, N, .int .i64 r.cs, .int .i64 r.cf, .int .i64 r.cc]

set_option maxRecDepth 100000 in
set_option maxHeartbeats 4000000 in
theorem rep49 (p : Nat) (s : St) (w : World) (hl : s.1.length ≤ 9223372036854775807) (h : RdAt p s w) :
    Calls Tryd.prog 59 #[.pointer (some ⟨p, 0, none⟩)] w fun e' w' => ∃ T N, e' = .returned ((drep s).1.val T N) ∧ w'.ownsRow w.heap.size 77 3 T (drep s).1.lt.length (tcells (drep s).1.lt) ∧ w'.ownsRow w.heap.size 79 7 N (drep s).1.ln.length (ncells (drep s).1.ln) ∧ (T.ownBlock = none ∨ T.ownBlock ≠ N.ownBlock) ∧ RdAt p (drep s).2 w' ∧ w.grownBy w' (some p) := by
  unfold drep Rep.val
  simp only [dlist_length]
  have hplt := rd_lt h
  have h0 := rd_alloc h (.cells #[.int .i64 0, .slice none 0 0, .int .i64 0, .int .i64 0, .int .i64 0, .int .i64 0, .int .i64 0, .int .i64 0, .int .i64 0, .slice none 0 0, .int .i64 0, .int .i64 0, .int .i64 0] 37)
  have r0 := allocAt w (.cells #[.int .i64 0, .slice none 0 0, .int .i64 0, .int .i64 0, .int .i64 0, .int .i64 0, .int .i64 0, .int .i64 0, .int .i64 0, .slice none 0 0, .int .i64 0, .int .i64 0, .int .i64 0] 37)
  have g0 := World.grownBy_alloc w (.cells #[.int .i64 0, .slice none 0 0, .int .i64 0, .int .i64 0, .int .i64 0, .int .i64 0, .int .i64 0, .int .i64 0, .int .i64 0, .slice none 0 0, .int .i64 0, .int .i64 0, .int .i64 0] 37) (some p)
  have WK := Lib.hid (fun w h => rone p s w (by omega) h)
  have lk := dnum_le 1 s
  generalize dnum 1 s = k at *
  have WN := Lib.hid (fun w h => rone p k.2 w (by omega) h)
  have ln := dnum_le 1 k.2
  have bn := dnum1_lt k.2
  generalize dnum 1 k.2 = n at *
  have WT := Lib.hid (fun w h => rlistT p n.1 n.2 w (by omega) (by omega) h _ _ rfl rfl)
  have lt := dlist_le dtab dtab_le n.1 n.2
  generalize dlist dtab n.1 n.2 = t at *
  have WA := Lib.hid (fun w h => rone p t.2 w (by omega) h)
  have la := dnum_le 1 t.2
  generalize dnum 1 t.2 = a at *
  have WB := Lib.hid (fun w h => rtwo p a.2 w (by omega) h)
  have lb := dnum_le 2 a.2
  generalize dnum 2 a.2 = b at *
  have WC := Lib.hid (fun w h => rtwo p b.2 w (by omega) h)
  have lc := dnum_le 2 b.2
  generalize dnum 2 b.2 = c at *
  have WD := Lib.hid (fun w h => rone p c.2 w (by omega) h)
  have ld := dnum_le 1 c.2
  generalize dnum 1 c.2 = d at *
  have WE := Lib.hid (fun w h => rtwo p d.2 w (by omega) h)
  have le := dnum_le 2 d.2
  generalize dnum 2 d.2 = e at *
  have WF := Lib.hid (fun w h => rtwo p e.2 w (by omega) h)
  have lf := dnum_le 2 e.2
  generalize dnum 2 e.2 = f at *
  have WG := Lib.hid (fun w h => rone p f.2 w (by omega) h)
  have lg := dnum_le 1 f.2
  generalize dnum 1 f.2 = g at *
  have WM := Lib.hid (fun w h => rone p g.2 w (by omega) h)
  have lm := dnum_le 1 g.2
  have bm := dnum1_lt g.2
  generalize dnum 1 g.2 = m at *
  have WX := Lib.hid (fun w h => rlistN p m.1 m.2 w (by omega) (by omega) h _ _ rfl rfl)
  have lx := dlist_le dnm dnm_le m.1 m.2
  generalize dlist dnm m.1 m.2 = x at *
  have WU := Lib.hid (fun w h => rone p x.2 w (by omega) h)
  have lu := dnum_le 1 x.2
  generalize dnum 1 x.2 = u at *
  have WV := Lib.hid (fun w h => rtwo p u.2 w (by omega) h)
  have lv := dnum_le 2 u.2
  generalize dnum 2 u.2 = v at *
  have WY := Lib.hid (fun w h => rfour p v.2 w (by omega) h)
  have ly := dnum_le 4 v.2
  generalize dnum 4 v.2 = y at *
  go_enter Tryd.func59, Tryd.ntmps59
  go_wp2_with (go_at_call 87; refine (WK.out _ h0).mono ?_; rintro e' w1 ⟨rfl, h1, g1⟩; refine Hid.out ?_)
  refine Lib.hid ?_
  go_wp2_with (go_at_call 87; refine (WN.out _ h1).mono ?_; rintro e' w2 ⟨rfl, h2, g2⟩; refine Hid.out ?_)
  refine Lib.hid ?_
  go_wp2_with (go_at_call 88; refine (WT.out _ h2).mono ?_; rintro e' w3 ⟨T, rfl, oT, h3, g3⟩; refine Hid.out ?_)
  have s3 : w.heap.size ≤ w2.heap.size := Nat.le_trans g0.size (Nat.le_trans g1.size g2.size)
  have oT3 : w3.ownsRow w.heap.size 77 3 T n.1 (tcells t.1) := own_mono oT s3
  clear oT
  obtain ⟨Ta, Tn, Tc, hTe⟩ : ∃ ao n' cap, T = .slice ao n' cap := by
    rcases oT3.2 with ⟨hv, _⟩ | ⟨_, _, _, hv, _⟩
    · exact ⟨_, _, _, hv⟩
    · exact ⟨_, _, _, hv⟩
  subst hTe
  refine Lib.hid ?_
  go_wp2_with (go_at_call 87; refine (WA.out _ h3).mono ?_; rintro e' w4 ⟨rfl, h4, g4⟩; refine Hid.out ?_)
  have oT4 := oT3.kept g4 (own_ne_old oT3 hplt)
  clear oT3
  refine Lib.hid ?_
  go_wp2_with (go_at_call 90; refine (WB.out _ h4).mono ?_; rintro e' w5 ⟨rfl, h5, g5⟩; refine Hid.out ?_)
  have oT5 := oT4.kept g5 (own_ne_old oT4 hplt)
  clear oT4
  refine Lib.hid ?_
  go_wp2_with (go_at_call 90; refine (WC.out _ h5).mono ?_; rintro e' w6 ⟨rfl, h6, g6⟩; refine Hid.out ?_)
  have oT6 := oT5.kept g6 (own_ne_old oT5 hplt)
  clear oT5
  refine Lib.hid ?_
  go_wp2_with (go_at_call 87; refine (WD.out _ h6).mono ?_; rintro e' w7 ⟨rfl, h7, g7⟩; refine Hid.out ?_)
  have oT7 := oT6.kept g7 (own_ne_old oT6 hplt)
  clear oT6
  refine Lib.hid ?_
  go_wp2_with (go_at_call 90; refine (WE.out _ h7).mono ?_; rintro e' w8 ⟨rfl, h8, g8⟩; refine Hid.out ?_)
  have oT8 := oT7.kept g8 (own_ne_old oT7 hplt)
  clear oT7
  refine Lib.hid ?_
  go_wp2_with (go_at_call 90; refine (WF.out _ h8).mono ?_; rintro e' w9 ⟨rfl, h9, g9⟩; refine Hid.out ?_)
  have oT9 := oT8.kept g9 (own_ne_old oT8 hplt)
  clear oT8
  refine Lib.hid ?_
  go_wp2_with (go_at_call 87; refine (WG.out _ h9).mono ?_; rintro e' w10 ⟨rfl, h10, g10⟩; refine Hid.out ?_)
  have oT10 := oT9.kept g10 (own_ne_old oT9 hplt)
  clear oT9
  refine Lib.hid ?_
  go_wp2_with (go_at_call 87; refine (WM.out _ h10).mono ?_; rintro e' w11 ⟨rfl, h11, g11⟩; refine Hid.out ?_)
  have oT11 := oT10.kept g11 (own_ne_old oT10 hplt)
  clear oT10
  refine Lib.hid ?_
  go_wp2_with (go_at_call 91; refine (WX.out _ h11).mono ?_; rintro e' w12 ⟨N, rfl, oN, h12, g12⟩; refine Hid.out ?_)
  have s12 : w.heap.size ≤ w11.heap.size := Nat.le_trans g0.size (Nat.le_trans g1.size (Nat.le_trans g2.size (Nat.le_trans g3.size (Nat.le_trans g4.size (Nat.le_trans g5.size (Nat.le_trans g6.size (Nat.le_trans g7.size (Nat.le_trans g8.size (Nat.le_trans g9.size (Nat.le_trans g10.size g11.size))))))))))
  have oN12 : w12.ownsRow w.heap.size 79 7 N m.1 (ncells x.1) := own_mono oN s12
  have hTN : (Value.slice Ta Tn Tc).ownBlock = none ∨ (Value.slice Ta Tn Tc).ownBlock ≠ N.ownBlock := by
    cases hb : (Value.slice Ta Tn Tc).ownBlock with
    | none => exact .inl rfl
    | some q =>
      right
      intro e
      have q1 := (oT11.lt q hb).2
      have q2 := (oN.lt q e.symm).1
      omega
  have oT12 := oT11.kept g12 (own_ne_old oT11 hplt)
  clear oT11 oN
  obtain ⟨Na, Nn, Nc, hNe⟩ : ∃ ao n' cap, N = .slice ao n' cap := by
    rcases oN12.2 with ⟨hv, _⟩ | ⟨_, _, _, hv, _⟩
    · exact ⟨_, _, _, hv⟩
    · exact ⟨_, _, _, hv⟩
  subst hNe
  refine Lib.hid ?_
  go_wp2_with (go_at_call 87; refine (WU.out _ h12).mono ?_; rintro e' w13 ⟨rfl, h13, g13⟩; refine Hid.out ?_)
  have oT13 := oT12.kept g13 (own_ne_old oT12 hplt)
  clear oT12
  have oN13 := oN12.kept g13 (own_ne_old oN12 hplt)
  clear oN12
  refine Lib.hid ?_
  go_wp2_with (go_at_call 90; refine (WV.out _ h13).mono ?_; rintro e' w14 ⟨rfl, h14, g14⟩; refine Hid.out ?_)
  have oT14 := oT13.kept g14 (own_ne_old oT13 hplt)
  clear oT13
  have oN14 := oN13.kept g14 (own_ne_old oN13 hplt)
  clear oN13
  refine Lib.hid ?_
  go_wp2_with (go_at_call 93; refine (WY.out _ h14).mono ?_; rintro e' w15 ⟨rfl, h15, g15⟩; refine Hid.out ?_)
  have oT15 := oT14.kept g15 (own_ne_old oT14 hplt)
  clear oT14
  have oN15 := oN14.kept g15 (own_ne_old oN14 hplt)
  clear oN14
  have gg := (grown_trans g1 (grown_trans g2 (grown_trans g3 (grown_trans g4 (grown_trans g5 (grown_trans g6 (grown_trans g7 (grown_trans g8 (grown_trans g9 (grown_trans g10 (grown_trans g11 (grown_trans g12 (grown_trans g13 (grown_trans g14 g15))))))))))))))
  have rr := grownAt r0 gg (by omega)
  have gw := grown_trans g0 gg
  clear r0 gg g0 g1 g2 g3 g4 g5 g6 g7 g8 g9 g10 g11 g12 g13 g14 g15 h0 h1 h2 h3 h4 h5 h6 h7 h8 h9 h10 h11 h12 h13 h14 WK WN WT WA WB WC WD WE WF WG WM WX WU WV WY
  have z0 := cellsAt rr 0
  have f0 := frozenAt rr 0
  have z1 := cellsAt rr 1
  have f1 := frozenAt rr 1
  have z2 := cellsAt rr 2
  have f2 := frozenAt rr 2
  have z3 := cellsAt rr 3
  have f3 := frozenAt rr 3
  have z4 := cellsAt rr 4
  have f4 := frozenAt rr 4
  have z5 := cellsAt rr 5
  have f5 := frozenAt rr 5
  have z6 := cellsAt rr 6
  have f6 := frozenAt rr 6
  have z7 := cellsAt rr 7
  have f7 := frozenAt rr 7
  have z8 := cellsAt rr 8
  have f8 := frozenAt rr 8
  have z9 := cellsAt rr 9
  have f9 := frozenAt rr 9
  have z10 := cellsAt rr 10
  have f10 := frozenAt rr 10
  have z11 := cellsAt rr 11
  have f11 := frozenAt rr 11
  have z12 := cellsAt rr 12
  have f12 := frozenAt rr 12
  simp only [List.getElem?_toArray, List.getElem?_cons_zero, List.getElem?_cons_succ] at z0 z1 z2 z3 z4 z5 z6 z7 z8 z9 z10 z11 z12
  have bE : w.grownBy (setAll w15 w.heap.size 0 [.int .i64 (k.1 : Nat), .slice Ta Tn Tc, .int .i64 (a.1 : Nat), .int .i64 (b.1 : Nat), .int .i64 (c.1 : Nat), .int .i64 (d.1 : Nat), .int .i64 (e.1 : Nat), .int .i64 (f.1 : Nat), .int .i64 (g.1 : Nat), .slice Na Nn Nc, .int .i64 (u.1 : Nat), .int .i64 (v.1 : Nat), .int .i64 (y.1 : Nat)]) (some p) := grown_setAll (Nat.le_refl _) _ _ _ gw
  have rE : RdAt p y.2 (setAll w15 w.heap.size 0 [.int .i64 (k.1 : Nat), .slice Ta Tn Tc, .int .i64 (a.1 : Nat), .int .i64 (b.1 : Nat), .int .i64 (c.1 : Nat), .int .i64 (d.1 : Nat), .int .i64 (e.1 : Nat), .int .i64 (f.1 : Nat), .int .i64 (g.1 : Nat), .slice Na Nn Nc, .int .i64 (u.1 : Nat), .int .i64 (v.1 : Nat), .int .i64 (y.1 : Nat)]) := rd_setAll h15 (by omega) _ _
  have tE : (setAll w15 w.heap.size 0 [.int .i64 (k.1 : Nat), .slice Ta Tn Tc, .int .i64 (a.1 : Nat), .int .i64 (b.1 : Nat), .int .i64 (c.1 : Nat), .int .i64 (d.1 : Nat), .int .i64 (e.1 : Nat), .int .i64 (f.1 : Nat), .int .i64 (g.1 : Nat), .slice Na Nn Nc, .int .i64 (u.1 : Nat), .int .i64 (v.1 : Nat), .int .i64 (y.1 : Nat)]).ownsRow w.heap.size 77 3 (.slice Ta Tn Tc) n.1 (tcells t.1) := own_setAll oT15 (own_ne37 rr oT15 (by decide)) _ _
  have nE : (setAll w15 w.heap.size 0 [.int .i64 (k.1 : Nat), .slice Ta Tn Tc, .int .i64 (a.1 : Nat), .int .i64 (b.1 : Nat), .int .i64 (c.1 : Nat), .int .i64 (d.1 : Nat), .int .i64 (e.1 : Nat), .int .i64 (f.1 : Nat), .int .i64 (g.1 : Nat), .slice Na Nn Nc, .int .i64 (u.1 : Nat), .int .i64 (v.1 : Nat), .int .i64 (y.1 : Nat)]).ownsRow w.heap.size 79 7 (.slice Na Nn Nc) m.1 (ncells x.1) := own_setAll oN15 (own_ne37 rr oN15 (by decide)) _ _
  clear oT15 oN15 h15 gw rr
  refine Lib.hid ?_
  go_wp2
  exact bodyPost_ret (v := .agg #[.int .i64 (k.1 : Nat), .slice Ta Tn Tc, .int .i64 (a.1 : Nat), .int .i64 (b.1 : Nat), .int .i64 (c.1 : Nat), .int .i64 (d.1 : Nat), .int .i64 (e.1 : Nat), .int .i64 (f.1 : Nat), .int .i64 (g.1 : Nat), .slice Na Nn Nc, .int .i64 (u.1 : Nat), .int .i64 (v.1 : Nat), .int .i64 (y.1 : Nat)]) (by simp [results, Tryd.results59, go_sem, z0, z1, z2, z3, z4, z5, z6, z7, z8, z9, z10, z11, z12]) rfl ⟨_, _, rfl, tE, nE, hTN, rE, bE⟩
end Go.Proofs.YteibjmlimcpaoaaDoor
