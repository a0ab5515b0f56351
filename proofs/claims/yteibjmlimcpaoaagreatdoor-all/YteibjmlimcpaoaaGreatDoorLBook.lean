/-
  What the law's own Book.report leaves: the report's lists full of their owner's mark, and four entries more in the book; what stood in the book stands there still.
-/
import Derived.Test.YteibjmlimcpaoaaGreatDoorLBkA
import Derived.Deep.RegionLaw
set_option linter.unusedVariables false
set_option linter.unusedSimpArgs false
namespace Go.Proofs.YteibjmlimcpaoaaGreatDoor
open Go.RowKit Go.Sort

theorem newCellsAt (w : World) (cs : List Value) (T : TypeId) (b : Nat) (hb : w.heap.size = b) : ∀ j u, cs[j]? = some u → (w.alloc (.cells cs.toArray T)).cell? ((⟨b, 0, none⟩ : Addr).add j) = some u := by
  subst hb
  exact newCells w cs T
theorem place {l : Value} {tO : Option Nat} {a mb : Nat} (h : ∀ j, l.ownBlock = some j → (some j = tO ∧ j < a) ∨ mb < j) (hm : a ≤ mb) : l.ownBlock = none ∨ l.ownBlock = tO ∨ ∃ k, l.ownBlock = some k ∧ a ≤ k := by
  cases hl : l.ownBlock with
  | none => exact .inl rfl
  | some j =>
    rcases h j hl with ⟨h1, _⟩ | h1
    · exact .inr (.inl h1)
    · exact .inr (.inr ⟨j, rfl, by omega⟩)
theorem set_size (w : World) (a : Addr) (v : Value) : (w.setCell a v).heap.size = w.heap.size := by simp [World.setCell]
set_option maxRecDepth 100000 in
set_option maxHeartbeats 4000000 in
theorem brep19 (B bb n : Nat) (es : List Ent) (r : Rep) (T N : Value) (w : World) (hBw : B ≤ w.heap.size) (hn : n ≤ 5864062014632) (he : es.length ≤ 5864062014632) (h1 : r.lt.length ≤ 256) (h2 : r.ln.length ≤ 256) (hb : BookIs B bb es n w)
    (oT : w.ownsRow B 74 3 T r.lt.length (tcells r.lt)) (oN : w.ownsRow B 72 7 N r.ln.length (ncells r.ln))
    (dT : ∀ e ∈ es, T.ownBlock = none ∨ e.T.ownBlock ≠ T.ownBlock) (dN : ∀ e ∈ es, N.ownBlock = none ∨ e.N.ownBlock ≠ N.ownBlock) :
    Calls Tryz.prog 18 #[.pointer (some ⟨bb, 0, none⟩), r.val T N] w fun e w' => e = .returned (.tuple #[]) ∧ Below B w w' ∧ Fr bb T.ownBlock N.ownBlock w w' ∧ ∃ new : List Ent, new.length = 4 ∧ BookIs B bb (es ++ new) (n + 1) w' ∧
      ∀ e ∈ new, e.q = n + 1 ∧ (e.T.ownBlock = none ∨ e.T.ownBlock = T.ownBlock ∨ ∃ k, e.T.ownBlock = some k ∧ w.heap.size ≤ k) ∧ (e.N.ownBlock = none ∨ e.N.ownBlock = N.ownBlock ∨ ∃ k, e.N.ownBlock = some k ∧ w.heap.size ≤ k) := by
  obtain ⟨hB, VT, VN, VO, hq, o28, o33, o3, hes⟩ := hb
  obtain ⟨Ta, Tn, Tc, hTe⟩ : ∃ ao n' cap, T = .slice ao n' cap := by
    rcases oT.2 with ⟨hv, _⟩ | ⟨_, _, _, hv, _⟩
    · exact ⟨_, _, _, hv⟩
    · exact ⟨_, _, _, hv⟩
  obtain ⟨Na, Nn, Nc, hNe⟩ : ∃ ao n' cap, N = .slice ao n' cap := by
    rcases oN.2 with ⟨hv, _⟩ | ⟨_, _, _, hv, _⟩
    · exact ⟨_, _, _, hv⟩
    · exact ⟨_, _, _, hv⟩
  subst hTe hNe
  have hTn : Tn = r.lt.length := by
    rcases oT.2 with ⟨hv, h0⟩ | ⟨_, _, _, hv, _⟩
    · injection hv with a b c
      rw [b, h0]
    · injection hv
  have hNn : Nn = r.ln.length := by
    rcases oN.2 with ⟨hv, h0⟩ | ⟨_, _, _, hv, _⟩
    · injection hv with a b c
      rw [b, h0]
    · injection hv
  subst hTn hNn
  unfold Rep.val
  have x6 := cellsAt hq 6
  have f6 := frozenAt hq 6
  simp only [List.getElem?_toArray, List.getElem?_cons_zero, List.getElem?_cons_succ] at x6
  have w1 := wrapL ((n : Int) + 1) (by omega) (by omega)
  have hblt : bb < w.heap.size := (Array.getElem?_eq_some_iff.1 hq).1
  have hbne : bb ≠ w.heap.size := by omega
  -- the world ahead of the loops
  have g0 : w.grownBy ((w.setCell ⟨bb, 6, none⟩ (.int .i64 ((n : Int) + 1))).alloc (.cells #[.int .i64 r.kind, .slice Ta r.lt.length Tc, .int .i64 r.hs, .int .i64 r.hf, .int .i64 r.hu, .int .i64 r.rs, .int .i64 r.rv, .int .i64 r.rb, .int .i64 r.nm, .slice Na r.ln.length Nc, .int .i64 r.cs, .int .i64 r.cf, .int .i64 r.cc] 39)) (some bb) := grown_trans (grown_set (World.grownBy.refl _ _) _ _) (World.grownBy_alloc _ _ _)
  have q1 : ((w.setCell ⟨bb, 6, none⟩ (.int .i64 ((n : Int) + 1))).alloc (.cells #[.int .i64 r.kind, .slice Ta r.lt.length Tc, .int .i64 r.hs, .int .i64 r.hf, .int .i64 r.hu, .int .i64 r.rs, .int .i64 r.rv, .int .i64 r.rb, .int .i64 r.nm, .slice Na r.ln.length Nc, .int .i64 r.cs, .int .i64 r.cf, .int .i64 r.cc] 39)).heap[bb]? = some (.cells #[.slice none 0 0, VT, VN, .slice none 0 0, .slice none 0 0, VO, .int .i64 ((n : Int) + 1)] 56 (0, 0)) := allocOldN (setCell_row hq _)
  have r1 : ((w.setCell ⟨bb, 6, none⟩ (.int .i64 ((n : Int) + 1))).alloc (.cells #[.int .i64 r.kind, .slice Ta r.lt.length Tc, .int .i64 r.hs, .int .i64 r.hf, .int .i64 r.hu, .int .i64 r.rs, .int .i64 r.rv, .int .i64 r.rb, .int .i64 r.nm, .slice Na r.ln.length Nc, .int .i64 r.cs, .int .i64 r.cf, .int .i64 r.cc] 39)).heap[w.heap.size]? = some (.cells #[.int .i64 r.kind, .slice Ta r.lt.length Tc, .int .i64 r.hs, .int .i64 r.hf, .int .i64 r.hu, .int .i64 r.rs, .int .i64 r.rv, .int .i64 r.rb, .int .i64 r.nm, .slice Na r.ln.length Nc, .int .i64 r.cs, .int .i64 r.cf, .int .i64 r.cc] 39 (0, 0)) := allocAtN _ _ _ (by simp [World.setCell])
  have s1 : ((w.setCell ⟨bb, 6, none⟩ (.int .i64 ((n : Int) + 1))).alloc (.cells #[.int .i64 r.kind, .slice Ta r.lt.length Tc, .int .i64 r.hs, .int .i64 r.hf, .int .i64 r.hu, .int .i64 r.rs, .int .i64 r.rv, .int .i64 r.rb, .int .i64 r.nm, .slice Na r.ln.length Nc, .int .i64 r.cs, .int .i64 r.cf, .int .i64 r.cc] 39)).heap.size = w.heap.size + 1 := by simp [World.setCell]
  have o28' := o28.kept g0 (.inr (own_kind_ne' o28 hq (by decide)))
  have o33' := o33.kept g0 (.inr (own_kind_ne' o33 hq (by decide)))
  have o3' := o3.kept g0 (.inr (own_kind_ne' o3 hq (by decide)))
  have oT' := oT.kept g0 (.inr (own_kind_ne' oT hq (by decide)))
  have oN' := oN.kept g0 (.inr (own_kind_ne' oN hq (by decide)))
  have hes' : ∀ e ∈ es, EntOk B ((w.setCell ⟨bb, 6, none⟩ (.int .i64 ((n : Int) + 1))).alloc (.cells #[.int .i64 r.kind, .slice Ta r.lt.length Tc, .int .i64 r.hs, .int .i64 r.hf, .int .i64 r.hu, .int .i64 r.rs, .int .i64 r.rv, .int .i64 r.rb, .int .i64 r.nm, .slice Na r.ln.length Nc, .int .i64 r.cs, .int .i64 r.cf, .int .i64 r.cc] 39)) e := fun e he => ⟨(hes e he).1.kept g0 (.inr (own_kind_ne' (hes e he).1 hq (by decide))), (hes e he).2.kept g0 (.inr (own_kind_ne' (hes e he).2 hq (by decide)))⟩
  have fr0 : Fr bb (Value.slice Ta r.lt.length Tc).ownBlock (Value.slice Na r.ln.length Nc).ownBlock w ((w.setCell ⟨bb, 6, none⟩ (.int .i64 ((n : Int) + 1))).alloc (.cells #[.int .i64 r.kind, .slice Ta r.lt.length Tc, .int .i64 r.hs, .int .i64 r.hf, .int .i64 r.hu, .int .i64 r.rs, .int .i64 r.rv, .int .i64 r.rb, .int .i64 r.nm, .slice Na r.ln.length Nc, .int .i64 r.cs, .int .i64 r.cf, .int .i64 r.cc] 39)) := Fr.row (fun k cs t fz a _ _ _ _ _ _ => a) g0 (.inr (.inr (.inr rfl)))
  have bw0 : Below B w ((w.setCell ⟨bb, 6, none⟩ (.int .i64 ((n : Int) + 1))).alloc (.cells #[.int .i64 r.kind, .slice Ta r.lt.length Tc, .int .i64 r.hs, .int .i64 r.hf, .int .i64 r.hu, .int .i64 r.rs, .int .i64 r.rv, .int .i64 r.rb, .int .i64 r.nm, .slice Na r.ln.length Nc, .int .i64 r.cs, .int .i64 r.cf, .int .i64 r.cc] 39)) := (Below.refl _ _).grown g0 hBw (fun j hj => by cases hj; exact hB)
  have bk0 : BK w B bb w.heap.size (w.heap.size + 1) (w.heap.size + 1 + 1) ((n + 1 : Nat) : Int) #[.int .i64 r.kind, .slice Ta r.lt.length Tc, .int .i64 r.hs, .int .i64 r.hf, .int .i64 r.hu, .int .i64 r.rs, .int .i64 r.rv, .int .i64 r.rb, .int .i64 r.nm, .slice Na r.ln.length Nc, .int .i64 r.cs, .int .i64 r.cf, .int .i64 r.cc] es VT VN VO (es.map (·.T)) (es.map (·.N)) (es.map fun e => .int .i64 (e.q : Int))
      ((((w.setCell ⟨bb, 6, none⟩ (.int .i64 ((n : Int) + 1))).alloc (.cells #[.int .i64 r.kind, .slice Ta r.lt.length Tc, .int .i64 r.hs, .int .i64 r.hf, .int .i64 r.hu, .int .i64 r.rs, .int .i64 r.rv, .int .i64 r.rb, .int .i64 r.nm, .slice Na r.ln.length Nc, .int .i64 r.cs, .int .i64 r.cf, .int .i64 r.cc] 39)).alloc (.cells #[.string ⟨#[]⟩, .int .i64 0, .int .i64 (-((n : Int) + 1))] 74)).alloc (.cells #[.int .i64 0, .int .i64 0, .int .i64 0, .int .i64 (-((n : Int) + 1)), .int .i64 0, .int .i64 0, .string ⟨#[]⟩] 72)) :=
    ⟨hB, hBw, (bw0.alloc (by omega) _).alloc (by simp; omega) _, hblt, by omega, by omega, Nat.le_refl _, allocOldN (allocOldN q1), allocOldN (allocOldN r1), allocOldN (allocAtN _ _ _ (by rw [s1])), allocAtN _ _ _ (by simp [World.setCell]),
      by rw [List.length_map]; exact (o28'.alloc _).alloc _, by rw [List.length_map]; exact (o33'.alloc _).alloc _, by rw [List.length_map]; exact (o3'.alloc _).alloc _, fun e he => ⟨((hes' e he).1.alloc _).alloc _, ((hes' e he).2.alloc _).alloc _⟩⟩
  have fr1 := (fr0.below ((Below.refl _ _).alloc (Nat.le_refl _) (.cells #[.string ⟨#[]⟩, .int .i64 0, .int .i64 (-((n : Int) + 1))] 74))).below ((Below.refl _ _).alloc (Nat.le_refl _) (.cells #[.int .i64 0, .int .i64 0, .int .i64 0, .int .i64 (-((n : Int) + 1)), .int .i64 0, .int .i64 0, .string ⟨#[]⟩] 72))
  have oT1 := (oT'.alloc (.cells #[.string ⟨#[]⟩, .int .i64 0, .int .i64 (-((n : Int) + 1))] 74)).alloc (.cells #[.int .i64 0, .int .i64 0, .int .i64 0, .int .i64 (-((n : Int) + 1)), .int .i64 0, .int .i64 0, .string ⟨#[]⟩] 72)
  have oN1 := (oN'.alloc (.cells #[.string ⟨#[]⟩, .int .i64 0, .int .i64 (-((n : Int) + 1))] 74)).alloc (.cells #[.int .i64 0, .int .i64 0, .int .i64 0, .int .i64 (-((n : Int) + 1)), .int .i64 0, .int .i64 0, .string ⟨#[]⟩] 72)
  have tlt : ∀ k, (Value.slice Ta r.lt.length Tc).ownBlock = some k → B ≤ k ∧ k < w.heap.size := fun k hk => oT.lt k hk
  have nlt : ∀ k, (Value.slice Na r.ln.length Nc).ownBlock = some k → B ≤ k ∧ k < w.heap.size := fun k hk => oN.lt k hk
  have ee : (((n + 1 : Nat) : Int)) = (n : Int) + 1 := by omega
  have y6 := cellsAt q1 6
  have s6 := frozenAt q1 6
  have z1 := cellsAt bk0.hr 1
  simp only [List.getElem?_toArray, List.getElem?_cons_zero, List.getElem?_cons_succ] at y6 z1
  clear q1 r1 g0 o28 o33 o3 oT oN hes hq o28' o33' o3' oT' oN' hes' fr0
  go_enter Tryz.func18, Tryz.ntmps18
  go_wp2
  clear y6 s6 z1
  go_loopw [6] (fun is wr => ∃ (k : Nat), is = .int .i64 (k : Int) ∧ k ≤ r.lt.length ∧ BK w B bb w.heap.size (w.heap.size + 1) (w.heap.size + 1 + 1) ((n + 1 : Nat) : Int) #[.int .i64 r.kind, .slice Ta r.lt.length Tc, .int .i64 r.hs, .int .i64 r.hf, .int .i64 r.hu, .int .i64 r.rs, .int .i64 r.rv, .int .i64 r.rb, .int .i64 r.nm, .slice Na r.ln.length Nc, .int .i64 r.cs, .int .i64 r.cf, .int .i64 r.cc] es VT VN VO (es.map (·.T)) (es.map (·.N)) (es.map fun e => .int .i64 (e.q : Int)) wr ∧ Fr bb (Value.slice Ta r.lt.length Tc).ownBlock (Value.slice Na r.ln.length Nc).ownBlock w wr ∧ wr.ownsRow B 74 3 (.slice Ta r.lt.length Tc) r.lt.length (tcells (List.replicate k (mrkT (n + 1)) ++ r.lt.drop k)) ∧ wr.ownsRow B 72 7 (.slice Na r.ln.length Nc) r.ln.length (ncells r.ln)) (fun is _ => r.lt.length - (intOf is).toNat)
  case atStart => exact ⟨0, rfl, Nat.zero_le _, bk0, fr1, by simpa using oT1, oN1⟩
  case round =>
    obtain ⟨k, rfl, hk, bk, fr, oT, oN⟩ := hrel
    clear bk0 fr1 oT1 oN1
    have z1 := cellsAt bk.hr 1
    simp only [List.getElem?_toArray, List.getElem?_cons_zero, List.getElem?_cons_succ] at z1
    by_cases hlt : k < r.lt.length
    · obtain ⟨g, cap, cs, hv, hBg, hc⟩ := own_form oT (by omega)
      cases hv
      obtain ⟨x, hx⟩ : ∃ x, r.lt[k]? = some x := ⟨_, List.getElem?_eq_getElem hlt⟩
      rw [rep_split_T k 0 (n + 1) r.lt x hx] at oT
      have hA : (tcells (List.replicate k (mrkT (n + 1)))).length = k * 3 := by rw [tcells_length, List.length_replicate]
      have c0 := oT.cellAt (k * 3) (by omega)
      have c1 := oT.cellAt (k * 3 + 1) (by omega)
      have c2 := oT.cellAt (k * 3 + 2) (by omega)
      rw [List.append_assoc, List.getElem?_append_right (by omega), hA] at c0 c1 c2
      rw [show k * 3 - k * 3 = 0 by omega] at c0
      rw [show k * 3 + 1 - k * 3 = 1 by omega] at c1
      rw [show k * 3 + 2 - k * 3 = 2 by omega] at c2
      simp only [List.cons_append, List.nil_append, List.getElem?_cons_zero, List.getElem?_cons_succ] at c0 c1 c2
      have f0 := oT.frozenAt (k * 3)
      have f1 := oT.frozenAt (k * 3 + 1)
      have f2 := oT.frozenAt (k * 3 + 2)
      have oT2 := own_mark oT (vs := [.string ⟨#[]⟩, .int .i64 0, .int .i64 (-((n + 1 : Nat) : Int))]) rfl
      rw [hA, ← rep_next_T] at oT2
      have hgw : g < w.heap.size := (tlt g rfl).2
      have gs := grown_setAll' g [.string ⟨#[]⟩, .int .i64 0, .int .i64 (-((n + 1 : Nat) : Int))] (k * 3) wr wr (World.grownBy.refl _ _)
      have bk2 := bk.step gs hc (.inl rfl) (by omega) (by omega) hBg (fun e he => ent_kept (bk.hes e he) gs hc (fun _ => (dT e he).resolve_left (by intro h; cases h)) (fun h => by cases h) (.inl rfl))
      have fr2 := fr.row gs (.inl rfl)
      have oN2 := oN.kept gs (.inr (own_kind_ne' oN hc (by decide)))
      have u0 := cellsAt bk.ht 0
      have u1 := cellsAt bk.ht 1
      have u2 := cellsAt bk.ht 2
      simp only [List.getElem?_toArray, List.getElem?_cons_zero, List.getElem?_cons_succ] at u0 u1 u2
      have HH := Lib.hid (And.intro bk2 (And.intro fr2 (And.intro oT2 oN2)))
      have ik0 : (0 : Int) ≤ (k : Int) := by omega
      have ik1 : (k : Int) < (r.lt.length : Int) := by omega
      clear bk fr oT oN bk2 fr2 oT2 oN2 gs hc hx hA
      go_wp2
      exact ⟨⟨k + 1, by go_num, by omega, HH.out.1, HH.out.2.1, HH.out.2.2.1, HH.out.2.2.2⟩, by simp [intOf]; omega⟩
    · have hke : k = r.lt.length := by omega
      subst hke
      rw [List.drop_length, List.append_nil] at oT
      have hge : ¬ ((r.lt.length : Int) < (r.lt.length : Int)) := by omega
      have z9 := cellsAt bk.hr 9
      simp only [List.getElem?_toArray, List.getElem?_cons_zero, List.getElem?_cons_succ] at z9
      go_wp2
      clear z1 z9
      go_loopw [7] (fun is wr => ∃ (k : Nat), is = .int .i64 (k : Int) ∧ k ≤ r.ln.length ∧ BK w B bb w.heap.size (w.heap.size + 1) (w.heap.size + 1 + 1) ((n + 1 : Nat) : Int) #[.int .i64 r.kind, .slice Ta r.lt.length Tc, .int .i64 r.hs, .int .i64 r.hf, .int .i64 r.hu, .int .i64 r.rs, .int .i64 r.rv, .int .i64 r.rb, .int .i64 r.nm, .slice Na r.ln.length Nc, .int .i64 r.cs, .int .i64 r.cf, .int .i64 r.cc] es VT VN VO (es.map (·.T)) (es.map (·.N)) (es.map fun e => .int .i64 (e.q : Int)) wr ∧ Fr bb (Value.slice Ta r.lt.length Tc).ownBlock (Value.slice Na r.ln.length Nc).ownBlock w wr ∧ OwnT B (n + 1) wr (.slice Ta r.lt.length Tc) r.lt.length ∧ wr.ownsRow B 72 7 (.slice Na r.ln.length Nc) r.ln.length (ncells (List.replicate k (mrkN (n + 1)) ++ r.ln.drop k))) (fun is _ => r.ln.length - (intOf is).toNat)
      case atStart => exact ⟨0, rfl, Nat.zero_le _, bk, fr, oT, by simpa using oN⟩
      case round =>
        clear bk fr oT oN
        obtain ⟨k, rfl, hk, bk, fr, oT, oN⟩ := hrel
        have z9 := cellsAt bk.hr 9
        simp only [List.getElem?_toArray, List.getElem?_cons_zero, List.getElem?_cons_succ] at z9
        by_cases hlt : k < r.ln.length
        · obtain ⟨g, cap, cs, hv, hBg, hc⟩ := own_form oN (by omega)
          cases hv
          obtain ⟨x, hx⟩ : ∃ x, r.ln[k]? = some x := ⟨_, List.getElem?_eq_getElem hlt⟩
          rw [rep_split_N k 0 (n + 1) r.ln x hx] at oN
          have hA : (ncells (List.replicate k (mrkN (n + 1)))).length = k * 7 := by rw [ncells_length, List.length_replicate]
          have c0 := oN.cellAt (k * 7) (by omega)
          have c1 := oN.cellAt (k * 7 + 1) (by omega)
          have c2 := oN.cellAt (k * 7 + 2) (by omega)
          have c3 := oN.cellAt (k * 7 + 3) (by omega)
          have c4 := oN.cellAt (k * 7 + 4) (by omega)
          have c5 := oN.cellAt (k * 7 + 5) (by omega)
          have c6 := oN.cellAt (k * 7 + 6) (by omega)
          rw [List.append_assoc, List.getElem?_append_right (by omega), hA] at c0 c1 c2 c3 c4 c5 c6
          rw [show k * 7 - k * 7 = 0 by omega] at c0
          rw [show k * 7 + 1 - k * 7 = 1 by omega] at c1
          rw [show k * 7 + 2 - k * 7 = 2 by omega] at c2
          rw [show k * 7 + 3 - k * 7 = 3 by omega] at c3
          rw [show k * 7 + 4 - k * 7 = 4 by omega] at c4
          rw [show k * 7 + 5 - k * 7 = 5 by omega] at c5
          rw [show k * 7 + 6 - k * 7 = 6 by omega] at c6
          simp only [List.cons_append, List.nil_append, List.getElem?_cons_zero, List.getElem?_cons_succ] at c0 c1 c2 c3 c4 c5 c6
          have f0 := oN.frozenAt (k * 7)
          have f1 := oN.frozenAt (k * 7 + 1)
          have f2 := oN.frozenAt (k * 7 + 2)
          have f3 := oN.frozenAt (k * 7 + 3)
          have f4 := oN.frozenAt (k * 7 + 4)
          have f5 := oN.frozenAt (k * 7 + 5)
          have f6 := oN.frozenAt (k * 7 + 6)
          have oN2 := own_mark oN (vs := [.int .i64 0, .int .i64 0, .int .i64 0, .int .i64 (-((n + 1 : Nat) : Int)), .int .i64 0, .int .i64 0, .string ⟨#[]⟩]) rfl
          rw [hA, ← rep_next_N] at oN2
          have hgw : g < w.heap.size := (nlt g rfl).2
          have gs := grown_setAll' g [.int .i64 0, .int .i64 0, .int .i64 0, .int .i64 (-((n + 1 : Nat) : Int)), .int .i64 0, .int .i64 0, .string ⟨#[]⟩] (k * 7) wr wr (World.grownBy.refl _ _)
          have bk2 := bk.step gs hc (.inr rfl) (by omega) (by omega) hBg (fun e he => ent_kept (bk.hes e he) gs hc (fun h => by cases h) (fun _ => (dN e he).resolve_left (by intro h; cases h)) (.inr rfl))
          have fr2 := fr.row gs (.inr (.inl rfl))
          have oT2 : OwnT B (n + 1) _ (.slice Ta r.lt.length Tc) r.lt.length := oT.kept gs (.inr (own_kind_ne' oT hc (by decide)))
          have u0 := cellsAt bk.hm 0
          have u1 := cellsAt bk.hm 1
          have u2 := cellsAt bk.hm 2
          have u3 := cellsAt bk.hm 3
          have u4 := cellsAt bk.hm 4
          have u5 := cellsAt bk.hm 5
          have u6 := cellsAt bk.hm 6
          simp only [List.getElem?_toArray, List.getElem?_cons_zero, List.getElem?_cons_succ] at u0 u1 u2 u3 u4 u5 u6
          have HH := Lib.hid (And.intro bk2 (And.intro fr2 (And.intro oT2 oN2)))
          have ik0 : (0 : Int) ≤ (k : Int) := by omega
          have ik1 : (k : Int) < (r.ln.length : Int) := by omega
          clear bk fr oT oN bk2 fr2 oT2 oN2 gs hc hx hA
          go_wp2
          exact ⟨⟨k + 1, by go_num, by omega, HH.out.1, HH.out.2.1, HH.out.2.2.1, HH.out.2.2.2⟩, by simp [intOf]; omega⟩
        · have hke : k = r.ln.length := by omega
          subst hke
          rw [List.drop_length, List.append_nil] at oN
          have hge2 : ¬ ((r.ln.length : Int) < (r.ln.length : Int)) := by omega
          have z1 := cellsAt bk.hr 1
          simp only [List.getElem?_toArray, List.getElem?_cons_zero, List.getElem?_cons_succ] at z1
          go_wp2
          have rb0 : RB w B bb w.heap.size (w.heap.size + 1) (w.heap.size + 1 + 1) (n + 1) #[.int .i64 r.kind, .slice Ta r.lt.length Tc, .int .i64 r.hs, .int .i64 r.hf, .int .i64 r.hu, .int .i64 r.rs, .int .i64 r.rv, .int .i64 r.rb, .int .i64 r.nm, .slice Na r.ln.length Nc, .int .i64 r.cs, .int .i64 r.cf, .int .i64 r.cc] (Value.slice Ta r.lt.length Tc).ownBlock (Value.slice Na r.ln.length Nc).ownBlock es VT VN VO (es.map (·.T)) (es.map (·.N)) (es.map fun e => .int .i64 (e.q : Int)) (.slice Ta r.lt.length Tc) r.lt.length (.slice Na r.ln.length Nc) r.ln.length _ := ⟨bk, fr, oT, oN, fun j hj => .inl ⟨hj.symm, (tlt j hj).2⟩, fun j hj => .inl ⟨hj.symm, (nlt j hj).2⟩, fun e he => (dT e he).elim .inl (fun h => .inr (.inl h)), fun e he => (dN e he).elim .inl (fun h => .inr (.inl h))⟩
          clear bk fr oT oN z1 z9 dT dN
          go_loopw [8, 9, 10] (fun ls ks is wr => ∃ (i : Nat) (new : List Ent) (VT VN VO : Value) (la ka : Option Addr) (lc kc : Nat), is = .int .i64 (i : Int) ∧ ls = .slice la (r.lt.length + i) lc ∧ ks = .slice ka (r.ln.length + i) kc ∧ i ≤ 4 ∧ new.length = i ∧ RB w B bb w.heap.size (w.heap.size + 1) (w.heap.size + 1 + 1) (n + 1) #[.int .i64 r.kind, .slice Ta r.lt.length Tc, .int .i64 r.hs, .int .i64 r.hf, .int .i64 r.hu, .int .i64 r.rs, .int .i64 r.rv, .int .i64 r.rb, .int .i64 r.nm, .slice Na r.ln.length Nc, .int .i64 r.cs, .int .i64 r.cf, .int .i64 r.cc] (Value.slice Ta r.lt.length Tc).ownBlock (Value.slice Na r.ln.length Nc).ownBlock (es ++ new) VT VN VO ((es ++ new).map (·.T)) ((es ++ new).map (·.N)) ((es ++ new).map fun e => .int .i64 (e.q : Int)) (.slice la (r.lt.length + i) lc) (r.lt.length + i) (.slice ka (r.ln.length + i) kc) (r.ln.length + i) wr ∧ (∀ e ∈ new, e.q = n + 1 ∧ (e.T.ownBlock = none ∨ e.T.ownBlock = (Value.slice Ta r.lt.length Tc).ownBlock ∨ ∃ k, e.T.ownBlock = some k ∧ w.heap.size ≤ k) ∧ (e.N.ownBlock = none ∨ e.N.ownBlock = (Value.slice Na r.ln.length Nc).ownBlock ∨ ∃ k, e.N.ownBlock = some k ∧ w.heap.size ≤ k))) (fun _ _ is _ => 4 - (intOf is).toNat)
          case atStart => exact ⟨0, [], VT, VN, VO, Ta, Na, Tc, Nc, rfl, rfl, rfl, by omega, rfl, by simpa using rb0, fun e he => by cases he⟩
          case round =>
            clear rb0
            obtain ⟨i, new, VT, VN, VO, la, ka, lc, kc, rfl, rfl, rfl, hi4, hnew, rb, hcond⟩ := hrel
            obtain ⟨i28, j28, p28, q28, s28⟩ := info_parts info28
            obtain ⟨i33, j33, p33, q33, s33⟩ := info_parts info33
            obtain ⟨i3, j3, p3, q3, s3⟩ := info_parts info3
            obtain ⟨i63, j63, p63, q63, s63⟩ := info_parts infoT
            obtain ⟨i65, j65, p65, q65, s65⟩ := info_parts infoN
            have hsz : B ≤ wr.heap.size := Nat.le_trans rb.bk.hBw rb.bk.bw.size
            obtain ⟨m, hm⟩ : ∃ m, es.length + new.length = m := ⟨_, rfl⟩
            obtain ⟨LT, hLT⟩ : ∃ L, (es ++ new).map (·.T) = L := ⟨_, rfl⟩
            obtain ⟨LN, hLN⟩ : ∃ L, (es ++ new).map (·.N) = L := ⟨_, rfl⟩
            obtain ⟨LO, hLO⟩ : ∃ L, ((es ++ new).map fun e => Value.int .i64 (e.q : Int)) = L := ⟨_, rfl⟩
            have mT : LT.length = m := by rw [← hLT, List.length_map, List.length_append, hm]
            have mN : LN.length = m := by rw [← hLN, List.length_map, List.length_append, hm]
            have mO : LO.length = m := by rw [← hLO, List.length_map, List.length_append, hm]
            rw [hLT, hLN, hLO] at rb
            have hm4 : m ≤ 5864062014636 := by omega
            have HM := Lib.hid (And.intro mT (And.intro mN mO))
            have HL := Lib.hid (And.intro hLT (And.intro hLN (And.intro hLO hnew)))
            clear hLT hLN hLO mT mN mO hm hnew
            by_cases hlt : i < 4
            · have ci : (i : Int) < 4 := by omega
              have o28 : wr.ownsRow B 30 1 VT m LT := HM.out.1 ▸ rb.bk.o28
              have c1 := cellsAt rb.bk.hb 1
              simp only [List.getElem?_toArray, List.getElem?_cons_zero, List.getElem?_cons_succ] at c1
              go_wp2_with (at_builtin; refine wpList_append_lies _ rfl _ _ 52 rfl B 30 i28 (.slice none 0 0) 1 24 Tryz.underlying52 j28 p28 q28 s28 rfl (by decide) _ _ _ rfl (o28.alloc _) ⟨wr.heap.size, 0, none⟩ 1 1 [.slice la (r.lt.length + i) lc] rfl rfl (newCellsAt _ _ _ _ rfl) (fun x hx => by simp at hx; rcases hx with rfl; rfl) (by decide) (by unfold maxLen; omega) (by omega) (by simp; omega) _ rfl ?_; intro g1 k1 w1 o1 gr1 at1 lt1; refine Hid.out ?_)
              have sz1 : B ≤ w1.heap.size := Nat.le_trans hsz (Nat.le_trans (by simp) gr1.size)
              obtain ⟨b1, rb1⟩ := rb.push28 ((Below.refl _ _).alloc (Nat.le_refl _) _) gr1 (by rw [HM.out.1]; exact o1)
              clear gr1 at1 lt1 o1 c1 rb o28
              have o33 : (w1.setCell ⟨bb, 1, none⟩ (.slice (some ⟨g1, 0, none⟩) (m + 1) k1)).ownsRow B 35 1 VN m LN := HM.out.2.1 ▸ rb1.bk.o33
              have c1 := cellsAt b1 1
              have f1 := frozenAt b1 1
              have c2 := cellsAt b1 2
              simp only [List.getElem?_toArray, List.getElem?_cons_zero, List.getElem?_cons_succ] at c1 c2
              clear b1
              refine Lib.hid ?_
              go_wp2_with (at_builtin; refine wpList_append_lies _ rfl _ _ 53 rfl B 35 i33 (.slice none 0 0) 1 24 Tryz.underlying53 j33 p33 q33 s33 rfl (by decide) _ _ _ rfl (o33.alloc _) ⟨w1.heap.size, 0, none⟩ 1 1 [.slice ka (r.ln.length + i) kc] rfl rfl (newCellsAt _ _ _ _ (set_size _ _ _)) (fun x hx => by simp at hx; rcases hx with rfl; rfl) (by decide) (by unfold maxLen; omega) (by omega) (by simp [World.setCell]; omega) _ rfl ?_; intro g2 k2 w2 o2 gr2 at2 lt2; refine Hid.out ?_)
              have sz2 : B ≤ w2.heap.size := Nat.le_trans sz1 (Nat.le_trans (by simp [World.setCell]) gr2.size)
              obtain ⟨b2, rb2⟩ := rb1.push33 ((Below.refl _ _).alloc (Nat.le_refl _) _) gr2 (by rw [HM.out.2.1]; exact o2)
              clear gr2 at2 lt2 o2 c1 c2 f1 rb1 o33
              have c2 := cellsAt b2 2
              have f2 := frozenAt b2 2
              have c5 := cellsAt b2 5
              have c6 := cellsAt b2 6
              simp only [List.getElem?_toArray, List.getElem?_cons_zero, List.getElem?_cons_succ] at c2 c5 c6
              refine Lib.hid ?_
              go_wp2_with fail
              obtain ⟨W, hW⟩ : ∃ W, w2.setCell ⟨bb, 2, none⟩ (.slice (some ⟨g2, 0, none⟩) (m + 1) k2) = W := ⟨_, rfl⟩
              rw [hW] at rb2 ⊢
              have sW : B ≤ W.heap.size := by rw [← hW, set_size]; exact sz2
              clear hW c2 f2 c5 c6 b2
              have c5 := cellsAt rb2.bk.hb 5
              have c6 := cellsAt rb2.bk.hb 6
              have e5 := cellsAt (allocOldN (o' := .cells #[.int .i64 ((n : Int) + 1)] 3) rb2.bk.hb) 5
              simp only [List.getElem?_toArray, List.getElem?_cons_zero, List.getElem?_cons_succ] at c5 c6 e5
              have o3 : W.ownsRow B 3 1 VO m LO := HM.out.2.2 ▸ rb2.bk.o3
              go_region_law (refine step_append_lies _ rfl (.tmp 86) (.tmp 91) 23 rfl B 3 i3 (.int .i64 0) 1 8 Tryz.underlying23 j3 p3 q3 s3 rfl (by decide) VO m LO (by simp [Act.eval, Act.put]) (own_any o3 (by first | exact (Below.refl _ _).drew.alloc (Nat.le_refl _) _ | exact ((Below.refl _ _).alloc (Nat.le_refl _) _).drew)) ⟨W.heap.size, 0, none⟩ 1 1 [.int .i64 ((n + 1 : Nat) : Int)] (by simp [Act.eval, Act.put]) rfl (by first | exact newCellsAt _ _ _ _ rfl | exact fun j u h => newCells W _ _ j u h) (fun x hx => by simp at hx; rcases hx with rfl; rfl) (by decide) (by unfold maxLen; omega) (by omega) (by simp; omega) _ rfl ?_; intro g3 k3 w3 o3' gr3 at3 lt3; obtain ⟨b3, rb3⟩ := rb2.push3 (by first | exact (Below.refl _ _).drew.alloc (Nat.le_refl _) _ | exact ((Below.refl _ _).alloc (Nat.le_refl _) _).drew) gr3 (by rw [HM.out.2.2]; exact o3'); have d5 := cellsAt b3 5; have f5 := frozenAt b3 5; simp only [List.getElem?_toArray, List.getElem?_cons_zero, List.getElem?_cons_succ] at d5; have sz3 : B ≤ w3.heap.size := Nat.le_trans sW (Nat.le_trans (by simp) gr3.size); clear gr3 at3 lt3 o3' b3)
              all_goals (
                have rb4 := rb3.entry
                clear rb3 rb2 c5 c6 e5 o3 d5 f5
                obtain ⟨W3, hW3⟩ : ∃ W, w3.setCell ⟨bb, 5, none⟩ (.slice (some ⟨g3, 0, none⟩) (m + 1) k3) = W := ⟨_, rfl⟩
                rw [hW3] at rb4
                first | rw [hW3] | rw [World.setCell_drew, hW3]
                have sW3 : B ≤ W3.heap.size := by rw [← hW3, set_size]; exact sz3
                clear hW3
                have oT : W3.ownsRow B 74 3 (.slice la (r.lt.length + i) lc) (r.lt.length + i) (tcells (List.replicate (r.lt.length + i) (mrkT (n + 1)))) := rb4.oT
                have u0 := cellsAt rb4.bk.ht 0
                have u1 := cellsAt rb4.bk.ht 1
                have u2 := cellsAt rb4.bk.ht 2
                simp only [List.getElem?_toArray, List.getElem?_cons_zero, List.getElem?_cons_succ] at u0 u1 u2
                go_wp2_with (at_builtin; refine wpList_append_keeps _ rfl _ _ 30 rfl B 74 i63 (.agg #[.string ⟨#[]⟩, .int .i64 0, .int .i64 0]) 3 32 Tryz.underlying30 j63 p63 q63 s63 rfl (by decide) _ _ _ rfl (oT.alloc _) ⟨W3.heap.size, 0, none⟩ 1 [.string ⟨#[]⟩, .int .i64 0, .int .i64 (-((n + 1 : Nat) : Int))] rfl rfl (newCellsAt _ _ _ _ rfl) (fun x hx => by simp at hx; rcases hx with rfl | rfl | rfl <;> rfl) (by unfold maxLen; omega) (by omega) (by simp; omega) ?_; intro g4 k4 w4 o4 al4; refine Hid.out ?_)
                have sz4 : B ≤ w4.heap.size := by
                  rcases al4 with ⟨_, h⟩ | ⟨_, h⟩
                  · exact Nat.le_trans sW3 (Nat.le_trans (by simp) h.size)
                  · exact Nat.le_trans sW3 (Nat.le_trans (by simp) h.size)
                have rb5 := rb4.pushT ((Below.refl _ _).alloc (Nat.le_refl _) _) o4 al4
                have hpT := place rb4.hlT (show w.heap.size ≤ w.heap.size + 1 + 1 by omega)
                have hpN := place rb4.hlN (show w.heap.size ≤ w.heap.size + 1 + 1 by omega)
                clear rb4 oT u0 u1 u2 o4 al4
                have oN : w4.ownsRow B 72 7 (.slice ka (r.ln.length + i) kc) (r.ln.length + i) (ncells (List.replicate (r.ln.length + i) (mrkN (n + 1)))) := rb5.oN
                have u0 := cellsAt rb5.bk.hm 0
                have u1 := cellsAt rb5.bk.hm 1
                have u2 := cellsAt rb5.bk.hm 2
                have u3 := cellsAt rb5.bk.hm 3
                have u4 := cellsAt rb5.bk.hm 4
                have u5 := cellsAt rb5.bk.hm 5
                have u6 := cellsAt rb5.bk.hm 6
                simp only [List.getElem?_toArray, List.getElem?_cons_zero, List.getElem?_cons_succ] at u0 u1 u2 u3 u4 u5 u6
                refine Lib.hid ?_
                go_wp2_with (at_builtin; refine wpList_append_keeps _ rfl _ _ 35 rfl B 72 i65 (.agg #[.int .i64 0, .int .i64 0, .int .i64 0, .int .i64 0, .int .i64 0, .int .i64 0, .string ⟨#[]⟩]) 7 64 Tryz.underlying35 j65 p65 q65 s65 rfl (by decide) _ _ _ rfl (oN.alloc _) ⟨w4.heap.size, 0, none⟩ 1 [.int .i64 0, .int .i64 0, .int .i64 0, .int .i64 (-((n + 1 : Nat) : Int)), .int .i64 0, .int .i64 0, .string ⟨#[]⟩] rfl rfl (newCellsAt _ _ _ _ rfl) (fun x hx => by simp at hx; rcases hx with rfl | rfl | rfl | rfl | rfl <;> rfl) (by unfold maxLen; omega) (by omega) (by simp; omega) ?_; intro g5 k5 w5 o5 al5; refine Hid.out ?_)
                have rb6 := rb5.pushN ((Below.refl _ _).alloc (Nat.le_refl _) _) o5 al5
                clear rb5 oN u0 u1 u2 u3 u4 u5 u6 o5 al5
                obtain ⟨hLT, hLN, hLO, hnew⟩ := HL.out
                have e1 : (es ++ (new ++ [(⟨n + 1, .slice la (r.lt.length + i) lc, r.lt.length + i, .slice ka (r.ln.length + i) kc, r.ln.length + i⟩ : Ent)])).map (·.T) = LT ++ [.slice la (r.lt.length + i) lc] := by rw [← hLT]; simp
                have e2 : (es ++ (new ++ [(⟨n + 1, .slice la (r.lt.length + i) lc, r.lt.length + i, .slice ka (r.ln.length + i) kc, r.ln.length + i⟩ : Ent)])).map (·.N) = LN ++ [.slice ka (r.ln.length + i) kc] := by rw [← hLN]; simp
                have e3 : ((es ++ (new ++ [(⟨n + 1, .slice la (r.lt.length + i) lc, r.lt.length + i, .slice ka (r.ln.length + i) kc, r.ln.length + i⟩ : Ent)])).map fun e => Value.int .i64 (e.q : Int)) = LO ++ [.int .i64 ((n + 1 : Nat) : Int)] := by rw [← hLO]; simp
                rw [List.append_assoc, ← e1, ← e2, ← e3] at rb6
                have hl' : (new ++ [(⟨n + 1, .slice la (r.lt.length + i) lc, r.lt.length + i, .slice ka (r.ln.length + i) kc, r.ln.length + i⟩ : Ent)]).length = i + 1 := by rw [List.length_append, hnew]; rfl
                have hc' : ∀ e ∈ new ++ [(⟨n + 1, .slice la (r.lt.length + i) lc, r.lt.length + i, .slice ka (r.ln.length + i) kc, r.ln.length + i⟩ : Ent)], e.q = n + 1 ∧ (e.T.ownBlock = none ∨ e.T.ownBlock = (Value.slice Ta r.lt.length Tc).ownBlock ∨ ∃ k, e.T.ownBlock = some k ∧ w.heap.size ≤ k) ∧ (e.N.ownBlock = none ∨ e.N.ownBlock = (Value.slice Na r.ln.length Nc).ownBlock ∨ ∃ k, e.N.ownBlock = some k ∧ w.heap.size ≤ k) := by
                  intro e he
                  rcases List.mem_append.1 he with he | he
                  · exact hcond e he
                  · rw [List.mem_singleton.1 he]
                    exact ⟨rfl, hpT, hpN⟩
                have HH := Lib.hid (And.intro hl' (And.intro rb6 hc'))
                clear hLT hLN hLO hnew e1 e2 e3 rb6 hl' hc' hpT hpN hcond
                refine Lib.hid ?_
                go_wp2
                exact ⟨⟨i + 1, _, _, _, _, _, _, _, _, by go_num, rfl, rfl, by omega, HH.out.1, HH.out.2.1, HH.out.2.2⟩, by simp [intOf]; omega⟩)
            · have hie : i = 4 := by omega
              subst hie
              obtain ⟨hLT, hLN, hLO, hnew⟩ := HL.out
              have b1 : BookIs B bb (es ++ new) (n + 1) wr := by
                rw [← hLT, ← hLN, ← hLO] at rb
                exact ⟨hB, VT, VN, VO, rb.bk.hb, by simpa using rb.bk.o28, by simpa using rb.bk.o33, by simpa using rb.bk.o3, rb.bk.hes⟩
              have HH := Lib.hid (And.intro rb.bk.bw (And.intro rb.fr (And.intro hnew (And.intro b1 hcond))))
              clear hLT hLN hLO hnew b1 hcond rb
              go_wp2
              go_end0
              exact ⟨rfl, HH.out.1, HH.out.2.1, new, HH.out.2.2.1, HH.out.2.2.2.1, HH.out.2.2.2.2⟩
end Go.Proofs.YteibjmlimcpaoaaGreatDoor
