/-
  What visorref.Decode answers, for every string: the report that it reads, if it is written just so; nothing that lay in memory turns.
-/
import Derived.Test.YteibjmlimcpaoaaDoorDRf
import Derived.Test.YteibjmlimcpaoaaDoorDDe
set_option linter.unusedVariables false
set_option linter.unusedSimpArgs false
namespace Go.Proofs.YteibjmlimcpaoaaDoor
open Go.RowKit Go.Sort

/-- where the document's Decode stands: the result's block, the reader's, the report's -/
structure DS (w0 : World) (pr px rb : Nat) (l : List UInt8) (cs : Array Value) (w : World) : Prop where
  h0 : w0.heap.size ≤ pr
  h1 : pr < px
  h2 : px < rb
  bw : Below w0.heap.size w0 w
  z : w.heap[pr]? = some (.cells #[.int .i64 0, .slice none 0 0, .int .i64 0, .int .i64 0, .int .i64 0, .int .i64 0, .int .i64 0, .int .i64 0, .int .i64 0, .slice none 0 0, .int .i64 0, .int .i64 0, .int .i64 0] 37 (0, 0))
  rd : RrAt px l w
  q : w.heap[rb]? = some (.cells cs 37 (0, 0))
theorem DS.call {w0 : World} {pr px rb : Nat} {l l' : List UInt8} {cs : Array Value} {w w' : World} (d : DS w0 pr px rb l cs w) (g : w.grownBy w' (some px)) (r : RrAt px l' w') : DS w0 pr px rb l' cs w' :=
  ⟨d.h0, d.h1, d.h2, d.bw.grown g d.bw.size (fun k hk => by cases hk; have := d.h0; have := d.h1; omega), grownAt d.z g (by have := d.h1; omega), r, grownAt d.q g (by have := d.h2; omega)⟩
theorem DS.set {w0 : World} {pr px rb : Nat} {l : List UInt8} {cs : Array Value} {w : World} (d : DS w0 pr px rb l cs w) (i : Nat) (v : Value) : DS w0 pr px rb l (cs.setIfInBounds i v) (w.setCell ⟨rb, i, none⟩ v) :=
  ⟨d.h0, d.h1, d.h2, d.bw.setCell (p := ⟨rb, i, none⟩) (by have := d.h0; have := d.h1; have := d.h2; show _ ≤ rb; omega) v, (Below.heap_setCell _ _ _ _ (by have := d.h1; have := d.h2; show pr ≠ rb; omega)).trans d.z, (Below.heap_setCell _ _ _ _ (by have := d.h2; show px ≠ rb; omega)).trans d.rd, setCell_row d.q v⟩
theorem DS.alloc {w0 : World} {pr px rb : Nat} {l : List UInt8} {cs : Array Value} {w : World} (d : DS w0 pr px rb l cs w) (o : Obj) : DS w0 pr px rb l cs (w.alloc o) :=
  ⟨d.h0, d.h1, d.h2, d.bw.alloc d.bw.size o, allocOldN d.z, allocOldN d.rd, allocOldN d.q⟩
/-- stores into a block that is none of the three -/
theorem DS.other {w0 : World} {pr px rb : Nat} {l : List UInt8} {cs : Array Value} {w : World} (d : DS w0 pr px rb l cs w) (k i : Nat) (hk : w0.heap.size ≤ k) (n1 : k ≠ pr) (n2 : k ≠ px) (n3 : k ≠ rb) (v : Value) : DS w0 pr px rb l cs (w.setCell ⟨k, i, none⟩ v) :=
  ⟨d.h0, d.h1, d.h2, d.bw.setCell (p := ⟨k, i, none⟩) hk v, (Below.heap_setCell _ _ _ _ (fun e => n1 e.symm)).trans d.z, (Below.heap_setCell _ _ _ _ (fun e => n2 e.symm)).trans d.rd, (Below.heap_setCell _ _ _ _ (fun e => n3 e.symm)).trans d.q⟩
/-- an append to a row that is none of the three -/
theorem DS.row {w0 : World} {pr px rb : Nat} {l : List UInt8} {cs : Array Value} {w w' : World} {row : Option Nat} (d : DS w0 pr px rb l cs w) (g : w.grownBy w' row) (hr : ∀ k, row = some k → w0.heap.size ≤ k) (n1 : row ≠ some pr) (n2 : row ≠ some px) (n3 : row ≠ some rb) : DS w0 pr px rb l cs w' :=
  ⟨d.h0, d.h1, d.h2, d.bw.grown g d.bw.size hr, (g.block pr (Array.getElem?_eq_some_iff.1 d.z).1 (fun e => n1 e.symm)).trans d.z, (g.block px (Array.getElem?_eq_some_iff.1 d.rd).1 (fun e => n2 e.symm)).trans d.rd, (g.block rb (Array.getElem?_eq_some_iff.1 d.q).1 (fun e => n3 e.symm)).trans d.q⟩
theorem own_kind_ne {w : World} {k B e T size n : Nat} {v : Value} {xs : List Value} {cs : Array Value} {fz : Nat × Nat} (ho : w.ownsRow B e size v n xs) (h : w.heap[k]? = some (.cells cs T fz)) (he : T ≠ e) : v.ownBlock ≠ some k := by
  intro hk
  obtain ⟨c, fz', h2⟩ := Lib.ownsRow_kind ho k hk
  rw [h] at h2
  cases h2
  exact he rfl
theorem own_apart {w : World} {B B' e e' size size' n n' : Nat} {v v' : Value} {xs xs' : List Value} (h : w.ownsRow B e size v n xs) (h' : w.ownsRow B' e' size' v' n' xs') (he : e ≠ e') : v.ownBlock = none ∨ v.ownBlock ≠ v'.ownBlock := by
  cases hb : v.ownBlock with
  | none => exact .inl rfl
  | some k =>
    right
    intro e2
    obtain ⟨c, fz, h2⟩ := Lib.ownsRow_kind h k hb
    obtain ⟨c', fz', h3⟩ := Lib.ownsRow_kind h' k e2.symm
    rw [h2] at h3
    cases h3
    exact he rfl
theorem rnum_le (n : Nat) (l : List UInt8) : (rnum n l).2.length ≤ l.length := by
  unfold rnum
  simp only [List.length_drop]
  omega
theorem rnum1_lt (l : List UInt8) : (rnum 1 l).1 < 256 := by
  have h := beGo_lt (l.take 1) 0
  have h2 : (l.take 1).length ≤ 1 := by rw [List.length_take]; omega
  have h3 : 256 ^ (l.take 1).length ≤ 256 ^ 1 := Nat.pow_le_pow_right (by decide) h2
  show beGo 0 _ < _
  omega
theorem rtab_le (l : List UInt8) : (rtab l).2.length ≤ l.length := by
  unfold rtab
  simp only
  refine Nat.le_trans (rnum_le _ _) (Nat.le_trans (rnum_le _ _) ?_)
  rw [List.length_drop]; omega
theorem rnm_le (l : List UInt8) : (rnm l).2.length ≤ l.length := by
  unfold rnm
  simp only [List.length_drop]
  have h1 := rnum_le 2 l
  have h2 := rnum_le 2 (rnum 2 l).2
  have h3 := rnum_le 2 (rnum 2 (rnum 2 l).2).2
  have h4 := rnum_le 2 (rnum 2 (rnum 2 (rnum 2 l).2).2).2
  have h5 := rnum_le 1 (rnum 2 (rnum 2 (rnum 2 (rnum 2 l).2).2).2).2
  have h6 := rnum_le 1 (rnum 1 (rnum 2 (rnum 2 (rnum 2 (rnum 2 l).2).2).2).2).2
  have h7 := rnum_le 1 (rnum 1 (rnum 1 (rnum 2 (rnum 2 (rnum 2 (rnum 2 l).2).2).2).2).2).2
  omega
theorem rlist_le {α : Type} (f : List UInt8 → α × List UInt8) (hf : ∀ s, (f s).2.length ≤ s.length) : ∀ (n : Nat) (s : List UInt8), (rlist f n s).2.length ≤ s.length
  | 0, s => Nat.le_refl _
  | n + 1, s => by
    simp only [rlist]
    exact Nat.le_trans (rlist_le f hf n _) (hf s)
theorem rnm_tx (l : List UInt8) : (rnm l).1.tx.size ≤ 256 := by
  unfold rnm
  simp only
  rw [ba_size, List.length_take]
  have := rnum1_lt (rnum 1 (rnum 1 (rnum 2 (rnum 2 (rnum 2 (rnum 2 l).2).2).2).2).2).2
  omega
theorem rlist_tx : ∀ (n : Nat) (s : List UInt8), ∀ x ∈ (rlist rnm n s).1, x.tx.size ≤ 256
  | 0, s, x, h => by cases h
  | n + 1, s, x, h => by
    simp only [rlist, List.mem_cons] at h
    rcases h with rfl | h
    · exact rnm_tx s
    · exact rlist_tx n _ x h

set_option maxRecDepth 100000 in
set_option maxHeartbeats 8000000 in
theorem dec16_any (b : List UInt8) (w : World) (hl : b.length ≤ 9223372036854775807) (D : World → Value → Prop) (R : Rep) (hR : rrep b = R)
    (hbad : ∀ w', ¬ R.enc = (b, 0) → D w' (.tuple #[zeroR, .int .i64 5]))
    (hgood : ∀ w' T N, R.enc = (b, 0) → w'.ownsRow w.heap.size 77 3 T R.lt.length (tcells R.lt) → w'.ownsRow w.heap.size 79 7 N R.ln.length (ncells R.ln) → D w' (.tuple #[R.val T N, .int .i64 0])) :
    Calls Tryd.prog 18 #[.string ⟨b.toArray⟩] w fun e w' => ∃ v, e = .returned v ∧ D w' v ∧ Below w.heap.size w w' := by
  have HB := Lib.hid hbad
  have HG := Lib.hid hgood
  clear hbad hgood
  unfold rrep at hR
  simp only at hR
  have NUM := Lib.hid (fun (n : Nat) (hn : n ≤ 4) (l : List UInt8) (hl : l.length ≤ 9223372036854775807) (p : Nat) (w1 : World) (h : RrAt p l w1) => num35 p n l w1 hn hl h)
  have lk := rnum_le 1 b
  have Fk := Lib.hid (NUM.out 1 (by omega) b (by omega))
  generalize rnum 1 b = k at *
  have ln := rnum_le 1 k.2
  have bn := rnum1_lt k.2
  have Fn := Lib.hid (NUM.out 1 (by omega) k.2 (by omega))
  generalize rnum 1 k.2 = n at *
  have lt' := rlist_le rtab rtab_le (min n.1 17) n.2
  have ct := rlist_length rtab (min n.1 17) n.2
  obtain ⟨t, ht⟩ : ∃ t, rlist rtab (min n.1 17) n.2 = t := ⟨_, rfl⟩
  rw [ht] at hR lt' ct
  have la := rnum_le 1 t.2
  have Fa := Lib.hid (NUM.out 1 (by omega) t.2 (by omega))
  generalize rnum 1 t.2 = a at *
  have lb1 := rnum_le 2 a.2
  have Fb1 := Lib.hid (NUM.out 2 (by omega) a.2 (by omega))
  generalize rnum 2 a.2 = b1 at *
  have lc := rnum_le 2 b1.2
  have Fc := Lib.hid (NUM.out 2 (by omega) b1.2 (by omega))
  generalize rnum 2 b1.2 = c at *
  have ld := rnum_le 1 c.2
  have Fd := Lib.hid (NUM.out 1 (by omega) c.2 (by omega))
  generalize rnum 1 c.2 = d at *
  have le := rnum_le 2 d.2
  have Fe := Lib.hid (NUM.out 2 (by omega) d.2 (by omega))
  generalize rnum 2 d.2 = e at *
  have lf := rnum_le 2 e.2
  have Ff := Lib.hid (NUM.out 2 (by omega) e.2 (by omega))
  generalize rnum 2 e.2 = f at *
  have lg := rnum_le 1 f.2
  have Fg := Lib.hid (NUM.out 1 (by omega) f.2 (by omega))
  generalize rnum 1 f.2 = g at *
  have lm := rnum_le 1 g.2
  have bm := rnum1_lt g.2
  have Fm := Lib.hid (NUM.out 1 (by omega) g.2 (by omega))
  generalize rnum 1 g.2 = m at *
  have lx' := rlist_le rnm rnm_le (min m.1 21) m.2
  have cx := rlist_length rnm (min m.1 21) m.2
  have tx' := rlist_tx (min m.1 21) m.2
  obtain ⟨x, hx⟩ : ∃ x, rlist rnm (min m.1 21) m.2 = x := ⟨_, rfl⟩
  rw [hx] at hR lx' cx tx'
  have lu := rnum_le 1 x.2
  have Fu := Lib.hid (NUM.out 1 (by omega) x.2 (by omega))
  generalize rnum 1 x.2 = u at *
  have lv := rnum_le 2 u.2
  have Fv := Lib.hid (NUM.out 2 (by omega) u.2 (by omega))
  generalize rnum 2 u.2 = v at *
  have ly := rnum_le 4 v.2
  have Fy := Lib.hid (NUM.out 4 (by omega) v.2 (by omega))
  generalize rnum 4 v.2 = y at *
  subst hR
  obtain ⟨r, hr⟩ : ∃ r, (Rep.mk k.1 t.1 a.1 b1.1 c.1 d.1 e.1 f.1 g.1 x.1 u.1 v.1 y.1).enc = r := ⟨_, rfl⟩
  rw [hr] at HB HG
  have HR : Hid (encOf (k.1 : Int) (a.1 : Int) (b1.1 : Int) (c.1 : Int) (d.1 : Int) (e.1 : Int) (f.1 : Int) (g.1 : Int) (u.1 : Int) (v.1 : Int) (y.1 : Int) (tabsR t.1) (nmsR x.1) = r) := hr
  clear hr
  have HT := Lib.hid ht
  have HX := Lib.hid hx
  clear ht hx
  obtain ⟨i0, hi, hz0, hz1, hz2⟩ := info_parts infoT
  obtain ⟨i1, hi', hz0', hz1', hz2'⟩ := info_parts infoN
  have ds0 : DS w w.heap.size (w.heap.size + 1) (w.heap.size + 1 + 1) b #[.int .i64 0, .slice none 0 0, .int .i64 0, .int .i64 0, .int .i64 0, .int .i64 0, .int .i64 0, .int .i64 0, .int .i64 0, .slice none 0 0, .int .i64 0, .int .i64 0, .int .i64 0] (((w.alloc (.cells #[.int .i64 0, .slice none 0 0, .int .i64 0, .int .i64 0, .int .i64 0, .int .i64 0, .int .i64 0, .int .i64 0, .int .i64 0, .slice none 0 0, .int .i64 0, .int .i64 0, .int .i64 0] 37)).alloc (.cells #[.string ⟨b.toArray⟩] 86)).alloc (.cells #[.int .i64 0, .slice none 0 0, .int .i64 0, .int .i64 0, .int .i64 0, .int .i64 0, .int .i64 0, .int .i64 0, .int .i64 0, .slice none 0 0, .int .i64 0, .int .i64 0, .int .i64 0] 37)) :=
    ⟨Nat.le_refl _, by omega, by omega, (((Below.refl _ _).alloc (Nat.le_refl _) _).alloc (by simp) _).alloc (by simp <;> omega) _, allocOldN (allocOldN (allocAt _ _)), allocOldN (allocAtN _ _ _ (by simp)), allocAtN _ _ _ (by simp)⟩
  go_enter Tryd.func18, Tryd.ntmps18
  go_wp2_with (go_at_call 42; refine (Fk.out _ _ ds0.rd).mono ?_; rintro e' w1 ⟨rfl, rd, g1⟩; refine Hid.out ?_)
  have ds := ds0.call g1 rd
  clear ds0 rd g1 Fk
  obtain ⟨rb, hrb⟩ : ∃ g, w.heap.size + 1 + 1 = g := ⟨_, rfl⟩
  obtain ⟨px, hpx⟩ : ∃ g, w.heap.size + 1 = g := ⟨_, rfl⟩
  rw [hrb, hpx] at ds
  rw [hrb, hpx]
  clear hrb hpx
  have y0 := cellsAt ds.q 0
  simp only [List.getElem?_toArray, List.getElem?_cons_zero, List.getElem?_cons_succ] at y0
  have f0 := frozenAt ds.q 0
  refine Lib.hid ?_
  go_wp2_with (go_at_call 42; refine (Fn.out _ _ (ds.set 0 (.int .i64 (k.1 : Nat))).rd).mono ?_; rintro e' w2 ⟨rfl, rd, g1⟩; refine Hid.out ?_)
  have ds2 : DS w w.heap.size px rb n.2 #[.int .i64 (k.1 : Nat), .slice none 0 0, .int .i64 0, .int .i64 0, .int .i64 0, .int .i64 0, .int .i64 0, .int .i64 0, .int .i64 0, .slice none 0 0, .int .i64 0, .int .i64 0, .int .i64 0] w2 := (ds.set 0 (.int .i64 (k.1 : Nat))).call g1 rd
  clear ds rd g1 Fn y0 f0
  refine Lib.hid ?_
  go_wp2
  go_loopw [7] (fun is wr => ∃ (j : Nat) (l : List UInt8) (acc : List Tab) (T : Value), is = .int .i64 (j : Int) ∧ j ≤ min n.1 17 ∧ acc.length = j ∧ l.length ≤ 9223372036854775807 ∧ DS w w.heap.size px rb l #[.int .i64 (k.1 : Nat), T, .int .i64 0, .int .i64 0, .int .i64 0, .int .i64 0, .int .i64 0, .int .i64 0, .int .i64 0, .slice none 0 0, .int .i64 0, .int .i64 0, .int .i64 0] wr ∧ wr.ownsRow w.heap.size 77 3 T j (tcells acc) ∧ Hid (acc ++ (rlist rtab (min n.1 17 - j) l).1 = t.1) ∧ Hid ((rlist rtab (min n.1 17 - j) l).2 = t.2)) (fun is _ => min n.1 17 - (intOf is).toNat)
  case atStart => exact ⟨0, n.2, [], .slice none 0 0, rfl, Nat.zero_le _, rfl, by omega, ds2, World.ownsRow_nil _ _ _ _, by show _ = _; rw [← HT.out]; simp, by show _ = _; rw [← HT.out]; simp⟩
  case round =>
    obtain ⟨j, l, acc, T, rfl, hj, hacc, hll, ds, own, H1, H2⟩ := hrel
    clear ds2 HT
    obtain ⟨Ta, Tn, Tc, hTe⟩ : ∃ ao n' cap, T = .slice ao n' cap := by
      rcases own.2 with ⟨hv, _⟩ | ⟨_, _, _, hv, _⟩
      · exact ⟨_, _, _, hv⟩
      · exact ⟨_, _, _, hv⟩
    subst hTe
    by_cases hjlt : j < min n.1 17
    · obtain ⟨q, hq⟩ : ∃ q, min n.1 17 - j = q + 1 := ⟨min n.1 17 - j - 1, by omega⟩
      have h1 := H1.out
      have h2 := H2.out
      rw [hq, rlist] at h1 h2
      simp only at h1 h2
      have hq' : min n.1 17 - (j + 1) = q := by omega
      rw [← hq'] at h1 h2
      have hd4 : (l.drop 4).length ≤ l.length := by rw [List.length_drop]; omega
      have A := Lib.hid (fun p w1 h => take36 p 4 l w1 (by omega) hll h)
      have lb' := rnum_le 1 (l.drop 4)
      have B := Lib.hid (NUM.out 1 (by omega) (l.drop 4) (by omega))
      obtain ⟨b', hb'⟩ : ∃ b', rnum 1 (l.drop 4) = b' := ⟨_, rfl⟩
      rw [hb'] at B lb'
      have lc' := rnum_le 2 b'.2
      have C := Lib.hid (NUM.out 2 (by omega) b'.2 (by omega))
      obtain ⟨c', hc'⟩ : ∃ c', rnum 2 b'.2 = c' := ⟨_, rfl⟩
      rw [hc'] at C lc'
      have hx : rtab l = (⟨⟨(l.take 4).toArray⟩, (b'.1 : Int), (c'.1 : Int)⟩, c'.2) := by unfold rtab; simp only [hb', hc']
      rw [hx] at h1 h2
      simp only at h1 h2
      obtain ⟨tag, htag⟩ : ∃ tag : ByteArray, ByteArray.mk (l.take 4).toArray = tag := ⟨_, rfl⟩
      rw [htag] at h1 A
      have K1 : Hid ((acc ++ [⟨tag, (b'.1 : Int), (c'.1 : Int)⟩]) ++ (rlist rtab (min n.1 17 - (j + 1)) c'.2).1 = t.1) := by show _ = _; rw [← h1]; simp
      have K2 := Lib.hid h2
      clear hx h1 h2 H1 H2 hq hq' q hb' hc' htag
      have ik1 : (j : Int) < (n.1 : Int) := by omega
      have ik2 : (j : Int) ≤ 16 := by omega
      go_wp2_with (go_at_call 43; refine (A.out _ _ ds.rd).mono ?_; rintro e' w3 ⟨rfl, rd, g3⟩; refine Hid.out ?_)
      have ds3 := (ds.call g3 rd).alloc (.cells #[.string tag, .int .i64 0, .int .i64 0] 77)
      have own3 := (own.kept g3 (.inr (own_kind_ne own ds.rd (by decide)))).alloc (.cells #[.string tag, .int .i64 0, .int .i64 0] 77)
      have tq := allocAt w3 (.cells #[.string tag, .int .i64 0, .int .i64 0] 77)
      have hTb : (Value.slice Ta Tn Tc).ownBlock ≠ some w3.heap.size := by
        intro e
        have q1 := (own.lt _ e).2
        have q2 := g3.size
        omega
      have tpx : w3.heap.size ≠ px := by
        have q1 := (Array.getElem?_eq_some_iff.1 rd).1
        omega
      have tpr : w3.heap.size ≠ w.heap.size := by
        have q1 := (Array.getElem?_eq_some_iff.1 (ds.call g3 rd).z).1
        omega
      have trb : w3.heap.size ≠ rb := by
        have q1 := (Array.getElem?_eq_some_iff.1 (ds.call g3 rd).q).1
        omega
      have tge : w.heap.size ≤ w3.heap.size := (ds.call g3 rd).bw.size
      clear rd g3 ds own A
      obtain ⟨tb, htb⟩ : ∃ tb, w3.heap.size = tb := ⟨_, rfl⟩
      refine Lib.hid ?_
      go_wp2_with (go_at_call 42; refine (B.out _ _ ds3.rd).mono ?_; rintro e' w4 ⟨rfl, rd, g4⟩; refine Hid.out ?_)
      rw [htb] at tq hTb tpx tpr trb tge
      have tq4 := grownAt tq g4 tpx
      have ds4 := (ds3.call g4 rd).other tb 1 tge tpr tpx trb (.int .i64 (b'.1 : Nat))
      have own4 := ownsRow_setCell_other (a := ⟨tb, 1, none⟩) (own3.kept g4 (.inr (own_kind_ne own3 ds3.rd (by decide)))) hTb (.int .i64 (b'.1 : Nat))
      have tq5 : (w4.setCell ⟨tb, 1, none⟩ (.int .i64 (b'.1 : Nat))).heap[tb]? = some (.cells #[.string tag, .int .i64 (b'.1 : Nat), .int .i64 0] 77 (0, 0)) := setCell_row tq4 _
      have s1 := cellsAt tq4 1
      simp only [List.getElem?_toArray, List.getElem?_cons_zero, List.getElem?_cons_succ] at s1
      have sf1 := frozenAt tq4 1
      clear tq ds3 own3 g4 rd B htb
      refine Lib.hid ?_
      go_wp2_with (go_at_call 42; refine (C.out _ _ ds4.rd).mono ?_; rintro e' w5 ⟨rfl, rd, g5⟩; refine Hid.out ?_)
      have tq6 := grownAt tq5 g5 tpx
      have ds5 := (ds4.call g5 rd).other tb 2 tge tpr tpx trb (.int .i64 (c'.1 : Nat))
      have own5 := ownsRow_setCell_other (a := ⟨tb, 2, none⟩) (own4.kept g5 (.inr (own_kind_ne own4 ds4.rd (by decide)))) hTb (.int .i64 (c'.1 : Nat))
      have tq7 : (w5.setCell ⟨tb, 2, none⟩ (.int .i64 (c'.1 : Nat))).heap[tb]? = some (.cells #[.string tag, .int .i64 (b'.1 : Nat), .int .i64 (c'.1 : Nat)] 77 (0, 0)) := setCell_row tq6 _
      clear s1 sf1 tq4 tq5
      have s2 := cellsAt tq6 2
      simp only [List.getElem?_toArray, List.getElem?_cons_zero, List.getElem?_cons_succ] at s2
      have sf2 := frozenAt tq6 2
      have qq := ds5.q
      obtain ⟨w6, hw6⟩ : ∃ w6, w5.setCell ⟨tb, 2, none⟩ (.int .i64 (c'.1 : Nat)) = w6 := ⟨_, rfl⟩
      rw [hw6] at ds5 own5 tq7 qq
      have r0 := cellsAt tq7 0
      have r1 := cellsAt tq7 1
      have r2 := cellsAt tq7 2
      simp only [List.getElem?_toArray, List.getElem?_cons_zero, List.getElem?_cons_succ] at r0 r1 r2
      have y1 := cellsAt qq 1
      simp only [List.getElem?_toArray, List.getElem?_cons_zero, List.getElem?_cons_succ] at y1
      have fz1 := frozenAt qq 1
      clear ds4 own4 g5 rd C tq6
      refine Lib.hid ?_
      go_wp2_with (at_builtin; refine wpList_append_own _ rfl _ _ 28 rfl w.heap.size 77 i0 (.agg #[.string ⟨#[]⟩, .int .i64 0, .int .i64 0]) 3 32 Tryd.underlying28 hi hz0 hz1 hz2 rfl (by decide) _ _ _ rfl (own5.alloc _) ⟨w6.heap.size, 0, none⟩ 1 1 (tcells [⟨tag, (b'.1 : Int), (c'.1 : Int)⟩]) rfl rfl (newCells _ _ _) (tcells_one _) (by unfold maxLen; omega) (by omega) (by have := ds5.bw.size; simp; omega) ?_; intro v' w7 hown' hgrow7 hnil7; refine Hid.out ?_)
      have ds6a := ds5.alloc (.cells (tcells [⟨tag, (b'.1 : Int), (c'.1 : Int)⟩]).toArray 77)
      have own6a := own5.alloc (.cells (tcells [⟨tag, (b'.1 : Int), (c'.1 : Int)⟩]).toArray 77)
      have ds7 := ds6a.row hgrow7 (fun kk hk => (own6a.lt kk hk).1) (own_kind_ne own6a ds6a.z (by decide)) (own_kind_ne own6a ds6a.rd (by decide)) (own_kind_ne own6a ds6a.q (by decide))
      have own7 : w7.ownsRow w.heap.size 77 3 v' (j + 1) (tcells (acc ++ [⟨tag, (b'.1 : Int), (c'.1 : Int)⟩])) := by
        rw [tcells_append]
        exact hown'
      clear ds6a own6a ds5 own5 hown' hgrow7 hnil7 r0 r1 r2 y1 fz1 qq tq7 s2 sf2 hw6
      obtain ⟨Va, Vn, Vc, hVe⟩ : ∃ ao n' cap, v' = .slice ao n' cap := by
        rcases own7.2 with ⟨hv, _⟩ | ⟨_, _, _, hv, _⟩
        · exact ⟨_, _, _, hv⟩
        · exact ⟨_, _, _, hv⟩
      subst hVe
      have ds8 : DS w w.heap.size px rb c'.2 #[.int .i64 (k.1 : Nat), .slice Va Vn Vc, .int .i64 0, .int .i64 0, .int .i64 0, .int .i64 0, .int .i64 0, .int .i64 0, .int .i64 0, .slice none 0 0, .int .i64 0, .int .i64 0, .int .i64 0] (w7.setCell ⟨rb, 1, none⟩ (.slice Va Vn Vc)) := ds7.set 1 (.slice Va Vn Vc)
      have own8 := ownsRow_setCell_other (a := ⟨rb, 1, none⟩) own7 (own_kind_ne own7 ds7.q (by decide)) (.slice Va Vn Vc)
      have y1 := cellsAt ds7.q 1
      simp only [List.getElem?_toArray, List.getElem?_cons_zero, List.getElem?_cons_succ] at y1
      have fz1 := frozenAt ds7.q 1
      clear ds7 own7
      refine Lib.hid ?_
      go_wp2
      refine ⟨⟨j + 1, c'.2, acc ++ [⟨tag, (b'.1 : Int), (c'.1 : Int)⟩], _, by go_num, by omega, by simp [hacc], by omega, ds8, own8, K1, K2⟩, by simp [intOf]; omega⟩
    · have hjn : j = min n.1 17 := by omega
      have h1 := H1.out
      have h2 := H2.out
      rw [← hjn, Nat.sub_self, rlist] at h1 h2
      simp only [List.append_nil] at h1 h2
      subst h1
      rw [h2] at ds
      clear H1 H2 h2
      have dsx := ds
      clear ds
      have ds := dsx
      clear dsx
      have hcond : (j : Int) < (n.1 : Int) ∧ ¬ ((j : Int) ≤ 16) ∨ ¬ ((j : Int) < (n.1 : Int)) := by omega
      rcases hcond with ⟨q1, q2⟩ | q1
      · have dsx := ds
        have ownx := own
        clear ds own
        go_wp2_with (go_at_call 42; refine (Fa.out _ _ dsx.rd).mono ?_; rintro e' w3 ⟨rfl, rd, g1⟩; refine Hid.out ?_)
        have ds : DS w w.heap.size px rb a.2 #[.int .i64 (k.1 : Nat), .slice Ta Tn Tc, .int .i64 0, .int .i64 0, .int .i64 0, .int .i64 0, .int .i64 0, .int .i64 0, .int .i64 0, .slice none 0 0, .int .i64 0, .int .i64 0, .int .i64 0] w3 := dsx.call g1 rd
        have own := ownx.kept g1 (.inr (own_kind_ne ownx dsx.rd (by decide)))
        clear dsx rd g1 ownx
        have y2 := cellsAt ds.q 2
        simp only [List.getElem?_toArray, List.getElem?_cons_zero, List.getElem?_cons_succ] at y2
        have f2 := frozenAt ds.q 2
        have dsx := ds.set 2 (.int .i64 (a.1 : Nat))
        have ownx := ownsRow_setCell_other (a := ⟨rb, 2, none⟩) own (own_kind_ne own ds.q (by decide)) (.int .i64 (a.1 : Nat))
        clear ds own
        refine Lib.hid ?_
        go_wp2_with (go_at_call 42; refine (Fb1.out _ _ dsx.rd).mono ?_; rintro e' w4b1 ⟨rfl, rd, g1⟩; refine Hid.out ?_)
        have ds : DS w w.heap.size px rb b1.2 #[.int .i64 (k.1 : Nat), .slice Ta Tn Tc, .int .i64 (a.1 : Nat), .int .i64 0, .int .i64 0, .int .i64 0, .int .i64 0, .int .i64 0, .int .i64 0, .slice none 0 0, .int .i64 0, .int .i64 0, .int .i64 0] w4b1 := dsx.call g1 rd
        have own := ownx.kept g1 (.inr (own_kind_ne ownx dsx.rd (by decide)))
        clear dsx rd g1 ownx y2 f2
        have y3 := cellsAt ds.q 3
        simp only [List.getElem?_toArray, List.getElem?_cons_zero, List.getElem?_cons_succ] at y3
        have f3 := frozenAt ds.q 3
        have dsx := ds.set 3 (.int .i64 (b1.1 : Nat))
        have ownx := ownsRow_setCell_other (a := ⟨rb, 3, none⟩) own (own_kind_ne own ds.q (by decide)) (.int .i64 (b1.1 : Nat))
        clear ds own
        refine Lib.hid ?_
        go_wp2_with (go_at_call 42; refine (Fc.out _ _ dsx.rd).mono ?_; rintro e' w4c ⟨rfl, rd, g1⟩; refine Hid.out ?_)
        have ds : DS w w.heap.size px rb c.2 #[.int .i64 (k.1 : Nat), .slice Ta Tn Tc, .int .i64 (a.1 : Nat), .int .i64 (b1.1 : Nat), .int .i64 0, .int .i64 0, .int .i64 0, .int .i64 0, .int .i64 0, .slice none 0 0, .int .i64 0, .int .i64 0, .int .i64 0] w4c := dsx.call g1 rd
        have own := ownx.kept g1 (.inr (own_kind_ne ownx dsx.rd (by decide)))
        clear dsx rd g1 ownx y3 f3
        have y4 := cellsAt ds.q 4
        simp only [List.getElem?_toArray, List.getElem?_cons_zero, List.getElem?_cons_succ] at y4
        have f4 := frozenAt ds.q 4
        have dsx := ds.set 4 (.int .i64 (c.1 : Nat))
        have ownx := ownsRow_setCell_other (a := ⟨rb, 4, none⟩) own (own_kind_ne own ds.q (by decide)) (.int .i64 (c.1 : Nat))
        clear ds own
        refine Lib.hid ?_
        go_wp2_with (go_at_call 42; refine (Fd.out _ _ dsx.rd).mono ?_; rintro e' w4d ⟨rfl, rd, g1⟩; refine Hid.out ?_)
        have ds : DS w w.heap.size px rb d.2 #[.int .i64 (k.1 : Nat), .slice Ta Tn Tc, .int .i64 (a.1 : Nat), .int .i64 (b1.1 : Nat), .int .i64 (c.1 : Nat), .int .i64 0, .int .i64 0, .int .i64 0, .int .i64 0, .slice none 0 0, .int .i64 0, .int .i64 0, .int .i64 0] w4d := dsx.call g1 rd
        have own := ownx.kept g1 (.inr (own_kind_ne ownx dsx.rd (by decide)))
        clear dsx rd g1 ownx y4 f4
        have y5 := cellsAt ds.q 5
        simp only [List.getElem?_toArray, List.getElem?_cons_zero, List.getElem?_cons_succ] at y5
        have f5 := frozenAt ds.q 5
        have dsx := ds.set 5 (.int .i64 (d.1 : Nat))
        have ownx := ownsRow_setCell_other (a := ⟨rb, 5, none⟩) own (own_kind_ne own ds.q (by decide)) (.int .i64 (d.1 : Nat))
        clear ds own
        refine Lib.hid ?_
        go_wp2_with (go_at_call 42; refine (Fe.out _ _ dsx.rd).mono ?_; rintro e' w4e ⟨rfl, rd, g1⟩; refine Hid.out ?_)
        have ds : DS w w.heap.size px rb e.2 #[.int .i64 (k.1 : Nat), .slice Ta Tn Tc, .int .i64 (a.1 : Nat), .int .i64 (b1.1 : Nat), .int .i64 (c.1 : Nat), .int .i64 (d.1 : Nat), .int .i64 0, .int .i64 0, .int .i64 0, .slice none 0 0, .int .i64 0, .int .i64 0, .int .i64 0] w4e := dsx.call g1 rd
        have own := ownx.kept g1 (.inr (own_kind_ne ownx dsx.rd (by decide)))
        clear dsx rd g1 ownx y5 f5
        have y6 := cellsAt ds.q 6
        simp only [List.getElem?_toArray, List.getElem?_cons_zero, List.getElem?_cons_succ] at y6
        have f6 := frozenAt ds.q 6
        have dsx := ds.set 6 (.int .i64 (e.1 : Nat))
        have ownx := ownsRow_setCell_other (a := ⟨rb, 6, none⟩) own (own_kind_ne own ds.q (by decide)) (.int .i64 (e.1 : Nat))
        clear ds own
        refine Lib.hid ?_
        go_wp2_with (go_at_call 42; refine (Ff.out _ _ dsx.rd).mono ?_; rintro e' w4f ⟨rfl, rd, g1⟩; refine Hid.out ?_)
        have ds : DS w w.heap.size px rb f.2 #[.int .i64 (k.1 : Nat), .slice Ta Tn Tc, .int .i64 (a.1 : Nat), .int .i64 (b1.1 : Nat), .int .i64 (c.1 : Nat), .int .i64 (d.1 : Nat), .int .i64 (e.1 : Nat), .int .i64 0, .int .i64 0, .slice none 0 0, .int .i64 0, .int .i64 0, .int .i64 0] w4f := dsx.call g1 rd
        have own := ownx.kept g1 (.inr (own_kind_ne ownx dsx.rd (by decide)))
        clear dsx rd g1 ownx y6 f6
        have y7 := cellsAt ds.q 7
        simp only [List.getElem?_toArray, List.getElem?_cons_zero, List.getElem?_cons_succ] at y7
        have f7 := frozenAt ds.q 7
        have dsx := ds.set 7 (.int .i64 (f.1 : Nat))
        have ownx := ownsRow_setCell_other (a := ⟨rb, 7, none⟩) own (own_kind_ne own ds.q (by decide)) (.int .i64 (f.1 : Nat))
        clear ds own
        refine Lib.hid ?_
        go_wp2_with (go_at_call 42; refine (Fg.out _ _ dsx.rd).mono ?_; rintro e' w4g ⟨rfl, rd, g1⟩; refine Hid.out ?_)
        have ds : DS w w.heap.size px rb g.2 #[.int .i64 (k.1 : Nat), .slice Ta Tn Tc, .int .i64 (a.1 : Nat), .int .i64 (b1.1 : Nat), .int .i64 (c.1 : Nat), .int .i64 (d.1 : Nat), .int .i64 (e.1 : Nat), .int .i64 (f.1 : Nat), .int .i64 0, .slice none 0 0, .int .i64 0, .int .i64 0, .int .i64 0] w4g := dsx.call g1 rd
        have own := ownx.kept g1 (.inr (own_kind_ne ownx dsx.rd (by decide)))
        clear dsx rd g1 ownx y7 f7
        have y8 := cellsAt ds.q 8
        simp only [List.getElem?_toArray, List.getElem?_cons_zero, List.getElem?_cons_succ] at y8
        have f8 := frozenAt ds.q 8
        have dsx := ds.set 8 (.int .i64 (g.1 : Nat))
        have ownx := ownsRow_setCell_other (a := ⟨rb, 8, none⟩) own (own_kind_ne own ds.q (by decide)) (.int .i64 (g.1 : Nat))
        clear ds own
        refine Lib.hid ?_
        go_wp2_with (go_at_call 42; refine (Fm.out _ _ dsx.rd).mono ?_; rintro e' w4m ⟨rfl, rd, g1⟩; refine Hid.out ?_)
        have ds : DS w w.heap.size px rb m.2 #[.int .i64 (k.1 : Nat), .slice Ta Tn Tc, .int .i64 (a.1 : Nat), .int .i64 (b1.1 : Nat), .int .i64 (c.1 : Nat), .int .i64 (d.1 : Nat), .int .i64 (e.1 : Nat), .int .i64 (f.1 : Nat), .int .i64 (g.1 : Nat), .slice none 0 0, .int .i64 0, .int .i64 0, .int .i64 0] w4m := dsx.call g1 rd
        have own := ownx.kept g1 (.inr (own_kind_ne ownx dsx.rd (by decide)))
        clear dsx rd g1 ownx y8 f8
        have ds2 := ds
        have own2 := own
        clear ds own
        refine Lib.hid ?_
        go_wp2
        go_loopw [9] (fun is wr => ∃ (j : Nat) (l : List UInt8) (acc : List Nm) (N : Value), is = .int .i64 (j : Int) ∧ j ≤ min m.1 21 ∧ acc.length = j ∧ l.length ≤ 9223372036854775807 ∧ DS w w.heap.size px rb l #[.int .i64 (k.1 : Nat), .slice Ta Tn Tc, .int .i64 (a.1 : Nat), .int .i64 (b1.1 : Nat), .int .i64 (c.1 : Nat), .int .i64 (d.1 : Nat), .int .i64 (e.1 : Nat), .int .i64 (f.1 : Nat), .int .i64 (g.1 : Nat), N, .int .i64 0, .int .i64 0, .int .i64 0] wr ∧ wr.ownsRow w.heap.size 77 3 (.slice Ta Tn Tc) t.1.length (tcells t.1) ∧ wr.ownsRow w.heap.size 79 7 N j (ncells acc) ∧ Hid (acc ++ (rlist rnm (min m.1 21 - j) l).1 = x.1) ∧ Hid ((rlist rnm (min m.1 21 - j) l).2 = x.2)) (fun is _ => min m.1 21 - (intOf is).toNat)
        case atStart => exact ⟨0, m.2, [], .slice none 0 0, rfl, Nat.zero_le _, rfl, by omega, ds2, by rw [ct, ← hjn]; exact own2, World.ownsRow_nil _ _ _ _, by show _ = _; rw [← HX.out]; simp, by show _ = _; rw [← HX.out]; simp⟩
        case round =>
          obtain ⟨j2, l, acc2, N, rfl, hj2, hacc2, hll2, ds, own, onn, H1, H2⟩ := hrel
          clear ds2 own2 HX
          obtain ⟨Na, Nn, Nc, hNe⟩ : ∃ ao n' cap, N = .slice ao n' cap := by
            rcases onn.2 with ⟨hv, _⟩ | ⟨_, _, _, hv, _⟩
            · exact ⟨_, _, _, hv⟩
            · exact ⟨_, _, _, hv⟩
          subst hNe
          by_cases hjlt2 : j2 < min m.1 21
          · obtain ⟨q, hq⟩ : ∃ q, min m.1 21 - j2 = q + 1 := ⟨min m.1 21 - j2 - 1, by omega⟩
            have h1 := H1.out
            have h2 := H2.out
            rw [hq, rlist] at h1 h2
            simp only at h1 h2
            have hq' : min m.1 21 - (j2 + 1) = q := by omega
            rw [← hq'] at h1 h2
            have lp0 := rnum_le 2 l
            have G0 := Lib.hid (NUM.out 2 (by omega) l (by omega))
            obtain ⟨p0, hp0⟩ : ∃ z, rnum 2 l = z := ⟨_, rfl⟩
            rw [hp0] at G0 lp0
            have lp1 := rnum_le 2 p0.2
            have G1 := Lib.hid (NUM.out 2 (by omega) p0.2 (by omega))
            obtain ⟨p1, hp1⟩ : ∃ z, rnum 2 p0.2 = z := ⟨_, rfl⟩
            rw [hp1] at G1 lp1
            have lp2 := rnum_le 2 p1.2
            have G2 := Lib.hid (NUM.out 2 (by omega) p1.2 (by omega))
            obtain ⟨p2, hp2⟩ : ∃ z, rnum 2 p1.2 = z := ⟨_, rfl⟩
            rw [hp2] at G2 lp2
            have lp3 := rnum_le 2 p2.2
            have G3 := Lib.hid (NUM.out 2 (by omega) p2.2 (by omega))
            obtain ⟨p3, hp3⟩ : ∃ z, rnum 2 p2.2 = z := ⟨_, rfl⟩
            rw [hp3] at G3 lp3
            have lp4 := rnum_le 1 p3.2
            have G4 := Lib.hid (NUM.out 1 (by omega) p3.2 (by omega))
            obtain ⟨p4, hp4⟩ : ∃ z, rnum 1 p3.2 = z := ⟨_, rfl⟩
            rw [hp4] at G4 lp4
            have lp5 := rnum_le 1 p4.2
            have G5 := Lib.hid (NUM.out 1 (by omega) p4.2 (by omega))
            obtain ⟨p5, hp5⟩ : ∃ z, rnum 1 p4.2 = z := ⟨_, rfl⟩
            rw [hp5] at G5 lp5
            have lp6 := rnum_le 1 p5.2
            have bp6 := rnum1_lt p5.2
            have G6 := Lib.hid (NUM.out 1 (by omega) p5.2 (by omega))
            obtain ⟨p6, hp6⟩ : ∃ z, rnum 1 p5.2 = z := ⟨_, rfl⟩
            rw [hp6] at G6 lp6 bp6
            have G7 := Lib.hid (fun p w1 h => take36 p p6.1 p6.2 w1 (by omega) (by omega) h)
            have hxx : rnm l = (⟨(p0.1 : Int), (p1.1 : Int), (p2.1 : Int), (p3.1 : Int), (p4.1 : Int), (p5.1 : Int), ⟨(p6.2.take p6.1).toArray⟩⟩, p6.2.drop p6.1) := by unfold rnm; simp only [hp0, hp1, hp2, hp3, hp4, hp5, hp6]
            rw [hxx] at h1 h2
            simp only at h1 h2
            have hdl : (p6.2.drop p6.1).length ≤ p6.2.length := by rw [List.length_drop]; omega
            obtain ⟨l', hl'⟩ : ∃ l', p6.2.drop p6.1 = l' := ⟨_, rfl⟩
            obtain ⟨tx, htx⟩ : ∃ tx : ByteArray, ByteArray.mk (p6.2.take p6.1).toArray = tx := ⟨_, rfl⟩
            rw [hl'] at h1 h2 G7 hdl
            rw [htx] at h1 G7
            have K1 : Hid ((acc2 ++ [⟨(p0.1 : Int), (p1.1 : Int), (p2.1 : Int), (p3.1 : Int), (p4.1 : Int), (p5.1 : Int), tx⟩]) ++ (rlist rnm (min m.1 21 - (j2 + 1)) l').1 = x.1) := by show _ = _; rw [← h1]; simp
            have K2 := Lib.hid h2
            clear hxx h1 h2 H1 H2 hq hq' q hp0 hp1 hp2 hp3 hp4 hp5 hp6 htx hl'
            have ik1 : (j2 : Int) < (m.1 : Int) := by omega
            have ik2 : (j2 : Int) ≤ 20 := by omega
            go_wp2_with (go_at_call 42; refine (G0.out _ _ ds.rd).mono ?_; rintro e' w5 ⟨rfl, rd, g1⟩; refine Hid.out ?_)
            have dsa := ds.call g1 rd
            have owa := own.kept g1 (.inr (own_kind_ne own ds.rd (by decide)))
            have ona := onn.kept g1 (.inr (own_kind_ne onn ds.rd (by decide)))
            have hTb : (Value.slice Ta Tn Tc).ownBlock ≠ some w5.heap.size := by
              intro e
              have q1 := (owa.lt _ e).2
              omega
            have hNb : (Value.slice Na Nn Nc).ownBlock ≠ some w5.heap.size := by
              intro e
              have q1 := (ona.lt _ e).2
              omega
            have tpx : w5.heap.size ≠ px := by
              have q1 := (Array.getElem?_eq_some_iff.1 dsa.rd).1
              omega
            have tpr : w5.heap.size ≠ w.heap.size := by
              have q1 := (Array.getElem?_eq_some_iff.1 dsa.z).1
              omega
            have trb : w5.heap.size ≠ rb := by
              have q1 := (Array.getElem?_eq_some_iff.1 dsa.q).1
              omega
            have tge : w.heap.size ≤ w5.heap.size := dsa.bw.size
            have tq := allocAt w5 (.cells #[.int .i64 (p0.1 : Nat), .int .i64 0, .int .i64 0, .int .i64 0, .int .i64 0, .int .i64 0, .string ⟨#[]⟩] 79)
            have dsm := dsa.alloc (.cells #[.int .i64 (p0.1 : Nat), .int .i64 0, .int .i64 0, .int .i64 0, .int .i64 0, .int .i64 0, .string ⟨#[]⟩] 79)
            have owm := owa.alloc (.cells #[.int .i64 (p0.1 : Nat), .int .i64 0, .int .i64 0, .int .i64 0, .int .i64 0, .int .i64 0, .string ⟨#[]⟩] 79)
            have onm := ona.alloc (.cells #[.int .i64 (p0.1 : Nat), .int .i64 0, .int .i64 0, .int .i64 0, .int .i64 0, .int .i64 0, .string ⟨#[]⟩] 79)
            clear ds own onn dsa owa ona rd g1 G0
            obtain ⟨tb, htb⟩ : ∃ tb, w5.heap.size = tb := ⟨_, rfl⟩
            rw [htb] at tq hTb hNb tpx tpr trb tge
            refine Lib.hid ?_
            go_wp2_with (go_at_call 42; refine (G1.out _ _ dsm.rd).mono ?_; rintro e' w5a ⟨rfl, rd, g1⟩; refine Hid.out ?_)
            have tq' := grownAt tq g1 tpx
            clear tq
            have s1 := cellsAt tq' 1
            simp only [List.getElem?_toArray, List.getElem?_cons_zero, List.getElem?_cons_succ] at s1
            have sf1 := frozenAt tq' 1
            have ds' := (dsm.call g1 rd).other tb 1 tge tpr tpx trb (.int .i64 (p1.1 : Nat))
            have ow' := ownsRow_setCell_other (a := ⟨tb, 1, none⟩) (owm.kept g1 (.inr (own_kind_ne owm dsm.rd (by decide)))) hTb (.int .i64 (p1.1 : Nat))
            have on' := ownsRow_setCell_other (a := ⟨tb, 1, none⟩) (onm.kept g1 (.inr (own_kind_ne onm dsm.rd (by decide)))) hNb (.int .i64 (p1.1 : Nat))
            have tqn : (w5a.setCell ⟨tb, 1, none⟩ (.int .i64 (p1.1 : Nat))).heap[tb]? = some (.cells #[.int .i64 (p0.1 : Nat), .int .i64 (p1.1 : Nat), .int .i64 0, .int .i64 0, .int .i64 0, .int .i64 0, .string ⟨#[]⟩] 79 (0, 0)) := setCell_row tq' _
            clear dsm owm onm rd g1 G1 tq'
            have dsm := ds'
            have owm := ow'
            have onm := on'
            have tq := tqn
            clear ds' ow' on' tqn
            clear htb
            refine Lib.hid ?_
            go_wp2_with (go_at_call 42; refine (G2.out _ _ dsm.rd).mono ?_; rintro e' w5b ⟨rfl, rd, g1⟩; refine Hid.out ?_)
            have tq' := grownAt tq g1 tpx
            clear tq s1 sf1
            have s2 := cellsAt tq' 2
            simp only [List.getElem?_toArray, List.getElem?_cons_zero, List.getElem?_cons_succ] at s2
            have sf2 := frozenAt tq' 2
            have ds' := (dsm.call g1 rd).other tb 2 tge tpr tpx trb (.int .i64 (p2.1 : Nat))
            have ow' := ownsRow_setCell_other (a := ⟨tb, 2, none⟩) (owm.kept g1 (.inr (own_kind_ne owm dsm.rd (by decide)))) hTb (.int .i64 (p2.1 : Nat))
            have on' := ownsRow_setCell_other (a := ⟨tb, 2, none⟩) (onm.kept g1 (.inr (own_kind_ne onm dsm.rd (by decide)))) hNb (.int .i64 (p2.1 : Nat))
            have tqn : (w5b.setCell ⟨tb, 2, none⟩ (.int .i64 (p2.1 : Nat))).heap[tb]? = some (.cells #[.int .i64 (p0.1 : Nat), .int .i64 (p1.1 : Nat), .int .i64 (p2.1 : Nat), .int .i64 0, .int .i64 0, .int .i64 0, .string ⟨#[]⟩] 79 (0, 0)) := setCell_row tq' _
            clear dsm owm onm rd g1 G2 tq'
            have dsm := ds'
            have owm := ow'
            have onm := on'
            have tq := tqn
            clear ds' ow' on' tqn
            refine Lib.hid ?_
            go_wp2_with (go_at_call 42; refine (G3.out _ _ dsm.rd).mono ?_; rintro e' w5c ⟨rfl, rd, g1⟩; refine Hid.out ?_)
            have tq' := grownAt tq g1 tpx
            clear tq s2 sf2
            have s3 := cellsAt tq' 3
            simp only [List.getElem?_toArray, List.getElem?_cons_zero, List.getElem?_cons_succ] at s3
            have sf3 := frozenAt tq' 3
            have ds' := (dsm.call g1 rd).other tb 3 tge tpr tpx trb (.int .i64 (p3.1 : Nat))
            have ow' := ownsRow_setCell_other (a := ⟨tb, 3, none⟩) (owm.kept g1 (.inr (own_kind_ne owm dsm.rd (by decide)))) hTb (.int .i64 (p3.1 : Nat))
            have on' := ownsRow_setCell_other (a := ⟨tb, 3, none⟩) (onm.kept g1 (.inr (own_kind_ne onm dsm.rd (by decide)))) hNb (.int .i64 (p3.1 : Nat))
            have tqn : (w5c.setCell ⟨tb, 3, none⟩ (.int .i64 (p3.1 : Nat))).heap[tb]? = some (.cells #[.int .i64 (p0.1 : Nat), .int .i64 (p1.1 : Nat), .int .i64 (p2.1 : Nat), .int .i64 (p3.1 : Nat), .int .i64 0, .int .i64 0, .string ⟨#[]⟩] 79 (0, 0)) := setCell_row tq' _
            clear dsm owm onm rd g1 G3 tq'
            have dsm := ds'
            have owm := ow'
            have onm := on'
            have tq := tqn
            clear ds' ow' on' tqn
            refine Lib.hid ?_
            go_wp2_with (go_at_call 42; refine (G4.out _ _ dsm.rd).mono ?_; rintro e' w5d ⟨rfl, rd, g1⟩; refine Hid.out ?_)
            have tq' := grownAt tq g1 tpx
            clear tq s3 sf3
            have s4 := cellsAt tq' 4
            simp only [List.getElem?_toArray, List.getElem?_cons_zero, List.getElem?_cons_succ] at s4
            have sf4 := frozenAt tq' 4
            have ds' := (dsm.call g1 rd).other tb 4 tge tpr tpx trb (.int .i64 (p4.1 : Nat))
            have ow' := ownsRow_setCell_other (a := ⟨tb, 4, none⟩) (owm.kept g1 (.inr (own_kind_ne owm dsm.rd (by decide)))) hTb (.int .i64 (p4.1 : Nat))
            have on' := ownsRow_setCell_other (a := ⟨tb, 4, none⟩) (onm.kept g1 (.inr (own_kind_ne onm dsm.rd (by decide)))) hNb (.int .i64 (p4.1 : Nat))
            have tqn : (w5d.setCell ⟨tb, 4, none⟩ (.int .i64 (p4.1 : Nat))).heap[tb]? = some (.cells #[.int .i64 (p0.1 : Nat), .int .i64 (p1.1 : Nat), .int .i64 (p2.1 : Nat), .int .i64 (p3.1 : Nat), .int .i64 (p4.1 : Nat), .int .i64 0, .string ⟨#[]⟩] 79 (0, 0)) := setCell_row tq' _
            clear dsm owm onm rd g1 G4 tq'
            have dsm := ds'
            have owm := ow'
            have onm := on'
            have tq := tqn
            clear ds' ow' on' tqn
            refine Lib.hid ?_
            go_wp2_with (go_at_call 42; refine (G5.out _ _ dsm.rd).mono ?_; rintro e' w5e ⟨rfl, rd, g1⟩; refine Hid.out ?_)
            have tq' := grownAt tq g1 tpx
            clear tq s4 sf4
            have s5 := cellsAt tq' 5
            simp only [List.getElem?_toArray, List.getElem?_cons_zero, List.getElem?_cons_succ] at s5
            have sf5 := frozenAt tq' 5
            have ds' := (dsm.call g1 rd).other tb 5 tge tpr tpx trb (.int .i64 (p5.1 : Nat))
            have ow' := ownsRow_setCell_other (a := ⟨tb, 5, none⟩) (owm.kept g1 (.inr (own_kind_ne owm dsm.rd (by decide)))) hTb (.int .i64 (p5.1 : Nat))
            have on' := ownsRow_setCell_other (a := ⟨tb, 5, none⟩) (onm.kept g1 (.inr (own_kind_ne onm dsm.rd (by decide)))) hNb (.int .i64 (p5.1 : Nat))
            have tqn : (w5e.setCell ⟨tb, 5, none⟩ (.int .i64 (p5.1 : Nat))).heap[tb]? = some (.cells #[.int .i64 (p0.1 : Nat), .int .i64 (p1.1 : Nat), .int .i64 (p2.1 : Nat), .int .i64 (p3.1 : Nat), .int .i64 (p4.1 : Nat), .int .i64 (p5.1 : Nat), .string ⟨#[]⟩] 79 (0, 0)) := setCell_row tq' _
            clear dsm owm onm rd g1 G5 tq'
            have dsm := ds'
            have owm := ow'
            have onm := on'
            have tq := tqn
            clear ds' ow' on' tqn
            refine Lib.hid ?_
            go_wp2_with (go_at_call 42; refine (G6.out _ _ dsm.rd).mono ?_; rintro e' w5f ⟨rfl, rd, g1⟩; refine Hid.out ?_)
            have tq' := grownAt tq g1 tpx
            clear tq s5 sf5
            have ds' := dsm.call g1 rd
            have ow' := owm.kept g1 (.inr (own_kind_ne owm dsm.rd (by decide)))
            have on' := onm.kept g1 (.inr (own_kind_ne onm dsm.rd (by decide)))
            clear dsm owm onm rd g1 G6
            have dsm := ds'
            have owm := ow'
            have onm := on'
            have tq := tq'
            clear ds' ow' on' tq'
            refine Lib.hid ?_
            go_wp2_with (go_at_call 43; refine (G7.out _ _ dsm.rd).mono ?_; rintro e' w5g ⟨rfl, rd, g1⟩; refine Hid.out ?_)
            have tq' := grownAt tq g1 tpx
            clear tq
            have s6 := cellsAt tq' 6
            simp only [List.getElem?_toArray, List.getElem?_cons_zero, List.getElem?_cons_succ] at s6
            have sf6 := frozenAt tq' 6
            have ds' := (dsm.call g1 rd).other tb 6 tge tpr tpx trb (.string tx)
            have ow' := ownsRow_setCell_other (a := ⟨tb, 6, none⟩) (owm.kept g1 (.inr (own_kind_ne owm dsm.rd (by decide)))) hTb (.string tx)
            have on' := ownsRow_setCell_other (a := ⟨tb, 6, none⟩) (onm.kept g1 (.inr (own_kind_ne onm dsm.rd (by decide)))) hNb (.string tx)
            have tqn : (w5g.setCell ⟨tb, 6, none⟩ (.string tx)).heap[tb]? = some (.cells #[.int .i64 (p0.1 : Nat), .int .i64 (p1.1 : Nat), .int .i64 (p2.1 : Nat), .int .i64 (p3.1 : Nat), .int .i64 (p4.1 : Nat), .int .i64 (p5.1 : Nat), .string tx] 79 (0, 0)) := setCell_row tq' _
            clear dsm owm onm rd g1 G7 tq'
            have dsm := ds'
            have owm := ow'
            have onm := on'
            have tq := tqn
            clear ds' ow' on' tqn
            obtain ⟨w6, hw6⟩ : ∃ w6, w5g.setCell ⟨tb, 6, none⟩ (.string tx) = w6 := ⟨_, rfl⟩
            rw [hw6] at dsm owm onm tq
            have qq := dsm.q
            have r0 := cellsAt tq 0
            have r1 := cellsAt tq 1
            have r2 := cellsAt tq 2
            have r3 := cellsAt tq 3
            have r4 := cellsAt tq 4
            have r5 := cellsAt tq 5
            have r6 := cellsAt tq 6
            simp only [List.getElem?_toArray, List.getElem?_cons_zero, List.getElem?_cons_succ] at r0 r1 r2 r3 r4 r5 r6
            have y9 := cellsAt qq 9
            simp only [List.getElem?_toArray, List.getElem?_cons_zero, List.getElem?_cons_succ] at y9
            have fz9 := frozenAt qq 9
            refine Lib.hid ?_
            go_wp2_with (at_builtin; refine wpList_append_own _ rfl _ _ 33 rfl w.heap.size 79 i1 (.agg #[.int .i64 0, .int .i64 0, .int .i64 0, .int .i64 0, .int .i64 0, .int .i64 0, .string ⟨#[]⟩]) 7 64 Tryd.underlying33 hi' hz0' hz1' hz2' rfl (by decide) _ _ _ rfl (onm.alloc _) ⟨w6.heap.size, 0, none⟩ 1 1 (ncells [⟨(p0.1 : Int), (p1.1 : Int), (p2.1 : Int), (p3.1 : Int), (p4.1 : Int), (p5.1 : Int), tx⟩]) rfl rfl (newCells _ _ _) (ncells_one _) (by unfold maxLen; omega) (by omega) (by have := dsm.bw.size; simp; omega) ?_; intro v' w7 hown' hgrow7 hnil7; refine Hid.out ?_)
            have ds6a := dsm.alloc (.cells (ncells [⟨(p0.1 : Int), (p1.1 : Int), (p2.1 : Int), (p3.1 : Int), (p4.1 : Int), (p5.1 : Int), tx⟩]).toArray 79)
            have ow6a := owm.alloc (.cells (ncells [⟨(p0.1 : Int), (p1.1 : Int), (p2.1 : Int), (p3.1 : Int), (p4.1 : Int), (p5.1 : Int), tx⟩]).toArray 79)
            have on6a := onm.alloc (.cells (ncells [⟨(p0.1 : Int), (p1.1 : Int), (p2.1 : Int), (p3.1 : Int), (p4.1 : Int), (p5.1 : Int), tx⟩]).toArray 79)
            have ds7 := ds6a.row hgrow7 (fun kk hk => (on6a.lt kk hk).1) (own_kind_ne on6a ds6a.z (by decide)) (own_kind_ne on6a ds6a.rd (by decide)) (own_kind_ne on6a ds6a.q (by decide))
            have ow7 := ow6a.kept hgrow7 (own_apart ow6a on6a (by decide))
            have on7 : w7.ownsRow w.heap.size 79 7 v' (j2 + 1) (ncells (acc2 ++ [⟨(p0.1 : Int), (p1.1 : Int), (p2.1 : Int), (p3.1 : Int), (p4.1 : Int), (p5.1 : Int), tx⟩])) := by
              rw [ncells_append]
              exact hown'
            clear ds6a ow6a on6a dsm owm onm hown' hgrow7 hnil7 r0 r1 r2 r3 r4 r5 r6 y9 fz9 qq tq s6 sf6 hw6
            obtain ⟨Va, Vn, Vc, hVe⟩ : ∃ ao n' cap, v' = .slice ao n' cap := by
              rcases on7.2 with ⟨hv, _⟩ | ⟨_, _, _, hv, _⟩
              · exact ⟨_, _, _, hv⟩
              · exact ⟨_, _, _, hv⟩
            subst hVe
            have ds8 : DS w w.heap.size px rb l' #[.int .i64 (k.1 : Nat), .slice Ta Tn Tc, .int .i64 (a.1 : Nat), .int .i64 (b1.1 : Nat), .int .i64 (c.1 : Nat), .int .i64 (d.1 : Nat), .int .i64 (e.1 : Nat), .int .i64 (f.1 : Nat), .int .i64 (g.1 : Nat), .slice Va Vn Vc, .int .i64 0, .int .i64 0, .int .i64 0] (w7.setCell ⟨rb, 9, none⟩ (.slice Va Vn Vc)) := ds7.set 9 (.slice Va Vn Vc)
            have ow8 := ownsRow_setCell_other (a := ⟨rb, 9, none⟩) ow7 (own_kind_ne ow7 ds7.q (by decide)) (.slice Va Vn Vc)
            have on8 := ownsRow_setCell_other (a := ⟨rb, 9, none⟩) on7 (own_kind_ne on7 ds7.q (by decide)) (.slice Va Vn Vc)
            have y9 := cellsAt ds7.q 9
            simp only [List.getElem?_toArray, List.getElem?_cons_zero, List.getElem?_cons_succ] at y9
            have fz9 := frozenAt ds7.q 9
            clear ds7 ow7 on7
            refine Lib.hid ?_
            go_wp2
            refine ⟨⟨j2 + 1, l', acc2 ++ [⟨(p0.1 : Int), (p1.1 : Int), (p2.1 : Int), (p3.1 : Int), (p4.1 : Int), (p5.1 : Int), tx⟩], _, by go_num, by omega, by simp [hacc2], by omega, ds8, ow8, on8, K1, K2⟩, by simp [intOf]; omega⟩
          · have hjn2 : j2 = min m.1 21 := by omega
            have h1 := H1.out
            have h2 := H2.out
            rw [← hjn2, Nat.sub_self, rlist] at h1 h2
            simp only [List.append_nil] at h1 h2
            subst h1
            rw [h2] at ds
            clear H1 H2 h2
            have hcond2 : (j2 : Int) < (m.1 : Int) ∧ ¬ ((j2 : Int) ≤ 20) ∨ ¬ ((j2 : Int) < (m.1 : Int)) := by omega
            rcases hcond2 with ⟨z1, z2⟩ | z1
            · have dsx := ds
              have ownx := own
              have onnx := onn
              clear ds own onn
              go_wp2_with (go_at_call 42; refine (Fu.out _ _ dsx.rd).mono ?_; rintro e' w8 ⟨rfl, rd, g1⟩; refine Hid.out ?_)
              have ds : DS w w.heap.size px rb u.2 #[.int .i64 (k.1 : Nat), .slice Ta Tn Tc, .int .i64 (a.1 : Nat), .int .i64 (b1.1 : Nat), .int .i64 (c.1 : Nat), .int .i64 (d.1 : Nat), .int .i64 (e.1 : Nat), .int .i64 (f.1 : Nat), .int .i64 (g.1 : Nat), .slice Na Nn Nc, .int .i64 0, .int .i64 0, .int .i64 0] w8 := dsx.call g1 rd
              have own := ownx.kept g1 (.inr (own_kind_ne ownx dsx.rd (by decide)))
              have onn := onnx.kept g1 (.inr (own_kind_ne onnx dsx.rd (by decide)))
              clear dsx rd g1 ownx onnx
              have y10 := cellsAt ds.q 10
              simp only [List.getElem?_toArray, List.getElem?_cons_zero, List.getElem?_cons_succ] at y10
              have f10 := frozenAt ds.q 10
              have dsx := ds.set 10 (.int .i64 (u.1 : Nat))
              have ownx := ownsRow_setCell_other (a := ⟨rb, 10, none⟩) own (own_kind_ne own ds.q (by decide)) (.int .i64 (u.1 : Nat))
              have onnx := ownsRow_setCell_other (a := ⟨rb, 10, none⟩) onn (own_kind_ne onn ds.q (by decide)) (.int .i64 (u.1 : Nat))
              clear ds own onn
              refine Lib.hid ?_
              go_wp2_with (go_at_call 42; refine (Fv.out _ _ dsx.rd).mono ?_; rintro e' w8v ⟨rfl, rd, g1⟩; refine Hid.out ?_)
              have ds : DS w w.heap.size px rb v.2 #[.int .i64 (k.1 : Nat), .slice Ta Tn Tc, .int .i64 (a.1 : Nat), .int .i64 (b1.1 : Nat), .int .i64 (c.1 : Nat), .int .i64 (d.1 : Nat), .int .i64 (e.1 : Nat), .int .i64 (f.1 : Nat), .int .i64 (g.1 : Nat), .slice Na Nn Nc, .int .i64 (u.1 : Nat), .int .i64 0, .int .i64 0] w8v := dsx.call g1 rd
              have own := ownx.kept g1 (.inr (own_kind_ne ownx dsx.rd (by decide)))
              have onn := onnx.kept g1 (.inr (own_kind_ne onnx dsx.rd (by decide)))
              clear dsx rd g1 ownx onnx y10 f10
              have y11 := cellsAt ds.q 11
              simp only [List.getElem?_toArray, List.getElem?_cons_zero, List.getElem?_cons_succ] at y11
              have f11 := frozenAt ds.q 11
              have dsx := ds.set 11 (.int .i64 (v.1 : Nat))
              have ownx := ownsRow_setCell_other (a := ⟨rb, 11, none⟩) own (own_kind_ne own ds.q (by decide)) (.int .i64 (v.1 : Nat))
              have onnx := ownsRow_setCell_other (a := ⟨rb, 11, none⟩) onn (own_kind_ne onn ds.q (by decide)) (.int .i64 (v.1 : Nat))
              clear ds own onn
              refine Lib.hid ?_
              go_wp2_with (go_at_call 42; refine (Fy.out _ _ dsx.rd).mono ?_; rintro e' w8y ⟨rfl, rd, g1⟩; refine Hid.out ?_)
              have ds : DS w w.heap.size px rb y.2 #[.int .i64 (k.1 : Nat), .slice Ta Tn Tc, .int .i64 (a.1 : Nat), .int .i64 (b1.1 : Nat), .int .i64 (c.1 : Nat), .int .i64 (d.1 : Nat), .int .i64 (e.1 : Nat), .int .i64 (f.1 : Nat), .int .i64 (g.1 : Nat), .slice Na Nn Nc, .int .i64 (u.1 : Nat), .int .i64 (v.1 : Nat), .int .i64 0] w8y := dsx.call g1 rd
              have own := ownx.kept g1 (.inr (own_kind_ne ownx dsx.rd (by decide)))
              have onn := onnx.kept g1 (.inr (own_kind_ne onnx dsx.rd (by decide)))
              clear dsx rd g1 ownx onnx y11 f11
              have y12 := cellsAt ds.q 12
              simp only [List.getElem?_toArray, List.getElem?_cons_zero, List.getElem?_cons_succ] at y12
              have f12 := frozenAt ds.q 12
              have dsx : DS w w.heap.size px rb y.2 #[.int .i64 (k.1 : Nat), .slice Ta Tn Tc, .int .i64 (a.1 : Nat), .int .i64 (b1.1 : Nat), .int .i64 (c.1 : Nat), .int .i64 (d.1 : Nat), .int .i64 (e.1 : Nat), .int .i64 (f.1 : Nat), .int .i64 (g.1 : Nat), .slice Na Nn Nc, .int .i64 (u.1 : Nat), .int .i64 (v.1 : Nat), .int .i64 (y.1 : Nat)] (w8y.setCell ⟨rb, 12, none⟩ (.int .i64 (y.1 : Nat))) := ds.set 12 (.int .i64 (y.1 : Nat))
              have ownx := ownsRow_setCell_other (a := ⟨rb, 12, none⟩) own (own_kind_ne own ds.q (by decide)) (.int .i64 (y.1 : Nat))
              have onnx := ownsRow_setCell_other (a := ⟨rb, 12, none⟩) onn (own_kind_ne onn ds.q (by decide)) (.int .i64 (y.1 : Nat))
              rw [← hacc2] at onnx
              have EN := Lib.hid (encode7 (k.1 : Int) (a.1 : Int) (b1.1 : Int) (c.1 : Int) (d.1 : Int) (e.1 : Int) (f.1 : Int) (g.1 : Int) (u.1 : Int) (v.1 : Int) (y.1 : Int) (.slice Ta Tn Tc) (.slice Na Nn Nc) t.1 x.1 _ (by omega) (by omega) (fun q hq => by have := tx' q hq; omega) (rowOfOwn ownx) (rowOfOwn onnx) r HR.out)
              have c0 := cellsAt dsx.q 0
              have c1 := cellsAt dsx.q 1
              have c2 := cellsAt dsx.q 2
              have c3 := cellsAt dsx.q 3
              have c4 := cellsAt dsx.q 4
              have c5 := cellsAt dsx.q 5
              have c6 := cellsAt dsx.q 6
              have c7 := cellsAt dsx.q 7
              have c8 := cellsAt dsx.q 8
              have c9 := cellsAt dsx.q 9
              have c10 := cellsAt dsx.q 10
              have c11 := cellsAt dsx.q 11
              have c12 := cellsAt dsx.q 12
              simp only [List.getElem?_toArray, List.getElem?_cons_zero, List.getElem?_cons_succ] at c0 c1 c2 c3 c4 c5 c6 c7 c8 c9 c10 c11 c12
              clear ds own onn
              refine Lib.hid ?_
              go_wp2_with (go_at_call 15; refine EN.out.mono ?_; rintro e' w9 ⟨rfl, hb9⟩; refine Hid.out ?_)
              have b9 := dsx.bw.trans (hb9.mono dsx.bw.size)
              have q9 := belowAt' hb9 dsx.q
              have zz9 := belowAt' hb9 dsx.z
              have own9 := ownx.kept (row := none) (grown_below _ hb9) (by cases hv : (Value.slice Ta Tn Tc).ownBlock <;> simp)
              have onn9 := onnx.kept (row := none) (grown_below _ hb9) (by cases hv : (Value.slice Na Nn Nc).ownBlock <;> simp)
              clear dsx ownx onnx hb9 EN y12 f12 c0 c1 c2 c3 c4 c5 c6 c7 c8 c9 c10 c11 c12
              by_cases he9 : r.2 = 0
              · by_cases hs9 : r.1 = b
                · have hr9 : r = (b, 0) := by rw [← hs9, ← he9]
                  subst hr9
                  simp only
                  have tE := own_setAll own9 (own_kind_ne own9 zz9 (by decide)) [.int .i64 (k.1 : Nat), .slice Ta Tn Tc, .int .i64 (a.1 : Nat), .int .i64 (b1.1 : Nat), .int .i64 (c.1 : Nat), .int .i64 (d.1 : Nat), .int .i64 (e.1 : Nat), .int .i64 (f.1 : Nat), .int .i64 (g.1 : Nat), .slice Na Nn Nc, .int .i64 (u.1 : Nat), .int .i64 (v.1 : Nat), .int .i64 (y.1 : Nat)] 0
                  have nE := own_setAll onn9 (own_kind_ne onn9 zz9 (by decide)) [.int .i64 (k.1 : Nat), .slice Ta Tn Tc, .int .i64 (a.1 : Nat), .int .i64 (b1.1 : Nat), .int .i64 (c.1 : Nat), .int .i64 (d.1 : Nat), .int .i64 (e.1 : Nat), .int .i64 (f.1 : Nat), .int .i64 (g.1 : Nat), .slice Na Nn Nc, .int .i64 (u.1 : Nat), .int .i64 (v.1 : Nat), .int .i64 (y.1 : Nat)] 0
                  have GG := Lib.hid (HG.out _ (.slice Ta Tn Tc) (.slice Na Nn Nc) rfl tE nE)
                  have z0 := cellsAt zz9 0
                  have z1 := cellsAt zz9 1
                  have z2 := cellsAt zz9 2
                  have z3 := cellsAt zz9 3
                  have z4 := cellsAt zz9 4
                  have z5 := cellsAt zz9 5
                  have z6 := cellsAt zz9 6
                  have z7 := cellsAt zz9 7
                  have z8 := cellsAt zz9 8
                  have z9 := cellsAt zz9 9
                  have z10 := cellsAt zz9 10
                  have z11 := cellsAt zz9 11
                  have z12 := cellsAt zz9 12
                  simp only [List.getElem?_toArray, List.getElem?_cons_zero, List.getElem?_cons_succ] at z0 z1 z2 z3 z4 z5 z6 z7 z8 z9 z10 z11 z12
                  have f0 := frozenAt zz9 0
                  have f1 := frozenAt zz9 1
                  have f2 := frozenAt zz9 2
                  have f3 := frozenAt zz9 3
                  have f4 := frozenAt zz9 4
                  have f5 := frozenAt zz9 5
                  have f6 := frozenAt zz9 6
                  have f7 := frozenAt zz9 7
                  have f8 := frozenAt zz9 8
                  have f9 := frozenAt zz9 9
                  have f10 := frozenAt zz9 10
                  have f11 := frozenAt zz9 11
                  have f12 := frozenAt zz9 12
                  have c0 := cellsAt q9 0
                  have c1 := cellsAt q9 1
                  have c2 := cellsAt q9 2
                  have c3 := cellsAt q9 3
                  have c4 := cellsAt q9 4
                  have c5 := cellsAt q9 5
                  have c6 := cellsAt q9 6
                  have c7 := cellsAt q9 7
                  have c8 := cellsAt q9 8
                  have c9 := cellsAt q9 9
                  have c10 := cellsAt q9 10
                  have c11 := cellsAt q9 11
                  have c12 := cellsAt q9 12
                  simp only [List.getElem?_toArray, List.getElem?_cons_zero, List.getElem?_cons_succ] at c0 c1 c2 c3 c4 c5 c6 c7 c8 c9 c10 c11 c12
                  clear q9 zz9 HG HB own9 onn9 tE nE
                  refine Lib.hid ?_
                  go_wp2
                  exact bodyPost_ret (v := .tuple #[.agg #[.int .i64 (k.1 : Nat), .slice Ta Tn Tc, .int .i64 (a.1 : Nat), .int .i64 (b1.1 : Nat), .int .i64 (c.1 : Nat), .int .i64 (d.1 : Nat), .int .i64 (e.1 : Nat), .int .i64 (f.1 : Nat), .int .i64 (g.1 : Nat), .slice Na Nn Nc, .int .i64 (u.1 : Nat), .int .i64 (v.1 : Nat), .int .i64 (y.1 : Nat)], .int .i64 0]) (by simp [results, Tryd.results18, go_sem, z0, z1, z2, z3, z4, z5, z6, z7, z8, z9, z10, z11, z12]) rfl ⟨_, rfl, GG.out, setAll_below (Nat.le_refl _) [.int .i64 (k.1 : Nat), .slice Ta Tn Tc, .int .i64 (a.1 : Nat), .int .i64 (b1.1 : Nat), .int .i64 (c.1 : Nat), .int .i64 (d.1 : Nat), .int .i64 (e.1 : Nat), .int .i64 (f.1 : Nat), .int .i64 (g.1 : Nat), .slice Na Nn Nc, .int .i64 (u.1 : Nat), .int .i64 (v.1 : Nat), .int .i64 (y.1 : Nat)] 0 _ _ b9⟩
                · have hne9 : ¬ r = (b, 0) := fun h => hs9 (by rw [h])
                  have hcmp : ((ByteArray.mk r.1.toArray).toList == (ByteArray.mk b.toArray).toList) = false := by
                    rw [ByteArray.toList_eq, ByteArray.toList_eq, beq_eq_false_iff_ne]
                    intro h
                    exact hs9 (by simpa using h)
                  have hcmp2 : ((ByteArray.mk b.toArray).toList == (ByteArray.mk r.1.toArray).toList) = false := by
                    rw [ByteArray.toList_eq, ByteArray.toList_eq, beq_eq_false_iff_ne]
                    intro h
                    exact hs9 (by simpa using h.symm)
                  obtain ⟨S9, hS9⟩ : ∃ S9 : ByteArray, ByteArray.mk r.1.toArray = S9 := ⟨_, rfl⟩
                  have hcmp3 : ((ByteArray.mk r.1.toArray).toList == b) = false := by
                    rw [ByteArray.toList_eq, beq_eq_false_iff_ne]
                    intro h
                    exact hs9 (by simpa using h)
                  have hcmp4 : (b == (ByteArray.mk r.1.toArray).toList) = false := by
                    rw [ByteArray.toList_eq, beq_eq_false_iff_ne]
                    intro h
                    exact hs9 (by simpa using h.symm)
                  rw [hS9] at hcmp hcmp2 hcmp3 hcmp4
                  rw [hS9, he9]
                  clear hS9
                  have z0 := cellsAt zz9 0
                  have z1 := cellsAt zz9 1
                  have z2 := cellsAt zz9 2
                  have z3 := cellsAt zz9 3
                  have z4 := cellsAt zz9 4
                  have z5 := cellsAt zz9 5
                  have z6 := cellsAt zz9 6
                  have z7 := cellsAt zz9 7
                  have z8 := cellsAt zz9 8
                  have z9 := cellsAt zz9 9
                  have z10 := cellsAt zz9 10
                  have z11 := cellsAt zz9 11
                  have z12 := cellsAt zz9 12
                  simp only [List.getElem?_toArray, List.getElem?_cons_zero, List.getElem?_cons_succ] at z0 z1 z2 z3 z4 z5 z6 z7 z8 z9 z10 z11 z12
                  have f0 := frozenAt zz9 0
                  have f1 := frozenAt zz9 1
                  have f2 := frozenAt zz9 2
                  have f3 := frozenAt zz9 3
                  have f4 := frozenAt zz9 4
                  have f5 := frozenAt zz9 5
                  have f6 := frozenAt zz9 6
                  have f7 := frozenAt zz9 7
                  have f8 := frozenAt zz9 8
                  have f9 := frozenAt zz9 9
                  have f10 := frozenAt zz9 10
                  have f11 := frozenAt zz9 11
                  have f12 := frozenAt zz9 12
                  clear q9 zz9 HG own9 onn9
                  refine Lib.hid ?_
                  go_wp2
                  exact bodyPost_ret (v := .tuple #[zeroR, .int .i64 5]) (by simp [results, Tryd.results18, go_sem, z0, z1, z2, z3, z4, z5, z6, z7, z8, z9, z10, z11, z12, zeroR]) rfl ⟨_, rfl, HB.out _ hne9, setAll_below (Nat.le_refl _) [.int .i64 0, .slice none 0 0, .int .i64 0, .int .i64 0, .int .i64 0, .int .i64 0, .int .i64 0, .int .i64 0, .int .i64 0, .slice none 0 0, .int .i64 0, .int .i64 0, .int .i64 0] 0 _ _ b9⟩
              · have hne9 : ¬ r = (b, 0) := fun h => he9 (by rw [h])
                have hb1 : (r.2 == 0) = false := by simpa using he9
                have hb2 : (r.2 != 0) = true := by simpa using he9
                obtain ⟨S9, hS9⟩ : ∃ S9 : ByteArray, ByteArray.mk r.1.toArray = S9 := ⟨_, rfl⟩
                obtain ⟨X9, hX9⟩ : ∃ X9 : Int, r.2 = X9 := ⟨_, rfl⟩
                rw [hX9] at hb1 hb2
                rw [hS9, hX9]
                clear hS9 hX9 he9
                have z0 := cellsAt zz9 0
                have z1 := cellsAt zz9 1
                have z2 := cellsAt zz9 2
                have z3 := cellsAt zz9 3
                have z4 := cellsAt zz9 4
                have z5 := cellsAt zz9 5
                have z6 := cellsAt zz9 6
                have z7 := cellsAt zz9 7
                have z8 := cellsAt zz9 8
                have z9 := cellsAt zz9 9
                have z10 := cellsAt zz9 10
                have z11 := cellsAt zz9 11
                have z12 := cellsAt zz9 12
                simp only [List.getElem?_toArray, List.getElem?_cons_zero, List.getElem?_cons_succ] at z0 z1 z2 z3 z4 z5 z6 z7 z8 z9 z10 z11 z12
                have f0 := frozenAt zz9 0
                have f1 := frozenAt zz9 1
                have f2 := frozenAt zz9 2
                have f3 := frozenAt zz9 3
                have f4 := frozenAt zz9 4
                have f5 := frozenAt zz9 5
                have f6 := frozenAt zz9 6
                have f7 := frozenAt zz9 7
                have f8 := frozenAt zz9 8
                have f9 := frozenAt zz9 9
                have f10 := frozenAt zz9 10
                have f11 := frozenAt zz9 11
                have f12 := frozenAt zz9 12
                clear q9 zz9 HG own9 onn9
                refine Lib.hid ?_
                go_wp2
                exact bodyPost_ret (v := .tuple #[zeroR, .int .i64 5]) (by simp [results, Tryd.results18, go_sem, z0, z1, z2, z3, z4, z5, z6, z7, z8, z9, z10, z11, z12, zeroR]) rfl ⟨_, rfl, HB.out _ hne9, setAll_below (Nat.le_refl _) [.int .i64 0, .slice none 0 0, .int .i64 0, .int .i64 0, .int .i64 0, .int .i64 0, .int .i64 0, .int .i64 0, .int .i64 0, .slice none 0 0, .int .i64 0, .int .i64 0, .int .i64 0] 0 _ _ b9⟩
            · have dsx := ds
              have ownx := own
              have onnx := onn
              clear ds own onn
              go_wp2_with (go_at_call 42; refine (Fu.out _ _ dsx.rd).mono ?_; rintro e' w8 ⟨rfl, rd, g1⟩; refine Hid.out ?_)
              have ds : DS w w.heap.size px rb u.2 #[.int .i64 (k.1 : Nat), .slice Ta Tn Tc, .int .i64 (a.1 : Nat), .int .i64 (b1.1 : Nat), .int .i64 (c.1 : Nat), .int .i64 (d.1 : Nat), .int .i64 (e.1 : Nat), .int .i64 (f.1 : Nat), .int .i64 (g.1 : Nat), .slice Na Nn Nc, .int .i64 0, .int .i64 0, .int .i64 0] w8 := dsx.call g1 rd
              have own := ownx.kept g1 (.inr (own_kind_ne ownx dsx.rd (by decide)))
              have onn := onnx.kept g1 (.inr (own_kind_ne onnx dsx.rd (by decide)))
              clear dsx rd g1 ownx onnx
              have y10 := cellsAt ds.q 10
              simp only [List.getElem?_toArray, List.getElem?_cons_zero, List.getElem?_cons_succ] at y10
              have f10 := frozenAt ds.q 10
              have dsx := ds.set 10 (.int .i64 (u.1 : Nat))
              have ownx := ownsRow_setCell_other (a := ⟨rb, 10, none⟩) own (own_kind_ne own ds.q (by decide)) (.int .i64 (u.1 : Nat))
              have onnx := ownsRow_setCell_other (a := ⟨rb, 10, none⟩) onn (own_kind_ne onn ds.q (by decide)) (.int .i64 (u.1 : Nat))
              clear ds own onn
              refine Lib.hid ?_
              go_wp2_with (go_at_call 42; refine (Fv.out _ _ dsx.rd).mono ?_; rintro e' w8v ⟨rfl, rd, g1⟩; refine Hid.out ?_)
              have ds : DS w w.heap.size px rb v.2 #[.int .i64 (k.1 : Nat), .slice Ta Tn Tc, .int .i64 (a.1 : Nat), .int .i64 (b1.1 : Nat), .int .i64 (c.1 : Nat), .int .i64 (d.1 : Nat), .int .i64 (e.1 : Nat), .int .i64 (f.1 : Nat), .int .i64 (g.1 : Nat), .slice Na Nn Nc, .int .i64 (u.1 : Nat), .int .i64 0, .int .i64 0] w8v := dsx.call g1 rd
              have own := ownx.kept g1 (.inr (own_kind_ne ownx dsx.rd (by decide)))
              have onn := onnx.kept g1 (.inr (own_kind_ne onnx dsx.rd (by decide)))
              clear dsx rd g1 ownx onnx y10 f10
              have y11 := cellsAt ds.q 11
              simp only [List.getElem?_toArray, List.getElem?_cons_zero, List.getElem?_cons_succ] at y11
              have f11 := frozenAt ds.q 11
              have dsx := ds.set 11 (.int .i64 (v.1 : Nat))
              have ownx := ownsRow_setCell_other (a := ⟨rb, 11, none⟩) own (own_kind_ne own ds.q (by decide)) (.int .i64 (v.1 : Nat))
              have onnx := ownsRow_setCell_other (a := ⟨rb, 11, none⟩) onn (own_kind_ne onn ds.q (by decide)) (.int .i64 (v.1 : Nat))
              clear ds own onn
              refine Lib.hid ?_
              go_wp2_with (go_at_call 42; refine (Fy.out _ _ dsx.rd).mono ?_; rintro e' w8y ⟨rfl, rd, g1⟩; refine Hid.out ?_)
              have ds : DS w w.heap.size px rb y.2 #[.int .i64 (k.1 : Nat), .slice Ta Tn Tc, .int .i64 (a.1 : Nat), .int .i64 (b1.1 : Nat), .int .i64 (c.1 : Nat), .int .i64 (d.1 : Nat), .int .i64 (e.1 : Nat), .int .i64 (f.1 : Nat), .int .i64 (g.1 : Nat), .slice Na Nn Nc, .int .i64 (u.1 : Nat), .int .i64 (v.1 : Nat), .int .i64 0] w8y := dsx.call g1 rd
              have own := ownx.kept g1 (.inr (own_kind_ne ownx dsx.rd (by decide)))
              have onn := onnx.kept g1 (.inr (own_kind_ne onnx dsx.rd (by decide)))
              clear dsx rd g1 ownx onnx y11 f11
              have y12 := cellsAt ds.q 12
              simp only [List.getElem?_toArray, List.getElem?_cons_zero, List.getElem?_cons_succ] at y12
              have f12 := frozenAt ds.q 12
              have dsx : DS w w.heap.size px rb y.2 #[.int .i64 (k.1 : Nat), .slice Ta Tn Tc, .int .i64 (a.1 : Nat), .int .i64 (b1.1 : Nat), .int .i64 (c.1 : Nat), .int .i64 (d.1 : Nat), .int .i64 (e.1 : Nat), .int .i64 (f.1 : Nat), .int .i64 (g.1 : Nat), .slice Na Nn Nc, .int .i64 (u.1 : Nat), .int .i64 (v.1 : Nat), .int .i64 (y.1 : Nat)] (w8y.setCell ⟨rb, 12, none⟩ (.int .i64 (y.1 : Nat))) := ds.set 12 (.int .i64 (y.1 : Nat))
              have ownx := ownsRow_setCell_other (a := ⟨rb, 12, none⟩) own (own_kind_ne own ds.q (by decide)) (.int .i64 (y.1 : Nat))
              have onnx := ownsRow_setCell_other (a := ⟨rb, 12, none⟩) onn (own_kind_ne onn ds.q (by decide)) (.int .i64 (y.1 : Nat))
              rw [← hacc2] at onnx
              have EN := Lib.hid (encode7 (k.1 : Int) (a.1 : Int) (b1.1 : Int) (c.1 : Int) (d.1 : Int) (e.1 : Int) (f.1 : Int) (g.1 : Int) (u.1 : Int) (v.1 : Int) (y.1 : Int) (.slice Ta Tn Tc) (.slice Na Nn Nc) t.1 x.1 _ (by omega) (by omega) (fun q hq => by have := tx' q hq; omega) (rowOfOwn ownx) (rowOfOwn onnx) r HR.out)
              have c0 := cellsAt dsx.q 0
              have c1 := cellsAt dsx.q 1
              have c2 := cellsAt dsx.q 2
              have c3 := cellsAt dsx.q 3
              have c4 := cellsAt dsx.q 4
              have c5 := cellsAt dsx.q 5
              have c6 := cellsAt dsx.q 6
              have c7 := cellsAt dsx.q 7
              have c8 := cellsAt dsx.q 8
              have c9 := cellsAt dsx.q 9
              have c10 := cellsAt dsx.q 10
              have c11 := cellsAt dsx.q 11
              have c12 := cellsAt dsx.q 12
              simp only [List.getElem?_toArray, List.getElem?_cons_zero, List.getElem?_cons_succ] at c0 c1 c2 c3 c4 c5 c6 c7 c8 c9 c10 c11 c12
              clear ds own onn
              refine Lib.hid ?_
              go_wp2_with (go_at_call 15; refine EN.out.mono ?_; rintro e' w9 ⟨rfl, hb9⟩; refine Hid.out ?_)
              have b9 := dsx.bw.trans (hb9.mono dsx.bw.size)
              have q9 := belowAt' hb9 dsx.q
              have zz9 := belowAt' hb9 dsx.z
              have own9 := ownx.kept (row := none) (grown_below _ hb9) (by cases hv : (Value.slice Ta Tn Tc).ownBlock <;> simp)
              have onn9 := onnx.kept (row := none) (grown_below _ hb9) (by cases hv : (Value.slice Na Nn Nc).ownBlock <;> simp)
              clear dsx ownx onnx hb9 EN y12 f12 c0 c1 c2 c3 c4 c5 c6 c7 c8 c9 c10 c11 c12
              by_cases he9 : r.2 = 0
              · by_cases hs9 : r.1 = b
                · have hr9 : r = (b, 0) := by rw [← hs9, ← he9]
                  subst hr9
                  simp only
                  have tE := own_setAll own9 (own_kind_ne own9 zz9 (by decide)) [.int .i64 (k.1 : Nat), .slice Ta Tn Tc, .int .i64 (a.1 : Nat), .int .i64 (b1.1 : Nat), .int .i64 (c.1 : Nat), .int .i64 (d.1 : Nat), .int .i64 (e.1 : Nat), .int .i64 (f.1 : Nat), .int .i64 (g.1 : Nat), .slice Na Nn Nc, .int .i64 (u.1 : Nat), .int .i64 (v.1 : Nat), .int .i64 (y.1 : Nat)] 0
                  have nE := own_setAll onn9 (own_kind_ne onn9 zz9 (by decide)) [.int .i64 (k.1 : Nat), .slice Ta Tn Tc, .int .i64 (a.1 : Nat), .int .i64 (b1.1 : Nat), .int .i64 (c.1 : Nat), .int .i64 (d.1 : Nat), .int .i64 (e.1 : Nat), .int .i64 (f.1 : Nat), .int .i64 (g.1 : Nat), .slice Na Nn Nc, .int .i64 (u.1 : Nat), .int .i64 (v.1 : Nat), .int .i64 (y.1 : Nat)] 0
                  have GG := Lib.hid (HG.out _ (.slice Ta Tn Tc) (.slice Na Nn Nc) rfl tE nE)
                  have z0 := cellsAt zz9 0
                  have z1 := cellsAt zz9 1
                  have z2 := cellsAt zz9 2
                  have z3 := cellsAt zz9 3
                  have z4 := cellsAt zz9 4
                  have z5 := cellsAt zz9 5
                  have z6 := cellsAt zz9 6
                  have z7 := cellsAt zz9 7
                  have z8 := cellsAt zz9 8
                  have z9 := cellsAt zz9 9
                  have z10 := cellsAt zz9 10
                  have z11 := cellsAt zz9 11
                  have z12 := cellsAt zz9 12
                  simp only [List.getElem?_toArray, List.getElem?_cons_zero, List.getElem?_cons_succ] at z0 z1 z2 z3 z4 z5 z6 z7 z8 z9 z10 z11 z12
                  have f0 := frozenAt zz9 0
                  have f1 := frozenAt zz9 1
                  have f2 := frozenAt zz9 2
                  have f3 := frozenAt zz9 3
                  have f4 := frozenAt zz9 4
                  have f5 := frozenAt zz9 5
                  have f6 := frozenAt zz9 6
                  have f7 := frozenAt zz9 7
                  have f8 := frozenAt zz9 8
                  have f9 := frozenAt zz9 9
                  have f10 := frozenAt zz9 10
                  have f11 := frozenAt zz9 11
                  have f12 := frozenAt zz9 12
                  have c0 := cellsAt q9 0
                  have c1 := cellsAt q9 1
                  have c2 := cellsAt q9 2
                  have c3 := cellsAt q9 3
                  have c4 := cellsAt q9 4
                  have c5 := cellsAt q9 5
                  have c6 := cellsAt q9 6
                  have c7 := cellsAt q9 7
                  have c8 := cellsAt q9 8
                  have c9 := cellsAt q9 9
                  have c10 := cellsAt q9 10
                  have c11 := cellsAt q9 11
                  have c12 := cellsAt q9 12
                  simp only [List.getElem?_toArray, List.getElem?_cons_zero, List.getElem?_cons_succ] at c0 c1 c2 c3 c4 c5 c6 c7 c8 c9 c10 c11 c12
                  clear q9 zz9 HG HB own9 onn9 tE nE
                  refine Lib.hid ?_
                  go_wp2
                  exact bodyPost_ret (v := .tuple #[.agg #[.int .i64 (k.1 : Nat), .slice Ta Tn Tc, .int .i64 (a.1 : Nat), .int .i64 (b1.1 : Nat), .int .i64 (c.1 : Nat), .int .i64 (d.1 : Nat), .int .i64 (e.1 : Nat), .int .i64 (f.1 : Nat), .int .i64 (g.1 : Nat), .slice Na Nn Nc, .int .i64 (u.1 : Nat), .int .i64 (v.1 : Nat), .int .i64 (y.1 : Nat)], .int .i64 0]) (by simp [results, Tryd.results18, go_sem, z0, z1, z2, z3, z4, z5, z6, z7, z8, z9, z10, z11, z12]) rfl ⟨_, rfl, GG.out, setAll_below (Nat.le_refl _) [.int .i64 (k.1 : Nat), .slice Ta Tn Tc, .int .i64 (a.1 : Nat), .int .i64 (b1.1 : Nat), .int .i64 (c.1 : Nat), .int .i64 (d.1 : Nat), .int .i64 (e.1 : Nat), .int .i64 (f.1 : Nat), .int .i64 (g.1 : Nat), .slice Na Nn Nc, .int .i64 (u.1 : Nat), .int .i64 (v.1 : Nat), .int .i64 (y.1 : Nat)] 0 _ _ b9⟩
                · have hne9 : ¬ r = (b, 0) := fun h => hs9 (by rw [h])
                  have hcmp : ((ByteArray.mk r.1.toArray).toList == (ByteArray.mk b.toArray).toList) = false := by
                    rw [ByteArray.toList_eq, ByteArray.toList_eq, beq_eq_false_iff_ne]
                    intro h
                    exact hs9 (by simpa using h)
                  have hcmp2 : ((ByteArray.mk b.toArray).toList == (ByteArray.mk r.1.toArray).toList) = false := by
                    rw [ByteArray.toList_eq, ByteArray.toList_eq, beq_eq_false_iff_ne]
                    intro h
                    exact hs9 (by simpa using h.symm)
                  obtain ⟨S9, hS9⟩ : ∃ S9 : ByteArray, ByteArray.mk r.1.toArray = S9 := ⟨_, rfl⟩
                  have hcmp3 : ((ByteArray.mk r.1.toArray).toList == b) = false := by
                    rw [ByteArray.toList_eq, beq_eq_false_iff_ne]
                    intro h
                    exact hs9 (by simpa using h)
                  have hcmp4 : (b == (ByteArray.mk r.1.toArray).toList) = false := by
                    rw [ByteArray.toList_eq, beq_eq_false_iff_ne]
                    intro h
                    exact hs9 (by simpa using h.symm)
                  rw [hS9] at hcmp hcmp2 hcmp3 hcmp4
                  rw [hS9, he9]
                  clear hS9
                  have z0 := cellsAt zz9 0
                  have z1 := cellsAt zz9 1
                  have z2 := cellsAt zz9 2
                  have z3 := cellsAt zz9 3
                  have z4 := cellsAt zz9 4
                  have z5 := cellsAt zz9 5
                  have z6 := cellsAt zz9 6
                  have z7 := cellsAt zz9 7
                  have z8 := cellsAt zz9 8
                  have z9 := cellsAt zz9 9
                  have z10 := cellsAt zz9 10
                  have z11 := cellsAt zz9 11
                  have z12 := cellsAt zz9 12
                  simp only [List.getElem?_toArray, List.getElem?_cons_zero, List.getElem?_cons_succ] at z0 z1 z2 z3 z4 z5 z6 z7 z8 z9 z10 z11 z12
                  have f0 := frozenAt zz9 0
                  have f1 := frozenAt zz9 1
                  have f2 := frozenAt zz9 2
                  have f3 := frozenAt zz9 3
                  have f4 := frozenAt zz9 4
                  have f5 := frozenAt zz9 5
                  have f6 := frozenAt zz9 6
                  have f7 := frozenAt zz9 7
                  have f8 := frozenAt zz9 8
                  have f9 := frozenAt zz9 9
                  have f10 := frozenAt zz9 10
                  have f11 := frozenAt zz9 11
                  have f12 := frozenAt zz9 12
                  clear q9 zz9 HG own9 onn9
                  refine Lib.hid ?_
                  go_wp2
                  exact bodyPost_ret (v := .tuple #[zeroR, .int .i64 5]) (by simp [results, Tryd.results18, go_sem, z0, z1, z2, z3, z4, z5, z6, z7, z8, z9, z10, z11, z12, zeroR]) rfl ⟨_, rfl, HB.out _ hne9, setAll_below (Nat.le_refl _) [.int .i64 0, .slice none 0 0, .int .i64 0, .int .i64 0, .int .i64 0, .int .i64 0, .int .i64 0, .int .i64 0, .int .i64 0, .slice none 0 0, .int .i64 0, .int .i64 0, .int .i64 0] 0 _ _ b9⟩
              · have hne9 : ¬ r = (b, 0) := fun h => he9 (by rw [h])
                have hb1 : (r.2 == 0) = false := by simpa using he9
                have hb2 : (r.2 != 0) = true := by simpa using he9
                obtain ⟨S9, hS9⟩ : ∃ S9 : ByteArray, ByteArray.mk r.1.toArray = S9 := ⟨_, rfl⟩
                obtain ⟨X9, hX9⟩ : ∃ X9 : Int, r.2 = X9 := ⟨_, rfl⟩
                rw [hX9] at hb1 hb2
                rw [hS9, hX9]
                clear hS9 hX9 he9
                have z0 := cellsAt zz9 0
                have z1 := cellsAt zz9 1
                have z2 := cellsAt zz9 2
                have z3 := cellsAt zz9 3
                have z4 := cellsAt zz9 4
                have z5 := cellsAt zz9 5
                have z6 := cellsAt zz9 6
                have z7 := cellsAt zz9 7
                have z8 := cellsAt zz9 8
                have z9 := cellsAt zz9 9
                have z10 := cellsAt zz9 10
                have z11 := cellsAt zz9 11
                have z12 := cellsAt zz9 12
                simp only [List.getElem?_toArray, List.getElem?_cons_zero, List.getElem?_cons_succ] at z0 z1 z2 z3 z4 z5 z6 z7 z8 z9 z10 z11 z12
                have f0 := frozenAt zz9 0
                have f1 := frozenAt zz9 1
                have f2 := frozenAt zz9 2
                have f3 := frozenAt zz9 3
                have f4 := frozenAt zz9 4
                have f5 := frozenAt zz9 5
                have f6 := frozenAt zz9 6
                have f7 := frozenAt zz9 7
                have f8 := frozenAt zz9 8
                have f9 := frozenAt zz9 9
                have f10 := frozenAt zz9 10
                have f11 := frozenAt zz9 11
                have f12 := frozenAt zz9 12
                clear q9 zz9 HG own9 onn9
                refine Lib.hid ?_
                go_wp2
                exact bodyPost_ret (v := .tuple #[zeroR, .int .i64 5]) (by simp [results, Tryd.results18, go_sem, z0, z1, z2, z3, z4, z5, z6, z7, z8, z9, z10, z11, z12, zeroR]) rfl ⟨_, rfl, HB.out _ hne9, setAll_below (Nat.le_refl _) [.int .i64 0, .slice none 0 0, .int .i64 0, .int .i64 0, .int .i64 0, .int .i64 0, .int .i64 0, .int .i64 0, .int .i64 0, .slice none 0 0, .int .i64 0, .int .i64 0, .int .i64 0] 0 _ _ b9⟩
      · have dsx := ds
        have ownx := own
        clear ds own
        go_wp2_with (go_at_call 42; refine (Fa.out _ _ dsx.rd).mono ?_; rintro e' w3 ⟨rfl, rd, g1⟩; refine Hid.out ?_)
        have ds : DS w w.heap.size px rb a.2 #[.int .i64 (k.1 : Nat), .slice Ta Tn Tc, .int .i64 0, .int .i64 0, .int .i64 0, .int .i64 0, .int .i64 0, .int .i64 0, .int .i64 0, .slice none 0 0, .int .i64 0, .int .i64 0, .int .i64 0] w3 := dsx.call g1 rd
        have own := ownx.kept g1 (.inr (own_kind_ne ownx dsx.rd (by decide)))
        clear dsx rd g1 ownx
        have y2 := cellsAt ds.q 2
        simp only [List.getElem?_toArray, List.getElem?_cons_zero, List.getElem?_cons_succ] at y2
        have f2 := frozenAt ds.q 2
        have dsx := ds.set 2 (.int .i64 (a.1 : Nat))
        have ownx := ownsRow_setCell_other (a := ⟨rb, 2, none⟩) own (own_kind_ne own ds.q (by decide)) (.int .i64 (a.1 : Nat))
        clear ds own
        refine Lib.hid ?_
        go_wp2_with (go_at_call 42; refine (Fb1.out _ _ dsx.rd).mono ?_; rintro e' w4b1 ⟨rfl, rd, g1⟩; refine Hid.out ?_)
        have ds : DS w w.heap.size px rb b1.2 #[.int .i64 (k.1 : Nat), .slice Ta Tn Tc, .int .i64 (a.1 : Nat), .int .i64 0, .int .i64 0, .int .i64 0, .int .i64 0, .int .i64 0, .int .i64 0, .slice none 0 0, .int .i64 0, .int .i64 0, .int .i64 0] w4b1 := dsx.call g1 rd
        have own := ownx.kept g1 (.inr (own_kind_ne ownx dsx.rd (by decide)))
        clear dsx rd g1 ownx y2 f2
        have y3 := cellsAt ds.q 3
        simp only [List.getElem?_toArray, List.getElem?_cons_zero, List.getElem?_cons_succ] at y3
        have f3 := frozenAt ds.q 3
        have dsx := ds.set 3 (.int .i64 (b1.1 : Nat))
        have ownx := ownsRow_setCell_other (a := ⟨rb, 3, none⟩) own (own_kind_ne own ds.q (by decide)) (.int .i64 (b1.1 : Nat))
        clear ds own
        refine Lib.hid ?_
        go_wp2_with (go_at_call 42; refine (Fc.out _ _ dsx.rd).mono ?_; rintro e' w4c ⟨rfl, rd, g1⟩; refine Hid.out ?_)
        have ds : DS w w.heap.size px rb c.2 #[.int .i64 (k.1 : Nat), .slice Ta Tn Tc, .int .i64 (a.1 : Nat), .int .i64 (b1.1 : Nat), .int .i64 0, .int .i64 0, .int .i64 0, .int .i64 0, .int .i64 0, .slice none 0 0, .int .i64 0, .int .i64 0, .int .i64 0] w4c := dsx.call g1 rd
        have own := ownx.kept g1 (.inr (own_kind_ne ownx dsx.rd (by decide)))
        clear dsx rd g1 ownx y3 f3
        have y4 := cellsAt ds.q 4
        simp only [List.getElem?_toArray, List.getElem?_cons_zero, List.getElem?_cons_succ] at y4
        have f4 := frozenAt ds.q 4
        have dsx := ds.set 4 (.int .i64 (c.1 : Nat))
        have ownx := ownsRow_setCell_other (a := ⟨rb, 4, none⟩) own (own_kind_ne own ds.q (by decide)) (.int .i64 (c.1 : Nat))
        clear ds own
        refine Lib.hid ?_
        go_wp2_with (go_at_call 42; refine (Fd.out _ _ dsx.rd).mono ?_; rintro e' w4d ⟨rfl, rd, g1⟩; refine Hid.out ?_)
        have ds : DS w w.heap.size px rb d.2 #[.int .i64 (k.1 : Nat), .slice Ta Tn Tc, .int .i64 (a.1 : Nat), .int .i64 (b1.1 : Nat), .int .i64 (c.1 : Nat), .int .i64 0, .int .i64 0, .int .i64 0, .int .i64 0, .slice none 0 0, .int .i64 0, .int .i64 0, .int .i64 0] w4d := dsx.call g1 rd
        have own := ownx.kept g1 (.inr (own_kind_ne ownx dsx.rd (by decide)))
        clear dsx rd g1 ownx y4 f4
        have y5 := cellsAt ds.q 5
        simp only [List.getElem?_toArray, List.getElem?_cons_zero, List.getElem?_cons_succ] at y5
        have f5 := frozenAt ds.q 5
        have dsx := ds.set 5 (.int .i64 (d.1 : Nat))
        have ownx := ownsRow_setCell_other (a := ⟨rb, 5, none⟩) own (own_kind_ne own ds.q (by decide)) (.int .i64 (d.1 : Nat))
        clear ds own
        refine Lib.hid ?_
        go_wp2_with (go_at_call 42; refine (Fe.out _ _ dsx.rd).mono ?_; rintro e' w4e ⟨rfl, rd, g1⟩; refine Hid.out ?_)
        have ds : DS w w.heap.size px rb e.2 #[.int .i64 (k.1 : Nat), .slice Ta Tn Tc, .int .i64 (a.1 : Nat), .int .i64 (b1.1 : Nat), .int .i64 (c.1 : Nat), .int .i64 (d.1 : Nat), .int .i64 0, .int .i64 0, .int .i64 0, .slice none 0 0, .int .i64 0, .int .i64 0, .int .i64 0] w4e := dsx.call g1 rd
        have own := ownx.kept g1 (.inr (own_kind_ne ownx dsx.rd (by decide)))
        clear dsx rd g1 ownx y5 f5
        have y6 := cellsAt ds.q 6
        simp only [List.getElem?_toArray, List.getElem?_cons_zero, List.getElem?_cons_succ] at y6
        have f6 := frozenAt ds.q 6
        have dsx := ds.set 6 (.int .i64 (e.1 : Nat))
        have ownx := ownsRow_setCell_other (a := ⟨rb, 6, none⟩) own (own_kind_ne own ds.q (by decide)) (.int .i64 (e.1 : Nat))
        clear ds own
        refine Lib.hid ?_
        go_wp2_with (go_at_call 42; refine (Ff.out _ _ dsx.rd).mono ?_; rintro e' w4f ⟨rfl, rd, g1⟩; refine Hid.out ?_)
        have ds : DS w w.heap.size px rb f.2 #[.int .i64 (k.1 : Nat), .slice Ta Tn Tc, .int .i64 (a.1 : Nat), .int .i64 (b1.1 : Nat), .int .i64 (c.1 : Nat), .int .i64 (d.1 : Nat), .int .i64 (e.1 : Nat), .int .i64 0, .int .i64 0, .slice none 0 0, .int .i64 0, .int .i64 0, .int .i64 0] w4f := dsx.call g1 rd
        have own := ownx.kept g1 (.inr (own_kind_ne ownx dsx.rd (by decide)))
        clear dsx rd g1 ownx y6 f6
        have y7 := cellsAt ds.q 7
        simp only [List.getElem?_toArray, List.getElem?_cons_zero, List.getElem?_cons_succ] at y7
        have f7 := frozenAt ds.q 7
        have dsx := ds.set 7 (.int .i64 (f.1 : Nat))
        have ownx := ownsRow_setCell_other (a := ⟨rb, 7, none⟩) own (own_kind_ne own ds.q (by decide)) (.int .i64 (f.1 : Nat))
        clear ds own
        refine Lib.hid ?_
        go_wp2_with (go_at_call 42; refine (Fg.out _ _ dsx.rd).mono ?_; rintro e' w4g ⟨rfl, rd, g1⟩; refine Hid.out ?_)
        have ds : DS w w.heap.size px rb g.2 #[.int .i64 (k.1 : Nat), .slice Ta Tn Tc, .int .i64 (a.1 : Nat), .int .i64 (b1.1 : Nat), .int .i64 (c.1 : Nat), .int .i64 (d.1 : Nat), .int .i64 (e.1 : Nat), .int .i64 (f.1 : Nat), .int .i64 0, .slice none 0 0, .int .i64 0, .int .i64 0, .int .i64 0] w4g := dsx.call g1 rd
        have own := ownx.kept g1 (.inr (own_kind_ne ownx dsx.rd (by decide)))
        clear dsx rd g1 ownx y7 f7
        have y8 := cellsAt ds.q 8
        simp only [List.getElem?_toArray, List.getElem?_cons_zero, List.getElem?_cons_succ] at y8
        have f8 := frozenAt ds.q 8
        have dsx := ds.set 8 (.int .i64 (g.1 : Nat))
        have ownx := ownsRow_setCell_other (a := ⟨rb, 8, none⟩) own (own_kind_ne own ds.q (by decide)) (.int .i64 (g.1 : Nat))
        clear ds own
        refine Lib.hid ?_
        go_wp2_with (go_at_call 42; refine (Fm.out _ _ dsx.rd).mono ?_; rintro e' w4m ⟨rfl, rd, g1⟩; refine Hid.out ?_)
        have ds : DS w w.heap.size px rb m.2 #[.int .i64 (k.1 : Nat), .slice Ta Tn Tc, .int .i64 (a.1 : Nat), .int .i64 (b1.1 : Nat), .int .i64 (c.1 : Nat), .int .i64 (d.1 : Nat), .int .i64 (e.1 : Nat), .int .i64 (f.1 : Nat), .int .i64 (g.1 : Nat), .slice none 0 0, .int .i64 0, .int .i64 0, .int .i64 0] w4m := dsx.call g1 rd
        have own := ownx.kept g1 (.inr (own_kind_ne ownx dsx.rd (by decide)))
        clear dsx rd g1 ownx y8 f8
        have ds2 := ds
        have own2 := own
        clear ds own
        refine Lib.hid ?_
        go_wp2
        go_loopw [9] (fun is wr => ∃ (j : Nat) (l : List UInt8) (acc : List Nm) (N : Value), is = .int .i64 (j : Int) ∧ j ≤ min m.1 21 ∧ acc.length = j ∧ l.length ≤ 9223372036854775807 ∧ DS w w.heap.size px rb l #[.int .i64 (k.1 : Nat), .slice Ta Tn Tc, .int .i64 (a.1 : Nat), .int .i64 (b1.1 : Nat), .int .i64 (c.1 : Nat), .int .i64 (d.1 : Nat), .int .i64 (e.1 : Nat), .int .i64 (f.1 : Nat), .int .i64 (g.1 : Nat), N, .int .i64 0, .int .i64 0, .int .i64 0] wr ∧ wr.ownsRow w.heap.size 77 3 (.slice Ta Tn Tc) t.1.length (tcells t.1) ∧ wr.ownsRow w.heap.size 79 7 N j (ncells acc) ∧ Hid (acc ++ (rlist rnm (min m.1 21 - j) l).1 = x.1) ∧ Hid ((rlist rnm (min m.1 21 - j) l).2 = x.2)) (fun is _ => min m.1 21 - (intOf is).toNat)
        case atStart => exact ⟨0, m.2, [], .slice none 0 0, rfl, Nat.zero_le _, rfl, by omega, ds2, by rw [ct, ← hjn]; exact own2, World.ownsRow_nil _ _ _ _, by show _ = _; rw [← HX.out]; simp, by show _ = _; rw [← HX.out]; simp⟩
        case round =>
          obtain ⟨j2, l, acc2, N, rfl, hj2, hacc2, hll2, ds, own, onn, H1, H2⟩ := hrel
          clear ds2 own2 HX
          obtain ⟨Na, Nn, Nc, hNe⟩ : ∃ ao n' cap, N = .slice ao n' cap := by
            rcases onn.2 with ⟨hv, _⟩ | ⟨_, _, _, hv, _⟩
            · exact ⟨_, _, _, hv⟩
            · exact ⟨_, _, _, hv⟩
          subst hNe
          by_cases hjlt2 : j2 < min m.1 21
          · obtain ⟨q, hq⟩ : ∃ q, min m.1 21 - j2 = q + 1 := ⟨min m.1 21 - j2 - 1, by omega⟩
            have h1 := H1.out
            have h2 := H2.out
            rw [hq, rlist] at h1 h2
            simp only at h1 h2
            have hq' : min m.1 21 - (j2 + 1) = q := by omega
            rw [← hq'] at h1 h2
            have lp0 := rnum_le 2 l
            have G0 := Lib.hid (NUM.out 2 (by omega) l (by omega))
            obtain ⟨p0, hp0⟩ : ∃ z, rnum 2 l = z := ⟨_, rfl⟩
            rw [hp0] at G0 lp0
            have lp1 := rnum_le 2 p0.2
            have G1 := Lib.hid (NUM.out 2 (by omega) p0.2 (by omega))
            obtain ⟨p1, hp1⟩ : ∃ z, rnum 2 p0.2 = z := ⟨_, rfl⟩
            rw [hp1] at G1 lp1
            have lp2 := rnum_le 2 p1.2
            have G2 := Lib.hid (NUM.out 2 (by omega) p1.2 (by omega))
            obtain ⟨p2, hp2⟩ : ∃ z, rnum 2 p1.2 = z := ⟨_, rfl⟩
            rw [hp2] at G2 lp2
            have lp3 := rnum_le 2 p2.2
            have G3 := Lib.hid (NUM.out 2 (by omega) p2.2 (by omega))
            obtain ⟨p3, hp3⟩ : ∃ z, rnum 2 p2.2 = z := ⟨_, rfl⟩
            rw [hp3] at G3 lp3
            have lp4 := rnum_le 1 p3.2
            have G4 := Lib.hid (NUM.out 1 (by omega) p3.2 (by omega))
            obtain ⟨p4, hp4⟩ : ∃ z, rnum 1 p3.2 = z := ⟨_, rfl⟩
            rw [hp4] at G4 lp4
            have lp5 := rnum_le 1 p4.2
            have G5 := Lib.hid (NUM.out 1 (by omega) p4.2 (by omega))
            obtain ⟨p5, hp5⟩ : ∃ z, rnum 1 p4.2 = z := ⟨_, rfl⟩
            rw [hp5] at G5 lp5
            have lp6 := rnum_le 1 p5.2
            have bp6 := rnum1_lt p5.2
            have G6 := Lib.hid (NUM.out 1 (by omega) p5.2 (by omega))
            obtain ⟨p6, hp6⟩ : ∃ z, rnum 1 p5.2 = z := ⟨_, rfl⟩
            rw [hp6] at G6 lp6 bp6
            have G7 := Lib.hid (fun p w1 h => take36 p p6.1 p6.2 w1 (by omega) (by omega) h)
            have hxx : rnm l = (⟨(p0.1 : Int), (p1.1 : Int), (p2.1 : Int), (p3.1 : Int), (p4.1 : Int), (p5.1 : Int), ⟨(p6.2.take p6.1).toArray⟩⟩, p6.2.drop p6.1) := by unfold rnm; simp only [hp0, hp1, hp2, hp3, hp4, hp5, hp6]
            rw [hxx] at h1 h2
            simp only at h1 h2
            have hdl : (p6.2.drop p6.1).length ≤ p6.2.length := by rw [List.length_drop]; omega
            obtain ⟨l', hl'⟩ : ∃ l', p6.2.drop p6.1 = l' := ⟨_, rfl⟩
            obtain ⟨tx, htx⟩ : ∃ tx : ByteArray, ByteArray.mk (p6.2.take p6.1).toArray = tx := ⟨_, rfl⟩
            rw [hl'] at h1 h2 G7 hdl
            rw [htx] at h1 G7
            have K1 : Hid ((acc2 ++ [⟨(p0.1 : Int), (p1.1 : Int), (p2.1 : Int), (p3.1 : Int), (p4.1 : Int), (p5.1 : Int), tx⟩]) ++ (rlist rnm (min m.1 21 - (j2 + 1)) l').1 = x.1) := by show _ = _; rw [← h1]; simp
            have K2 := Lib.hid h2
            clear hxx h1 h2 H1 H2 hq hq' q hp0 hp1 hp2 hp3 hp4 hp5 hp6 htx hl'
            have ik1 : (j2 : Int) < (m.1 : Int) := by omega
            have ik2 : (j2 : Int) ≤ 20 := by omega
            go_wp2_with (go_at_call 42; refine (G0.out _ _ ds.rd).mono ?_; rintro e' w5 ⟨rfl, rd, g1⟩; refine Hid.out ?_)
            have dsa := ds.call g1 rd
            have owa := own.kept g1 (.inr (own_kind_ne own ds.rd (by decide)))
            have ona := onn.kept g1 (.inr (own_kind_ne onn ds.rd (by decide)))
            have hTb : (Value.slice Ta Tn Tc).ownBlock ≠ some w5.heap.size := by
              intro e
              have q1 := (owa.lt _ e).2
              omega
            have hNb : (Value.slice Na Nn Nc).ownBlock ≠ some w5.heap.size := by
              intro e
              have q1 := (ona.lt _ e).2
              omega
            have tpx : w5.heap.size ≠ px := by
              have q1 := (Array.getElem?_eq_some_iff.1 dsa.rd).1
              omega
            have tpr : w5.heap.size ≠ w.heap.size := by
              have q1 := (Array.getElem?_eq_some_iff.1 dsa.z).1
              omega
            have trb : w5.heap.size ≠ rb := by
              have q1 := (Array.getElem?_eq_some_iff.1 dsa.q).1
              omega
            have tge : w.heap.size ≤ w5.heap.size := dsa.bw.size
            have tq := allocAt w5 (.cells #[.int .i64 (p0.1 : Nat), .int .i64 0, .int .i64 0, .int .i64 0, .int .i64 0, .int .i64 0, .string ⟨#[]⟩] 79)
            have dsm := dsa.alloc (.cells #[.int .i64 (p0.1 : Nat), .int .i64 0, .int .i64 0, .int .i64 0, .int .i64 0, .int .i64 0, .string ⟨#[]⟩] 79)
            have owm := owa.alloc (.cells #[.int .i64 (p0.1 : Nat), .int .i64 0, .int .i64 0, .int .i64 0, .int .i64 0, .int .i64 0, .string ⟨#[]⟩] 79)
            have onm := ona.alloc (.cells #[.int .i64 (p0.1 : Nat), .int .i64 0, .int .i64 0, .int .i64 0, .int .i64 0, .int .i64 0, .string ⟨#[]⟩] 79)
            clear ds own onn dsa owa ona rd g1 G0
            obtain ⟨tb, htb⟩ : ∃ tb, w5.heap.size = tb := ⟨_, rfl⟩
            rw [htb] at tq hTb hNb tpx tpr trb tge
            refine Lib.hid ?_
            go_wp2_with (go_at_call 42; refine (G1.out _ _ dsm.rd).mono ?_; rintro e' w5a ⟨rfl, rd, g1⟩; refine Hid.out ?_)
            have tq' := grownAt tq g1 tpx
            clear tq
            have s1 := cellsAt tq' 1
            simp only [List.getElem?_toArray, List.getElem?_cons_zero, List.getElem?_cons_succ] at s1
            have sf1 := frozenAt tq' 1
            have ds' := (dsm.call g1 rd).other tb 1 tge tpr tpx trb (.int .i64 (p1.1 : Nat))
            have ow' := ownsRow_setCell_other (a := ⟨tb, 1, none⟩) (owm.kept g1 (.inr (own_kind_ne owm dsm.rd (by decide)))) hTb (.int .i64 (p1.1 : Nat))
            have on' := ownsRow_setCell_other (a := ⟨tb, 1, none⟩) (onm.kept g1 (.inr (own_kind_ne onm dsm.rd (by decide)))) hNb (.int .i64 (p1.1 : Nat))
            have tqn : (w5a.setCell ⟨tb, 1, none⟩ (.int .i64 (p1.1 : Nat))).heap[tb]? = some (.cells #[.int .i64 (p0.1 : Nat), .int .i64 (p1.1 : Nat), .int .i64 0, .int .i64 0, .int .i64 0, .int .i64 0, .string ⟨#[]⟩] 79 (0, 0)) := setCell_row tq' _
            clear dsm owm onm rd g1 G1 tq'
            have dsm := ds'
            have owm := ow'
            have onm := on'
            have tq := tqn
            clear ds' ow' on' tqn
            clear htb
            refine Lib.hid ?_
            go_wp2_with (go_at_call 42; refine (G2.out _ _ dsm.rd).mono ?_; rintro e' w5b ⟨rfl, rd, g1⟩; refine Hid.out ?_)
            have tq' := grownAt tq g1 tpx
            clear tq s1 sf1
            have s2 := cellsAt tq' 2
            simp only [List.getElem?_toArray, List.getElem?_cons_zero, List.getElem?_cons_succ] at s2
            have sf2 := frozenAt tq' 2
            have ds' := (dsm.call g1 rd).other tb 2 tge tpr tpx trb (.int .i64 (p2.1 : Nat))
            have ow' := ownsRow_setCell_other (a := ⟨tb, 2, none⟩) (owm.kept g1 (.inr (own_kind_ne owm dsm.rd (by decide)))) hTb (.int .i64 (p2.1 : Nat))
            have on' := ownsRow_setCell_other (a := ⟨tb, 2, none⟩) (onm.kept g1 (.inr (own_kind_ne onm dsm.rd (by decide)))) hNb (.int .i64 (p2.1 : Nat))
            have tqn : (w5b.setCell ⟨tb, 2, none⟩ (.int .i64 (p2.1 : Nat))).heap[tb]? = some (.cells #[.int .i64 (p0.1 : Nat), .int .i64 (p1.1 : Nat), .int .i64 (p2.1 : Nat), .int .i64 0, .int .i64 0, .int .i64 0, .string ⟨#[]⟩] 79 (0, 0)) := setCell_row tq' _
            clear dsm owm onm rd g1 G2 tq'
            have dsm := ds'
            have owm := ow'
            have onm := on'
            have tq := tqn
            clear ds' ow' on' tqn
            refine Lib.hid ?_
            go_wp2_with (go_at_call 42; refine (G3.out _ _ dsm.rd).mono ?_; rintro e' w5c ⟨rfl, rd, g1⟩; refine Hid.out ?_)
            have tq' := grownAt tq g1 tpx
            clear tq s2 sf2
            have s3 := cellsAt tq' 3
            simp only [List.getElem?_toArray, List.getElem?_cons_zero, List.getElem?_cons_succ] at s3
            have sf3 := frozenAt tq' 3
            have ds' := (dsm.call g1 rd).other tb 3 tge tpr tpx trb (.int .i64 (p3.1 : Nat))
            have ow' := ownsRow_setCell_other (a := ⟨tb, 3, none⟩) (owm.kept g1 (.inr (own_kind_ne owm dsm.rd (by decide)))) hTb (.int .i64 (p3.1 : Nat))
            have on' := ownsRow_setCell_other (a := ⟨tb, 3, none⟩) (onm.kept g1 (.inr (own_kind_ne onm dsm.rd (by decide)))) hNb (.int .i64 (p3.1 : Nat))
            have tqn : (w5c.setCell ⟨tb, 3, none⟩ (.int .i64 (p3.1 : Nat))).heap[tb]? = some (.cells #[.int .i64 (p0.1 : Nat), .int .i64 (p1.1 : Nat), .int .i64 (p2.1 : Nat), .int .i64 (p3.1 : Nat), .int .i64 0, .int .i64 0, .string ⟨#[]⟩] 79 (0, 0)) := setCell_row tq' _
            clear dsm owm onm rd g1 G3 tq'
            have dsm := ds'
            have owm := ow'
            have onm := on'
            have tq := tqn
            clear ds' ow' on' tqn
            refine Lib.hid ?_
            go_wp2_with (go_at_call 42; refine (G4.out _ _ dsm.rd).mono ?_; rintro e' w5d ⟨rfl, rd, g1⟩; refine Hid.out ?_)
            have tq' := grownAt tq g1 tpx
            clear tq s3 sf3
            have s4 := cellsAt tq' 4
            simp only [List.getElem?_toArray, List.getElem?_cons_zero, List.getElem?_cons_succ] at s4
            have sf4 := frozenAt tq' 4
            have ds' := (dsm.call g1 rd).other tb 4 tge tpr tpx trb (.int .i64 (p4.1 : Nat))
            have ow' := ownsRow_setCell_other (a := ⟨tb, 4, none⟩) (owm.kept g1 (.inr (own_kind_ne owm dsm.rd (by decide)))) hTb (.int .i64 (p4.1 : Nat))
            have on' := ownsRow_setCell_other (a := ⟨tb, 4, none⟩) (onm.kept g1 (.inr (own_kind_ne onm dsm.rd (by decide)))) hNb (.int .i64 (p4.1 : Nat))
            have tqn : (w5d.setCell ⟨tb, 4, none⟩ (.int .i64 (p4.1 : Nat))).heap[tb]? = some (.cells #[.int .i64 (p0.1 : Nat), .int .i64 (p1.1 : Nat), .int .i64 (p2.1 : Nat), .int .i64 (p3.1 : Nat), .int .i64 (p4.1 : Nat), .int .i64 0, .string ⟨#[]⟩] 79 (0, 0)) := setCell_row tq' _
            clear dsm owm onm rd g1 G4 tq'
            have dsm := ds'
            have owm := ow'
            have onm := on'
            have tq := tqn
            clear ds' ow' on' tqn
            refine Lib.hid ?_
            go_wp2_with (go_at_call 42; refine (G5.out _ _ dsm.rd).mono ?_; rintro e' w5e ⟨rfl, rd, g1⟩; refine Hid.out ?_)
            have tq' := grownAt tq g1 tpx
            clear tq s4 sf4
            have s5 := cellsAt tq' 5
            simp only [List.getElem?_toArray, List.getElem?_cons_zero, List.getElem?_cons_succ] at s5
            have sf5 := frozenAt tq' 5
            have ds' := (dsm.call g1 rd).other tb 5 tge tpr tpx trb (.int .i64 (p5.1 : Nat))
            have ow' := ownsRow_setCell_other (a := ⟨tb, 5, none⟩) (owm.kept g1 (.inr (own_kind_ne owm dsm.rd (by decide)))) hTb (.int .i64 (p5.1 : Nat))
            have on' := ownsRow_setCell_other (a := ⟨tb, 5, none⟩) (onm.kept g1 (.inr (own_kind_ne onm dsm.rd (by decide)))) hNb (.int .i64 (p5.1 : Nat))
            have tqn : (w5e.setCell ⟨tb, 5, none⟩ (.int .i64 (p5.1 : Nat))).heap[tb]? = some (.cells #[.int .i64 (p0.1 : Nat), .int .i64 (p1.1 : Nat), .int .i64 (p2.1 : Nat), .int .i64 (p3.1 : Nat), .int .i64 (p4.1 : Nat), .int .i64 (p5.1 : Nat), .string ⟨#[]⟩] 79 (0, 0)) := setCell_row tq' _
            clear dsm owm onm rd g1 G5 tq'
            have dsm := ds'
            have owm := ow'
            have onm := on'
            have tq := tqn
            clear ds' ow' on' tqn
            refine Lib.hid ?_
            go_wp2_with (go_at_call 42; refine (G6.out _ _ dsm.rd).mono ?_; rintro e' w5f ⟨rfl, rd, g1⟩; refine Hid.out ?_)
            have tq' := grownAt tq g1 tpx
            clear tq s5 sf5
            have ds' := dsm.call g1 rd
            have ow' := owm.kept g1 (.inr (own_kind_ne owm dsm.rd (by decide)))
            have on' := onm.kept g1 (.inr (own_kind_ne onm dsm.rd (by decide)))
            clear dsm owm onm rd g1 G6
            have dsm := ds'
            have owm := ow'
            have onm := on'
            have tq := tq'
            clear ds' ow' on' tq'
            refine Lib.hid ?_
            go_wp2_with (go_at_call 43; refine (G7.out _ _ dsm.rd).mono ?_; rintro e' w5g ⟨rfl, rd, g1⟩; refine Hid.out ?_)
            have tq' := grownAt tq g1 tpx
            clear tq
            have s6 := cellsAt tq' 6
            simp only [List.getElem?_toArray, List.getElem?_cons_zero, List.getElem?_cons_succ] at s6
            have sf6 := frozenAt tq' 6
            have ds' := (dsm.call g1 rd).other tb 6 tge tpr tpx trb (.string tx)
            have ow' := ownsRow_setCell_other (a := ⟨tb, 6, none⟩) (owm.kept g1 (.inr (own_kind_ne owm dsm.rd (by decide)))) hTb (.string tx)
            have on' := ownsRow_setCell_other (a := ⟨tb, 6, none⟩) (onm.kept g1 (.inr (own_kind_ne onm dsm.rd (by decide)))) hNb (.string tx)
            have tqn : (w5g.setCell ⟨tb, 6, none⟩ (.string tx)).heap[tb]? = some (.cells #[.int .i64 (p0.1 : Nat), .int .i64 (p1.1 : Nat), .int .i64 (p2.1 : Nat), .int .i64 (p3.1 : Nat), .int .i64 (p4.1 : Nat), .int .i64 (p5.1 : Nat), .string tx] 79 (0, 0)) := setCell_row tq' _
            clear dsm owm onm rd g1 G7 tq'
            have dsm := ds'
            have owm := ow'
            have onm := on'
            have tq := tqn
            clear ds' ow' on' tqn
            obtain ⟨w6, hw6⟩ : ∃ w6, w5g.setCell ⟨tb, 6, none⟩ (.string tx) = w6 := ⟨_, rfl⟩
            rw [hw6] at dsm owm onm tq
            have qq := dsm.q
            have r0 := cellsAt tq 0
            have r1 := cellsAt tq 1
            have r2 := cellsAt tq 2
            have r3 := cellsAt tq 3
            have r4 := cellsAt tq 4
            have r5 := cellsAt tq 5
            have r6 := cellsAt tq 6
            simp only [List.getElem?_toArray, List.getElem?_cons_zero, List.getElem?_cons_succ] at r0 r1 r2 r3 r4 r5 r6
            have y9 := cellsAt qq 9
            simp only [List.getElem?_toArray, List.getElem?_cons_zero, List.getElem?_cons_succ] at y9
            have fz9 := frozenAt qq 9
            refine Lib.hid ?_
            go_wp2_with (at_builtin; refine wpList_append_own _ rfl _ _ 33 rfl w.heap.size 79 i1 (.agg #[.int .i64 0, .int .i64 0, .int .i64 0, .int .i64 0, .int .i64 0, .int .i64 0, .string ⟨#[]⟩]) 7 64 Tryd.underlying33 hi' hz0' hz1' hz2' rfl (by decide) _ _ _ rfl (onm.alloc _) ⟨w6.heap.size, 0, none⟩ 1 1 (ncells [⟨(p0.1 : Int), (p1.1 : Int), (p2.1 : Int), (p3.1 : Int), (p4.1 : Int), (p5.1 : Int), tx⟩]) rfl rfl (newCells _ _ _) (ncells_one _) (by unfold maxLen; omega) (by omega) (by have := dsm.bw.size; simp; omega) ?_; intro v' w7 hown' hgrow7 hnil7; refine Hid.out ?_)
            have ds6a := dsm.alloc (.cells (ncells [⟨(p0.1 : Int), (p1.1 : Int), (p2.1 : Int), (p3.1 : Int), (p4.1 : Int), (p5.1 : Int), tx⟩]).toArray 79)
            have ow6a := owm.alloc (.cells (ncells [⟨(p0.1 : Int), (p1.1 : Int), (p2.1 : Int), (p3.1 : Int), (p4.1 : Int), (p5.1 : Int), tx⟩]).toArray 79)
            have on6a := onm.alloc (.cells (ncells [⟨(p0.1 : Int), (p1.1 : Int), (p2.1 : Int), (p3.1 : Int), (p4.1 : Int), (p5.1 : Int), tx⟩]).toArray 79)
            have ds7 := ds6a.row hgrow7 (fun kk hk => (on6a.lt kk hk).1) (own_kind_ne on6a ds6a.z (by decide)) (own_kind_ne on6a ds6a.rd (by decide)) (own_kind_ne on6a ds6a.q (by decide))
            have ow7 := ow6a.kept hgrow7 (own_apart ow6a on6a (by decide))
            have on7 : w7.ownsRow w.heap.size 79 7 v' (j2 + 1) (ncells (acc2 ++ [⟨(p0.1 : Int), (p1.1 : Int), (p2.1 : Int), (p3.1 : Int), (p4.1 : Int), (p5.1 : Int), tx⟩])) := by
              rw [ncells_append]
              exact hown'
            clear ds6a ow6a on6a dsm owm onm hown' hgrow7 hnil7 r0 r1 r2 r3 r4 r5 r6 y9 fz9 qq tq s6 sf6 hw6
            obtain ⟨Va, Vn, Vc, hVe⟩ : ∃ ao n' cap, v' = .slice ao n' cap := by
              rcases on7.2 with ⟨hv, _⟩ | ⟨_, _, _, hv, _⟩
              · exact ⟨_, _, _, hv⟩
              · exact ⟨_, _, _, hv⟩
            subst hVe
            have ds8 : DS w w.heap.size px rb l' #[.int .i64 (k.1 : Nat), .slice Ta Tn Tc, .int .i64 (a.1 : Nat), .int .i64 (b1.1 : Nat), .int .i64 (c.1 : Nat), .int .i64 (d.1 : Nat), .int .i64 (e.1 : Nat), .int .i64 (f.1 : Nat), .int .i64 (g.1 : Nat), .slice Va Vn Vc, .int .i64 0, .int .i64 0, .int .i64 0] (w7.setCell ⟨rb, 9, none⟩ (.slice Va Vn Vc)) := ds7.set 9 (.slice Va Vn Vc)
            have ow8 := ownsRow_setCell_other (a := ⟨rb, 9, none⟩) ow7 (own_kind_ne ow7 ds7.q (by decide)) (.slice Va Vn Vc)
            have on8 := ownsRow_setCell_other (a := ⟨rb, 9, none⟩) on7 (own_kind_ne on7 ds7.q (by decide)) (.slice Va Vn Vc)
            have y9 := cellsAt ds7.q 9
            simp only [List.getElem?_toArray, List.getElem?_cons_zero, List.getElem?_cons_succ] at y9
            have fz9 := frozenAt ds7.q 9
            clear ds7 ow7 on7
            refine Lib.hid ?_
            go_wp2
            refine ⟨⟨j2 + 1, l', acc2 ++ [⟨(p0.1 : Int), (p1.1 : Int), (p2.1 : Int), (p3.1 : Int), (p4.1 : Int), (p5.1 : Int), tx⟩], _, by go_num, by omega, by simp [hacc2], by omega, ds8, ow8, on8, K1, K2⟩, by simp [intOf]; omega⟩
          · have hjn2 : j2 = min m.1 21 := by omega
            have h1 := H1.out
            have h2 := H2.out
            rw [← hjn2, Nat.sub_self, rlist] at h1 h2
            simp only [List.append_nil] at h1 h2
            subst h1
            rw [h2] at ds
            clear H1 H2 h2
            have hcond2 : (j2 : Int) < (m.1 : Int) ∧ ¬ ((j2 : Int) ≤ 20) ∨ ¬ ((j2 : Int) < (m.1 : Int)) := by omega
            rcases hcond2 with ⟨z1, z2⟩ | z1
            · have dsx := ds
              have ownx := own
              have onnx := onn
              clear ds own onn
              go_wp2_with (go_at_call 42; refine (Fu.out _ _ dsx.rd).mono ?_; rintro e' w8 ⟨rfl, rd, g1⟩; refine Hid.out ?_)
              have ds : DS w w.heap.size px rb u.2 #[.int .i64 (k.1 : Nat), .slice Ta Tn Tc, .int .i64 (a.1 : Nat), .int .i64 (b1.1 : Nat), .int .i64 (c.1 : Nat), .int .i64 (d.1 : Nat), .int .i64 (e.1 : Nat), .int .i64 (f.1 : Nat), .int .i64 (g.1 : Nat), .slice Na Nn Nc, .int .i64 0, .int .i64 0, .int .i64 0] w8 := dsx.call g1 rd
              have own := ownx.kept g1 (.inr (own_kind_ne ownx dsx.rd (by decide)))
              have onn := onnx.kept g1 (.inr (own_kind_ne onnx dsx.rd (by decide)))
              clear dsx rd g1 ownx onnx
              have y10 := cellsAt ds.q 10
              simp only [List.getElem?_toArray, List.getElem?_cons_zero, List.getElem?_cons_succ] at y10
              have f10 := frozenAt ds.q 10
              have dsx := ds.set 10 (.int .i64 (u.1 : Nat))
              have ownx := ownsRow_setCell_other (a := ⟨rb, 10, none⟩) own (own_kind_ne own ds.q (by decide)) (.int .i64 (u.1 : Nat))
              have onnx := ownsRow_setCell_other (a := ⟨rb, 10, none⟩) onn (own_kind_ne onn ds.q (by decide)) (.int .i64 (u.1 : Nat))
              clear ds own onn
              refine Lib.hid ?_
              go_wp2_with (go_at_call 42; refine (Fv.out _ _ dsx.rd).mono ?_; rintro e' w8v ⟨rfl, rd, g1⟩; refine Hid.out ?_)
              have ds : DS w w.heap.size px rb v.2 #[.int .i64 (k.1 : Nat), .slice Ta Tn Tc, .int .i64 (a.1 : Nat), .int .i64 (b1.1 : Nat), .int .i64 (c.1 : Nat), .int .i64 (d.1 : Nat), .int .i64 (e.1 : Nat), .int .i64 (f.1 : Nat), .int .i64 (g.1 : Nat), .slice Na Nn Nc, .int .i64 (u.1 : Nat), .int .i64 0, .int .i64 0] w8v := dsx.call g1 rd
              have own := ownx.kept g1 (.inr (own_kind_ne ownx dsx.rd (by decide)))
              have onn := onnx.kept g1 (.inr (own_kind_ne onnx dsx.rd (by decide)))
              clear dsx rd g1 ownx onnx y10 f10
              have y11 := cellsAt ds.q 11
              simp only [List.getElem?_toArray, List.getElem?_cons_zero, List.getElem?_cons_succ] at y11
              have f11 := frozenAt ds.q 11
              have dsx := ds.set 11 (.int .i64 (v.1 : Nat))
              have ownx := ownsRow_setCell_other (a := ⟨rb, 11, none⟩) own (own_kind_ne own ds.q (by decide)) (.int .i64 (v.1 : Nat))
              have onnx := ownsRow_setCell_other (a := ⟨rb, 11, none⟩) onn (own_kind_ne onn ds.q (by decide)) (.int .i64 (v.1 : Nat))
              clear ds own onn
              refine Lib.hid ?_
              go_wp2_with (go_at_call 42; refine (Fy.out _ _ dsx.rd).mono ?_; rintro e' w8y ⟨rfl, rd, g1⟩; refine Hid.out ?_)
              have ds : DS w w.heap.size px rb y.2 #[.int .i64 (k.1 : Nat), .slice Ta Tn Tc, .int .i64 (a.1 : Nat), .int .i64 (b1.1 : Nat), .int .i64 (c.1 : Nat), .int .i64 (d.1 : Nat), .int .i64 (e.1 : Nat), .int .i64 (f.1 : Nat), .int .i64 (g.1 : Nat), .slice Na Nn Nc, .int .i64 (u.1 : Nat), .int .i64 (v.1 : Nat), .int .i64 0] w8y := dsx.call g1 rd
              have own := ownx.kept g1 (.inr (own_kind_ne ownx dsx.rd (by decide)))
              have onn := onnx.kept g1 (.inr (own_kind_ne onnx dsx.rd (by decide)))
              clear dsx rd g1 ownx onnx y11 f11
              have y12 := cellsAt ds.q 12
              simp only [List.getElem?_toArray, List.getElem?_cons_zero, List.getElem?_cons_succ] at y12
              have f12 := frozenAt ds.q 12
              have dsx : DS w w.heap.size px rb y.2 #[.int .i64 (k.1 : Nat), .slice Ta Tn Tc, .int .i64 (a.1 : Nat), .int .i64 (b1.1 : Nat), .int .i64 (c.1 : Nat), .int .i64 (d.1 : Nat), .int .i64 (e.1 : Nat), .int .i64 (f.1 : Nat), .int .i64 (g.1 : Nat), .slice Na Nn Nc, .int .i64 (u.1 : Nat), .int .i64 (v.1 : Nat), .int .i64 (y.1 : Nat)] (w8y.setCell ⟨rb, 12, none⟩ (.int .i64 (y.1 : Nat))) := ds.set 12 (.int .i64 (y.1 : Nat))
              have ownx := ownsRow_setCell_other (a := ⟨rb, 12, none⟩) own (own_kind_ne own ds.q (by decide)) (.int .i64 (y.1 : Nat))
              have onnx := ownsRow_setCell_other (a := ⟨rb, 12, none⟩) onn (own_kind_ne onn ds.q (by decide)) (.int .i64 (y.1 : Nat))
              rw [← hacc2] at onnx
              have EN := Lib.hid (encode7 (k.1 : Int) (a.1 : Int) (b1.1 : Int) (c.1 : Int) (d.1 : Int) (e.1 : Int) (f.1 : Int) (g.1 : Int) (u.1 : Int) (v.1 : Int) (y.1 : Int) (.slice Ta Tn Tc) (.slice Na Nn Nc) t.1 x.1 _ (by omega) (by omega) (fun q hq => by have := tx' q hq; omega) (rowOfOwn ownx) (rowOfOwn onnx) r HR.out)
              have c0 := cellsAt dsx.q 0
              have c1 := cellsAt dsx.q 1
              have c2 := cellsAt dsx.q 2
              have c3 := cellsAt dsx.q 3
              have c4 := cellsAt dsx.q 4
              have c5 := cellsAt dsx.q 5
              have c6 := cellsAt dsx.q 6
              have c7 := cellsAt dsx.q 7
              have c8 := cellsAt dsx.q 8
              have c9 := cellsAt dsx.q 9
              have c10 := cellsAt dsx.q 10
              have c11 := cellsAt dsx.q 11
              have c12 := cellsAt dsx.q 12
              simp only [List.getElem?_toArray, List.getElem?_cons_zero, List.getElem?_cons_succ] at c0 c1 c2 c3 c4 c5 c6 c7 c8 c9 c10 c11 c12
              clear ds own onn
              refine Lib.hid ?_
              go_wp2_with (go_at_call 15; refine EN.out.mono ?_; rintro e' w9 ⟨rfl, hb9⟩; refine Hid.out ?_)
              have b9 := dsx.bw.trans (hb9.mono dsx.bw.size)
              have q9 := belowAt' hb9 dsx.q
              have zz9 := belowAt' hb9 dsx.z
              have own9 := ownx.kept (row := none) (grown_below _ hb9) (by cases hv : (Value.slice Ta Tn Tc).ownBlock <;> simp)
              have onn9 := onnx.kept (row := none) (grown_below _ hb9) (by cases hv : (Value.slice Na Nn Nc).ownBlock <;> simp)
              clear dsx ownx onnx hb9 EN y12 f12 c0 c1 c2 c3 c4 c5 c6 c7 c8 c9 c10 c11 c12
              by_cases he9 : r.2 = 0
              · by_cases hs9 : r.1 = b
                · have hr9 : r = (b, 0) := by rw [← hs9, ← he9]
                  subst hr9
                  simp only
                  have tE := own_setAll own9 (own_kind_ne own9 zz9 (by decide)) [.int .i64 (k.1 : Nat), .slice Ta Tn Tc, .int .i64 (a.1 : Nat), .int .i64 (b1.1 : Nat), .int .i64 (c.1 : Nat), .int .i64 (d.1 : Nat), .int .i64 (e.1 : Nat), .int .i64 (f.1 : Nat), .int .i64 (g.1 : Nat), .slice Na Nn Nc, .int .i64 (u.1 : Nat), .int .i64 (v.1 : Nat), .int .i64 (y.1 : Nat)] 0
                  have nE := own_setAll onn9 (own_kind_ne onn9 zz9 (by decide)) [.int .i64 (k.1 : Nat), .slice Ta Tn Tc, .int .i64 (a.1 : Nat), .int .i64 (b1.1 : Nat), .int .i64 (c.1 : Nat), .int .i64 (d.1 : Nat), .int .i64 (e.1 : Nat), .int .i64 (f.1 : Nat), .int .i64 (g.1 : Nat), .slice Na Nn Nc, .int .i64 (u.1 : Nat), .int .i64 (v.1 : Nat), .int .i64 (y.1 : Nat)] 0
                  have GG := Lib.hid (HG.out _ (.slice Ta Tn Tc) (.slice Na Nn Nc) rfl tE nE)
                  have z0 := cellsAt zz9 0
                  have z1 := cellsAt zz9 1
                  have z2 := cellsAt zz9 2
                  have z3 := cellsAt zz9 3
                  have z4 := cellsAt zz9 4
                  have z5 := cellsAt zz9 5
                  have z6 := cellsAt zz9 6
                  have z7 := cellsAt zz9 7
                  have z8 := cellsAt zz9 8
                  have z9 := cellsAt zz9 9
                  have z10 := cellsAt zz9 10
                  have z11 := cellsAt zz9 11
                  have z12 := cellsAt zz9 12
                  simp only [List.getElem?_toArray, List.getElem?_cons_zero, List.getElem?_cons_succ] at z0 z1 z2 z3 z4 z5 z6 z7 z8 z9 z10 z11 z12
                  have f0 := frozenAt zz9 0
                  have f1 := frozenAt zz9 1
                  have f2 := frozenAt zz9 2
                  have f3 := frozenAt zz9 3
                  have f4 := frozenAt zz9 4
                  have f5 := frozenAt zz9 5
                  have f6 := frozenAt zz9 6
                  have f7 := frozenAt zz9 7
                  have f8 := frozenAt zz9 8
                  have f9 := frozenAt zz9 9
                  have f10 := frozenAt zz9 10
                  have f11 := frozenAt zz9 11
                  have f12 := frozenAt zz9 12
                  have c0 := cellsAt q9 0
                  have c1 := cellsAt q9 1
                  have c2 := cellsAt q9 2
                  have c3 := cellsAt q9 3
                  have c4 := cellsAt q9 4
                  have c5 := cellsAt q9 5
                  have c6 := cellsAt q9 6
                  have c7 := cellsAt q9 7
                  have c8 := cellsAt q9 8
                  have c9 := cellsAt q9 9
                  have c10 := cellsAt q9 10
                  have c11 := cellsAt q9 11
                  have c12 := cellsAt q9 12
                  simp only [List.getElem?_toArray, List.getElem?_cons_zero, List.getElem?_cons_succ] at c0 c1 c2 c3 c4 c5 c6 c7 c8 c9 c10 c11 c12
                  clear q9 zz9 HG HB own9 onn9 tE nE
                  refine Lib.hid ?_
                  go_wp2
                  exact bodyPost_ret (v := .tuple #[.agg #[.int .i64 (k.1 : Nat), .slice Ta Tn Tc, .int .i64 (a.1 : Nat), .int .i64 (b1.1 : Nat), .int .i64 (c.1 : Nat), .int .i64 (d.1 : Nat), .int .i64 (e.1 : Nat), .int .i64 (f.1 : Nat), .int .i64 (g.1 : Nat), .slice Na Nn Nc, .int .i64 (u.1 : Nat), .int .i64 (v.1 : Nat), .int .i64 (y.1 : Nat)], .int .i64 0]) (by simp [results, Tryd.results18, go_sem, z0, z1, z2, z3, z4, z5, z6, z7, z8, z9, z10, z11, z12]) rfl ⟨_, rfl, GG.out, setAll_below (Nat.le_refl _) [.int .i64 (k.1 : Nat), .slice Ta Tn Tc, .int .i64 (a.1 : Nat), .int .i64 (b1.1 : Nat), .int .i64 (c.1 : Nat), .int .i64 (d.1 : Nat), .int .i64 (e.1 : Nat), .int .i64 (f.1 : Nat), .int .i64 (g.1 : Nat), .slice Na Nn Nc, .int .i64 (u.1 : Nat), .int .i64 (v.1 : Nat), .int .i64 (y.1 : Nat)] 0 _ _ b9⟩
                · have hne9 : ¬ r = (b, 0) := fun h => hs9 (by rw [h])
                  have hcmp : ((ByteArray.mk r.1.toArray).toList == (ByteArray.mk b.toArray).toList) = false := by
                    rw [ByteArray.toList_eq, ByteArray.toList_eq, beq_eq_false_iff_ne]
                    intro h
                    exact hs9 (by simpa using h)
                  have hcmp2 : ((ByteArray.mk b.toArray).toList == (ByteArray.mk r.1.toArray).toList) = false := by
                    rw [ByteArray.toList_eq, ByteArray.toList_eq, beq_eq_false_iff_ne]
                    intro h
                    exact hs9 (by simpa using h.symm)
                  obtain ⟨S9, hS9⟩ : ∃ S9 : ByteArray, ByteArray.mk r.1.toArray = S9 := ⟨_, rfl⟩
                  have hcmp3 : ((ByteArray.mk r.1.toArray).toList == b) = false := by
                    rw [ByteArray.toList_eq, beq_eq_false_iff_ne]
                    intro h
                    exact hs9 (by simpa using h)
                  have hcmp4 : (b == (ByteArray.mk r.1.toArray).toList) = false := by
                    rw [ByteArray.toList_eq, beq_eq_false_iff_ne]
                    intro h
                    exact hs9 (by simpa using h.symm)
                  rw [hS9] at hcmp hcmp2 hcmp3 hcmp4
                  rw [hS9, he9]
                  clear hS9
                  have z0 := cellsAt zz9 0
                  have z1 := cellsAt zz9 1
                  have z2 := cellsAt zz9 2
                  have z3 := cellsAt zz9 3
                  have z4 := cellsAt zz9 4
                  have z5 := cellsAt zz9 5
                  have z6 := cellsAt zz9 6
                  have z7 := cellsAt zz9 7
                  have z8 := cellsAt zz9 8
                  have z9 := cellsAt zz9 9
                  have z10 := cellsAt zz9 10
                  have z11 := cellsAt zz9 11
                  have z12 := cellsAt zz9 12
                  simp only [List.getElem?_toArray, List.getElem?_cons_zero, List.getElem?_cons_succ] at z0 z1 z2 z3 z4 z5 z6 z7 z8 z9 z10 z11 z12
                  have f0 := frozenAt zz9 0
                  have f1 := frozenAt zz9 1
                  have f2 := frozenAt zz9 2
                  have f3 := frozenAt zz9 3
                  have f4 := frozenAt zz9 4
                  have f5 := frozenAt zz9 5
                  have f6 := frozenAt zz9 6
                  have f7 := frozenAt zz9 7
                  have f8 := frozenAt zz9 8
                  have f9 := frozenAt zz9 9
                  have f10 := frozenAt zz9 10
                  have f11 := frozenAt zz9 11
                  have f12 := frozenAt zz9 12
                  clear q9 zz9 HG own9 onn9
                  refine Lib.hid ?_
                  go_wp2
                  exact bodyPost_ret (v := .tuple #[zeroR, .int .i64 5]) (by simp [results, Tryd.results18, go_sem, z0, z1, z2, z3, z4, z5, z6, z7, z8, z9, z10, z11, z12, zeroR]) rfl ⟨_, rfl, HB.out _ hne9, setAll_below (Nat.le_refl _) [.int .i64 0, .slice none 0 0, .int .i64 0, .int .i64 0, .int .i64 0, .int .i64 0, .int .i64 0, .int .i64 0, .int .i64 0, .slice none 0 0, .int .i64 0, .int .i64 0, .int .i64 0] 0 _ _ b9⟩
              · have hne9 : ¬ r = (b, 0) := fun h => he9 (by rw [h])
                have hb1 : (r.2 == 0) = false := by simpa using he9
                have hb2 : (r.2 != 0) = true := by simpa using he9
                obtain ⟨S9, hS9⟩ : ∃ S9 : ByteArray, ByteArray.mk r.1.toArray = S9 := ⟨_, rfl⟩
                obtain ⟨X9, hX9⟩ : ∃ X9 : Int, r.2 = X9 := ⟨_, rfl⟩
                rw [hX9] at hb1 hb2
                rw [hS9, hX9]
                clear hS9 hX9 he9
                have z0 := cellsAt zz9 0
                have z1 := cellsAt zz9 1
                have z2 := cellsAt zz9 2
                have z3 := cellsAt zz9 3
                have z4 := cellsAt zz9 4
                have z5 := cellsAt zz9 5
                have z6 := cellsAt zz9 6
                have z7 := cellsAt zz9 7
                have z8 := cellsAt zz9 8
                have z9 := cellsAt zz9 9
                have z10 := cellsAt zz9 10
                have z11 := cellsAt zz9 11
                have z12 := cellsAt zz9 12
                simp only [List.getElem?_toArray, List.getElem?_cons_zero, List.getElem?_cons_succ] at z0 z1 z2 z3 z4 z5 z6 z7 z8 z9 z10 z11 z12
                have f0 := frozenAt zz9 0
                have f1 := frozenAt zz9 1
                have f2 := frozenAt zz9 2
                have f3 := frozenAt zz9 3
                have f4 := frozenAt zz9 4
                have f5 := frozenAt zz9 5
                have f6 := frozenAt zz9 6
                have f7 := frozenAt zz9 7
                have f8 := frozenAt zz9 8
                have f9 := frozenAt zz9 9
                have f10 := frozenAt zz9 10
                have f11 := frozenAt zz9 11
                have f12 := frozenAt zz9 12
                clear q9 zz9 HG own9 onn9
                refine Lib.hid ?_
                go_wp2
                exact bodyPost_ret (v := .tuple #[zeroR, .int .i64 5]) (by simp [results, Tryd.results18, go_sem, z0, z1, z2, z3, z4, z5, z6, z7, z8, z9, z10, z11, z12, zeroR]) rfl ⟨_, rfl, HB.out _ hne9, setAll_below (Nat.le_refl _) [.int .i64 0, .slice none 0 0, .int .i64 0, .int .i64 0, .int .i64 0, .int .i64 0, .int .i64 0, .int .i64 0, .int .i64 0, .slice none 0 0, .int .i64 0, .int .i64 0, .int .i64 0] 0 _ _ b9⟩
            · have dsx := ds
              have ownx := own
              have onnx := onn
              clear ds own onn
              go_wp2_with (go_at_call 42; refine (Fu.out _ _ dsx.rd).mono ?_; rintro e' w8 ⟨rfl, rd, g1⟩; refine Hid.out ?_)
              have ds : DS w w.heap.size px rb u.2 #[.int .i64 (k.1 : Nat), .slice Ta Tn Tc, .int .i64 (a.1 : Nat), .int .i64 (b1.1 : Nat), .int .i64 (c.1 : Nat), .int .i64 (d.1 : Nat), .int .i64 (e.1 : Nat), .int .i64 (f.1 : Nat), .int .i64 (g.1 : Nat), .slice Na Nn Nc, .int .i64 0, .int .i64 0, .int .i64 0] w8 := dsx.call g1 rd
              have own := ownx.kept g1 (.inr (own_kind_ne ownx dsx.rd (by decide)))
              have onn := onnx.kept g1 (.inr (own_kind_ne onnx dsx.rd (by decide)))
              clear dsx rd g1 ownx onnx
              have y10 := cellsAt ds.q 10
              simp only [List.getElem?_toArray, List.getElem?_cons_zero, List.getElem?_cons_succ] at y10
              have f10 := frozenAt ds.q 10
              have dsx := ds.set 10 (.int .i64 (u.1 : Nat))
              have ownx := ownsRow_setCell_other (a := ⟨rb, 10, none⟩) own (own_kind_ne own ds.q (by decide)) (.int .i64 (u.1 : Nat))
              have onnx := ownsRow_setCell_other (a := ⟨rb, 10, none⟩) onn (own_kind_ne onn ds.q (by decide)) (.int .i64 (u.1 : Nat))
              clear ds own onn
              refine Lib.hid ?_
              go_wp2_with (go_at_call 42; refine (Fv.out _ _ dsx.rd).mono ?_; rintro e' w8v ⟨rfl, rd, g1⟩; refine Hid.out ?_)
              have ds : DS w w.heap.size px rb v.2 #[.int .i64 (k.1 : Nat), .slice Ta Tn Tc, .int .i64 (a.1 : Nat), .int .i64 (b1.1 : Nat), .int .i64 (c.1 : Nat), .int .i64 (d.1 : Nat), .int .i64 (e.1 : Nat), .int .i64 (f.1 : Nat), .int .i64 (g.1 : Nat), .slice Na Nn Nc, .int .i64 (u.1 : Nat), .int .i64 0, .int .i64 0] w8v := dsx.call g1 rd
              have own := ownx.kept g1 (.inr (own_kind_ne ownx dsx.rd (by decide)))
              have onn := onnx.kept g1 (.inr (own_kind_ne onnx dsx.rd (by decide)))
              clear dsx rd g1 ownx onnx y10 f10
              have y11 := cellsAt ds.q 11
              simp only [List.getElem?_toArray, List.getElem?_cons_zero, List.getElem?_cons_succ] at y11
              have f11 := frozenAt ds.q 11
              have dsx := ds.set 11 (.int .i64 (v.1 : Nat))
              have ownx := ownsRow_setCell_other (a := ⟨rb, 11, none⟩) own (own_kind_ne own ds.q (by decide)) (.int .i64 (v.1 : Nat))
              have onnx := ownsRow_setCell_other (a := ⟨rb, 11, none⟩) onn (own_kind_ne onn ds.q (by decide)) (.int .i64 (v.1 : Nat))
              clear ds own onn
              refine Lib.hid ?_
              go_wp2_with (go_at_call 42; refine (Fy.out _ _ dsx.rd).mono ?_; rintro e' w8y ⟨rfl, rd, g1⟩; refine Hid.out ?_)
              have ds : DS w w.heap.size px rb y.2 #[.int .i64 (k.1 : Nat), .slice Ta Tn Tc, .int .i64 (a.1 : Nat), .int .i64 (b1.1 : Nat), .int .i64 (c.1 : Nat), .int .i64 (d.1 : Nat), .int .i64 (e.1 : Nat), .int .i64 (f.1 : Nat), .int .i64 (g.1 : Nat), .slice Na Nn Nc, .int .i64 (u.1 : Nat), .int .i64 (v.1 : Nat), .int .i64 0] w8y := dsx.call g1 rd
              have own := ownx.kept g1 (.inr (own_kind_ne ownx dsx.rd (by decide)))
              have onn := onnx.kept g1 (.inr (own_kind_ne onnx dsx.rd (by decide)))
              clear dsx rd g1 ownx onnx y11 f11
              have y12 := cellsAt ds.q 12
              simp only [List.getElem?_toArray, List.getElem?_cons_zero, List.getElem?_cons_succ] at y12
              have f12 := frozenAt ds.q 12
              have dsx : DS w w.heap.size px rb y.2 #[.int .i64 (k.1 : Nat), .slice Ta Tn Tc, .int .i64 (a.1 : Nat), .int .i64 (b1.1 : Nat), .int .i64 (c.1 : Nat), .int .i64 (d.1 : Nat), .int .i64 (e.1 : Nat), .int .i64 (f.1 : Nat), .int .i64 (g.1 : Nat), .slice Na Nn Nc, .int .i64 (u.1 : Nat), .int .i64 (v.1 : Nat), .int .i64 (y.1 : Nat)] (w8y.setCell ⟨rb, 12, none⟩ (.int .i64 (y.1 : Nat))) := ds.set 12 (.int .i64 (y.1 : Nat))
              have ownx := ownsRow_setCell_other (a := ⟨rb, 12, none⟩) own (own_kind_ne own ds.q (by decide)) (.int .i64 (y.1 : Nat))
              have onnx := ownsRow_setCell_other (a := ⟨rb, 12, none⟩) onn (own_kind_ne onn ds.q (by decide)) (.int .i64 (y.1 : Nat))
              rw [← hacc2] at onnx
              have EN := Lib.hid (encode7 (k.1 : Int) (a.1 : Int) (b1.1 : Int) (c.1 : Int) (d.1 : Int) (e.1 : Int) (f.1 : Int) (g.1 : Int) (u.1 : Int) (v.1 : Int) (y.1 : Int) (.slice Ta Tn Tc) (.slice Na Nn Nc) t.1 x.1 _ (by omega) (by omega) (fun q hq => by have := tx' q hq; omega) (rowOfOwn ownx) (rowOfOwn onnx) r HR.out)
              have c0 := cellsAt dsx.q 0
              have c1 := cellsAt dsx.q 1
              have c2 := cellsAt dsx.q 2
              have c3 := cellsAt dsx.q 3
              have c4 := cellsAt dsx.q 4
              have c5 := cellsAt dsx.q 5
              have c6 := cellsAt dsx.q 6
              have c7 := cellsAt dsx.q 7
              have c8 := cellsAt dsx.q 8
              have c9 := cellsAt dsx.q 9
              have c10 := cellsAt dsx.q 10
              have c11 := cellsAt dsx.q 11
              have c12 := cellsAt dsx.q 12
              simp only [List.getElem?_toArray, List.getElem?_cons_zero, List.getElem?_cons_succ] at c0 c1 c2 c3 c4 c5 c6 c7 c8 c9 c10 c11 c12
              clear ds own onn
              refine Lib.hid ?_
              go_wp2_with (go_at_call 15; refine EN.out.mono ?_; rintro e' w9 ⟨rfl, hb9⟩; refine Hid.out ?_)
              have b9 := dsx.bw.trans (hb9.mono dsx.bw.size)
              have q9 := belowAt' hb9 dsx.q
              have zz9 := belowAt' hb9 dsx.z
              have own9 := ownx.kept (row := none) (grown_below _ hb9) (by cases hv : (Value.slice Ta Tn Tc).ownBlock <;> simp)
              have onn9 := onnx.kept (row := none) (grown_below _ hb9) (by cases hv : (Value.slice Na Nn Nc).ownBlock <;> simp)
              clear dsx ownx onnx hb9 EN y12 f12 c0 c1 c2 c3 c4 c5 c6 c7 c8 c9 c10 c11 c12
              by_cases he9 : r.2 = 0
              · by_cases hs9 : r.1 = b
                · have hr9 : r = (b, 0) := by rw [← hs9, ← he9]
                  subst hr9
                  simp only
                  have tE := own_setAll own9 (own_kind_ne own9 zz9 (by decide)) [.int .i64 (k.1 : Nat), .slice Ta Tn Tc, .int .i64 (a.1 : Nat), .int .i64 (b1.1 : Nat), .int .i64 (c.1 : Nat), .int .i64 (d.1 : Nat), .int .i64 (e.1 : Nat), .int .i64 (f.1 : Nat), .int .i64 (g.1 : Nat), .slice Na Nn Nc, .int .i64 (u.1 : Nat), .int .i64 (v.1 : Nat), .int .i64 (y.1 : Nat)] 0
                  have nE := own_setAll onn9 (own_kind_ne onn9 zz9 (by decide)) [.int .i64 (k.1 : Nat), .slice Ta Tn Tc, .int .i64 (a.1 : Nat), .int .i64 (b1.1 : Nat), .int .i64 (c.1 : Nat), .int .i64 (d.1 : Nat), .int .i64 (e.1 : Nat), .int .i64 (f.1 : Nat), .int .i64 (g.1 : Nat), .slice Na Nn Nc, .int .i64 (u.1 : Nat), .int .i64 (v.1 : Nat), .int .i64 (y.1 : Nat)] 0
                  have GG := Lib.hid (HG.out _ (.slice Ta Tn Tc) (.slice Na Nn Nc) rfl tE nE)
                  have z0 := cellsAt zz9 0
                  have z1 := cellsAt zz9 1
                  have z2 := cellsAt zz9 2
                  have z3 := cellsAt zz9 3
                  have z4 := cellsAt zz9 4
                  have z5 := cellsAt zz9 5
                  have z6 := cellsAt zz9 6
                  have z7 := cellsAt zz9 7
                  have z8 := cellsAt zz9 8
                  have z9 := cellsAt zz9 9
                  have z10 := cellsAt zz9 10
                  have z11 := cellsAt zz9 11
                  have z12 := cellsAt zz9 12
                  simp only [List.getElem?_toArray, List.getElem?_cons_zero, List.getElem?_cons_succ] at z0 z1 z2 z3 z4 z5 z6 z7 z8 z9 z10 z11 z12
                  have f0 := frozenAt zz9 0
                  have f1 := frozenAt zz9 1
                  have f2 := frozenAt zz9 2
                  have f3 := frozenAt zz9 3
                  have f4 := frozenAt zz9 4
                  have f5 := frozenAt zz9 5
                  have f6 := frozenAt zz9 6
                  have f7 := frozenAt zz9 7
                  have f8 := frozenAt zz9 8
                  have f9 := frozenAt zz9 9
                  have f10 := frozenAt zz9 10
                  have f11 := frozenAt zz9 11
                  have f12 := frozenAt zz9 12
                  have c0 := cellsAt q9 0
                  have c1 := cellsAt q9 1
                  have c2 := cellsAt q9 2
                  have c3 := cellsAt q9 3
                  have c4 := cellsAt q9 4
                  have c5 := cellsAt q9 5
                  have c6 := cellsAt q9 6
                  have c7 := cellsAt q9 7
                  have c8 := cellsAt q9 8
                  have c9 := cellsAt q9 9
                  have c10 := cellsAt q9 10
                  have c11 := cellsAt q9 11
                  have c12 := cellsAt q9 12
                  simp only [List.getElem?_toArray, List.getElem?_cons_zero, List.getElem?_cons_succ] at c0 c1 c2 c3 c4 c5 c6 c7 c8 c9 c10 c11 c12
                  clear q9 zz9 HG HB own9 onn9 tE nE
                  refine Lib.hid ?_
                  go_wp2
                  exact bodyPost_ret (v := .tuple #[.agg #[.int .i64 (k.1 : Nat), .slice Ta Tn Tc, .int .i64 (a.1 : Nat), .int .i64 (b1.1 : Nat), .int .i64 (c.1 : Nat), .int .i64 (d.1 : Nat), .int .i64 (e.1 : Nat), .int .i64 (f.1 : Nat), .int .i64 (g.1 : Nat), .slice Na Nn Nc, .int .i64 (u.1 : Nat), .int .i64 (v.1 : Nat), .int .i64 (y.1 : Nat)], .int .i64 0]) (by simp [results, Tryd.results18, go_sem, z0, z1, z2, z3, z4, z5, z6, z7, z8, z9, z10, z11, z12]) rfl ⟨_, rfl, GG.out, setAll_below (Nat.le_refl _) [.int .i64 (k.1 : Nat), .slice Ta Tn Tc, .int .i64 (a.1 : Nat), .int .i64 (b1.1 : Nat), .int .i64 (c.1 : Nat), .int .i64 (d.1 : Nat), .int .i64 (e.1 : Nat), .int .i64 (f.1 : Nat), .int .i64 (g.1 : Nat), .slice Na Nn Nc, .int .i64 (u.1 : Nat), .int .i64 (v.1 : Nat), .int .i64 (y.1 : Nat)] 0 _ _ b9⟩
                · have hne9 : ¬ r = (b, 0) := fun h => hs9 (by rw [h])
                  have hcmp : ((ByteArray.mk r.1.toArray).toList == (ByteArray.mk b.toArray).toList) = false := by
                    rw [ByteArray.toList_eq, ByteArray.toList_eq, beq_eq_false_iff_ne]
                    intro h
                    exact hs9 (by simpa using h)
                  have hcmp2 : ((ByteArray.mk b.toArray).toList == (ByteArray.mk r.1.toArray).toList) = false := by
                    rw [ByteArray.toList_eq, ByteArray.toList_eq, beq_eq_false_iff_ne]
                    intro h
                    exact hs9 (by simpa using h.symm)
                  obtain ⟨S9, hS9⟩ : ∃ S9 : ByteArray, ByteArray.mk r.1.toArray = S9 := ⟨_, rfl⟩
                  have hcmp3 : ((ByteArray.mk r.1.toArray).toList == b) = false := by
                    rw [ByteArray.toList_eq, beq_eq_false_iff_ne]
                    intro h
                    exact hs9 (by simpa using h)
                  have hcmp4 : (b == (ByteArray.mk r.1.toArray).toList) = false := by
                    rw [ByteArray.toList_eq, beq_eq_false_iff_ne]
                    intro h
                    exact hs9 (by simpa using h.symm)
                  rw [hS9] at hcmp hcmp2 hcmp3 hcmp4
                  rw [hS9, he9]
                  clear hS9
                  have z0 := cellsAt zz9 0
                  have z1 := cellsAt zz9 1
                  have z2 := cellsAt zz9 2
                  have z3 := cellsAt zz9 3
                  have z4 := cellsAt zz9 4
                  have z5 := cellsAt zz9 5
                  have z6 := cellsAt zz9 6
                  have z7 := cellsAt zz9 7
                  have z8 := cellsAt zz9 8
                  have z9 := cellsAt zz9 9
                  have z10 := cellsAt zz9 10
                  have z11 := cellsAt zz9 11
                  have z12 := cellsAt zz9 12
                  simp only [List.getElem?_toArray, List.getElem?_cons_zero, List.getElem?_cons_succ] at z0 z1 z2 z3 z4 z5 z6 z7 z8 z9 z10 z11 z12
                  have f0 := frozenAt zz9 0
                  have f1 := frozenAt zz9 1
                  have f2 := frozenAt zz9 2
                  have f3 := frozenAt zz9 3
                  have f4 := frozenAt zz9 4
                  have f5 := frozenAt zz9 5
                  have f6 := frozenAt zz9 6
                  have f7 := frozenAt zz9 7
                  have f8 := frozenAt zz9 8
                  have f9 := frozenAt zz9 9
                  have f10 := frozenAt zz9 10
                  have f11 := frozenAt zz9 11
                  have f12 := frozenAt zz9 12
                  clear q9 zz9 HG own9 onn9
                  refine Lib.hid ?_
                  go_wp2
                  exact bodyPost_ret (v := .tuple #[zeroR, .int .i64 5]) (by simp [results, Tryd.results18, go_sem, z0, z1, z2, z3, z4, z5, z6, z7, z8, z9, z10, z11, z12, zeroR]) rfl ⟨_, rfl, HB.out _ hne9, setAll_below (Nat.le_refl _) [.int .i64 0, .slice none 0 0, .int .i64 0, .int .i64 0, .int .i64 0, .int .i64 0, .int .i64 0, .int .i64 0, .int .i64 0, .slice none 0 0, .int .i64 0, .int .i64 0, .int .i64 0] 0 _ _ b9⟩
              · have hne9 : ¬ r = (b, 0) := fun h => he9 (by rw [h])
                have hb1 : (r.2 == 0) = false := by simpa using he9
                have hb2 : (r.2 != 0) = true := by simpa using he9
                obtain ⟨S9, hS9⟩ : ∃ S9 : ByteArray, ByteArray.mk r.1.toArray = S9 := ⟨_, rfl⟩
                obtain ⟨X9, hX9⟩ : ∃ X9 : Int, r.2 = X9 := ⟨_, rfl⟩
                rw [hX9] at hb1 hb2
                rw [hS9, hX9]
                clear hS9 hX9 he9
                have z0 := cellsAt zz9 0
                have z1 := cellsAt zz9 1
                have z2 := cellsAt zz9 2
                have z3 := cellsAt zz9 3
                have z4 := cellsAt zz9 4
                have z5 := cellsAt zz9 5
                have z6 := cellsAt zz9 6
                have z7 := cellsAt zz9 7
                have z8 := cellsAt zz9 8
                have z9 := cellsAt zz9 9
                have z10 := cellsAt zz9 10
                have z11 := cellsAt zz9 11
                have z12 := cellsAt zz9 12
                simp only [List.getElem?_toArray, List.getElem?_cons_zero, List.getElem?_cons_succ] at z0 z1 z2 z3 z4 z5 z6 z7 z8 z9 z10 z11 z12
                have f0 := frozenAt zz9 0
                have f1 := frozenAt zz9 1
                have f2 := frozenAt zz9 2
                have f3 := frozenAt zz9 3
                have f4 := frozenAt zz9 4
                have f5 := frozenAt zz9 5
                have f6 := frozenAt zz9 6
                have f7 := frozenAt zz9 7
                have f8 := frozenAt zz9 8
                have f9 := frozenAt zz9 9
                have f10 := frozenAt zz9 10
                have f11 := frozenAt zz9 11
                have f12 := frozenAt zz9 12
                clear q9 zz9 HG own9 onn9
                refine Lib.hid ?_
                go_wp2
                exact bodyPost_ret (v := .tuple #[zeroR, .int .i64 5]) (by simp [results, Tryd.results18, go_sem, z0, z1, z2, z3, z4, z5, z6, z7, z8, z9, z10, z11, z12, zeroR]) rfl ⟨_, rfl, HB.out _ hne9, setAll_below (Nat.le_refl _) [.int .i64 0, .slice none 0 0, .int .i64 0, .int .i64 0, .int .i64 0, .int .i64 0, .int .i64 0, .int .i64 0, .int .i64 0, .slice none 0 0, .int .i64 0, .int .i64 0, .int .i64 0] 0 _ _ b9⟩
end Go.Proofs.YteibjmlimcpaoaaDoor
