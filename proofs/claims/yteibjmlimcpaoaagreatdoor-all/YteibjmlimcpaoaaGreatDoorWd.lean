/-
  Where a file's tables lie while they are looked at, and what package look's unsorted answers.
  What package look's shared and status answer of a table that is looked at: as the plain program says; nothing but the meter turns.
  What package look's status answers of a table: as the plain program says; nothing but the meter turns.
  What package look's add leaves: one table more, as the plain program says; nothing but the meter and the list turns.
  What package look's table and told answer of a file's tables: as the plain program says.
  What package look's directory.told answers: the tables as they are told, in new memory.
-/
import Derived.Test.YteibjmlimcpaoaaGreatDoorWb
import Derived.Test.YteibjmlimcpaoaaGreatDoorPa
import Derived.Lib.OwnKind
import Derived.Laws.Cover1
import Derived.Deep.AppendLies
import Derived.Deep.DeepCutAuto
import Derived.Deep.RegionLaw
import Derived.Deep.CutBlock
import Derived.Test.YteibjmlimcpaoaaGreatDoorEa
set_option linter.unusedVariables false
set_option linter.unusedSimpArgs false
namespace Go.Proofs.YteibjmlimcpaoaaGreatDoor.W
open Go.RowKit Go.Sort

/-- the cells of tables -/
def dcells (p : Nat) : List Tw → List Value
  | [] => []
  | t :: l => strV t.tag :: .int .i64 t.st :: .int .i64 t.size :: .pointer (some ⟨p, 0, none⟩) :: .int .i64 t.v.b :: .int .i64 t.v.s :: dcells p l
theorem dcells_append (p : Nat) (a b : List Tw) : dcells p (a ++ b) = dcells p a ++ dcells p b := by
  induction a with
  | nil => rfl
  | cons x a ih => simp [dcells, ih]
theorem dcells_at (p : Nat) : ∀ (l : List Tw) (k : Nat) (t : Tw), l[k]? = some t → (dcells p l)[k * 6]? = some (strV t.tag) ∧ (dcells p l)[k * 6 + 1]? = some (.int .i64 t.st) ∧ (dcells p l)[k * 6 + 2]? = some (.int .i64 t.size) ∧ (dcells p l)[k * 6 + 3]? = some (.pointer (some ⟨p, 0, none⟩)) ∧ (dcells p l)[k * 6 + 4]? = some (.int .i64 t.v.b) ∧ (dcells p l)[k * 6 + 5]? = some (.int .i64 t.v.s)
  | [], k, t, h => by simp at h
  | x :: l, 0, t, h => by
    simp at h
    subst h
    simp [dcells]
  | x :: l, k + 1, t, h => by
    simp only [List.getElem?_cons_succ] at h
    obtain ⟨h0, h1, h2, h3, h4, h5⟩ := dcells_at p l k t h
    rw [show (k + 1) * 6 = k * 6 + 6 by omega]
    simp only [dcells]
    exact ⟨h0, h1, h2, h3, h4, h5⟩

/-- a file's tables in the block dp -/
def DirAt (dp : Nat) (kind : Nat) (fq rq : Option Addr) (recs : Wn) (VT : Value) (w : World) : Prop := w.heap[dp]? = some (.cells #[.int .i64 kind, .pointer fq, .pointer rq, .int .i64 recs.b, .int .i64 recs.s, VT] 130 (0, 0))
/-- a row of tables, in new memory -/
def TabsAt (B p : Nat) (l : List Tw) (VT : Value) (w : World) : Prop := w.ownsRow B 133 6 VT l.length (dcells p l)
theorem own_form {w : World} {B e size n : Nat} {v : Value} {xs : List Value} (h : w.ownsRow B e size v n xs) (hn : 0 < n) : ∃ g cap cs, v = .slice (some ⟨g, 0, none⟩) n cap ∧ B ≤ g ∧ w.heap[g]? = some (.cells cs e (0, 0)) := by
  obtain ⟨_, ⟨_, h0⟩ | ⟨g, cap, cur, hv, hb, hg, _⟩⟩ := h
  · omega
  · exact ⟨g, cap, cur, hv, hb, hg⟩
theorem tab_cells {B p : Nat} {l : List Tw} {g cap n : Nat} {w : World} (h : TabsAt B p l (.slice (some ⟨g, 0, none⟩) n cap) w) (k : Nat) (t : Tw) (hk : l[k]? = some t) :
    w.cell? ⟨g, k * 6, none⟩ = some (strV t.tag) ∧ w.cell? ⟨g, k * 6 + 1, none⟩ = some (.int .i64 t.st) ∧ w.cell? ⟨g, k * 6 + 2, none⟩ = some (.int .i64 t.size) ∧ w.cell? ⟨g, k * 6 + 3, none⟩ = some (.pointer (some ⟨p, 0, none⟩)) ∧ w.cell? ⟨g, k * 6 + 4, none⟩ = some (.int .i64 t.v.b) ∧ w.cell? ⟨g, k * 6 + 5, none⟩ = some (.int .i64 t.v.s) := by
  obtain ⟨c0, c1, c2, c3, c4, c5⟩ := dcells_at p l k t hk
  have q : ∀ j u, (dcells p l)[j]? = some u → w.cell? ⟨g, j, none⟩ = some u := by
    intro j u hj
    have := h.cells rfl j u hj
    rw [addr_add, Nat.zero_add] at this
    exact this
  exact ⟨q _ _ c0, q _ _ c1, q _ _ c2, q _ _ c3, q _ _ c4, q _ _ c5⟩

theorem less_leL : ∀ a b : List UInt8, (Op.bytesLess a b || a == b) = leL a b
  | [], [] => by simp [Op.bytesLess, leL]
  | [], _ :: _ => by simp [Op.bytesLess, leL]
  | _ :: _, [] => by simp [Op.bytesLess, leL]
  | x :: a, y :: b => by
    have ih := less_leL a b
    rw [leL, ← ih, Op.bytesLess]
    by_cases h1 : x < y
    · have : x ≠ y := by rintro rfl; exact absurd h1 (by simp)
      simp [h1]
    · by_cases h2 : y < x
      · have : x ≠ y := by rintro rfl; exact absurd h2 (by simp)
        have h3 : ¬ x = y := this
        simp [h1, h2, h3]
      · have : x = y := by
          have e1 : ¬ x.toNat < y.toNat := fun h => h1 (UInt8.lt_iff_toNat_lt.2 h)
          have e2 : ¬ y.toNat < x.toNat := fun h => h2 (UInt8.lt_iff_toNat_lt.2 h)
          exact UInt8.toNat_inj.1 (by omega)
        subst this
        simp [h1]
set_option maxRecDepth 100000 in
set_option maxHeartbeats 1000000 in
theorem unsortedW (dp kind B p : Nat) (fq rq : Option Addr) (recs : Wn) (VT : Value) (l : List Tw) (tag : List UInt8) (w : World) (hl : l.length ≤ 16) (hd : DirAt dp kind fq rq recs VT w) (ht : TabsAt B p l VT w) :
    Calls Tryz.prog 146 #[.pointer (some ⟨dp, 0, none⟩), strV tag] w fun e w' => e = .returned (.bool (unsB l tag)) ∧ w' = w := by
  have x5 := cellsAt hd 5
  simp only [List.getElem?_toArray, List.getElem?_cons_zero, List.getElem?_cons_succ] at x5
  clear hd
  by_cases hn : l.length = 0
  · have hl0 : l = [] := List.eq_nil_of_length_eq_zero hn
    subst hl0
    obtain ⟨ao, cap, rfl⟩ : ∃ ao cap, VT = .slice ao 0 cap := by
      rcases ht.2 with ⟨hv, _⟩ | ⟨g, cap, cur, hv, _⟩
      · exact ⟨_, _, hv⟩
      · exact ⟨_, _, hv⟩
    unfold strV
    show Calls _ _ _ _ fun e w' => e = .returned (.bool false) ∧ w' = w
    clear ht
    go_enter Tryz.func146, Tryz.ntmps146
    go_wp2
    go_ret
    exact ⟨rfl, rfl⟩
  · obtain ⟨g, cap, cs, rfl, hb, hg⟩ := own_form ht (by omega)
    obtain ⟨n, hn'⟩ : ∃ n, l.length = n + 1 := ⟨l.length - 1, by omega⟩
    obtain ⟨t, hlast⟩ : ∃ t, l[n]? = some t := ⟨_, List.getElem?_eq_getElem (by omega)⟩
    obtain ⟨c0, c1, c2, c3, c4, c5⟩ := tab_cells ht n _ hlast
    have hu : unsB l tag = leL tag t.tag := by
      unfold unsB lastTag
      rw [List.getLast?_eq_getElem?, hn', Nat.add_sub_cancel, hlast]
      rfl
    rw [hu]
    rw [hn'] at x5
    unfold strV at *
    have e0 := less_leL tag t.tag
    have q1 : (ByteArray.mk tag.toArray).toList = tag := by rw [ByteArray.toList_eq]
    have q2 : (ByteArray.mk t.tag.toArray).toList = t.tag := by rw [ByteArray.toList_eq]
    rw [← q1, ← q2] at e0
    rw [q1, q2] at e0
    have e1 : (Op.bytesLess (ByteArray.mk tag.toArray).toList (ByteArray.mk t.tag.toArray).toList || (ByteArray.mk tag.toArray).toList == (ByteArray.mk t.tag.toArray).toList) = leL tag t.tag := by rw [q1, q2]; exact e0
    generalize leL tag t.tag = r at *
    generalize ByteArray.mk tag.toArray = S at *
    generalize ByteArray.mk t.tag.toArray = X at *
    have E1 := Lib.hid e1
    clear ht hg hlast hu c1 c2 c3 c4 c5 e0 q1 q2 e1
    have z1 : ((n + 1 : Nat) : Int) = (n : Int) + 1 := by omega
    go_enter Tryz.func146, Tryz.ntmps146
    go_wp2
    go_ret
    exact ⟨by rw [← E1.out]; rfl, rfl⟩
end Go.Proofs.YteibjmlimcpaoaaGreatDoor.W

set_option linter.unusedVariables false
set_option linter.unusedSimpArgs false
namespace Go.Proofs.YteibjmlimcpaoaaGreatDoor.W
open Go.RowKit Go.Sort

/-- what a look leans on: the policy's lists, the tables of the program's text; all of it lies ahead of the file's block -/
def En (P : Pol) (T I : Value) (p : Nat) (w : World) : Prop :=
  ∃ wi, Below wi.heap.size wi w ∧ wi.heap.size ≤ p ∧ PolIs P T I wi ∧ Gl wi ∧ wi.cell? ⟨7, 15, none⟩ = some (.int .u8 4)
section
variable {P : Pol} {T I : Value} {p : Nat} {w w' : World}
theorem En.grow (h : En P T I p w) (g : w.grownBy w' (some p)) : En P T I p w' := by
  obtain ⟨wi, hb, hp, h1, h2, h3⟩ := h
  exact ⟨wi, hb.grown g (hb.size) (fun j hj => by cases hj; exact hp), hp, h1, h2, h3⟩
theorem En.below (h : En P T I p w) (hb : Below w.heap.size w w') : En P T I p w' := h.grow (grown_below _ hb)
theorem En.pol (h : En P T I p w) : PolIs P T I w := by
  obtain ⟨wi, hb, hp, h1, h2, h3⟩ := h
  exact h1.on hb
theorem En.gl (h : En P T I p w) : Gl w := by
  obtain ⟨wi, hb, hp, h1, h2, h3⟩ := h
  exact h2.on hb
theorem En.tab (h : En P T I p w) : w.cell? ⟨7, 15, none⟩ = some (.int .u8 4) := by
  obtain ⟨wi, hb, hp, h1, h2, h3⟩ := h
  exact (hb.cell (p := ⟨7, 15, none⟩) (cell_lt h3)).trans h3
end
theorem keep_cell {w : World} (h : Gl w) (t : Tw) (ht : t.st ≤ 4) : w.cell? ⟨2, t.st, none⟩ = some (.bool (keeps t)) := by
  have c : t.st = 0 ∨ t.st = 1 ∨ t.st = 2 ∨ t.st = 3 ∨ t.st = 4 := by omega
  unfold keeps
  rcases c with c | c | c | c | c <;> rw [c]
  · exact h.k0
  · exact h.k1
  · exact h.k2
  · exact h.k3
  · exact h.k4
theorem shared_step (D : List UInt8) (v : Wn) (t : Tw) (l : List Tw) (m : Mt) : (sharedP v (t :: l)).run D m = if (keeps t && v.shares t.v) = true then (true, m.step) else (sharedP v l).run D m.step := by
  rw [sharedP]
  simp only [Pr.run]
  unfold keeps
  by_cases h : (t.st = 0 ∨ t.st = 4) ∧ v.shares t.v = true
  · rw [if_pos h, if_pos (by simp [h.1, h.2])]
    rfl
  · rw [if_neg h, if_neg (by simpa using h)]

set_option maxRecDepth 100000 in
set_option maxHeartbeats 2000000 in
theorem sharedW (dp kind B p : Nat) (fq rq : Option Addr) (recs : Wn) (VT : Value) (l : List Tw) (v : Wn) (m : Mt) (D : List UInt8) (P : Pol) (T I : Value) (w : World) (hl : l.length ≤ 16) (hpB : p < B) (hBw : B ≤ w.heap.size) (hne : dp ≠ p)
    (hd : DirAt dp kind fq rq recs VT w) (ht : TabsAt B p l VT w) (hv : v.b ≤ 2000 ∧ v.s ≤ 2000) (hT : ∀ t ∈ l, t.st ≤ 4 ∧ t.v.b ≤ 2000 ∧ t.v.s ≤ 2000) (hf : FlAt p m D w) (hm : MOk m) (he : En P T I p w) (r : Bool) (M : Mt) (hr : (sharedP v l).run D m = (r, M)) :
    Calls Tryz.prog 147 #[.pointer (some ⟨dp, 0, none⟩), wv p v] w fun e w' => e = .returned (.bool r) ∧ FlAt p M D w' ∧ w.grownBy w' (some p) := by
  have hlt := fl_lt hf
  have x5 := cellsAt (at_alloc (q := .cells #[.pointer (some ⟨p, 0, none⟩), .int .i64 (v.b : Int), .int .i64 (v.s : Int)] 126) hd) 5
  simp only [List.getElem?_toArray, List.getElem?_cons_zero, List.getElem?_cons_succ] at x5
  obtain ⟨ao, cap, rfl⟩ := own_slice ht
  have r0 := new_at w (.cells #[.pointer (some ⟨p, 0, none⟩), .int .i64 (v.b : Int), .int .i64 (v.s : Int)] 126)
  have f0 := fl_alloc hf (.cells #[.pointer (some ⟨p, 0, none⟩), .int .i64 (v.b : Int), .int .i64 (v.s : Int)] 126)
  have HX := Lib.hid (And.intro hT (And.intro ht he))
  have HR := Lib.hid hr
  have S := Lib.hid (fun m w hm h => stepW p m D w (MOk.l hm) (MOk.s hm) h)
  have C := Lib.hid (fun t w (h : t.b ≤ 2000 ∧ t.s ≤ 2000) => sharesW (some ⟨p, 0, none⟩) (some ⟨p, 0, none⟩) v t w hv.1 hv.2 h.1 h.2)
  unfold wv
  unfold wq at C
  clear hd hf hT ht he hr
  go_enter Tryz.func147, Tryz.ntmps147
  go_wp2
  go_loopw [12] (fun is wr => ∃ (k : Nat) (mm : Mt), is = .int .i64 (k : Int) ∧ k ≤ l.length ∧ MOk mm ∧ FlAt p mm D wr ∧ w.grownBy wr (some p) ∧ wr.heap[w.heap.size]? = some (.cells #[.pointer (some ⟨p, 0, none⟩), .int .i64 (v.b : Int), .int .i64 (v.s : Int)] 126 (0, 0)) ∧ Hid ((sharedP v (l.drop k)).run D mm = (r, M))) (fun is _ => l.length - (intOf is).toNat)
  case atStart => exact ⟨0, m, rfl, Nat.zero_le _, hm, f0, World.grownBy_alloc _ _ _, r0, HR.out⟩
  case round =>
    obtain ⟨k, mm, rfl, hk, hmm, hff, hgr, hbx, H⟩ := hrel
    by_cases hklt : k < l.length
    · obtain ⟨t, htk⟩ : ∃ t, l[k]? = some t := ⟨_, List.getElem?_eq_getElem hklt⟩
      have hmem := List.mem_of_getElem? htk
      obtain ⟨q1, q2, q3⟩ := HX.out.1 t hmem
      have own1 : TabsAt B p l (.slice ao l.length cap) wr := HX.out.2.1.kept hgr (own_ne_old HX.out.2.1 hpB)
      obtain ⟨g, cap', cs, hve, hbg, hg⟩ := own_form own1 (by omega)
      cases hve
      obtain ⟨c0, c1, c2, c3, c4, c5⟩ := tab_cells own1 k t htk
      have ik : (k : Int) < (l.length : Int) := by omega
      have ik0 : (0 : Int) ≤ (k : Int) := by omega
      unfold strV at c0
      generalize ByteArray.mk t.tag.toArray = X at c0
      have hb1 := at_alloc (q := .cells #[.string X, .int .i64 (t.st : Int), .int .i64 (t.size : Int), .pointer (some ⟨p, 0, none⟩), .int .i64 (t.v.b : Int), .int .i64 (t.v.s : Int)] 133) hbx
      have ff1 := fl_alloc hff (.cells #[.string X, .int .i64 (t.st : Int), .int .i64 (t.size : Int), .pointer (some ⟨p, 0, none⟩), .int .i64 (t.v.b : Int), .int .i64 (t.v.s : Int)] 133)
      have nb1 := new_at wr (.cells #[.string X, .int .i64 (t.st : Int), .int .i64 (t.size : Int), .pointer (some ⟨p, 0, none⟩), .int .i64 (t.v.b : Int), .int .i64 (t.v.s : Int)] 133)
      have hg1 := grown_trans hgr (World.grownBy_alloc wr (.cells #[.string X, .int .i64 (t.st : Int), .int .i64 (t.size : Int), .pointer (some ⟨p, 0, none⟩), .int .i64 (t.v.b : Int), .int .i64 (t.v.s : Int)] 133) (some p))
      have y0 := cellsAt hb1 0
      have y1 := cellsAt hb1 1
      have y2 := cellsAt hb1 2
      simp only [List.getElem?_toArray, List.getElem?_cons_zero, List.getElem?_cons_succ] at y0 y1 y2
      have hst := H.out
      rw [List.drop_eq_getElem_cons hklt, show l[k] = t from Option.some.inj ((List.getElem?_eq_getElem hklt).symm.trans htk), shared_step] at hst
      have HS := Lib.hid hst
      clear hst H htk hmem
      have hplt : p < wr.heap.size := fl_lt hff
      have hwl : w.heap.size ≤ wr.heap.size := hgr.size
      go_wp2_with (go_at_call 159; refine (S.out mm _ hmm ff1).mono ?_; rintro e w1 ⟨rfl, k1, g1⟩; refine Hid.out ?_)
      have bx1 := grown_at g1 hb1 (by omega)
      have nb2 := grown_at g1 nb1 (by omega)
      have hg2 := grown_trans hg1 g1
      have kc := keep_cell (HX.out.2.2.grow hg2).gl t q1
      clear y0 y1 y2 c0 c1 c2 c3 c4 c5 own1 hg x5
      have y0 := cellsAt bx1 0
      have y1 := cellsAt bx1 1
      have y2 := cellsAt bx1 2
      have z0 := cellsAt nb2 0
      have z1 := cellsAt nb2 1
      have z2 := cellsAt nb2 2
      have z3 := cellsAt nb2 3
      have z4 := cellsAt nb2 4
      have z5 := cellsAt nb2 5
      simp only [List.getElem?_toArray, List.getElem?_cons_zero, List.getElem?_cons_succ] at y0 y1 y2 z0 z1 z2 z3 z4 z5
      have hm1 := hmm.step
      have A := Lib.hid (C.out t.v w1 ⟨q2, q3⟩)
      have is0 : (0 : Int) ≤ (t.st : Int) := by omega
      have is1 : (t.st : Int) < 5 := by omega
      cases hkp : keeps t with
      | false =>
        rw [hkp] at kc
        have hs := HS.out
        rw [hkp, Bool.false_and, if_neg (by simp)] at hs
        have H1 := Lib.hid hs
        clear hs HS hkp
        refine Lib.hid ?_
        go_wp2
        exact ⟨⟨k + 1, _, by go_num, by omega, hm1, k1, hg2, bx1, H1⟩, by simp [intOf]; omega⟩
      | true =>
        rw [hkp] at kc
        have hs := HS.out
        rw [hkp, Bool.true_and] at hs
        cases hsh : v.shares t.v with
        | false =>
          rw [hsh, if_neg (by simp)] at hs
          rw [hsh] at A
          have H1 := Lib.hid hs
          clear hs HS hkp hsh
          refine Lib.hid ?_
          go_wp2_with (go_at_call 160; refine A.out.mono ?_; rintro e w2 ⟨rfl, hb2⟩)
          have g3 := grown_below (some p) hb2
          exact ⟨⟨k + 1, _, by go_num, by omega, hm1, grown_at (p := w2.heap.size + w1.heap.size) (grown_below _ hb2) k1 (by have := fl_lt k1; omega), grown_trans hg2 g3, grown_at (p := w2.heap.size + w1.heap.size) (grown_below _ hb2) bx1 (by have := at_lt bx1; omega), H1⟩, by simp [intOf]; omega⟩
        | true =>
          rw [hsh, if_pos rfl] at hs
          rw [hsh] at A
          cases hs
          clear HS hkp hsh
          refine Lib.hid ?_
          go_wp2_with (go_at_call 160; refine A.out.mono ?_; rintro e w2 ⟨rfl, hb2⟩)
          go_ret
          exact ⟨rfl, grown_at (p := w2.heap.size + w1.heap.size) (grown_below _ hb2) k1 (by have := fl_lt k1; omega), grown_trans hg2 (grown_below _ hb2)⟩
    · have hs := H.out
      rw [List.drop_eq_nil_of_le (by omega), sharedP] at hs
      simp only [Pr.run] at hs
      cases hs
      have ik : ¬ ((k : Int) < (l.length : Int)) := by omega
      go_wp2
      go_ret
      exact ⟨rfl, hff, hgr⟩
end Go.Proofs.YteibjmlimcpaoaaGreatDoor.W

set_option linter.unusedVariables false
set_option linter.unusedSimpArgs false
namespace Go.Proofs.YteibjmlimcpaoaaGreatDoor.W
open Go.RowKit Go.Sort

/-- a table as a value -/
def tv (p : Nat) (tag : List UInt8) (st size : Nat) (v : Wn) : Value := .agg #[strV tag, .int .i64 st, .int .i64 size, .pointer (some ⟨p, 0, none⟩), .int .i64 v.b, .int .i64 v.s]
theorem status_run (D : List UInt8) (P : Pol) (l : List Tw) (tag : List UInt8) (v : Wn) (inside : Bool) (m : Mt) :
    (statusP P l tag v inside).run D m = if unsB l tag = true then (1, m) else if inside = false then (2, m) else (if ((sharedP v l).run D m).1 = true then 3 else if P.tags.contains tag = true then 4 else 0, ((sharedP v l).run D m).2) := by
  rw [status_eq]
  split
  · rfl
  · split
    · rfl
    · rw [Pr.run_bind]
      rfl
theorem own_kept_g {w w' : World} {B p e size n : Nat} {v : Value} {xs : List Value} (h : w.ownsRow B e size v n xs) (g : w.grownBy w' (some p)) (hp : p < B) : w'.ownsRow B e size v n xs := h.kept g (own_ne_old h hp)

set_option maxRecDepth 100000 in
set_option maxHeartbeats 2000000 in
theorem statusW (dp kind B p st0 size : Nat) (fq rq : Option Addr) (recs : Wn) (VT : Value) (l : List Tw) (tag : List UInt8) (v : Wn) (inside : Bool) (m : Mt) (D : List UInt8) (P : Pol) (T I : Value) (w : World) (hl : l.length ≤ 16) (hpB : p < B) (hBw : B ≤ w.heap.size) (hne : dp ≠ p) (h8 : P.tags.length ≤ 8)
    (hd : DirAt dp kind fq rq recs VT w) (ht : TabsAt B p l VT w) (hv : v.b ≤ 2000 ∧ v.s ≤ 2000) (hT : ∀ t ∈ l, t.st ≤ 4 ∧ t.v.b ≤ 2000 ∧ t.v.s ≤ 2000) (hf : FlAt p m D w) (hm : MOk m) (he : En P T I p w) (r : Nat) (M : Mt) (hr : (statusP P l tag v inside).run D m = (r, M)) :
    Calls Tryz.prog 129 #[.pointer (some ⟨dp, 0, none⟩), pv T I P.text, tv p tag st0 size v, .bool inside] w fun e w' => e = .returned (.int .i64 r) ∧ FlAt p M D w' ∧ w.grownBy w' (some p) := by
  have hlt := fl_lt hf
  have hs1 := he.pol.tags
  have hs2 := he.pol.ids
  obtain ⟨ta, tc, hTe, _⟩ := hs1
  obtain ⟨ia, ic, hIe, _⟩ := hs2
  rw [status_run] at hr
  unfold pv tv strV
  obtain ⟨W, hW⟩ : ∃ W, (w.alloc (.cells #[T, I, .int .i64 P.text] 25)).alloc (.cells #[.string ⟨tag.toArray⟩, .int .i64 (st0 : Int), .int .i64 (size : Int), .pointer (some ⟨p, 0, none⟩), .int .i64 (v.b : Int), .int .i64 (v.s : Int)] 133) = W := ⟨_, rfl⟩
  have hbW : Below w.heap.size w W := by rw [← hW]; exact (below_alloc _ _).alloc (by simp) _
  have hgW : w.grownBy W (some p) := grown_below _ hbW
  have hsW : W.heap.size = w.heap.size + 2 := by rw [← hW]; simp
  have dW : DirAt dp kind fq rq recs VT W := grown_at hgW hd hne
  have tW := own_kept_g ht hgW hpB
  have fW : FlAt p m D W := by rw [← hW]; exact fl_alloc (fl_alloc hf _) _
  have eW := he.grow hgW
  have n1 : W.heap[w.heap.size]? = some (.cells #[T, I, .int .i64 P.text] 25 (0, 0)) := by rw [← hW]; exact at_alloc (new_at _ _)
  have n2 : W.heap[w.heap.size + 1]? = some (.cells #[.string ⟨tag.toArray⟩, .int .i64 (st0 : Int), .int .i64 (size : Int), .pointer (some ⟨p, 0, none⟩), .int .i64 (v.b : Int), .int .i64 (v.s : Int)] 133 (0, 0)) := by
    rw [← hW]
    have := new_at (w.alloc (.cells #[T, I, .int .i64 P.text] 25)) (.cells #[.string ⟨tag.toArray⟩, .int .i64 (st0 : Int), .int .i64 (size : Int), .pointer (some ⟨p, 0, none⟩), .int .i64 (v.b : Int), .int .i64 (v.s : Int)] 133)
    simpa using this
  subst hTe hIe
  have U := Lib.hid (unsortedW dp kind B p fq rq recs VT l tag W hl dW tW)
  obtain ⟨sh, M', hsr⟩ : ∃ sh M', (sharedP v l).run D m = (sh, M') := ⟨_, _, rfl⟩
  have S := Lib.hid (sharedW dp kind B p fq rq recs VT l v m D P _ _ W hl hpB (by omega) hne dW tW hv hT fW hm eW sh M' hsr)
  rw [hsr] at hr
  simp only at hr
  have x0 := cellsAt n1 0
  have y0 := cellsAt n2 0
  have y3 := cellsAt n2 3
  have y4 := cellsAt n2 4
  have y5 := cellsAt n2 5
  simp only [List.getElem?_toArray, List.getElem?_cons_zero, List.getElem?_cons_succ] at x0 y0 y3 y4 y5
  have HN := Lib.hid (And.intro n1 n2)
  have HE := Lib.hid eW
  unfold strV at U
  unfold wv at S
  clear n1 n2 eW dW tW hd ht hT hf he hsr
  cases hu : unsB l tag with
  | true =>
    rw [hu] at U hr
    rw [if_pos rfl] at hr
    cases hr
    generalize ByteArray.mk tag.toArray = X at *
    go_enter Tryz.func129, Tryz.ntmps129
    go_wp2_with (go_at_call 146; refine U.out.mono ?_; rintro e w1 ⟨rfl, rfl⟩)
    go_ret
    exact ⟨rfl, fW, hgW⟩
  | false =>
    rw [hu, if_neg (by simp)] at hr
    rw [hu] at U
    cases inside with
    | false =>
      rw [if_pos rfl] at hr
      cases hr
      generalize ByteArray.mk tag.toArray = X at *
      go_enter Tryz.func129, Tryz.ntmps129
      go_wp2_with (go_at_call 146; refine U.out.mono ?_; rintro e w1 ⟨rfl, rfl⟩)
      go_ret
      exact ⟨rfl, fW, hgW⟩
    | true =>
      rw [if_neg (by simp)] at hr
      cases sh with
      | true =>
        simp only [if_true] at hr
        cases hr
        generalize ByteArray.mk tag.toArray = X at *
        go_enter Tryz.func129, Tryz.ntmps129
        go_wp2_with (first | (go_at_call 146; refine U.out.mono ?_; rintro e w1 ⟨rfl, rfl⟩) | (go_at_call 147; refine S.out.mono ?_; rintro e w2 ⟨rfl, k2, g2⟩))
        go_ret
        exact ⟨rfl, k2, grown_trans hgW g2⟩
      | false =>
        simp only [Bool.false_eq_true, if_false] at hr
        have C := Lib.hid (fun w h => hasStrW P.tags tag (.slice ta P.tags.length tc) w h8 h)
        unfold strV at C
        cases hc : P.tags.contains tag with
        | true =>
          rw [hc] at hr C
          rw [if_pos rfl] at hr
          cases hr
          generalize ByteArray.mk tag.toArray = X at *
          go_enter Tryz.func129, Tryz.ntmps129
          go_wp2_with (first | (go_at_call 146; refine U.out.mono ?_; rintro e w1 ⟨rfl, rfl⟩) | (go_at_call 147; refine S.out.mono ?_; rintro e w2 ⟨rfl, k2, g2⟩; refine Hid.out ?_))
          have a1 := cellsAt (grown_at g2 HN.out.1 (by omega)) 0
          have a2 := cellsAt (grown_at g2 HN.out.2 (by omega)) 0
          simp only [List.getElem?_toArray, List.getElem?_cons_zero, List.getElem?_cons_succ] at a1 a2
          have CC := Lib.hid (C.out w2 (HE.out.grow g2).pol.tags)
          refine Lib.hid ?_
          go_wp2_with (go_at_call 148; refine CC.out.mono ?_; rintro e w3 ⟨rfl, rfl⟩)
          go_ret
          exact ⟨rfl, k2, grown_trans hgW g2⟩
        | false =>
          rw [hc] at hr C
          rw [if_neg (by simp)] at hr
          cases hr
          generalize ByteArray.mk tag.toArray = X at *
          go_enter Tryz.func129, Tryz.ntmps129
          go_wp2_with (first | (go_at_call 146; refine U.out.mono ?_; rintro e w1 ⟨rfl, rfl⟩) | (go_at_call 147; refine S.out.mono ?_; rintro e w2 ⟨rfl, k2, g2⟩; refine Hid.out ?_))
          have a1 := cellsAt (grown_at g2 HN.out.1 (by omega)) 0
          have a2 := cellsAt (grown_at g2 HN.out.2 (by omega)) 0
          simp only [List.getElem?_toArray, List.getElem?_cons_zero, List.getElem?_cons_succ] at a1 a2
          have CC := Lib.hid (C.out w2 (HE.out.grow g2).pol.tags)
          refine Lib.hid ?_
          go_wp2_with (go_at_call 148; refine CC.out.mono ?_; rintro e w3 ⟨rfl, rfl⟩)
          go_ret
          exact ⟨rfl, k2, grown_trans hgW g2⟩
end Go.Proofs.YteibjmlimcpaoaaGreatDoor.W

set_option linter.unusedVariables false
set_option linter.unusedSimpArgs false
namespace Go.Proofs.YteibjmlimcpaoaaGreatDoor.W
open Go.RowKit Go.Sort

/-- where a look at a file's tables stands -/
structure Sd (w0 : World) (dp kind p : Nat) (recs : Wn) (VT : Value) (l : List Tw) (P : Pol) (T I : Value) (D : List UInt8) (m : Mt) (w : World) : Prop where
  hp : p < w0.heap.size
  hdp : w0.heap.size ≤ dp
  hg : w0.grownBy w (some p)
  hd : DirAt dp kind (some ⟨p, 0, none⟩) (some ⟨p, 0, none⟩) recs VT w
  ht : TabsAt w0.heap.size p l VT w
  hf : FlAt p m D w
  hm : MOk m
  he : En P T I p w
section
variable {w0 : World} {dp kind p : Nat} {recs : Wn} {VT : Value} {l : List Tw} {P : Pol} {T I : Value} {D : List UInt8} {m m' : Mt} {w w' : World}
theorem Sd.meter (h : Sd w0 dp kind p recs VT l P T I D m w) (g : w.grownBy w' (some p)) (hf : FlAt p m' D w') (hm : MOk m') : Sd w0 dp kind p recs VT l P T I D m' w' :=
  ⟨h.hp, h.hdp, grown_trans h.hg g, grown_at g h.hd (by have := h.hp; have := h.hdp; omega), own_kept_g h.ht g h.hp, hf, hm, h.he.grow g⟩
theorem Sd.below (h : Sd w0 dp kind p recs VT l P T I D m w) (hb : Below w.heap.size w w') : Sd w0 dp kind p recs VT l P T I D m w' :=
  h.meter (grown_below _ hb) (grown_at (p := w'.heap.size + w.heap.size + p + 1) (grown_below _ hb) h.hf (by omega)) h.hm
theorem Sd.size (h : Sd w0 dp kind p recs VT l P T I D m w) : w0.heap.size ≤ w.heap.size := h.hg.size
end
theorem add_run (D : List UInt8) (P : Pol) (n e : Nat) (l : List Tw) (r : Wn) (m : Mt) (tag : List UInt8) (b s st : Nat) (m1 m2 m3 M : Mt) (inside : Bool) (v : Wn)
    (h1 : (r.cut 0 4).bytes.run D m = (tag, m1)) (h2 : (r.four 8).run D m1 = (b, m2)) (h3 : (r.four 12).run D m2 = (s, m3)) (h4 : (decide (e ≤ b) && holdsB n b s) = inside) (h5 : (if inside = true then (⟨b, s⟩ : Wn) else ⟨0, 0⟩) = v) (h6 : (statusP P l tag v inside).run D m3 = (st, M)) :
    (addP P n e l r).run D m = (l ++ [⟨tag, st, v.s, v⟩], M) := by
  unfold addP
  rw [Pr.run_bind, h1]
  simp only
  rw [Pr.run_bind, h2]
  simp only
  rw [Pr.run_bind, h3]
  simp only
  rw [h4, h5, Pr.run_bind, h6]
  rfl
theorem own_kind_ne' {w : World} {k B e T size n : Nat} {v : Value} {xs : List Value} {cs : Array Value} {fz : Nat × Nat} (ho : w.ownsRow B e size v n xs) (h : w.heap[k]? = some (.cells cs T fz)) (he : T ≠ e) : v.ownBlock ≠ some k := by
  intro hk
  obtain ⟨c, fz', h2⟩ := Lib.ownsRow_kind ho k hk
  rw [h] at h2
  cases h2
  exact he rfl
section
variable {w0 : World} {dp kind p : Nat} {recs : Wn} {VT : Value} {l : List Tw} {P : Pol} {T I : Value} {D : List UInt8} {m m' : Mt} {w w' wa w1 : World}
theorem grown_other {w0 w w' : World} {p k : Nat} (h : w0.grownBy w (some p)) (g : w.grownBy w' (some k)) (hk : w0.heap.size ≤ k) : w0.grownBy w' (some p) := grown_row h g (fun j hj => by cases hj; exact hk)
theorem En.other {P : Pol} {T I : Value} {p k : Nat} {w w' : World} (h : En P T I p w) (g : w.grownBy w' (some k)) (hk : p ≤ k) : En P T I p w' := by
  obtain ⟨wi, hb, hp, h1, h2, h3⟩ := h
  exact ⟨wi, hb.grown g (hb.size) (fun j hj => by cases hj; omega), hp, h1, h2, h3⟩
/-- a block of the function's own turns -/
theorem Sd.own (h : Sd w0 dp kind p recs VT l P T I D m w) {k : Nat} (g : w.grownBy w' (some k)) (hk : w0.heap.size ≤ k) (hd : k ≠ dp) (hv : VT.ownBlock ≠ some k) : Sd w0 dp kind p recs VT l P T I D m w' := by
  have := h.hp
  exact ⟨h.hp, h.hdp, grown_other h.hg g hk, grown_at g h.hd (Ne.symm hd), h.ht.kept g (.inr hv), grown_at g h.hf (by omega), h.hm, h.he.other g (by omega)⟩
/-- one table more -/
theorem Sd.push {V' : Value} {x : Tw} (h : Sd w0 dp kind p recs VT l P T I D m w) (hb : Below w.heap.size w wa) (hgr : wa.grownBy w1 VT.ownBlock) (ho : w1.ownsRow w0.heap.size 133 6 V' (l.length + 1) (dcells p l ++ dcells p [x])) :
    DirAt dp kind (some ⟨p, 0, none⟩) (some ⟨p, 0, none⟩) recs VT w1 ∧ Sd w0 dp kind p recs V' (l ++ [x]) P T I D m (w1.setCell ⟨dp, 5, none⟩ V') := by
  have s := h.below hb
  have hp := h.hp
  have hdp := h.hdp
  have hne : ∀ k, VT.ownBlock = some k → w0.heap.size ≤ k := fun k e => (s.ht.lt k e).1
  have g1 : w0.grownBy w1 (some p) := grown_row s.hg hgr hne
  have gs : w1.grownBy (w1.setCell ⟨dp, 5, none⟩ V') (some dp) := grown_set (World.grownBy.refl _ _) _ _
  have hd1 : DirAt dp kind (some ⟨p, 0, none⟩) (some ⟨p, 0, none⟩) recs VT w1 := by
    have := hgr.block dp (at_lt s.hd) (fun e => own_kind_ne' s.ht s.hd (by decide) e.symm)
    exact this.trans s.hd
  have hf1 : FlAt p m D w1 := (hgr.block p (at_lt s.hf) (fun e => by have := hne p e.symm; omega)).trans s.hf
  refine ⟨hd1, hp, hdp, grown_other g1 gs hdp, ?_, ?_, grown_at gs hf1 (by omega), h.hm, ?_⟩
  · exact setCell_row hd1 V'
  · show World.ownsRow _ _ _ _ _ (l ++ [x]).length (dcells p (l ++ [x]))
    rw [dcells_append, List.length_append]
    exact ho.kept gs (.inr (own_kind_ne' ho hd1 (by decide)))
  · obtain ⟨wi, hb', hp', q1, q2, q3⟩ := s.he
    have b1 := hb'.grown hgr hb'.size (fun j hj => by have := hne j hj; omega)
    exact ⟨wi, b1.grown gs b1.size (fun j hj => by cases hj; omega), hp', q1, q2, q3⟩
end
theorem infoD : (Tryz.prog.info? 133).map (fun i => (i.zero, i.size, i.bytes)) = some (some (.agg #[.string ⟨#[]⟩, .int .i64 0, .int .i64 0, .pointer none, .int .i64 0, .int .i64 0]), 6, 56) := by kernel_rfl
theorem newCellsAt (w : World) (cs : List Value) (T : TypeId) (b : Nat) (hb : w.heap.size = b) : ∀ j u, cs[j]? = some u → (w.alloc (.cells cs.toArray T)).cell? ((⟨b, 0, none⟩ : Addr).add j) = some u := by
  subst hb
  exact newCells w cs T
theorem own_any {w w' : World} {B e size n : Nat} {v : Value} {xs : List Value} (h : w.ownsRow B e size v n xs) (hb : Below w.heap.size w w') : w'.ownsRow B e size v n xs :=
  h.kept (row := none) (grown_below _ hb) (by cases hv : v.ownBlock <;> simp)

set_option maxRecDepth 100000 in
set_option maxHeartbeats 4000000 in
theorem addW (w0 : World) (dp kind p : Nat) (recs r : Wn) (VT : Value) (l : List Tw) (P : Pol) (T I : Value) (D : List UInt8) (m : Mt) (w : World) (hl : l.length < 16) (h8 : P.tags.length ≤ 8) (hr : InF r D) (hrc : InF recs D)
    (hT : ∀ t ∈ l, t.st ≤ 4 ∧ t.v.b ≤ 2000 ∧ t.v.s ≤ 2000) (h : Sd w0 dp kind p recs VT l P T I D m w) (x : Tw) (M : Mt) (hrun : (addP P D.length (recs.b + recs.s) l r).run D m = (l ++ [x], M)) :
    Calls Tryz.prog 97 #[.pointer (some ⟨dp, 0, none⟩), pv T I P.text, wv p r] w fun e w' => e = .returned (.tuple #[]) ∧ ∃ VT', Sd w0 dp kind p recs VT' (l ++ [x]) P T I D M w' := by
  obtain ⟨i0, hi, hz0, hz1, hz2⟩ := info_parts infoD
  obtain ⟨tag, m1, h1⟩ : ∃ tag m1, (r.cut 0 4).bytes.run D m = (tag, m1) := ⟨_, _, rfl⟩
  obtain ⟨b, m2, h2⟩ : ∃ b m2, (r.four 8).run D m1 = (b, m2) := ⟨_, _, rfl⟩
  obtain ⟨s, m3, h3⟩ : ∃ s m3, (r.four 12).run D m2 = (s, m3) := ⟨_, _, rfl⟩
  obtain ⟨inside, h4⟩ : ∃ inside, (decide (recs.b + recs.s ≤ b) && holdsB D.length b s) = inside := ⟨_, rfl⟩
  obtain ⟨v, h5⟩ : ∃ v, (if inside = true then (⟨b, s⟩ : Wn) else ⟨0, 0⟩) = v := ⟨_, rfl⟩
  obtain ⟨st, M', h6⟩ : ∃ st M', (statusP P l tag v inside).run D m3 = (st, M') := ⟨_, _, rfl⟩
  have hadd := add_run D P D.length (recs.b + recs.s) l r m tag b s st m1 m2 m3 M' inside v h1 h2 h3 h4 h5 h6
  rw [hrun] at hadd
  obtain ⟨hx, hM⟩ := Prod.mk.inj hadd
  have hx' : x = ⟨tag, st, v.s, v⟩ := by simpa using hx
  subst hx' hM
  clear hadd hx hrun
  have mk1 : MOk m1 := by have := MOk.run D (r.cut 0 4).bytes h.hm; rw [h1] at this; exact this
  have mk2 : MOk m2 := by have := MOk.run D (r.four 8) mk1; rw [h2] at this; exact this
  have mk3 : MOk m3 := by have := MOk.run D (r.four 12) mk2; rw [h3] at this; exact this
  have mk4 : MOk M := by have := MOk.run D (statusP P l tag v inside) mk3; rw [h6] at this; exact this
  have bb : b < 4294967296 := by have := four_lt D r 8 m1; rw [h2] at this; exact this
  have sb : s < 4294967296 := by have := four_lt D r 12 m2; rw [h3] at this; exact this
  have hD2 : D.length ≤ 2000 := hr.2
  have hs1 := h.he.pol.tags
  have hs2 := h.he.pol.ids
  obtain ⟨ta, tc, hTe, _⟩ := hs1
  obtain ⟨ia, ic, hIe, _⟩ := hs2
  have hp := h.hp
  have hdp := h.hdp
  have hsz := h.size
  have hrc1 := hrc.1
  obtain ⟨W, hW⟩ : ∃ W, (w.alloc (.cells #[T, I, .int .i64 P.text] 25)).alloc (.cells #[.pointer (some ⟨p, 0, none⟩), .int .i64 (r.b : Int), .int .i64 (r.s : Int)] 126) = W := ⟨_, rfl⟩
  have hbW : Below w.heap.size w W := by rw [← hW]; exact (below_alloc _ _).alloc (by simp) _
  have n1 : W.heap[w.heap.size]? = some (.cells #[T, I, .int .i64 P.text] 25 (0, 0)) := by rw [← hW]; exact at_alloc (new_at _ _)
  have n2 : W.heap[w.heap.size + 1]? = some (.cells #[.pointer (some ⟨p, 0, none⟩), .int .i64 (r.b : Int), .int .i64 (r.s : Int)] 126 (0, 0)) := by
    rw [← hW]
    have := new_at (w.alloc (.cells #[T, I, .int .i64 P.text] 25)) (.cells #[.pointer (some ⟨p, 0, none⟩), .int .i64 (r.b : Int), .int .i64 (r.s : Int)] 126)
    simpa using this
  have sW := h.below hbW
  subst hTe hIe
  clear h hbW
  have A1 := Lib.hid (twinW (some ⟨p, 0, none⟩) r 0 4 W hr.b hr.s (by omega) (by omega))
  have A2 := Lib.hid (fun w f => bytesW p (r.cut 0 4) m D w (cut_in hr 0 4) sW.hm f tag m1 (by rw [h1]) (by rw [h1]))
  have A3 := Lib.hid (fun w f => fourW p 8 r m1 D w (by omega) hr mk1 f)
  have A4 := Lib.hid (fun w f => fourW p 12 r m2 D w (by omega) hr mk2 f)
  rw [h2] at A3
  rw [h3] at A4
  simp only at A3 A4
  have y0 := cellsAt n2 0
  have y1 := cellsAt n2 1
  have y2 := cellsAt n2 2
  simp only [List.getElem?_toArray, List.getElem?_cons_zero, List.getElem?_cons_succ] at y0 y1 y2
  unfold pv
  unfold wq at A1
  unfold wv at A2 A3 A4 ⊢
  have HH := Lib.hid (And.intro h4 (And.intro h5 (And.intro h6 hT)))
  clear h1 h2 h3 h4 h5 h6 hT
  generalize r.cut 0 4 = rc at *
  have HS := Lib.hid sW
  clear sW
  go_enter Tryz.func97, Tryz.ntmps97
  go_wp2_with (first | (go_at_call 93; refine A1.out.mono ?_; rintro e w1 ⟨rfl, hb1⟩) | (go_at_call 94; refine (A2.out w1 (HS.out.below hb1).hf).mono ?_; rintro e w2 ⟨rfl, k2, g2⟩; refine Hid.out ?_))
  have s2 := (HS.out.below hb1).meter g2 k2 mk1
  have e1 := grown_at g2 (grown_at (p := W.heap.size + w1.heap.size + p + 1) (grown_below _ hb1) n1 (by have := at_lt n1; omega)) (by omega)
  have e2 := grown_at g2 (grown_at (p := W.heap.size + w1.heap.size + p + 1) (grown_below _ hb1) n2 (by have := at_lt n2; omega)) (by omega)
  clear y0 y1 y2 n1 n2 hW A1 A2 HS k2 g2 hb1
  have y0 := cellsAt e2 0
  have y1 := cellsAt e2 1
  have y2 := cellsAt e2 2
  simp only [List.getElem?_toArray, List.getElem?_cons_zero, List.getElem?_cons_succ] at y0 y1 y2
  have HS := Lib.hid s2
  have K2 := s2.hf
  clear s2
  have hne1 : w.heap.size + 1 ≠ p := by omega
  refine Lib.hid ?_
  go_upto_region 2 with fail
  go_cut [7, 8] (fun s7 s8 wx => s7 = .int .i64 (b : Int) ∧ s8 = .int .i64 (s : Int) ∧ w2.grownBy wx (some p) ∧ FlAt p m3 D wx)
  case first =>
    go_region_with (first
      | (go_at_call_of 128 (Value.int IntKind.i64 12); refine (A4.out _ ?_).mono ?_; exact k3; rintro e w4 ⟨rfl, k4, g4⟩; obtain ⟨q20, q21, q22⟩ := box_kept (grown_trans g3 g4) e2 hne1)
      | (go_at_call_of 128 (Value.int IntKind.i64 8); refine (A3.out _ ?_).mono ?_; exact K2; rintro e w3 ⟨rfl, k3, g3⟩; obtain ⟨q10, q11, q12⟩ := box_kept g3 e2 hne1))
    all_goals (
      go_wp2_with fail
      go_meet
      exact ⟨rfl, rfl, grown_drew (grown_trans g3 g4), k4⟩)
  case rest =>
    obtain ⟨rfl, rfl, g4, k4⟩ := hcut
    have s4 := HS.out.meter g4 k4 mk3
    have e3 := grown_at g4 e1 (by omega)
    clear y0 y1 y2 A3 A4 K2 HS e1 e2 g4 k4
    have z1 := cellsAt s4.hd 1
    have z2 := cellsAt s4.hd 2
    have z3 := cellsAt s4.hd 3
    have z4 := cellsAt s4.hd 4
    simp only [List.getElem?_toArray, List.getElem?_cons_zero, List.getElem?_cons_succ] at z1 z2 z3 z4
    have A5 := Lib.hid (placesW (some ⟨p, 0, none⟩) recs wc hrc.b hrc.s)
    have A6 := Lib.hid (fun w f => fholdsW p m3 D b s w hD2 (by omega) (by omega) f)
    unfold wq at A5
    have HS := Lib.hid s4
    clear s4
    obtain ⟨E, hE⟩ : ∃ E : Int, ((recs.b + recs.s : Nat) : Int) = E := ⟨_, rfl⟩
    rw [hE] at A5
    go_wp2_with (go_at_call 89; refine A5.out.mono ?_; rintro e w5 ⟨rfl, hb5⟩; refine Hid.out ?_)
    have s5 := HS.out.below hb5
    have e4 := grown_at (p := wc.heap.size + w5.heap.size + p + 1) (grown_below _ hb5) e3 (by have := at_lt e3; omega)
    clear z1 z2 z3 z4 A5 HS e3 hb5
    have z1 := cellsAt s5.hd 1
    simp only [List.getElem?_toArray, List.getElem?_cons_zero, List.getElem?_cons_succ] at z1
    obtain ⟨h4, h5, h6, hT⟩ := HH.out
    have B6 := Lib.hid (A6.out w5 s5.hf)
    clear A6 HH
    have HI : inside = true → (recs.b + recs.s ≤ b ∧ b + s ≤ D.length) := by
      intro hi
      rw [hi] at h4
      simp only [Bool.and_eq_true, decide_eq_true_eq, holdsB] at h4
      omega
    have hvb : v.b ≤ 2000 ∧ v.s ≤ 2000 := by
      rw [← h5]
      cases inside with
      | true => have := HI rfl; simp only [if_true]; omega
      | false => simp
    have SS := Lib.hid (fun (st0 size : Nat) w hw sd => statusW dp kind w0.heap.size p st0 size (some ⟨p, 0, none⟩) (some ⟨p, 0, none⟩) recs VT l tag v inside m3 D P (.slice ta P.tags.length tc) (.slice ia P.ids.length ic) w (by omega) hp hw (by omega) h8 (Sd.hd sd) (Sd.ht sd) hvb hT (Sd.hf sd) mk3 (Sd.he sd) st M h6)
    have HSd := Lib.hid s5
    have H45 := Lib.hid (And.intro h4 h5)
    clear h4 h5 h6 hT s5
    refine Lib.hid ?_
    go_upto_region 4 with fail
    go_cut [11] (fun s11 wx => s11 = .bool inside ∧ wx = w5)
    case first =>
      obtain ⟨h4, h5⟩ := H45.out
      by_cases hge : recs.b + recs.s ≤ b
      · have d1 : decide (E ≤ (b : Int)) = true := decide_eq_true (by omega)
        have d2 : (b : Int) ≥ E := by omega
        have e1 : decide (recs.b + recs.s ≤ b) = true := decide_eq_true hge
        rw [e1, Bool.true_and] at h4
        rw [h4] at B6
        clear h4 h5 e1 H45
        go_wp2_with (go_at_call 96; refine B6.out.mono ?_; rintro e w6 ⟨rfl, rfl⟩)
        go_meet
        exact ⟨rfl, rfl⟩
      · have d1 : decide (E ≤ (b : Int)) = false := decide_eq_false (by omega)
        have d2 : ¬ ((b : Int) ≥ E) := by omega
        have e1 : decide (recs.b + recs.s ≤ b) = false := decide_eq_false hge
        rw [e1, Bool.false_and] at h4
        subst h4
        clear h5 e1 H45 SS
        go_wp2
        go_meet
        exact ⟨rfl, rfl⟩
    case rest =>
      obtain ⟨rfl, rfl⟩ := hcut
      clear B6
      cases inside with
      | true =>
        have hvv : v = ⟨b, s⟩ := by rw [← H45.out.2]; rfl
        subst hvv
        have A7 := Lib.hid (fwinW p m3 D b s wc hD2 (by omega) (by omega) HSd.out.hf)
        have hc7 : (Wn.mk 0 D.length).cut b s = ⟨b, s⟩ := by
          have := HI rfl
          unfold Wn.cut
          simp only [Nat.zero_add]
          rw [Nat.min_eq_left (by omega), Nat.min_eq_left (by omega)]
        rw [hc7] at A7
        unfold wv at A7
        simp only at A7
        clear hc7 H45 HI
        go_wp2_with (go_at_call 69; refine A7.out.mono ?_; rintro e w7 ⟨rfl, hb7⟩; refine Hid.out ?_)
        have s7 := HSd.out.below hb7
        have hk7 : ∀ k, VT.ownBlock = some k → k < w7.heap.size := fun k e => (s7.ht.lt k e).2
        have e7 := grown_at (p := wc.heap.size + w7.heap.size + p + 1) (grown_below _ hb7) e4 (by have := at_lt e4; omega)
        obtain ⟨W8, hW8⟩ : ∃ W8, w7.alloc (.cells #[.string ⟨tag.toArray⟩, .int .i64 0, .int .i64 (s : Int), .pointer (some ⟨p, 0, none⟩), .int .i64 (b : Int), .int .i64 (s : Int)] 133) = W8 := ⟨_, rfl⟩
        have s8 : Sd w0 dp kind p recs VT l P (.slice ta P.tags.length tc) (.slice ia P.ids.length ic) D m3 W8 := by rw [← hW8]; exact s7.below (below_alloc _ _)
        have n8 : W8.heap[w7.heap.size]? = some (.cells #[.string ⟨tag.toArray⟩, .int .i64 0, .int .i64 (s : Int), .pointer (some ⟨p, 0, none⟩), .int .i64 (b : Int), .int .i64 (s : Int)] 133 (0, 0)) := by rw [← hW8]; exact new_at _ _
        have e8 : W8.heap[w.heap.size]? = some (.cells #[.slice ta P.tags.length tc, .slice ia P.ids.length ic, .int .i64 P.text] 25 (0, 0)) := by rw [← hW8]; exact at_alloc e7
        have hz8 : W8.heap.size = w7.heap.size + 1 := by rw [← hW8]; simp
        have y0 := cellsAt e8 0
        have y1 := cellsAt e8 1
        have y2 := cellsAt e8 2
        have x0 := cellsAt n8 0
        have x1 := cellsAt n8 1
        have x2 := cellsAt n8 2
        have x3 := cellsAt n8 3
        have x4 := cellsAt n8 4
        have x5 := cellsAt n8 5
        simp only [List.getElem?_toArray, List.getElem?_cons_zero, List.getElem?_cons_succ] at y0 y1 y2 x0 x1 x2 x3 x4 x5
        have CS := Lib.hid (SS.out 0 s W8 s8.size s8)
        unfold pv tv strV at CS
        simp only [Int.ofNat_zero, Int.natCast_zero, Int.cast_ofNat_Int] at CS
        have sz7 : w0.heap.size ≤ w7.heap.size := s7.size
        have H8 := Lib.hid s8
        subst hW8
        clear s7 s8 e7 SS A7 HSd z1 hb7 e4
        refine Lib.hid ?_
        go_wp2_with (go_at_call 129; refine CS.out.mono ?_; rintro e w9 ⟨rfl, k9, g9⟩; refine Hid.out ?_)
        have s9 := H8.out.meter g9 k9 mk4
        have n9 := grown_at g9 n8 (by omega)
        have hz9 := g9.size
        clear y0 y1 y2 x0 x1 x2 x3 x4 x5 H8 CS n8 e8 g9 k9
        have f1 := frozenAt n9 1
        have x1 := cellsAt n9 1
        simp only [List.getElem?_toArray, List.getElem?_cons_zero, List.getElem?_cons_succ] at x1
        obtain ⟨W, hW⟩ : ∃ W, w9.setCell ⟨w7.heap.size, 1, none⟩ (.int .i64 (st : Int)) = W := ⟨_, rfl⟩
        have nW : W.heap[w7.heap.size]? = some (.cells #[.string ⟨tag.toArray⟩, .int .i64 (st : Int), .int .i64 (s : Int), .pointer (some ⟨p, 0, none⟩), .int .i64 (b : Int), .int .i64 (s : Int)] 133 (0, 0)) := by rw [← hW]; exact setCell_row n9 _
        have sW : Sd w0 dp kind p recs VT l P (.slice ta P.tags.length tc) (.slice ia P.ids.length ic) D M W := by rw [← hW]; exact s9.own (grown_set (World.grownBy.refl _ _) _ _) sz7 (by have := at_lt s9.hd; intro e; rw [e] at n9; exact absurd (n9.symm.trans s9.hd) (by simp)) (fun e => by have := hk7 _ e; omega)
        have szW : w7.heap.size < W.heap.size := at_lt nW
        clear s9 n9
        refine Lib.hid ?_
        go_wp2_with fail
        clear f1 x1 hW
        have c5 := cellsAt sW.hd 5
        have e5 := cellsAt (at_alloc (q := .cells #[.string ⟨tag.toArray⟩, .int .i64 (st : Int), .int .i64 (s : Int), .pointer (some ⟨p, 0, none⟩), .int .i64 (b : Int), .int .i64 (s : Int)] 133) sW.hd) 5
        have x0 := cellsAt nW 0
        have x1 := cellsAt nW 1
        have x2 := cellsAt nW 2
        have x3 := cellsAt nW 3
        have x4 := cellsAt nW 4
        have x5 := cellsAt nW 5
        simp only [List.getElem?_toArray, List.getElem?_cons_zero, List.getElem?_cons_succ] at c5 e5 x0 x1 x2 x3 x4 x5
        have hsW := sW.size
        obtain ⟨sao, scap, hVT⟩ := own_slice sW.ht
        subst hVT
        have own := sW.ht
        unfold TabsAt at own
        clear nW
        go_region_law (refine step_append_lies _ rfl (.tmp 64) (.tmp 66) 128 rfl w0.heap.size 133 i0 (.agg #[.string ⟨#[]⟩, .int .i64 0, .int .i64 0, .pointer none, .int .i64 0, .int .i64 0]) 6 56 Tryz.underlying128 hi hz0 hz1 hz2 rfl (by decide) (.slice sao l.length scap) l.length (dcells p l) (by simp [Act.eval, Act.put]) (own_any own (by first | exact (Below.refl _ _).drew.alloc (Nat.le_refl _) _ | exact ((Below.refl _ _).alloc (Nat.le_refl _) _).drew)) ⟨W.heap.size, 0, none⟩ 1 1 (dcells p [⟨tag, st, s, ⟨b, s⟩⟩]) (by simp [Act.eval, Act.put]) rfl (by first | exact newCellsAt _ _ _ _ rfl | exact fun j u h => newCells W _ _ j u h) (fun x hx => by simp [dcells, strV] at hx; rcases hx with rfl | rfl | rfl | rfl | rfl | rfl <;> rfl) (by decide) (by unfold maxLen; omega) (by omega) (by simp; omega) _ rfl ?_; intro g3 k3 w3 o3' gr3 at3 lt3; obtain ⟨b3, rb3⟩ := sW.push (by first | exact (Below.refl _ _).drew.alloc (Nat.le_refl _) _ | exact ((Below.refl _ _).alloc (Nat.le_refl _) _).drew) gr3 o3'; have d5 := cellsAt b3 5; have f5 := frozenAt b3 5; simp only [List.getElem?_toArray, List.getElem?_cons_zero, List.getElem?_cons_succ] at d5; clear gr3 at3 lt3 o3' b3)
        all_goals (
          go_end0
          first | exact ⟨rfl, _, rb3⟩ | exact ⟨rfl, _, rb3.below (Below.refl _ _).drew⟩)
      | false =>
        have hvv : v = ⟨0, 0⟩ := by rw [← H45.out.2]; rfl
        subst hvv
        have A7 := Lib.hid (fwinW p m3 D 0 0 wc hD2 (by omega) (by omega) HSd.out.hf)
        have hc7 : (Wn.mk 0 D.length).cut 0 0 = ⟨0, 0⟩ := by
          unfold Wn.cut
          simp
        rw [hc7] at A7
        unfold wv at A7
        simp only [Int.ofNat_zero, Int.natCast_zero, Int.cast_ofNat_Int] at A7
        clear hc7 H45 HI
        go_wp2_with (go_at_call 69; refine A7.out.mono ?_; rintro e w7 ⟨rfl, hb7⟩; refine Hid.out ?_)
        have s7 := HSd.out.below hb7
        have hk7 : ∀ k, VT.ownBlock = some k → k < w7.heap.size := fun k e => (s7.ht.lt k e).2
        have e7 := grown_at (p := wc.heap.size + w7.heap.size + p + 1) (grown_below _ hb7) e4 (by have := at_lt e4; omega)
        obtain ⟨W8, hW8⟩ : ∃ W8, w7.alloc (.cells #[.string ⟨tag.toArray⟩, .int .i64 0, .int .i64 0, .pointer (some ⟨p, 0, none⟩), .int .i64 0, .int .i64 0] 133) = W8 := ⟨_, rfl⟩
        have s8 : Sd w0 dp kind p recs VT l P (.slice ta P.tags.length tc) (.slice ia P.ids.length ic) D m3 W8 := by rw [← hW8]; exact s7.below (below_alloc _ _)
        have n8 : W8.heap[w7.heap.size]? = some (.cells #[.string ⟨tag.toArray⟩, .int .i64 0, .int .i64 0, .pointer (some ⟨p, 0, none⟩), .int .i64 0, .int .i64 0] 133 (0, 0)) := by rw [← hW8]; exact new_at _ _
        have e8 : W8.heap[w.heap.size]? = some (.cells #[.slice ta P.tags.length tc, .slice ia P.ids.length ic, .int .i64 P.text] 25 (0, 0)) := by rw [← hW8]; exact at_alloc e7
        have hz8 : W8.heap.size = w7.heap.size + 1 := by rw [← hW8]; simp
        have y0 := cellsAt e8 0
        have y1 := cellsAt e8 1
        have y2 := cellsAt e8 2
        have x0 := cellsAt n8 0
        have x1 := cellsAt n8 1
        have x2 := cellsAt n8 2
        have x3 := cellsAt n8 3
        have x4 := cellsAt n8 4
        have x5 := cellsAt n8 5
        simp only [List.getElem?_toArray, List.getElem?_cons_zero, List.getElem?_cons_succ] at y0 y1 y2 x0 x1 x2 x3 x4 x5
        have CS := Lib.hid (SS.out 0 0 W8 s8.size s8)
        unfold pv tv strV at CS
        simp only [Int.ofNat_zero, Int.natCast_zero, Int.cast_ofNat_Int] at CS
        have sz7 : w0.heap.size ≤ w7.heap.size := s7.size
        have H8 := Lib.hid s8
        subst hW8
        clear s7 s8 e7 SS A7 HSd z1 hb7 e4
        refine Lib.hid ?_
        go_wp2_with (go_at_call 129; refine CS.out.mono ?_; rintro e w9 ⟨rfl, k9, g9⟩; refine Hid.out ?_)
        have s9 := H8.out.meter g9 k9 mk4
        have n9 := grown_at g9 n8 (by omega)
        have hz9 := g9.size
        clear y0 y1 y2 x0 x1 x2 x3 x4 x5 H8 CS n8 e8 g9 k9
        have f1 := frozenAt n9 1
        have x1 := cellsAt n9 1
        simp only [List.getElem?_toArray, List.getElem?_cons_zero, List.getElem?_cons_succ] at x1
        obtain ⟨W, hW⟩ : ∃ W, w9.setCell ⟨w7.heap.size, 1, none⟩ (.int .i64 (st : Int)) = W := ⟨_, rfl⟩
        have nW : W.heap[w7.heap.size]? = some (.cells #[.string ⟨tag.toArray⟩, .int .i64 (st : Int), .int .i64 0, .pointer (some ⟨p, 0, none⟩), .int .i64 0, .int .i64 0] 133 (0, 0)) := by rw [← hW]; exact setCell_row n9 _
        have sW : Sd w0 dp kind p recs VT l P (.slice ta P.tags.length tc) (.slice ia P.ids.length ic) D M W := by rw [← hW]; exact s9.own (grown_set (World.grownBy.refl _ _) _ _) sz7 (by have := at_lt s9.hd; intro e; rw [e] at n9; exact absurd (n9.symm.trans s9.hd) (by simp)) (fun e => by have := hk7 _ e; omega)
        have szW : w7.heap.size < W.heap.size := at_lt nW
        clear s9 n9
        refine Lib.hid ?_
        go_wp2_with fail
        clear f1 x1 hW
        have c5 := cellsAt sW.hd 5
        have e5 := cellsAt (at_alloc (q := .cells #[.string ⟨tag.toArray⟩, .int .i64 (st : Int), .int .i64 0, .pointer (some ⟨p, 0, none⟩), .int .i64 0, .int .i64 0] 133) sW.hd) 5
        have x0 := cellsAt nW 0
        have x1 := cellsAt nW 1
        have x2 := cellsAt nW 2
        have x3 := cellsAt nW 3
        have x4 := cellsAt nW 4
        have x5 := cellsAt nW 5
        simp only [List.getElem?_toArray, List.getElem?_cons_zero, List.getElem?_cons_succ] at c5 e5 x0 x1 x2 x3 x4 x5
        have hsW := sW.size
        obtain ⟨sao, scap, hVT⟩ := own_slice sW.ht
        subst hVT
        have own := sW.ht
        unfold TabsAt at own
        clear nW
        go_region_law (refine step_append_lies _ rfl (.tmp 64) (.tmp 66) 128 rfl w0.heap.size 133 i0 (.agg #[.string ⟨#[]⟩, .int .i64 0, .int .i64 0, .pointer none, .int .i64 0, .int .i64 0]) 6 56 Tryz.underlying128 hi hz0 hz1 hz2 rfl (by decide) (.slice sao l.length scap) l.length (dcells p l) (by simp [Act.eval, Act.put]) (own_any own (by first | exact (Below.refl _ _).drew.alloc (Nat.le_refl _) _ | exact ((Below.refl _ _).alloc (Nat.le_refl _) _).drew)) ⟨W.heap.size, 0, none⟩ 1 1 (dcells p [⟨tag, st, 0, ⟨0, 0⟩⟩]) (by simp [Act.eval, Act.put]) rfl (by first | exact newCellsAt _ _ _ _ rfl | exact fun j u h => newCells W _ _ j u h) (fun x hx => by simp [dcells, strV] at hx; rcases hx with rfl | rfl | rfl | rfl | rfl | rfl <;> rfl) (by decide) (by unfold maxLen; omega) (by omega) (by simp; omega) _ rfl ?_; intro g3 k3 w3 o3' gr3 at3 lt3; obtain ⟨b3, rb3⟩ := sW.push (by first | exact (Below.refl _ _).drew.alloc (Nat.le_refl _) _ | exact ((Below.refl _ _).alloc (Nat.le_refl _) _).drew) gr3 o3'; have d5 := cellsAt b3 5; have f5 := frozenAt b3 5; simp only [List.getElem?_toArray, List.getElem?_cons_zero, List.getElem?_cons_succ] at d5; clear gr3 at3 lt3 o3' b3)
        all_goals (
          go_end0
          first | exact ⟨rfl, _, rb3⟩ | exact ⟨rfl, _, rb3.below (Below.refl _ _).drew⟩)
end Go.Proofs.YteibjmlimcpaoaaGreatDoor.W

set_option linter.unusedVariables false
set_option linter.unusedSimpArgs false
namespace Go.Proofs.YteibjmlimcpaoaaGreatDoor.W
open Go.RowKit Go.Sort

/-- the pointer of the table of a tag: the file's, or none -/
def tabQ (p : Nat) (tag : List UInt8) : List Tw → Option Addr
  | [] => none
  | t :: l => if t.tag = tag then some ⟨p, 0, none⟩ else tabQ p tag l
theorem tabQ_good (p : Nat) (tag : List UInt8) : ∀ l : List Tw, (tableOf tag l).2 ≠ 8 → tabQ p tag l = some ⟨p, 0, none⟩
  | [], h => by simp [tableOf] at h
  | t :: l, h => by
    rw [tableOf] at h
    rw [tabQ]
    split
    · rfl
    · rename_i hne
      rw [if_neg hne] at h
      exact tabQ_good p tag l h

/-- three cells of a result in a block of one's own -/
theorem end3b {w w1 : World} {k : Nat} {x0 x1 x2 v0 v1 v2 : Value} {T : TypeId} (q : w1.heap[k]? = some (.cells #[x0, x1, x2] T (0, 0))) (hk : w.heap.size ≤ k) (g : Below w.heap.size w w1) :
    (((w1.setCell ⟨k, 0, none⟩ v0).setCell ⟨k, 1, none⟩ v1).setCell ⟨k, 2, none⟩ v2).cell? ⟨k, 0, none⟩ = some v0 ∧ (((w1.setCell ⟨k, 0, none⟩ v0).setCell ⟨k, 1, none⟩ v1).setCell ⟨k, 2, none⟩ v2).cell? ⟨k, 1, none⟩ = some v1 ∧ (((w1.setCell ⟨k, 0, none⟩ v0).setCell ⟨k, 1, none⟩ v1).setCell ⟨k, 2, none⟩ v2).cell? ⟨k, 2, none⟩ = some v2 ∧ Below w.heap.size w (((w1.setCell ⟨k, 0, none⟩ v0).setCell ⟨k, 1, none⟩ v1).setCell ⟨k, 2, none⟩ v2) ∧ (((w1.setCell ⟨k, 0, none⟩ v0).setCell ⟨k, 1, none⟩ v1).setCell ⟨k, 2, none⟩ v2).heap[k]? = some (.cells #[v0, v1, v2] T (0, 0)) := by
  have q3 := setCell_row (i := 2) (setCell_row (i := 1) (setCell_row (i := 0) q v0) v1) v2
  exact ⟨cellsAt q3 0, cellsAt q3 1, cellsAt q3 2, ((g.setCell hk _).setCell hk _).setCell hk _, q3⟩
set_option maxRecDepth 100000 in
set_option maxHeartbeats 2000000 in
theorem tableW (dp kind B p : Nat) (fq rq : Option Addr) (recs : Wn) (VT : Value) (l : List Tw) (X : ByteArray) (tag : List UInt8) (w : World) (hl : l.length ≤ 16) (hX : X.data.toList = tag) (hd : DirAt dp kind fq rq recs VT w) (ht : TabsAt B p l VT w) (r : Wn × Nat) (q : Option Addr) (hr : tableOf tag l = r) (hq : tabQ p tag l = q) :
    Calls Tryz.prog 79 #[.pointer (some ⟨dp, 0, none⟩), .string X] w fun e w' => e = .returned (.tuple #[wq q r.1, .int .i64 r.2]) ∧ Below w.heap.size w w' := by
  have b0 := below_alloc w (.cells #[.pointer none, .int .i64 0, .int .i64 0] 126)
  have x5 := cellsAt (at_alloc (q := .cells #[.pointer none, .int .i64 0, .int .i64 0] 126) hd) 5
  simp only [List.getElem?_toArray, List.getElem?_cons_zero, List.getElem?_cons_succ] at x5
  have r0 := new_at w (.cells #[.pointer none, .int .i64 0, .int .i64 0] 126)
  obtain ⟨ao, cap, rfl⟩ := own_slice ht
  have HT := Lib.hid (own_any ht b0)
  have HR := Lib.hid (And.intro hr hq)
  have hX' : X = ⟨tag.toArray⟩ := ByteArray.ext (by rw [← hX])
  clear hd ht hr hq
  go_enter Tryz.func79, Tryz.ntmps79
  go_wp2
  clear x5
  go_loopw [13] (fun is wr => ∃ (k : Nat), is = .int .i64 (k : Int) ∧ k ≤ l.length ∧ Below (w.heap.size + 1) (w.alloc (.cells #[.pointer none, .int .i64 0, .int .i64 0] 126)) wr ∧ Hid (tableOf tag (l.drop k) = r ∧ tabQ p tag (l.drop k) = q)) (fun is _ => l.length - (intOf is).toNat)
  case atStart => exact ⟨0, rfl, Nat.zero_le _, Below.refl _ _, HR.out⟩
  case round =>
    obtain ⟨k, rfl, hk, hbw, H⟩ := hrel
    have hbw' : Below (w.alloc (.cells #[.pointer none, .int .i64 0, .int .i64 0] 126)).heap.size (w.alloc (.cells #[.pointer none, .int .i64 0, .int .i64 0] 126)) wr := by simpa using hbw
    have q0 := at_below r0 hbw'
    by_cases hklt : k < l.length
    · obtain ⟨t, htk⟩ : ∃ t, l[k]? = some t := ⟨_, List.getElem?_eq_getElem hklt⟩
      have own1 := own_any HT.out hbw'
      obtain ⟨g, cap', cs, hve, hbg, hg⟩ := own_form own1 (by omega)
      cases hve
      obtain ⟨c0, c1, c2, c3, c4, c5⟩ := tab_cells own1 k t htk
      have ik : (k : Int) < (l.length : Int) := by omega
      have ik0 : (0 : Int) ≤ (k : Int) := by omega
      have hst := H.out
      rw [List.drop_eq_getElem_cons hklt, show l[k] = t from Option.some.inj ((List.getElem?_eq_getElem hklt).symm.trans htk), tableOf, tabQ] at hst
      unfold strV at c0
      by_cases he : t.tag = tag
      · rw [if_pos he, if_pos he] at hst
        obtain ⟨hr, hq⟩ := hst
        subst hr hq
        have e1 : ByteArray.mk t.tag.toArray = X := by rw [he, hX']
        have s1 := str_eq e1
        generalize ByteArray.mk t.tag.toArray = Y at *
        have u0 := cellsAt q0 0
        have u1 := cellsAt q0 1
        have u2 := cellsAt q0 2
        have f0 := frozenAt q0 0
        have f1 := frozenAt q0 1
        have f2 := frozenAt q0 2
        simp only [List.getElem?_toArray, List.getElem?_cons_zero, List.getElem?_cons_succ] at u0 u1 u2
        clear e1 he hX hX' HR H
        obtain ⟨z0, z1, z2, zb, zq⟩ := end3b (w := w) (v0 := .pointer (some ⟨p, 0, none⟩)) (v1 := .int .i64 (t.v.b : Int)) (v2 := .int .i64 (t.v.s : Int)) q0 (Nat.le_refl _) (b0.trans (hbw'.mono (by simp)))
        have za := at_alloc (q := .cells #[.string Y, .int .i64 (t.st : Int), .int .i64 (t.size : Int), .pointer (some ⟨p, 0, none⟩), .int .i64 (t.v.b : Int), .int .i64 (t.v.s : Int)] 133) zq
        have zc0 := cellsAt za 0
        have zc1 := cellsAt za 1
        have zc2 := cellsAt za 2
        simp only [List.getElem?_toArray, List.getElem?_cons_zero, List.getElem?_cons_succ] at zc0 zc1 zc2
        have HZ := Lib.hid (And.intro zc0 (And.intro zc1 (And.intro zc2 zb)))
        clear z0 z1 z2 zb zq za zc0 zc1 zc2
        have hlw : w.heap.size < wr.heap.size := at_lt q0
        have hn1 : ¬ (w.heap.size = wr.heap.size) := by omega
        have hn2 : ¬ (wr.heap.size = w.heap.size) := by omega
        go_wp2_with fail
        go_region
        all_goals (
          go_wp2
          obtain ⟨z0, z1, z2, zb⟩ := HZ.out
          exact bodyPost_ret (v := .tuple #[.agg #[.pointer (some ⟨p, 0, none⟩), .int .i64 (t.v.b : Int), .int .i64 (t.v.s : Int)], .int .i64 (t.st : Int)]) (by simp [results, Tryz.results79, go_sem, z0, z1, z2]) rfl ⟨rfl, by first | exact (zb.alloc zb.size _).drew | exact zb.drew.alloc zb.size _⟩)
      · rw [if_neg he, if_neg he] at hst
        have H1 := Lib.hid hst
        have e1 : ¬ ByteArray.mk t.tag.toArray = X := by
          rw [hX']
          intro e
          exact he (mk_inj e)
        have s1 := str_ne e1
        generalize ByteArray.mk t.tag.toArray = Y at *
        clear e1 he hX hX' HR H hst
        go_wp2
        exact ⟨⟨k + 1, by go_num, by omega, hbw.alloc (by have := hbw.size; simpa using this) _, H1⟩, by simp [intOf]; omega⟩
    · have hst := H.out
      rw [List.drop_eq_nil_of_le (by omega)] at hst
      obtain ⟨hr, hq⟩ := hst
      subst hr hq
      have ik : ¬ ((k : Int) < (l.length : Int)) := by omega
      have u0 := cellsAt q0 0
      have u1 := cellsAt q0 1
      have u2 := cellsAt q0 2
      have f0 := frozenAt q0 0
      have f1 := frozenAt q0 1
      have f2 := frozenAt q0 2
      simp only [List.getElem?_toArray, List.getElem?_cons_zero, List.getElem?_cons_succ] at u0 u1 u2
      clear HR H
      go_wp2
      obtain ⟨z0, z1, z2, zb, zq⟩ := end3b (w := w) (v0 := .pointer none) (v1 := .int .i64 0) (v2 := .int .i64 0) q0 (Nat.le_refl _) (b0.trans (hbw'.mono (by simp)))
      exact bodyPost_ret (v := .tuple #[.agg #[.pointer none, .int .i64 0, .int .i64 0], .int .i64 8]) (by simp [results, Tryz.results79, go_sem, z0, z1, z2]) rfl ⟨rfl, zb⟩
end Go.Proofs.YteibjmlimcpaoaaGreatDoor.W

set_option linter.unusedVariables false
set_option linter.unusedSimpArgs false
namespace Go.Proofs.YteibjmlimcpaoaaGreatDoor.W
open Go.RowKit Go.Sort

set_option maxRecDepth 100000 in
set_option maxHeartbeats 2000000 in
theorem dtoldW (dp kind B p : Nat) (fq rq : Option Addr) (recs : Wn) (VT : Value) (l : List Tw) (w : World) (hl : l.length ≤ 16) (hB : B ≤ w.heap.size) (hd : DirAt dp kind fq rq recs VT w) (ht : TabsAt B p l VT w) :
    Calls Tryz.prog 77 #[.pointer (some ⟨dp, 0, none⟩)] w fun e w' => ∃ V, e = .returned V ∧ w'.ownsRow w.heap.size 74 3 V l.length (tcells (l.map tabOf)) ∧ Below w.heap.size w w' := by
  obtain ⟨i0, hi, hz0, hz1, hz2⟩ := info_parts infoT
  have x5 := cellsAt hd 5
  simp only [List.getElem?_toArray, List.getElem?_cons_zero, List.getElem?_cons_succ] at x5
  obtain ⟨ao, cap, rfl⟩ := own_slice ht
  have HT := Lib.hid ht
  clear hd ht
  go_enter Tryz.func77, Tryz.ntmps77
  go_wp2
  clear x5
  go_loopw [3, 11] (fun os is wr => ∃ (k : Nat), is = .int .i64 (k : Int) ∧ k ≤ l.length ∧ Below w.heap.size w wr ∧ wr.ownsRow w.heap.size 74 3 os k (tcells ((l.take k).map tabOf))) (fun _ is _ => l.length - (intOf is).toNat)
  case atStart => exact ⟨0, rfl, Nat.zero_le _, Below.refl _ _, World.ownsRow_nil _ _ _ _⟩
  case round =>
    obtain ⟨k, rfl, hk, hbw, hown⟩ := hrel
    by_cases hklt : k < l.length
    · obtain ⟨t, htk⟩ : ∃ t, l[k]? = some t := ⟨_, List.getElem?_eq_getElem hklt⟩
      have own1 := own_any HT.out hbw
      obtain ⟨g, cap', cs, hve, hbg, hg⟩ := own_form own1 (by omega)
      cases hve
      obtain ⟨c0, c1, c2, c3, c4, c5⟩ := tab_cells own1 k t htk
      have ik : (k : Int) < (l.length : Int) := by omega
      have ik0 : (0 : Int) ≤ (k : Int) := by omega
      have htake : (l.take (k + 1)).map tabOf = (l.take k).map tabOf ++ [tabOf t] := by
        rw [List.take_add_one, htk]
        simp
      have HK := Lib.hid htake
      have htab : tcells [tabOf t] = [.string ⟨t.tag.toArray⟩, .int .i64 (t.st : Int), .int .i64 (t.size : Int)] := rfl
      have HB := Lib.hid htab
      have hsz := hbw.size
      unfold strV at c0
      clear htake htab own1 hg htk
      obtain ⟨oa, oc, rfl⟩ := own_slice hown
      generalize ByteArray.mk t.tag.toArray = Y at *
      obtain ⟨W2, hW2⟩ : ∃ W2, wr.alloc (.cells #[.string Y, .int .i64 (t.st : Int), .int .i64 (t.size : Int), .pointer (some ⟨p, 0, none⟩), .int .i64 (t.v.b : Int), .int .i64 (t.v.s : Int)] 133) = W2 := ⟨_, rfl⟩
      have b2 : Below w.heap.size w W2 := by rw [← hW2]; exact hbw.alloc hsz _
      have own2 : W2.ownsRow w.heap.size 74 3 (.slice oa k oc) k (tcells ((l.take k).map tabOf)) := by rw [← hW2]; exact own_any hown (below_alloc _ _)
      have n2 : W2.heap[wr.heap.size]? = some (.cells #[.string Y, .int .i64 (t.st : Int), .int .i64 (t.size : Int), .pointer (some ⟨p, 0, none⟩), .int .i64 (t.v.b : Int), .int .i64 (t.v.s : Int)] 133 (0, 0)) := by rw [← hW2]; exact new_at _ _
      have y0 := cellsAt n2 0
      have y1 := cellsAt n2 1
      have y2 := cellsAt n2 2
      simp only [List.getElem?_toArray, List.getElem?_cons_zero, List.getElem?_cons_succ] at y0 y1 y2
      go_wp2_with (at_builtin; refine wpList_append_own _ rfl _ _ 30 rfl w.heap.size 74 i0 (.agg #[.string ⟨#[]⟩, .int .i64 0, .int .i64 0]) 3 32 Tryz.underlying30 hi hz0 hz1 hz2 rfl (by decide) _ _ _ rfl (own2.alloc _) ⟨W2.heap.size, 0, none⟩ 1 1 [.string Y, .int .i64 (t.st : Int), .int .i64 (t.size : Int)] rfl rfl (newCells _ _ _) (fun x hx => by simp at hx; rcases hx with rfl | rfl | rfl <;> rfl) (by unfold maxLen; omega) (by omega) (by have := b2.size; simp; omega) ?_; intro v' w3 hown' hgrow3 hnil3; refine Hid.out ?_)
      have own3 : w3.ownsRow w.heap.size 74 3 v' (k + 1) (tcells ((l.take (k + 1)).map tabOf)) := by
        rw [HK.out, tcells_append, HB.out]
        exact hown'
      have b3 : Below w.heap.size w w3 := (b2.alloc b2.size _).grown hgrow3 (by have := b2.size; simp; omega) (fun j hj => (own2.lt j hj).1)
      clear hown' hgrow3 hnil3 own2 b2 n2 y0 y1 y2
      refine Lib.hid ?_
      go_wp2
      exact ⟨⟨k + 1, by go_num, by omega, b3, own3⟩, by simp [intOf]; omega⟩
    · have hkn : k = l.length := by omega
      have ik : ¬ ((k : Int) < (l.length : Int)) := by omega
      rw [List.take_of_length_le (by omega)] at hown
      obtain ⟨oa, oc, rfl⟩ := own_slice hown
      rw [hkn] at hown
      have HO := Lib.hid hown
      clear hown
      go_wp2
      go_ret
      exact ⟨_, rfl, HO.out, hbw⟩
end Go.Proofs.YteibjmlimcpaoaaGreatDoor.W
